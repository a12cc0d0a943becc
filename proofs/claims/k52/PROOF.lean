import PyProof.Rows.All
import Wide.All
import OpenK.AllK
import Wide.FinOn
import Lean
import PyProof.EqAt
import PyProof.EqKinds
import PyProof.TupleCall
import PyProof.NeKinds
import KE.KSortAsk
import PySem.SetTable
import PyProof.SetKind
import PyProof.TupleKey
import PyProof.IsRules
import PyProof.DictKinds
import PyProof.FactsAll.set
import PyProof.RangeIter
import PyProof.Seq
import PyProof.ForAny
import PyProof.WalksMore
import PyProof.CollectWalk
import PyProof.CollectIter
import PyProof.WalksS
import PyProof.Rows.SetFrom
import KE.KSortTup
import PyProof.Draws
import PyProof.Rows.Range3
import PyProof.DictRoadsH
import PyProof.DictTruth
import PyProof.DictItems
import PyProof.Rows.TupDisplay
import PyProof.Rows.SeqMore
import PyProof.ExcClass2
import PyProof.InstSpecial
import PyProof.RaisesMany
import PyProof.Rows.Own
import KE.KTryDeep
import PyProof.InstStoreFacts
import PyProof.ExcArgs
import PyProof.SetRoads
import PyProof.Rows.CallKwBuiltin
import KE.KMinKey
import KE.BitLaws
import PySem.Challenge.RW_coverclocks_k52_whole_far_counts
set_option Elab.async false
set_option linter.all false
set_option maxRecDepth 100000
set_option maxHeartbeats 6400000
namespace PySem.W.Fast
def tw10076931975132039798:=0
def tw10395757127634050397:=0
def tw10426651360655181440:=0
def tw10634276578338260075:=0
def tw1084770686049906718:=0
def tw10866266647680171649:=0
def tw11218823105227280781:=0
def tw11461386506269941585:=0
def tw11535516961630310715:=0
def tw11722341824143419898:=0
def tw11898575316653237514:=0
def tw11932682592466323970:=0
def tw11944081779319711470:=0
def tw12125137603388056136:=0
def tw1252475052534418229:=0
def tw1254990017766007607:=0
def tw12562369278769924602:=0
def tw12947607887690819305:=0
def tw13613476457969386190:=0
def tw13670614474484296201:=0
def tw13693912721697901131:=0
def tw13926133106246187554:=0
def tw14236415438207715709:=0
def tw14730437287602312388:=0
def tw14846782602691526142:=0
def tw15146360398185011327:=0
def tw15276873216558771189:=0
def tw15396079187689599371:=0
def tw15594038349057894911:=0
def tw15673509912455093768:=0
def tw15683491495005600133:=0
def tw15929480646316173339:=0
def tw16056081154782593:=0
def tw16117746579618290691:=0
def tw16420318298516628641:=0
def tw16480045665793659014:=0
def tw16522639482350421120:=0
def tw16722977035003228388:=0
def tw16787134063613412075:=0
def tw16791546124343674465:=0
def tw1692891212348431572:=0
def tw1693571101269269228:=0
def tw17038854421975410103:=0
def tw17109174372161300300:=0
def tw17226008616207269481:=0
def tw17317864145445913844:=0
def tw1752287189819521438:=0
def tw17668133429127096480:=0
def tw17701628590797268446:=0
def tw17853426077951697847:=0
def tw17925132815120480465:=0
def tw1858222180706233562:=0
def tw1953147749027095762:=0
def tw2097820349893411661:=0
def tw2098345063788645683:=0
def tw2346199435914524375:=0
def tw2533003679878967800:=0
def tw2844296762049664363:=0
def tw2881666860571729929:=0
def tw3076403878448488332:=0
def tw3165584208810170865:=0
def tw3263929570696161791:=0
def tw3758845698213497861:=0
def tw37707398760484851:=0
def tw411387502207751378:=0
def tw4305709786513234226:=0
def tw4403278042558035485:=0
def tw449434696919899019:=0
def tw4551442817916516063:=0
def tw4611467515219403443:=0
def tw4759973647239640494:=0
def tw5133165018251439729:=0
def tw5209511694367385:=0
def tw5423725402602419460:=0
def tw5477515607514351183:=0
def tw553633140946674651:=0
def tw5601757566691542570:=0
def tw576506433106720933:=0
def tw5784612850491065125:=0
def tw5919685472440331627:=0
def tw5960702040458152271:=0
def tw5994002740918734680:=0
def tw6229950293626565740:=0
def tw6451170199772071592:=0
def tw6569141000240608334:=0
def tw6604057863328597504:=0
def tw6774113949684083523:=0
def tw6781087667758542924:=0
def tw6941808679264747119:=0
def tw7250595135021781553:=0
def tw7301707431573806255:=0
def tw7316774419395382980:=0
def tw7326060736667600304:=0
def tw7365572846351628074:=0
def tw7542352673944515788:=0
def tw7743182240578312936:=0
def tw8406322622187320896:=0
def tw8847366322001324701:=0
def tw8876885809085926367:=0
def tw8989488165331536834:=0
def tw9125265222723491445:=0
def tw9482105835590748535:=0
def tw9645953913802832054:=0
def tw9974387541212226609:=0
def tw10052777985148444304:=0
def tw10919038578286920306:=0
def tw11697329403399730563:=0
def tw11911450932636760438:=0
def tw12041385120693738621:=0
def tw12115873163738108098:=0
def tw12218710423346722476:=0
def tw12399576393674096566:=0
def tw12660845765629595918:=0
def tw12731192722269827447:=0
def tw13104893225945317487:=0
def tw13489341485384209385:=0
def tw14014976230769030805:=0
def tw14232669822796120076:=0
def tw14374751522452910799:=0
def tw15026122404023725676:=0
def tw17289992476891887147:=0
def tw17453873936233627502:=0
def tw1752623304237997572:=0
def tw17793433254727923831:=0
def tw1788076250794880942:=0
def tw1974111559171572184:=0
def tw2042128290026294986:=0
def tw2060333050150818932:=0
def tw2880696170320621696:=0
def tw3322752981788152511:=0
def tw3523290783950166425:=0
def tw3900141865615827605:=0
def tw4338896613680367457:=0
def tw4551361361838016293:=0
def tw5009661160746271065:=0
def tw5164774219757422109:=0
def tw5235088635251086230:=0
def tw6241824397397650825:=0
def tw665728781293233585:=0
def tw6824473683285779041:=0
def tw7476802125723075038:=0
def tw8312125645941812740:=0
def tw9072645917919029069:=0
def tw9260509971815461463:=0
def tw9315428458729554095:=0
def tw9436306261220037373:=0
def tw10537699101709444184:=0
def tw10974999854373694462:=0
def tw11195606155419459154:=0
def tw11518775365918220593:=0
def tw12395429866683861852:=0
def tw12712170207315761718:=0
def tw12815668096184188598:=0
def tw13332683693973389066:=0
def tw13750506236379972270:=0
def tw13754957446039412269:=0
def tw13869503622380726999:=0
def tw14297365904601786568:=0
def tw14576724135171767725:=0
def tw14830521534201002993:=0
def tw15415675221817281600:=0
def tw15415718568679132491:=0
def tw15755978871124151238:=0
def tw16390748042856826943:=0
def tw16574176990285152744:=0
def tw17788360164843679486:=0
def tw18113457424330507593:=0
def tw1904134024536152585:=0
def tw1972365993749747481:=0
def tw2649349328879309010:=0
def tw3393746880651468918:=0
def tw3671775152910200401:=0
def tw3940413754935572378:=0
def tw3940844828468366299:=0
def tw4187671668239350333:=0
def tw550724282316248796:=0
def tw6256671629147862654:=0
def tw6322092040626698383:=0
def tw6547995218993219159:=0
def tw7050495926101952486:=0
def tw7857202927549190530:=0
def tw7946382266179335384:=0
def tw9169164719966052263:=0
def tw9651471542532573189:=0
def tw12663642502250239239:=0
def tw14145006132290797250:=0
def tw14539480009940424252:=0
def tw6131482519293128516:=0
def tw6724975101475674187:=0
def tw7128622126581425032:=0
def tw10056275353642689951:=0
def tw13704388894104669506:=0
def tw5680189081277530903:=0
def tw8645398128325683120:=0
def tw10622682724590336914:=0
def tw16333788181543234364:=0
def tw3785027691917378064:=0
end PySem.W.Fast
open Array renaming getElem?_toList->aR,getElem?_eq_some_iff->br,length_toList->fj,getElem?_eq_none_iff->iK,getElem?_eq_getElem->iY,getD->lg,toList->oz,toList_filterMap->pG,toList_extract->qG,mem_toList_iff->qH,forIn_toList->r0
open Bool renaming false_ne_true->ao,false_eq_true->cZ,and_eq_true->df,eq_iff_iff->gO,and_true->qP
open Classical renaming byContradiction->aD
open False renaming elim->gb
open ForInStep renaming yield->gN
open Int renaming toNat_natCast->aU,toNat_of_nonneg->bw,emod_lt_of_pos->bY,dvd_mul_of_dvd_right->cf,mul_ediv_add_emod->ck,emod_nonneg->cm,natCast_dvd_natCast->cC,natCast_nonneg->cY,dvd_sub->di,natCast_mul->dw,emod_eq_emod_iff_emod_sub_eq_zero->dz,natCast_ediv->eo,mul_comm->eV,mul_assoc->fc,dvd_trans->fe,mul_le_mul_of_nonneg_left->ff,lt_of_le_of_lt->fE,natAbs_dvd_natAbs->fJ,dvd_mul_right->fU,natCast_emod->gw,mul_sub->gR,le_trans->ie,one_mul->iL,mul_one->iM,ediv_nonneg->iW,natAbs_natCast->jm,emod_eq_zero_of_dvd->jC,ediv_eq_iff_of_pos->jZ,zero_add->kY,mul_le_mul_of_nonneg_right->kZ,dvd_add->lZ,emod_eq_of_lt->m9,natCast_add->oO,pow_succ->rY,ofNat_le->rZ,sub_mul->sQ,mul_neg->sR
open List renaming length_map->ξ,size_toArray->υ,range->Δ,mem_cons_of_mem->Θ,mem_cons_self->Ψ,length_append->aa,getElem?_map->ag,map_cons->aq,getElem?_eq_getElem->ar,replicate->av,getElem?_eq_some_iff->aw,length_cons->ax,mem_cons->az,mem_range->aH,map_congr_left->aM,mem_map->aP,getD_eq_getElem?_getD->bp,map_append->bB,mem_append_right->bD,map_map->bH,mem_of_getElem?->bN,sum_cons->bS,mem_singleton->cH,mem_append->cI,getElem?_eq_none_iff->cL,replicate_succ->cM,mem_of_mem_eraseIdx->cQ,getElem?_eq_none->cR,append_nil->cU,filter_append->cW,length_take->de,getElem?_range->dq,getElem?_of_mem->dD,length_eq_zero_iff->dG,nodup_cons->dN,nil_append->dO,getElem?_append_right->dW,not_mem_nil->dY,filter_cons->dZ,getElem?_append_left->eF,length->eJ,sum_append->eR,mem_append_left->eS,find?_cons->eU,pairwise_map->eZ,append_assoc->e7,find?_eq_none->fD,length_singleton->fH,length_replicate->fI,length_range->fR,flatten_cons->fS,pairwise_iff_getElem->fZ,lookup_cons->gr,length_drop->gs,find?_range_eq_some->gu,eraseIdx_eq_take_drop_succ->gB,getElem?_replicate->gD,take_of_length_le->gQ,filter_congr->g6,ext_getElem?->g7,take_append_drop->ia,length_filter_le->ib,isEmpty_map->iA,all_eq_true->iB,mem_of_find?_eq_some->iT,drop_eq_getElem_cons->iU,zip_cons_cons->ji,toArray->jj,getD->jk,nodup_nil->jv,getElem?_set_self->jW,filter_eq_nil_iff->jX,drop_eq_nil_of_le->jY,map_take->j8,map_drop->j9,getElem?_zipWith->ko,map_uncurry_zip_eq_zipWith->ku,range_succ->kP,of_mem_zip->kQ,mem_of_mem_take->kR,length_zip->kS,length_nil->kT,getElem?_set_ne->kU,forIn_cons->kW,eq_nil_of_length_eq_zero->lh,length_zipWith->ly,filter_eq_self->lA,filterMap_cons->lB,countP_eq_length_filter->lO,mem_filterMap->mx,getElem?_drop->my,length_eraseIdx_of_lt->mP,take_sublist->m8,getElem?_zip_eq_some->ny,take_length->oi,nodup_range->oj,map_nil->om,getElem?_take_of_lt->oo,filterMap_cons_some->oq,filter_cons_of_pos->oA,filter_cons_of_neg->oB,mem_filter->oM,foldl_cons->oN,zipWith_cons_cons->pB,range_succ_eq_map->pC,getElem_cons_drop->pD,forIn_nil->pW,nodup_iff_count->qD,mem_map_of_mem->qQ,getD_cons_zero->qR,getD_cons_succ->qS,zipWith->rS,map_filterMap->rT,getElem_range->rV,filterMap_map->rW,all_map->rX,foldl->uh
open List.Pairwise renaming nil->sy,map->sC
open List.cons renaming injEq->ui
open Nat renaming le_refl->Γ,le_trans->ae,zero_le->aB,ne_of_lt->aX,lt_of_lt_of_le->aY,lcm->aZ,gcd->bj,pow_le_pow_right->bM,lt_irrefl->cz,mod_lt->dU,lt_of_le_of_lt->eD,ne_of_gt->eP,mul_comm->eQ,le_add_right->fk,le_of_dvd->fP,mul_pos->gg,gcd_dvd_left->gp,gcd_comm->gq,lt_succ_of_lt->gZ,dvd_mul_right->g0,pow_succ->hZ,mul_le_mul_right->iy,lt_succ_self->iz,div_eq_of_eq_mul_right->iJ,div_add_mod->iS,lt_trans->jh,le_mul_of_pos_right->jA,gcd_pos_of_pos_left->jB,gcd_dvd_right->jL,mul_assoc->j7,dvd_mul_left->ki,mul_le_mul_left->lu,mul_le_mul->lN,lcm_pos->lV,lcm_dvd->lW,gcd_rec->lX,gcd_zero_right->mv,add_sub_cancel->mw,dvd_trans->mO,mul_div_assoc->m6,dvd_lcm_right->m7,succ_pos->nX,mod_eq_of_lt->nY,min_self->nZ,le_of_lt->og,dvd_lcm_left->oh,div_le_self->oK,le_mul_of_pos_left->pA,zero_add->rR,one_mul->sO,le_succ->sP
open Ne renaming symm->eY
open Option renaming getD_none->tR,map->ug
open Option.some renaming inj->aJ
open Or renaming inr->mr,inl->nW
open PyProof renaming noPylong_small->pz
open PyProof.Rows renaming slot_tuple_getitem->cA,callWith_type1->cV,IntsAre->gi,AllBare->kr,get?_update_seq->kL,assignInOrder_cons->mn,listUpdate_at->mN,IsTup->nz,SortKind->nV,seqEpoch_at->pk,boot_range->qB
open PyProof.Rows.F renaming plain_set_update_loop->fC,entry_set_update_loop->jg
open PySem renaming wpAny_bind->γ,Value->δ,Addr->ε,Shared->η,wpAny_pure->ι,Expr->π,wpAny->ρ,Str->ψ,sizeLine->aj,Heap->ay,FuncData->aE,Program->aG,Spec->aI,Pos->aL,Obj->aN,World->aQ,Stmt->aS,mainGlobals->bt,SetTable->bF,wpAny_newObj_type->bI,starEach->bJ,wpAny_setField_rec->bQ,Around->bT,wpAny_call_entry->bW,wpAny_callSpecial?_slot->bZ,wpAny_field->cn,wpAny_holding->cp,sizeLine_eq->cy,wpAny_setState_of->cO,wpAny_seqItems->dC,Builtin->dP,wpAny_typeNameOfWhole_itemiter->eN,wpAny_pyIter_list->eX,mem_of_lookup->fi,NameKind->fm,wpAny_mono->fw,wpAny_passesOwn->fG,wpAny_typeNameOf_itemiter->fY,bootBuiltins->gn,IsPair->gv,wpAny_pyIter_tuple->gK,codeAny_builtin->gL,Scope->gM,wpAny_truthy_bool->gX,Env->ir,IsItemIter->iC,wpAny_attempt->iI,wpAny_typeOf->jd,wpAny_pyIter_slot->jK,wpAny_of_eq->jT,wpAny_isOneOf_itemiter->jU,wpAny_standAt->j5,IsZip->ka,wpAny_isInstance->kf,wpAny_forIn_list->kg,Operator->kh,codeAny->kn,wpAny_updateSeq_pair->kI,wpAny_rule->kJ,wpAny_execs_nil->kK,codeAny_mono->kM,IsPart->kX,wpAny_newTuple->lK,IsRangeIter->lY,wpAny_pyIter_range->mj,wpAny_Call_Name_kw->ml,PassesOwn->mq,DictEntry->mz,wpAny_onRaise->mL,plainId_quiet->mM,wpAny_dictEntries->mY,call_meets->nu,wpAny_comprehension_free->nR,wpAny_askSetting->nS,noFill_tuple_add->nT,concat_meets->nU,wpAny_dictEpoch->oI,wpAny_letGo->pf,seqIndex_of->pj,wpAny_setField->pN,wpAny_fieldsOf->pO,isSubtype_type->pP,isSubtype_stop->pQ,entryFor_alias->pR,SetTable->pS,Keyword->pX,BindsTo->pZ,wpAny_newList->qK,wpAny_handled->qL,seq_tuple_add->qM,IsItemIterOut->qO,call->ue
open PySem.Around renaming under_plainId->gf
open PySem.Builtin.Dict renaming showsAll->pY
open PySem.Builtin.Dict_items renaming ownsTuple->ig,ownedTupleIsFree->jw,ownedTupleFields->jx,pairFromOwner->kj
open PySem.Builtin.Frozenset renaming slot0->oC
open PySem.Builtin.Int renaming intBits->iP
open PySem.Builtin.List renaming listTooLong->gy,listExtendWith->mC,listSameRef->ox
open PySem.Builtin.Range renaming rangeSize->ba,small->iO
open PySem.Builtin.Slice renaming slicePlaces->gd,sliceAdjust->iX,sliceApplied->mS
open PySem.Builtin.SmallTypes renaming nextOf->cx,ownedTupleIsFree->dE,ownedTupleHandOut->jn
open PySem.Builtin.Tuple renaming tupleExact->gx,tupleItemsOf->mR
open PySem.Calls renaming callWith_builtin->j0,spliced_cons->mB,Name_function_global->mQ,evalArgs_plain->qF,spliced_nil->sE
open PySem.Data renaming cell->kq,fields->ma
open PySem.F renaming args_tuple_add_2->je,entry_tuple_add->jz,slot_tuple_add->jV,type_list_pop->pT,slot_list_pop->pU,slot_dict_get->pV
open PySem.Heap renaming get?_push_of_some->ν,get?_push_size->Φ,lt_size->Ω,SameBut->cJ,size_push->eE,get?_update_other->fx,get?_update_self->fK,IsTuple->ou,IsList->pF,get?_push_cases->qE,ExtBut->sS
open PySem.Heap.IsList renaming push->tS
open PySem.Heap.IsTuple renaming push->sD
open PySem.Heap.SameBut renaming update->cN
open PySem.IsRange renaming new->pE
open PySem.NameKind renaming free->cG,cell->qN
open PySem.Obj renaming mapSeq->bA,putSet->nv
open PySem.PassesOwn renaming never->bE
open PySem.SeqAt.RcAt renaming lists_lengths->rQ
open PySem.SetTable renaming insertAt->bP,grown->hJ,below->hU,sizeAbove->mo
open PySem.Shared renaming heap->gP,TypeIs->j6
open PySem.Str renaming ofString->eO,empty->iq
open PySem.Value renaming ref->aV,none->b6,isInt_shape->gY,bool->kN,int->oJ,type->qC,isInt->sN
open PySem.W renaming Frag->ζ,mg_of->ah,mg_none_of->bX,nsIn->cv,kia_one->du,kitOne->gh,keepIn->hV,fnOf->hX,kas_ask->lL,codeIn->lM,methodObj->mZ,kitx_list->m5,cellsFrom_some->pq,kitx_dict->sx,OpenLaw->uf
open PySem.W.KasT renaming kasWp_bind->iV
open Sum renaming inr->nA,inl->nB
open True renaming intro->kO
namespace L2
open PySem PySem.Spec PyProof.Rows
abbrev Key:=Sum Int ψ
def Dr:Key->δ->Bool
 |.inl k,v=>sN k v
 |.inr x,v=>δ.isStrOf x v
def Xb(w:aQ):Key->Int
 |.inl k=>hashInt k
 |.inr x=>hashStr w x
theorem qc:∀{k:Key} {v:δ},Dr k v=true->(∃i t,k=nB i/\v=oJ i t)∨(∃x t,k=nA x/\v=δ.str x t)
 |.inl i,v,h=>by
  obtain⟨t,e⟩:=gY (k:=i) (v:=v) h;exact .inl ⟨i,t,rfl,e⟩
 |.inr x,v,h=>by
  obtain⟨t,e⟩:=δ.isStrOf_shape (x:=x) (v:=v) h;exact .inr ⟨x,t,rfl,e⟩
theorem Ug(a b:Int):decide ((nB a:Key)=nB b)=(a==b):=by
 by_cases e:a=b
 ·subst e;simp
 ·have h:¬(nB a:Key)=nB b:=fun q=>e (nB.inj q);rw[decide_eq_false h];exact (beq_eq_false_iff_ne.mpr e).symm
theorem Ue(a b:ψ):decide ((nA a:Key)=nA b)=decide (a=b):=by
 by_cases e:a=b
 ·subst e;simp
 ·have h:¬(nA a:Key)=nA b:=fun q=>e (nA.inj q);rw[decide_eq_false h,decide_eq_false e]
theorem Ud(a:Int)(b:ψ):decide ((nB a:Key)=nA b)=false:=decide_eq_false (fun q=>nomatch q)
theorem Uc(a:ψ)(b:Int):decide ((nA a:Key)=nB b)=false:=decide_eq_false (fun q=>nomatch q)
def uP(prog:aG)(w:aQ):PySem.KeyKind prog w Key where
 is:=Dr
 hash:=Xb w
 inj:=fun v a b ha hb=>by
  rcases qc ha with⟨i,t,rfl,rfl⟩|⟨x,t,rfl,rfl⟩
  ·rcases qc hb with⟨j,u,rfl,e⟩|⟨y,u,rfl,e⟩
   ·injection e with e1 _;rw[e1]
   ·exact nomatch e
  ·rcases qc hb with⟨j,u,rfl,e⟩|⟨y,u,rfl,e⟩
   ·exact nomatch e
   ·injection e with e1 _;rw[e1]
 byValue:=fun k v h=>by
  rcases qc h with⟨i,t,rfl,rfl⟩|⟨x,t,rfl,rfl⟩<;>rfl
 pyHash:=fun hv h=>by
  rcases qc hv with⟨i,t,rfl,rfl⟩|⟨x,t,rfl,rfl⟩
  ·exact wpAny_pyHash_int h
  ·exact wpAny_pyHash_str h
 eqBool:=fun hu hv h=>by
  rcases qc hu with⟨i,t,rfl,rfl⟩|⟨x,t,rfl,rfl⟩
  ·rcases qc hv with⟨j,u,rfl,rfl⟩|⟨y,u,rfl,rfl⟩
   ·rw[Ug] at h;exact wpAny_eqBool_int h
   ·rw[Ud] at h;exact SeqAt.EqAt.int_str i t y u _ _ _ _ h
  ·rcases qc hv with⟨j,u,rfl,rfl⟩|⟨y,u,rfl,rfl⟩
   ·rw[Uc] at h;exact SeqAt.EqAt.str_int x t j u _ _ _ _ h
   ·rw[Ue] at h;exact wpAny_eqBool_str h
 «strs»:=fun k x t v h=>by
  rcases qc h with⟨i,u,rfl,e⟩|⟨y,u,rfl,e⟩
  ·exact nomatch e
  ·injection e with e1 _;subst e1;cases v<;>rfl
end L2
namespace L2
open PySem PySem.Spec PyProof.Rows
inductive V where
 |ak|bl (b:Bool)|int (i:Int)|str (x:ψ)|AG (b:Array UInt8)|JQ (b:UInt64)|ref (a:ε)|ty (n:String)
 deriving DecidableEq
def RelV:V->δ->Prop
 |.ak,u=>u=b6
 |.bl b,u=>u=kN b
 |.int i,u=>∃t,u=oJ i t
 |.str x,u=>∃t,u=δ.str x t
 |.AG b,u=>∃t,u=δ.bytes b t
 |.JQ b,u=>∃t,u=δ.float b t
 |.ref a,u=>u=aV a
 |.ty n,u=>u=qC n
abbrev bh:List V->List δ->Prop:=Paired RelV
theorem bh.length{xs:List V}{us:List δ}(r:bh xs us):xs.length=us.length:=Paired.length r
theorem bh.get:∀{xs:List V} {us:List δ} {i:Nat} {x:V},bh xs us->xs[i]?=some x->∃u,us[i]?=some u/\RelV x u
 |_,_,_,_,.nil,e=>by simp at e
 |_,_,0,_,.cons r _,e=>by simp at e;subst e;exact⟨_,rfl,r⟩
 |_,_,i+1,x,.cons _ t,e=>by
  obtain⟨u,h1,h2⟩:=bh.get (i:=i) (x:=x) t (by simpa using e);exact⟨u,by simpa using h1,h2⟩
theorem bh.set{x:V}{u:δ}(r:RelV x u):∀{xs:List V} {us:List δ} (i:Nat),bh xs us->bh (xs.set i x) (us.set i u)
 |_,_,_,.nil=>.nil
 |_,_,0,.cons _ t=>.cons r t
 |_,_,i+1,.cons q t=>.cons q (bh.set r i t)
theorem bh.append:∀{xs ys:List V} {us ws:List δ},bh xs us->bh ys ws->bh (xs++ys) (us++ws)
 |_,_,_,_,.nil,s=>s
 |_,_,_,_,.cons r t,s=>.cons r (bh.append t s)
theorem bh.take:∀{xs:List V} {us:List δ} (n:Nat),bh xs us->bh (xs.take n) (us.take n)
 |_,_,0,_=>.nil
 |_,_,_+1,.nil=>.nil
 |_,_,n+1,.cons r t=>.cons r (bh.take n t)
theorem bh.drop:∀{xs:List V} {us:List δ} (n:Nat),bh xs us->bh (xs.drop n) (us.drop n)
 |_,_,0,r=>r
 |_,_,_+1,.nil=>.nil
 |_,_,n+1,.cons _ t=>bh.drop n t
def JZ:Option V->Option δ->Prop
 |some v,some u=>RelV v u
 |none,none=>True
 |_,_=>False
def KV{κ:Type}:List (κ×V)->List (κ×δ)->Prop:=Paired fun (p:κ×V) (q:κ×δ)=>p.1=q.1/\RelV p.2 q.2
def kV:Key->V
 |.inl i=>.int i
 |.inr x=>.str x
inductive HO where
 |lst (xs:List V)
 |tup (xs:List V)
 |dK (kvs:List (Key×V))|dT (kvs:List (List Key×V))
 |set (S:Int->Bool) (n:Nat)
 |ins (C dx:ε) (fs:List (ψ×V))
 |own (x:ε)
 |xd (fs:List (ψ×V))
 |met (f x:ε)
 |C2 (lo hi:Int)
 |gI (o:aN) (u:HO)
 |u7 (ps:Array δ)
 |ext (φ:ay->Prop)
abbrev Hp:=ε->Option HO
def upd(H:Hp)(a:ε)(o:HO):Hp:=fun b=>if b=a then some o else H b
theorem g8{H:Hp}{a:ε}{o:HO}:upd H a o a=some o:=by unfold upd;rw[if_pos rfl]
theorem dR{H:Hp}{a b:ε}{o:HO}(h:b≠a):upd H a o b=H b:=by unfold upd;rw[if_neg h]
theorem lH{H:Hp}{a b:ε}{o:HO}(h:H a=some o)(h':H b=none):a≠b:=by
 intro e;subst e;rw[h] at h';cases h'
def jS(h:ay)(a:ε)(items:Array δ):Prop:=∃o,h.get? a=some o/\o.cls=.type "tuple"/\(∃n,o.data=.seq items n)/\o.dict=none
theorem jS.tup{h:ay}{a:ε}{items:Array δ}(x:jS h a items):nz h a items:=let ⟨o,h1,h2,h3,_⟩:=x;⟨o,h1,h2,h3⟩
theorem jS.new(h:ay)(items:Array δ):jS (h.push { cls:=.type "tuple",data:=.seq items }) h.objs.size items:=⟨_,Φ _ rfl,rfl,⟨_,rfl⟩,rfl⟩
theorem jS.lt{h:ay}{a:ε}{items:Array δ}(x:jS h a items):a<h.objs.size:=let ⟨_,ho,_⟩:=x;Ω ho
section
variable (P:aG) (w:aQ)
def fu(H:Hp)(h:ay)(a:ε):HO->Prop
 |.lst xs=>xs.length≤aj/\∃(its:List δ) (n:Nat),bh xs its/\h.get? a=some { cls:=.type "list",data:=.seq its.toArray n }
 |.tup xs=>xs.length≤aj/\∃its:List δ,bh xs its/\jS h a its.toArray
 |.dK kvs=>kvs.length≤aj/\(a==sysModules)=false/\∃vs,KV kvs vs/\h.DictOf (uP P w) a vs
 |.dT kvs=>kvs.length≤aj/\(a==sysModules)=false/\∃xs:List (List Key×ε×δ),
   Paired (fun (p:List Key×V) (q:List Key×ε×δ)=>p.1=q.1/\H q.2.1=some (.tup (p.1.map kV))/\RelV p.2 q.2.2) kvs xs ∧
   ∃o es ep,h.get? a=some o/\o.ExactDict/\o.data=.dict es ep/\es.toList=xs.map (entryOfKey (tupleKind (uP P w)))/\(xs.map (·.1)).Nodup
 |.set S n=>h.SetOf (intKind P w) a S n
 |.ins C dx fs=>H dx=some (.own a)/\fs.length≤1000/\dx≠a/\h.get? a=some (PySem.W.instObj C dx) ∧
   ∃mA,h.Ns1 dx mA/\(∀f,JZ (fs.lookup f) (mA f))/\PySem.Within mA (fs.map (·.1))
 |.own _=>∃o,h.get? a=some o
 |.xd fs=>∃mA,h.Ns1 a mA/\∀f,JZ (fs.lookup f) (mA f)
 |.C2 lo hi=>∃t u v,h.get? a=some { cls:=.type "range",data:=.fields #[.int lo t,.int hi u,.int 1 v]}
 |.gI o u=>h.get? a=some o/\fu H h a u
 |.u7 ps=>h.get? a=some { cls:=.none,data:=.fields ps }
 |.met f x=>h.get? a=some (mZ (.ref f) (.ref x))
 |.ext φ=>φ h/\(∃o,h.get? a=some o)/\∀h1 h2:ay,φ h1->(∀o,h1.get? a=some o->h2.get? a=some o)->φ h2
def jb(H:Hp)(h:ay):Prop:=∀a o,H a=some o->fu P w H h a o
end
section
variable {P:aG} {w:aQ} {H H':Hp} {h h':ay} {a:ε} {o:HO}
theorem fu.lt(x:fu P w H h a o):a<h.objs.size:=by
 cases o with
 |lst xs=>obtain⟨_,_,_,_,e⟩:=x;exact Ω e
 |tup xs=>obtain⟨_,_,_,p⟩:=x;exact p.lt
 |dK kvs=>obtain⟨_,_,_,_,o,_,_,e,_⟩:=x;exact Ω e
 |dT kvs=>obtain⟨_,_,_,_,o,_,_,e,_⟩:=x;exact Ω e
 |set S n=>obtain⟨o,_,_,_,e,_⟩:=x;exact Ω e
 |ins C dx fs=>obtain⟨_,_,_,e,_⟩:=x;exact Ω e
 |own y=>obtain⟨_,e⟩:=x;exact Ω e
 |xd fs=>obtain⟨_,⟨_,_,_,e,_⟩,_⟩:=x;exact Ω e
 |C2 lo hi=>obtain⟨_,_,_,e⟩:=x;exact Ω e
 |gI ob u=>obtain⟨e,_⟩:=x;exact Ω e
 |u7 ps=>exact Ω (show h.get? a=some _ from x)
 |met f y=>exact Ω (show h.get? a=some _ from x)
 |ext φ=>obtain⟨_,⟨_,e⟩,_⟩:=x;exact Ω e
theorem Paired.JA{α β:Type}{F G:α->β->Prop}:∀{l₁:List α} {l₂:List β},Paired F l₁ l₂->(∀a b,F a b->G a b)->Paired G l₁ l₂
 |_,_,.nil,_=>.nil
 |_,_,.cons r t,f=>.cons (f _ _ r) (Paired.JA t f)
theorem fu.sV(x:fu P w H h a o)(k:∀b u,(b=a∨H b=some (.own a))->h.get? b=some u->h'.get? b=some u)
  (ho:∀b,H b=some (.own a)->H' b=some (.own a)) (ht:∀b xs,H b=some (.tup xs)->H' b=some (.tup xs)):fu P w H' h' a o:=by
 induction o with
 |lst xs=>obtain⟨z,its,n,r,e⟩:=x;exact⟨z,its,n,r,k _ _ (.inl rfl) e⟩
 |tup xs=>obtain⟨z,its,r,ob,e,c⟩:=x;exact⟨z,its,r,ob,k _ _ (.inl rfl) e,c⟩
 |dK kvs=>obtain⟨z,y,vs,r,ob,es,ep,e,c⟩:=x;exact⟨z,y,vs,r,ob,es,ep,k _ _ (.inl rfl) e,c⟩
 |dT kvs=>
  obtain⟨z,y,xs,r,ob,es,ep,e,c⟩:=x;exact⟨z,y,xs,Paired.JA r fun p q z=>⟨z.1,ht _ _ z.2.1,z.2.2⟩,ob,es,ep,k _ _ (.inl rfl) e,c⟩
 |set S n=>obtain⟨ob,es,ep,t,e,c⟩:=x;exact⟨ob,es,ep,t,k _ _ (.inl rfl) e,c⟩
 |ins C dx fs=>
  obtain⟨d,z,ne,e,mA,⟨od,es,ep,e2,c⟩,r⟩:=x;exact⟨ho _ d,z,ne,k _ _ (.inl rfl) e,mA,⟨od,es,ep,k _ _ (.inr d) e2,c⟩,r⟩
 |own y=>obtain⟨ob,e⟩:=x;exact⟨ob,k _ _ (.inl rfl) e⟩
 |xd fs=>obtain⟨mA,⟨od,es,ep,e,c⟩,r⟩:=x;exact⟨mA,⟨od,es,ep,k _ _ (.inl rfl) e,c⟩,r⟩
 |C2 lo hi=>obtain⟨t,u,v,e⟩:=x;exact⟨t,u,v,k _ _ (.inl rfl) e⟩
 |gI ob u ih=>obtain⟨e,q⟩:=x;exact⟨k _ _ (.inl rfl) e,ih q⟩
 |u7 ps=>
  have e:h.get? a=some { cls:=.none,data:=.fields ps }:=x;show h'.get? a=some { cls:=.none,data:=.fields ps };exact k a _ (.inl rfl) e
 |met f y=>
  have e:h.get? a=some (mZ (.ref f) (.ref y)):=x;show h'.get? a=some (mZ (.ref f) (.ref y));exact k a _ (.inl rfl) e
 |ext φ=>obtain⟨p,⟨o,e⟩,st⟩:=x;exact⟨st _ _ p fun o q=>k _ _ (.inl rfl) q,⟨o,k _ _ (.inl rfl) e⟩,st⟩
theorem jb.lt(x:jb P w H h)(e:H a=some o):a<h.objs.size:=(x a o e).lt
theorem jb.fresh(x:jb P w H h)(e:h.objs.size≤a):H a=none:=by
 cases q:H a with
 |none=>rfl
 |some u=>exact absurd (aY (x.lt q) e) (cz _)
theorem jb.kept(x:jb P w H h)(k:∀b u,h.get? b=some u->h'.get? b=some u):jb P w H h':=fun a o e=>
 (x a o e).sV (fun b u _ q=>k b u q) (fun _ q=>q) fun _ _ q=>q
theorem jb.laid(x:jb P w H h)(k:∀b u,h.get? b=some u->h'.get? b=some u)(hp:h.objs.size≤a)(new:fu P w (upd H a o) h' a o):jb P w (upd H a o) h':=fun b u e=>by
 have hn:=x.fresh hp;by_cases hb:b=a
 ·subst hb;rw[g8] at e;cases e;exact new
 ·rw[dR hb] at e;exact (x b u e).sV (fun c v _ q=>k c v q) (fun c q=>by rw[dR (lH q hn)];exact q) fun c xs q=>by rw[dR (lH q hn)];exact q
end
def Rd(H:Hp)(a:ε)(u:HO):Prop:=H a=some u∨∃o,H a=some (.gI o u)
theorem Rd.ok{P:aG}{w:aQ}{H:Hp}{h:ay}{a:ε}{u:HO}(r:Rd H a u)(x:jb P w H h):fu P w H h a u:=by
 rcases r with r|⟨o,r⟩
 ·exact x a u r
 ·obtain⟨_,q⟩:=x a _ r;exact q
def AK:Option HO->Prop
 |some (.lst _)=>True
 |some (.dK _)=>True
 |some (.dT _)=>True
 |some (.set _ _)=>True
 |some (.ins _ _ _)=>True
 |some (.ext _)=>True
 |_=>False
section
variable {P:aG} {w:aQ} {H:Hp} {h h':ay} {x e:ε} {o':HO}
theorem jb.write(ok:jb P w H h)(mu:AK (H x))(he:e=x∨H e=some (.own x))(k:∀b u,b≠e->h.get? b=some u->h'.get? b=some u)(heo:∃u,h'.get? e=some u)
  (new:fu P w (upd H x o') h' x o'):jb P w (upd H x o') h':=fun b u q=>by
 have nown:∀c y,H c=some (.own y)->c≠x:=fun c y r z=>by subst z;rw[r] at mu;exact mu
 have ntup:∀c xs,H c=some (.tup xs)->c≠x:=fun c xs r z=>by subst z;rw[r] at mu;exact mu
 by_cases hb:b=x
 ·subst hb;rw[g8] at q;cases q;exact new
 ·rw[dR hb] at q;by_cases hbe:b=e
  ·have q':H b=some (.own x):=by
    rcases he with z|z
    ·exact absurd (hbe.trans z) hb
    ·rw[hbe];exact z
   rw[q] at q';cases q';obtain⟨v,hv⟩:=heo;exact⟨v,by rw[hbe];exact hv⟩
  ·refine (ok b u q).sV (fun c v hc r=>k c v ?_ r) (fun c r=>by rw[dR (nown c b r)];exact r) fun c xs r=>by rw[dR (ntup c xs r)];exact r
   rcases hc with rfl|hc
   ·exact hbe
   ·rintro rfl;rcases he with z|z
    ·exact nown c b hc z
    ·rw[hc] at z;cases z;exact hb rfl
end
structure Un(fs ex:List ε)(H H':Hp)(h h':ay):Prop where
 keep:∀b o,h.get? b=some o->H b=none->b∉fs->b∉ex->h'.get? b=some o
 slot:∀b o,h.get? b=some o->H b=none->b∈fs->b∉ex->∃sl,h'.get? b=some { o with slots:=sl }
 free:∀b o,h.get? b=some o->H b=none->b∉ex->H' b=none
 there:∀b o,h.get? b=some o->b∉ex->∃o',h'.get? b=some o'
 mD:∀b xs,H b=some (.tup xs)->H' b=some (.tup xs)
 qq:∀b o u,H b=some (.gI o u)->H' b=some (.gI o u)
 qU:∀b ps,H b=some (.u7 ps)->∃more,H' b=some (.u7 (ps++more))
section
variable {fs fs' ex ex':List ε} {H H1 H2:Hp} {h h1 h2 h':ay} {a x e:ε} {o:HO}
theorem Un.any(u:Un fs ex H H1 h h1){b:ε}{ob:aN}(q:h.get? b=some ob)(n:H b=none)(hx:b∉ex):∃sl,h1.get? b=some { ob with slots:=sl }:=by
 by_cases hb:b∈fs
 ·exact u.slot b ob q n hb hx
 ·exact⟨ob.slots,u.keep b ob q n hb hx⟩
theorem Un.kept(k:∀b u,h.get? b=some u->h'.get? b=some u):Un fs ex H H h h':=
 ⟨fun b ob q _ _ _=>k b ob q,fun b ob q _ _ _=>⟨ob.slots,k b ob q⟩,fun _ _ _ n _=>n,fun b ob q _=>⟨ob,k b ob q⟩,fun _ _ q=>q,fun _ _ _ q=>q,fun _ ps q=>⟨#[],by rw[q];simp⟩⟩
theorem Un.refl:Un fs ex H H h h:=Un.kept fun _ _ q=>q
theorem Un.laid(k:∀b u,h.get? b=some u->h'.get? b=some u)(hp:h.objs.size≤a)(hn:H a=none):Un fs ex H (upd H a o) h h' where
 keep:=fun b u q _ _ _=>k b u q
 slot:=fun b u q _ _ _=>⟨u.slots,k b u q⟩
 free:=fun b u q n _=>by rw[dR (aX (aY (Ω q) hp))];exact n
 there:=fun b u q _=>⟨u,k b u q⟩
 mD:=fun b xs q=>by rw[dR (lH q hn)];exact q
 qq:=fun b u xs q=>by rw[dR (lH q hn)];exact q
 qU:=fun b ps q=>⟨#[],by rw[dR (lH q hn),q];simp⟩
theorem Un.write(mu:AK (H x))(he:e=x∨H e=some (.own x))(k:∀b u,b≠e->h.get? b=some u->h'.get? b=some u)(heo:∃u,h'.get? e=some u):Un fs ex H (upd H x o) h h':=by
 have hx:∀b,H b=none->b≠x:=fun b n z=>by subst z;rw[n] at mu;exact mu
 have hb:∀b,H b=none->b≠e:=fun b n z=>by
  subst z;rcases he with r|r
  ·exact hx b n r
  ·rw[n] at r;cases r
 have hm:∀b u,H b=some u->¬AK (some u)->b≠x:=fun b u q nm z=>by subst z;rw[q] at mu;exact nm mu
 refine⟨fun b u q n _ _=>k b u (hb b n) q,fun b u q n _ _=>⟨u.slots,k b u (hb b n) q⟩,fun b u q n _=>by rw[dR (hx b n)];exact n,fun b u q _=>?_,
  fun b xs q=>by rw[dR (hm b _ q fun z=>z)];exact q,fun b u xs q=>by rw[dR (hm b _ q fun z=>z)];exact q,fun b ps q=>⟨#[],by rw[dR (hm b _ q fun z=>z),q];simp⟩⟩
 by_cases hbe:b=e
 ·subst hbe;exact heo
 ·exact⟨u,k b u hbe q⟩
end
def nC(h:ay)(H:Hp):List ε:=(Δ h.objs.size).filter fun a=>(H a).isSome
def qo(h:ay)(H:Hp):ay:=PySem.W.hideAll h (nC h H)
theorem Ub(h:ay)(H:Hp):(qo h H).objs.size=h.objs.size:=PySem.W.hideAll_size _ _
theorem Ua{h:ay}{H:Hp}{b:ε}{o:aN}(e:h.get? b=some o)(n:H b=none):(qo h H).get? b=some o:=
 PySem.W.hideAll_get _ e fun hm=>by
  have q:(H b).isSome=true:=(oM.mp hm).2;rw[n] at q;simp at q
theorem T9{h:ay}{H:Hp}{b:ε}{o:aN}(e:(qo h H).get? b=some o):h.get? b=some o/\H b=none:=by
 have e':h.get? b=some o:=PySem.W.of_hideAll (nC h H) e;refine⟨e',?_⟩;cases q:H b with
 |none=>rfl
 |some x=>
  have hm:b∈nC h H:=oM.mpr ⟨aH.mpr (Ω e'),by simp[q]⟩;have z:(qo h H).get? b=none:=PySem.W.hideAll_none (nC h H) hm;rw[z] at e;cases e
end L2
namespace L2
open PySem PySem.Spec PyProof.Rows
structure Mod(K:ζ)(mg:ψ->Option δ)(base:ay):Prop where
 Dq:K.In base
 glob:base.Ns bt mg
 blt:∃mb,base.Ns builtinsNs mb/\∀x:ψ,x≠"__name__"->mb x=gn x
 nolimit:base.NoLimit
structure Cx where
 prog:aG
 w:aQ
 K:ζ
 mg:ψ->Option δ
 base:ay
 A:bT
 N:List ψ
 s₀:η
 H₀:Hp
 env:ir
 outer:List ir
 stack:List ir
 ex:List ε
 fn:ψ->Bool
 calm:Bool
 pn:List (ε×aN)
 xe:δ->η->Prop
def rG(l:List ir):List ε:=l.filterMap (·.frame)
abbrev Cx.fs(X:Cx):List ε:=rG X.outer
def DB(sc:gM)(x:ψ):Prop:=sc.names.lookup x=some .local∨sc.names.lookup x=some .cell∨sc.names.lookup x=some .free
def Loc(sc:gM)(x:ψ):Prop:=sc.names.lookup x=some .local∨sc.names.lookup x=some .cell
def Look(env:ir)(h:ay)(m:ψ->Option δ)(x:ψ)(u:δ):Prop:=
 (env.kindOf x=some .local/\m x=some u)∨((env.kindOf x=some .cell∨env.kindOf x=some .free)/\∃c,env.cells.lookup x=some c/\h.IsCell c (some u))
structure Cx.Ok(X:Cx):Prop where
 mod:Mod X.K X.mg X.base
 kind:X.env.scope.kind=.function
 glob:X.env.globals=bt
 blt:X.env.builtins=builtinsNs
 above:X.s₀.heap.objs.size≤X.env.locals
 inj:∀x y c,X.env.cells.lookup x=some c->X.env.cells.lookup y=some c->x=y
 has:∀x,(X.env.kindOf x=some .cell∨X.env.kindOf x=some .free)->∃c,X.env.cells.lookup x=some c
 xw:∀x c,X.fn x=true->X.env.cells.lookup x=some c->X.s₀.heap.objs.size≤c
 hd:X.calm=true->X.A.handled=none
 frames:X.A.frames=some X.stack
 Al:X.stack=X.outer∨(X.stack=X.env::X.outer/\X.env.frame=some X.env.locals)
 AE:∀b∈X.ex,b≠X.env.locals/\∀x c,X.env.cells.lookup x=some c->c≠b
 bs:∀b o,X.base.get? b=some o->X.s₀.heap.get? b=some o/\X.H₀ b=none
 t7:X.base.objs.size≤X.s₀.heap.objs.size
 tI:∀b o,X.base.get? b=some o->b∉X.ex
 uT:∀b∈X.ex,b∉X.fs
 mK:X.s₀.heap.FunFrames X.base X.outer
 wX:∀b∈X.fs,X.H₀ b=none
structure Inv(X:Cx)(pins:List (ε×aN))(σ:List (Option V))(H:Hp)(s:η):Prop where
 ok:X.Ok
 os:s.os=X.s₀.os
 bare:kr s.gens
 base:Un X.fs X.ex X.H₀ H X.s₀.heap s.heap
 loc:∃m,s.heap.Ns X.env.locals m/\∀(i:Nat) (x:ψ) (v:V),X.N[i]?=some x->σ[i]?=some (some v)->DB X.env.scope x->∃u,RelV v u/\Look X.env s.heap m x u
 cell:∀x c,X.env.cells.lookup x=some c->∃v,s.heap.IsCell c v
 free:H X.env.locals=none
 lR:∀x c,X.env.cells.lookup x=some c->H c=none
 pin:∀p∈X.pn++pins,s.heap.get? p.1=some p.2/\H p.1=none/\p.1≠X.env.locals/\p.1∉X.fs/\∀v,p.2.data≠.cell v
 cq:jb X.prog X.w H s.heap
 len:σ.length=X.N.length
section
variable {X:Cx} {pins:List (ε×aN)} {σ:List (Option V)} {H H':Hp} {s:η} {h':ay}
theorem Cx.Ok.W2(ok:X.Ok){b:ε}{o:aN}(e:X.base.get? b=some o):b∉X.fs:=fun hb=>by
 have:=(ok.mK.mem hb).1;rw[e] at this;cases this
theorem Inv.bs(I:Inv X pins σ H s):∀b o,X.base.get? b=some o->s.heap.get? b=some o/\H b=none:=fun b o e=>
 ⟨I.base.keep b o (I.ok.bs b o e).1 (I.ok.bs b o e).2 (I.ok.W2 e) (I.ok.tI b o e),I.base.free b o (I.ok.bs b o e).1 (I.ok.bs b o e).2 (I.ok.tI b o e)⟩
theorem Inv.bk(I:Inv X pins σ H s):∀b o,X.base.get? b=some o->s.heap.get? b=some o:=fun b o e=>(I.bs b o e).1
theorem Inv.mod(I:Inv X pins σ H s):Mod X.K X.mg X.base:=I.ok.mod
theorem Inv.mU(I:Inv X pins σ H s):X.K.In s.heap:=I.ok.mod.Dq.keeps I.bk
theorem Inv.lt(I:Inv X pins σ H s):X.env.locals<s.heap.objs.size:=let ⟨_,hn,_⟩:=I.loc;hn.lt
theorem Inv.sz(I:Inv X pins σ H s):X.s₀.heap.objs.size≤s.heap.objs.size:=ae I.ok.above (og I.lt)
theorem Inv.W1(I:Inv X pins σ H s){a:ε}(h:s.heap.objs.size≤a):a∉X.fs:=fun hb=>by
 obtain⟨_,o,ho,_⟩:=I.ok.mK.mem hb;exact absurd (aY (Ω ho) (ae I.sz h)) (cz _)
theorem Inv.w6(I:Inv X pins σ H s):∀x c,X.env.cells.lookup x=some c->c≠X.env.locals:=fun x c e z=>by
 obtain⟨v,o,ho,hd⟩:=I.cell x c e;obtain⟨m,⟨o',es,ep,ho',hd',_⟩,_⟩:=I.loc;rw[z,ho'] at ho;cases ho;rw[hd'] at hd;cases hd
theorem Inv.mK(I:Inv X pins σ H s):s.heap.FunFrames X.base X.outer:=by
 have all:∀(l:List ir),(∀b∈rG l,b∈X.fs)->X.s₀.heap.FunFrames X.base l->s.heap.FunFrames X.base l:=by
  intro l
  induction l with
  |nil=>intro _ _;trivial
  |cons env r ih=>
   intro hs hl;obtain⟨hk,⟨L,o,hf,hn,ho,hd⟩,hr⟩:=hl;have hL:L∈X.fs:=hs L (by unfold rG;rw[lB,hf];exact Ψ);obtain⟨sl,e⟩:=I.base.slot L o ho (I.ok.wX L hL) hL fun z=>I.ok.uT L z hL;exact⟨hk,⟨L,_,hf,hn,e,hd⟩,ih (fun b hb=>hs b (by unfold rG;rw[lB,hf];exact Θ _ hb)) hr⟩
 exact all X.outer (fun _ hb=>hb) I.ok.mK
theorem Inv.stack(I:Inv X pins σ H s):s.heap.FunFrames X.base X.stack:=by
 rcases I.ok.Al with e|⟨e,hf⟩
 ·rw[e];exact I.mK
 ·rw[e];obtain⟨m,hn,_⟩:=I.loc;refine .cons (by rw[I.ok.kind];decide) hf hn ?_ I.mK;exact ay.get?_none_of_le (ae I.ok.t7 I.ok.above)
theorem Inv.vK(I:Inv X pins σ H s):∀b∈rG X.stack,b∈X.env.locals::X.fs:=fun b hb=>by
 rcases I.ok.Al with e|⟨e,hf⟩
 ·rw[e] at hb;exact Θ _ hb
 ·rw[e] at hb;unfold rG at hb;rw[lB,hf] at hb;exact hb
theorem Inv.xl(I:Inv X pins σ H s):∀b∈rG X.stack,H b=none:=fun b hb=>by
 rcases az.mp (I.vK b hb) with e|hb
 ·rw[e];exact I.free
 ·obtain⟨_,o,ho,_⟩:=I.ok.mK.mem hb;exact I.base.free b o ho (I.ok.wX b hb) fun z=>I.ok.uT b z hb
theorem Inv.step{g':Array GenState}{t':Nat}{d':Drawn}{ch:List ε}(I:Inv X pins σ H s)
  (sG:∀b∈ch,(b∈X.ex∨X.s₀.heap.objs.size≤b)/\b≠X.env.locals/\(∀x c,X.env.cells.lookup x=some c->c≠b)/\∀p∈X.pn++pins,p.1≠b)
  (keep:∀b o,b≠X.env.locals->b∉X.fs->b∉ch->s.heap.get? b=some o->H b=none->h'.get? b=some o)
  (slot:∀b o,b≠X.env.locals->b∈X.fs->b∉ch->s.heap.get? b=some o->H b=none->∃sl,h'.get? b=some { o with slots:=sl }) (free:∀b o,b∉ch->s.heap.get? b=some o->H b=none->H' b=none)
  (there:∀b o,b∉ch->s.heap.get? b=some o->∃o',h'.get? b=some o')
  (mD:∀b xs,H b=some (.tup xs)->H' b=some (.tup xs)) (qq:∀b o u,H b=some (.gI o u)->H' b=some (.gI o u)) (qU:∀b ps,H b=some (.u7 ps)->∃more,H' b=some (.u7 (ps++more)))
  (ns:∀m,s.heap.Ns X.env.locals m->h'.Ns X.env.locals m) (cq:jb X.prog X.w H' h') (hg:kr g'):
  Inv X pins σ H' { s with heap:=h',gens:=g',drawn:=d',toks:=t' }:=by
 have neL:∀b o,X.s₀.heap.get? b=some o->b≠X.env.locals:=fun b o e=>aX (aY (Ω e) I.ok.above);have neC:∀b o,X.s₀.heap.get? b=some o->b∉X.ex->b∉ch:=fun b o e hx hb=>by
  rcases (sG b hb).1 with z|z
  ·exact hx z
  ·exact absurd (aY (Ω e) z) (cz _)
 have cellK:∀x c,X.env.cells.lookup x=some c->∀v,s.heap.IsCell c v->h'.IsCell c v:=fun x c e v ⟨o,ho,hd⟩=>by
  have nch:c∉ch:=fun z=>(sG c z).2.2.1 x c e rfl;by_cases hc:c∈X.fs
  ·obtain⟨sl,q⟩:=slot c o (I.w6 x c e) hc nch ho (I.lR x c e);exact⟨_,q,hd⟩
  ·exact⟨o,keep c o (I.w6 x c e) hc nch ho (I.lR x c e),hd⟩
 refine⟨I.ok,I.os,hg,⟨fun b o e n hb hx=>?_,fun b o e n hb hx=>?_,fun b o e n hx=>?_,fun b o e hx=>?_,fun b xs e=>mD b xs (I.base.mD b xs e),fun b o xs e=>qq b o xs (I.base.qq b o xs e),fun b ps e=>?_⟩,?_,fun x c e=>?_,?_,fun x c e=>?_,fun p hp=>?_,cq,I.len⟩
 ·exact keep b o (neL b o e) hb (neC b o e hx) (I.base.keep b o e n hb hx) (I.base.free b o e n hx)
 ·obtain⟨sl,e1⟩:=I.base.slot b o e n hb hx;obtain⟨sl',e2⟩:=slot b _ (neL b o e) hb (neC b o e hx) e1 (I.base.free b o e n hx);exact⟨sl',e2⟩
 ·obtain⟨o',e1⟩:=I.base.there b o e hx;exact free b o' (neC b o e hx) e1 (I.base.free b o e n hx)
 ·obtain⟨o',e1⟩:=I.base.there b o e hx;exact there b o' (neC b o e hx) e1
 ·obtain⟨m1,e1⟩:=I.base.qU b ps e;obtain⟨m2,e2⟩:=qU b _ e1;exact⟨m1++m2,by rw[e2,Array.append_assoc]⟩
 ·obtain⟨m,hn,hl⟩:=I.loc;refine⟨m,ns m hn,fun i x v e1 e2 e3=>?_⟩;obtain⟨u,r,l⟩:=hl i x v e1 e2 e3;refine⟨u,r,?_⟩;rcases l with l|⟨k,c,e,z⟩
  ·exact .inl l
  ·exact .inr ⟨k,c,e,cellK x c e _ z⟩
 ·obtain⟨v,z⟩:=I.cell x c e;exact⟨v,cellK x c e v z⟩
 ·obtain⟨m,⟨o,_,_,ho,_⟩,_⟩:=I.loc;exact free _ o (fun z=>(sG _ z).2.1 rfl) ho I.free
 ·obtain⟨v,o,ho,hd⟩:=I.cell x c e;exact free c o (fun z=>(sG c z).2.2.1 x c e rfl) ho (I.lR x c e)
 ·obtain⟨e,n,ne,nf,d⟩:=I.pin p hp;have nch:p.1∉ch:=fun z=>(sG p.1 z).2.2.2 p hp rfl;exact⟨keep p.1 p.2 ne nf nch e n,free p.1 p.2 nch e n,ne,nf,d⟩
theorem Inv.un{t':Nat}(I:Inv X pins σ H s)(u:Un X.fs [] H H' s.heap h')(cq:jb X.prog X.w H' h'):Inv X pins σ H' { s with heap:=h',toks:=t' }:=by
 obtain⟨m,⟨o,es,ep,ho,r⟩,_⟩:=id I.loc;obtain⟨sl,hL⟩:=u.any ho I.free (by simp);exact I.step (g':=s.gens) (d':=s.drawn) (ch:=[]) (fun _ z=>nomatch z) (fun b o _ hb _ e n=>u.keep b o e n hb (by simp)) (fun b o _ hb _ e n=>u.slot b o e n hb (by simp)) (fun b o _ e n=>u.free b o e n (by simp)) (fun b o _ e=>u.there b o e (by simp)) u.mD u.qq u.qU (fun m' hm=>by
  obtain⟨o',es',ep',ho',r'⟩:=hm;rw[ho] at ho';cases ho';exact⟨_,es',ep',hL,r'⟩) cq I.bare
theorem Inv.call{g':Array GenState}{t':Nat}{d':Drawn}{ch:List ε}(I:Inv X pins σ H s)(u:Un (rG X.stack) ch H H' s.heap h')(cq:jb X.prog X.w H' h')(hg:kr g')
  (sG:∀b∈ch,(b∈X.ex∨X.s₀.heap.objs.size≤b)/\b≠X.env.locals/\(∀x c,X.env.cells.lookup x=some c->c≠b)/\∀p∈X.pn++pins,p.1≠b):
  Inv X pins σ H' { s with heap:=h',gens:=g',drawn:=d',toks:=t' }:=by
 obtain⟨m,⟨o,es,ep,ho,r⟩,_⟩:=id I.loc;obtain⟨sl,hL⟩:=u.any ho I.free fun z=>(sG _ z).2.1 rfl;exact I.step (ch:=ch) sG (fun b o hL hb hc e n=>u.keep b o e n (fun z=>(az.mp (I.vK b z)).elim hL hb) hc) (fun b o _ _ hc e n=>u.any e n hc) (fun b o hc e n=>u.free b o e n hc) (fun b o hc e=>u.there b o e hc) u.mD u.qq u.qU (fun m' hm=>by
  obtain⟨o',es',ep',ho',r'⟩:=hm;rw[ho] at ho';cases ho';exact⟨_,es',ep',hL,r'⟩) cq hg
theorem Inv.turned{t':Nat}{it:ε}(I:Inv X pins σ H s)(k:∀b o,b≠it->s.heap.get? b=some o->h'.get? b=some o)(hn:H it=none)(hL:it≠X.env.locals)
  (h1:it∈X.ex∨X.s₀.heap.objs.size≤it) (h2:∀x c,X.env.cells.lookup x=some c->c≠it) (h3:∀p∈X.pn++pins,p.1≠it):Inv X pins σ H { s with heap:=h',toks:=t' }:=by
 have nit:∀b u,H b=some u->b≠it:=fun b u e z=>by rw[z,hn] at e;cases e
 refine I.step (g':=s.gens) (d':=s.drawn) (ch:=[it]) (fun b hb=>?_) (fun b o _ _ hc e _=>k b o (fun z=>hc (by simp[z])) e) (fun b o _ _ hc e _=>⟨o.slots,k b o (fun z=>hc (by simp[z])) e⟩) (fun _ _ _ _ n=>n)
  (fun b o hc e=>⟨o,k b o (fun z=>hc (by simp[z])) e⟩) (fun _ _ e=>e) (fun _ _ _ e=>e) (fun b ps e=>⟨#[],by rw[e];simp⟩) (fun m hm=>?_) (fun b u e=>?_) I.bare
 ·have e:b=it:=by simpa using hb
  subst e;exact⟨h1,hL,h2,h3⟩
 ·obtain⟨o,es,ep,ho,r⟩:=hm;exact⟨o,es,ep,k _ o (eY hL) ho,r⟩
 ·refine (I.cq b u e).sV (fun c v hc q=>k c v ?_ q) (fun _ q=>q) fun _ _ q=>q;rcases hc with z|z
  ·rw[z];exact nit b u e
  ·exact nit c _ z
theorem Inv.tok(I:Inv X pins σ H s)(t:Nat):Inv X pins σ H { s with toks:=t }:=I.un (h':=s.heap) (t':=t) Un.refl I.cq
theorem Inv.kept{t':Nat}(I:Inv X pins σ H s)(k:∀b u,s.heap.get? b=some u->h'.get? b=some u):Inv X pins σ H { s with heap:=h',toks:=t' }:=I.un (Un.kept k) (I.cq.kept k)
theorem Inv.laid{a:ε}{o:HO}{t':Nat}(I:Inv X pins σ H s)(k:∀b u,s.heap.get? b=some u->h'.get? b=some u)(hp:s.heap.objs.size≤a)(new:fu X.prog X.w (upd H a o) h' a o):
  Inv X pins σ (upd H a o) { s with heap:=h',toks:=t' }:=I.un (Un.laid k hp (I.cq.fresh hp)) (I.cq.laid k hp new)
theorem Inv.write{x e:ε}{o:HO}{t':Nat}(I:Inv X pins σ H s)(mu:AK (H x))(he:e=x∨H e=some (.own x))(k:∀b u,b≠e->s.heap.get? b=some u->h'.get? b=some u)(heo:∃u,h'.get? e=some u)
  (new:fu X.prog X.w (upd H x o) h' x o):Inv X pins σ (upd H x o) { s with heap:=h',toks:=t' }:=I.un (Un.write mu he k heo) (I.cq.write mu he k heo new)
theorem Inv.xp{pins':List (ε×aN)}(I:Inv X pins σ H s)(h:∀p∈pins',s.heap.get? p.1=some p.2/\H p.1=none/\p.1≠X.env.locals/\p.1∉X.fs/\∀v,p.2.data≠.cell v):Inv X pins' σ H s:=
 ⟨I.ok,I.os,I.bare,I.base,I.loc,I.cell,I.free,I.lR,fun p hp=>(cI.mp hp).elim (fun z=>I.pin p (eS _ z)) (h p),I.cq,I.len⟩
theorem Jh{N:List ψ}(hN:N.Nodup){i j:Nat}{x:ψ}(a:N[i]?=some x)(b:N[j]?=some x):i=j:=by
 obtain⟨h1,e1⟩:=aw.mp a;obtain⟨h2,e2⟩:=aw.mp b;exact (List.getElem_inj hN).mp (e1.trans e2.symm)
theorem Jg{M:Model}{A:bT}{E:δ->η->Prop}{i:Nat}{x:ψ}{v:V}{u:δ}{Q:Unit->η->Prop}(I:Inv X pins σ H s)(hN:X.N.Nodup)(hi:X.N[i]?=some x)(hx:Loc X.env.scope x)(r:RelV v u)
  (h:∀s',Inv X pins (σ.set i (some v)) H s'->(∃a,cJ a s.heap s'.heap/\(a=X.env.locals∨X.env.cells.lookup x=some a))->Q () s') (hf:X.fn x=true∨X.env.scope.names.lookup x=some .local:=by first|exact .inl rfl|exact .inr rfl|assumption):ρ M A (storeName X.env x u) Q E s:=by
 obtain⟨m,hn,hl⟩:=id I.loc;have hcls:(X.env.scope.kind==.class||(X.env.scope.kind==.module&&X.env.locals != X.env.globals))=false:=by rw[I.ok.kind];rfl
 have hiσ:i<σ.length:=by rw[I.len];exact (aw.mp hi).1
 have w6:=I.w6;have tracked:∀{a:ε} {h':ay},(∃o,s.heap.get? a=some o/\H a=none)->cJ a s.heap h'->jb X.prog X.w H h':=fun {a h'} ha hs b ob e=>by
  obtain⟨_,_,hfree⟩:=ha;refine (I.cq b ob e).sV (fun c w' hc q=>(hs.2 c ?_).trans q) (fun _ q=>q) fun _ _ q=>q;rintro rfl;rcases hc with rfl|hc
  ·rw[hfree] at e;cases e
  ·rw[hfree] at hc;cases hc
 rcases hx with hk|hk
 ·refine wpAny_storeName_local hk hn (fun h' hn' hs=>?_) hcls;obtain⟨oL,_,_,hoL,_⟩:=id hn;refine h _ ⟨I.ok,I.os,I.bare,⟨fun b o e n hb hx=>?_,fun b o e n hb hx=>?_,I.base.free,fun b o e hx=>?_,I.base.mD,I.base.qq,I.base.qU⟩,⟨_,hn',fun j y v' e1 e2 e3=>?_⟩,fun y c e=>?_,I.free,I.lR,fun p hp=>?_,tracked ⟨oL,hoL,I.free⟩ hs,by simpa using I.len⟩ ⟨_,hs,.inl rfl⟩
  ·exact (hs.2 b (aX (aY (Ω e) I.ok.above))).trans (I.base.keep b o e n hb hx)
  ·obtain⟨sl,e1⟩:=I.base.slot b o e n hb hx;exact⟨sl,(hs.2 b (aX (aY (Ω e) I.ok.above))).trans e1⟩
  ·obtain⟨o',e1⟩:=I.base.there b o e hx;exact⟨o',(hs.2 b (aX (aY (Ω e) I.ok.above))).trans e1⟩
  ·by_cases hj:j=i
   ·subst hj;rw[hi] at e1;cases e1;rw[jW hiσ] at e2;cases e2;exact⟨u,r,.inl ⟨hk,by simp⟩⟩
   ·rw[kU (eY hj)] at e2;obtain⟨u',r',q⟩:=hl j y v' e1 e2 e3;refine⟨u',r',?_⟩;rcases q with⟨k,e⟩|⟨k,c,e,z⟩
    ·refine .inl ⟨k,?_⟩;have:y≠x:=fun e=>hj (Jh hN e1 (e▸hi));simp[this,e]
    ·exact .inr ⟨k,c,e,z.sameBut hs (w6 y c e)⟩
  ·obtain⟨w',z⟩:=I.cell y c e;exact⟨w',z.sameBut hs (w6 y c e)⟩
  ·obtain⟨e,n,ne,nf,d⟩:=I.pin p hp;exact⟨(hs.2 p.1 ne).trans e,n,ne,nf,d⟩
 ·have hfn:X.fn x=true:=by
   rcases hf with z|z
   ·exact z
   ·rw[z] at hk;cases hk
  obtain⟨c,hc⟩:=I.ok.has x (.inl hk);obtain⟨w',z⟩:=I.cell x c hc;refine wpAny_storeName_cell I.ok.kind hk hc z (fun h' hc' hs=>?_);obtain⟨oc,hoc,hocd⟩:=id z;refine h { s with heap:=h' } ⟨I.ok,I.os,I.bare,⟨fun b o e n hb hx=>?_,fun b o e n hb hx=>?_,I.base.free,fun b o e hx=>?_,I.base.mD,I.base.qq,I.base.qU⟩,⟨m,hn.sameBut hs (eY (w6 x c hc)),fun j y v' e1 e2 e3=>?_⟩,fun y c' e=>?_,I.free,I.lR,fun p hp=>?_,tracked ⟨oc,hoc,I.lR x c hc⟩ hs,by simpa using I.len⟩ ⟨c,hs,.inr hc⟩
  ·exact (hs.2 b (aX (aY (Ω e) (I.ok.xw x c hfn hc)))).trans (I.base.keep b o e n hb hx)
  ·obtain⟨sl,e1⟩:=I.base.slot b o e n hb hx;exact⟨sl,(hs.2 b (aX (aY (Ω e) (I.ok.xw x c hfn hc)))).trans e1⟩
  ·obtain⟨o',e1⟩:=I.base.there b o e hx;exact⟨o',(hs.2 b (aX (aY (Ω e) (I.ok.xw x c hfn hc)))).trans e1⟩
  ·by_cases hj:j=i
   ·subst hj;rw[hi] at e1;cases e1;rw[jW hiσ] at e2;cases e2;exact⟨u,r,.inr ⟨.inl hk,c,hc,hc'⟩⟩
   ·rw[kU (eY hj)] at e2;obtain⟨u',r',q⟩:=hl j y v' e1 e2 e3;refine⟨u',r',?_⟩;rcases q with q|⟨k,c',e,z'⟩
    ·exact .inl q
    ·refine .inr ⟨k,c',e,z'.sameBut hs ?_⟩;rintro rfl;exact hj (Jh hN e1 (I.ok.inj _ _ _ e hc▸hi))
  ·by_cases hcc:c'=c
   ·subst hcc;exact⟨_,hc'⟩
   ·obtain⟨w2,z2⟩:=I.cell y c' e;exact⟨w2,z2.sameBut hs hcc⟩
  ·obtain⟨e,n,ne,nf,d⟩:=I.pin p hp;refine⟨(hs.2 p.1 ?_).trans e,n,ne,nf,d⟩;intro q;rw[q,hoc] at e;have q':oc=p.2:=aJ e;exact d w' (by rw[←q'];exact hocd)
theorem wC{M:Model}{A:bT}{E:δ->η->Prop}{i:Nat}{x:ψ}{v:V}{u:δ}{Q:Unit->η->Prop}(I:Inv X pins σ H s)(hN:X.N.Nodup)(hi:X.N[i]?=some x)(hx:Loc X.env.scope x)(r:RelV v u)
  (h:∀s',Inv X pins (σ.set i (some v)) H s'->Q () s') (hf:X.fn x=true∨X.env.scope.names.lookup x=some .local:=by first|exact .inl rfl|exact .inr rfl|assumption):ρ M A (storeName X.env x u) Q E s:=
 Jg I hN hi hx r (fun s' I' _=>h s' I') hf
theorem Inv.KN{s':η}{ch:List ε}(I:Inv X pins σ H s)(ho:s'.os=s.os)(u:Un (rG X.stack) ch H H' s.heap s'.heap)(cq:jb X.prog X.w H' s'.heap)(hg:kr s'.gens)
  (sG:∀b∈ch,(b∈X.ex∨X.s₀.heap.objs.size≤b)/\b≠X.env.locals/\(∀x c,X.env.cells.lookup x=some c->c≠b)/\∀p∈X.pn++pins,p.1≠b):Inv X pins σ H' s':=by
 obtain⟨h',g',d',t',o'⟩:=s';have e:o'=s.os:=ho;subst e;exact I.call (g':=g') (t':=t') (d':=d') u cq hg sG
end
abbrev XK:=δ->Option ε->Hp->Prop
abbrev St:=List (Option V)
abbrev VK:=V->Hp->Prop
abbrev TE:=St->Hp->VK->Prop
abbrev TT:=St->Hp->(Bool->Hp->Prop)->Prop
abbrev TA:=St->Hp->(List V->Hp->Prop)->Prop
structure Ends where
 nx:St->Hp->Prop
 rt:VK
 bk:St->Hp->Prop:=fun _ _=>False
 ct:St->Hp->Prop:=fun _ _=>False
abbrev TS:=Ends->St->Hp->Prop
def EP(X:Cx)(pins:List (ε×aN))(σ:St)(Q:VK)(u:δ)(s':η):Prop:=∃v H',Inv X pins σ H' s'/\RelV v u/\Q v H'
def TP(X:Cx)(pins:List (ε×aN))(σ:St)(Q:Bool->Hp->Prop)(b:Bool)(s':η):Prop:=∃H',Inv X pins σ H' s'/\Q b H'
def AP(X:Cx)(pins:List (ε×aN))(σ:St)(Q:List V->Hp->Prop)(us:List δ)(s':η):Prop:=∃vs H',Inv X pins σ H' s'/\bh vs us/\Q vs H'
def SP(X:Cx)(pins:List (ε×aN))(D:Ends)(f:Flow)(s':η):Prop:=
 match f with
 |.next=>∃σ' H',Inv X pins σ' H' s'/\D.nx σ' H'
 |.brk=>∃σ' H',Inv X pins σ' H' s'/\D.bk σ' H'
 |.cont=>∃σ' H',Inv X pins σ' H' s'/\D.ct σ' H'
 |.ret u=>∃v σ' H',Inv X pins σ' H' s'/\RelV v u/\D.rt v H'
def PE(X:Cx)(e:π)(t:TE):Prop:=
 ∀(pins:List (ε×aN)) (s:η) (σ:St) (H:Hp) (Q:VK),Inv X pins σ H s->t σ H Q->ρ (model X.prog X.w) X.A (eval e X.env) (EP X pins σ Q) X.xe s
def PT(X:Cx)(e:π)(t:TT):Prop:=
 ∀(pins:List (ε×aN)) (s:η) (σ:St) (H:Hp) (Q:Bool->Hp->Prop),Inv X pins σ H s->t σ H Q->ρ (model X.prog X.w) X.A (isTrue e X.env (eval e X.env)) (TP X pins σ Q) X.xe s
def PW(X:Cx)(e:π)(t:TT):Prop:=
 ∀(whole:Sem δ) (pins:List (ε×aN)) (s:η) (σ:St) (H:Hp) (Q:Bool->Hp->Prop),Inv X pins σ H s->t σ H Q->ρ (model X.prog X.w) X.A (isTrue e X.env whole) (TP X pins σ Q) X.xe s
theorem PW.pt{X:Cx}{e:π}{t:TT}(h:PW X e t):PT X e t:=h _
def PA(X:Cx)(es:List π)(t:TA):Prop:=
 ∀(pos:aL) (pins:List (ε×aN)) (s:η) (σ:St) (H:Hp) (Q:List V->Hp->Prop),Inv X pins σ H s->t σ H Q->ρ (model X.prog X.w) X.A (spliced (backTo pos (bJ es X.env))) (AP X pins σ Q) X.xe s
def PS(X:Cx)(st:aS)(t:TS):Prop:=
 ∀(pins:List (ε×aN)) (s:η) (σ:St) (H:Hp) (D:Ends),Inv X pins σ H s->t D σ H->ρ (model X.prog X.w) X.A (exec st X.env) (SP X pins D) X.xe s
def mW(X:Cx)(st:List aS)(t:TS):Prop:=
 ∀(pins:List (ε×aN)) (s:η) (σ:St) (H:Hp) (D:Ends),Inv X pins σ H s->t D σ H->ρ (model X.prog X.w) X.A (execs st X.env) (SP X pins D) X.xe s
theorem bL{α:Type}{t:Sem α}{Q Q':α->η->Prop}{M:Model}{A:bT}{E:δ->η->Prop}{s:η}(h:ρ M A t Q E s)(hQ:∀a s,Q a s->Q' a s):ρ M A t Q' E s:=fw h hQ fun _ _ x=>x
end L2
namespace L2
open PySem PySem.Spec PyProof.Rows
section
variable {X:Cx}
theorem bin{a b:π}{ta tb:TE}(ha:PE X a ta)(hb:PE X b tb){pins:List (ε×aN)}{s:η}{σ:St}{H:Hp}{R:V->V->Hp->Prop}(I:Inv X pins σ H s)(h:ta σ H fun x H1=>tb σ H1 fun y H2=>R x y H2)
  {α:Type} {Q:α->η->Prop} {f:δ->δ->Sem α}
  (hf:∀v u s2 x y H2,Inv X pins σ H2 s2->RelV x v->RelV y u->R x y H2->ρ (model X.prog X.w) X.A (f v u) Q X.xe s2):
  ρ (model X.prog X.w) X.A (eval a X.env) (fun v s₁=>ρ (model X.prog X.w) X.A (eval b X.env) (fun u s₂=>ρ (model X.prog X.w) X.A (f v u) Q X.xe s₂) X.xe s₁) X.xe s:=by
 refine bL (ha pins s σ H _ I h) fun v s1 ⟨x,H1,I1,r1,q1⟩=>?_;refine bL (hb pins s1 σ H1 _ I1 q1) fun u s2 ⟨y,H2,I2,r2,q2⟩=>?_;exact hf v u s2 x y H2 I2 r1 r2 q2
def xy(i:Nat):TE:=fun σ H Q=>∃v,σ[i]?=some (some v)/\Q v H
def tC(v:V):TE:=fun _ H Q=>Q v H
theorem Ur{i:Nat}{x:ψ}{pos:aL}(hN:X.N[i]?=some x)(hv:DB X.env.scope x)(hd:(x==("__debug__":ψ))=false:=by decide)(rF:(x==("__classdict__":ψ))=false:=by decide):PE X (.Name x pos) (xy i):=by
 intro pins s σ H Q I h;obtain⟨v,e,h⟩:=h;obtain⟨m,hn,hl⟩:=I.loc;obtain⟨u,r,l⟩:=hl i x v hN e hv;have fin:EP X pins σ Q u s:=⟨v,H,I,r,h⟩;rcases l with⟨hk,hm⟩|⟨hk,c,hc,hcell⟩
 ·exact wpAny_Name (wpAny_loadName_local I.ok.kind hk hn hm fin) hd
 ·rcases hk with hk|hk
  ·exact wpAny_Name (wpAny_loadName_cell I.ok.kind hk hc hcell fin) hd
  ·exact wpAny_Name (wpAny_loadName_free I.ok.kind hk hc hcell fin rF) hd
theorem Uq{i j pos}:PE X (.Constant (.int i) j pos) (tC (.int i)):=fun _ _ _ H _ I h=>wpAny_Constant_int ⟨.int i,H,I.tok _,⟨_,rfl⟩,h⟩
theorem Up{b j pos}:PE X (.Constant (.bool b) j pos) (tC (.bl b)):=fun _ _ _ H _ I h=>Constant_bool ⟨.bl b,H,I,rfl,h⟩
theorem Uo{j pos}:PE X (.Constant .none j pos) (tC .ak):=fun _ _ _ H _ I h=>Constant_none ⟨.ak,H,I,rfl,h⟩
def Gl(X:Cx)(x:ψ):Prop:=X.env.kindOf x=some .globalImplicit
theorem Jf{E:δ->η->Prop}{pins:List (ε×aN)}{s:η}{σ:St}{H:Hp}{x:ψ}{u:δ}{pos:aL}{Q:δ->η->Prop}(I:Inv X pins σ H s)(hg:Gl X x)(hm:X.mg x=some u)(h:Q u s)
  (hd:(x==("__debug__":ψ))=false:=by decide):ρ (model X.prog X.w) X.A (eval (.Name x pos) X.env) Q E s:=
 mQ I.ok.kind hg (Calls.loadGlobal_global (by rw[I.ok.glob];exact I.mod.glob.keeps I.bk) hm h) hd
theorem rA{E:δ->η->Prop}{pins:List (ε×aN)}{s:η}{σ:St}{H:Hp}{x:ψ}{u:δ}{pos:aL}{Q:δ->η->Prop}(I:Inv X pins σ H s)(hg:Gl X x)(hm:X.mg x=none)(hv:gn x=some u)(h:Q u s)
  (hn:x≠"__name__":=by decide) (hd:(x==("__debug__":ψ))=false:=by decide):ρ (model X.prog X.w) X.A (eval (.Name x pos) X.env) Q E s:=by
 obtain⟨mb,h1,h2⟩:=I.mod.blt;exact mQ I.ok.kind hg (Calls.loadGlobal_builtin (by rw[I.ok.glob];exact I.mod.glob.keeps I.bk) hm (by rw[I.ok.blt];exact h1.keeps I.bk) ((h2 x hn).trans hv) h) hd
theorem Um{x:ψ}{v:V}{u:δ}{pos:aL}(hg:Gl X x)(hm:X.mg x=some u)(r:RelV v u)(hd:(x==("__debug__":ψ))=false:=by decide):PE X (.Name x pos) (tC v):=
 fun _ _ _ H _ I h=>Jf I hg hm ⟨v,H,I,r,h⟩ hd
theorem Ul{x:ψ}{v:V}{u:δ}{pos:aL}(hg:Gl X x)(hm:X.mg x=none)(hv:gn x=some u)(r:RelV v u)(hn:x≠"__name__":=by decide)(hd:(x==("__debug__":ψ))=false:=by decide):PE X (.Name x pos) (tC v):=
 fun _ _ _ H _ I h=>rA I hg hm hv ⟨v,H,I,r,h⟩ hn hd
variable {a b:π} {ta tb:TE} {pos:aL}
variable {tA tB':TT} {rest:List π}
def Ly(t u:TT):TT:=fun σ H Q=>t σ H fun c H1=>if c=true then u σ H1 Q else Q false H1
def XB(t u:TT):TT:=fun σ H Q=>t σ H fun c H1=>if c=true then Q true H1 else u σ H1 Q
def Lr(t:TT):TT:=fun σ H Q=>t σ H fun c H1=>Q (!c) H1
theorem pw_and1(ha:PT X a tA):PW X (.BoolOp .And [a] pos) tA:=by
 intro wh pins s σ H Q I h;refine isTrue_and (bL (ha pins s σ H Q I h) fun c s1 e=>?_);cases c with
 |true=>exact isTrue_and_nil e
 |false=>exact e
theorem pw_or1(ha:PT X a tA):PW X (.BoolOp .Or [a] pos) tA:=by
 intro wh pins s σ H Q I h;refine isTrue_or (bL (ha pins s σ H Q I h) fun c s1 e=>?_);cases c with
 |false=>exact isTrue_or_nil e
 |true=>exact e
theorem pw_and(ha:PT X a tA)(hb:PW X (.BoolOp .And (b::rest) pos) tB'):PW X (.BoolOp .And (a::b::rest) pos) (Ly tA tB'):=by
 intro wh pins s σ H Q I h;refine isTrue_and (bL (ha pins s σ H _ I h) fun c s1 ⟨H1,I1,q1⟩=>?_);cases c with
 |true=>exact hb wh pins s1 σ H1 Q I1 q1
 |false=>exact⟨H1,I1,q1⟩
theorem pw_or(ha:PT X a tA)(hb:PW X (.BoolOp .Or (b::rest) pos) tB'):PW X (.BoolOp .Or (a::b::rest) pos) (XB tA tB'):=by
 intro wh pins s σ H Q I h;refine isTrue_or (bL (ha pins s σ H _ I h) fun c s1 ⟨H1,I1,q1⟩=>?_);cases c with
 |true=>exact⟨H1,I1,q1⟩
 |false=>exact hb wh pins s1 σ H1 Q I1 q1
theorem Uk(ha:PT X a tA):PT X (.UnaryOp .Not a pos) (Lr tA):=by
 intro pins s σ H Q I h;exact isTrue_not (ha pins s σ H (fun c H1=>Q (!c) H1) I h)
def Kj(ta tb:TE):TE:=fun σ H Q=>ta σ H fun x H1=>∃c,x=.bl c/\if c=true then tb σ H1 Q else Q (.bl false) H1
def Ke(ta:TE):TE:=fun σ H Q=>ta σ H fun x H1=>∃c,x=.bl c/\Q (.bl (!c)) H1
theorem Uj{op}{t:TE}(h:PE X a t):PE X (.BoolOp op [a] pos) t:=fun pins s σ H Q I hw=>BoolOp_one (h pins s σ H Q I hw)
theorem Ui(ha:PE X a ta)(hb:PE X (.BoolOp .And (b::rest) pos) tb):PE X (.BoolOp .And (a::b::rest) pos) (Kj ta tb):=by
 intro pins s σ H Q I h;refine BoolOp_and (bL (ha pins s σ H _ I h) fun v s1 ⟨x,H1,I1,r1,q1⟩=>?_);obtain⟨c,rfl,q1⟩:=q1;cases r1;refine gX ?_;cases c with
 |true=>exact hb pins s1 σ H1 Q I1 q1
 |false=>exact⟨.bl false,H1,I1,rfl,q1⟩
theorem Uh(ha:PE X a ta):PE X (.UnaryOp .Not a pos) (Ke ta):=by
 intro pins s σ H Q I h;refine UnaryOp_ (bL (ha pins s σ H _ I h) fun v s1 ⟨x,H1,I1,r1,q1⟩=>?_);obtain⟨c,rfl,q1⟩:=q1;cases r1;exact not_of (gX ⟨.bl (!c),H1,I1,rfl,q1⟩)
end
end L2
namespace L2
open PySem PySem.Spec PyProof.Rows
def eA(K:ζ)(H:Hp)(a:ε)(xs:List V):Prop:=
 Rd H a (.lst xs) ∨
  ∃(o:aN) (its:Array δ) (n:Nat),K.lookup a=some o/\o.cls=.type "list"/\o.dict=none/\o.data=.seq its n/\its.size≤aj/\bh xs its.toList
def cF(K:ζ)(H:Hp)(a:ε)(xs:List V):Prop:=
 Rd H a (.tup xs) ∨
  ∃(o:aN) (its:Array δ) (n:Nat),K.lookup a=some o/\o.cls=.type "tuple"/\o.dict=none/\o.data=.seq its n/\its.size≤aj/\bh xs its.toList
def Xt:δ->Option V
 |.none=>some .ak
 |.bool b=>some (.bl b)
 |.int i _=>some (.int i)
 |.str x _=>some (.str x)
 |.bytes b _=>some (.AG b)
 |.float b _=>some (.JQ b)
 |.ref a=>some (.ref a)
 |.type n=>some (.ty n)
 |_=>none
theorem RelV.abs{x:V}{u:δ}(r:RelV x u):Xt u=some x:=by
 cases x with
 |ak=>cases r;rfl
 |bl _=>cases r;rfl
 |int _=>obtain⟨t,rfl⟩:=r;rfl
 |str _=>obtain⟨t,rfl⟩:=r;rfl
 |AG _=>obtain⟨t,rfl⟩:=r;rfl
 |JQ _=>obtain⟨t,rfl⟩:=r;rfl
 |ref _=>cases r;rfl
 |ty _=>cases r;rfl
theorem RelV.inj{x y:V}{u:δ}(r:RelV x u)(q:RelV y u):x=y:=aJ (r.abs.symm.trans q.abs)
theorem bh.inj:∀{xs ys:List V} {us:List δ},bh xs us->bh ys us->xs=ys
 |_,_,_,.nil,.nil=>rfl
 |_,_,_,.cons r t,.cons r' t'=>by rw[r.inj r',bh.inj t t']
section
variable {X:Cx} {pins:List (ε×aN)} {σ:St} {H:Hp} {s:η} {a:ε} {xs ys:List V}
theorem eA.of{K:ζ}(h:H a=some (.lst xs)):eA K H a xs:=.inl (.inl h)
theorem cF.of{K:ζ}(h:H a=some (.tup xs)):cF K H a xs:=.inl (.inl h)
theorem Inv.list(I:Inv X pins σ H s)(h:eA X.K H a xs):∃its:List δ,bh xs its/\PlainL s.heap a its.toArray/\xs.length≤aj:=by
 rcases h with h|⟨o,its,n,hk,hc,hd,hs,hz,r⟩
 ·obtain⟨z,its,n,r,e⟩:=h.ok I.cq;exact⟨its,r,⟨_,n,e,rfl,rfl,rfl⟩,z⟩
 ·refine⟨its.toList,r,⟨o,n,I.mU a o hk,hc,hd,by simpa using hs⟩,?_⟩;have e:=r.length;simp only[fj] at e;lia
theorem Inv.tuple(I:Inv X pins σ H s)(h:cF X.K H a xs):∃its:List δ,bh xs its/\nz s.heap a its.toArray/\xs.length≤aj:=by
 rcases h with h|⟨o,its,n,hk,hc,_,hs,hz,r⟩
 ·obtain⟨z,its,r,p⟩:=h.ok I.cq;exact⟨its,r,p.tup,z⟩
 ·refine⟨its.toList,r,⟨o,I.mU a o hk,hc,n,by simpa using hs⟩,?_⟩;have e:=r.length;simp only[fj] at e;lia
theorem Inv.wR(I:Inv X pins σ H s)(h:eA X.K H a xs)(h':eA X.K H a ys):xs=ys:=by
 obtain⟨its,r,⟨o,n,e,_,_,d⟩,_⟩:=I.list h;obtain⟨its',r',⟨o',n',e',_,_,d'⟩,_⟩:=I.list h';rw[e] at e';cases e';rw[d] at d';injection d' with d1 _
 have:its=its':=by simpa using congrArg oz d1
 subst this;exact r.inj r'
theorem Inv.u0(I:Inv X pins σ H s)(h:cF X.K H a xs)(h':cF X.K H a ys):xs=ys:=by
 obtain⟨its,r,⟨o,e,_,n,d⟩,_⟩:=I.tuple h;obtain⟨its',r',⟨o',e',_,n',d'⟩,_⟩:=I.tuple h';rw[e] at e';cases e';rw[d] at d';injection d' with d1 _
 have:its=its':=by simpa using congrArg oz d1
 subst this;exact r.inj r'
end
abbrev Cx.oP(X:Cx)(E:δ->η->Prop):Cx:={ X with xe:=E }
abbrev Cx.xq(X:Cx):Cx:=X.oP fun _ _=>False
theorem Cx.Ok.oP{X:Cx}(ok:X.Ok)(E:δ->η->Prop):(X.oP E).Ok:=
 ⟨ok.mod,ok.kind,ok.glob,ok.blt,ok.above,ok.inj,ok.has,ok.xw,ok.hd,ok.frames,ok.Al,ok.AE,ok.bs,ok.t7,ok.tI,ok.uT,ok.mK,ok.wX⟩
theorem Cx.Ok.md{X:Cx}{E:δ->η->Prop}(ok:(X.oP E).Ok):X.Ok:=
 ⟨ok.mod,ok.kind,ok.glob,ok.blt,ok.above,ok.inj,ok.has,ok.xw,ok.hd,ok.frames,ok.Al,ok.AE,ok.bs,ok.t7,ok.tI,ok.uT,ok.mK,ok.wX⟩
section
variable {X:Cx} {pins:List (ε×aN)} {σ:St} {H:Hp} {s:η} {E:δ->η->Prop}
theorem Inv.oP(I:Inv X pins σ H s)(E:δ->η->Prop):Inv (X.oP E) pins σ H s:=⟨I.ok.oP E,I.os,I.bare,I.base,I.loc,I.cell,I.free,I.lR,I.pin,I.cq,I.len⟩
theorem Inv.md(I:Inv (X.oP E) pins σ H s):Inv X pins σ H s:=⟨I.ok.md,I.os,I.bare,I.base,I.loc,I.cell,I.free,I.lR,I.pin,I.cq,I.len⟩
theorem SP.md{D:Ends}{f:Flow}{s':η}(h:SP (X.oP E) pins D f s'):SP X pins D f s':=by
 cases f with
 |next=>obtain⟨σ',H',I,q⟩:=h;exact⟨σ',H',I.md,q⟩
 |brk=>obtain⟨σ',H',I,q⟩:=h;exact⟨σ',H',I.md,q⟩
 |cont=>obtain⟨σ',H',I,q⟩:=h;exact⟨σ',H',I.md,q⟩
 |ret u=>obtain⟨v,σ',H',I,r,q⟩:=h;exact⟨v,σ',H',I.md,r,q⟩
theorem mW.xq{st:List aS}{t:TS}(h:mW X.xq st t):mW X st t:=fun pins s σ H D I hw=>
 fw (h pins s σ H D (I.oP _) hw) (fun _ _ q=>q.md) fun _ _ z=>gb z
end
section
variable {X:Cx} {st:aS} {rest:List aS} {t u:TS} {e:π} {te:TE} {pos:aL}
def Kf:TS:=fun D σ H=>D.nx σ H
def Lp(t u:TS):TS:=fun D σ H=>t { D with nx:=u D } σ H
theorem TU:mW X [] Kf:=fun _ _ σ H _ I h=>kK ⟨σ,H,I,h⟩
theorem TQ(h1:PS X st t)(h2:mW X rest u):mW X (st::rest) (Lp t u):=by
 intro pins s σ H D I h;refine wpAny_execs_cons (bL (h1 pins s σ H { D with nx:=u D } I h) fun f s1 q=>?_);cases f with
 |next=>
  obtain⟨σ',H',I',q⟩:=q;exact h2 pins s1 σ' H' D I' q
 |ret v=>exact q
 |brk=>exact q
 |cont=>exact q
theorem TN(h1:PS X st t):mW X [st] t:=by
 intro pins s σ H D I h;refine wpAny_execs_cons (bL (h1 pins s σ H D I h) fun f s1 q=>?_);cases f with
 |next=>exact kK q
 |ret v=>exact q
 |brk=>exact q
 |cont=>exact q
theorem Inv.quiet{pins:List (ε×aN)}{σ:St}{H:Hp}{s:η}(I:Inv X pins σ H s):interactive X.env=false:=by simp[interactive,I.ok.kind]
def Kg(te:TE):TS:=fun D σ H=>te σ H fun _ H1=>D.nx σ H1
theorem TM(he:PE X e te)(hs:swapsWith e none pos.line X.env=pure false:=by rfl):PS X (.Expr e pos) (Kg te):=by
 intro pins s σ H D I h;exact wpAny_Expr_any (bL (he pins s σ H _ I h) fun v s1 ⟨x,H1,I1,r1,q1⟩=>⟨σ,H1,I1,q1⟩) I.quiet hs
def Lq(te:TE):TS:=fun D σ H=>te σ H D.rt
theorem TL(he:PE X e te):PS X (.Return (some e) pos) (Lq te):=by
 intro pins s σ H D I h;exact wpAny_Return_some (bL (he pins s σ H _ I h) fun v s1 ⟨x,H1,I1,r1,q1⟩=>⟨x,σ,H1,I1,r1,q1⟩)
def Lv(c:TT)(t u:TS):TS:=fun D σ H=>c σ H fun b H1=>if b=true then t D σ H1 else u D σ H1
theorem TK{c:π}{a b:List aS}{tc:TT}(hc:PT X c tc)(ha:mW X a t)(hb:mW X b u):PS X (.If c a b pos) (Lv tc t u):=by
 intro pins s σ H D I h;refine wpAny_If (bL (hc pins s σ H _ I h) fun d s1 ⟨H1,I1,q1⟩=>?_);cases d with
 |true=>exact ha pins s1 σ H1 D I1 q1
 |false=>exact hb pins s1 σ H1 D I1 q1
def Ef:TS:=fun _ _ _=>False
theorem TJ:PS X st Ef:=fun _ _ _ _ _ _ h=>h.elim
end
abbrev TG:=V->St->Hp->(St->Hp->Prop)->Prop
abbrev t8:=List V->St->Hp->(St->Hp->Prop)->Prop
def PG(X:Cx)(target:π)(t:TG):Prop:=
 ∀(pins:List (ε×aN)) (s:η) (σ:St) (H:Hp) (v:V) (u:δ) (Q:St->Hp->Prop),Inv X pins σ H s->RelV v u->t v σ H Q ->
  ρ (model X.prog X.w) X.A (assign target X.env u) (fun _ s'=>∃σ' H',Inv X pins σ' H' s'/\Q σ' H') X.xe s
def xg(X:Cx)(ts:List π)(t:t8):Prop:=
 ∀(pins:List (ε×aN)) (s:η) (σ:St) (H:Hp) (vs:List V) (us:List δ) (Q:St->Hp->Prop),Inv X pins σ H s->bh vs us->t vs σ H Q ->
  ρ (model X.prog X.w) X.A (assignInOrder ((assignEach ts X.env).map (·.2)) us) (fun _ s'=>∃σ' H',Inv X pins σ' H' s'/\Q σ' H') X.xe s
abbrev xb:=V->V->V->Hp->(Hp->Prop)->Prop
def CS(X:Cx)(t:xb):Prop:=
 ∀(pins:List (ε×aN)) (s:η) (σ:St) (H:Hp) (o i v:V) (ov iv u:δ) (Q:Hp->Prop),Inv X pins σ H s->RelV o ov->RelV i iv->RelV v u->t o i v H Q ->
  ρ (model X.prog X.w) X.A (setItem ov iv u) (fun _ s'=>∃H',Inv X pins σ H' s'/\Q H') X.xe s
abbrev vg:=V->V->Hp->VK->Prop
def AI(X:Cx)(op:kh)(t:vg):Prop:=
 ∀(pins:List (ε×aN)) (s:η) (σ:St) (H:Hp) (x y:V) (v u:δ) (Q:VK),Inv X pins σ H s->RelV x v->RelV y u->t x y H Q ->
  ρ (model X.prog X.w) X.A (inplaceOp op v u) (EP X pins σ Q) X.xe s
section
variable {X:Cx} {pos:aL}
def yG(i:Nat):TG:=fun v σ H Q=>Q (σ.set i (some v)) H
theorem TH{i:Nat}{x:ψ}(hN:X.N.Nodup)(hi:X.N[i]?=some x)(hx:Loc X.env.scope x)(hf:X.fn x=true∨X.env.scope.names.lookup x=some .local:=by first|exact .inl rfl|exact .inr rfl|assumption):PG X (.Name x pos) (yG i):=by
 intro pins s σ H v u Q I r h;exact wpAny_assign_Name (wC I hN hi hx r (fun s' I'=>⟨_,H,I',h⟩) hf)
def Xg:t8:=fun vs σ H Q=>vs=[]/\Q σ H
def KJ(t:TG)(u:t8):t8:=fun vs σ H Q=>∃v r,vs=v::r/\t v σ H fun σ' H'=>u r σ' H' Q
theorem TF:xg X [] Xg:=by
 intro pins s σ H vs us Q I r h;obtain⟨e,h⟩:=h;subst e;cases r;exact assignInOrder_nil ⟨σ,H,I,h⟩
theorem TC{e:π}{es:List π}{t:TG}{u:t8}(h1:PG X e t)(h2:xg X es u)
  (hs:(assignEach (e::es) X.env).map (·.2)=assign e X.env::(assignEach es X.env).map (·.2):=by rfl):xg X (e::es) (KJ t u):=by
 intro pins s σ H vs us Q I r h;obtain⟨v,vr,e1,h⟩:=h;subst e1;cases r with
 |cons r rr=>
  rw[hs];refine mn (bL (h1 pins s σ H _ _ _ I r h) fun _ s1 ⟨σ1,H1,I1,q1⟩=>?_);exact h2 pins s1 σ1 H1 _ _ Q I1 rr q1
def Xe(K:ζ)(n:Nat)(t:t8):TG:=fun v σ H Q=>∃a xs,v=.ref a/\cF K H a xs/\xs.length=n/\t xs σ H Q
theorem TB{es:List π}{k:Nat}{t:t8}{n:Nat}(hc:X.calm=true)(h:xg X es t)
  (hn:(assignEach es X.env).length=n:=by rfl) (hst:(assignEach es X.env).findIdx? (·.1)=none:=by rfl):PG X (.Tuple es k pos) (Xe X.K n t):=by
 intro pins s σ H v u Q I r hw;obtain⟨a,xs,e1,hq,hl,hw⟩:=hw;subst e1;cases r;obtain⟨its,rv,ht,hz⟩:=I.tuple hq;refine assign_Tuple_tuple (I.ok.hd hc) ht (by simp[hn,←hl,rv.length]) hst fun h' hx=>?_;have I1:Inv X pins σ H { s with heap:=h' }:=I.kept (t':=s.toks) fun b o e=>hx b o (aX (Ω e)) e
 exact h pins _ σ H xs _ Q I1 (by simpa using rv) hw
def Xf(to ti:TE)(t:xb):TG:=fun v σ H Q=>to σ H fun o H1=>ti σ H1 fun i H2=>t o i v H2 fun H3=>Q σ H3
theorem Tz{o i:π}{to ti:TE}{t:xb}(ho:PE X o to)(hi:PE X i ti)(hs:CS X t)
  (ha:∀v,assign (.Subscript o i pos) X.env v=(do
   let ov ←holding [v] (eval o X.env)
   let iv ←holding [v,ov] (eval i X.env)
   standAt pos
   holding [v,ov,iv] (setItem ov iv v)
   release [v,ov,iv] []):=by intro _;rfl):PG X (.Subscript o i pos) (Xf to ti t):=by
 intro pins s σ H v u Q I r h
 rw[ha]
 refine γ (cp (bL (ho pins s σ H _ I h) fun ov s1 ⟨x,H1,I1,r1,q1⟩=>?_))
 refine γ (cp (bL (hi pins s1 σ H1 _ I1 q1) fun iv s2 ⟨y,H2,I2,r2,q2⟩=>?_))
 refine γ (j5 (γ (cp (bL (hs pins s2 σ H2 x y v ov iv u _ I2 r1 r2 r q2) fun _ s3 ⟨H3,I3,q3⟩=>?_))))
 exact wpAny_release ⟨σ,H3,I3,q3⟩
def AN(te:TE)(g:TG):TS:=fun D σ H=>te σ H fun x H1=>g x σ H1 D.nx
theorem Tx{tg e:π}{te:TE}{g:TG}(he:PE X e te)(hg:PG X tg g)(hs:swapsWithSole [tg] e pos.line X.env=pure false:=by rfl)(hw:swappedStores [tg] e X.env=pure none:=by rfl)
  (h1:(assignEach [tg] X.env).map (·.2)=[assign tg X.env]:=by rfl):PS X (.Assign [tg] e pos) (AN te g):=by
 intro pins s σ H D I h;refine wpAny_Assign_stores (bL (he pins s σ H _ I h) fun v s1 ⟨x,H1,I1,r1,q1⟩=>?_) hs hw;rw[h1];exact bL (hg pins s1 σ H1 x v _ I1 r1 q1) fun _ s2 q=>q
theorem Tw{i:Nat}{x:ψ}{e:π}{te:TE}{pos':aL}(hN:X.N.Nodup)(hi:X.N[i]?=some x)(hx:Loc X.env.scope x)(he:PE X e te)(hs:swapsWith e (some (.Name x pos')) pos.line X.env=pure false:=by rfl)(hf:X.fn x=true∨X.env.scope.names.lookup x=some .local:=by first|exact .inl rfl|exact .inr rfl|assumption):
  PS X (.Assign [.Name x pos'] e pos) (AN te (yG i)):=by
 intro pins s σ H D I h;refine wpAny_Assign_Name (bL (he pins s σ H _ I h) fun v s1 ⟨y,H1,I1,r1,q1⟩=>?_) hs;exact wC I1 hN hi hx r1 (fun s2 I2=>⟨_,H1,I2,q1⟩) hf
def Ee(i j:Nat)(ta:TA):TS:=fun D σ H=>ta σ H fun vs H1=>∃v w,vs=[v,w]/\D.nx ((σ.set i (some v)).set j (some w)) H1
theorem Tv{i j:Nat}{x y:ψ}{a b:π}{ta:TA}{px py pt:aL}{kt k2 pt2}(hc:X.calm=true)(hN:X.N.Nodup)(hi:X.N[i]?=some x)(hj:X.N[j]?=some y)(hij:i≠j)
  (hx:X.env.scope.names.lookup x=some .local) (hy:X.env.scope.names.lookup y=some .local) (ha:PA X [a,b] ta)
  (hw:swappedStores [.Tuple [.Name x px,.Name y py] kt pt] (.Tuple [a,b] k2 pt2) X.env=pure (some [x,y]))
  (hs:swapsWithSole [.Tuple [.Name x px,.Name y py] kt pt] (.Tuple [a,b] k2 pt2) pos.line X.env=pure false:=by rfl):
  PS X (.Assign [.Tuple [.Name x px,.Name y py] kt pt] (.Tuple [a,b] k2 pt2) pos) (Ee i j ta):=by
 intro pins s σ H D I h;rw[exec_Assign_arm];refine γ (j5 ?_);rw[hs];refine γ (ι ?_);rw[if_neg (by decide)];refine γ (Tuple_ (bL (ha _ pins s σ H _ I h) fun us s1 ⟨vs,H1,I1,r1,q1⟩=>?_));obtain⟨v,w,e1,q1⟩:=q1;subst e1;obtain⟨u1,u2,rfl,rv,rw'⟩:∃u1 u2,us=[u1,u2]/\RelV v u1/\RelV w u2:=by
  cases r1 with
  |cons p q=>
   cases q with
   |cons p' q'=>
    cases q';exact⟨_,_,rfl,p,p'⟩
 refine bI ?_ (by show 2≤aj;decide);have I2:Inv X pins σ H1 { s1 with heap:=s1.heap.push { cls:=.type "tuple",data:=.seq [u1,u2].toArray }}:=I1.kept (t':=s1.toks) fun b o e=>ν _ e;rw[hw];refine γ (ι ?_);show ρ (model X.prog X.w) X.A (do rule "assign.swapped-stores";let items ←unpackItems (.ref s1.heap.objs.size) 2 none;assignInOrder [fun v=>bindName X.env y v,fun v=>bindName X.env x v] items.reverse;pure Flow.next) _ _ _
 refine γ (kJ (γ (unpackItems_tuple (items:=#[u1,u2]) (I.ok.hd hc) (nz.new s1.heap _) fun h' hx'=>?_)));have I3:=I2.kept (h':=h') (t':=s1.toks) fun b o e=>hx' b o (aX (Ω e)) e;show ρ _ _ (assignInOrder [fun v=>bindName X.env y v,fun v=>bindName X.env x v] [u2,u1] >>= fun _=>pure Flow.next) _ _ _
 refine γ (mn (wpAny_bindName (wC I3 hN hj (.inl hy) rw' (fun s2 I4=>?_) (.inr hy))));refine mn (wpAny_bindName (wC I4 hN hi (.inl hx) rv (fun s3 I5=>assignInOrder_nil (ι ?_)) (.inr hx)));rw[List.set_comm _ _ (eY hij)] at I5;exact⟨_,H1,I5,q1⟩
def Lx(i:Nat)(te:TE)(ti:vg):TS:=fun D σ H=>∃x,σ[i]?=some (some x)/\te σ H fun y H1=>ti x y H1 fun z H2=>D.nx (σ.set i (some z)) H2
theorem Tu{i:Nat}{x:ψ}{e:π}{te:TE}{op:kh}{ti:vg}{pos':aL}(hN:X.N.Nodup)(hi:X.N[i]?=some x)(hx:Loc X.env.scope x)(he:PE X e te)(ho:AI X op ti)(hf:X.fn x=true∨X.env.scope.names.lookup x=some .local:=by first|exact .inl rfl|exact .inr rfl|assumption):
  PS X (.AugAssign (.Name x pos') op e pos) (Lx i te ti):=by
 intro pins s σ H D I h;obtain⟨v,e1,h⟩:=h;obtain⟨m,hn,hl⟩:=I.loc;have vis:DB X.env.scope x:=by rcases hx with k|k;exact .inl k;exact .inr (.inl k)
 obtain⟨u,r,l⟩:=hl i x v hi e1 vis;refine wpAny_AugAssign_Name ?_;have go:ρ (model X.prog X.w) X.A (eval e X.env) (fun w s₂=>ρ (model X.prog X.w) X.A (inplaceOp op u w) (fun r s₃=>ρ (model X.prog X.w) X.A (storeName X.env x r) (fun _=>SP X pins D .next) X.xe s₃) X.xe s₂) X.xe s:=by
  refine bL (he pins s σ H _ I h) fun w s1 ⟨y,H1,I1,r1,q1⟩=>?_;refine bL (ho pins s1 σ H1 v y u w _ I1 r r1 q1) fun z s2 ⟨zv,H2,I2,r2,q2⟩=>?_;exact wC I2 hN hi hx r2 (fun s3 I3=>⟨_,H2,I3,q2⟩) hf
 rcases l with⟨hk,hm⟩|⟨hk,c,hc,hcell⟩
 ·exact wpAny_loadName_local I.ok.kind hk hn hm go
 ·rcases hk with hk|hk
  ·exact wpAny_loadName_cell I.ok.kind hk hc hcell go
  ·rcases hx with k|k
   ·have:X.env.scope.names.lookup x=some .free:=hk;rw[k] at this;cases this
   ·have:X.env.scope.names.lookup x=some .free:=hk;rw[k] at this;cases this
def Ki(to ti te:TE)(tget:V->V->Hp->VK->Prop)(tip:vg)(tset:xb):TS:=fun D σ H=>to σ H fun o H1=>ti σ H1 fun i H2=>tget o i H2 fun x H3=>te σ H3 fun y H4=>tip x y H4 fun z H5=>tset o i z H5 fun H6=>D.nx σ H6
def J0(X:Cx)(t:V->V->Hp->VK->Prop):Prop:=
 ∀(pins:List (ε×aN)) (s:η) (σ:St) (H:Hp) (o i:V) (ov iv:δ) (Q:VK),Inv X pins σ H s->RelV o ov->RelV i iv->t o i H Q ->
  ρ (model X.prog X.w) X.A (getItem ov iv) (EP X pins σ Q) X.xe s
theorem Tt{o i e:π}{to ti te:TE}{tget:V->V->Hp->VK->Prop}{tip:vg}{tset:xb}{op:kh}{tpos:aL}(ho:PE X o to)(hi:PE X i ti)(hg:J0 X tget)(he:PE X e te)(hp:AI X op tip)(hs:CS X tset)
  (ha:∀ov iv new,augStore i ov iv new=(do holding [new,ov,iv] (setItem ov iv new);release [new,ov,iv] [];pure .next):=by intros;rfl):PS X (.AugAssign (.Subscript o i tpos) op e pos) (Ki to ti te tget tip tset):=by
 intro pins s σ H D I h;refine wpAny_AugAssign_SubscriptAny (bL (ho pins s σ H _ I h) fun ov s1 ⟨x1,H1,I1,r1,q1⟩=>?_) ha;refine bL (hi pins s1 σ H1 _ I1 q1) fun iv s2 ⟨x2,H2,I2,r2,q2⟩=>?_;refine bL (hg pins s2 σ H2 x1 x2 ov iv _ I2 r1 r2 q2) fun old s3 ⟨x3,H3,I3,r3,q3⟩=>?_;refine bL (he pins s3 σ H3 _ I3 q3) fun v s4 ⟨x4,H4,I4,r4,q4⟩=>?_;refine bL (hp pins s4 σ H4 x3 x4 old v _ I4 r3 r4 q4) fun new s5 ⟨x5,H5,I5,r5,q5⟩=>?_;exact bL (hs pins s5 σ H5 x1 x2 x5 ov iv new _ I5 r1 r2 r5 q5) fun _ s6 ⟨H6,I6,q6⟩=>⟨σ,H6,I6,q6⟩
def Lc(f:Int->Int->Int):vg:=fun x y H Q=>∃i j,x=.int i/\y=.int j/\Q (.int (f i j)) H
theorem Je:AI X .Add (Lc fun i j=>i+j):=by
 intro pins s σ H x y v u Q I r1 r2 h;obtain⟨i,j,e1,e2,q⟩:=h;subst e1;subst e2;obtain⟨t,rfl⟩:=r1;obtain⟨t',rfl⟩:=r2;exact iadd_int ⟨.int _,H,I.tok _,⟨_,rfl⟩,q⟩
end
section
variable {X:Cx} {pos:aL}
def Ed(c:TT)(tb:TS):TS:=fun D σ H=>∃W:Nat->St->Hp->Prop,(∃m,W m σ H)/\∀m σ H,W m σ H ->
 c σ H fun b H1=>if b=true then ∃N:St->Hp->Prop,(∀σ' H',N σ' H'->∃m',m' < m/\W m' σ' H')/\tb { D with nx:=N,ct:=N,bk:=D.nx } σ H1 else D.nx σ H1
theorem Ts{c:π}{body:List aS}{tc:TT}{tb:TS}(hp:mq (model X.prog X.w) X.A X.env X.xe)(hc:PT X c tc)(hb:mW X body tb):PS X (.While c body [] pos) (Ed tc tb):=by
 intro pins s σ H D I h;obtain⟨W,⟨m0,w0⟩,turn⟩:=h;refine wpAny_While (codeAny_whileLoop (fun n s'=>∃σ' H',Inv X pins σ' H' s'/\W n σ' H') ?_ m0 ⟨σ,H,I,w0⟩);rintro n s1 ⟨σ1,H1,I1,w1⟩;refine fG hp (bL (hc pins s1 σ1 H1 _ I1 (turn n σ1 H1 w1)) fun b s2 ⟨H2,I2,q2⟩=>?_);cases b with
 |true=>
  obtain⟨N,hN,q2⟩:=q2;rw[if_pos rfl];refine fG hp (bL (hb pins s2 σ1 H2 _ I2 q2) fun f s3 q3=>?_);cases f with
  |next=>
   obtain⟨σ3,H3,I3,n3⟩:=q3;obtain⟨m',hm,w3⟩:=hN σ3 H3 n3;exact⟨m',hm,σ3,H3,I3,w3⟩
  |cont=>
   obtain⟨σ3,H3,I3,n3⟩:=q3;obtain⟨m',hm,w3⟩:=hN σ3 H3 n3;exact⟨m',hm,σ3,H3,I3,w3⟩
  |brk=>exact q3
  |ret v=>exact q3
 |false=>
  rw[if_neg ao];exact kK ⟨σ1,H2,I2,q2⟩
end
structure It where
 go:Nat->Hp->Prop
 CW:Nat->Hp->V->Hp->Prop
 stop:Nat->Hp->Prop
def jc(X:Cx)(pins:List (ε×aN))(H:Hp)(b:ε):Prop:=
 H b=none/\b≠X.env.locals/\b∉X.fs/\(b∈X.ex∨X.s₀.heap.objs.size≤b)/\(∀x c,X.env.cells.lookup x=some c->c≠b)/\∀p∈X.pn++pins,p.1≠b
theorem Inv.o8{X:Cx}{pins:List (ε×aN)}{σ:St}{H H':Hp}{s:η}{b:ε}(I:Inv X pins σ H s)(hb:s.heap.objs.size≤b)(hn:H' b=none):jc X pins H' b:=by
 refine⟨hn,eP (aY I.lt hb),I.W1 hb,.inr (ae I.sz hb),fun x c e z=>?_,fun p hp z=>?_⟩
 ·obtain⟨v,q⟩:=I.cell x c e;exact absurd (aY q.lt (by rw[z];exact hb)) (cz _)
 ·exact absurd (aY (Ω (I.pin p hp).1) (by rw[z];exact hb)) (cz _)
structure Turn(P:aG)(w:aQ)(K:ζ)(tg:π)(J:It)(fp:List ε)(it:ε)(tn:Nat->ay->Prop):Prop where
 mem:it∈fp
 obj:∀i h,tn i h->∀b∈fp,∃o,h.get? b=some o/\∀v,o.data≠.cell v
 keep:∀i h h',tn i h->(∀b∈fp,∀o,h.get? b=some o->h'.get? b=some o)->tn i h'
 item:∀(X:Cx),X.prog=P->X.w=w->X.K=K->X.calm=true->∀(i:Nat) (pins:List (ε×aN)) (s:η) (σ:St) (H:Hp) (E:δ->η->Prop),Inv X pins σ H s->(∀b∈fp,jc X pins H b)->tn i s.heap->J.go i H ->
  ρ (model P w) X.A (pyNext (.ref it)) (fun r s1=>∃u,r=some u ∧
   ρ (model P w) X.A (letOwnedTupleGo tg (.ref it) u) (fun _ s2=>∃x H',Inv X pins σ H' s2/\RelV x u/\J.CW i H x H'/\tn (i+1) s2.heap/\∀b∈fp,H' b=none) E s1) E s
 done:∀(X:Cx),X.prog=P->X.w=w->X.K=K->X.calm=true->∀(i:Nat) (pins:List (ε×aN)) (s:η) (σ:St) (H:Hp) (E:δ->η->Prop),Inv X pins σ H s->(∀b∈fp,jc X pins H b)->tn i s.heap->J.stop i H ->
  ρ (model P w) X.A (pyNext (.ref it)) (fun r s1=>r=none/\Inv X pins σ H s1) E s
 self:∀(A:bT) (i:Nat) (s:η) (Q:δ->η->Prop) (E:δ->η->Prop),tn i s.heap->Q (.ref it) s->ρ (model P w) A (pyIter (.ref it)) Q E s
abbrev TI:=St->Hp->(It->Hp->Prop)->Prop
def AJ(X:Cx)(pins:List (ε×aN))(σ:St)(tg:π)(R:It->Hp->Prop)(itv:δ)(s2:η):Prop:=
 ∃(it:ε) (fp:List ε) (tn:Nat->ay->Prop) (J:It) (H':Hp),itv=.ref it/\Inv X pins σ H' s2/\Turn X.prog X.w X.K tg J fp it tn/\tn 0 s2.heap/\(∀b∈fp,jc X pins H' b)/\R J H'
def PI(X:Cx)(tg iter:π)(wi:TI):Prop:=
 ∀(pins:List (ε×aN)) (s:η) (σ:St) (H:Hp) (R:It->Hp->Prop),Inv X pins σ H s->wi σ H R ->
  ρ (model X.prog X.w) X.A (eval iter X.env) (fun v s1=>ρ (model X.prog X.w) X.A (pyIter v) (AJ X pins σ tg R) X.xe s1) X.xe s
theorem wB{M:Model}{A:bT}{E:δ->η->Prop}{s:η}{tg:π}{it:ε}{u:δ}{o:aN}{n:String}{vs:Array δ}{Q:Unit->η->Prop}(ho:s.heap.get? it=some o)(hc:o.cls=.type n)(hd:o.data=.fields vs)
    (hn:["enumerate","zip","dict_itemiterator","dict_reverseitemiterator","odict_iterator","itertools.zip_longest","itertools.pairwise"].contains n=false) (hQ:Q () s):ρ M A (letOwnedTupleGo tg (.ref it) u) Q E s:=by
  unfold letOwnedTupleGo;cases tg<;>first
    |exact ι hQ
    | (cases u<;>first
        |exact ι hQ
        | (refine γ (wpAny_load ho ?_)
           rw[hc,hd];show ρ M A (if (["enumerate","zip","dict_itemiterator","dict_reverseitemiterator","odict_iterator","itertools.zip_longest","itertools.pairwise"].contains n&&vs[0]?==some (rawInt _))=true then _ else _) Q E s;rw[if_neg (by intro h;rw[hn,Bool.false_and] at h;cases h)];exact ι hQ))
def Lj(K:ζ)(a:ε):It:=
 ⟨fun i H=>∃xs x,eA K H a xs/\xs[i]?=some x,fun i H x H'=>H'=H/\∀xs,eA K H a xs->xs[i]?=some x,fun i H=>∃xs,eA K H a xs/\xs.length≤i⟩
def Li(K:ζ)(a:ε):It:=
 ⟨fun i H=>∃xs x,cF K H a xs/\xs[i]?=some x,fun i H x H'=>H'=H/\∀xs,cF K H a xs->xs[i]?=some x,fun i H=>∃xs,cF K H a xs/\xs.length≤i⟩
def DD(lo:Int)(n:Nat):It:=⟨fun i _=>i<n,fun i H x H'=>H'=H/\x=.int (lo+i),fun i _=>n≤i⟩
theorem Tr{P:aG}{w:aQ}{K:ζ}{tg:π}(a it:ε):Turn P w K tg (Lj K a) [it] it (fun i h=>h.IsListIter it a i) where
 mem:=by simp
 obj:=fun i h st b hb=>by
  have e:b=it:=by simpa using hb
  subst e;obtain⟨o,e,c,d⟩:=st;exact⟨o,e,fun v z=>by rw[d] at z;cases z⟩
 keep:=fun i h h' st k=>st.at fun o e=>k it (by simp) o e
 item:=by
  intro X hP hw hK hc i pins s σ H E I hf st hg;subst hP hw hK;obtain⟨xs,x,hq,hx⟩:=hg;obtain⟨its,rv,p,hz⟩:=I.list hq;obtain⟨u,hu,ru⟩:=rv.get hx;obtain⟨f0,f1,f2,f3,f4,f5⟩:=hf it (by simp);refine wpAny_pyNext_list_item st p.isList (x:=u) (by simpa using hu) fun h' st' sb=>?_;have I1:Inv X pins σ H { s with heap:=h' }:=I.turned (t':=s.toks) (fun b o hb e=>(sb.2 b hb).trans e) f0 f1 f3 f4 f5;obtain⟨o,e,c,d⟩:=id st';exact⟨u,rfl,wB (s:={ s with heap:=h' }) e c d (by decide) ⟨x,H,I1,ru,⟨rfl,fun ys hy=>by rw[I.wR hy hq];exact hx⟩,st',fun b hb=>(hf b hb).1⟩⟩
 done:=by
  intro X hP hw hK hc i pins s σ H E I hf st hg;subst hP hw hK;obtain⟨xs,hq,hx⟩:=hg;obtain⟨its,rv,p,hz⟩:=I.list hq;obtain⟨f0,f1,f2,f3,f4,f5⟩:=hf it (by simp);have hl:=rv.length;exact wpAny_pyNext_list_end (I.ok.hd hc) st p.isList (by simp;lia) fun h' eb=>⟨rfl,I.turned (t':=s.toks) (fun b o hb e=>eb b o hb e) f0 f1 f3 f4 f5⟩
 self:=fun _ _ _ _ _ st h=>wpAny_pyIter_listiter st h
theorem Tq{P:aG}{w:aQ}{K:ζ}{tg:π}(a it:ε):Turn P w K tg (Li K a) [it] it (fun i h=>h.IsTupleIter it a i) where
 mem:=by simp
 obj:=fun i h st b hb=>by
  have e:b=it:=by simpa using hb
  subst e;obtain⟨o,e,c,d⟩:=st;exact⟨o,e,fun v z=>by rw[d] at z;cases z⟩
 keep:=fun i h h' st k=>st.at fun o e=>k it (by simp) o e
 item:=by
  intro X hP hw hK hc i pins s σ H E I hf st hg;subst hP hw hK;obtain⟨xs,x,hq,hx⟩:=hg;obtain⟨its,rv,p,hz⟩:=I.tuple hq;obtain⟨u,hu,ru⟩:=rv.get hx;obtain⟨f0,f1,f2,f3,f4,f5⟩:=hf it (by simp);refine wpAny_pyNext_tuple_item st (show s.heap.IsTuple a its.toArray from p) (x:=u) (by simpa using hu) fun h' st' sb=>?_;have I1:Inv X pins σ H { s with heap:=h' }:=I.turned (t':=s.toks) (fun b o hb e=>(sb.2 b hb).trans e) f0 f1 f3 f4 f5;obtain⟨o,e,c,d⟩:=id st';exact⟨u,rfl,wB (s:={ s with heap:=h' }) e c d (by decide) ⟨x,H,I1,ru,⟨rfl,fun ys hy=>by rw[I.u0 hy hq];exact hx⟩,st',fun b hb=>(hf b hb).1⟩⟩
 done:=by
  intro X hP hw hK hc i pins s σ H E I hf st hg;subst hP hw hK;obtain⟨xs,hq,hx⟩:=hg;obtain⟨its,rv,p,hz⟩:=I.tuple hq;obtain⟨f0,f1,f2,f3,f4,f5⟩:=hf it (by simp);have hl:=rv.length;exact wpAny_pyNext_tuple_end (I.ok.hd hc) st (show s.heap.IsTuple a its.toArray from p) (by simp;lia) fun h' eb=>⟨rfl,I.turned (t':=s.toks) (fun b o hb e=>eb b o hb e) f0 f1 f3 f4 f5⟩
 self:=fun _ _ _ _ _ st h=>wpAny_pyIter_tupleiter st h
theorem Tp{P:aG}{w:aQ}{K:ζ}{tg:π}(it:ε)(lo:Int)(n:Nat):Turn P w K tg (DD lo n) [it] it (fun i h=>lY h it (lo+(i:Nat)*1) ((n:Int)-(i:Nat)) 1) where
 mem:=by simp
 obj:=fun i h st b hb=>by
  have e:b=it:=by simpa using hb
  subst e;exact⟨_,st,fun v z=>by
   have z':ma _=kq v:=z;cases z'⟩
 keep:=fun i h h' st k=>k it (by simp) _ st
 item:=by
  intro X hP hw hK hc i pins s σ H E I hf st hg;subst hP hw hK;obtain⟨f0,f1,f2,f3,f4,f5⟩:=hf it (by simp);have W:=Walks.range (prog:=X.prog) (w:=X.w) (I.ok.hd hc) it lo 1 n;refine W.item i s _ _ hg st fun v h' tk hv st' kk=>?_;obtain⟨t,rfl⟩:=hv;have I1:Inv X pins σ H { s with heap:=h',toks:=tk }:=I.turned (fun b o hb e=>kk b o (by simpa using hb) e) f0 f1 f3 f4 f5;refine⟨_,rfl,wB (s:={ s with heap:=h',toks:=tk }) (n:="range_iterator") st' rfl rfl (by decide) ⟨.int (lo+i),H,I1,⟨t,?_⟩,⟨rfl,rfl⟩,st',fun b hb=>(hf b hb).1⟩⟩;rw[iM]
 done:=by
  intro X hP hw hK hc i pins s σ H E I hf st hg;subst hP hw hK;obtain⟨f0,f1,f2,f3,f4,f5⟩:=hf it (by simp);exact wpAny_pyNext_range_end (I.ok.hd hc) st (by have:n≤i:=hg;lia) fun h' eb=>⟨rfl,I.turned (t':=s.toks) (fun b o hb e=>eb b o hb e) f0 f1 f3 f4 f5⟩
 self:=fun _ _ _ _ _ st h=>wpAny_pyIter_rangeiter st h
end L2
namespace L2
open PySem PySem.Spec PyProof.Rows
section
variable {X:Cx} {tg:π}
theorem Tn{pins:List (ε×aN)}{σ:St}{H:Hp}{s:η}{R:It->Hp->Prop}{E:δ->η->Prop}{lo hi:Int}{t u v:Tok}{tk:Nat}(I:Inv X pins σ H s)(h1:-(2^62)≤lo)(h2:lo<2^62)(h3:-(2^62)≤hi)(h4:hi<2^62)
  (q:R (DD lo (hi-lo).toNat) H):ρ (model X.prog X.w) X.A (pyIter (.ref s.heap.objs.size)) (AJ X pins σ tg R) E { s with heap:=s.heap.push { cls:=.type "range",data:=.fields #[.int lo t,.int hi u,.int 1 v]},toks:=tk }:=by
 refine mj (pE ..) (small_one h1 h2 h3 h4) ?_;have I1:Inv X pins σ H { s with heap:=s.heap.push { cls:=.type "range",data:=.fields #[.int lo t,.int hi u,.int 1 v]},toks:=tk }:=I.kept fun b o e=>ν _ e;refine⟨(s.heap.push { cls:=.type "range",data:=.fields #[.int lo t,.int hi u,.int 1 v]}).objs.size,[(s.heap.push { cls:=.type "range",data:=.fields #[.int lo t,.int hi u,.int 1 v]}).objs.size],_,_,H,rfl,
  I1.kept (t':=tk) fun b o e=>ν _ e,Tp _ lo (hi-lo).toNat,?_,fun b hb=>?_,q⟩
 ·have e1:lo+((0:Nat):Int)*1=lo:=by simp
  have e2:(((hi-lo).toNat:Nat):Int)-((0:Nat):Int)=ba lo hi 1:=by rw[rangeSize_one];split<;>lia
  show lY _ _ (lo+((0:Nat):Int)*1) ((((hi-lo).toNat:Nat):Int)-((0:Nat):Int)) 1;rw[e1,e2];exact Φ _ rfl
 ·have e:b=(s.heap.push { cls:=.type "range",data:=.fields #[.int lo t,.int hi u,.int 1 v]}).objs.size:=by simpa using hb
  subst e;exact I1.o8 (Γ _) (I1.cq.fresh (Γ _))
def nq(ta:TA):TI:=fun σ H R=>ta σ H fun vs H1=>∃j:Int,vs=[.int j]/\-(2^62)≤j/\j<2^62/\R (DD 0 j.toNat) H1
theorem Tj{a:π}{ta:TA}{p pos:aL}(hg:Gl X "range")(hm:X.mg "range" = none)(ha:PA X [a] ta)(hs:bJ [a] X.env=[(false,eval a X.env)]:=by rfl):PI X tg (.Call (.Name "range" p) [a] [] pos) (nq ta):=by
 intro pins s σ H R I h;refine Call_ (rA I hg hm qB (cV (bL (ha pos pins s σ H _ I h) fun us s1 ⟨vs,H1,I1,r1,q1⟩=>?_) hs rfl));obtain⟨j,e,q1,q2,q⟩:=q1;subst e;cases r1 with
 |cons r rr=>
  cases rr;obtain⟨t,rfl⟩:=r;exact call_range_1 (Tn I1 (by lia) (by lia) q1 q2 (by simpa using q))
def Lw(wi:TI)(g:TG)(tb:TS):TS:=fun D σ H=>wi σ H fun J H1=>∃W:Nat->Nat->St->Hp->Prop,(∃m,W 0 m σ H1)/\∀i m σ H,W i m σ H ->
 (J.stop i H/\D.nx σ H)∨(J.go i H/\∃N:St->Hp->Prop,(∀σ' H',N σ' H'->∃m',m' < m/\W (i+1) m' σ' H')/\∀x H',J.CW i H x H'->g x σ H' fun σ2 H2=>tb { D with nx:=N,ct:=N,bk:=D.nx } σ2 H2)
def rB(fp:List ε)(h:ay):List (ε×aN):=fp.filterMap fun b=>(h.get? b).map fun o=>(b,o)
theorem yl{fp:List ε}{h:ay}{b:ε}{o:aN}(hb:b∈fp)(e:h.get? b=some o):(b,o)∈rB fp h:=mx.mpr ⟨b,hb,by rw[e];rfl⟩
theorem Th{fp:List ε}{h:ay}{p:ε×aN}(hp:p∈rB fp h):p.1∈fp/\h.get? p.1=some p.2:=by
 obtain⟨b,hb,e⟩:=mx.mp hp;cases q:h.get? b with
 |none=>rw[q] at e;cases e
 |some o=>
  rw[q] at e;have e':(b,o)=p:=aJ e;subst e';exact⟨hb,q⟩
theorem Inv.pinned{pins:List (ε×aN)}{σ:St}{H:Hp}{s:η}{fp:List ε}(I:Inv X pins σ H s)(hf:∀b∈fp,jc X pins H b)(ho:∀b∈fp,∃o,s.heap.get? b=some o/\∀v,o.data≠.cell v):Inv X (pins++rB fp s.heap) σ H s:=
 I.xp fun p hp=>(cI.mp hp).elim (fun z=>I.pin p (bD _ z)) fun z=>by
  obtain⟨hb,e⟩:=Th z;obtain⟨f0,f1,f2,_⟩:=hf p.1 hb;obtain⟨o,e',d⟩:=ho p.1 hb;rw[e] at e';cases e';exact⟨e,f0,f1,f2,d⟩
theorem Inv.p9{pins pl:List (ε×aN)}{σ:St}{H:Hp}{s:η}(I:Inv X (pins++pl) σ H s):Inv X pins σ H s:=I.xp fun p hp=>I.pin p (bD _ (eS _ hp))
theorem Tg{iter:π}{body:List aS}{wi:TI}{g:TG}{tb:TS}{pos:aL}(hp:mq (model X.prog X.w) X.A X.env X.xe)(hc:X.calm=true)(hi:PI X tg iter wi)(hg:PG X tg g)(hb:mW X body tb)
  (hs:∀x,foldedSetIterable iter X.env x=pure x:=by intro _;rfl):PS X (.For tg iter body [] pos) (Lw wi g tb):=by
 intro pins s σ H D I h;refine wpAny_For (bL (hi pins s σ H _ I h) fun v s1 h1=>bL h1 fun itv s2 h2=>?_) hs;obtain⟨it,fp,tn,J,H2,e,I2,T,st2,f2,W,⟨m0,w0⟩,turn⟩:=h2;subst e
 -- what stays true of the iterator's objects through the loop
 have stat:∀{H':Hp},(∀b∈fp,H' b=none)->∀b∈fp,jc X pins H' b:=fun hn b hb=>⟨hn b hb,(f2 b hb).2⟩;refine codeAny_forLoop_any (fun n s'=>∃i σ' H',Inv X pins σ' H' s'/\tn i s'.heap/\(∀b∈fp,H' b=none)/\W i n σ' H') ?_ m0 ⟨0,σ,H2,I2,st2,fun b hb=>(f2 b hb).1,w0⟩;rintro n s3 ⟨i,σ3,H3,I3,st3,fr3,w3⟩;rcases turn i n σ3 H3 w3 with⟨stop,qn⟩|⟨go,N,hN,step⟩
 ·refine fG hp (bL (T.done X rfl rfl rfl hc i pins s3 σ3 H3 X.xe I3 (stat fr3) st3 stop) fun r s4 ⟨hr,I4⟩=>?_);subst hr;exact kK ⟨σ3,H3,I4,qn⟩
 ·refine fG hp (bL (T.item X rfl rfl rfl hc i pins s3 σ3 H3 X.xe I3 (stat fr3) st3 go) fun r s4 ⟨u,hr,h4⟩=>?_);subst hr;refine fG hp (bL h4 fun _ s5 ⟨x,H5,I5,r5,y5,st5,fr5⟩=>?_);have I5':=I5.pinned (stat fr5) (T.obj _ _ st5);refine fG hp (bL (hg _ s5 σ3 H5 x u _ I5' r5 (step x H5 y5)) fun _ s6 ⟨σ6,H6,I6,q6⟩=>?_);refine fG hp (bL (hb _ s6 σ6 H6 _ I6 q6) fun f s7 q7=>?_);have again:∀{σ7:St} {H7:Hp},Inv X (pins++rB fp s5.heap) σ7 H7 s7->N σ7 H7->∃m,m<n/\∃i σ' H',Inv X pins σ' H' s7/\tn i s7.heap/\(∀b∈fp,H' b=none)/\W i m σ' H':=fun {σ7 H7} I7 n7=>by
   obtain⟨m',hm,w7⟩:=hN σ7 H7 n7;refine⟨m',hm,i+1,σ7,H7,I7.p9,T.keep _ _ _ st5 fun b hb o e=>(I7.pin (b,o) (bD _ (bD _ (yl hb e)))).1,fun b hb=>?_,w7⟩;obtain⟨o,e,d⟩:=T.obj _ _ st5 b hb;exact (I7.pin (b,o) (bD _ (bD _ (yl hb e)))).2.1
  cases f with
  |next=>obtain⟨σ7,H7,I7,n7⟩:=q7;exact again I7 n7
  |cont=>obtain⟨σ7,H7,I7,n7⟩:=q7;exact again I7 n7
  |brk=>obtain⟨σ7,H7,I7,q7⟩:=q7;exact⟨σ7,H7,I7.p9,q7⟩
  |ret v=>obtain⟨x7,σ7,H7,I7,r7,q7⟩:=q7;exact⟨x7,σ7,H7,I7.p9,r7,q7⟩
end
end L2
namespace L2
open PySem PySem.Spec PyProof.Rows
abbrev R2:=V->V->Hp->VK->Prop
def eB(X:Cx)(f:δ->δ->Sem δ)(r:R2):Prop:=
 ∀(pins:List (ε×aN)) (s:η) (σ:St) (H:Hp) (x y:V) (v u:δ) (Q:VK),Inv X pins σ H s->RelV x v->RelV y u->r x y H Q ->
  ρ (model X.prog X.w) X.A (f v u) (EP X pins σ Q) X.xe s
def JX(X:Cx)(f:δ->Sem δ)(r:V->Hp->VK->Prop):Prop:=
 ∀(pins:List (ε×aN)) (s:η) (σ:St) (H:Hp) (x:V) (v:δ) (Q:VK),Inv X pins σ H s->RelV x v->r x H Q ->
  ρ (model X.prog X.w) X.A (f v) (EP X pins σ Q) X.xe s
def ju(X:Cx)(f:δ)(r:List V->Hp->VK->Prop):Prop:=
 ∀(pins:List (ε×aN)) (s:η) (σ:St) (H:Hp) (xs:List V) (us:List δ) (Q:VK),Inv X pins σ H s->bh xs us->r xs H Q ->
  ρ (model X.prog X.w) X.A (call f us) (EP X pins σ Q) X.xe s
def Xw(X:Cx)(r:V->Hp->(Bool->Hp->Prop)->Prop):Prop:=
 ∀(pins:List (ε×aN)) (s:η) (σ:St) (H:Hp) (x:V) (v:δ) (Q:Bool->Hp->Prop),Inv X pins σ H s->RelV x v->r x H Q ->
  ρ (model X.prog X.w) X.A (truthy v) (TP X pins σ Q) X.xe s
def Ak(r:R2)(ta tb:TE):TE:=fun σ H Q=>ta σ H fun x H1=>tb σ H1 fun y H2=>r x y H2 Q
def Xz(r:V->Hp->VK->Prop)(ta:TE):TE:=fun σ H Q=>ta σ H fun x H1=>r x H1 Q
def rI(C:Int->Int->Prop)(g:Int->Int->V):R2:=fun x y H Q=>∃i j,x=.int i/\y=.int j/\C i j/\Q (g i j) H
def nJ(g:Int->Int->V):R2:=fun x y H Q=>∃i j,x=.int i/\y=.int j/\Q (g i j) H
def rU(g:Int->V):V->Hp->VK->Prop:=fun x H Q=>∃i,x=.int i/\Q (g i) H
section
variable {X:Cx} {a b c:π} {ta tb tc:TE} {pos:aL}
theorem CQ(ha:PE X a ta)(hb:PE X b tb){pins:List (ε×aN)}{s:η}{σ:St}{H:Hp}{R:V->V->Hp->Prop}(I:Inv X pins σ H s)
  (h:ta σ H fun x H1=>tb σ H1 fun y H2=>R x y H2) {Q:δ->η->Prop} {f:δ->δ->Sem δ}
  (hf:∀v u s2 x y H2,Inv X pins σ H2 s2->RelV x v->RelV y u->R x y H2->ρ (model X.prog X.w) X.A (f v u) Q X.xe s2):
  ρ (model X.prog X.w) X.A (eval a X.env) (fun v s₁=>ρ (model X.prog X.w) X.A (eval b X.env) (fun u s₂=>ρ (model X.prog X.w) X.A (f v u) Q X.xe s₂) X.xe s₁) X.xe s:=by
 refine bL (ha pins s σ H _ I h) fun v s1 ⟨x,H1,I1,r1,q1⟩=>?_;refine bL (hb pins s1 σ H1 _ I1 q1) fun u s2 ⟨y,H2,I2,r2,q2⟩=>?_;exact hf v u s2 x y H2 I2 r1 r2 q2
theorem Tf{op:kh}{r:R2}(ho:eB X (binaryOp op) r)(ha:PE X a ta)(hb:PE X b tb):PE X (.BinOp a op b pos) (Ak r ta tb):=by
 intro pins s σ H Q I h;exact wpAny_BinOp (CQ ha hb I h fun v u s2 x y H2 I2 rx ry q=>ho pins s2 σ H2 x y v u Q I2 rx ry q)
theorem T7{op:UnaryOp}{r:V->Hp->VK->Prop}(ho:JX X (unaryOp op) r)(ha:PE X a ta):PE X (.UnaryOp op a pos) (Xz r ta):=by
 intro pins s σ H Q I h;exact UnaryOp_ (bL (ha pins s σ H _ I h) fun v s1 ⟨x,H1,I1,r1,q1⟩=>ho pins s1 σ H1 x v Q I1 r1 q1)
theorem Az{f:δ->δ->Sem δ}{C:Int->Int->Prop}{g:Int->Int->Int}
  (rule:∀(i j:Int) (t u:Tok) (s:η) (Q:δ->η->Prop) (E:δ->η->Prop),C i j->Q (.int (g i j) s.toks) { s with toks:=s.toks+1 }->ρ (model X.prog X.w) X.A (f (.int i t) (.int j u)) Q E s):
  eB X f (rI C fun i j=>.int (g i j)):=by
 intro pins s σ H x y v u Q I rx ry h;obtain⟨i,j,rfl,rfl,hc,q⟩:=h;obtain⟨t,rfl⟩:=rx;obtain⟨t',rfl⟩:=ry;exact rule i j t t' s _ _ hc ⟨.int (g i j),H,I.tok _,⟨_,rfl⟩,q⟩
theorem Jw{f:δ->δ->Sem δ}{g:Int->Int->Int}
  (rule:∀(i j:Int) (t u:Tok) (s:η) (Q:δ->η->Prop) (E:δ->η->Prop),Q (.int (g i j) s.toks) { s with toks:=s.toks+1 }->ρ (model X.prog X.w) X.A (f (.int i t) (.int j u)) Q E s):
  eB X f (nJ fun i j=>.int (g i j)):=by
 intro pins s σ H x y v u Q I rx ry h;obtain⟨i,j,rfl,rfl,q⟩:=h;obtain⟨t,rfl⟩:=rx;obtain⟨t',rfl⟩:=ry;exact rule i j t t' s _ _ ⟨.int (g i j),H,I.tok _,⟨_,rfl⟩,q⟩
theorem yx{f:δ->δ->Sem δ}{g:Int->Int->Bool}
  (rule:∀(i j:Int) (t u:Tok) (s:η) (Q:δ->η->Prop) (E:δ->η->Prop),Q (.bool (g i j)) s->ρ (model X.prog X.w) X.A (f (.int i t) (.int j u)) Q E s):
  eB X f (nJ fun i j=>.bl (g i j)):=by
 intro pins s σ H x y v u Q I rx ry h;obtain⟨i,j,rfl,rfl,q⟩:=h;obtain⟨t,rfl⟩:=rx;obtain⟨t',rfl⟩:=ry;exact rule i j t t' s _ _ ⟨.bl (g i j),H,I,rfl,q⟩
def uZ(i j:Int):Prop:=0≤j/\j≤1000000/\i.natAbs<2^64
theorem Jv:eB X (binaryOp .Add) (nJ fun i j=>.int (i+j)):=Jw fun _ _ _ _ _ _ _ q=>add_int q
theorem lG:eB X (binaryOp .Sub) (nJ fun i j=>.int (i-j)):=Jw fun _ _ _ _ _ _ _ q=>sub_int q
theorem mH:eB X (binaryOp .Mod) (rI (fun _ j=>0<j) fun i j=>.int (i%j)):=Az fun i j _ _ _ _ _ hc q=>by
 have h1:(0:Int)<j:=hc;exact mod_int' (by lia) (by rw[Int.fmod_eq_emod_of_nonneg i (by lia)];exact q)
theorem uC:eB X (binaryOp .Pow) (rI uZ fun i j=>.int (i^j.toNat)):=Az fun _ _ _ _ _ _ _ hc q=>pow_int_small hc.1 hc.2.1 hc.2.2 q
theorem T6:eB X (binaryOp .LShift) (rI uZ fun i j=>.int (i*2^j.toNat)):=Az fun _ _ _ _ _ _ _ hc q=>lshift_int_small hc.1 hc.2.1 hc.2.2 q
theorem Xy{f:δ->Sem δ}{g:Int->Int}
  (rule:∀(i:Int) (t:Tok) (s:η) (Q:δ->η->Prop) (E:δ->η->Prop),Q (.int (g i) s.toks) { s with toks:=s.toks+1 }->ρ (model X.prog X.w) X.A (f (.int i t)) Q E s):
  JX X f (rU fun i=>.int (g i)):=by
 intro pins s σ H x v Q I rx h;obtain⟨i,rfl,q⟩:=h;obtain⟨t,rfl⟩:=rx;exact rule i t s _ _ ⟨.int (g i),H,I.tok _,⟨_,rfl⟩,q⟩
theorem T5:JX X (unaryOp .USub) (rU fun i=>.int (-i)):=Xy fun _ _ _ _ _ q=>neg_int q
end
section
variable {X:Cx} {a b c:π} {ta tb tc:TE} {pos:aL}
theorem Jd{pins:List (ε×aN)}{σ:St}{H:Hp}{s:η}{Q:VK}{k k':Bool}(I:Inv X pins σ H s)(q:Q (.bl k) H)(e:k=k'):EP X pins σ Q (.bool k') s:=by
 subst e;exact⟨.bl k,H,I,rfl,q⟩
theorem Kn:eB X (compareOp .Lt) (nJ fun i j=>.bl (decide (i<j))):=yx fun _ _ _ _ _ _ _ q=>lt_int q
theorem Jc:eB X (compareOp .LtE) (nJ fun i j=>.bl (decide (i≤j))):=yx fun _ _ _ _ _ _ _ q=>le_int q
theorem uM:eB X (compareOp .Gt) (nJ fun i j=>.bl (decide (j<i))):=yx fun _ _ _ _ _ _ _ q=>gt_int q
theorem T4:eB X (compareOp .GtE) (nJ fun i j=>.bl (decide (j≤i))):=yx fun _ _ _ _ _ _ _ q=>ge_int q
theorem Jb:eB X (compareOp .Is) (fun x y H Q=>y=.ak/\Q (.bl (decide (x=.ak))) H):=by
 intro pins s σ H x y v u Q I rx ry h;obtain⟨rfl,q⟩:=h;cases ry;refine is_none_gen (Jd I q ?_);cases x<;>first
  | (cases rx;rfl)
  | (obtain⟨t,rfl⟩:=rx;rfl)
theorem Ja:eB X (compareOp .IsNot) (fun x y H Q=>y=.ak/\Q (.bl (!decide (x=.ak))) H):=by
 intro pins s σ H x y v u Q I rx ry h;obtain⟨rfl,q⟩:=h;cases ry;refine isnot_none_gen (Jd I q ?_);cases x<;>first
  | (cases rx;rfl)
  | (obtain⟨t,rfl⟩:=rx;rfl)
theorem eB.or{f:δ->δ->Sem δ}{r r':R2}(h:eB X f r)(h':eB X f r'):eB X f (fun x y H Q=>r x y H Q∨r' x y H Q):=by
 intro pins s σ H x y v u Q I rx ry q;rcases q with q|q
 ·exact h pins s σ H x y v u Q I rx ry q
 ·exact h' pins s σ H x y v u Q I rx ry q
theorem bG(b:π){op:CmpOp}(h:op≠.In:=by decide)(h2:op≠.NotIn:=by decide):behindInMarks op b=false:=by
 have e1:(op==CmpOp.In)=false:=by cases op<;>first|rfl|exact absurd rfl h
 have e2:(op==CmpOp.NotIn)=false:=by cases op<;>first|rfl|exact absurd rfl h2
 cases b<;>simp[behindInMarks,e1,e2]
theorem T3{op:CmpOp}{r:R2}(ho:eB X (compareOp op) r)(ha:PE X a ta)(hb:PE X b tb)(hm:behindInMarks op b=false):PE X (.Compare a [op] [b] pos) (Ak r ta tb):=by
 intro pins s σ H Q I h;exact wpAny_Compare1 (CQ ha hb I h fun v u s2 x y H2 I2 rx ry q=>ho pins s2 σ H2 x y v u Q I2 rx ry q) hm
def CY(t:TE):TT:=fun σ H Q=>t σ H fun x H'=>∃k,x=.bl k/\Q k H'
theorem T1{op:CmpOp}{r:R2}(ho:eB X (compareOp op) r)(ha:PE X a ta)(hb:PE X b tb)(hm:behindInMarks op b=false):PT X (.Compare a [op] [b] pos) (CY (Ak r ta tb)):=by
 intro pins s σ H Q I h;refine wpAny_isTrue_Compare1 (bL (ha pins s σ H _ I h) fun v s1 ⟨x,H1,I1,r1,q1⟩=>bL (hb pins s1 σ H1 _ I1 q1) fun u s2 ⟨y,H2,I2,r2,q2⟩=>
  bL (ho pins s2 σ H2 x y v u _ I2 r1 r2 q2) fun c s3 ⟨z,H3,I3,r3,k,e,q3⟩=>?_) hm
 subst e;cases r3;exact gX ⟨H3,I3,q3⟩
def JY(K:ζ)(x:V)(H:Hp)(k:Bool):Prop:=
 match x with
 |.ak=>k=false
 |.bl b=>k=b
 |.int i=>k=(i != 0)
 |.str y=>y.length≤aj/\k=((y.length:Int) != 0)
 |.AG y=>y.size≤aj/\k=((y.size:Int) != 0)
 |.ref p=>(∃xs,eA K H p xs/\k = !xs.isEmpty)∨(∃xs,cF K H p xs/\k = !xs.isEmpty)∨∃kvs,H p=some (.dK kvs)/\k = !kvs.isEmpty
 |_=>False
theorem TZ{κ:Type}{kvs:List (κ×V)}{vs:List (κ×δ)}(r:KV kvs vs):(!vs.isEmpty) = !kvs.isEmpty:=by
 cases r<;>rfl
theorem IZ{xs:List V}{its:List δ}(r:bh xs its):(!its.toArray.isEmpty) = !xs.isEmpty:=by
 cases r<;>simp
theorem nL:(aj:Nat)<2^63:=by rw[cy];decide
theorem TY:Xw X (fun x H Q=>∃k,JY X.K x H k/\Q k H):=by
 intro pins s σ H x v Q I rx h;obtain⟨k,e,q⟩:=h;have hl:=nL;have hs:aj=16777216:=cy;cases x with
 |ak=>
  cases rx;have e':k=false:=e;subst e';exact truthy_none ⟨H,I,q⟩
 |bl b=>
  cases rx;have e':k=b:=e;subst e';exact gX ⟨H,I,q⟩
 |int i=>
  obtain⟨t,rfl⟩:=rx;have e':k=(i != 0):=e;subst e';exact PySem.P.truthy_int ⟨H,I,q⟩
 |str y=>
  obtain⟨t,rfl⟩:=rx;obtain⟨hy,e'⟩:y.length≤aj/\k=((y.length:Int) != 0):=e;subst e';exact PySem.P.truthy_str (by lia) ⟨H,I.tok _,q⟩
 |AG y=>
  obtain⟨t,rfl⟩:=rx;obtain⟨hy,e'⟩:y.size≤aj/\k=((y.size:Int) != 0):=e;subst e';exact PySem.W.truthy_bytes (by lia) ⟨H,I.tok _,q⟩
 |ref p=>
  cases rx;have e':(∃xs,eA X.K H p xs/\k = !xs.isEmpty)∨(∃xs,cF X.K H p xs/\k = !xs.isEmpty)∨∃kvs,H p=some (.dK kvs)/\k = !kvs.isEmpty:=e;rcases e' with⟨xs,hx,e'⟩|⟨xs,hx,e'⟩|⟨kvs,hx,e'⟩
  ·subst e';obtain⟨its,r,pl,hz⟩:=I.list hx;have hlen:=r.length;exact wpAny_truthy_list pl.isList (by simp only[υ];lia) ⟨H,I.tok _,by rw[IZ r];exact q⟩
  ·subst e';obtain⟨its,r,pl,hz⟩:=I.tuple hx;have hlen:=r.length;exact truthy_tuple pl (by simp only[υ];lia) ⟨H,I.tok _,by rw[IZ r];exact q⟩
  ·subst e';obtain⟨hz,hS,vs,r,m⟩:kvs.length≤aj/\(p==sysModules)=false/\∃vs,KV kvs vs/\s.heap.DictOf (uP X.prog X.w) p vs:=I.cq p _ hx;have hlen:kvs.length=vs.length:=Paired.length r;exact wpAny_truthy_dict hS m (by lia) ⟨H,I.tok _,by rw[TZ r];exact q⟩
 |_=>exact (show False from e).elim
theorem TX(ha:PE X a ta)(he:∀whole,isTrue a X.env whole=(do let v ←whole;standAt a.pos;holding [v] (truthy v))):
  PT X a (fun σ H Q=>ta σ H fun x H'=>∃k,JY X.K x H' k/\Q k H'):=by
 intro pins s σ H Q I h;exact isTrue_plain (bL (ha pins s σ H _ I h) fun v s1 ⟨x,H1,I1,r1,q1⟩=>TY pins s1 σ H1 x v Q I1 r1 q1) (he _)
theorem vals1{x:V}{us:List δ}(r:bh [x] us):∃u,us=[u]/\RelV x u:=by
 cases r with
 |cons r1 r2=>cases r2;exact⟨_,rfl,r1⟩
theorem vals2{x y:V}{us:List δ}(r:bh [x,y] us):∃u w',us=[u,w']/\RelV x u/\RelV y w':=by
 cases r with
 |cons r1 r2=>
  cases r2 with
  |cons r3 r4=>cases r4;exact⟨_,_,rfl,r1,r3⟩
theorem TV(hc:X.calm=true):ju X (.builtin "max") (fun xs H Q=>∃i j,xs=[.int i,.int j]/\Q (.int (if j > i then j else i)) H):=by
 intro pins s σ H xs us Q I r h;obtain⟨i,j,rfl,q⟩:=h;obtain⟨u,w',rfl,⟨t,rfl⟩,⟨t',rfl⟩⟩:=vals2 r;refine max_two_ints (I.ok.hd hc) fun h' tk k=>⟨_,H,I.kept k,?_,q⟩;by_cases hj:j > i
 ·rw[if_pos hj,if_pos hj];exact⟨_,rfl⟩
 ·rw[if_neg hj,if_neg hj];exact⟨_,rfl⟩
theorem SX(hc:X.calm=true):ju X (.builtin "min") (fun xs H Q=>∃i j,xs=[.int i,.int j]/\Q (.int (if j<i then j else i)) H):=by
 intro pins s σ H xs us Q I r h;obtain⟨i,j,rfl,q⟩:=h;obtain⟨u,w',rfl,⟨t,rfl⟩,⟨t',rfl⟩⟩:=vals2 r;refine min_two_ints (I.ok.hd hc) fun h' tk k=>⟨_,H,I.kept k,?_,q⟩;by_cases hj:j<i
 ·rw[if_pos hj,if_pos hj];exact⟨_,rfl⟩
 ·rw[if_neg hj,if_neg hj];exact⟨_,rfl⟩
theorem SW:ju X (.type "int") (fun xs H Q=>(∃i,xs=[.int i]/\Q (.int i) H)∨∃k,xs=[.bl k]/\Q (.int (if k then 1 else 0)) H):=by
 intro pins s σ H xs us Q I r h;rcases h with⟨i,rfl,q⟩|⟨k,rfl,q⟩
 ·obtain⟨u,rfl,t,rfl⟩:=vals1 r;exact call_int_int ⟨.int i,H,I,⟨_,rfl⟩,q⟩
 ·obtain⟨u,rfl,r1⟩:=vals1 r;cases r1;exact call_int_bool ⟨.int (if k then 1 else 0),H,I.tok _,⟨_,rfl⟩,q⟩
end
end L2
namespace L2
open PySem PySem.Spec PyProof.Rows
structure gk(k:Nat)(A:bT):Prop where
 hd:A.handled=none
 dp:A.depth+3*k+5<recursionLimit
 un:A.units+16*k+200<cLine
theorem gk.mono{j k:Nat}{A:bT}(r:gk k A)(h:j≤k):gk j A:=⟨r.hd,by have:=r.dp;lia,by have:=r.un;lia⟩
theorem gk.deeper{k:Nat}{A:bT}(r:gk (k+1) A)(env:ir):gk k (A.deeper env):=
 ⟨r.hd,by have:=r.dp;show A.depth+1+3*k+5<_;lia,by have:=r.un;show A.units+3+16*k+200<_;lia⟩
theorem gk.depth{k:Nat}{A:bT}(r:gk k A):A.depth<recursionLimit:=by have:=r.dp;lia
theorem gk.units{k:Nat}{A:bT}(r:gk k A):A.units+64<cLine:=by have:=r.un;lia
theorem gk.qT{k:Nat}{A:bT}(r:gk k A):A.units<cLine:=by have:=r.un;lia
def Ls:TA:=fun _ H Q=>Q [] H
def Kh(ta:TE)(tr:TA):TA:=fun σ H Q=>ta σ H fun x H1=>tr σ H1 fun xs H2=>Q (x::xs) H2
section
variable {X:Cx} {e:π} {es:List π} {te:TE} {t:TA} {pos:aL}
theorem yk:PA X [] Ls:=fun _ _ _ _ H Q I h=>sE ⟨[],H,I,.nil,h⟩
theorem wA(ha:PE X e te)(hr:PA X es t)(hs:bJ (e::es) X.env=(false,eval e X.env)::bJ es X.env:=by rfl):PA X (e::es) (Kh te t):=by
 intro pos pins s σ H Q I h;rw[hs];show ρ _ _ (spliced ((false,eval e X.env)::backTo pos (bJ es X.env))) _ _ s;refine mB (bL (ha pins s σ H _ I h) fun u s1 ⟨x,H1,I1,r1,q1⟩=>?_);exact bL (hr pos pins s1 σ H1 _ I1 q1) fun us s2 ⟨xs,H2,I2,r2,q2⟩=>⟨x::xs,H2,I2,.cons r1 r2,q2⟩
def Lo(t:TA):TE:=fun σ H Q=>t σ H fun xs H1=>xs.length≤aj/\∀p,H1 p=none->Q (.ref p) (upd H1 p (.tup xs))
def Lu(t:TA):TE:=fun σ H Q=>t σ H fun xs H1=>xs.length≤aj/\∀p,H1 p=none->Q (.ref p) (upd H1 p (.lst xs))
theorem SV{x1}(h:PA X es t):PE X (.Tuple es x1 pos) (Lo t):=by
 intro pins s σ H Q I hq;refine wpAny_Tuple_spliced (bL (h pos pins s σ H _ I hq) fun us s1 ⟨xs,H1,I1,r,z,q⟩=>⟨by rw[←r.length];exact z,?_⟩);have hf:H1 s1.heap.objs.size=none:=I1.cq.fresh (Γ _);refine⟨.ref s1.heap.objs.size,upd H1 s1.heap.objs.size (.tup xs),I1.laid (t':=s1.toks) (fun b u e=>ν _ e) (Γ _) ?_,rfl,q _ hf⟩;exact⟨z,us,r,⟨_,Φ _ rfl,rfl,⟨_,rfl⟩,rfl⟩⟩
theorem IY(h:PA X es t):PE X (.List es pos) (Lu t):=by
 intro pins s σ H Q I hq;refine wpAny_List_spliced (bL (h pos pins s σ H _ I hq) fun us s1 ⟨xs,H1,I1,r,z,q⟩=>⟨by rw[←r.length];exact z,?_⟩);have hf:H1 s1.heap.objs.size=none:=I1.cq.fresh (Γ _);refine⟨.ref s1.heap.objs.size,upd H1 s1.heap.objs.size (.lst xs),I1.laid (t':=s1.toks) (fun b u e=>ν _ e) (Γ _) ?_,rfl,q _ hf⟩;exact⟨z,us,0,r,Φ _ rfl⟩
end
abbrev Sp:=List V->Hp->VK->XK->Prop
abbrev qJ:=List ir->Hp->η->XK->δ->η->Prop
structure Ad(P:aG)(w:aQ)(K:ζ)(mg:ψ->Option δ)(base:ay)(A:bT)(outer:List ir)(s:η)(H:Hp):Prop where
 frames:A.frames=some outer
 mod:Mod K mg base
 bs:∀b o,base.get? b=some o->s.heap.get? b=some o/\H b=none
 t7:base.objs.size≤s.heap.objs.size
 mK:s.heap.FunFrames base outer
 wX:∀b∈rG outer,H b=none
 cq:jb P w H s.heap
 bare:kr s.gens
def CE(outer:List ir)(P:aG)(w:aQ)(H:Hp)(s:η)(Q:VK)(u:δ)(s':η):Prop:=
 ∃v H',s'.os=s.os/\kr s'.gens/\Un (rG outer) [] H H' s.heap s'.heap/\jb P w H' s'.heap/\RelV v u/\Q v H'
def CR(CX:qJ)(outer:List ir)(P:aG)(w:aQ)(H:Hp)(s:η)(Q:VK)(E:XK)(r:Result)(s':η):Prop:=
 match r with
 |.ok (.ret u)=>CE outer P w H s Q u s'
 |.ok _=>False
 |.error e=>CX outer H s E e s'
structure jJ(P:aG)(w:aQ)(K:ζ)(mg:ψ->Option δ)(base:ay)(CX:qJ)(k:Nat)(f:ε)(fd:aE)(ps:List ψ)(sp:Sp):Prop where
 len:∀vs H Q E,sp vs H Q E->vs.length=ps.length
 run:∀(A:bT) (outer:List ir) (s:η) (H:Hp) (args:Args) (us:List δ) (vs:List V) (Q:VK) (E:XK),gk k A->Ad P w K mg base A outer s H->pZ s fd args (ps.zip us)->bh vs us->sp vs H Q E ->
  kn (model P w) A (.call (.ref f) args) (CR CX outer P w H s Q E) s
theorem jJ.mono{P:aG}{w:aQ}{K:ζ}{mg:ψ->Option δ}{base:ay}{CX:qJ}{j k:Nat}{f:ε}{fd:aE}{ps:List ψ}{sp:Sp}(F:jJ P w K mg base CX j f fd ps sp)(h:j≤k):
  jJ P w K mg base CX k f fd ps sp:=⟨F.len,fun A outer s H args us vs Q E hr=>F.run A outer s H args us vs Q E (hr.mono h)⟩
theorem jJ.imp{P:aG}{w:aQ}{K:ζ}{mg:ψ->Option δ}{base:ay}{CX:qJ}{k:Nat}{f:ε}{fd:aE}{ps:List ψ}{sp sp':Sp}(F:jJ P w K mg base CX k f fd ps sp)
  (h:∀vs H Q E,sp' vs H Q E->sp vs H Q E):jJ P w K mg base CX k f fd ps sp':=
 ⟨fun vs H Q E q=>F.len vs H Q E (h _ _ _ _ q),fun A outer s H args us vs Q E hr he hb hv hs=>F.run A outer s H args us vs Q E hr he hb hv (h _ _ _ _ hs)⟩
section
variable {X:Cx} {pins:List (ε×aN)} {σ:St} {H:Hp} {s s':η}
theorem Inv.Xh(I:Inv X pins σ H s):Ad X.prog X.w X.K X.mg X.base X.A X.stack s H:=
 ⟨I.ok.frames,I.ok.mod,I.bs,ae I.ok.t7 I.sz,I.stack,I.xl,I.cq,I.bare⟩
theorem Inv.after{Q:VK}{u:δ}(I:Inv X pins σ H s)(h:CE X.stack X.prog X.w H s Q u s'):EP X pins σ Q u s':=by
 obtain⟨v,H',os,bare,un,cq,r,q⟩:=h;obtain⟨hh,g,d,t,os'⟩:=s';obtain rfl:os'=s.os:=os;exact⟨v,H',I.call (h':=hh) (g':=g) (d':=d) (t':=t) (ch:=[]) un cq bare (fun b z=>absurd z (by simp)),r,q⟩
end
def CZ(sp:Sp)(dvs:List V)(E:XK)(t:TA):TE:=fun σ H Q=>t σ H fun vs H1=>sp (vs++dvs) H1 Q E
def Binds(K:ζ)(fd:aE)(ps:List ψ)(ds:List δ):Prop:=
 ∀(s:η) (us:List δ),K.In s.heap->(us++ds).length=ps.length->pZ s fd ⟨us,[]⟩ (ps.zip (us++ds))
theorem Binds.all{K:ζ}{fd:aE}{ps:List ψ}(h:∀us:List δ,us.length=ps.length->bindArgs fd ⟨us,[]⟩=pure (ps.zip us)):Binds K fd ps []:=fun s us _ hl=>by
 rw[cU] at hl ⊢;exact .of_eq (h us hl)
def xc(CX:qJ)(X:Cx)(E:XK):Prop:=∀(pins:List (ε×aN)) (σ:St) (H:Hp) (s:η) (e:δ) (s':η),Inv X pins σ H s->CX X.stack H s E e s'->X.xe e s'
section
variable {X:Cx} {CX:qJ} {k:Nat} {f C:ε} {fd:aE} {ps:List ψ} {sp:Sp} {dvs:List V} {ds:List δ} {E:XK} {x m:ψ} {p pos apos:aL} {e o:π} {es:List π} {ta:TE} {t:TA}
theorem SU{pins:List (ε×aN)}{σ:St}{H:Hp}{s:η}{Q:VK}{us:List δ}{vs:List V}(F:jJ X.prog X.w X.K X.mg X.base CX k f fd ps sp)(hr:gk k X.A)(hb:Binds X.K fd ps ds)(hd:bh dvs ds)(hx:xc CX X E)
  (I:Inv X pins σ H s) (r:bh vs us) (h:sp (vs++dvs) H Q E):ρ (model X.prog X.w) X.A (call (.ref f) us) (EP X pins σ Q) X.xe s:=by
 have r2:bh (vs++dvs) (us++ds):=r.append hd;have hl:(us++ds).length=ps.length:=by rw[←r2.length];exact F.len _ _ _ _ h
 refine wpAny_call (kM (F.run X.A X.stack s H ⟨us,[]⟩ (us++ds) (vs++dvs) Q E hr I.Xh (hb s us I.mU hl) r2 h) fun r s' hq=>?_);cases r with
 |error e=>exact hx pins σ H s e s' I hq
 |ok fl=>
  cases fl with
  |ret u=>exact I.after hq
  |next=>exact gb hq
  |brk=>exact gb hq
  |cont=>exact gb hq
theorem SR(F:jJ X.prog X.w X.K X.mg X.base CX k f fd ps sp)(hr:gk k X.A)(hg:Gl X x)(hm:X.mg x=some (.ref f))(hk:hV X.K (.ref f)=true)(hb:Binds X.K fd ps ds)(hd:bh dvs ds)(hx:xc CX X E)
  (ha:PA X (e::es) t) (hdb:(x==("__debug__":ψ))=false:=by decide) (he:bJ (e::es) X.env=(false,eval e X.env)::bJ es X.env:=by rfl) (hpl:(backTo pos (bJ es X.env)).any (·.1)=false:=by rfl):
  PE X (.Call (.Name x p) (e::es) [] pos) (CZ sp dvs E t):=by
 intro pins s σ H Q I h;refine ml (Jf I hg hm ?_ hdb);refine PySem.W.callWith_K (h₀:=X.base) I.ok.mod.Dq hk (bL (ha pos pins s σ H _ I h) fun us s1 ⟨vs,H1,I1,r,q⟩=>⟨I1.mU,?_⟩) he hpl;exact SU F hr hb hd hx I1 r q
end
structure bC(N P:List ψ)(sc:gM):Prop where
 kind:sc.kind=.function
 co:sc.isCoroutine=false
 gen:sc.isGenerator=false
 nd:N.Nodup
 pre:N.take P.length=P
 par:∀x∈P,sc.names.lookup x=some .local∨sc.names.lookup x=some .cell
 Jy:∀y∈sc.names,y.2≠.free
theorem IX{kindOf:ψ->Option fm}{x:ψ}:∀{binds:List (ψ×δ)} {m:ψ->Option δ},(∀v,(x,v)∉binds)->bindL kindOf binds m x=m x
 |[],_,_=>rfl
 | (n,v)::r,m,h=>by
  unfold bindL;rw[IX fun w hw=>h w (Θ _ hw)];split
  ·have:x≠n:=by rintro rfl;exact h v Ψ
   simp[this]
  ·rfl
theorem IW{kindOf:ψ->Option fm}{x:ψ}:∀{binds:List (ψ×δ)} {m:ψ->Option δ},(∀v,(x,v)∉binds)->bindC kindOf binds m x=m x
 |[],_,_=>rfl
 | (n,v)::r,m,h=>by
  unfold bindC;rw[IW fun w hw=>h w (Θ _ hw)];split
  ·rfl
  ·have:x≠n:=by rintro rfl;exact h v Ψ
   simp[this]
theorem IV{kindOf:ψ->Option fm}{x:ψ}{v:δ}:∀{P:List ψ} {vs:List δ} {i:Nat} {m:ψ->Option δ},P.Nodup->P[i]?=some x->vs[i]?=some v->kindOf x=some .local ->
  bindL kindOf (P.zip vs) m x=some v
 |[],_,_,_,_,h,_,_=>by simp at h
 |_::_,[],_,_,_,_,h,_=>by simp at h
 |p::P,w::vs,0,m,nd,h1,h2,hk=>by
  simp at h1 h2;subst h1;subst h2;show bindL kindOf ((p,w)::P.zip vs) m p=_;unfold bindL;rw[IX fun v hv=>(dN.mp nd).1 (kQ hv).1,if_pos hk];simp
 |p::P,w::vs,i+1,m,nd,h1,h2,hk=>by
  show bindL kindOf ((p,w)::P.zip vs) m x=_;unfold bindL;exact IV (i:=i) (dN.mp nd).2 (by simpa using h1) (by simpa using h2) hk
theorem IU{kindOf:ψ->Option fm}{x:ψ}{v:δ}:∀{P:List ψ} {vs:List δ} {i:Nat} {m:ψ->Option δ},P.Nodup->P[i]?=some x->vs[i]?=some v->kindOf x≠some .local ->
  bindC kindOf (P.zip vs) m x=some v
 |[],_,_,_,_,h,_,_=>by simp at h
 |_::_,[],_,_,_,_,h,_=>by simp at h
 |p::P,w::vs,0,m,nd,h1,h2,hk=>by
  simp at h1 h2;subst h1;subst h2;show bindC kindOf ((p,w)::P.zip vs) m p=_;unfold bindC;rw[IW fun v hv=>(dN.mp nd).1 (kQ hv).1,if_neg hk];simp
 |p::P,w::vs,i+1,m,nd,h1,h2,hk=>by
  show bindC kindOf ((p,w)::P.zip vs) m x=_;unfold bindC;exact IU (i:=i) (dN.mp nd).2 (by simpa using h1) (by simpa using h2) hk
def start(N:List ψ)(vs:List V):St:=vs.map some++av (N.length-vs.length) none
def rJ(CX:qJ)(P:aG)(w:aQ)(K:ζ)(mg:ψ->Option δ)(base:ay)(N:List ψ)(qual:ψ)(scope:gM)(f:ε)(cd:δ)(A:bT)(outer:List ir)(s:η)(H:Hp)(E:XK):Cx where
 prog:=P
 w:=w
 K:=K
 mg:=mg
 base:=base
 A:=A.deeper (envOfC qual scope s.heap.objs.size f cd)
 N:=N
 s₀:=s
 H₀:=H
 env:=envOfC qual scope s.heap.objs.size f cd
 outer:=outer
 stack:=envOfC qual scope s.heap.objs.size f cd::outer
 ex:=[]
 calm:=true
 fn:=fun _=>true
 pn:=[]
 xe:=fun e s'=>ρ (model P w) (A.deeper (envOfC qual scope s.heap.objs.size f cd)) (leaving (envOfC qual scope s.heap.objs.size f cd) e) (fun _ s''=>CX outer H s E e s'') (fun e' s''=>CX outer H s E e' s'') s'
theorem IT{sc:gM}{n:Nat}{x:ψ}(h:sc.names.lookup x=some .cell):∃c,(cellsFrom n sc.names []).lookup x=some c:=by
 have q:=pq sc.names n [] (.inl h);exact Option.isSome_iff_exists.mp q
theorem SQ{CX:qJ}{P:aG}{w:aQ}{K:ζ}{mg:ψ->Option δ}{base:ay}{N ps:List ψ}{qual:ψ}{scope:gM}{f:ε}{cd:δ}{A:bT}{outer:List ir}{s s1:η}{H:Hp}{E:XK}{us:List δ}{vs:List V}
  (S:bC N ps scope) (hd:A.handled=none) (e0:Ad P w K mg base A outer s H) (hl:vs.length=ps.length) (r:bh vs us)
  (x:InCallC s s.heap.objs.size (bindL (envOfC qual scope s.heap.objs.size f cd).kindOf (ps.zip us) fun _=>none) (cellsFrom (s.heap.objs.size+1) scope.names []) (bindC (envOfC qual scope s.heap.objs.size f cd).kindOf (ps.zip us) fun _=>none) s1):
  Inv (rJ CX P w K mg base N qual scope f cd A outer s H E) [] (start N vs) H s1:=by
 have hpl:ps.length≤N.length:=by have:=congrArg eJ S.pre;rw[de] at this;lia
 obtain⟨h1,tk,rfl,hk⟩:=x.done;have noA:∀b:ε,b∉(rJ CX P w K mg base N qual scope f cd A outer s H E).ex:=fun b z=>absurd (show b∈([]:List ε) from z) (by simp);refine⟨⟨e0.mod,S.kind,rfl,rfl,Γ _,fun y z c h1 h2=>?_,fun y hy=>?_,fun y c _ h=>?_,fun _=>hd,bT.frames_deeper e0.frames,.inr ⟨rfl,rfl⟩,fun b z=>absurd z (noA b),e0.bs,e0.t7,fun b _ _=>noA b,fun b z=>absurd z (noA b),e0.mK,e0.wX⟩,
  rfl,e0.bare,Un.kept hk,⟨_,x.toInCall.ns,fun i y v h1 h2 h3=>?_⟩,fun y c h=>⟨_,x.cell y c h⟩,e0.cq.fresh (Γ _),fun y c h=>?_,fun p hp=>absurd (show p∈([]:List (ε×aN)) from hp) (by simp),e0.cq.kept hk,?_⟩
 ·exact name_of_addr x.apart (fi h1) (fi h2)
 ·have hy:scope.names.lookup y=some .cell∨scope.names.lookup y=some .free:=hy;rcases hy with hy|hy
  ·exact IT hy
  ·exact absurd rfl (S.Jy _ (fi hy))
 ·exact og (x.above y c (fi h))
 ·have hi:i<vs.length:=by
   unfold start at h2;by_cases hi:i<vs.length
   ·exact hi
   ·rw[dW (by simpa using hi)] at h2;rw[gD] at h2;split at h2<;>cases h2
  have ha:vs[i]?=some v:=by
   unfold start at h2;rw[eF (by simpa using hi),ag] at h2;cases e:vs[i]? with
   |none=>rw[e] at h2;cases h2
   |some a=>rw[e] at h2;cases h2;rfl
  obtain⟨u,hu,rv⟩:=r.get ha;have hp:ps[i]?=some y:=by
   rw[←S.pre,oo (by lia)];exact h1
  have ndP:ps.Nodup:=by rw[←S.pre];exact S.nd.sublist (m8 _ _)
  refine⟨u,rv,?_⟩;rcases S.par y (bN hp) with k|k
  ·exact .inl ⟨k,IV ndP hp hu k⟩
  ·obtain⟨c,e⟩:=IT (n:=s.heap.objs.size+1) k;refine .inr ⟨.inl k,c,e,?_⟩;have q:=x.cell y c e;rw[IU ndP hp hu (by show scope.names.lookup y≠_;rw[k];decide)] at q;exact q
 ·exact e0.cq.fresh (og (x.above y c (fi h)))
 ·unfold start;show _=N.length;rw[aa,ξ,fI];lia
theorem SO{CX:qJ}{P:aG}{w:aQ}{K:ζ}{mg:ψ->Option δ}{base:ay}{k:Nat}{f:ε}{name qual:ψ}{params:Arguments}{body:List aS}{scope:gM}{dV kV doc pm cdv ct oc:δ}{an od:Option ε}
  {osl:Array (Option δ)} {N ps:List ψ} {sp:Sp} (lk:K.lookup f=some ⟨oc,od,.func (hX name qual params body scope dV kV doc pm an cdv ct),osl⟩) (rF:lM K cdv qual=true) (S:bC N ps scope)
  (len:∀vs H Q E,sp vs H Q E->vs.length=ps.length)
  (qp:∀(A:bT) (outer:List ir) (s:η) (H:Hp) (vs:List V) (Q:VK) (E:XK),gk k (A.deeper (envOfC qual scope s.heap.objs.size f cdv))->sp vs H Q E ->
   ∃t,mW (rJ CX P w K mg base N qual scope f cdv A outer s H E) body t/\t { nx:=fun _ H'=>Q .ak H',rt:=Q } (start N vs) H):
  jJ P w K mg base CX (k+1) f (hX name qual params body scope dV kV doc pm an cdv ct) ps sp:=by
 refine⟨len,fun A outer s H args us vs Q E hr e0 hb r vd=>?_⟩;have hl:=len _ _ _ _ vd;have KX:K.In s.heap:=e0.mod.Dq.keeps fun b o e=>(e0.bs b o e).1;have lim:s.heap.NoLimit:=e0.mod.nolimit.keeps fun b o e=>(e0.bs b o e).1;have hkind:∀y∈ps.zip us,scope.names.lookup y.1=some .local∨(scope.names.lookup y.1=some .cell/\((cellsFrom (s.heap.objs.size+1) scope.names []).lookup y.1).isSome=true):=fun⟨n,v⟩ hy=>by
  rcases S.par n (kQ hy).1 with q|q
  ·exact .inl q
  ·exact .inr ⟨q,pq _ _ _ (.inl q)⟩
 refine codeAny_call_function hr.depth (KX _ _ lk) rfl S.co S.gen rfl (PySem.W.codeRec_of KX rF) (hb _ _ _ _ ?_);refine wpAny_newFunctionEnv_cells S.kind hkind fun env he s1 x=>?_;subst he;refine⟨lim.keeps x.toInCall.keep,codeAny_func ?_⟩;obtain⟨t,ht,hq⟩:=qp A outer s H vs Q E (hr.deeper _) vd;have I:Inv (rJ CX P w K mg base N qual scope f cdv A outer s H E) [] (start N vs) H s1:=SQ S hr.hd e0 hl r x;refine fw (ht [] s1 (start N vs) H _ I hq) (fun fl s' hs=>?_) fun e s' hs=>hs;have fin:∀{σ':St} {H':Hp} {v:V} {u:δ},Inv (rJ CX P w K mg base N qual scope f cdv A outer s H E) [] σ' H' s'->RelV v u->Q v H'->CE outer P w H s Q u s':=
  fun {σ' H' v u} J rv q=>⟨v,H',J.os,J.bare,J.base,J.cq,rv,q⟩
 cases fl with
 |ret u=>
  obtain⟨v,σ',H',J,rv,q⟩:=hs;exact fin J rv q
 |next=>
  obtain⟨σ',H',J,q⟩:=hs;exact fin (v:=V.ak) (u:=b6) J rfl q
 |brk=>
  obtain⟨_,_,_,q⟩:=hs;exact gb q
 |cont=>
  obtain⟨_,_,_,q⟩:=hs;exact gb q
end L2
namespace L2
open PySem PySem.Spec PyProof.Rows
section
variable {X:Cx} {x:ψ} {p pos:aL} {e:π} {es:List π} {t:TA} {id T:String} {r:List V->Hp->VK->Prop}
def C0(r:List V->Hp->VK->Prop)(t:TA):TE:=fun σ H Q=>t σ H fun vs H1=>r vs H1 Q
theorem rq(hc:ju X (.builtin id) r)(hg:Gl X x)(hm:X.mg x=none)(hv:gn x=some (.builtin id))(ha:PA X (e::es) t)(hn:x≠"__name__":=by decide)(hdb:(x==("__debug__":ψ))=false:=by decide)
  (he:bJ (e::es) X.env=(false,eval e X.env)::bJ es X.env:=by rfl) (hpl:(backTo pos (bJ es X.env)).any (·.1)=false:=by rfl):PE X (.Call (.Name x p) (e::es) [] pos) (C0 r t):=by
 intro pins s σ H Q I h;refine ml (rA I hg hm hv ?_ hn hdb);exact PyProof.Rows.callWith_builtin1 (bL (ha pos pins s σ H _ I h) fun us s1 ⟨vs,H1,I1,r1,q1⟩=>hc pins s1 σ H1 vs us Q I1 r1 q1) he hpl
theorem Cf(hc:ju X (.type T) r)(hg:Gl X x)(hm:X.mg x=none)(hv:gn x=some (.type T))(ha:PA X (e::es) t)(hn:x≠"__name__":=by decide)(hdb:(x==("__debug__":ψ))=false:=by decide)
  (he:bJ (e::es) X.env=(false,eval e X.env)::bJ es X.env:=by rfl) (hpl:(backTo pos (bJ es X.env)).any (·.1)=false:=by rfl):PE X (.Call (.Name x p) (e::es) [] pos) (C0 r t):=by
 intro pins s σ H Q I h;refine ml (rA I hg hm hv ?_ hn hdb);exact cV (bL (ha pos pins s σ H _ I h) fun us s1 ⟨vs,H1,I1,r1,q1⟩=>hc pins s1 σ H1 vs us Q I1 r1 q1) he hpl
end
end L2
namespace HT
open PySem PyProof.Rows
def lexLt:List Int->List Int->Bool
 |[],[]=>false
 |[],_::_=>true
 |_::_,[]=>false
 |x::xs,y::ys=>if x=y then lexLt xs ys else decide (x<y)
theorem SN(x y:Int)(xs ys:List Int):lexLt (x::xs) (y::ys)=if x=y then lexLt xs ys else decide (x<y):=rfl
theorem SM:lexLt [] []=false:=rfl
theorem SK(y:Int)(ys:List Int):lexLt [] (y::ys)=true:=rfl
theorem SJ(x:Int)(xs:List Int):lexLt (x::xs) []=false:=rfl
theorem SI(A:bT)(s:η)(a:Int)(t:Tok)(c:Int)(u:Tok):∃e,SeqAt.EqAt A s (.int a t) (.int c u) e/\(e=true↔a=c):=
 ⟨(a==c),SeqAt.EqAt.int_int a t c u,by simp⟩
theorem SH(A:bT)(s:η)(a:Int)(t:Tok)(c:Int)(u:Tok)(prog:aG)(w:aQ)(E:δ->η->Prop)(Q:δ->η->Prop)(h:Q (.bool (decide (a<c))) s):
  ρ (model prog w) A (richCompare .Lt (.int a t) (.int c u)) Q E s:=
 (PyProof.Rows.lt_int h:ρ (model prog w) A (compareOp .Lt (.int a t) (.int c u)) Q E s)
section
open PySem.SeqAt
open PySem.AutoSeq1 (wpAny_loadPart')
open PySem.MeetsSeq PySem.MeetsSeq2 PySem.MeetsSeq3
theorem SG(l b:ε)(items items2:Array δ)(n n2:Nat)(dd dd2:Option ε)(sl sl2:Array (Option δ))(ns ms:List Int)(hi:gi items.toList ns)(hj:gi items2.toList ms):
  Meets (dP.«tuple.__lt__» ⟨[.ref l,.ref b],[]⟩)
   (fun _ R s=>s.heap.get? l=some { cls:=.type "tuple",dict:=dd,data:=.seq items n,slots:=sl }/\s.heap.get? b=some { cls:=.type "tuple",dict:=dd2,data:=.seq items2 n2,slots:=sl2 } ∧
    R (.ok (.ret (.bool (lexLt ns ms)))) s):=
 .of_wp fun prog w A R s h=>by
  obtain⟨hp,g,d,tk,os⟩:=s;obtain⟨hl,hb,h⟩:=h;have f2:=AutoSeq1.sub_tuple_tuple;have z1:items.size=ns.length:=by rw[←hi.length];simp
  have z2:items2.size=ms.length:=by rw[←hj.length];simp
  wp_walk using wpAny_loadPart' hl,wpAny_loadPart' hb,kg _ (fun rest b s'=>b.1=none/\s'=⟨hp,g,d,tk,os⟩/\∃(vs ws:List δ) (ns' ms':List Int),rest=vs.zip ws ∧
   gi vs ns'/\gi ws ms'/\ns'.length+items2.size=ms'.length+items.size/\R (.ok (.ret (.bool (lexLt ns' ms')))) ⟨hp,g,d,tk,os⟩) _
  case turn=>
   rintro⟨y,x⟩ rest b s' ⟨hb',rfl,vs,ws,ns',ms',hz,hvi,hwi,hlen,hR⟩;cases hvi with
   |nil=>rw[List.zip_nil_left] at hz;cases hz
   |cons a t hvi'=>
    cases hwi with
    |nil=>rw[List.zip_nil_right] at hz;cases hz
    |cons c u hwi'=>
     rw[ji] at hz;injection hz with hyx hrest;injection hyx with hy hx;subst hy hx;rw[SN] at hR;simp only[ax] at hlen;obtain⟨e,he,hiff⟩:=SI A.in1 ⟨hp,g,d,tk,os⟩ a t c u;refine γ (he prog w _ _ ?_);cases e with
     |true=>
      rw[if_pos (hiff.mp rfl)] at hR;wp_walk;exact⟨rfl,rfl,_,_,_,_,hrest,hvi',hwi',by lia,hR⟩
     |false=>
      rw[if_neg (fun q=>absurd (hiff.mpr q) ao)] at hR;have hri:=SH A.in1 ⟨hp,g,d,tk,os⟩ a t c u prog w;wp_walk using hri;exact⟨_,rfl,by simpa using hR⟩
  case fin=>
   rintro⟨b1,b2⟩ s' ⟨hb',rfl,vs,ws,ns',ms',hz,hvi,hwi,hlen,hR⟩;simp only at hb';subst hb';have hv:lexLt ns' ms'=decide (items.size<items2.size):=by
    cases hvi with
    |nil=>
     cases hwi with
     |nil=>
      simp only[kT] at hlen;rw[SM];exact (decide_eq_false (by lia)).symm
     |cons c u hw=>
      simp only[kT,ax] at hlen;rw[SK];exact (decide_eq_true (by lia)).symm
    |cons a t hv=>
     cases hwi with
     |nil=>
      simp only[kT,ax] at hlen;rw[SJ];exact (decide_eq_false (by lia)).symm
     |cons c u hw=>
      rw[ji] at hz;cases hz
   rw[hv] at hR;wp_walk;exact⟨_,rfl,by simpa [dP.Tuple.tupleCompareSizes] using hR⟩
  case h=>
   exact⟨rfl,rfl,items.toList,items2.toList,ns,ms,rfl,hi,hj,by lia,h⟩
end
section
variable {prog:aG} {w:aQ} {A:bT} {E:δ->η->Prop} {s:η}
theorem yC{l b:ε}{items items2:Array δ}{ns ms:List Int}{Q:δ->η->Prop}(hl:nz s.heap l items)(hb:nz s.heap b items2)(hi:gi items.toList ns)(hj:gi items2.toList ms)
  (hu:A.units<cLine) (h:Q (.bool (lexLt ns ms)) s):ρ (model prog w) A (compareOp .Lt (.ref l) (.ref b)) Q E s:=by
 obtain⟨⟨cls,dd,data,sl⟩,ho,hc,n,hd⟩:=id hl;obtain⟨⟨cls2,dd2,data2,sl2⟩,ho2,hc2,n2,hd2⟩:=id hb;simp only at hc hd hc2 hd2;subst hc hd hc2 hd2;exact richCompare_meets_room (op:=.Lt) ⟨_,ho,rfl⟩ ⟨_,ho2,rfl⟩ PySem.F.slot_tuple_lt PySem.F.entry_tuple_lt (PySem.F.args_tuple_lt_2 _ _) (SG l b items items2 n n2 dd dd2 sl sl2 ns ms hi hj)
  ⟨ho,ho2,show kN (lexLt ns ms)≠δ.notImplemented/\Q (.bool (lexLt ns ms)) s from⟨(fun x=>nomatch x),h⟩⟩ hu
theorem D6{t b:ε}{vs ws:List δ}{Q:δ->η->Prop}(ht:nz s.heap t vs.toArray)(hb:nz s.heap b ws.toArray)(hv:vs≠[])
  (h1:ws=[]->Q (.ref t) s) (h2:ws≠[]->Q (.ref s.heap.objs.size) { s with heap:=s.heap.push { cls:=.type "tuple",data:=.seq (vs++ws).toArray }})
  (hsz:vs.length+ws.length≤aj):ρ (model prog w) A (binaryOp .Add (.ref t) (.ref b)) Q E s:=by
 obtain⟨⟨cls,dd,data,sl⟩,ho,hc,n,hd⟩:=id ht;obtain⟨⟨cls2,dd2,data2,sl2⟩,ho2,hc2,n2,hd2⟩:=id hb;simp only at hc hd hc2 hd2;subst hc hd hc2 hd2;have e:vs.toArray++ws.toArray=(vs++ws).toArray:=by simp
 by_cases hw:ws=[]
 ·exact nU ⟨_,ho,rfl⟩ ⟨_,ho2,rfl⟩ nT qM jV jz (je _ _)
   (tuple_addW1 t b vs.toArray ws.toArray n n2 dd dd2 sl sl2 (by simpa using hv) (by simp[hw])) ⟨ho,ho2,h1 hw⟩
 ·refine nU ⟨_,ho,rfl⟩ ⟨_,ho2,rfl⟩ nT qM jV jz (je _ _)
   (tuple_addW2 t b vs.toArray ws.toArray n n2 dd dd2 sl sl2 (by simpa using hv) (by simpa using hw) (by rw[υ,υ];exact hsz)) ⟨ho,ho2,?_⟩
  rw[e];exact h2 hw
def cb(n d:Nat):Option Int->Nat
 |none=>d
 |some v=>if v<0 then (v+(n:Int)).toNat else min v.toNat n
theorem vN(n d:Nat):cb n d none=d:=rfl
theorem xm(n d k:Nat):cb n d (some (k:Int))=min k n:=by
 show (if (k:Int)<0 then ((k:Int)+(n:Int)).toNat else min (k:Int).toNat n)=min k n;rw[if_neg (by lia),aU]
theorem SF(n d:Nat)(hd:d≤n)(o:Option Int):cb n d o≤n:=by
 cases o with
 |none=>exact hd
 |some v=>
  show (if v<0 then (v+(n:Int)).toNat else min v.toNat n)≤n;by_cases hv:v<0
  ·rw[if_pos hv];lia
  ·rw[if_neg hv];exact Nat.min_le_right _ _
theorem IS(v:Int)(n d:Nat):(if v<0 then max (v+(n:Int)) 0 else min v (n:Int))=((cb n d (some v):Nat):Int):=by
 show (if v<0 then max (v+(n:Int)) 0 else min v (n:Int))=(((if v<0 then (v+(n:Int)).toNat else min v.toNat n):Nat):Int);by_cases hv:v<0
 ·simp only[if_pos hv];lia
 ·simp only[if_neg hv];lia
theorem SE(lo hi:Option Int)(n:Nat):iX lo hi 1 (n:Int)=(((cb n 0 lo:Nat):Int),((cb n n hi:Nat):Int)):=by
 have h1:¬((1:Int)<0):=by lia
 unfold iX;simp only[h1,if_false];refine Prod.ext ?_ ?_
 ·cases lo with
  |none=>rfl
  |some v=>exact IS v n 0
 ·cases hi with
  |none=>rfl
  |some v=>exact IS v n n
theorem SD(i j:Nat):gd (i:Int) (j:Int) 1=j-i:=by
 unfold gd;have h1:(1:Int) > 0:=by lia
 simp only[h1,if_true,Int.ediv_one];split<;>lia
theorem IQ{v:δ}{o:Option Int}{Q:Option Int->η->Prop}(p:kX v o)(h:Q o s):ρ (model prog w) A (dP.Slice.slicePartIndex v) Q E s:=by
 cases p with
 |none=>exact slicePart_none h
 |int i t=>exact slicePart_int h
theorem nF{sl:ε}{vl vu:δ}{lo hi:Option Int}{n:Nat}{Q:Int×Int×Nat->η->Prop}(hs:s.heap.IsSliceOf sl vl vu .none)(pl:kX vl lo)(pu:kX vu hi)
  (h:Q (((cb n 0 lo:Nat):Int),1,cb n n hi-cb n 0 lo) s):ρ (model prog w) A (mS (.ref sl) (pure (n:Int))) Q E s:=by
 obtain⟨os,hos,hcs,hds⟩:=id hs;unfold mS dP.Slice.sliceFields;refine γ (γ (cn hos hds (x:=vl) rfl (γ (cn hos hds (x:=vu) rfl (γ (cn hos hds (x:=.none) rfl (ι ?_)))))));refine γ (slicePart_none ?_);show ρ _ _ (if ((1:Int)==0)=true then _ else _) _ _ s;rw[if_neg (by decide)];refine γ (IQ pl (γ (IQ pu (γ (ι ?_)))));show ρ _ _ (match iX lo hi 1 (n:Int) with|(lo,hi)=>pure (lo,(1:Int),gd lo hi 1)) _ _ s
 rw[SE lo hi n];show ρ _ _ (pure (((cb n 0 lo:Nat):Int),(1:Int),gd ((cb n 0 lo:Nat):Int) ((cb n n hi:Nat):Int) 1)) _ _ s;rw[SD];exact ι h
theorem SA(xs:Array δ)(i k:Nat):((Δ k).filterMap fun (m:Nat)=>xs[((i:Int)+(m:Int)*1).toNat]?).toArray=((xs.toList.drop i).take k).toArray:=by
 have e:(fun (m:Nat)=>xs[((i:Int)+(m:Int)*1).toNat]?)=fun m=>xs[i+m]?:=by
  funext m;have:((i:Int)+(m:Int)*1).toNat=i+m:=by lia
  rw[this]
 rw[e];have:=pick_run xs i k;rw[rW] at this;have e2:((fun x=>xs[x]?) ∘ fun x=>i+x)=fun m=>xs[i+m]?:=rfl;rw[e2] at this;rw[this]
theorem sv{t sl:ε}{items:Array δ}{vl vu:δ}{lo hi:Option Int}{Q:δ->η->Prop}(ht:nz s.heap t items)(hs:s.heap.IsSliceOf sl vl vu .none)(pl:kX vl lo)(pu:kX vu hi)
  (hw:¬(cb items.size 0 lo=0/\cb items.size items.size hi=items.size))
  (h:Q (.ref s.heap.objs.size) { s with heap:=s.heap.push { cls:=.type "tuple",data:=.seq ((items.toList.drop (cb items.size 0 lo)).take (cb items.size items.size hi-cb items.size 0 lo)).toArray }})
  (hsz:items.size≤aj):ρ (model prog w) A (getItem (.ref t) (.ref sl)) Q E s:=by
 have htake:sizeOk (.seq ((items.toList.drop (cb items.size 0 lo)).take (cb items.size items.size hi-cb items.size 0 lo)).toArray):=by
  show ((items.toList.drop (cb items.size 0 lo)).take (cb items.size items.size hi-cb items.size 0 lo)).toArray.size≤aj;rw[υ,de,gs,fj];lia
 have hj:cb items.size items.size hi≤items.size:=SF _ _ (Γ _) hi;obtain⟨os,hos,hcs,hds⟩:=id hs;have hTs:s.TypeIs (.ref sl) "slice":=⟨os,hos,hcs⟩;unfold getItem
 try with_reducible refine cp ?_
 first|refine γ (ι ?_)|skip
 refine γ (wpAny_sequenceKey ht.typeIs (by decide) ?_);refine γ (bZ (name:=eO "__getitem__") ht.typeIs cA
  (bW cA ht.typeIs entry_tuple_getitem ?_ (args_tuple_getitem _ _)))
 show ρ _ _ (mR (.ref t) >>= _) _ _ s;refine γ (tupleItemsOf_ ht ?_);refine γ (jd hTs ?_);rw[if_pos (by decide)];refine γ (nF hs pl pu ?_);have hno:¬((((cb items.size 0 lo:Nat):Int)==0&&(1:Int)==1&&(cb items.size items.size hi-cb items.size 0 lo)==items.size)=true):=by
  intro q;rw[df,df] at q;have q1:((cb items.size 0 lo:Nat):Int)=0:=eq_of_beq q.1.1;have q2:cb items.size items.size hi-cb items.size 0 lo=items.size:=eq_of_beq q.2;exact hw ⟨by lia,by lia⟩
 show ρ _ _ (if (((cb items.size 0 lo:Nat):Int)==0&&(1:Int)==1&&(cb items.size items.size hi-cb items.size 0 lo)==items.size)=true then _ else _) _ _ s;rw[if_neg hno,SA]
 first
  |exact γ (m:=gx _) (bI (ι ⟨_,rfl,ι h⟩) htake)
  |exact γ (m:=gx _) (bI (γ (ι (ι ⟨_,rfl,ι h⟩))) htake)
  |exact γ (γ (m:=gx _) (bI (ι (ι ⟨_,rfl,ι h⟩)) htake))
  |exact γ (γ (m:=gx _) (bI (ι ⟨_,rfl,ι h⟩) htake))
end
end HT
namespace L2
open PySem PySem.Spec PyProof.Rows
abbrev TO:=St->Hp->(Option Int->Hp->Prop)->Prop
def PO(X:Cx)(e:Option π)(t:TO):Prop:=
 ∀(pins:List (ε×aN)) (s:η) (σ:St) (H:Hp) (Q:Option Int->Hp->Prop),Inv X pins σ H s->t σ H Q ->
  ρ (model X.prog X.w) X.A (evalPart e X.env) (fun u s'=>∃o H',Inv X pins σ H' s'/\kX u o/\Q o H') X.xe s
def DV:TO:=fun _ H Q=>Q none H
def Kd(t:TE):TO:=fun σ H Q=>t σ H fun x H1=>∃i,x=.int i/\Q (some i) H1
theorem intsAre_of{ns:List Int}:∀{us:List δ},bh (ns.map V.int) us->gi us ns:=by
 induction ns with
 |nil=>intro us r;rw[om] at r;cases r;exact .nil
 |cons n ns ih=>
  intro us r;rw[aq] at r;cases r with
  |cons r1 r2=>
   obtain⟨t,e⟩:=r1;subst e;exact .cons n t (ih r2)
section
variable {X:Cx} {e:π} {te:TE} {lo hi:Option π} {tl th:TO} {pos p2:aL}
theorem Sz:PO X none DV:=by
 intro pins s σ H Q I h;rw[evalPart_none];exact ι ⟨none,H,I,.none,h⟩
theorem Sy(h:PE X e te):PO X (some e) (Kd te):=by
 intro pins s σ H Q I hw;rw[evalPart_some];refine bL (h pins s σ H _ I hw) fun u s1 ⟨x,H1,I1,r1,q1⟩=>?_;obtain⟨i,rfl,q⟩:=q1;obtain⟨t,rfl⟩:=r1;exact⟨some i,H1,I1,.int i t,q⟩
def vh(X:Cx)(r:V->Option Int->Option Int->Hp->VK->Prop):Prop:=
 ∀(pins:List (ε×aN)) (s:η) (σ:St) (H:Hp) (x:V) (v vl vu:δ) (lo hi:Option Int) (sl:ε) (Q:VK),Inv X pins σ H s->RelV x v->s.heap.IsSliceOf sl vl vu .none->kX vl lo->kX vu hi->r x lo hi H Q ->
  ∃T id,typeLookup (.type T) "__getitem__" = pure (some (.builtin id))/\s.TypeIs v T/\ρ (model X.prog X.w) X.A (getItem v (.ref sl)) (EP X pins σ Q) X.xe s
theorem vh.or{r r':V->Option Int->Option Int->Hp->VK->Prop}(h:vh X r)(h':vh X r'):vh X (fun x lo hi H Q=>r x lo hi H Q∨r' x lo hi H Q):=by
 intro pins s σ H x v vl vu lo hi sl Q I rx hs pl pu q;rcases q with q|q
 ·exact h pins s σ H x v vl vu lo hi sl Q I rx hs pl pu q
 ·exact h' pins s σ H x v vl vu lo hi sl Q I rx hs pl pu q
def XA(r:V->Option Int->Option Int->Hp->VK->Prop)(te:TE)(tl th:TO):TE:=fun σ H Q=>te σ H fun x H1=>tl σ H1 fun l H2=>th σ H2 fun u H3=>r x l u H3 Q
theorem Sx{r:V->Option Int->Option Int->Hp->VK->Prop}(hr:vh X r)(he:PE X e te)(hl:PO X lo tl)(hu:PO X hi th):PE X (.Subscript e (.Slice lo hi none p2) pos) (XA r te tl th):=by
 intro pins s σ H Q I h;refine Subscript_ (bL (he pins s σ H _ I h) fun v s1 ⟨x,H1,I1,r1,q1⟩=>?_);refine wpAny_Slice (bL (hl pins s1 σ H1 _ I1 q1) fun vl s2 ⟨l,H2,I2,pl,q2⟩=>bL (hu pins s2 σ H2 _ I2 q2) fun vu s3 ⟨u,H3,I3,pu,q3⟩=>?_);rw[evalPart_none];refine ι ?_;have I4:Inv X pins σ H3 { s3 with heap:=s3.heap.push { cls:=.type "slice",data:=.fields #[vl,vu,.none]}}:=I3.kept (t':=s3.toks) fun b ob q=>ν _ q;obtain⟨T,id,hT,ht,hg⟩:=hr pins { s3 with heap:=s3.heap.push { cls:=.type "slice",data:=.fields #[vl,vu,.none]}} σ H3 x v vl vu l u s3.heap.objs.size Q I4 r1 (ay.IsSliceOf.new ..) pl pu q3;show ρ (model X.prog X.w) X.A (subscriptTail e (.Slice lo hi none p2) v (.ref s3.heap.objs.size)) (EP X pins σ Q) X.xe { s3 with heap:=s3.heap.push { cls:=.type "slice",data:=.fields #[vl,vu,.none]}};exact tail_any (ops:=[.ref s3.heap.objs.size,v]) ht hT hg (by with_unfolding_all rfl)
def rK(xs:List V)(lo hi:Option Int):List V:=(xs.drop (HT.cb xs.length 0 lo)).take (HT.cb xs.length xs.length hi-HT.cb xs.length 0 lo)
theorem IP(xs:List V)(lo hi:Option Int):(rK xs lo hi).length≤xs.length:=by
 unfold rK;rw[de,gs];lia
def LD(K:ζ):V->Option Int->Option Int->Hp->VK->Prop:=fun x lo hi H Q=>∃a xs,x=.ref a/\cF K H a xs ∧
 ¬(HT.cb xs.length 0 lo=0/\HT.cb xs.length xs.length hi=xs.length)/\∀p,H p=none->Q (.ref p) (upd H p (.tup (rK xs lo hi)))
theorem Ei:vh X (LD X.K):=by
 intro pins s σ H x v vl vu lo hi sl Q I rx hs pl pu h;obtain⟨a,xs,rfl,hx,hw,q⟩:=h;cases rx;obtain⟨its,r,ht,hz⟩:=I.tuple hx;have hlen:its.toArray.size=xs.length:=by rw[υ];exact r.length.symm
 refine⟨"tuple",_,cA.lookup,ht.typeIs,?_⟩;refine HT.sv ht hs pl pu (by rw[hlen];exact hw) ?_ (by rw[hlen];exact hz);rw[hlen];refine⟨.ref s.heap.objs.size,_,I.laid (t':=s.toks) (o:=.tup (rK xs lo hi)) (fun b ob q=>ν _ q) (Γ _) ?_,rfl,q _ (I.cq.fresh (Γ _))⟩;exact⟨ae (IP xs lo hi) hz,_,(r.drop (HT.cb xs.length 0 lo)).take (HT.cb xs.length xs.length hi-HT.cb xs.length 0 lo),jS.new _ _⟩
def El(K:ζ):R2:=fun x y H Q=>∃a b ns ms,x=.ref a/\y=.ref b/\cF K H a (ns.map V.int)/\cF K H b (ms.map V.int)/\Q (.bl (HT.lexLt ns ms)) H
theorem Sw(hu:X.A.units<cLine):eB X (compareOp .Lt) (El X.K):=by
 intro pins s σ H x y v u Q I rx ry h;obtain⟨a,b,ns,ms,rfl,rfl,ha,hb,q⟩:=h;cases rx;cases ry;obtain⟨its,r1,p1,_⟩:=I.tuple ha;obtain⟨its2,r2,p2,_⟩:=I.tuple hb;have i1:gi its.toArray.toList ns:=intsAre_of r1;have i2:gi its2.toArray.toList ms:=intsAre_of r2;exact HT.yC p1 p2 i1 i2 hu ⟨.bl (HT.lexLt ns ms),H,I,rfl,q⟩
def C8(K:ζ):R2:=fun x y H Q=>∃a b xs ys,x=.ref a/\y=.ref b/\cF K H a xs/\cF K H b ys/\xs≠[]/\xs.length+ys.length≤aj ∧
 (ys=[]->Q (.ref a) H)/\(ys≠[]->∀p,H p=none->Q (.ref p) (upd H p (.tup (xs++ys))))
theorem bh.uO{xs:List V}{us:List δ}(r:bh xs us):us=[]↔xs=[]:=by
 cases r with
 |nil=>simp
 |cons _ _=>simp
theorem DZ:eB X (binaryOp .Add) (C8 X.K):=by
 intro pins s σ H x y v u Q I rx ry h;obtain⟨a,b,xs,ys,rfl,rfl,ha,hb,hx,hz,q1,q2⟩:=h;cases rx;cases ry;obtain⟨its,r1,p1,_⟩:=I.tuple ha;obtain⟨its2,r2,p2,_⟩:=I.tuple hb;refine HT.D6 p1 p2 (fun z=>hx (r1.uO.mp z)) (fun z=>⟨.ref a,H,I,rfl,q1 (r2.uO.mp z)⟩) (fun z=>?_) (by rw[←r1.length,←r2.length];exact hz);refine⟨.ref s.heap.objs.size,_,I.laid (t':=s.toks) (o:=.tup (xs++ys)) (fun b ob q=>ν _ q) (Γ _) ?_,rfl,q2 (fun w=>z (r2.uO.mpr w)) _ (I.cq.fresh (Γ _))⟩;exact⟨by rw[aa];exact hz,_,r1.append r2,jS.new _ _⟩
end
end L2
namespace L2
open PySem PySem.Spec PyProof.Rows
def rD(n:Nat)(i:Int):Option Nat:=if 0≤i then (if i<n then some i.toNat else none) else if -(n:Int)≤i then some (i+n).toNat else none
def jQ{α:Type}(xs:List α)(i:Int):Option α:=(rD xs.length i).bind fun j=>xs[j]?
theorem IM{n:Nat}{i:Int}{j:Nat}(h:rD n i=some j):seqIndex? i n=some j/\j<n/\-(n:Int)≤i/\i<n:=by
 unfold rD at h;by_cases h0:0≤i
 ·rw[if_pos h0] at h;by_cases h1:i<n
  ·rw[if_pos h1] at h;have e:i.toNat=j:=aJ h;exact⟨by rw[pj h0 h1,e],by lia,by lia,h1⟩
  ·rw[if_neg h1] at h;cases h
 ·rw[if_neg h0] at h;by_cases h1:-(n:Int)≤i
  ·rw[if_pos h1] at h;have e:(i+n).toNat=j:=aJ h;exact⟨by rw[seqIndex_neg (by lia) h1,e],by lia,h1,by lia⟩
  ·rw[if_neg h1] at h;cases h
theorem yj{α:Type}{xs:List α}{i:Int}{v:α}(h:jQ xs i=some v):∃j,seqIndex? i xs.length=some j/\xs[j]?=some v/\j<xs.length/\-(xs.length:Int)≤i/\i<xs.length:=by
 unfold jQ at h;cases e:rD xs.length i with
 |none=>rw[e] at h;cases h
 |some j=>
  rw[e] at h;obtain⟨h1,h2,h3,h4⟩:=IM e;exact⟨j,h1,h,h2,h3,h4⟩
theorem wz{α:Type}{xs:List α}{j:Nat}{v:α}(h:xs[j]?=some v):jQ xs (j:Int)=some v:=by
 have hj:j<xs.length:=(aw.mp h).1;have e:rD xs.length (j:Int)=some j:=by
  unfold rD;rw[if_pos (by lia),if_pos (by lia)];simp
 unfold jQ;rw[e];exact h
def pL(b:π):Prop:=∀o i,subscripted b false o i=operate [o,i] (getItem o i)
def ub(X:Cx)(r:R2):Prop:=
 ∀(value slice:π) (pins:List (ε×aN)) (s:η) (σ:St) (H:Hp) (x y:V) (v u:δ) (Q:VK),Inv X pins σ H s->RelV x v->RelV y u->r x y H Q ->
  subscripted slice false v u=operate [v,u] (getItem v u)->ρ (model X.prog X.w) X.A (subscriptTail value slice v u) (EP X pins σ Q) X.xe s
def J3(X:Cx)(id:String)(r:V->List V->Hp->VK->Prop):Prop:=
 ∀(pins:List (ε×aN)) (s:η) (σ:St) (H:Hp) (x:V) (xs:List V) (v:δ) (us:List δ) (Q:VK),Inv X pins σ H s->RelV x v->bh xs us->r x xs H Q ->
  ρ (model X.prog X.w) X.A (call (.builtin id) (v::us)) (EP X pins σ Q) X.xe s
section
variable {X:Cx} {a b:π} {ta tb:TE} {pos:aL}
theorem ub.or{r r':R2}(h:ub X r)(h':ub X r'):ub X (fun x y H Q=>r x y H Q∨r' x y H Q):=by
 intro value slice pins s σ H x y v u Q I rx ry q hs;rcases q with q|q
 ·exact h value slice pins s σ H x y v u Q I rx ry q hs
 ·exact h' value slice pins s σ H x y v u Q I rx ry q hs
theorem Jr{r:R2}(hr:ub X r)(ha:PE X a ta)(hb:PE X b tb)(hs:pL b):PE X (.Subscript a b pos) (Ak r ta tb):=by
 intro pins s σ H Q I h;exact Subscript_ (CQ ha hb I h fun v u s2 x y H2 I2 rx ry q=>hr a b pins s2 σ H2 x y v u Q I2 rx ry q (hs _ _))
def AS(K:ζ):R2:=fun x y H Q=>∃p xs i v,x=.ref p/\y=.int i/\eA K H p xs/\jQ xs i=some v/\Q v H
def En(K:ζ):R2:=fun x y H Q=>∃p xs i v,x=.ref p/\y=.int i/\cF K H p xs/\jQ xs i=some v/\Q v H
def Eo:R2:=fun x y H Q=>∃z i c,x=.str z/\y=.int i/\z.length≤aj/\jQ z.cps.toList i=some c/\Q (.str ⟨#[c]⟩) H
theorem D1:ub X (AS X.K):=by
 intro value slice pins s σ H x y v u Q I rx ry h hs;obtain⟨p,xs,i,z,rfl,rfl,hq,he,q⟩:=h;cases rx;obtain⟨t,rfl⟩:=ry;obtain⟨its,r,pl,hz⟩:=I.list hq;obtain⟨j,h1,h2,h3,h4,h5⟩:=yj he;obtain⟨w,ew,rw'⟩:=r.get h2;have hl:=r.length;have hn:=nL;have fin:EP X pins σ Q w s:=⟨z,H,I,rw',q⟩;by_cases h0:0≤i
 ·have hj:i.toNat=j:=by
   rw[pj h0 h5] at h1;exact aJ h1
  exact item_listR pl.isList h0 (by lia) (by rw[hj];simpa using ew) fin hs
 ·have hj:(i+(its.toArray.size:Int)).toNat=j:=by
   rw[seqIndex_neg (by lia) h4] at h1;rw[υ,←hl];exact aJ h1
  exact subscriptTail_builtinR (x:=w) pl.isList.typeIs slot_list_getitem.lookup
   (wpAny_getItem_list_neg (Q:=fun r s'=>r=w/\EP X pins σ Q r s') pl.isList (by lia) (by rw[υ]<;>lia) (by lia) (by rw[hj];simpa using ew) ⟨rfl,fin⟩) hs
theorem JM:ub X (En X.K):=by
 intro value slice pins s σ H x y v u Q I rx ry h hs;obtain⟨p,xs,i,z,rfl,rfl,hq,he,q⟩:=h;cases rx;obtain⟨t,rfl⟩:=ry;obtain⟨its,r,pl,hz⟩:=I.tuple hq;obtain⟨j,h1,h2,h3,h4,h5⟩:=yj he;obtain⟨w,ew,rw'⟩:=r.get h2;have hl:=r.length;have hn:=nL;have fin:EP X pins σ Q w s:=⟨z,H,I,rw',q⟩;exact subscriptTail_builtinR (x:=w) pl.typeIs slot_tuple_getitem.lookup
  (getItem_tuple (j:=j) (Q:=fun r s'=>r=w/\EP X pins σ Q r s') pl (by lia) (by lia) (by rw[υ,←hl];exact h1) (by simpa using ew) ⟨rfl,fin⟩) hs
theorem Sv:ub X Eo:=by
 intro value slice pins s σ H x y v u Q I rx ry h hs;obtain⟨z,i,c,rfl,rfl,hz,he,q⟩:=h;obtain⟨t,rfl⟩:=rx;obtain⟨t',rfl⟩:=ry;obtain⟨j,h1,h2,h3,h4,h5⟩:=yj he;have hl:z.cps.toList.length=z.length:=by simp[ψ.length]
 rw[hl] at h1 h4 h5;have hn:=nL;exact tail_any (typeIs_str s z t) slot_str_getitem.lookup (getItem_str (c:=c) (by
  have e1:decide (i < -(2^63:Int))=false:=decide_eq_false (by lia);have e2:decide (i≥2^63)=false:=decide_eq_false (by lia);rw[e1,e2,Bool.or_false]) (by rw[h1];simpa using h2) ⟨.str ⟨#[c]⟩,H,I.tok _,⟨_,rfl⟩,q⟩) hs
def La(K:ζ):R2:=fun x y H Q=>AS K x y H Q∨En K x y H Q∨Eo x y H Q
theorem Jq:ub X (La X.K):=D1.or (JM.or Sv)
theorem Su(its:List δ)(n j:Nat)(u:δ):bA (·.setIfInBounds j u) { cls:=.type "list",data:=.seq its.toArray n }={ cls:=.type "list",data:=.seq (its.set j u).toArray n }:=by
 simp[bA]
theorem Inv.lst{pins:List (ε×aN)}{σ:St}{H:Hp}{s:η}{p:ε}{xs:List V}(I:Inv X pins σ H s)(h:H p=some (.lst xs)):
  ∃(its:List δ) (n:Nat),bh xs its/\s.heap.get? p=some { cls:=.type "list",data:=.seq its.toArray n }/\xs.length≤aj:=by
 obtain⟨z,its,n,r,e⟩:=I.cq p _ h;exact⟨its,n,r,e,z⟩
theorem Inv.JG{pins:List (ε×aN)}{σ:St}{H:Hp}{s:η}{p:ε}{xs ys:List V}{its its':List δ}{n n':Nat}{f:aN->aN}(I:Inv X pins σ H s)(h:H p=some (.lst xs))
  (ho:s.heap.get? p=some { cls:=.type "list",data:=.seq its.toArray n }) (hf:f { cls:=.type "list",data:=.seq its.toArray n }={ cls:=.type "list",data:=.seq its'.toArray n' }) (r:bh ys its') (hz:ys.length≤aj) (t:Nat):
  Inv X pins σ (upd H p (.lst ys)) { s with heap:=s.heap.update p f,toks:=t }:=by
 have e:(s.heap.update p f).get? p=some { cls:=.type "list",data:=.seq its'.toArray n' }:=by
  rw[fK f ho (by rw[hf]<;>rfl),hf]
 refine I.write (x:=p) (e:=p) (by rw[h];trivial) (.inl rfl) (fun b u hb q=>(fx _ _ (eY hb)).trans q) ⟨_,e⟩ ?_;exact⟨hz,its',n',r,e⟩
def C6:V->V->V->Hp->(Hp->Prop)->Prop:=fun o i v H Q=>∃p xs k j,o=.ref p/\i=.int k/\H p=some (.lst xs)/\rD xs.length k=some j/\Q (upd H p (.lst (xs.set j v)))
theorem set_list:CS X C6:=by
 intro pins s σ H o i v ov iv u Q I ro ri rv h;obtain⟨p,xs,k,j,rfl,rfl,hp,hj,q⟩:=h;cases ro;obtain⟨t,rfl⟩:=ri;obtain⟨its,n,r,ho,hz⟩:=I.lst hp;obtain⟨h1,h2,h3,h4⟩:=IM hj;have hl:=r.length;have hn:=nL;have I':Inv X pins σ (upd H p (.lst (xs.set j v))) { s with heap:=s.heap.update p (bA (·.setIfInBounds j u))}:=
  I.JG hp ho (Su its n j u) (r.set rv j) (by rw[List.length_set];exact hz) s.toks
 by_cases h0:0≤k
 ·have hk:k.toNat=j:=by
   rw[pj h0 h4] at h1;exact aJ h1
  exact PySem.W.ki_setAt ho h0 (by lia) (by rw[υ,←hl];exact h4) (by rw[hk];exact⟨_,I',q⟩)
 ·have hk:(k+(its.toArray.size:Int)).toNat=j:=by
   rw[seqIndex_neg (by lia) h3] at h1;rw[υ,←hl];exact aJ h1
  exact PySem.W.ki_setBack ho (by lia) (by rw[υ,←hl];exact h3) (by lia) (by rw[hk];exact⟨_,I',q⟩)
theorem Ss(lo hi:Option Int)(n:Nat):(sliceBounds lo hi none n).1=((HT.cb n 0 lo:Nat):Int)/\(sliceBounds lo hi none n).2.1=((HT.cb n n hi:Nat):Int)/\(sliceBounds lo hi none n).2.2=1:=by
 refine⟨?_,?_,rfl⟩
 ·cases lo with
  |none=>simp[sliceBounds,HT.cb]
  |some i=>
   simp only[sliceBounds,HT.cb,tR,show (1:Int) > 0 by decide,if_true];by_cases h:i<0
   ·simp only[h,if_true]<;>lia
   ·simp only[h,if_false]<;>lia
 ·cases hi with
  |none=>simp[sliceBounds,HT.cb]
  |some i=>
   simp only[sliceBounds,HT.cb,tR,show (1:Int) > 0 by decide,if_true];by_cases h:i<0
   ·simp only[h,if_true]<;>lia
   ·simp only[h,if_false]<;>lia
theorem Sr(its:List δ)(lo hi:Option Int):slicePick its.toArray lo hi none=((its.drop (HT.cb its.length 0 lo)).take (HT.cb its.length its.length hi-HT.cb its.length 0 lo)).toArray:=by
 obtain⟨h1,h2,h3⟩:=Ss lo hi its.toArray.size;unfold slicePick;rw[h1,h2,h3];simp only[sliceRange_one,pick_run,υ]<;>rfl
def LF(K:ζ):V->Option Int->Option Int->Hp->VK->Prop:=fun x lo hi H Q=>∃a xs,x=.ref a/\eA K H a xs/\∀p,H p=none->Q (.ref p) (upd H p (.lst (rK xs lo hi)))
theorem Te:vh X (LF X.K):=by
 intro pins s σ H x v vl vu lo hi sl Q I rx hs pl pu h;obtain⟨a,xs,rfl,hx,q⟩:=h;cases rx;obtain⟨its,r,ht,hz⟩:=I.list hx;have hlen:=r.length;refine⟨"list",_,slot_list_getitem.lookup,ht.isList.typeIs,?_⟩;refine wpAny_getItem_list_slice ht.isList hs pl pu .none (by simp) ?_ (by rw[υ]<;>lia)
 rw[Sr,←hlen];refine⟨.ref s.heap.objs.size,_,I.laid (t':=s.toks) (o:=.lst (rK xs lo hi)) (fun b ob q=>ν _ q) (Γ _) ?_,rfl,q _ (I.cq.fresh (Γ _))⟩;exact⟨ae (IP xs lo hi) hz,_,0,(r.drop (HT.cb xs.length 0 lo)).take (HT.cb xs.length xs.length hi-HT.cb xs.length 0 lo),Φ _ rfl⟩
theorem Td:ju X (.builtin "len") (fun xs H Q=>∃p ys,xs=[.ref p]/\(eA X.K H p ys∨cF X.K H p ys)/\Q (.int ys.length) H):=by
 intro pins s σ H xs us Q I r h;obtain⟨p,ys,rfl,hq,q⟩:=h;obtain⟨u,rfl,rx⟩:=vals1 r;cases rx;have hn:=nL;rcases hq with hq|hq
 ·obtain⟨its,r',pl,hz⟩:=I.list hq;have hlen:=r'.length;exact Calls.call_len_list pl.isList (by simp only[υ]<;>lia) ⟨.int ys.length,H,I.tok _,⟨s.toks+1,by rw[υ,hlen]⟩,q⟩
 ·obtain⟨its,r',pl,hz⟩:=I.tuple hq;have hlen:=r'.length;exact len_tuple pl (by simp only[υ]<;>lia) ⟨.int ys.length,H,I.tok _,⟨s.toks+1,by rw[υ,hlen]⟩,q⟩
theorem Tc:ju X (.type "tuple") (fun xs H Q=>∃p ys,xs=[.ref p]/\((eA X.K H p ys/\∀l,H l=none->Q (.ref l) (upd H l (.tup ys)))∨(cF X.K H p ys/\Q (.ref p) H))):=by
 intro pins s σ H xs us Q I r h;obtain⟨p,ys,rfl,h⟩:=h;obtain⟨u,rfl,rx⟩:=vals1 r;cases rx;rcases h with⟨hq,q⟩|⟨hq,q⟩
 ·obtain⟨its,r',pl,hz⟩:=I.list hq;have hlen:=r'.length;refine call_tuple_list pl.isList (fun h' kp=>?_) (by simp only[υ]<;>lia)
  have I1:Inv X pins σ H { s with heap:=h' }:=I.kept (t':=s.toks) kp;have I2:Inv X pins σ (upd H h'.objs.size (.tup ys)) { s with heap:=h'.push { cls:=.type "tuple",data:=.seq its.toArray }}:=
   I1.laid (t':=s.toks) (fun b o e=>ν _ e) (Γ _) (show fu X.prog X.w _ _ _ (.tup ys) from⟨hz,its,r',jS.new _ _⟩)
  exact⟨.ref h'.objs.size,_,I2,rfl,q _ (I1.cq.fresh (Γ _))⟩
 ·obtain⟨its,r',pl,hz⟩:=I.tuple hq;exact call_tuple_same pl ⟨.ref p,H,I,rfl,q⟩
def K9(K:ζ)(T:String)(x:V)(H:Hp):Prop:=match x with
 |.str _=>T="str"
 |.int _=>T="int"
 |.ref p=>(T="list"/\∃xs,eA K H p xs)∨(T="tuple"/\∃o,K.lookup p=some o/\o.cls=.type "tuple"/\o.dict=none) ∨
   (T="dict"/\((∃kvs,H p=some (.dK kvs))∨∃kvs,H p=some (.dT kvs)))∨(T="set"/\∃S n,H p=some (.set S n))
 |_=>False
theorem Tb{pins:List (ε×aN)}{σ:St}{H:Hp}{s:η}{T:String}{x:V}{v:δ}(I:Inv X pins σ H s)(r:RelV x v)(ty:K9 X.K T x H):
  s.TypeIs v T/\∀a,v=.ref a->∃ob,s.heap.get? a=some ob/\ob.dict=none:=by
 cases x with
 |str z=>
  obtain⟨t,rfl⟩:=r;cases (show T="str" from ty);exact⟨typeIs_str s z t,fun _ e=>nomatch e⟩
 |int i=>
  obtain⟨t,rfl⟩:=r;cases (show T="int" from ty);exact⟨typeIs_int s i t,fun _ e=>nomatch e⟩
 |ref p=>
  cases r;rcases ty with⟨rfl,xs,hq⟩|⟨rfl,o,hk,hc,hd⟩|⟨rfl,hk⟩|⟨rfl,S,n,hk⟩
  ·obtain⟨its,_,pl,_⟩:=I.list hq;refine⟨pl.isList.typeIs,fun a e=>?_⟩;cases e;obtain⟨o,n,e,c,hd,_⟩:=pl;exact⟨o,e,hd⟩
  ·refine⟨⟨o,I.mU p o hk,hc⟩,fun a e=>?_⟩;cases e;exact⟨o,I.mU _ o hk,hd⟩
  ·have z:∃o,s.heap.get? p=some o/\o.ExactDict:=by
    rcases hk with⟨kvs,hk⟩|⟨kvs,hk⟩
    ·obtain⟨_,_,_,_,o,_,_,e,ex,_⟩:=I.cq p _ hk;exact⟨o,e,ex⟩
    ·obtain⟨_,_,_,_,o,_,_,e,ex,_⟩:=I.cq p _ hk;exact⟨o,e,ex⟩
   obtain⟨o,e,ex⟩:=z;refine⟨⟨o,e,ex.1⟩,fun a e2=>?_⟩;cases e2;exact⟨o,e,ex.2.1⟩
  ·obtain⟨o,_,_,_,e,ex,_⟩:=I.cq p _ hk;refine⟨⟨o,e,ex.1⟩,fun a e2=>?_⟩;cases e2;exact⟨o,e,ex.2.1⟩
 |_=>exact gb ty
def Eh(K:ζ)(T:String)(r:V->List V->Hp->VK->Prop)(to:TE)(t:TA):TE:=fun σ H Q=>to σ H fun x H1=>K9 K T x H1/\t σ H1 fun xs H2=>r x xs H2 Q
variable {o e:π} {es:List π} {to:TE} {t:TA} {name:ψ} {apos cpos:aL} {T id:String} {r:V->List V->Hp->VK->Prop}
theorem Ta(pa:PlainAttrs T)(slot:Slot T name id)(hty:typeOf (.builtin id)=pure (.type "method_descriptor"))(hm:J3 X id r)(ho:PE X o to)(ha:PA X (e::es) t)
  (nt:attributeBase o name X.env (eval o X.env)=eval o X.env:=by rfl)
  (Cu:((backTo cpos (bJ (e::es) X.env)).all (fun x=>!x.1)&&(backToKw cpos (keywordEach [] X.env)).all (fun x=>x.1.isSome)
   && decide ((e::es).length+([]:List pX).length+(if ([]:List pX).isEmpty then 0 else 1)<30))=true:=by rfl)
  (nr:(apos.endLine==cpos.line)=true:=by rfl) (hs:bJ (e::es) X.env=(false,eval e X.env)::bJ es X.env:=by rfl) (hplain:(backTo cpos (bJ es X.env)).any (·.1)=false:=by rfl):
  PE X (.Call (.Attribute o name apos) (e::es) [] cpos) (Eh X.K T r to t):=by
 intro pins s σ H Q I h;refine wpAny_Call_method_late nt Cu nr rfl (bL (ho pins s σ H _ I h) fun v s1 ⟨x,H1,I1,r1,ty,q1⟩=>?_);obtain⟨h1,h2⟩:=Tb I1 r1 ty;refine⟨T,id,pa,slot,hty,h1,h2,?_⟩;have hA:=ha cpos pins s1 σ H1 _ I1 q1;rw[hs] at hA ⊢;refine j0 (by show (false||(backTo cpos (bJ es X.env)).any (·.1))=false;rw[hplain]<;>rfl) (qF ?_)
 exact bL hA fun us s2 ⟨vs,H2,I2,r2,q2⟩=>hm pins s2 σ H2 x vs v us Q I2 r1 r2 q2
/- xs.append(e),list.index on a module's tuple .. are J3 facts of 06m -/
end
end L2
namespace L2
open PySem PySem.Spec PyProof.Rows
def J4(X:Cx)(id:String)(r:V->List V->Hp->VK->Prop):Prop:=
 ∀(pins:List (ε×aN)) (s:η) (σ:St) (H:Hp) (x:V) (xs:List V) (v:δ) (us:List δ) (Q:VK),Inv X pins σ H s->RelV x v->bh xs us->r x xs H Q ->
  ρ (model X.prog X.w) X.A (call (.builtin id) (v::us)) (EP X pins σ Q) X.xe s
theorem bh.one:∀{x:V} {us:List δ},bh [x] us->∃u,us=[u]/\RelV x u
 |_,_,.cons r .nil=>⟨_,rfl,r⟩
theorem bh.eraseIdx:∀{xs:List V} {us:List δ} (i:Nat),bh xs us->bh (xs.eraseIdx i) (us.eraseIdx i)
 |_,_,_,.nil=>.nil
 |_,_,0,.cons _ t=>t
 |_,_,i+1,.cons r t=>.cons r (bh.eraseIdx i t)
theorem bh.rep{xs:List V}{us:List δ}(h:bh xs us):∀k:Nat,bh (av k xs).flatten (av k us).flatten
 |0=>.nil
 |k+1=>by
  rw[cM,cM,fS,fS];exact bh.append h (bh.rep h k)
theorem Ce{α:Type}:∀(l:List α) (i:Nat),(l.eraseIdx i).length≤l.length
 |[],_=>Γ _
 |_::_,0=>sP _
 |_::r,i+1=>Nat.succ_le_succ (Ce r i)
theorem foldl_rep(its:List δ):∀(k:Nat) (acc:List δ),
  uh (fun x1 x2=>x1++x2) acc.toArray (av k its.toArray)=(acc++(av k its).flatten).toArray
 |0,acc=>by simp
 |k+1,acc=>by
  have e:acc.toArray++its.toArray=(acc++its).toArray:=by simp
  have e2:(acc++its)++(av k its).flatten=acc++(av (k+1) its).flatten:=by
   rw[cM,fS,e7]
  rw[←e2,←foldl_rep its k (acc++its),←e,cM,oN]
section
variable {X:Cx} {pins:List (ε×aN)} {σ:St} {H:Hp} {s:η} {l b:ε} {xs ys zs:List V}
theorem Inv.Cs{its its':List δ}{n:Nat}{f:Array δ->Array δ}{t':Nat}(I:Inv X pins σ H s)(hH:H l=some (.lst xs))
  (e:s.heap.get? l=some { cls:=.type "list",data:=.seq its.toArray n }) (hf:f its.toArray=its'.toArray) (hv:bh ys its') (hz:ys.length≤aj):
  Inv X pins σ (upd H l (.lst ys)) { s with heap:=s.heap.update l (bA f),toks:=t' }:=by
 have q:=PySem.IsL.update e f;rw[hf] at q;refine I.write (x:=l) (e:=l) (by rw[hH];exact trivial) (.inl rfl) (fun b' u hb hu=>(fx s.heap (bA f) (eY hb)).trans hu) ⟨_,q⟩ ?_;exact⟨hz,its',_,hv,q⟩
theorem Inv.yD{its:List δ}{t':Nat}(I:Inv X pins σ H s)(hv:bh ys its)(hz:ys.length≤aj):
  Inv X pins σ (upd H s.heap.objs.size (.lst ys)) { s with heap:=s.heap.push { cls:=.type "list",data:=.seq its.toArray },toks:=t' }:=
 I.laid (fun _ _ q=>ν _ q) (Γ _) ⟨hz,its,0,hv,Φ _ rfl⟩
theorem Inv.fresh(I:Inv X pins σ H s):H s.heap.objs.size=none:=I.cq.fresh (Γ _)
theorem Inv.tM(I:Inv X pins σ H s)(hH:H l=some (.lst xs)):xs.length≤aj/\∃(its:List δ) (n:Nat),bh xs its/\xs.length=its.length/\s.heap.get? l=some { cls:=.type "list",data:=.seq its.toArray n }:=by
 obtain⟨z,its,n,r,e⟩:=I.cq l _ hH;exact⟨z,its,n,r,r.length,e⟩
theorem wO{n:Nat}(h:n≤aj):gy n=false:=by
 unfold gy;exact decide_eq_false (by lia)
end
section
variable {X:Cx}
def xo:V->List V->Hp->VK->Prop:=fun x vs H Q=>∃l xs y,x=.ref l/\vs=[y]/\H l=some (.lst xs)/\xs.length<aj/\Q .ak (upd H l (.lst (xs++[y])))
theorem Jp:J4 X "list.append" xo:=by
 intro pins s σ H x vs v us Q I rx rv h;obtain⟨l,xs,y,rfl,rfl,hH,hz,q⟩:=h;cases rx;obtain⟨u,rfl,ru⟩:=rv.one;obtain⟨z,its,n,r,hl,e⟩:=I.tM hH;refine nu F.slot_list_append ⟨_,e,rfl⟩ F.entry_list_append (F.args_list_append_2 _ _) (PySem.list_append l its.toArray n u (by rw[υ];lia)) ⟨e,?_⟩;refine⟨.ak,_,I.Cs (its':=its++[u]) hH e (by simp) (r.append (.cons ru .nil)) ?_,rfl,q⟩;rw[aa,fH];lia
def DX:V->List V->Hp->VK->Prop:=fun x vs H Q=>∃l b xs zs,x=.ref l/\vs=[.ref b]/\H l=some (.lst xs)/\H b=some (.lst zs)/\xs.length+zs.length≤aj/\Q .ak (upd H l (.lst (xs++zs)))
theorem Yf:J4 X "list.extend" DX:=by
 intro pins s σ H x vs v us Q I rx rv h;obtain⟨l,b,xs,zs,rfl,rfl,hH,hB,hz,q⟩:=h;cases rx;obtain⟨u,rfl,ru⟩:=rv.one;cases ru;obtain⟨z,its,n,r,hl,e⟩:=I.tM hH;obtain⟨z2,its2,n2,r2,hl2,e2⟩:=I.tM hB;have hsz:its.toArray.size+its2.toArray.size≤aj:=by rw[υ,υ];lia
 have hlong:¬(!its.toArray.isEmpty&&gy (its.toArray.size+its2.toArray.size))=true:=by
  rw[wO hsz,Bool.and_false];exact ao
 refine nu F.slot_list_extend ⟨_,e,rfl⟩ F.entry_list_extend (F.args_list_extend_2 _ _)
  (AutoSeq1.list_extend_list_list_0 l its.toArray n b its2.toArray n2 hlong (by rw[υ];lia) (by lia)) ⟨e,e2,?_⟩
 refine⟨.ak,_,I.Cs (its':=its++its2) hH e (by simp) (r.append r2) ?_,rfl,q⟩;rw[aa];lia
def Au:V->List V->Hp->VK->Prop:=fun x vs H Q=>∃l xs i k y,x=.ref l/\vs=[.int i]/\H l=some (.lst xs)/\-(2^63)≤i/\i<2^63/\seqIndex? i xs.length=some k/\xs[k]?=some y/\Q y (upd H l (.lst (xs.eraseIdx k)))
theorem Jo:J4 X "list.pop" Au:=by
 intro pins s σ H x vs v us Q I rx rv h;obtain⟨l,xs,i,k,y,rfl,rfl,hH,h1,h2,hk,hy,q⟩:=h;cases rx;obtain⟨u,rfl,ru⟩:=rv.one;obtain⟨t,rfl⟩:=ru;obtain⟨z,its,n,r,hl,e⟩:=I.tM hH;obtain⟨w,hw,rw'⟩:=r.get hy;refine nu F.slot_list_pop ⟨_,e,rfl⟩ F.entry_list_pop (F.args_list_pop_2 _ _)
  (MeetsSeq.list_pop_at l its.toArray n i t k w (fitsIndex_both h1 h2) (by rw[υ,←hl];exact hk) (by rw[←aR];exact hw) (by rw[υ];lia)) ⟨e,?_⟩
 refine⟨y,_,I.Cs (its':=its.eraseIdx k) hH e ?_ (r.eraseIdx k) ?_,rw',q⟩
 ·show its.toArray.eraseIdxIfInBounds k=(its.eraseIdx k).toArray;rw[List.eraseIdxIfInBounds_toArray]
 ·have:=Ce xs k;lia
def Er:R2:=fun x y H Q=>∃l b xs zs,x=.ref l/\y=.ref b/\H l=some (.lst xs)/\H b=some (.lst zs)/\xs.length+zs.length≤aj/\∀p,H p=none->Q (.ref p) (upd H p (.lst (xs++zs)))
theorem Ju:eB X (binaryOp .Add) Er:=by
 intro pins s σ H x y v u Q I rx ry h;obtain⟨l,b,xs,zs,rfl,rfl,hH,hB,hz,q⟩:=h;cases rx;cases ry;obtain⟨z,its,n,r,hl,e⟩:=I.tM hH;obtain⟨z2,its2,n2,r2,hl2,e2⟩:=I.tM hB;refine PySem.P.add_list e e2 ?_ (by rw[υ,υ];lia);have ea:its.toArray++its2.toArray=(its++its2).toArray:=by simp
 rw[ea];exact⟨.ref _,_,I.yD (t':=s.toks) (r.append r2) (by rw[aa];lia),rfl,q _ I.fresh⟩
def Ek:R2:=fun x y H Q=>∃l k xs,x=.ref l/\y=.int k/\H l=some (.lst xs)/\-(2^63)≤k/\k<2^63/\xs.length*k.toNat≤aj ∧
 ∀p,H p=none->Q (.ref p) (upd H p (.lst (av k.toNat xs).flatten))
theorem len_rep{α:Type}(xs:List α)(k:Nat):(av k xs).flatten.length=k*xs.length:=by
 induction k with
 |zero=>simp
 |succ k ih=>rw[cM,fS,aa,ih,Nat.succ_mul,Nat.add_comm]
theorem S9:eB X (binaryOp .Mult) Ek:=by
 intro pins s σ H x y v u Q I rx ry h;obtain⟨l,k,xs,rfl,rfl,hH,h1,h2,hz,q⟩:=h;cases rx;obtain⟨t,rfl⟩:=ry;obtain⟨z,its,n,r,hl,e⟩:=I.tM hH;have hlen:its.toArray.size*k.toNat≤aj:=by rw[υ,←hl];exact hz
 have hcap:¬its.toArray.size*k.toNat > (2^63-1) / 8:=by
  have:(aj:Nat)≤(2^63-1) / 8:=by decide
  lia
 have hfit:¬(!dP.List.listFitsIndex k)=true:=by
  rw[fitsIndex_both h1 h2];exact ao
 have hlong:¬gy (its.toArray.size*k.toNat)=true:=by
  rw[wO hlen];exact ao
 have hnew:uh (fun x1 x2=>x1++x2) #[] (av (if its.toArray.isEmpty=true then 0 else k.toNat) its.toArray)=(av k.toNat its).flatten.toArray:=by
  have f0:∀m:Nat,uh (fun x1 x2=>x1++x2) #[] (av m its.toArray)=(av m its).flatten.toArray:=fun m=>by
   have:=foldl_rep its m [];rw[dO] at this;exact this
  rw[f0];cases its with
  |nil=>simp
  |cons a r'=>rw[if_neg (by simp)]
 refine wpAny_binaryOp_repeat_ref (T:="list") (U:="int") (by decide) ⟨_,e,rfl⟩ (fun s'=>typeIs_int s' k t) noFill_list_mul F.fills_int_mul F.slot_int_rmul repeat_list F.slot_int_index.lookup
  (nu F.slot_int_rmul (typeIs_int s k t) F.entry_int_rmul (F.args_int_rmul_2 _ _) (int___rmul___int_list k t l its.toArray n)
   ⟨e,rfl,⟨_,e,rfl⟩,nu F.slot_list_mul ⟨_,e,rfl⟩ F.entry_list_mul (F.args_list_mul_2 _ _) (AutoListH.list___mul___list_int_3 l its.toArray n k t hfit hcap hlong) ⟨e,?_⟩⟩)
 rw[hnew];exact⟨.ref _,_,I.yD (t':=s.toks) (r.rep k.toNat) (by rw[len_rep,eQ];exact hz),rfl,q _ I.fresh⟩
end
end L2
namespace Lk
open PySem PySem.W PySem.Calls PyProof.Rows
theorem S8{P:Params}{h:ay}:∀(ns:List Int) (vs:List δ),WellAll P h vs (ns.map WData.int)->gi vs ns:=by
 intro ns
 induction ns with
 |nil=>
  intro vs w;rw[om] at w;cases w;exact .nil
 |cons n ns ih=>
  intro vs w;rw[aq] at w;cases w with
  |cons a b=>
   cases a;exact .cons _ _ (ih _ b)
theorem S7{l:OpenLaw}{n:Nat}(hn:l.most=some n){P:Params}{h:ay}{args:List WData}{vals:List δ}
  (yF:l.row.toRowW.claim.pre args=true) (hwl:WellAll P h vals args):
  ∃a vs ns,vals=[aV a]/\args=[WData.list (ns.map WData.int)]/\h.get? a=some { cls:=.type "list",data:=.seq vs.toArray }/\gi vs ns/\ns.length≤n:=by
 have hsh:WShape.hasAll [] args [.list .int]=true:=(pre_splitW yF).1;have hc:l.pre.holds [] { args:=args }=true:=(pre_splitW yF).2;obtain⟨d,r,rfl,h1,h2⟩:=hasAllW_cons hsh;obtain rfl:=hasAllW_nil h2;obtain⟨xs,rfl,h3⟩:=hasW_list h1;obtain⟨ns,rfl⟩:=items_int h3;have hlen:ns.length≤n:=by
  unfold OpenLaw.pre at hc;have h4:(WTm.not (.lt (.lit (.int (n:Int))) (.len (.arg 0)))).holds [] { args:=[.list (ns.map .int)]}=true:=by
   have h4:=(holds_andW hc).1;rw[hn] at h4;exact h4
  have h5:=condW_of h4 (w_not (w_lt w_lit (w_len_list (w_arg rfl))));rw[ξ] at h5;refine Nat.le_of_not_lt fun q=>?_;have q':(n:Int)<((ns.length:Nat):Int):=by lia
  first
   | (rw[decide_eq_true q'] at h5;exact absurd h5 (by decide))
   | (simp at h5;lia)
 cases hwl with
 |cons w1 w2=>
  cases w2;cases w1 with
  |list ho hall=>exact⟨_,_,ns,rfl,rfl,ho,S8 ns _ hall,hlen⟩
theorem S6(l:OpenLaw)(args:List WData):l.row.toRowW.claim.post args (.bool true) args=true:=
 postW_of (r:=l.row.toRowW) (X:=(true==true))
  (show WShape.has [] (.bool true) .bool=true by first|rfl|decide|simp[WShape.has,WShape.arms,WShape.armsAll])
  (show (WTm.eq .res (.lit (.bool true))).value [] { args:=args,res:=some (.bool true),after:=args }=some (.bool (true==true)) from w_eq_bool (w_res rfl) w_lit) rfl
theorem xi{l:OpenLaw}{n:Nat}{q:aG}{loose:List ψ}{XP:(ψ->Option δ)->ay->Prop}{YP:aQ->ay->Prop}{d:DefRec}
  (hn:l.most=some n) (hdf:d.params.defaults=[])
  (call:∀(w:aQ) (s₀ s₁:η) (mg mb:ψ->Option δ) (fa:ε) (o:aN) (pm cd doc:δ) (a:ε) (vs:List δ) (ns:List Int),
   Ground q loose [] XP w s₀ mg mb s₁.heap->YP w s₁.heap ->
   s₁.heap.get? fa=some o->o.data=.func (docDef d.name d.params d.body d.scope pm cd doc)->s₁.heap.CodeRec cd d.name->mg d.name=some (.ref fa) ->
   s₁.heap.get? a=some { cls:=.type "list",data:=.seq vs.toArray }->gi vs ns->ns.length≤n->s₁.gens = #[] ->
   kn (model l.prog w) callerA (.call (.ref fa) ⟨[.ref a],[]⟩) (fun r s'=>r=.ok (.ret (.bool true))/\OldK s₁.heap s'.heap/\s'.os=s₁.os/\kr s'.gens) s₁):
  WalkO q loose XP YP l.row.toRowW d [] (fun f vs=>ue f vs):=by
 intro w s₀ s₁ mg mb G Y fa o pm cd doc dV kV ho hd rF hD hmg hg args vals as yF hlay Ds hwl hlo;obtain rfl:dV=.none:=Dflts.none hD hdf;obtain rfl:kV=.none:=Dflts.noKw hD;obtain⟨a,vs,ns,rfl,rfl,hobj,hints,hlen⟩:=S7 hn yF hwl;refine enter_call (kM (call w s₀ s₁ mg mb fa o pm cd doc a vs ns G Y ho (fd_plain hd) rF hmg hobj hints hlen hg) fun r s' hq=>?_);obtain⟨rfl,h2,h3,h4⟩:=hq;exact⟨.inl ⟨.bool true,.bool true,[],rfl,fun _=>rfl,.bool true,S6 l _,fun _=>⟨sy,fun _ hm=>(nomatch hm)⟩⟩,h2,h3,h4⟩
end Lk
namespace L2
open PySem PySem.Spec PyProof.Rows
theorem Jn:∀{vs:List δ} {ns:List Int},gi vs ns->bh (ns.map V.int) vs
 |_,_,.nil=>.nil
 |_,_,.cons n t h=>.cons ⟨t,rfl⟩ (Jn h)
def zV(H:Hp):Prop:=∀b,H b=none∨∃o xs,H b=some (.gI o (.lst xs))
theorem SY{P:aG}{w:aQ}{K:ζ}{mg mb:ψ->Option δ}{CX:qJ}{k:Nat}{fa a:ε}{fd:aE}{x:ψ}{sp:Sp}{s₁:η}{vs:List δ}{ns:List Int}
  (KX:K.In s₁.heap) (hns:s₁.heap.Ns bt mg) (hb:s₁.heap.Ns builtinsNs mb) (hbb:∀x:ψ,x≠"__name__"->mb x=gn x) (hlim:s₁.heap.NoLimit) (hg:s₁.gens = #[])
  (ha:s₁.heap.get? a=some { cls:=.type "list",data:=.seq vs.toArray }) (hi:gi vs ns) (hl:ns.length≤aj) (hr:gk k callerA)
  (F:∀base:ay,K.In base->base.Ns bt mg->jJ P w K mg base CX k fa fd [x] sp) (hbind:∀(s:η) (u:δ),pZ s fd ⟨[u],[]⟩ [(x,u)])
  (vd:∀H:Hp,zV H->eA K H a (ns.map V.int)->sp [.ref a] H (fun v _=>v=.bl true) fun _ _ _=>False)
  (JP:∀H e s',CX [] H s₁ (fun _ _ _=>False) e s'->False):
  kn (model P w) callerA (.call (.ref fa) ⟨[.ref a],[]⟩) (fun r s'=>r=.ok (.ret (.bool true))/\OldK s₁.heap s'.heap/\s'.os=s₁.os/\kr s'.gens) s₁:=by
 have rv:=Jn hi;have lenV:=hi.length
 -- from an abstract heap in which nothing but the script may be tracked
 have core:∀H:Hp,zV H->eA K H a (ns.map V.int)->jb P w H s₁.heap->(∀b,H b≠none->b=a)->(H a≠none->K.lookup a=none) ->
   kn (model P w) callerA (.call (.ref fa) ⟨[.ref a],[]⟩) (fun r s'=>r=.ok (.ret (.bool true))/\OldK s₁.heap s'.heap/\s'.os=s₁.os/\kr s'.gens) s₁:=by
  intro H hO hS cq hA hK;have base_of:∀{b:ε} {o:aN},s₁.heap.get? b=some o->H b=none->(qo s₁.heap H).get? b=some o:=fun e n=>Ua e n;have noA:∀{b:ε} {o:aN} {es:Array mz} {ep:Nat},s₁.heap.get? b=some o->o.data=.dict es ep->H b=none:=fun {b o es ep} e d=>by
   cases q:H b with
   |none=>rfl
   |some u=>
    have e':b=a:=hA b (by rw[q];simp);subst e';rw[ha] at e;cases e;have d':Data.seq vs.toArray _=Data.dict es ep:=d;cases d'
  have nsK:∀{b:ε} {m:ψ->Option δ},s₁.heap.Ns b m->(qo s₁.heap H).Ns b m:=fun {b m} ⟨o,es,ep,e,d,r⟩=>⟨o,es,ep,base_of e (noA e d),d,r⟩;have hKb:K.In (qo s₁.heap H):=fun b o e=>base_of (KX b o e) (by
   cases q:H b with
   |none=>rfl
   |some u=>
    have e':b=a:=hA b (by rw[q];simp);subst e';rw[hK (by rw[q];simp)] at e;cases e)
  have hM:Mod K mg (qo s₁.heap H):=⟨hKb,nsK hns,⟨mb,nsK hb,hbb⟩,let ⟨mc,h1,h2⟩:=hlim;⟨mc,nsK h1,h2⟩⟩
  have e0:Ad P w K mg (qo s₁.heap H) callerA [] s₁ H:=⟨rfl,hM,fun b o e=>T9 e,Nat.le_of_eq (Ub _ _),trivial,fun b hb=>absurd (show b∈([]:List ε) from hb) (by simp),cq,.of_eq hg⟩;refine kM ((F _ hKb (nsK hns)).run callerA [] s₁ H ⟨[.ref a],[]⟩ [.ref a] [.ref a] _ _ hr e0 (hbind s₁ (.ref a)) (.cons rfl .nil) (vd H hO hS)) fun r s' h=>?_;cases r with
  |error e=>exact (JP H e s' h).elim
  |ok fl=>
   cases fl with
   |next=>exact gb h
   |brk=>exact gb h
   |cont=>exact gb h
   |ret u=>
    obtain⟨v,H',os,bare,un,hok',r',q⟩:=h;have q':v=.bl true:=q;subst q';obtain rfl:u=kN true:=r';refine⟨rfl,OldK.of_keep fun b o e=>?_,os,bare⟩;cases q:H b with
    |none=>exact un.keep b o e q (by intro z;exact absurd (show b∈([]:List ε) from z) (by simp)) (by simp)
    |some u=>
     rcases hO b with z|⟨ob,xs,z⟩
     ·rw[q] at z;cases z
     ·have z2:=un.qq b ob _ z;obtain⟨e1,_⟩:=cq b _ z;obtain⟨e2,_⟩:=hok' b _ z2;rw[e] at e1;cases e1;exact e2
 cases hk:K.lookup a with
 |some o=>
  -- the script is one of the module's own objects
  have e:=KX a o hk;rw[ha] at e;cases e;refine core (fun _=>none) (fun _=>.inl rfl) (.inr ⟨_,vs.toArray,_,hk,rfl,rfl,rfl,by rw[υ,lenV];exact hl,by simpa using rv⟩) (fun b u z=>by have z':(none:Option HO)=some u:=z;cases z') (fun b z=>absurd rfl z) fun z=>absurd rfl z
 |none=>
  refine core (fun b=>if b=a then some (.gI { cls:=.type "list",data:=.seq vs.toArray } (.lst (ns.map V.int))) else none) (fun b=>?_) (.inl (.inr ⟨{ cls:=.type "list",data:=.seq vs.toArray },if_pos rfl⟩)) (fun b u z=>?_) (fun b z=>?_) fun _=>hk
  ·by_cases hb:b=a
   ·exact .inr ⟨_,_,if_pos hb⟩
   ·exact .inl (if_neg hb)
  ·by_cases hb:b=a
   ·have z':=(if_pos hb).symm.trans z;cases z';subst hb;exact⟨ha,by rw[ξ];exact hl,vs,_,rv,ha⟩
   ·have z':=(if_neg hb).symm.trans z;cases z'
  ·by_cases hb:b=a
   ·exact hb
   ·exact absurd (if_neg hb) z
end L2
namespace L2
open PySem PySem.Spec PyProof.Rows
theorem xk{l:uf}{n k:Nat}{q:aG}{loose:List ψ}{XP:(ψ->Option δ)->ay->Prop}{YP:aQ->ay->Prop}{d:DefRec}{K:Params->ζ}{CX:aQ->qJ}{sp:aQ->Sp}{x:ψ}
  (hn:l.most=some n) (hn2:n≤aj) (hdf:d.params.defaults=[]) (hr:gk k callerA)
  (hY:∀(w:aQ) (h:ay),YP w h->(K w.params).In h)
  (F:∀(w:aQ) (mg:ψ->Option δ) (fa:ε) (h:ay),(K w.params).In h->h.Ns bt mg->mg d.name=some (.ref fa) ->
   ∃fd:aE,(∀(s:η) (u:δ),pZ s fd ⟨[u],[]⟩ [(x,u)]) ∧
    ∀base:ay,(K w.params).In base->base.Ns bt mg->jJ l.prog w (K w.params) mg base (CX w) k fa fd [x] (sp w))
  (vd:∀(w:aQ) (H:Hp) (a:ε) (ns:List Int),ns.length≤n->zV H->eA (K w.params) H a (ns.map V.int)->sp w [.ref a] H (fun v _=>v=.bl true) fun _ _ _=>False)
  (JP:∀(w:aQ) (H:Hp) (s:η) (e:δ) (s':η),CX w [] H s (fun _ _ _=>False) e s'->False):
  PySem.W.WalkO q loose XP YP l.row.toRowW d [] (fun f vs=>ue f vs):=by
 refine Lk.xi hn hdf fun w s₀ s₁ mg mb fa o pm cd doc a vs ns G Y ho hd rF hmg hobj hints hlen hg=>?_;have KX:=hY w _ Y;obtain⟨fd,hb,hF⟩:=F w mg fa _ KX G.T.g hmg;exact SY KX G.T.g G.T.b G.T.builtins G.T.nolimit hg hobj hints (ae hlen hn2) hr hF hb (fun H hO hS=>vd w H a ns hlen hO hS) fun H e s'=>JP w H s₁ e s'
end L2
/- THE LAST THEOREM (shape;LID,My.* are yours):
  My.DT: a structure of the addresses that your layer names (classes,functions);My.Txt K t: a structure (Prop) of the equations over K;
  My.vI:{K} {implicit addresses ..} (e1:nsIn K bt "law" = some (some (.ref f))) (e2:K.lookup f=some ⟨oc,od,.func (fnOf "law" "law" params body scope dV kV doc pm an cdv ct),sl⟩) (e3:codeIn K cdv "law" = true) ..:∃t,My.Txt K t
set_option maxRecDepth 100000 in
set_option maxHeartbeats 0 in
theorem PySem.Challenge.cw_LID_holds : PySem.Challenge.rw_LID.Holds := by
 w_on;o_law;k_head;(case hw=>w_witness2)
 k_fill
 refine L2.xk (l:=PySem.Challenge.rw_LID) (n:=63) (k:=40) (x:="script") (CX:=fun w=>..) (sp:=fun _=>My.me) rfl (by decide) rfl ⟨rfl,by decide,by decide⟩ (fun w h Y=>PySem.W.kIn_of Y) ?F ?S ?C
 case F=>
  intro w mg fa h KX G hmg
  have T:∃t,My.Txt (L2.KOf KX) t:=by
   dsimp only[L2.KOf]                          -- K must stand as «<heap const> w.params» for k_is
   refine' My.vI ?e1 ?e2 ?e3 ..
   (case e1=>PySem.W.k_is)                    -- in the order: a name -> its address -> its object -> its parts
   (case e2=>PySem.W.k_is)
   ..
  obtain⟨t,T⟩:=T
  have e0:=hmg.symm.trans (ah KX G T.law)
  cases e0                                       -- fa is the law's own address
  exact⟨_,fun s u=>.of_eq rfl,fun base kb nb=>My.law_fn T kb nb⟩     -- if «.of_eq rfl» comes too early: refine' ⟨_,?b,fun base kb nb=>My.law_fn T kb nb⟩;exact fun s u=>.of_eq rfl
 case S=>exact fun w H a ns hl hO hS=>..
 case C=>exact ..
(the tactic k_is has no namespace: write k_is) -/
namespace L2
open PySem PySem.Spec PyProof.Rows
def pJ(s:aS):Arguments:=match s with
 |.FunctionDef _ a _ _ _ _ _ _ _ _=>a
 |_=>{ posonlyargs:=[],args:=[],vararg:=none,kwonlyargs:=[],kw_defaults:=[],kwarg:=none,defaults:=[]}
def km(s:aS):List aS:=match s with
 |.FunctionDef _ _ b _ _ _ _ _ _ _=>b
 |_=>[]
def ai(s:aS):gM:=match s with
 |.FunctionDef _ _ _ _ _ _ sc _ _ _=>sc
 |_=>{ kind:=.function,names:=[],isGenerator:=false,isCoroutine:=false }
abbrev vk:qJ:=fun _ _ _ _ _ _=>False
abbrev E0:XK:=fun _ _ _=>False
theorem Kl{X:Cx}:xc vk X E0:=fun _ _ _ _ _ _ _ h=>h.elim
structure dJ(K:ζ)(x qual:ψ)(st:aS)(f:ε)(fd:aE):Prop where
 ex:∃(oc:δ) (od:Option ε) (kV doc pm:δ) (an:Option ε) (cdv ct:δ) (osl:Array (Option δ)),
  fd=hX x qual (pJ st) (km st) (ai st) .none kV doc pm an cdv ct/\K.lookup f=some ⟨oc,od,.func fd,osl⟩/\lM K cdv qual=true
 kp:hV K (.ref f)=true
section
variable {P:aG} {w:aQ} {K:ζ} {mg:ψ->Option δ} {base:ay}
theorem dJ.ok{x qual:ψ}{st:aS}{f:ε}{fd:aE}{N ps:List ψ}{k:Nat}{sp:Sp}(F:dJ K x qual st f fd)(S:bC N ps (ai st))(len:∀vs H Q E,sp vs H Q E->vs.length=ps.length)
  (qp:∀(cdv:δ) (A:bT) (outer:List ir) (s:η) (H:Hp) (vs:List V) (Q:VK) (E:XK),gk k (A.deeper (envOfC qual (ai st) s.heap.objs.size f cdv))->sp vs H Q E ->
   ∃t,mW (rJ vk P w K mg base N qual (ai st) f cdv A outer s H E).xq (km st) t/\t { nx:=fun _ H'=>Q .ak H',rt:=Q } (start N vs) H):jJ P w K mg base vk (k+1) f fd ps sp:=by
 obtain⟨oc,od,kV,doc,pm,an,cdv,ct,osl,rfl,lk,rF⟩:=F.ex;refine SO lk rF S len fun A outer s H vs Q E hr vd=>?_;obtain⟨t,h,q⟩:=qp cdv A outer s H vs Q E hr vd;exact⟨t,h.xq,q⟩
theorem dJ.binds{x qual:ψ}{st:aS}{f:ε}{fd:aE}{ps:List ψ}(F:dJ K x qual st f fd)
  (h:∀(kV doc pm:δ) (an:Option ε) (cdv ct:δ) (us:List δ),us.length=ps.length->bindArgs (hX x qual (pJ st) (km st) (ai st) .none kV doc pm an cdv ct) ⟨us,[]⟩=pure (ps.zip us)):Binds K fd ps []:=by
 obtain⟨oc,od,kV,doc,pm,an,cdv,ct,osl,rfl,lk,rF⟩:=F.ex;exact .all (h kV doc pm an cdv ct)
theorem Sd{x qual:ψ}{st:aS}{f:ε}{oc:δ}{od an:Option ε}{osl:Array (Option δ)}{kV doc pm cdv ct:δ}(l:K.lookup f=some ⟨oc,od,.func (hX x qual (pJ st) (km st) (ai st) .none kV doc pm an cdv ct),osl⟩)
  (c:lM K cdv qual=true) (k:hV K (.ref f)=true):dJ K x qual st f (hX x qual (pJ st) (km st) (ai st) .none kV doc pm an cdv ct):=⟨⟨oc,od,kV,doc,pm,an,cdv,ct,osl,rfl,l,c⟩,k⟩
end
section
variable {X:Cx}
theorem pv(i:Nat){x:ψ}{pos:aL}(hN:X.N[i]?=some x:=by rfl)(hv:DB X.env.scope x:=by first|exact nW rfl|exact mr (nW rfl)|exact mr (mr rfl))(hd:(x==("__debug__":ψ))=false:=by decide)
  (rF:(x==("__classdict__":ψ))=false:=by decide):PE X (.Name x pos) (xy i):=Ur hN hv hd rF
end
end L2
namespace L3
open PySem PySem.Spec PyProof.Rows L2
inductive D where
 |ak|bl (b:Bool)|int (i:Int)|str (x:ψ)|tup (xs:List D)|fo (xs:List D)|obj (a:ε)|dc (a:ε)
def qI(K:ζ)(H:Hp)(a:ε)(xs:List V):Prop:=
 (∃o,H a=some (.gI o (.lst xs))) ∨
  ∃(o:aN) (its:Array δ) (n:Nat),K.lookup a=some o/\o.cls=.type "list"/\o.dict=none/\o.data=.seq its n/\its.size≤aj/\bh xs its.toList
theorem qI.l{K:ζ}{H:Hp}{a:ε}{xs:List V}(h:qI K H a xs):eA K H a xs:=by
 rcases h with h|h
 ·exact .inl (.inr h)
 ·exact .inr h
mutual
def Hv(K:ζ)(H:Hp):D->V->Prop
 |.ak,v=>v=.ak
 |.bl b,v=>v=.bl b
 |.int i,v=>v=.int i
 |.str x,v=>v=.str x
 |.tup ds,v=>∃a vs,v=.ref a/\cF K H a vs/\aO K H ds vs
 |.fo ds,v=>∃a vs,v=.ref a/\qI K H a vs/\aO K H ds vs
 |.obj a,v=>v=.ref a
 |.dc a,v=>v=.ref a/\∃ob φ,H a=some (.gI ob (.ext φ))/\ob.cls=.type "dict"
def aO(K:ζ)(H:Hp):List D->List V->Prop
 |[],vs=>vs=[]
 |d::ds,vs=>∃v r,vs=v::r/\Hv K H d v/\aO K H ds r
end
inductive GO where
 |lst (ds:List D)|kl|iF
 |gen (R:ζ->ε->Hp->Prop)
def GO.plain:GO->Prop
 |.gen _=>False
 |_=>True
abbrev Gp:=ε->Option GO
def da(G:Gp)(a:ε)(o:GO):Gp:=fun b=>if b=a then some o else G b
theorem lr{G:Gp}{a:ε}{o:GO}:da G a o a=some o:=by simp[da]
theorem mi{G:Gp}{a b:ε}{o:GO}(h:b≠a):da G a o b=G b:=by simp[da,h]
theorem Sb{G:Gp}{a b:ε}{o u:GO}(hn:G a=none)(h:G b=some u):da G a o b=some u:=by
 rw[mi]
 ·exact h
 ·intro e;rw[e,hn] at h;cases h
theorem Sa{G:Gp}{a:ε}{o u:GO}:da (da G a o) a u=da G a u:=by
 funext b;unfold da;by_cases h:b=a
 ·rw[if_pos h,if_pos h]
 ·rw[if_neg h,if_neg h,if_neg h]
def sm(a b c:Int):Prop:=0≤a/\0≤c/\c<2147483647
def sM(K:ζ)(H:Hp)(a:ε):GO->Prop
 |.lst ds=>∃vs,H a=some (.lst vs)/\aO K H ds vs
 |.kl=>∃i j k,H a=some (.lst [.int i,.int j,.int k])/\sm i j k
 |.iF=>H a=some (.ext fun h=>∃o,h.get? a=some o/\o.cls=.type "dict")
 |.gen R=>R K a H/\(∃o,H a=some o/\(∀xs,o≠.tup xs)/\∀ob u,o≠.gI ob u)/\∀H1 H2:Hp,(∀b xs,H1 b=some (.tup xs)->H2 b=some (.tup xs))->(∀b o u,H1 b=some (.gI o u)->H2 b=some (.gI o u))->H2 a=H1 a->R K a H1->R K a H2
def bo(K:ζ)(G:Gp)(H:Hp):Prop:=∀a o,G a=some o->sM K H a o
structure Ext(H H':Hp):Prop where
 tup:∀b xs,H b=some (.tup xs)->H' b=some (.tup xs)
 gI:∀b o u,H b=some (.gI o u)->H' b=some (.gI o u)
theorem Ext.refl(H:Hp):Ext H H:=⟨fun _ _ h=>h,fun _ _ _ h=>h⟩
theorem Ext.trans{H H1 H2:Hp}(a:Ext H H1)(b:Ext H1 H2):Ext H H2:=⟨fun c x h=>b.tup c x (a.tup c x h),fun c o u h=>b.gI c o u (a.gI c o u h)⟩
structure Step(H:Hp)(G:Gp)(H':Hp)(G':Gp):Prop where
 fr:∀a o,H a=some o->G a=none->H' a=some o
 nC:∀a,H a≠none->H' a≠none
 new:∀a,G a=none->G' a≠none->H a=none
theorem Step.refl(H:Hp)(G:Gp):Step H G H G:=⟨fun _ _ h _=>h,fun _ h=>h,fun _ h1 h2=>absurd h1 h2⟩
theorem Step.trans{H H1 H2:Hp}{G G1 G2:Gp}(a:Step H G H1 G1)(b:Step H1 G1 H2 G2):Step H G H2 G2 where
 fr:=fun c o h n=>b.fr c o (a.fr c o h n) (by
  refine aD fun q=>?_;rw[a.new c n q] at h;cases h)
 nC:=fun c h=>b.nC c (a.nC c h)
 new:=fun c n q=>by
  by_cases h1:G1 c=none
  ·have h2:=b.new c h1 q;refine aD fun z=>?_;exact a.nC c z h2
  ·exact a.new c n h1
def Sub(G' G:Gp):Prop:=∀a o,G' a=some o->G a=some o
theorem Sub.refl(G:Gp):Sub G G:=fun _ _ h=>h
theorem Sub.trans{A B C:Gp}(a:Sub A B)(b:Sub B C):Sub A C:=fun x o h=>b x o (a x o h)
theorem Sub.upd{G:Gp}{a:ε}{o:GO}(h:G a=none):Sub G (da G a o):=fun _ _ e=>Sb h e
theorem Sub.of_none{G' G:Gp}(s:Sub G' G){a:ε}(h:G a=none):G' a=none:=by
 cases e:G' a with
 |none=>rfl
 |some o=>
  rw[s a o e] at h;cases h
structure dg(G:Gp)(p:ε)(o:GO)(G':Gp):Prop where
 ak:G p=none
 sub:Sub G G'
 at_:G' p=some o
theorem dg.mk'{G:Gp}{p:ε}{o:GO}(h:G p=none):dg G p o (da G p o):=⟨h,Sub.upd h,lr⟩
theorem Step.sub{H:Hp}{G G':Gp}(s:Sub G' G):Step H G H G':=⟨fun _ _ h _=>h,fun _ h=>h,fun a n q=>by
 exact absurd (s.of_none n) q⟩
section
variable {K:ζ} {H H':Hp} {G G':Gp}
theorem bo.sub(R:bo K G H)(s:Sub G' G):bo K G' H:=fun a o e=>R a o (s a o e)
theorem sM.mut{a:ε}{o:GO}(h:sM K H a o):∃o,H a=some o/\(∀xs,o≠.tup xs)/\∀ob u,o≠.gI ob u:=by
 cases o with
 |lst ds=>obtain⟨vs,e,_⟩:=h;exact⟨_,e,fun _=>nofun,fun _ _=>nofun⟩
 |kl=>obtain⟨i,j,k,e,_⟩:=h;exact⟨_,e,fun _=>nofun,fun _ _=>nofun⟩
 |iF=>exact⟨_,h,fun _=>nofun,fun _ _=>nofun⟩
 |gen R=>exact h.2.1
theorem bo.WY(R:bo K G H){a:ε}{xs:List V}(e:H a=some (.tup xs)):G a=none:=by
 cases q:G a with
 |none=>rfl
 |some u=>
  obtain⟨o,z,h1,_⟩:=(R a u q).mut;rw[e] at z;exact absurd (aJ z).symm (h1 xs)
theorem bo.outF(R:bo K G H){a:ε}{ob:aN}{u:HO}(e:H a=some (.gI ob u)):G a=none:=by
 cases q:G a with
 |none=>rfl
 |some g=>
  obtain⟨o,z,_,h1⟩:=(R a g q).mut;rw[e] at z;exact absurd (aJ z).symm (h1 ob u)
theorem bo.free(R:bo K G H){a:ε}(e:H a=none):G a=none:=by
 cases q:G a with
 |none=>rfl
 |some u=>
  obtain⟨o,z,_⟩:=(R a u q).mut;rw[e] at z;cases z
theorem Step.ext(S:Step H G H' G')(R:bo K G H):Ext H H':=⟨fun b xs h=>S.fr b _ h (R.WY h),fun b o u h=>S.fr b _ h (R.outF h)⟩
theorem cF.ext{a:ε}{xs:List V}(E:Ext H H')(h:cF K H a xs):cF K H' a xs:=by
 rcases h with (h|⟨o,h⟩)|h
 ·exact .inl (.inl (E.tup _ _ h))
 ·exact .inl (.inr ⟨o,E.gI _ _ _ h⟩)
 ·exact .inr h
theorem qI.ext{a:ε}{xs:List V}(E:Ext H H')(h:qI K H a xs):qI K H' a xs:=by
 rcases h with⟨o,h⟩|h
 ·exact .inl ⟨o,E.gI _ _ _ h⟩
 ·exact .inr h
mutual
theorem Hv.ext(E:Ext H H'):∀{d:D} {v:V},Hv K H d v->Hv K H' d v
 |.ak,_,h=>by simpa [Hv] using h
 |.bl _,_,h=>by simpa [Hv] using h
 |.int _,_,h=>by simpa [Hv] using h
 |.str _,_,h=>by simpa [Hv] using h
 |.obj _,_,h=>by simpa [Hv] using h
 |.dc a,v,h=>by
  unfold Hv at h ⊢;obtain⟨e,ob,φ,q,c⟩:=h;exact⟨e,ob,φ,E.gI _ _ _ q,c⟩
 |.tup ds,v,h=>by
  unfold Hv at h ⊢;obtain⟨a,vs,e,q,r⟩:=h;exact⟨a,vs,e,cF.ext E q,aO.ext E r⟩
 |.fo ds,v,h=>by
  unfold Hv at h ⊢;obtain⟨a,vs,e,q,r⟩:=h;exact⟨a,vs,e,qI.ext E q,aO.ext E r⟩
theorem aO.ext(E:Ext H H'):∀{ds:List D} {vs:List V},aO K H ds vs->aO K H' ds vs
 |[],_,h=>by simpa [aO] using h
 |d::ds,vs,h=>by
  unfold aO at h ⊢;obtain⟨v,r,e,q,z⟩:=h;exact⟨v,r,e,Hv.ext E q,aO.ext E z⟩
end
theorem aO.nil:aO K H [] []:=by simp[aO]
theorem aO.cons{d:D}{v:V}{ds:List D}{vs:List V}(h:Hv K H d v)(r:aO K H ds vs):aO K H (d::ds) (v::vs):=by
 unfold aO;exact⟨v,vs,rfl,h,r⟩
theorem aO.inv{d:D}{ds:List D}{vs:List V}(h:aO K H (d::ds) vs):∃v r,vs=v::r/\Hv K H d v/\aO K H ds r:=by
 unfold aO at h;exact h
theorem aO.iN{vs:List V}(h:aO K H [] vs):vs=[]:=by
 unfold aO at h;exact h
theorem aO.length:∀{ds:List D} {vs:List V},aO K H ds vs->ds.length=vs.length
 |[],_,h=>by rw[h.iN];rfl
 |d::ds,vs,h=>by
  obtain⟨v,r,rfl,_,q⟩:=h.inv;simp[q.length]
theorem aO.get:∀{ds:List D} {vs:List V} {i:Nat} {d:D},aO K H ds vs->ds[i]?=some d->∃v,vs[i]?=some v/\Hv K H d v
 |[],_,_,_,_,e=>by simp at e
 |x::ds,vs,0,d,h,e=>by
  obtain⟨v,r,rfl,q,_⟩:=h.inv;simp at e;subst e;exact⟨v,rfl,q⟩
 |x::ds,vs,i+1,d,h,e=>by
  obtain⟨v,r,rfl,_,q⟩:=h.inv;simp at e;obtain⟨u,e2,q2⟩:=q.get e;exact⟨u,by simpa using e2,q2⟩
theorem aO.append:∀{ds es:List D} {vs us:List V},aO K H ds vs->aO K H es us->aO K H (ds++es) (vs++us)
 |[],es,_,_,h,q=>by rw[h.iN];exact q
 |d::ds,es,vs,us,h,q=>by
  obtain⟨v,r,rfl,z,w⟩:=h.inv;exact .cons z (w.append q)
theorem aO.drop:∀{ds:List D} {vs:List V} (n:Nat),aO K H ds vs->aO K H (ds.drop n) (vs.drop n)
 |ds,vs,0,h=>h
 |[],_,n+1,h=>by rw[h.iN];exact .nil
 |d::ds,vs,n+1,h=>by
  obtain⟨v,r,rfl,_,q⟩:=h.inv;exact q.drop n
theorem aO.take:∀{ds:List D} {vs:List V} (n:Nat),aO K H ds vs->aO K H (ds.take n) (vs.take n)
 |ds,vs,0,h=>by simpa using aO.nil
 |[],_,n+1,h=>by rw[h.iN];exact .nil
 |d::ds,vs,n+1,h=>by
  obtain⟨v,r,rfl,q,z⟩:=h.inv;exact .cons q (z.take n)
theorem aO.set:∀{ds:List D} {vs:List V} (i:Nat) {d:D} {v:V},aO K H ds vs->Hv K H d v->aO K H (ds.set i d) (vs.set i v)
 |[],_,i,d,v,h,_=>by rw[h.iN];exact .nil
 |x::ds,vs,0,d,v,h,q=>by
  obtain⟨u,r,rfl,_,z⟩:=h.inv;exact .cons q z
 |x::ds,vs,i+1,d,v,h,q=>by
  obtain⟨u,r,rfl,y,z⟩:=h.inv;exact .cons y (z.set i q)
theorem aO.erase:∀{ds:List D} {vs:List V} (i:Nat),aO K H ds vs->aO K H (ds.eraseIdx i) (vs.eraseIdx i)
 |[],_,i,h=>by rw[h.iN];exact .nil
 |x::ds,vs,0,h=>by
  obtain⟨u,r,rfl,_,z⟩:=h.inv;exact z
 |x::ds,vs,i+1,h=>by
  obtain⟨u,r,rfl,y,z⟩:=h.inv;exact .cons y (z.erase i)
theorem aO.rep{ds:List D}{vs:List V}(h:aO K H ds vs):∀k:Nat,aO K H (av k ds).flatten (av k vs).flatten
 |0=>.nil
 |k+1=>by
  simp only[cM,fS];exact h.append (h.rep k)
theorem aO.ints:∀(ns:List Int),aO K H (ns.map D.int) (ns.map V.int)
 |[]=>.nil
 |n::ns=>.cons (by simp[Hv]) (aO.ints ns)
theorem Ext.laid{p:ε}{o:HO}(h:H p=none):Ext H (upd H p o):=⟨fun b xs e=>by rw[dR (lH e h)];exact e,fun b x u e=>by rw[dR (lH e h)];exact e⟩
theorem sM.ext{a:ε}{o:GO}(h:sM K H a o)(E:Ext H H')(e:H' a=H a):sM K H' a o:=by
 cases o with
 |lst ds=>
  obtain⟨vs,z,q⟩:=h;exact⟨vs,e.trans z,q.ext E⟩
 |kl=>
  obtain⟨i,j,k,z,q⟩:=h;exact⟨i,j,k,e.trans z,q⟩
 |iF=>exact e.trans h
 |gen R=>
  obtain⟨h1,h2,h3⟩:=h;exact⟨h3 H H' E.tup E.gI e h1,by rw[e];exact h2,h3⟩
theorem bo.laid{p:ε}{o:HO}(R:bo K G H)(h:H p=none):bo K G (upd H p o):=fun a u e=>by
 have hne:a≠p:=fun z=>by
  rw[z,R.free h] at e;cases e
 exact (R a u e).ext (Ext.laid h) (dR hne)
theorem bo.ix{p:ε}{o:HO}{g:GO}(R:bo K G H)(h:H p=none)(new:sM K (upd H p o) p g):bo K (da G p g) (upd H p o):=fun a u e=>by
 by_cases z:a=p
 ·subst z;rw[lr] at e;cases e;exact new
 ·rw[mi z] at e;exact (R.laid h) a u e
theorem Step.laid{p:ε}{o:HO}(h:H p=none):Step H G (upd H p o) G:=⟨fun a u e _=>by rw[dR (lH e h)];exact e,fun a q=>by
 by_cases z:a=p
 ·rw[z,g8];simp
 ·rw[dR z];exact q,fun a n q=>absurd n q⟩
theorem Step.ix{p:ε}{o:HO}{g:GO}(h:H p=none):Step H G (upd H p o) (da G p g):=⟨(Step.laid (G:=G) h).fr,(Step.laid (G:=G) h).nC,fun a n q=>by
 by_cases z:a=p
 ·rw[z];exact h
 ·rw[mi z] at q;exact absurd n q⟩
theorem R9{p b:ε}{xs ys:List V}(h:H p=some (.lst xs))(e:H b=some (.tup ys)):b≠p:=fun z=>by
 rw[z,h] at e;cases e
theorem R8{p b:ε}{xs:List V}{o:aN}{u:HO}(h:H p=some (.lst xs))(e:H b=some (.gI o u)):b≠p:=fun z=>by
 rw[z,h] at e;cases e
theorem Ext.wrote{p:ε}{xs:List V}{o:HO}(h:H p=some (.lst xs)):Ext H (upd H p o):=
 ⟨fun b ys e=>by rw[dR (R9 h e)];exact e,fun b x u e=>by rw[dR (R8 h e)];exact e⟩
theorem bo.wrote{p:ε}{xs:List V}{o:HO}{g:GO}(R:bo K G H)(h:H p=some (.lst xs))(new:sM K (upd H p o) p g):bo K (da G p g) (upd H p o):=fun a u e=>by
 by_cases z:a=p
 ·subst z;rw[lr] at e;cases e;exact new
 ·rw[mi z] at e;exact (R a u e).ext (Ext.wrote h) (dR z)
theorem bo.tJ{p:ε}{xs:List V}{ds:List D}(R:bo K G H)(h:H p=none)(hv:aO K H ds xs):bo K (da G p (.lst ds)) (upd H p (.lst xs)):=R.ix h ⟨xs,g8,hv.ext (.laid h)⟩
theorem bo.Aj{p:ε}{xs ys:List V}{ds:List D}(R:bo K G H)(e:H p=some (.lst xs))(hv:aO K H ds ys):bo K (da G p (.lst ds)) (upd H p (.lst ys)):=R.wrote e ⟨ys,g8,hv.ext (.wrote e)⟩
theorem Step.wrote{p:ε}{o:HO}{g u:GO}(h:G p=some u):Step H G (upd H p o) (da G p g):=⟨fun a x e n=>by
 have hne:a≠p:=fun z=>by
  rw[z,h] at n;cases n
 rw[dR hne];exact e,fun a q=>by
 by_cases z:a=p
 ·rw[z,g8];simp
 ·rw[dR z];exact q,fun a n q=>by
 have hne:a≠p:=fun z=>by
  rw[z,h] at n;cases n
 rw[mi hne] at q;exact absurd n q⟩
end
abbrev S3:=List (Option D)
def i8:S3->Nat->Option D
 |[],_=>none
 |x::_,0=>x
 |_::r,n+1=>i8 r n
def kx:S3->Nat->D->S3
 |[],_,_=>[]
 |_::r,0,d=>some d::r
 |x::r,n+1,d=>x::kx r n d
structure eL(K:ζ)(τ:S3)(σ:L2.St)(H:Hp):Prop where
 len:τ.length=σ.length
 at_:∀(i:Nat) d,i8 τ i=some d->∃v,σ[i]?=some (some v)/\Hv K H d v
theorem Jm:∀(τ:S3) (i:Nat) (d:D),(kx τ i d).length=τ.length
 |[],_,_=>rfl
 |_::r,0,d=>rfl
 |x::r,n+1,d=>by simp[kx,Jm r n d]
theorem Jl:∀(τ:S3) (i j:Nat) (d:D),i8 (kx τ i d) j=if j=i/\i<τ.length then some d else i8 τ j
 |[],i,j,d=>by simp[kx,i8]
 |x::r,0,0,d=>by simp[kx,i8]
 |x::r,0,j+1,d=>by simp[kx,i8]
 |x::r,i+1,0,d=>by simp[kx,i8]
 |x::r,i+1,j+1,d=>by
  simp only[kx,i8,Jl r i j d,ax];by_cases h:j=i/\i<r.length
  ·rw[if_pos h,if_pos (by lia)]
  ·rw[if_neg h,if_neg (by lia)]
section
variable {K:ζ} {τ:S3} {σ:L2.St} {H H':Hp}
theorem eL.ext(R:eL K τ σ H)(E:Ext H H'):eL K τ σ H':=⟨R.len,fun i d h=>by
 obtain⟨v,e,q⟩:=R.at_ i d h;exact⟨v,e,q.ext E⟩⟩
theorem eL.set(R:eL K τ σ H){i:Nat}{d:D}{v:V}(h:Hv K H d v):eL K (kx τ i d) (σ.set i (some v)) H:=⟨by rw[Jm,List.length_set];exact R.len,fun j e q=>by
 rw[Jl] at q;by_cases c:j=i/\i<τ.length
 ·rw[if_pos c] at q;cases q;refine⟨v,?_,h⟩;rw[c.1,jW (by rw[←R.len];exact c.2)]
 ·rw[if_neg c] at q;obtain⟨u,e1,e2⟩:=R.at_ j e q;refine⟨u,?_,e2⟩;by_cases hij:i=j
  ·subst hij;have:σ.length≤i:=by
    have:=R.len;have:¬i<τ.length:=fun z=>c ⟨rfl,z⟩;lia
   rw[cL.mpr this] at e1;cases e1
  ·rw[kU hij];exact e1⟩
end
def bz:List ψ->List D->S3
 |[],_=>[]
 |_::N,[]=>none::bz N []
 |_::N,d::ds=>some d::bz N ds
theorem Cd:∀(N:List ψ) (ds:List D),(bz N ds).length=N.length
 |[],_=>rfl
 |_::N,[]=>by simp[bz,Cd N []]
 |_::N,d::ds=>by simp[bz,Cd N ds]
theorem Jk:∀(N:List ψ) (i:Nat),i8 (bz N []) i=none
 |[],i=>rfl
 |_::N,0=>rfl
 |_::N,i+1=>Jk N i
theorem Jj:∀(N:List ψ) (ds:List D) (i:Nat) (d:D),i8 (bz N ds) i=some d->ds[i]?=some d
 |[],_,_,_,h=>by cases h
 |_::N,[],i,d,h=>by
  rw[Jk] at h;cases h
 |_::N,x::ds,0,d,h=>by
  simp only[bz,i8] at h;simpa using h
 |_::N,x::ds,i+1,d,h=>by
  simp only[bz,i8] at h;simpa using Jj N ds i d h
theorem eL.start{K:ζ}{N:List ψ}{ds:List D}{vs:List V}{H:Hp}(h:aO K H ds vs)(hl:vs.length≤N.length):eL K (bz N ds) (L2.start N vs) H:=⟨by
 rw[Cd];simp[L2.start];lia,fun i d e=>by
 obtain⟨v,e1,q⟩:=h.get (Jj N ds i d e);refine⟨v,?_,q⟩;unfold L2.start;have hi:i<vs.length:=(aw.mp e1).1;rw[eF (by simpa using hi),ag,e1];rfl⟩
abbrev V3:=D->Gp->Prop
abbrev aK:=S3->Gp->V3->Prop
abbrev cE:=S3->Gp->(Bool->Gp->Prop)->Prop
abbrev dj:=S3->Gp->(List D->Gp->Prop)->Prop
structure gz where
 nx:S3->Gp->Prop
 rt:V3
 bk:S3->Gp->Prop:=fun _ _=>False
 ct:S3->Gp->Prop:=fun _ _=>False
abbrev ab:=gz->S3->Gp->Prop
def low(K:ζ)(t:aK):TE:=fun σ H Q=>∃τ G Q3,eL K τ σ H/\bo K G H/\t τ G Q3/\∀v H' d G',Hv K H' d v->Step H G H' G'->bo K G' H'->Q3 d G'->Q v H'
def ql(K:ζ)(t:cE):TT:=fun σ H Q=>∃τ G Q3,eL K τ σ H/\bo K G H/\t τ G Q3/\∀b H' G',Step H G H' G'->bo K G' H'->Q3 b G'->Q b H'
def tN(K:ζ)(t:dj):TA:=fun σ H Q=>∃τ G Q3,eL K τ σ H/\bo K G H/\t τ G Q3/\∀vs H' ds G',aO K H' ds vs->Step H G H' G'->bo K G' H'->Q3 ds G'->Q vs H'
structure sr(K:ζ)(H:Hp)(G:Gp)(D3:gz)(D2:Ends):Prop where
 nx:∀τ σ G' H',eL K τ σ H'->Step H G H' G'->bo K G' H'->D3.nx τ G'->D2.nx σ H'
 bk:∀τ σ G' H',eL K τ σ H'->Step H G H' G'->bo K G' H'->D3.bk τ G'->D2.bk σ H'
 ct:∀τ σ G' H',eL K τ σ H'->Step H G H' G'->bo K G' H'->D3.ct τ G'->D2.ct σ H'
 rt:∀d v G' H',Hv K H' d v->Step H G H' G'->bo K G' H'->D3.rt d G'->D2.rt v H'
theorem sr.step{K:ζ}{H H1:Hp}{G G1:Gp}{D3:gz}{D2:Ends}(E:sr K H G D3 D2)(S:Step H G H1 G1):sr K H1 G1 D3 D2:=
 ⟨fun τ σ G' H' a b c q=>E.nx τ σ G' H' a (S.trans b) c q,fun τ σ G' H' a b c q=>E.bk τ σ G' H' a (S.trans b) c q,fun τ σ G' H' a b c q=>E.ct τ σ G' H' a (S.trans b) c q,fun d v G' H' a b c q=>E.rt d v G' H' a (S.trans b) c q⟩
def JH(K:ζ)(t:ab):TS:=fun D2 σ H=>∃τ G D3,eL K τ σ H/\bo K G H/\t D3 τ G/\sr K H G D3 D2
abbrev bV(X:Cx)(e:π)(t:aK):Prop:=PE X e (low X.K t)
abbrev pM(X:Cx)(e:π)(t:cE):Prop:=PT X e (ql X.K t)
abbrev vj(X:Cx)(e:π)(t:cE):Prop:=PW X e (ql X.K t)
abbrev jR(X:Cx)(es:List π)(t:dj):Prop:=PA X es (tN X.K t)
abbrev mX(X:Cx)(st:aS)(t:ab):Prop:=PS X st (JH X.K t)
abbrev pd(X:Cx)(st:List aS)(t:ab):Prop:=mW X st (JH X.K t)
section
variable {X:Cx} {e:π}
theorem jM{t t':TE}(h:PE X e t)(f:∀σ H Q,t' σ H Q->t σ H Q):PE X e t':=fun pins s σ H Q I q=>h pins s σ H Q I (f σ H Q q)
theorem Cr{t t':TT}(h:PT X e t)(f:∀σ H Q,t' σ H Q->t σ H Q):PT X e t':=fun pins s σ H Q I q=>h pins s σ H Q I (f σ H Q q)
theorem pw_of{t t':TT}(h:PW X e t)(f:∀σ H Q,t' σ H Q->t σ H Q):PW X e t':=fun w pins s σ H Q I q=>h w pins s σ H Q I (f σ H Q q)
theorem Ji{es:List π}{t t':TA}(h:PA X es t)(f:∀σ H Q,t' σ H Q->t σ H Q):PA X es t':=fun p pins s σ H Q I q=>h p pins s σ H Q I (f σ H Q q)
theorem lF{st:aS}{t t':TS}(h:PS X st t)(f:∀D σ H,t' D σ H->t D σ H):PS X st t':=fun pins s σ H Q I q=>h pins s σ H Q I (f Q σ H q)
theorem IB{st:List aS}{t t':TS}(h:mW X st t)(f:∀D σ H,t' D σ H->t D σ H):mW X st t':=fun pins s σ H Q I q=>h pins s σ H Q I (f Q σ H q)
end
def Br(b:Bool)(A B:Prop):Prop:=(b=true->A)/\(b=false->B)
theorem Br.ite{b:Bool}{A B A' B':Prop}(h:Br b A B)(f:A->A')(g:B->B'):if b=true then A' else B':=by
 cases b with
 |true=>rw[if_pos rfl];exact f (h.1 rfl)
 |false=>rw[if_neg ao];exact g (h.2 rfl)
section
variable {X:Cx} {a b e c:π} {ta tb te:aK} {tA tB:cE} {pos:aL} {es rest:List π}
def eC(d:D):aK:=fun _ G Q=>Q d G
def θ(i:Nat):aK:=fun τ G Q=>match i8 τ i with
 |some d=>Q d G
 |none=>False
theorem R7{i:Nat}{x:ψ}(h:PE X (.Name x pos) (xy i)):bV X (.Name x pos) (θ i):=jM h fun σ H Q ⟨τ,G,Q3,RS,RG,h,k⟩=>by
 unfold θ at h;cases hd:i8 τ i with
 |none=>rw[hd] at h;exact h.elim
 |some d=>
  rw[hd] at h;obtain⟨v,e1,e2⟩:=RS.at_ i d hd;exact⟨v,e1,k v H d G e2 (.refl H G) RG h⟩
theorem yi{v:V}{d:D}(h:PE X e (tC v))(r:∀H,Hv X.K H d v):bV X e (eC d):=jM h fun σ H Q ⟨τ,G,Q3,RS,RG,h,k⟩=>k v H d G (r H) (.refl H G) RG h
theorem R6{i:Int}{j}:bV X (.Constant (.int i) j pos) (eC (.int i)):=yi Uq fun H=>by simp[Hv]
theorem Xl{i:Bool}{j}:bV X (.Constant (.bool i) j pos) (eC (.bl i)):=yi Up fun H=>by simp[Hv]
theorem R4{j}:bV X (.Constant .none j pos) (eC .ak):=yi Uo fun H=>by simp[Hv]
theorem RZ{x:ψ}{i:Int}{u:Tok}(hm:X.mg x=some (.int i u))(hg:Gl X x:=by rfl)(hd:(x==("__debug__":ψ))=false:=by decide):bV X (.Name x pos) (eC (.int i)):=yi (v:=.int i) (Um hg hm ⟨u,rfl⟩ hd) fun H=>by simp[Hv]
abbrev R3:=D->D->Gp->V3->Prop
def af(r:R3)(ta tb:aK):aK:=fun τ G Q=>ta τ G fun x G1=>tb τ G1 fun y G2=>r x y G2 Q
def eG(K:ζ)(r:R3)(r2:R2):Prop:=∀x y vx vy G H Q3 Q,Hv K H x vx->Hv K H y vy->bo K G H->r x y G Q3->(∀v H' d G',Hv K H' d v->Step H G H' G'->bo K G' H'->Q3 d G'->Q v H')->r2 vx vy H Q
theorem yh{K:ζ}{r:R3}{r2:R2}(L:eG K r r2){σ:L2.St}{H:Hp}{Q:VK}(h:low K (af r ta tb) σ H Q):Ak r2 (low K ta) (low K tb) σ H Q:=by
 obtain⟨τ,G,Q3,RS,RG,h,k⟩:=h;refine⟨τ,G,_,RS,RG,h,fun v1 H1 d1 G1 h1 S1 R1 q1=>?_⟩;refine⟨τ,G1,_,RS.ext (S1.ext RG),R1,q1,fun v2 H2 d2 G2 h2 S2 R2 q2=>?_⟩;exact L _ _ _ _ _ _ _ _ (h1.ext (S2.ext R1)) h2 R2 q2 fun v H' d G' z1 z2 z3 z4=>k v H' d G' z1 ((S1.trans S2).trans z2) z3 z4
theorem Xj{op:kh}{r:R3}{r2:R2}(L:eG X.K r r2)(ho:eB X (binaryOp op) r2)(ha:bV X a ta)(hb:bV X b tb):bV X (.BinOp a op b pos) (af r ta tb):=
 jM (Tf ho ha hb) fun _ _ _ h=>yh L h
theorem RY{op:CmpOp}{r:R3}{r2:R2}(L:eG X.K r r2)(ho:eB X (compareOp op) r2)(ha:bV X a ta)(hb:bV X b tb)(hm:behindInMarks op b=false):bV X (.Compare a [op] [b] pos) (af r ta tb):=
 jM (T3 ho ha hb hm) fun _ _ _ h=>yh L h
def bK(t:aK):cE:=fun τ G Q=>t τ G fun x G1=>match x with
 |.bl k=>Q k G1
 |_=>False
theorem IA{K:ζ}{t:aK}{σ:L2.St}{H:Hp}{Q:Bool->Hp->Prop}(h:ql K (bK t) σ H Q):CY (low K t) σ H Q:=by
 obtain⟨τ,G,Q3,RS,RG,h,k⟩:=h;refine⟨τ,G,_,RS,RG,h,fun v H' d G' h1 h2 h3 h4=>?_⟩;cases d with
 |bl c=>
  unfold Hv at h1;exact⟨c,h1,k c H' G' h2 h3 h4⟩
 |_=>exact h4.elim
theorem RX{op:CmpOp}{r:R3}{r2:R2}(L:eG X.K r r2)(ho:eB X (compareOp op) r2)(ha:bV X a ta)(hb:bV X b tb)(hm:behindInMarks op b=false):pM X (.Compare a [op] [b] pos) (bK (af r ta tb)):=
 Cr (T1 ho ha hb hm) fun σ H Q h=>by
  obtain⟨τ,G,Q3,RS,RG,h,k⟩:=IA h;exact yh L ⟨τ,G,Q3,RS,RG,h,k⟩
theorem RW(h:bV X a ta)(he:∀whole,isTrue a X.env whole=(do let v ←whole;standAt a.pos;holding [v] (truthy v)):=by intro _;rfl):pM X a (bK ta):=
 Cr (TX h he) fun σ H Q h=>by
  obtain⟨τ,G,Q3,RS,RG,h,k⟩:=IA h;refine⟨τ,G,Q3,RS,RG,h,fun v H' d G' h1 h2 h3 h4=>?_⟩;obtain⟨c,rfl,q⟩:=k v H' d G' h1 h2 h3 h4;exact⟨c,rfl,q⟩
def JS(r:D->Gp->V3->Prop)(ta:aK):aK:=fun τ G Q=>ta τ G fun x G1=>r x G1 Q
def xE:D->Gp->V3->Prop:=fun x G Q=>match x with
 |.int i=>Q (.int (-i)) G
 |_=>False
theorem RV(ha:bV X a ta):bV X (.UnaryOp .USub a pos) (JS xE ta):=jM (T7 T5 ha) fun σ H Q h=>by
 obtain⟨τ,G,Q3,RS,RG,h,k⟩:=h;refine⟨τ,G,_,RS,RG,h,fun v H' d G' h1 h2 h3 h4=>?_⟩;cases d with
 |int i=>
  unfold Hv at h1;exact⟨i,h1,k _ H' (.int (-i)) G' (by simp[Hv]) h2 h3 h4⟩
 |_=>exact h4.elim
def tP(t u:cE):cE:=fun τ G Q=>t τ G fun c G1=>Br c (u τ G1 Q) (Q false G1)
def sH(t u:cE):cE:=fun τ G Q=>t τ G fun c G1=>Br c (Q true G1) (u τ G1 Q)
def uV(t:cE):cE:=fun τ G Q=>t τ G fun c G1=>Q (!c) G1
theorem RU(ha:pM X a tA):vj X (.BoolOp .And [a] pos) tA:=pw_and1 ha
theorem RT(ha:pM X a tA):vj X (.BoolOp .Or [a] pos) tA:=pw_or1 ha
theorem RQ(ha:pM X a tA)(hb:vj X (.BoolOp .And (b::rest) pos) tB):vj X (.BoolOp .And (a::b::rest) pos) (tP tA tB):=pw_of (pw_and ha hb) fun σ H Q h=>by
 obtain⟨τ,G,Q3,RS,RG,h,k⟩:=h;refine⟨τ,G,_,RS,RG,h,fun c H1 G1 S1 R1 q1=>?_⟩;exact Br.ite q1 (fun q=>⟨τ,G1,Q3,RS.ext (S1.ext RG),R1,q,fun b' H' G' y1 y2 y3=>k b' H' G' (S1.trans y1) y2 y3⟩) fun q=>k false H1 G1 S1 R1 q
theorem RP(ha:pM X a tA)(hb:vj X (.BoolOp .Or (b::rest) pos) tB):vj X (.BoolOp .Or (a::b::rest) pos) (sH tA tB):=pw_of (pw_or ha hb) fun σ H Q h=>by
 obtain⟨τ,G,Q3,RS,RG,h,k⟩:=h;refine⟨τ,G,_,RS,RG,h,fun c H1 G1 S1 R1 q1=>?_⟩;exact Br.ite q1 (fun q=>k true H1 G1 S1 R1 q) fun q=>⟨τ,G1,Q3,RS.ext (S1.ext RG),R1,q,fun b' H' G' y1 y2 y3=>k b' H' G' (S1.trans y1) y2 y3⟩
theorem Lm(h:vj X a tA):pM X a tA:=h.pt
theorem RO(ha:pM X a tA):pM X (.UnaryOp .Not a pos) (uV tA):=Cr (Uk ha) fun σ H Q h=>by
 obtain⟨τ,G,Q3,RS,RG,h,k⟩:=h;exact⟨τ,G,_,RS,RG,h,fun c H1 G1 S1 R1 q1=>k _ H1 G1 S1 R1 q1⟩
def vE(ta tb:aK):aK:=fun τ G Q=>ta τ G fun x G1=>match x with
 |.bl c=>Br c (tb τ G1 Q) (Q (.bl false) G1)
 |_=>False
def zi(ta:aK):aK:=fun τ G Q=>ta τ G fun x G1=>match x with
 |.bl c=>Q (.bl (!c)) G1
 |_=>False
theorem RN{op}(h:bV X a ta):bV X (.BoolOp op [a] pos) ta:=Uj h
theorem RM(ha:bV X a ta)(hb:bV X (.BoolOp .And (b::rest) pos) tb):bV X (.BoolOp .And (a::b::rest) pos) (vE ta tb):=jM (Ui ha hb) fun σ H Q h=>by
 obtain⟨τ,G,Q3,RS,RG,h,k⟩:=h;refine⟨τ,G,_,RS,RG,h,fun v H1 d G1 h1 S1 R1 q1=>?_⟩;cases d with
 |bl c=>
  unfold Hv at h1;exact⟨c,h1,Br.ite q1 (fun q=>⟨τ,G1,Q3,RS.ext (S1.ext RG),R1,q,fun b' H' d' G' y0 y1 y2 y3=>k b' H' d' G' y0 (S1.trans y1) y2 y3⟩) fun q=>k _ H1 (.bl false) G1 (by simp[Hv]) S1 R1 q⟩
 |_=>exact q1.elim
theorem RL(ha:bV X a ta):bV X (.UnaryOp .Not a pos) (zi ta):=jM (Uh ha) fun σ H Q h=>by
 obtain⟨τ,G,Q3,RS,RG,h,k⟩:=h;refine⟨τ,G,_,RS,RG,h,fun v H1 d G1 h1 S1 R1 q1=>?_⟩;cases d with
 |bl c=>
  unfold Hv at h1;exact⟨c,h1,k _ H1 (.bl (!c)) G1 (by simp[Hv]) S1 R1 q1⟩
 |_=>exact q1.elim
def notStar:π->Bool
 |.Starred ..=>false
 |_=>true
theorem fq{e:π}{es:List π}{env:ir}(h:notStar e=true):bJ (e::es) env=(false,eval e env)::bJ es env:=by
 cases e<;>first|rfl|(simp[notStar] at h)
theorem kD{pos:aL}{env:ir}:∀{es:List π},es.all notStar=true->(backTo pos (bJ es env)).any (·.1)=false
 |[],_=>rfl
 |e::es,h=>by
  rw[List.all_cons,df] at h;rw[fq h.1];show (false||(backTo pos (bJ es env)).any (·.1))=false;rw[kD h.2];rfl
def Ξ:dj:=fun _ G Q=>Q [] G
def μ(ta:aK)(tr:dj):dj:=fun τ G Q=>ta τ G fun x G1=>tr τ G1 fun xs G2=>Q (x::xs) G2
theorem RK:jR X [] Ξ:=Ji yk fun σ H Q ⟨τ,G,Q3,RS,RG,h,k⟩=>k [] H [] G .nil (.refl H G) RG h
theorem RJ{tr:dj}(ha:bV X a ta)(hr:jR X es tr)(hs:notStar a=true:=by rfl):jR X (a::es) (μ ta tr):=Ji (wA ha hr (fq hs)) fun σ H Q h=>by
 obtain⟨τ,G,Q3,RS,RG,h,k⟩:=h;refine⟨τ,G,_,RS,RG,h,fun v1 H1 d1 G1 h1 S1 R1 q1=>?_⟩;refine⟨τ,G1,_,RS.ext (S1.ext RG),R1,q1,fun vs H2 ds G2 h2 S2 R2 q2=>?_⟩;exact k _ H2 _ G2 (.cons (h1.ext (S2.ext R1)) h2) (S1.trans S2) R2 q2
def qV{α:Type}(P:Prop):List α->Nat->Prop
 |[],_=>P
 |_::_,0=>False
 |_::xs,n+1=>qV P xs n
theorem yg{α:Type}{P:Prop}:∀{xs:List α} {n:Nat},qV P xs n->xs.length≤n/\P
 |[],n,h=>⟨aB _,h⟩
 |_::_,0,h=>h.elim
 |_::xs,n+1,h=>by
  obtain⟨h1,h2⟩:=yg (xs:=xs) (n:=n) h;exact⟨Nat.succ_le_succ h1,h2⟩
theorem wU{n:Nat}(h:n≤64):n≤aj:=ae h (by decide)
def qr(t:dj):aK:=fun τ G Q=>t τ G fun ds G1=>qV (Q (.tup ds) G1) ds 64
def fM(t:dj):aK:=fun τ G Q=>t τ G fun ds G1=>qV (∀p G2,dg G1 p (.lst ds) G2->Q (.obj p) G2) ds 64
theorem RI{t:dj}{x1}(h:jR X es t):bV X (.Tuple es x1 pos) (qr t):=jM (SV h) fun σ H Q h=>by
 obtain⟨τ,G,Q3,RS,RG,h,k⟩:=h;refine⟨τ,G,_,RS,RG,h,fun vs H1 ds G1 h1 S1 R1 q1=>?_⟩;obtain⟨z,q1⟩:=yg q1;refine⟨by rw[←h1.length];exact wU z,fun p hp=>?_⟩;refine k _ _ (.tup ds) G1 ?_ (S1.trans (.laid hp)) (R1.laid hp) q1;unfold Hv;exact⟨p,vs,rfl,.of g8,h1.ext (.laid hp)⟩
theorem RH{t:dj}(h:jR X es t):bV X (.List es pos) (fM t):=jM (IY h) fun σ H Q h=>by
 obtain⟨τ,G,Q3,RS,RG,h,k⟩:=h;refine⟨τ,G,_,RS,RG,h,fun vs H1 ds G1 h1 S1 R1 q1=>?_⟩;obtain⟨z,q1⟩:=yg q1;refine⟨by rw[←h1.length];exact wU z,fun p hp=>?_⟩;exact k _ _ (.obj p) (da G1 p (.lst ds)) (by simp[Hv]) (S1.trans (.ix hp)) (R1.ix hp ⟨vs,g8,h1.ext (.laid hp)⟩) (q1 p _ (.mk' (R1.free hp)))
end
end L3
namespace L2
open PySem PySem.Spec PyProof.Rows
def lJ(env:ir):List (ψ×fm)->List (ψ×ε)->List (ψ×ε)
 |[],acc=>acc
 | (n,k)::r,acc=>lJ env r (if k=.free then (n,(env.cells.lookup n).getD 0)::acc else acc)
theorem Iz{scope:gM}{env:ir}(h:∀y∈scope.names,y.2=.free->∃c,env.cells.lookup y.1=some c):closureFor scope env=pure (lJ env scope.names []):=by
 have key:∀(l:List (ψ×fm)) (acc:List (ψ×ε)),(∀y∈l,y.2=.free->∃c,env.cells.lookup y.1=some c) ->
   (forIn l acc fun (x:ψ×fm) (r:List (ψ×ε))=>(do
    if (x.2==cG)=true then do
     let a ←cellOf env x.1
     pure (gN ((x.1,a)::r))
    else pure (gN r):Sem (ForInStep (List (ψ×ε)))))=pure (lJ env l acc):=by
  intro l
  induction l with
  |nil=>intro acc _;rfl
  |cons y r ih=>
   intro acc hy;obtain⟨n,k⟩:=y;rw[kW];by_cases hk:k=.free
   ·obtain⟨c,hc⟩:=hy (n,k) Ψ hk;have e1:cellOf env n=pure c:=by unfold cellOf;rw[show env.cells.lookup n=some c from hc]
    subst hk;simp only[beq_self_eq_true,if_true,e1,pure_bind];rw[ih _ fun y hy'=>hy y (Θ _ hy')];show _=pure (lJ env r (if cG=cG then (n,(env.cells.lookup n).getD 0)::acc else acc));rw[if_pos rfl,show env.cells.lookup n=some c from hc];rfl
   ·have hb:(k==cG)=false:=by simpa using hk
    simp only[hb,cZ,if_false,pure_bind];rw[ih _ fun y hy'=>hy y (Θ _ hy')];show _=pure (lJ env r (if k=cG then (n,(env.cells.lookup n).getD 0)::acc else acc));rw[if_neg hk]
 have:=key scope.names [] h;unfold closureFor
 first
  |exact (by simpa using this)
  | (simp only[bind_pure];exact this)
theorem Iy{env:ir}{x:ψ}{c:ε}:∀(l:List (ψ×fm)) (acc:List (ψ×ε)),(lJ env l acc).lookup x=some c ->
  acc.lookup x=some c∨((x,cG)∈l/\c=(env.cells.lookup x).getD 0)
 |[],_,h=>.inl h
 | (n,k)::r,acc,h=>by
  rcases Iy r _ h with q|⟨q1,q2⟩
  ·by_cases hk:k=.free
   ·rw[if_pos hk,gr] at q;by_cases hx:(x==n)=true
    ·rw[hx] at q;have hx':x=n:=by simpa using hx
     subst hx' hk;exact .inr ⟨Ψ,(aJ q).symm⟩
    ·have hx2:(x==n)=false:=by simpa using hx
     rw[hx2] at q;exact .inl q
   ·rw[if_neg hk] at q;exact .inl q
  ·exact .inr ⟨Θ _ q1,q2⟩
theorem Iw{env:ir}{x:ψ}:∀(l:List (ψ×fm)) (acc:List (ψ×ε)),acc.lookup x=some ((env.cells.lookup x).getD 0)->(lJ env l acc).lookup x=some ((env.cells.lookup x).getD 0)
 |[],_,h=>h
 | (n,k)::r,acc,h=>by
  refine Iw r _ ?_;by_cases hk:k=.free
  ·rw[if_pos hk,gr];by_cases hx:(x==n)=true
   ·rw[hx];have hx':x=n:=by simpa using hx
    rw[hx']
   ·have hx2:(x==n)=false:=by simpa using hx
    rw[hx2];exact h
  ·rw[if_neg hk];exact h
theorem Iv{env:ir}{x:ψ}:∀(l:List (ψ×fm)) (acc:List (ψ×ε)),(x,cG)∈l->(lJ env l acc).lookup x=some ((env.cells.lookup x).getD 0)
 |[],_,h=>by cases h
 | (n,k)::r,acc,h=>by
  rcases az.mp h with e|e
  ·cases e;refine Iw r _ ?_;rw[if_pos rfl,gr,beq_self_eq_true]
  ·exact Iv r _ e
structure dM(N:List ψ)(sc scope:gM)(own:List ψ)(js:List Nat):Prop where
 kind:scope.kind=.function
 AA:∀y∈scope.names,y.2≠.cell
 names:∀y∈scope.names,y.2=.local->scope.names.lookup y.1=some .local
 free:∀y∈scope.names,y.2=.free->sc.names.lookup y.1=some .cell/\own.contains y.1=false
 only:∀y∈scope.names,y.2=.free->scope.names.lookup y.1=some .free
 js:∀j∈js,j<N.length/\(N.getD j iq,cG)∈scope.names
def Xn(N own:List ψ)(js:List Nat):List ψ:=own++js.map fun j=>N.getD j iq
def sh(own:List ψ)(js:List Nat)(σ:St):St:=av own.length none++js.map fun j=>(σ[j]?).getD none
def Cx.cmp(X:Cx)(scope:gM)(own:List ψ)(js:List Nat)(s:η)(H:Hp)(fp:List ε):Cx:=
 { X with N:=Xn X.N own js,s₀:=s,H₀:=H,env:=compEnvC scope (lJ X.env scope.names []) s.heap.objs.size X.env,outer:=X.stack,ex:=fp,fn:=fun x=>own.contains x,pn:=[],xe:=fun _ _=>False }
theorem yf{sc:gM}{env:ir}{x:ψ}{k:fm}:∀(names:List (ψ×fm)),
  (names.map fun (n,k)=>if (k==cG&&env.scope.kind==.function&&env.kindOf n==some .cell) then (n,qN) else (n,k)).lookup x=some k ->
  (names.lookup x=some k/\(k≠.free∨k=.free))∨(k=.cell/\names.lookup x=some .free)
 |[],h=>by simp at h
 | (n,k')::r,h=>by
  have ih:=@yf sc env x k r;have h':List.lookup x ((if (k'==cG&&env.scope.kind==.function&&env.kindOf n==some .cell)=true then (n,qN) else (n,k'))::_)=some k:=h;rw[gr];by_cases hc:(k'==cG&&env.scope.kind==.function&&env.kindOf n==some .cell)=true
  ·rw[if_pos hc,gr] at h';cases hx:x==n with
   |true=>
    rw[hx] at h';have e:qN=k:=aJ h';have hk':k'=.free:=by
     rw[df,df] at hc;simpa using hc.1.1
    exact .inr ⟨e.symm,by rw[hk']⟩
   |false=>
    rw[hx] at h';exact ih h'
  ·rw[if_neg hc,gr] at h';cases hx:x==n with
   |true=>
    rw[hx] at h';have e:k'=k:=aJ h';subst e;exact .inl ⟨rfl,by by_cases z:k'=.free;exact .inr z;exact .inl z⟩
   |false=>
    rw[hx] at h';exact ih h'
theorem Cq{x:ψ}{k:fm}{l:List (ψ×fm)}(h:l.lookup x=some k):(x,k)∈l:=fi h
section
variable {X:Cx} {pins:List (ε×aN)} {σ:St} {H:Hp} {s:η} {scope:gM} {own:List ψ} {js:List Nat} {fp:List ε}
theorem dM.cells(C:dM X.N X.env.scope scope own js)(ok:X.Ok):∀y∈scope.names,y.2=.free->∃c,X.env.cells.lookup y.1=some c:=fun y hy e=>
 ok.has y.1 (.inl (C.free y hy e).1)
theorem dM.sj(C:dM X.N X.env.scope scope own js)(ok:X.Ok){x:ψ}{c:ε}(h:(lJ X.env scope.names []).lookup x=some c):(x,cG)∈scope.names/\X.env.cells.lookup x=some c:=by
 rcases Iy scope.names [] h with q|⟨q1,q2⟩
 ·cases q
 ·obtain⟨c',e⟩:=C.cells ok _ q1 rfl;refine⟨q1,?_⟩;rw[q2,show X.env.cells.lookup x=some c' from e];rfl
theorem dM.AF(C:dM X.N X.env.scope scope own js)(ok:X.Ok){x:ψ}(h:(x,cG)∈scope.names):∃c,(lJ X.env scope.names []).lookup x=some c/\X.env.cells.lookup x=some c:=by
 obtain⟨c,e⟩:=C.cells ok _ h rfl;refine⟨c,?_,e⟩;rw[Iv scope.names [] h,show X.env.cells.lookup x=some c from e];rfl
theorem Inv.KL(I:Inv X pins σ H s)(C:dM X.N X.env.scope scope own js)(hf:∀b∈fp,jc X pins H b/\b<s.heap.objs.size):(X.cmp scope own js s H fp).Ok where
 mod:=I.ok.mod
 kind:=C.kind
 glob:=I.ok.glob
 blt:=I.ok.blt
 above:=Γ _
 inj:=fun x y c h1 h2=>I.ok.inj x y c (C.sj I.ok h1).2 (C.sj I.ok h2).2
 has:=fun x h=>by
  have hfree:(x,cG)∈scope.names:=by
   rcases h with h|h
   ·rcases yf (sc:=scope) (env:=X.env) scope.names h with⟨q,_⟩|⟨_,q⟩
    ·exact absurd rfl (C.AA _ (Cq q))
    ·exact Cq q
   ·rcases yf (sc:=scope) (env:=X.env) scope.names h with⟨q,_⟩|⟨q,_⟩
    ·exact Cq q
    ·cases q
  obtain⟨c,e,_⟩:=C.AF I.ok hfree;exact⟨c,e⟩
 xw:=fun x c h1 h2=>by
  have q:=(C.free _ (C.sj I.ok h2).1 rfl).2;have h1':own.contains x=true:=h1;rw[q] at h1';cases h1'
 hd:=I.ok.hd
 frames:=I.ok.frames
 Al:=.inl rfl
 AE:=fun b hb=>⟨aX (hf b hb).2,fun x c e=>(hf b hb).1.2.2.2.2.1 x c (C.sj I.ok e).2⟩
 bs:=I.bs
 t7:=ae I.ok.t7 I.sz
 tI:=fun b o e hb=>by
  rcases (hf b hb).1.2.2.2.1 with z|z
  ·exact I.ok.tI b o e z
  ·exact absurd (aY (Ω e) (ae I.ok.t7 z)) (cz _)
 uT:=fun b hb z=>by
  rcases az.mp (I.vK b z) with e|e
  ·exact (hf b hb).1.2.1 e
  ·exact (hf b hb).1.2.2.1 e
 mK:=I.stack
 wX:=I.xl
theorem RF{N:List ψ}{js:List Nat}{i:Nat}{x:ψ}(h:(js.map fun j=>N.getD j iq)[i]?=some x):∃j,js[i]?=some j/\x=N.getD j iq:=by
 rw[ag] at h;cases e:js[i]? with
 |none=>rw[e] at h;cases h
 |some j=>rw[e] at h;exact⟨j,rfl,(aJ h).symm⟩
theorem Inv.cmp(I:Inv X pins σ H s)(C:dM X.N X.env.scope scope own js)(hf:∀b∈fp,jc X pins H b/\b<s.heap.objs.size){h':ay}{tk:Nat}(hn:h'.Ns s.heap.objs.size fun _=>none)
  (kept:∀b o,s.heap.get? b=some o->h'.get? b=some o):Inv (X.cmp scope own js s H fp) [] (sh own js σ) H { s with heap:=h',toks:=tk }:=by
 have ok:=I.KL C hf;refine⟨ok,rfl,I.bare,Un.kept kept,⟨_,hn,fun i x v h1 h2 h3=>?_⟩,fun x c e=>?_,I.cq.fresh (Γ _),fun x c e=>I.lR x c (C.sj I.ok e).2,fun p hp=>?_,I.cq.kept kept,?_⟩
 ·have h1':(own++js.map fun j=>X.N.getD j iq)[i]?=some x:=h1;have h2':(av own.length none++js.map fun j=>(σ[j]?).getD none)[i]?=some (some v):=h2;by_cases hi:i<own.length
  ·rw[eF (by simpa using hi),gD,if_pos hi] at h2';cases h2'
  ·rw[dW (by lia)] at h1';rw[dW (by simp;lia),fI] at h2';obtain⟨j,hj,rfl⟩:=RF h1';rw[ag,hj] at h2';have h2'':(σ[j]?).getD none=some v:=aJ h2';have hσ:σ[j]?=some (some v):=by
    cases e:σ[j]? with
    |none=>rw[e] at h2'';cases h2''
    |some o=>
     rw[e] at h2'';have:o=some v:=h2'';rw[this]
   obtain⟨jl,jf⟩:=C.js j (bN hj);have hN:X.N[j]?=some (X.N.getD j iq):=by
    rw[bp,ar jl];rfl
   have hcell:=(C.free _ jf rfl).1;obtain⟨m,hm,hl⟩:=I.loc;obtain⟨u,ru,lk⟩:=hl j _ v hN hσ (.inr (.inl hcell));refine⟨u,ru,?_⟩;obtain⟨c,e1,e2⟩:=C.AF I.ok jf;rcases lk with⟨z,_⟩|⟨_,c',z1,z2⟩
   ·have z':X.env.scope.names.lookup (X.N.getD j iq)=some .local:=z;rw[show X.env.scope.names.lookup (X.N.getD j iq)=some .cell from hcell] at z';cases z'
   ·rw[e2] at z1;cases z1;have ic:h'.IsCell c (some u):=by
     obtain⟨o,q1,q2⟩:=z2;exact⟨o,kept _ _ q1,q2⟩
    rcases h3 with h3|h3|h3
    ·exfalso;rcases yf (sc:=scope) (env:=X.env) scope.names h3 with⟨q,_⟩|⟨q,_⟩
     ·have z:=C.only _ jf rfl;rw[q] at z;cases z
     ·cases q
    ·exact .inr ⟨.inl h3,c,e1,ic⟩
    ·exact .inr ⟨.inr h3,c,e1,ic⟩
 ·obtain⟨v,o,q1,q2⟩:=I.cell x c (C.sj I.ok e).2;exact⟨v,o,kept _ _ q1,q2⟩
 ·exact absurd (show p∈([]:List (ε×aN)) from hp) (by simp)
 ·show (av own.length none++js.map fun j=>(σ[j]?).getD none).length=(own++js.map fun j=>X.N.getD j iq).length;simp
theorem Inv.Kc{σ':St}{H':Hp}{s':η}{pl:List (ε×aN)}(I:Inv X pins σ H s)(hf:∀b∈fp,jc X pins H b/\b<s.heap.objs.size)(J:Inv (X.cmp scope own js s H fp) pl σ' H' s'):Inv X pins σ H' s':=by
 refine I.KN (ch:=fp) J.os J.base J.cq J.bare fun b hb=>?_;obtain⟨f0,f1,f2,f3,f4,f5⟩:=(hf b hb).1;exact⟨f3,f1,f4,f5⟩
theorem Inv.other{H':Hp}{s':η}{h':ay}{b:ε}(I0:Inv X pins σ H s)(I:Inv X pins σ H' s')(hb:s.heap.objs.size≤b)(hn:H' b=none)(sb:cJ b s'.heap h'):Inv X pins σ H' { s' with heap:=h' }:=by
 obtain⟨f0,f1,f2,f3,f4,f5⟩:=I0.o8 hb hn;exact I.turned (t':=s'.toks) (fun c o hc e=>(sb.2 c hc).trans e) f0 f1 f3 f4 f5
end
def sJ(X:Cx)(ifs:List π)(t:TT):Prop:=
 ∀(pins:List (ε×aN)) (s:η) (σ:St) (H:Hp) (Q:Bool->Hp->Prop),Inv X pins σ H s->t σ H Q ->
  ρ (model X.prog X.w) X.A (forIn ifs true fun c r=>if r=true then do let ok ←isTrue c X.env (eval c X.env);pure (gN ok) else pure (gN r)) (TP X pins σ Q) X.xe s
def DU:TT:=fun _ H Q=>Q true H
theorem Sq{X:Cx}:sJ X [] DU:=fun _ _ _ H _ I h=>wpAny_tests_nil ⟨H,I,h⟩
theorem Sn{X:Cx}{c:π}{t:TT}(h:PT X c t):sJ X [c] t:=fun pins s σ H Q I hq=>wpAny_tests_one (h pins s σ H Q I hq)
section
variable {prog:aG} {w:aQ} {A:bT} {R:Result->η->Prop} {s:η}
theorem Sm{elt target iter:π}{ifs:List π}{scope:gM}{pos:aL}{it acc:δ}{env:ir}(I:Nat->η->Prop)
  (turn:∀n s,I n s->ρ (model prog w) A (pyNext it) (fun r s₁=>match r with
   |none=>R (.ok .next) s₁
   | some v=>ρ (model prog w) A (letOwnedTupleGo target it v) (fun _ s₁'=>ρ (model prog w) A (assign target env v) (fun _ s₂=>
     ρ (model prog w) A (forIn ifs true fun c r=>if r=true then do let ok ←isTrue c env (eval c env);pure (gN ok) else pure (gN r)) (fun ok s₃=>
      if ok=true then ρ (model prog w) A (eval elt env) (fun x s₄=>
       ρ (model prog w) A (call (.builtin "list.append") [acc,x]) (fun _ s₅=>∃m,m<n/\I m s₅) (fun _ _=>False) s₄) (fun _ _=>False) s₃
      else ∃m,m<n/\I m s₃) (fun _ _=>False) s₂) (fun _ _=>False) s₁') (fun _ _=>False) s₁) (fun _ _=>False) s)
  (n:Nat) (h:I n s):
  kn (model prog w) A (.compLoop (.ListComp elt [⟨target,iter,ifs,0⟩] scope pos) 0 it acc env) R s:=by
 refine codeAny_loop rfl I (fun n s hI=>?_) n h;show ρ _ A ((compTurn (.ListComp elt [⟨target,iter,ifs,0⟩] scope pos) 0 it acc env).onRaise (fun x=>do noteFrame x env;theTreesLotGoes x)) _ _ s
 refine wpAny_noted ?_;rw[compTurn_list];refine γ (j5 (γ (fw (turn n s hI) (fun r s₁ h₁=>?_) fun _ _ h'=>h'.elim)));cases r with
 |none=>exact ι h₁
 |some v=>
  refine γ (fw h₁ (fun _ s₁' h₁'=>?_) fun _ _ h'=>h'.elim);refine γ (fw h₁' (fun _ s₂ h₂=>γ (fw h₂ (fun ok s₃ h₃=>?_) fun _ _ h'=>h'.elim)) fun _ _ h'=>h'.elim);cases ok with
  |false=>exact ι ⟨rfl,h₃⟩
  |true=>
   exact γ (γ (fw h₃ (fun x s₄ h₄=>γ (fw h₄ (fun _ s₅ h₅=>ι (ι ⟨rfl,h₅⟩)) fun _ _ h'=>h'.elim)) fun _ _ h'=>h'.elim))
end
def J5(own:List ψ)(js:List Nat)(g:TG)(tc:TT)(te:TE)(J:It)(σ:St)(H:Hp)(Q:VK):Prop:=
 ∀D,H D=none->∃W:Nat->Nat->List V->St->Hp->Prop,(∃m,W 0 m [] (sh own js σ) (upd H D (.lst [])))/\∀i m ys σ' H',W i m ys σ' H'->H' D=some (.lst ys) ∧
  ((J.stop i H'/\Q (.ref D) H')∨(J.go i H'/\ys.length<aj/\∀x H2,J.CW i H' x H2->g x σ' H2 fun σ2 H3=>tc σ2 H3 fun b H4=>
   if b=true then te σ2 H4 fun v H5=>H5 D=some (.lst ys)/\∃m',m' < m/\W (i+1) m' (ys++[v]) σ2 (upd H5 D (.lst (ys++[v]))) else ∃m',m' < m/\W (i+1) m' ys σ2 H4))
def Eg(own:List ψ)(js:List Nat)(wi:TI)(g:TG)(tc:TT)(te:TE):TE:=fun σ H Q=>wi σ H fun J H1=>J5 own js g tc te J σ H1 Q
section
variable {X:Cx} {tg iter elt:π} {ifs:List π} {scope:gM} {pos:aL} {own:List ψ} {js:List Nat} {g:TG} {tc:TT} {te:TE}
theorem Iu{pins:List (ε×aN)}{σ:St}{H:Hp}{s:η}{Q:VK}{it:ε}{fp:List ε}{tn:Nat->ay->Prop}{J:It}{E:δ->η->Prop}{RR:δ->ε->Result->η->Prop}
  (hc:X.calm=true) (C:dM X.N X.env.scope scope own js)
  (hb:∀s H fp,PG (X.cmp scope own js s H fp) tg g/\sJ (X.cmp scope own js s H fp) ifs tc/\PE (X.cmp scope own js s H fp) elt te)
  (I:Inv X pins σ H s) (T:Turn X.prog X.w X.K tg J fp it tn) (st:tn 0 s.heap) (hf:∀b∈fp,jc X pins H b) (rd:J5 own js g tc te J σ H Q)
  (XE:∀D N s' H',Inv X pins σ H' s'->Q (.ref D) H'->s.heap.objs.size≤N->H' N=none->(∃m,s'.heap.Ns N m)->RR (.ref D) N (.ok .next) s'):
  ρ (model X.prog X.w) X.A (newList []) (fun acc s₃=>ρ (model X.prog X.w) X.A (newFunctionEnv scope X.env.globals (lJ X.env scope.names []) [] X.env.qual none .none (some X.env)) (fun cenv s₄=>
   kn (model X.prog X.w) X.A (.compStart (.ListComp elt [⟨tg,iter,ifs,0⟩] scope pos) 0 (.ref it) acc { cenv with scope:=relabel scope X.env }) (RR acc cenv.locals) s₄) E s₃) E s:=by
 have hD:H s.heap.objs.size=none:=I.fresh;obtain⟨W,⟨m0,w0⟩,turn⟩:=rd s.heap.objs.size hD;refine bI ?_;have hI3:Inv X pins σ (upd H s.heap.objs.size (.lst [])) { s with heap:=s.heap.push { cls:=.type "list",data:=.seq ([]:List δ).toArray }}:=
  I.yD (t':=s.toks) (its:=[]) (ys:=[]) .nil (aB _)
 have hlt:∀b∈fp,b<s.heap.objs.size:=fun b hb=>by
  obtain⟨o,e,_⟩:=T.obj 0 _ st b hb;exact Ω e
 have st3:tn 0 (s.heap.push { cls:=.type "list",data:=.seq ([]:List δ).toArray }):=T.keep 0 _ _ st fun b _ o e=>ν _ e;generalize hs3:({ s with heap:=s.heap.push { cls:=.type "list",data:=.seq ([]:List δ).toArray }}:η)=s3 at hI3 ⊢;have hsz3:s3.heap.objs.size=s.heap.objs.size+1:=by rw[←hs3];exact eE ..
 have st3':tn 0 s3.heap:=by rw[←hs3];exact st3
 have hf3:∀b∈fp,jc X pins (upd H s.heap.objs.size (.lst [])) b/\b<s3.heap.objs.size:=fun b hb=>by
  obtain⟨f0,f1⟩:=hf b hb;refine⟨⟨?_,f1⟩,by rw[hsz3];exact gZ (hlt b hb)⟩;rw[dR (aX (hlt b hb))];exact f0
 refine wpAny_newFunctionEnv C.AA (by intro y hy;simp at hy) (fun h₁ hns₁ hsb₁=>?_) C.kind;have kept1:∀b o,s3.heap.get? b=some o->h₁.get? b=some o:=fun b o e=>(hsb₁.2 b (aX (Ω e))).trans (ν _ e);have I4:Inv (X.cmp scope own js s3 (upd H s.heap.objs.size (.lst [])) fp) [] (sh own js σ) (upd H s.heap.objs.size (.lst [])) { s3 with heap:=h₁,toks:=s3.toks+([]:List (ψ×δ)).length }:=
  hI3.cmp C hf3 hns₁ kept1
 have st4:tn 0 h₁:=T.keep 0 _ _ st3' fun b _ o e=>kept1 b o e;obtain⟨hg,ht,he⟩:=hb s3 (upd H s.heap.objs.size (.lst [])) fp
 -- the iterator's objects in the block's context
 have stat:∀{H':Hp},(∀b∈fp,H' b=none)->∀b∈fp,jc (X.cmp scope own js s3 (upd H s.heap.objs.size (.lst [])) fp) [] H' b:=fun {H'} hn b hb=>by
  have q:=I4.ok;exact⟨hn b hb,(q.AE b hb).1,q.uT b hb,.inl hb,(q.AE b hb).2,fun p hp=>absurd (show p∈([]:List (ε×aN)) from hp) (by simp)⟩
 have loop:kn (model X.prog X.w) X.A (.compLoop (.ListComp elt [⟨tg,iter,ifs,0⟩] scope pos) 0 (.ref it) (.ref s.heap.objs.size) (compEnvC scope (lJ X.env scope.names []) s3.heap.objs.size X.env))
   (RR (.ref s.heap.objs.size) s3.heap.objs.size) { s3 with heap:=h₁,toks:=s3.toks+([]:List (ψ×δ)).length }:=by
  refine Sm (fun n s'=>∃i ys σ' H',Inv (X.cmp scope own js s3 (upd H s.heap.objs.size (.lst [])) fp) [] σ' H' s'/\tn i s'.heap/\(∀b∈fp,H' b=none)/\W i n ys σ' H') ?_ m0
   ⟨0,[],_,_,I4,st4,fun b hb=>(hf3 b hb).1.1,w0⟩
  rintro n s5 ⟨i,ys,σ5,H5,I5,st5,fr5,w5⟩;obtain⟨hacc,hcase⟩:=turn i n ys σ5 H5 w5;rcases hcase with⟨stop,qn⟩|⟨go,hys,step⟩
  ·refine bL (T.done (X.cmp scope own js s3 (upd H s.heap.objs.size (.lst [])) fp) rfl rfl rfl hc i [] s5 σ5 H5 (fun _ _=>False) I5 (stat fr5) st5 stop) fun r s6 ⟨hr,I6⟩=>?_;subst hr;have I7:=hI3.Kc hf3 I6;obtain⟨m,hm,_⟩:=I6.loc;exact XE _ _ _ _ I7 qn (by rw[hsz3];exact sP _) I6.free ⟨m,hm⟩
  ·refine bL (T.item (X.cmp scope own js s3 (upd H s.heap.objs.size (.lst [])) fp) rfl rfl rfl hc i [] s5 σ5 H5 (fun _ _=>False) I5 (stat fr5) st5 go) fun r s6 ⟨u,hr,h6⟩=>?_;subst hr;refine bL h6 fun _ s7 ⟨x,H7,I7,r7,y7,st7,fr7⟩=>?_;have I7':=I7.pinned (stat fr7) (T.obj _ _ st7);refine bL (hg _ s7 σ5 H7 x u _ I7' r7 (step x H7 y7)) fun _ s8 ⟨σ8,H8,I8,q8⟩=>?_;refine bL (ht _ s8 σ8 H8 _ I8 q8) fun ok s9 ⟨H9,I9,q9⟩=>?_;have back:∀{σ':St} {H':Hp} {s':η} {ys':List V},Inv (X.cmp scope own js s3 (upd H s.heap.objs.size (.lst [])) fp) ([]++rB fp s7.heap) σ' H' s'->(∃m',m' < n/\W (i+1) m' ys' σ' H') ->
     ∃m',m' < n/\∃i ys σ' H',Inv (X.cmp scope own js s3 (upd H s.heap.objs.size (.lst [])) fp) [] σ' H' s'/\tn i s'.heap/\(∀b∈fp,H' b=none)/\W i m' ys σ' H':=fun {σ' H' s' ys'} I' ⟨m',hm,w'⟩=>by
    refine⟨m',hm,i+1,ys',σ',H',I'.p9,T.keep _ _ _ st7 fun b hb o e=>(I'.pin (b,o) (bD _ (bD _ (yl hb e)))).1,fun b hb=>?_,w'⟩;obtain⟨o,e,d⟩:=T.obj _ _ st7 b hb;exact (I'.pin (b,o) (bD _ (bD _ (yl hb e)))).2.1
   cases ok with
   |false=>
    rw[if_neg ao] at q9 ⊢;exact back I9 q9
   |true=>
    rw[if_pos rfl] at q9 ⊢;refine bL (he _ s9 σ8 H9 _ I9 q9) fun xv s10 ⟨v,H10,I10,r10,hD10,q10⟩=>?_;refine bL (Jp (X:=X.cmp scope own js s3 (upd H s.heap.objs.size (.lst [])) fp) _ s10 σ8 H10 (.ref s.heap.objs.size) [v] (.ref s.heap.objs.size) [xv] (fun _ H'=>H'=upd H10 s.heap.objs.size (.lst (ys++[v]))) I10 rfl (.cons r10 .nil)
     ⟨_,ys,v,rfl,rfl,hD10,hys,rfl⟩) fun _ s11 ⟨_,H11,I11,_,e11⟩=>?_
    subst e11;exact back I11 q10
 exact codeAny_compStart_list loop (T.self _ 0 _ _ _ st4 loop)
theorem Sl{wi:TI}(hc:X.calm=true)(C:dM X.N X.env.scope scope own js)(hi:PI X tg iter wi)
  (hb:∀s H fp,PG (X.cmp scope own js s H fp) tg g/\sJ (X.cmp scope own js s H fp) ifs tc/\PE (X.cmp scope own js s H fp) elt te)
  (hs:∀x,foldedSetIterable iter X.env x=pure x:=by intro _;rfl):PE X (.ListComp elt [⟨tg,iter,ifs,0⟩] scope pos) (Eg own js wi g tc te):=by
 intro pins s σ H Q I h;rw[eval_ListComp];refine nR (use:=none) rfl hs (Iz (C.cells I.ok)) C.kind C.names (bL (hi pins s σ H _ I h) fun xv s₁ h₁=>bL h₁ fun itv s₂ h₂=>?_);obtain⟨it,fp,tn,J,H2,e,I2,T,st2,f2,rd⟩:=h₂;subst e;refine Iu (RR:=fun acc C'=>compPost (model X.prog X.w) X.A X.xe none (EP X pins σ Q) acc C') hc C hb I2 T st2 f2 rd fun D N s' H' I' q hN hHN ⟨m,hm⟩=>?_;exact⟨m,hm,fun h' sb=>⟨.ref D,H',I2.other I' hN hHN sb,rfl,q⟩⟩
theorem Sj{wi:TI}{i:Nat}{y:ψ}{py spos:aL}(hc:X.calm=true)(hN:X.N.Nodup)(hy:X.N[i]?=some y)(hyl:X.env.scope.names.lookup y=some .local)(C:dM X.N X.env.scope scope own js)(hi:PI X tg iter wi)
  (hb:∀s H fp,PG (X.cmp scope own js s H fp) tg g/\sJ (X.cmp scope own js s H fp) ifs tc/\PE (X.cmp scope own js s H fp) elt te)
  (AB:swapsWith (.ListComp elt [⟨tg,iter,ifs,0⟩] scope pos) (some (.Name y py)) spos.line X.env=pure true:=by rfl)
  (hs:∀x,foldedSetIterable iter X.env x=pure x:=by intro _;rfl):PS X (.Assign [.Name y py] (.ListComp elt [⟨tg,iter,ifs,0⟩] scope pos) spos) (AN (Eg own js wi g tc te) (yG i)):=by
 intro pins s σ H D I h;rw[exec_Assign_Name_used _ _ _ _ AB];refine γ (j5 (γ ?_));show ρ _ X.A (do let _ ←comprehension (.ListComp elt [⟨tg,iter,ifs,0⟩] scope pos) scope X.env _ (newList []) false (eval iter X.env) (some (assign (.Name y py) X.env))) _ _ s;refine γ (fw (nR (use:=some (assign (.Name y py) X.env)) (Q:=fun _ s'=>SP X pins D .next s') rfl hs (Iz (C.cells I.ok)) C.kind C.names
  (bL (hi pins s σ H _ I h) fun xv s₁ h₁=>bL h₁ fun itv s₂ h₂=>?_)) (fun _ s' hq=>ι (ι hq)) fun _ _ e=>e)
 obtain⟨it,fp,tn,J,H2,e,I2,T,st2,f2,rd⟩:=h₂;subst e;refine Iu (RR:=fun acc C'=>compPost (model X.prog X.w) X.A X.xe (some (assign (.Name y py) X.env)) (fun _ s'=>SP X pins D .next s') acc C') hc C hb I2 T st2 f2 rd fun L N s' H' I' q hN' hHN ⟨m,hm⟩=>?_
 show ρ _ _ (assign (.Name y py) X.env (.ref L)) _ _ _;refine wpAny_assign_Name (Jg I' hN hy (.inl hyl) (v:=.ref L) rfl (fun s'' I'' ⟨a,sb,ha⟩=>?_) (.inr hyl));have hNa:N≠a:=by
  obtain⟨f0,f1,f2,f3,f4,f5⟩:=I2.o8 hN' hHN;rcases ha with rfl|ha
  ·exact f1
  ·exact eY (f4 _ _ ha)
 refine⟨m,hm.sameBut sb hNa,fun h'' sb''=>?_⟩;refine⟨σ.set i (some (.ref L)),H',?_,q⟩;obtain⟨f0,f1,f2,f3,f4,f5⟩:=I2.o8 hN' hHN;exact I''.turned (t':=s''.toks) (fun c o hc e=>(sb''.2 c hc).trans e) f0 f1 f3 f4 f5
end
end L2
namespace L3
open PySem PySem.Spec PyProof.Rows L2
section
variable {X:Cx} {st:aS} {rest:List aS} {t u:ab} {e c:π} {te:aK} {tc:cE} {pos:aL}
def dI:ab:=fun D τ G=>D.nx τ G
def aF(t u:ab):ab:=fun D τ G=>t { D with nx:=u D } τ G
theorem Si:pd X [] dI:=IB TU fun D σ H ⟨τ,G,D3,RS,RG,h,k⟩=>k.nx τ σ G H RS (.refl H G) RG h
theorem Sh(h1:mX X st t)(h2:pd X rest u):pd X (st::rest) (aF t u):=IB (TQ h1 h2) fun D σ H ⟨τ,G,D3,RS,RG,h,k⟩=>
 ⟨τ,G,{ D3 with nx:=u D3 },RS,RG,h,⟨fun τ' σ' G' H' a b c q=>⟨τ',G',D3,a,c,q,k.step b⟩,k.bk,k.ct,k.rt⟩⟩
theorem Sg(h1:mX X st t):pd X [st] t:=TN h1
def ky(te:aK):ab:=fun D τ G=>te τ G fun _ G1=>D.nx τ G1
theorem Sf(he:bV X e te)(hs:swapsWith e none pos.line X.env=pure false:=by rfl):mX X (.Expr e pos) (ky te):=lF (TM he hs) fun D σ H ⟨τ,G,D3,RS,RG,h,k⟩=>
 ⟨τ,G,_,RS,RG,h,fun v H1 d G1 h1 S1 R1 q1=>k.nx τ σ G1 H1 (RS.ext (S1.ext RG)) S1 R1 q1⟩
def cg(te:aK):ab:=fun D τ G=>te τ G D.rt
theorem Se(he:bV X e te):mX X (.Return (some e) pos) (cg te):=lF (TL he) fun D σ H ⟨τ,G,D3,RS,RG,h,k⟩=>
 ⟨τ,G,D3.rt,RS,RG,h,fun v H1 d G1 h1 S1 R1 q1=>k.rt d v G1 H1 h1 S1 R1 q1⟩
def gH(c:cE)(t u:ab):ab:=fun D τ G=>c τ G fun b G1=>Br b (t D τ G1) (u D τ G1)
theorem Lz{a b:List aS}(hc:pM X c tc)(ha:pd X a t)(hb:pd X b u):mX X (.If c a b pos) (gH tc t u):=lF (TK hc ha hb) fun D σ H ⟨τ,G,D3,RS,RG,h,k⟩=>
 ⟨τ,G,_,RS,RG,h,fun b H1 G1 S1 R1 q1=>Br.ite q1 (fun q=>⟨τ,G1,D3,RS.ext (S1.ext RG),R1,q,k.step S1⟩) fun q=>⟨τ,G1,D3,RS.ext (S1.ext RG),R1,q,k.step S1⟩⟩
def qY:ab:=fun _ _ _=>False
theorem Rt:mX X st qY:=lF TJ fun D σ H ⟨τ,G,D3,RS,RG,h,k⟩=>h
end
abbrev ip:=D->S3->Gp->(S3->Gp->Prop)->Prop
abbrev nP:=List D->S3->Gp->(S3->Gp->Prop)->Prop
def lowG(K:ζ)(t:ip):TG:=fun v σ H Q=>∃d τ G Q3,Hv K H d v/\eL K τ σ H/\bo K G H/\t d τ G Q3/\∀τ' σ' G' H',eL K τ' σ' H'->Step H G H' G'->bo K G' H'->Q3 τ' G'->Q σ' H'
def KG(K:ζ)(t:nP):t8:=fun vs σ H Q=>∃ds τ G Q3,aO K H ds vs/\eL K τ σ H/\bo K G H/\t ds τ G Q3/\∀τ' σ' G' H',eL K τ' σ' H'->Step H G H' G'->bo K G' H'->Q3 τ' G'->Q σ' H'
abbrev ua(X:Cx)(tg:π)(t:ip):Prop:=PG X tg (lowG X.K t)
abbrev xf(X:Cx)(tgs:List π)(t:nP):Prop:=xg X tgs (KG X.K t)
section
variable {X:Cx} {pos:aL} {e:π} {es:List π}
theorem Cp{t t':TG}(h:PG X e t)(f:∀v σ H Q,t' v σ H Q->t v σ H Q):PG X e t':=fun pins s σ H v u Q I r q=>h pins s σ H v u Q I r (f v σ H Q q)
theorem Ir{t t':t8}(h:xg X es t)(f:∀v σ H Q,t' v σ H Q->t v σ H Q):xg X es t':=fun pins s σ H v u Q I r q=>h pins s σ H v u Q I r (f v σ H Q q)
def hName(i:Nat):ip:=fun d τ G Q=>Q (kx τ i d) G
theorem Rr{i:Nat}{x:ψ}(hN:X.N.Nodup)(hi:X.N[i]?=some x:=by rfl)(hx:Loc X.env.scope x:=by first|exact nW rfl|exact mr rfl)(hf:X.fn x=true∨X.env.scope.names.lookup x=some .local:=by first|exact .inl rfl|exact .inr rfl|assumption):ua X (.Name x pos) (hName i):=
 Cp (TH hN hi hx hf) fun v σ H Q ⟨d,τ,G,Q3,hd,RS,RG,h,k⟩=>k _ _ G H (RS.set hd) (.refl H G) RG h
def nN:nP:=fun ds τ G Q=>match ds with
 |[]=>Q τ G
 |_::_=>False
def fF(t:ip)(u:nP):nP:=fun ds τ G Q=>match ds with
 |[]=>False
 |d::r=>t d τ G fun τ' G'=>u r τ' G' Q
theorem Rq:xf X [] nN:=Ir TF fun vs σ H Q ⟨ds,τ,G,Q3,hd,RS,RG,h,k⟩=>by
 cases ds with
 |nil=>exact⟨hd.iN,k _ _ G H RS (.refl H G) RG h⟩
 |cons d r=>exact h.elim
theorem Rp{t:ip}{u:nP}(h1:ua X e t)(h2:xf X es u)(hs:(assignEach (e::es) X.env).map (·.2)=assign e X.env::(assignEach es X.env).map (·.2):=by rfl):xf X (e::es) (fF t u):=
 Ir (TC h1 h2 hs) fun vs σ H Q ⟨ds,τ,G,Q3,hd,RS,RG,h,k⟩=>by
  cases ds with
  |nil=>exact h.elim
  |cons d r=>
   obtain⟨v,vr,rfl,q1,q2⟩:=hd.inv;refine⟨v,vr,rfl,d,τ,G,_,q1,RS,RG,h,fun τ' σ' G' H' a b c q=>?_⟩;exact⟨r,τ',G',Q3,q2.ext (b.ext RG),a,c,q,fun τ2 σ2 G2 H2 a2 b2 c2=>k τ2 σ2 G2 H2 a2 (b.trans b2) c2⟩
def nM(n:Nat)(t:nP):ip:=fun d τ G Q=>match d with
 |.tup ds=>ds.length=n/\t ds τ G Q
 |_=>False
theorem Ro{k:Nat}{t:nP}{n:Nat}(hc:X.calm=true)(h:xf X es t)(hn:(assignEach es X.env).length=n:=by rfl)(hst:(assignEach es X.env).findIdx? (·.1)=none:=by rfl):ua X (.Tuple es k pos) (nM n t):=
 Cp (TB hc h hn hst) fun v σ H Q ⟨d,τ,G,Q3,hd,RS,RG,h,k⟩=>by
  cases d with
  |tup ds=>
   unfold Hv at hd;obtain⟨a,vs,e1,e2,e3⟩:=hd;exact⟨a,vs,e1,e2,by rw[←e3.length];exact h.1,ds,τ,G,Q3,e3,RS,RG,h.2,k⟩
  |_=>exact h.elim
def bf(te:aK)(g:ip):ab:=fun D τ G=>te τ G fun x G1=>g x τ G1 D.nx
theorem Rn{tg:π}{te:aK}{g:ip}(he:bV X e te)(hg:ua X tg g)(hs:swapsWithSole [tg] e pos.line X.env=pure false:=by rfl)(hw:swappedStores [tg] e X.env=pure none:=by rfl)
  (h1:(assignEach [tg] X.env).map (·.2)=[assign tg X.env]:=by rfl):mX X (.Assign [tg] e pos) (bf te g):=lF (Tx he hg hs hw h1) fun D σ H ⟨τ,G,D3,RS,RG,h,k⟩=>
 ⟨τ,G,_,RS,RG,h,fun v H1 d G1 h1 S1 R1 q1=>⟨d,τ,G1,D3.nx,h1,RS.ext (S1.ext RG),R1,q1,fun τ' σ' G' H' a b c q=>k.nx τ' σ' G' H' a (S1.trans b) c q⟩⟩
theorem Rm{i:Nat}{x:ψ}{te:aK}{pos':aL}(hN:X.N.Nodup)(he:bV X e te)(hi:X.N[i]?=some x:=by rfl)(hx:Loc X.env.scope x:=by first|exact nW rfl|exact mr rfl)(hs:swapsWith e (some (.Name x pos')) pos.line X.env=pure false:=by rfl)
  (hf:X.fn x=true∨X.env.scope.names.lookup x=some .local:=by first|exact .inl rfl|exact .inr rfl|assumption):mX X (.Assign [.Name x pos'] e pos) (bf te (hName i)):=lF (Tw hN hi hx he hs hf) fun D σ H ⟨τ,G,D3,RS,RG,h,k⟩=>
 ⟨τ,G,_,RS,RG,h,fun v H1 d G1 h1 S1 R1 q1=>k.nx _ _ G1 H1 ((RS.ext (S1.ext RG)).set h1) S1 R1 q1⟩
def AQ(i j:Nat)(ta:dj):ab:=fun D τ G=>ta τ G fun ds G1=>match ds with
 |[a,b]=>D.nx (kx (kx τ i a) j b) G1
 |_=>False
theorem Rl{i j:Nat}{st:aS}{ta:dj}(h:PS X st (Ee i j (tN X.K ta))):mX X st (AQ i j ta):=lF h fun D σ H ⟨τ,G,D3,RS,RG,h,k⟩=>
 ⟨τ,G,_,RS,RG,h,fun vs H1 ds G1 h1 S1 R1 q1=>by
  match ds,h1,q1 with
  |[a,b],h1,q1=>
   obtain⟨v,r,rfl,z1,z2⟩:=h1.inv;obtain⟨w,r2,rfl,z3,z4⟩:=z2.inv;cases z4.iN;exact⟨v,w,rfl,k.nx _ _ G1 H1 (((RS.ext (S1.ext RG)).set z1).set z3) S1 R1 q1⟩
  |[],_,q1=>exact q1.elim
  |[_],_,q1=>exact q1.elim
  |_::_::_::_,_,q1=>exact q1.elim⟩
def xC(i:Nat)(te:aK)(r:R3):ab:=fun D τ G=>match i8 τ i with
 |some x=>te τ G fun y G1=>r x y G1 fun z G2=>D.nx (kx τ i z) G2
 |none=>False
theorem Rk{i:Nat}{x:ψ}{te:aK}{op:kh}{r:R3}{r2:vg}{pos':aL}(L:eG X.K r r2)(hN:X.N.Nodup)(he:bV X e te)(ho:AI X op r2)(hi:X.N[i]?=some x:=by rfl)(hx:Loc X.env.scope x:=by first|exact nW rfl|exact mr rfl)(hf:X.fn x=true∨X.env.scope.names.lookup x=some .local:=by first|exact .inl rfl|exact .inr rfl|assumption):
  mX X (.AugAssign (.Name x pos') op e pos) (xC i te r):=lF (Tu hN hi hx he ho hf) fun D σ H ⟨τ,G,D3,RS,RG,h,k⟩=>by
 unfold xC at h;cases hd:i8 τ i with
 |none=>rw[hd] at h;exact h.elim
 |some d=>
  rw[hd] at h;obtain⟨v,e1,e2⟩:=RS.at_ i d hd;refine⟨v,e1,τ,G,_,RS,RG,h,fun v1 H1 d1 G1 h1 S1 R1 q1=>?_⟩;refine L _ _ _ _ _ _ _ _ (e2.ext (S1.ext RG)) h1 R1 q1 fun v2 H2 d2 G2 z1 z2 z3 z4=>?_;exact k.nx _ _ G2 H2 (((RS.ext (S1.ext RG)).ext (z2.ext R1)).set z1) (S1.trans z2) z3 z4
def xD:D->D->D->Gp->(Gp->Prop)->Prop:=fun o i v G Q=>match o,i with
 |.obj p,.int k=>∃ds j,G p=some (.lst ds)/\rD ds.length k=some j/\Q (da G p (.lst (ds.set j v)))
 |_,_=>False
def hSub(to ti:aK):ip:=fun v τ G Q=>to τ G fun o G1=>ti τ G1 fun i G2=>xD o i v G2 fun G3=>Q τ G3
theorem Iq{K:ζ}{o i v:D}{vo vi vv:V}{G:Gp}{H:Hp}{Q3:Gp->Prop}{Q:Hp->Prop}(ho:Hv K H o vo)(hi:Hv K H i vi)(hv:Hv K H v vv)(RG:bo K G H)(h:xD o i v G Q3)
  (k:∀H' G',Step H G H' G'->bo K G' H'->Q3 G'->Q H'):C6 vo vi vv H Q:=by
 match o,i,ho,hi,h with
 |.obj p,.int j,ho,hi,h=>
  unfold Hv at ho hi;obtain⟨ds,n,e1,e2,q⟩:=h;obtain⟨vs,e3,e4⟩:=RG p _ e1;refine⟨p,vs,j,n,ho,hi,e3,by rw[←e4.length];exact e2,k _ _ (Step.wrote (g:=.lst (ds.set n v)) e1) (RG.wrote e3 ⟨_,g8,?_⟩) q⟩;exact (e4.ext (Ext.wrote e3)).set n (hv.ext (Ext.wrote e3))
 |.obj _,.ak,_,_,h=>exact h.elim
 |.obj _,.bl _,_,_,h=>exact h.elim
 |.obj _,.str _,_,_,h=>exact h.elim
 |.obj _,.tup _,_,_,h=>exact h.elim
 |.obj _,.fo _,_,_,h=>exact h.elim
 |.obj _,.obj _,_,_,h=>exact h.elim
 |.obj _,.dc _,_,_,h=>exact h.elim
 |.dc _,_,_,_,h=>exact h.elim
 |.ak,_,_,_,h=>exact h.elim
 |.bl _,_,_,_,h=>exact h.elim
 |.int _,_,_,_,h=>exact h.elim
 |.str _,_,_,_,h=>exact h.elim
 |.tup _,_,_,_,h=>exact h.elim
 |.fo _,_,_,_,h=>exact h.elim
theorem Rj{o i:π}{to ti:aK}(ho:bV X o to)(hi:bV X i ti)
  (ha:∀v,assign (.Subscript o i pos) X.env v=(do
   let ov ←holding [v] (eval o X.env)
   let iv ←holding [v,ov] (eval i X.env)
   standAt pos
   holding [v,ov,iv] (setItem ov iv v)
   release [v,ov,iv] []):=by intro _;rfl):ua X (.Subscript o i pos) (hSub to ti):=Cp (Tz ho hi set_list ha) fun v σ H Q ⟨d,τ,G,Q3,hd,RS,RG,h,k⟩=>
 ⟨τ,G,_,RS,RG,h,fun v1 H1 d1 G1 h1 S1 R1 q1=>⟨τ,G1,_,RS.ext (S1.ext RG),R1,q1,fun v2 H2 d2 G2 h2 S2 R2 q2=>
  Iq (h1.ext (S2.ext R1)) h2 ((hd.ext (S1.ext RG)).ext (S2.ext R1)) R2 q2 fun H' G' y1 y2 y3=>k _ _ G' H' (((RS.ext (S1.ext RG)).ext (S2.ext R1)).ext (y1.ext R2)) ((S1.trans S2).trans y1) y2 y3⟩⟩
def vw(to ti te:aK)(f:Int->Int->Int):ab:=fun D τ G=>to τ G fun o G1=>ti τ G1 fun i G2=>match o,i with
 |.obj p,.int k=>∃ds x,G2 p=some (.lst ds)/\jQ ds k=some (.int x)/\te τ G2 fun y G3=>match y with
  |.int y=>xD o i (.int (f x y)) G3 fun G4=>D.nx τ G4
  |_=>False
 |_,_=>False
def nI(c:cE)(tb:ab):ab:=fun D τ G=>∃W:Nat->S3->Gp->Prop,(∃m,W m τ G)/\∀m τ G,W m τ G ->
 c τ G fun b G1=>Br b (tb { D with nx:=fun τ' G'=>∃m',m' < m/\W m' τ' G',ct:=fun τ' G'=>∃m',m' < m/\W m' τ' G',bk:=D.nx } τ G1) (D.nx τ G1)
theorem Ri{c:π}{body:List aS}{tc:cE}{tb:ab}(hp:mq (model X.prog X.w) X.A X.env X.xe)(hc:pM X c tc)(hb:pd X body tb):mX X (.While c body [] pos) (nI tc tb):=
 lF (Ts hp hc hb) fun D σ H ⟨τ,G,D3,RS,RG,⟨W,⟨m0,w0⟩,turn⟩,k⟩=>by
  refine⟨fun m σ' H'=>∃τ' G',W m τ' G'/\eL X.K τ' σ' H'/\bo X.K G' H'/\Step H G H' G',⟨m0,τ,G,w0,RS,RG,.refl H G⟩,fun m σ1 H1 ⟨τ1,G1,w1,RS1,RG1,S1⟩=>?_⟩;refine⟨τ1,G1,_,RS1,RG1,turn m τ1 G1 w1,fun b H2 G2 S2 R2 q2=>Br.ite q2 (fun q=>?_) fun q=>k.nx _ _ G2 H2 (RS1.ext (S2.ext RG1)) (S1.trans S2) R2 q⟩;refine⟨fun σ' H'=>∃τ' G',(∃m',m' < m/\W m' τ' G')/\eL X.K τ' σ' H'/\bo X.K G' H'/\Step H G H' G',fun σ' H' ⟨τ',G',⟨m',hm,w'⟩,a,b,c⟩=>⟨m',hm,τ',G',w',a,b,c⟩,?_⟩;refine⟨τ1,G2,_,RS1.ext (S2.ext RG1),R2,q,⟨?_,?_,?_,?_⟩⟩
  ·exact fun τ' σ' G' H' a b c q=>⟨τ',G',q,a,c,(S1.trans S2).trans b⟩
  ·exact fun τ' σ' G' H' a b c q=>k.nx τ' σ' G' H' a ((S1.trans S2).trans b) c q
  ·exact fun τ' σ' G' H' a b c q=>⟨τ',G',q,a,c,(S1.trans S2).trans b⟩
  ·exact fun d v G' H' a b c q=>k.rt d v G' H' a ((S1.trans S2).trans b) c q
end
abbrev dF:=List D->Gp->V3->Prop
def nk(K:ζ)(sp:dF):Sp:=fun vs H Q _=>∃ds G Q3,aO K H ds vs/\bo K G H/\sp ds G Q3/\∀v H' d G',Hv K H' d v->Step H G H' G'->bo K G' H'->Q3 d G'->Q v H'
abbrev cu(P:aG)(w:aQ)(K:ζ)(mg:ψ->Option δ)(base:ay)(k:Nat)(f:ε)(fd:aE)(ps:List ψ)(sp:dF):Prop:=jJ P w K mg base vk k f fd ps (nk K sp)
def aA(sp:dF)(t:dj):aK:=fun τ G Q=>t τ G fun ds G1=>sp ds G1 Q
section
variable {X:Cx} {k:Nat} {f:ε} {fd:aE} {ps:List ψ} {sp:dF} {x:ψ} {p pos:aL} {e:π} {es:List π} {t:dj}
theorem Rh{K:ζ}{σ:L2.St}{H:Hp}{Q:VK}{E:XK}(h:low K (aA sp t) σ H Q):CZ (nk K sp) [] E (tN K t) σ H Q:=by
 obtain⟨τ,G,Q3,RS,RG,h,k⟩:=h;refine⟨τ,G,_,RS,RG,h,fun vs H1 ds G1 h1 S1 R1 q1=>?_⟩;refine⟨ds,G1,Q3,by rw[cU];exact h1,R1,q1,fun v H' d G' z1 z2 z3 z4=>k v H' d G' z1 (S1.trans z2) z3 z4⟩
theorem Rg(F:cu X.prog X.w X.K X.mg X.base k f fd ps sp)(hr:gk k X.A)(hm:X.mg x=some (.ref f))(hk:hV X.K (.ref f)=true)(hb:Binds X.K fd ps [])(ha:jR X (e::es) t)(hg:Gl X x:=by rfl)
  (hdb:(x==("__debug__":ψ))=false:=by decide) (he:notStar e=true:=by rfl) (hpl:es.all notStar=true:=by rfl):
  bV X (.Call (.Name x p) (e::es) [] pos) (aA sp t):=jM (SR (E:=E0) F hr hg hm hk hb .nil Kl ha hdb (fq he) (kD hpl)) fun σ H Q h=>Rh h
end
section
variable {P:aG} {w:aQ} {K:ζ} {mg:ψ->Option δ} {base:ay}
def aT(Q:V3):gz:={ nx:=fun _ G'=>∃G0,Sub G0 G'/\Q .ak G0,rt:=fun d G'=>∃G0,Sub G0 G'/\Q d G0 }
theorem X9{x qual:ψ}{st:aS}{f:ε}{fd:aE}{N ps:List ψ}{k:Nat}{sp:dF}(F:dJ K x qual st f fd)(S:bC N ps (ai st))(hN:ps.length≤N.length)(len:∀ds G Q,sp ds G Q->ds.length=ps.length)(tb:ab)
  (qp:∀(cdv:δ) (A:bT) (outer:List ir) (s:η) (H:Hp) (E:XK),gk k (A.deeper (envOfC qual (ai st) s.heap.objs.size f cdv)) ->
   pd (rJ vk P w K mg base N qual (ai st) f cdv A outer s H E).xq (km st) tb)
  (Ds:∀ds G Q,sp ds G Q->tb (aT Q) (bz N ds) G):cu P w K mg base (k+1) f fd ps sp:=by
 refine F.ok S (fun vs H Q E h=>?_) (fun cdv A outer s H vs Q E hr h=>?_)
 ·obtain⟨ds,G,Q3,h1,h2,h3,h4⟩:=h;rw[←h1.length];exact len _ _ _ h3
 ·obtain⟨ds,G,Q3,h1,h2,h3,h4⟩:=h;refine⟨_,qp cdv A outer s H E hr,bz N ds,G,aT Q3,.start h1 ?_,h2,Ds _ _ _ h3,⟨?_,?_,?_,?_⟩⟩
  ·rw[←h1.length,len _ _ _ h3];exact hN
  ·exact fun τ σ G' H' a b c ⟨G0,s0,q⟩=>h4 _ H' .ak G0 (by simp[Hv]) (b.trans (.sub s0)) (c.sub s0) q
  ·exact fun τ σ G' H' a b c q=>q.elim
  ·exact fun τ σ G' H' a b c q=>q.elim
  ·exact fun d v G' H' a b c ⟨G0,s0,q⟩=>h4 _ H' d G0 a (b.trans (.sub s0)) (c.sub s0) q
end
end L3
namespace L3
open PySem PySem.Spec PyProof.Rows L2
structure Src where
 items:List D
 guard:Gp->Prop
structure zT(K:ζ)(H0:Hp)(J:It)(S:Src):Prop where
 go:∀(i:Nat) d H G,Ext H0 H->bo K G H->S.guard G->S.items[i]?=some d->J.go i H/\∀x H',J.CW i H x H'->Hv K H' d x/\Step H G H' G/\bo K G H'
 stop:∀(i:Nat) H G,Ext H0 H->bo K G H->S.guard G->S.items.length≤i->J.stop i H
abbrev ls:=S3->Gp->(Src->Gp->Prop)->Prop
def JI(K:ζ)(ti:ls):TI:=fun σ H R=>∃τ G R3,eL K τ σ H/\bo K G H/\ti τ G R3/\∀J H' S G',zT K H' J S->Step H G H' G'->bo K G' H'->R3 S G'->R J H'
abbrev rO(X:Cx)(tg iter:π)(ti:ls):Prop:=PI X tg iter (JI X.K ti)
section
variable {X:Cx} {tg iter:π} {pos p:aL}
theorem uL{t t':TI}(h:PI X tg iter t)(f:∀σ H R,t' σ H R->t σ H R):PI X tg iter t':=fun pins s σ H R I q=>h pins s σ H R I (f σ H R q)
def mJ(te:aK):ls:=fun τ G R=>te τ G fun x G1=>match x with
 |.obj p=>∃ds,G1 p=some (.lst ds)/\R ⟨ds,fun G=>G p=some (.lst ds)⟩ G1
 |.tup ds=>R ⟨ds,fun _=>True⟩ G1
 |.fo ds=>R ⟨ds,fun _=>True⟩ G1
 |_=>False
theorem Rf{l:π}{te:aK}(hl:bV X l te):rO X tg l (mJ te):=by
 intro pins s σ H R I h;obtain⟨τ,G,R3,RS,RG,h,k⟩:=h
 -- the state carries what a list of the heap is
 refine bL (hl pins s σ H (fun v H'=>∃d G',Hv X.K H' d v/\Step H G H' G'/\bo X.K G' H'/\(match d with
  |.obj p=>∃ds,G' p=some (.lst ds)/\R3 ⟨ds,fun G=>G p=some (.lst ds)⟩ G'
  |.tup ds=>R3 ⟨ds,fun _=>True⟩ G'
  |.fo ds=>R3 ⟨ds,fun _=>True⟩ G'
  | _=>False)) I ⟨τ,G,_,RS,RG,h,fun v H' d G' a b c q=>⟨d,G',a,b,c,q⟩⟩) fun v s1 ⟨x,H1,I1,r1,d,G1,hv,S1,R1,q⟩=>?_
 have hlist:∀(a:ε) (its:List δ) (xs:List V),bh xs its->PlainL s1.heap a its.toArray->R (Lj X.K a) H1->ρ (model X.prog X.w) X.A (pyIter (.ref a)) (AJ X pins σ tg R) X.xe s1:=by
  intro a its xs rv p q;refine eX p.isList ?_;refine⟨s1.heap.objs.size,[s1.heap.objs.size],_,_,H1,rfl,I1.kept (t':=s1.toks) fun b o e=>ν _ e,Tr a _,⟨_,Φ _ rfl,rfl,rfl⟩,fun b hb=>?_,q⟩;have e:b=s1.heap.objs.size:=by simpa using hb
  subst e;exact I1.o8 (Γ _) (I1.cq.fresh (Γ _))
 cases d with
 |obj a=>
  unfold Hv at hv;subst hv;cases r1;obtain⟨ds,e1,q⟩:=q;obtain⟨vs,e2,e3⟩:=R1 a _ e1;obtain⟨its,rv,p,hz⟩:=I1.list (eA.of e2);refine hlist a its vs rv p (k _ _ _ _ ⟨?_,?_⟩ S1 R1 q)
  ·intro i d H' G' E' RG' hg hi;obtain⟨vs',z1,z2⟩:=RG' a _ hg;obtain⟨v',y1,y2⟩:=z2.get hi;refine⟨⟨vs',v',.of z1,y1⟩,fun x H'' hy=>?_⟩;obtain⟨rfl,hy⟩:=hy;have:=hy vs' (.of z1);rw[y1] at this;cases this;exact⟨y2,.refl _ _,RG'⟩
  ·intro i H' G' E' RG' hg hi;obtain⟨vs',z1,z2⟩:=RG' a _ hg;exact⟨vs',.of z1,by rw[←z2.length];exact hi⟩
 |tup ds=>
  unfold Hv at hv;obtain⟨a,vs,rfl,e2,e3⟩:=hv;cases r1;obtain⟨its,rv,p,hz⟩:=I1.tuple e2;have hq:R (Li X.K a) H1:=by
   refine k _ _ _ _ ⟨?_,?_⟩ S1 R1 q
   ·intro i d H' G' E' RG' hg hi;obtain⟨v',y1,y2⟩:=e3.get hi;refine⟨⟨vs,v',cF.ext E' e2,y1⟩,fun x H'' hy=>?_⟩;obtain⟨rfl,hy⟩:=hy;have:=hy vs (cF.ext E' e2);rw[y1] at this;cases this;exact⟨y2.ext E',.refl _ _,RG'⟩
   ·intro i H' G' E' RG' hg hi;exact⟨vs,cF.ext E' e2,by rw[←e3.length];exact hi⟩
  refine gK (show s1.heap.IsTuple a its.toArray from p) ?_;refine⟨s1.heap.objs.size,[s1.heap.objs.size],_,_,H1,rfl,I1.kept (t':=s1.toks) fun b o e=>ν _ e,Tq a _,⟨_,Φ _ rfl,rfl,rfl⟩,fun b hb=>?_,hq⟩;have e:b=s1.heap.objs.size:=by simpa using hb
  subst e;exact I1.o8 (Γ _) (I1.cq.fresh (Γ _))
 |fo ds=>
  unfold Hv at hv;obtain⟨a,vs,rfl,e2,e3⟩:=hv;cases r1;obtain⟨its,rv,p,hz⟩:=I1.list e2.l;refine hlist a its vs rv p (k _ _ _ _ ⟨?_,?_⟩ S1 R1 q)
  ·intro i d H' G' E' RG' hg hi;obtain⟨v',y1,y2⟩:=e3.get hi;refine⟨⟨vs,v',(qI.ext E' e2).l,y1⟩,fun x H'' hy=>?_⟩;obtain⟨rfl,hy⟩:=hy;have:=hy vs (qI.ext E' e2).l;rw[y1] at this;cases this;exact⟨y2.ext E',.refl _ _,RG'⟩
  ·intro i H' G' E' RG' hg hi;exact⟨vs,(qI.ext E' e2).l,by rw[←e3.length];exact hi⟩
 |ak=>exact q.elim
 |bl _=>exact q.elim
 |int _=>exact q.elim
 |str _=>exact q.elim
 |dc _=>exact q.elim
def kc(lo:Int)(n:Nat):List D:=(Δ n).map fun i:Nat=>.int (lo+(i:Int))
theorem Rc{lo:Int}{n i:Nat}{d:D}(h:(kc lo n)[i]?=some d):i<n/\d=.int (lo+(i:Int)):=by
 unfold kc at h;rw[ag] at h;by_cases hi:i<n
 ·rw[dq hi] at h;simp at h;exact⟨hi,h.symm⟩
 ·rw[cL.mpr (by simpa using hi)] at h;cases h
theorem uK(lo:Int)(n:Nat):(kc lo n).length=n:=by simp[kc]
theorem Rb{K:ζ}{H:Hp}(lo:Int)(n:Nat):zT K H (DD lo n) ⟨kc lo n,fun _=>True⟩:=⟨by
 intro i d H' G' _ RG _ hi;obtain⟨h1,h2⟩:=Rc hi;refine⟨h1,fun x H'' hy=>?_⟩;obtain⟨rfl,rfl⟩:=hy;exact⟨by rw[h2];simp[Hv],.refl _ _,RG⟩,by
 intro i H' G' _ RG _ hi;rw[uK] at hi;exact hi⟩
def nq(ta:dj):ls:=fun τ G R=>ta τ G fun ds G1=>match ds with
 |[.int j]=>(-(2^62)≤j/\j<2^62)/\R ⟨kc 0 j.toNat,fun _=>True⟩ G1
 |_=>False
theorem Ra{a:π}{ta:dj}(hm:X.mg "range" = none)(ha:jR X [a] ta)(hg:Gl X "range":=by rfl)(hs:notStar a=true:=by rfl):rO X tg (.Call (.Name "range" p) [a] [] pos) (nq ta):=
 uL (Tj hg hm ha (fq hs)) fun σ H R ⟨τ,G,R3,RS,RG,h,k⟩=>⟨τ,G,_,RS,RG,h,fun vs H1 ds G1 h1 S1 R1 q1=>by
  rcases ds with _|⟨d,_|⟨d2,ds⟩⟩
  ·exact q1.elim
  ·cases d with
   |int j=>
    obtain⟨v,r,rfl,z1,z2⟩:=h1.inv;cases z2.iN;unfold Hv at z1;exact⟨j,by rw[z1],q1.1.1,q1.1.2,k _ _ _ _ (Rb 0 _) S1 R1 q1.2⟩
   |_=>exact q1.elim
  ·cases d<;>exact q1.elim⟩
def j4(guard:Gp->Prop)(g:ip)(tb:ab)(D3:gz):List D->S3->Gp->Prop
 |[],τ,G=>guard G/\D3.nx τ G
 |d::ds,τ,G=>guard G/\g d τ G fun τ2 G2=>tb { D3 with nx:=j4 guard g tb D3 ds,ct:=j4 guard g tb D3 ds,bk:=D3.nx } τ2 G2
def jE(ti:ls)(g:ip)(tb:ab):ab:=fun D3 τ G=>ti τ G fun S G1=>j4 S.guard g tb D3 S.items τ G1
theorem Q9{body:List aS}{ti:ls}{g:ip}{tb:ab}(hp:mq (model X.prog X.w) X.A X.env X.xe)(hc:X.calm=true)(hi:rO X tg iter ti)(hg:ua X tg g)(hb:pd X body tb)
  (hs:∀x,foldedSetIterable iter X.env x=pure x:=by intro _;rfl):mX X (.For tg iter body [] pos) (jE ti g tb):=lF (Tg hp hc hi hg hb hs) fun D2 σ H ⟨τ,G,D3,RS,RG,h,k⟩=>by
 refine⟨τ,G,_,RS,RG,h,fun J H1 S G1 ok S1 R1 q1=>?_⟩;refine⟨fun i m σ' H'=>∃τ' G',eL X.K τ' σ' H'/\bo X.K G' H'/\Step H G H' G'/\Ext H1 H'/\j4 S.guard g tb D3 (S.items.drop i) τ' G'/\m+i=S.items.length,⟨S.items.length,τ,G1,RS.ext (S1.ext RG),R1,S1,.refl H1,by simpa using q1,by lia⟩,?_⟩;rintro i m σ' H' ⟨τ',G',RS',RG',S',E',q,hm⟩;by_cases hlt:i<S.items.length
 ·have hd:S.items.drop i=S.items[i]::S.items.drop (i+1):=iU hlt;have hget:S.items[i]?=some S.items[i]:=ar hlt;rw[hd] at q;obtain⟨hgd,q⟩:=q;obtain⟨z1,z2⟩:=ok.go i _ H' G' E' RG' hgd hget;refine .inr ⟨z1,fun σ2 H2=>∃τ2 G2,eL X.K τ2 σ2 H2/\bo X.K G2 H2/\Step H G H2 G2/\Ext H1 H2/\j4 S.guard g tb D3 (S.items.drop (i+1)) τ2 G2,fun σ2 H2 ⟨τ2,G2,a1,a2,a3,a4,a5⟩=>⟨m-1,by lia,τ2,G2,a1,a2,a3,a4,a5,by lia⟩,fun x H2 hy=>?_⟩;obtain⟨y1,y2,y3⟩:=z2 x H2 hy;refine⟨S.items[i],τ',G',_,y1,RS'.ext (y2.ext RG'),y3,q,fun τ3 σ3 G3 H3 b1 b2 b3 b4=>?_⟩;refine⟨τ3,G3,_,b1,b3,b4,⟨?_,?_,?_,?_⟩⟩
  ·exact fun τ4 σ4 G4 H4 c1 c2 c3 c4=>⟨τ4,G4,c1,c3,((S'.trans y2).trans b2).trans c2,((E'.trans (y2.ext RG')).trans (b2.ext y3)).trans (c2.ext b3),c4⟩
  ·exact fun τ4 σ4 G4 H4 c1 c2 c3 c4=>k.nx τ4 σ4 G4 H4 c1 (((S'.trans y2).trans b2).trans c2) c3 c4
  ·exact fun τ4 σ4 G4 H4 c1 c2 c3 c4=>⟨τ4,G4,c1,c3,((S'.trans y2).trans b2).trans c2,((E'.trans (y2.ext RG')).trans (b2.ext y3)).trans (c2.ext b3),c4⟩
  ·exact fun d v G4 H4 c1 c2 c3 c4=>k.rt d v G4 H4 c1 (((S'.trans y2).trans b2).trans c2) c3 c4
 ·have hd:S.items.drop i=[]:=jY (by lia);rw[hd] at q;exact .inl ⟨ok.stop i H' G' E' RG' q.1 (by lia),k.nx τ' σ' G' H' RS' S' RG' q.2⟩
def iG(guard:Gp->Prop)(g:ip)(tc:cE)(te:aK)(Q:List D->Gp->Prop):List D->List D->S3->Gp->Prop
 |[],acc,τ,G=>guard G/\Q acc G
 |d::ds,acc,τ,G=>guard G/\g d τ G fun τ2 G2=>tc τ2 G2 fun b G3=>Br b (te τ2 G3 fun v G4=>iG guard g tc te Q ds (acc++[v]) τ2 G4) (iG guard g tc te Q ds acc τ2 G3)
def w9(own:List ψ)(js:List Nat)(τ:S3):S3:=(own.map fun _=>none)++js.map fun j=>i8 τ j
def gV(own:List ψ)(js:List Nat)(ti:ls)(g:ip)(tc:cE)(te:aK):aK:=fun τ G Q=>ti τ G fun S G1=>S.items.length≤aj ∧
 iG S.guard g tc te (fun ds G2=>∀p G3,dg G2 p (.lst ds) G3->Q (.obj p) G3) S.items [] (w9 own js τ) G1
theorem Ip:∀(τ:S3) (i:Nat),i8 τ i=(τ[i]?).getD none
 |[],i=>by simp[i8]
 |x::r,0=>by simp[i8]
 |x::r,i+1=>by simp[i8,Ip r i]
theorem eL.cmp{K:ζ}{τ:S3}{σ:L2.St}{H:Hp}(own:List ψ)(js:List Nat)(R:eL K τ σ H):eL K (w9 own js τ) (sh own js σ) H:=⟨by simp[w9,sh],fun i d h=>by
 rw[Ip] at h;unfold w9 at h;by_cases hi:i<own.length
 ·rw[eF (by simpa using hi)] at h;rw[ag,ar hi] at h;cases h
 ·rw[dW (by simpa using hi),ag] at h;simp only[ξ] at h;cases hj:js[i-own.length]? with
  |none=>rw[hj] at h;cases h
  |some j=>
   rw[hj] at h;have h':i8 τ j=some d:=h;obtain⟨v,e1,e2⟩:=R.at_ j d h';refine⟨v,?_,e2⟩;unfold sh;rw[dW (by simpa using hi),ag];simp only[fI,hj,Option.map_some,e1,Option.getD_some]⟩
def fL:cE:=fun _ G Q=>Q true G
theorem Q8:sJ X [] (ql X.K fL):=fun pins s σ H Q I ⟨τ,G,Q3,RS,RG,h,k⟩=>Sq pins s σ H Q I (k true H G (.refl H G) RG h)
theorem Q7{c:π}{t:cE}(h:pM X c t):sJ X [c] (ql X.K t):=Sn h
theorem Io{K:ζ}{own:List ψ}{js:List Nat}{ti:ls}{g:ip}{tc:cE}{te:aK}{σ:L2.St}{H:Hp}{Q:VK}(h:low K (gV own js ti g tc te) σ H Q):Eg own js (JI K ti) (lowG K g) (ql K tc) (low K te) σ H Q:=by
 obtain⟨τ,G,Q3,RS,RG,h,k⟩:=h;refine⟨τ,G,_,RS,RG,h,fun J H1 S G1 ok S1 R1 q1=>?_⟩;obtain⟨hz,q1⟩:=q1;intro p hp;have hGp:G1 p=none:=R1.free hp;refine⟨fun i m ys σ' H'=>∃τ' G' acc,eL K τ' σ' H'/\bo K G' H'/\Step H G H' G'/\Ext H1 H'/\H' p=some (.lst ys)/\G' p=none/\aO K H' acc ys ∧
  iG S.guard g tc te (fun ds G2=>∀p G3,dg G2 p (.lst ds) G3->Q3 (.obj p) G3) (S.items.drop i) acc τ' G'/\m+i=S.items.length/\ys.length≤i,?_,?_⟩
 ·have E1:Ext H1 (upd H1 p (.lst [])):=.laid hp;exact⟨S.items.length,w9 own js τ,G1,[],((RS.ext (S1.ext RG)).cmp own js).ext E1,R1.laid hp,S1.trans (.laid hp),E1,g8,hGp,.nil,by simpa using q1,by lia,aB _⟩
 rintro i m ys σ' H' ⟨τ',G',acc,RS',RG',S',E',hpl,hG',hacc,q,hm,hy⟩;refine⟨hpl,?_⟩;by_cases hlt:i<S.items.length
 ·have hd:S.items.drop i=S.items[i]::S.items.drop (i+1):=iU hlt;have hget:S.items[i]?=some S.items[i]:=ar hlt;rw[hd] at q;obtain⟨hgd,q⟩:=q;obtain⟨z1,z2⟩:=ok.go i _ H' G' E' RG' hgd hget;refine .inr ⟨z1,by lia,fun x H2 hyl=>?_⟩;obtain⟨y1,y2,y3⟩:=z2 x H2 hyl
  -- what is not in G stays
  have keep:∀{Ha Hb:Hp} {Ga Gb:Gp},Step Ha Ga Hb Gb->Ha p=some (.lst ys)->Ga p=none->Hb p=some (.lst ys)/\Gb p=none:=fun {Ha Hb Ga Gb} st e n=>by
   refine⟨st.fr p _ e n,?_⟩;refine aD fun z=>?_;rw[st.new p n z] at e;cases e
  obtain⟨p2,n2⟩:=keep y2 hpl hG';refine⟨S.items[i],τ',G',_,y1,RS'.ext (y2.ext RG'),y3,q,fun τ3 σ3 G3 H3 b1 b2 b3 b4=>?_⟩;obtain⟨p3,n3⟩:=keep b2 p2 n2;refine⟨τ3,G3,_,b1,b3,b4,fun bb H4 G4 c1 c2 c3=>?_⟩;obtain⟨p4,n4⟩:=keep c1 p3 n3;have E4:Ext H' H4:=((y2.ext RG').trans (b2.ext y3)).trans (c1.ext b3);have S4:Step H G H4 G4:=((S'.trans y2).trans b2).trans c1;have RS4:=b1.ext (c1.ext b3);refine Br.ite c3 (fun c3=>?_) fun c3=>?_
  ·refine⟨τ3,G4,_,RS4,c2,c3,fun v H5 d G5 e1 e2 e3 e4=>?_⟩;obtain⟨p5,n5⟩:=keep e2 p4 n4;refine⟨p5,m-1,by lia,τ3,G5,acc++[d],?_,?_,?_,?_,g8,n5,?_,e4,by lia,by rw[aa];simp;lia⟩
   ·exact (RS4.ext (e2.ext c2)).ext (.wrote p5)
   ·intro a o e;have hne:a≠p:=fun z=>by
     rw[z,n5] at e;cases e
    exact (e3 a o e).ext (.wrote p5) (dR hne)
   ·refine⟨fun a o e n=>?_,fun a q=>?_,fun a n q=>((S4.trans e2).new a n q)⟩
    ·by_cases hne:a=p
     ·exfalso;rw[hne] at e n;have hh:=S1.fr p o e n;rw[hp] at hh;cases hh
     ·rw[dR hne];exact (S4.trans e2).fr a o e n
    ·by_cases hne:a=p
     ·rw[hne,g8];simp
     ·rw[dR hne];exact (S4.trans e2).nC a q
   ·exact ((E'.trans E4).trans (e2.ext c2)).trans (.wrote p5)
   ·have E5:Ext H' (upd H5 p (.lst (ys++[v]))):=(E4.trans (e2.ext c2)).trans (.wrote p5);exact (hacc.ext E5).append (.cons (e1.ext (.wrote p5)) .nil)
  ·exact⟨m-1,by lia,τ3,G4,acc,RS4,c2,S4,E'.trans E4,p4,n4,hacc.ext E4,c3,by lia,by lia⟩
 ·have hd:S.items.drop i=[]:=jY (by lia);rw[hd] at q;refine .inl ⟨ok.stop i H' G' E' RG' q.1 (by lia),?_⟩;refine k _ H' (.obj p) (da G' p (.lst acc)) (by simp[Hv]) ?_ ?_ (q.2 p _ (.mk' hG'))
  ·refine⟨S'.fr,S'.nC,fun a n z=>?_⟩;by_cases hne:a=p
   ·rw[hne];cases hh:H p with
    |none=>rfl
    |some o=>
     exfalso;rw[hne] at n;have:=S1.fr p o hh n;rw[hp] at this;cases this
   ·rw[mi hne] at z;exact S'.new a n z
  ·intro a o e;by_cases hne:a=p
   ·rw[hne,lr] at e;cases e;rw[hne];exact⟨ys,hpl,hacc⟩
   ·rw[mi hne] at e;exact RG' a o e
theorem Q6{elt:π}{ifs:List π}{scope:gM}{own:List ψ}{js:List Nat}{ti:ls}{g:ip}{tc:cE}{te:aK}(hc:X.calm=true)(C:dM X.N X.env.scope scope own js)(hi:rO X tg iter ti)
  (hb:∀s H fp,ua (X.cmp scope own js s H fp) tg g/\sJ (X.cmp scope own js s H fp) ifs (ql X.K tc)/\bV (X.cmp scope own js s H fp) elt te)
  (hs:∀x,foldedSetIterable iter X.env x=pure x:=by intro _;rfl):bV X (.ListComp elt [⟨tg,iter,ifs,0⟩] scope pos) (gV own js ti g tc te):=
 jM (Sl hc C hi hb hs) fun σ H Q h=>Io h
theorem Q5{elt:π}{ifs:List π}{scope:gM}{own:List ψ}{js:List Nat}{ti:ls}{g:ip}{tc:cE}{te:aK}{i:Nat}{y:ψ}{py spos:aL}(hc:X.calm=true)(hN:X.N.Nodup)(C:dM X.N X.env.scope scope own js)(hi:rO X tg iter ti)
  (hb:∀s H fp,ua (X.cmp scope own js s H fp) tg g/\sJ (X.cmp scope own js s H fp) ifs (ql X.K tc)/\bV (X.cmp scope own js s H fp) elt te) (hy:X.N[i]?=some y:=by rfl) (hyl:X.env.scope.names.lookup y=some .local:=by rfl)
  (AB:swapsWith (.ListComp elt [⟨tg,iter,ifs,0⟩] scope pos) (some (.Name y py)) spos.line X.env=pure true:=by rfl)
  (hs:∀x,foldedSetIterable iter X.env x=pure x:=by intro _;rfl):mX X (.Assign [.Name y py] (.ListComp elt [⟨tg,iter,ifs,0⟩] scope pos) spos) (bf (gV own js ti g tc te) (hName i)):=
 lF (Sj hc hN hy hyl C hi hb AB hs) fun D2 σ H ⟨τ,G,D3,RS,RG,h,k⟩=>
  Io ⟨τ,G,_,RS,RG,h,fun v H1 d G1 h1 S1 R1 q1=>k.nx _ _ G1 H1 ((RS.ext (S1.ext RG)).set h1) S1 R1 q1⟩
theorem Q4{guard:Gp->Prop}{g:ip}{tb:ab}{D3:gz}(I:List D->S3->Gp->Prop)(hg:∀ds τ G,I ds τ G->guard G)
  (step:∀d ds τ G,I (d::ds) τ G->g d τ G fun τ2 G2=>tb { D3 with nx:=I ds,ct:=I ds,bk:=D3.nx } τ2 G2) (lI:∀τ G,I [] τ G->D3.nx τ G)
  (mono:∀(N N':S3->Gp->Prop),(∀τ G,N τ G->N' τ G)->∀d τ G,(g d τ G fun τ2 G2=>tb { D3 with nx:=N,ct:=N,bk:=D3.nx } τ2 G2)->g d τ G fun τ2 G2=>tb { D3 with nx:=N',ct:=N',bk:=D3.nx } τ2 G2):
  ∀ds τ G,I ds τ G->j4 guard g tb D3 ds τ G
 |[],τ,G,h=>⟨hg _ _ _ h,lI _ _ h⟩
 |d::ds,τ,G,h=>⟨hg _ _ _ h,mono (I ds) _ (fun τ G q=>Q4 I hg step lI mono ds τ G q) d τ G (step d ds τ G h)⟩
theorem kC{guard:Gp->Prop}{g:ip}{tb:ab}{D3:gz}(I:List D->S3->Gp->Prop)(hg:∀ds τ G,I ds τ G->guard G)
  (step:∀d ds τ G (N:S3->Gp->Prop),I (d::ds) τ G->(∀τ' G',I ds τ' G'->N τ' G')->g d τ G fun τ2 G2=>tb { D3 with nx:=N,ct:=N,bk:=D3.nx } τ2 G2) (lI:∀τ G,I [] τ G->D3.nx τ G):
  ∀ds τ G,I ds τ G->j4 guard g tb D3 ds τ G
 |[],τ,G,h=>⟨hg _ _ _ h,lI _ _ h⟩
 |d::ds,τ,G,h=>⟨hg _ _ _ h,step d ds τ G _ h fun τ' G' q=>kC I hg step lI ds τ' G' q⟩
end
end L3
namespace Dat
open PySem PySem.SeqAt
inductive D where
 |ak|bl (b:Bool)|int (i:Int)|str (x:ψ)|tup (xs:List D)|lst (xs:List D)|iF
mutual
def D.dS:D->D->Bool
 |.ak,.ak=>true
 |.bl a,.bl b=>a==b
 |.bl a,.int b=>(if a then 1 else 0)==b
 |.int a,.bl b=>a==(if b then 1 else 0)
 |.int a,.int b=>a==b
 |.str a,.str b=>a==b
 |.tup xs,.tup ys=>jI xs ys
 |.lst xs,.lst ys=>jI xs ys
 |_,_=>false
def jI:List D->List D->Bool
 |[],[]=>true
 |x::xs,y::ys=>x.dS y&&jI xs ys
 |_,_=>false
end
mutual
def D.i7:D->Nat
 |.tup xs=>fW xs+1
 |.lst xs=>fW xs+1
 |_=>0
def fW:List D->Nat
 |[]=>0
 |x::xs=>max x.i7 (fW xs)
end
theorem tH{d:D}:∀{xs:List D},d∈xs->d.i7≤fW xs
 |x::xs,h=>by
  unfold fW;rcases az.mp h with e|e
  ·rw[e];exact Nat.le_max_left _ _
  ·exact ae (tH e) (Nat.le_max_right _ _)
mutual
def Hv(h:ay):D->δ->Prop
 |.ak,u=>u=.none
 |.bl b,u=>u=.bool b
 |.int i,u=>∃t,u=.int i t
 |.str x,u=>∃t,u=.str x t
 |.tup ds,u=>∃(a:ε) (its:List δ),u=.ref a/\h.IsTuple a its.toArray/\aO h ds its
 |.lst ds,u=>∃(a:ε) (its:List δ),u=.ref a/\h.IsList a its.toArray/\aO h ds its
 |.iF,_=>False
def aO(h:ay):List D->List δ->Prop
 |[],us=>us=[]
 |d::ds,us=>∃u r,us=u::r/\Hv h d u/\aO h ds r
end
theorem aO.length{h:ay}:∀{ds:List D} {us:List δ},aO h ds us->us.length=ds.length
 |[],us,e=>by
  unfold aO at e;rw[e];rfl
 |d::ds,us,e=>by
  unfold aO at e;obtain⟨u,r,rfl,_,e2⟩:=e;rw[ax,ax,e2.length]
theorem aO.get{h:ay}:∀{ds:List D} {us:List δ} {j:Nat} {d:D} {u:δ},aO h ds us->ds[j]?=some d->us[j]?=some u->Hv h d u
 |[],_,_,_,_,_,e,_=>by simp at e
 |d::ds,us,0,_,_,q,e1,e2=>by
  unfold aO at q;obtain⟨u,r,rfl,q1,_⟩:=q;simp at e1 e2;rw[←e1,←e2];exact q1
 |d::ds,us,j+1,_,_,q,e1,e2=>by
  unfold aO at q;obtain⟨u,r,rfl,_,q2⟩:=q;exact q2.get (j:=j) (by simpa using e1) (by simpa using e2)
theorem Im{h:ay}{a:ε}{xs ys:Array δ}(hl:h.IsList a xs)(ht:h.IsTuple a ys):False:=by
 obtain⟨o,ho,hc,_⟩:=hl;obtain⟨o',ho',hc',_⟩:=ht;rw[ho] at ho';cases ho';rw[hc] at hc';exact absurd hc' (by decide)
mutual
theorem Hv.inj{h:ay}:∀{d e:D} {u:δ},Hv h d u->Hv h e u->d=e
 |d,e,u,p,q=>by
  cases d with
  |ak=>unfold Hv at p;subst p;cases e<;>unfold Hv at q<;>first|rfl|(simp at q)
  |bl b=>unfold Hv at p;subst p;cases e<;>unfold Hv at q<;>first|(simp at q;rw[q])|(simp at q)
  |int b=>unfold Hv at p;obtain⟨t,rfl⟩:=p;cases e<;>unfold Hv at q<;>first|(simp at q;rw[q])|(simp at q)
  |str b=>unfold Hv at p;obtain⟨t,rfl⟩:=p;cases e<;>unfold Hv at q<;>first|(simp at q;rw[q])|(simp at q)
  |iF=>unfold Hv at p;exact p.elim
  |tup ds=>
   unfold Hv at p;obtain⟨a,its,rfl,ha,p⟩:=p;cases e with
   |tup es=>
    unfold Hv at q;obtain⟨a',its',e1,ha',q⟩:=q;cases e1;have e2:its=its':=by
     obtain⟨o,ho,_,n,hd⟩:=ha;obtain⟨o',ho',_,n',hd'⟩:=ha';rw[ho] at ho';cases ho';rw[hd] at hd';injection hd' with e3 _
     simpa using congrArg oz e3
    subst e2;rw[aO.inj p q]
   |lst es=>
    unfold Hv at q;obtain⟨a',its',e1,ha',q⟩:=q;cases e1;exact (Im ha' ha).elim
   |_=>unfold Hv at q<;>simp at q
  |lst ds=>
   unfold Hv at p;obtain⟨a,its,rfl,ha,p⟩:=p;cases e with
   |lst es=>
    unfold Hv at q;obtain⟨a',its',e1,ha',q⟩:=q;cases e1;have e2:its=its':=by
     obtain⟨o,ho,_,n,hd⟩:=ha;obtain⟨o',ho',_,n',hd'⟩:=ha';rw[ho] at ho';cases ho';rw[hd] at hd';injection hd' with e3 _
     simpa using congrArg oz e3
    subst e2;rw[aO.inj p q]
   |tup es=>
    unfold Hv at q;obtain⟨a',its',e1,ha',q⟩:=q;cases e1;exact (Im ha ha').elim
   |_=>unfold Hv at q<;>simp at q
theorem aO.inj{h:ay}:∀{ds es:List D} {us:List δ},aO h ds us->aO h es us->ds=es
 |[],[],_,_,_=>rfl
 |[],e::es,us,p,q=>by
  unfold aO at p q;subst p;obtain⟨_,_,e1,_⟩:=q;cases e1
 |d::ds,[],us,p,q=>by
  unfold aO at p q;subst q;obtain⟨_,_,e1,_⟩:=p;cases e1
 |d::ds,e::es,us,p,q=>by
  unfold aO at p q;obtain⟨u,r,rfl,p1,p2⟩:=p;obtain⟨u',r',e1,q1,q2⟩:=q;cases e1;rw[Hv.inj p1 q1,aO.inj p2 q2]
end
theorem tG:∀(ds es:List D),((Δ (min ds.length es.length)).all (fun j=>(ds.getD j .ak).dS (es.getD j .ak))&&ds.length==es.length)=jI ds es
 |[],[]=>by simp[jI]
 |[],e::es=>by simp[jI]
 |d::ds,[]=>by simp[jI]
 |d::ds,e::es=>by
  have ih:=tG ds es;unfold jI;rw[←ih];rw[ax,ax,show min (ds.length+1) (es.length+1)=min ds.length es.length+1 by lia,pC,List.all_cons,rX];have e1:((ds.length+1==es.length+1):Bool)=(ds.length==es.length):=by simp
  rw[e1,Bool.and_assoc];rfl
theorem ye:∀(ds es:List D),ds.length≠es.length->jI ds es=false
 |[],[],h=>absurd rfl h
 |[],e::es,_=>rfl
 |d::ds,[],_=>rfl
 |d::ds,e::es,h=>by
  unfold jI;rw[ye ds es (by simpa using h),Bool.and_false]
mutual
theorem Hv.refl{h:ay}:∀{d:D} {u:δ},Hv h d u->d.dS d=true
 |.ak,_,_=>rfl
 |.bl b,_,_=>by unfold D.dS;simp
 |.int b,_,_=>by unfold D.dS;simp
 |.str b,_,_=>by unfold D.dS;simp
 |.iF,_,p=>by unfold Hv at p;exact p.elim
 |.tup ds,_,p=>by
  unfold Hv at p;obtain⟨_,_,_,_,p⟩:=p;unfold D.dS;exact aO.refl p
 |.lst ds,_,p=>by
  unfold Hv at p;obtain⟨_,_,_,_,p⟩:=p;unfold D.dS;exact aO.refl p
theorem aO.refl{h:ay}:∀{ds:List D} {us:List δ},aO h ds us->jI ds ds=true
 |[],_,_=>rfl
 |d::ds,us,p=>by
  unfold aO at p;obtain⟨u,r,_,p1,p2⟩:=p;unfold jI;rw[Hv.refl p1,aO.refl p2];rfl
end
theorem lp{h:ay}{ds:List D}{us:List δ}(p:aO h ds us){j:Nat}(hj:j<us.toArray.size):Hv h (ds.getD j .ak) (us.toArray[j])/\ds.getD j .ak∈ds:=by
 have hl:=p.length;have hj':j<ds.length:=by simp at hj;lia
 have e1:ds[j]?=some (ds.getD j .ak):=by simp[hj']
 exact⟨p.get e1 (by simp at hj;simp[hj]),bN e1⟩
theorem uU{s:η}:∀(d e:D) (u v:δ) (A:bT),Hv s.heap d u->Hv s.heap e v->A.units+d.i7+1<cLine->EqAt A s u v (d.dS e)
 |.ak,.ak,u,v,A,p1,p2,hu=>by
  unfold Hv at p1;subst p1;unfold Hv at p2;subst p2;exact EqAt.same _
 |.ak,.bl b2,u,v,A,p1,p2,hu=>by
  unfold Hv at p1;subst p1;unfold Hv at p2;subst p2;exact EqAt.none_bool  b2
 |.ak,.int b2,u,v,A,p1,p2,hu=>by
  unfold Hv at p1;subst p1;unfold Hv at p2;obtain⟨t2,rfl⟩:=p2;exact EqAt.none_int  b2 t2
 |.ak,.str b2,u,v,A,p1,p2,hu=>by
  unfold Hv at p1;subst p1;unfold Hv at p2;obtain⟨t2,rfl⟩:=p2;exact EqAt.none_str  b2 t2
 |.ak,.tup ds2,u,v,A,p1,p2,hu=>by
  unfold Hv at p1;subst p1;unfold Hv at p2;obtain⟨a2,its2,rfl,l2,p2⟩:=p2;exact EqAt.none_tuple  l2 (by lia)
 |.ak,.lst ds2,u,v,A,p1,p2,hu=>by
  unfold Hv at p1;subst p1;unfold Hv at p2;obtain⟨a2,its2,rfl,l2,p2⟩:=p2;exact EqAt.none_list  l2 (by lia)
 |.bl b1,.ak,u,v,A,p1,p2,hu=>by
  unfold Hv at p1;subst p1;unfold Hv at p2;subst p2;exact EqAt.bool_none b1
 |.bl b1,.bl b2,u,v,A,p1,p2,hu=>by
  unfold Hv at p1;subst p1;unfold Hv at p2;subst p2;exact EqAt.bool_bool b1 b2
 |.bl b1,.int b2,u,v,A,p1,p2,hu=>by
  unfold Hv at p1;subst p1;unfold Hv at p2;obtain⟨t2,rfl⟩:=p2;exact EqAt.bool_int b1 b2 t2
 |.bl b1,.str b2,u,v,A,p1,p2,hu=>by
  unfold Hv at p1;subst p1;unfold Hv at p2;obtain⟨t2,rfl⟩:=p2;exact EqAt.bool_str b1 b2 t2
 |.bl b1,.tup ds2,u,v,A,p1,p2,hu=>by
  unfold Hv at p1;subst p1;unfold Hv at p2;obtain⟨a2,its2,rfl,l2,p2⟩:=p2;exact EqAt.bool_tuple b1 l2 (by lia)
 |.bl b1,.lst ds2,u,v,A,p1,p2,hu=>by
  unfold Hv at p1;subst p1;unfold Hv at p2;obtain⟨a2,its2,rfl,l2,p2⟩:=p2;exact EqAt.bool_list b1 l2 (by lia)
 |.int b1,.ak,u,v,A,p1,p2,hu=>by
  unfold Hv at p1;obtain⟨t1,rfl⟩:=p1;unfold Hv at p2;subst p2;exact EqAt.int_none b1 t1
 |.int b1,.bl b2,u,v,A,p1,p2,hu=>by
  unfold Hv at p1;obtain⟨t1,rfl⟩:=p1;unfold Hv at p2;subst p2;exact EqAt.int_bool b1 t1 b2
 |.int b1,.int b2,u,v,A,p1,p2,hu=>by
  unfold Hv at p1;obtain⟨t1,rfl⟩:=p1;unfold Hv at p2;obtain⟨t2,rfl⟩:=p2;exact EqAt.int_int b1 t1 b2 t2
 |.int b1,.str b2,u,v,A,p1,p2,hu=>by
  unfold Hv at p1;obtain⟨t1,rfl⟩:=p1;unfold Hv at p2;obtain⟨t2,rfl⟩:=p2;exact EqAt.int_str b1 t1 b2 t2
 |.int b1,.tup ds2,u,v,A,p1,p2,hu=>by
  unfold Hv at p1;obtain⟨t1,rfl⟩:=p1;unfold Hv at p2;obtain⟨a2,its2,rfl,l2,p2⟩:=p2;exact EqAt.int_tuple b1 t1 l2 (by lia)
 |.int b1,.lst ds2,u,v,A,p1,p2,hu=>by
  unfold Hv at p1;obtain⟨t1,rfl⟩:=p1;unfold Hv at p2;obtain⟨a2,its2,rfl,l2,p2⟩:=p2;exact EqAt.int_list b1 t1 l2 (by lia)
 |.str b1,.ak,u,v,A,p1,p2,hu=>by
  unfold Hv at p1;obtain⟨t1,rfl⟩:=p1;unfold Hv at p2;subst p2;exact EqAt.str_none b1 t1
 |.str b1,.bl b2,u,v,A,p1,p2,hu=>by
  unfold Hv at p1;obtain⟨t1,rfl⟩:=p1;unfold Hv at p2;subst p2;exact EqAt.str_bool b1 t1 b2
 |.str b1,.int b2,u,v,A,p1,p2,hu=>by
  unfold Hv at p1;obtain⟨t1,rfl⟩:=p1;unfold Hv at p2;obtain⟨t2,rfl⟩:=p2;exact EqAt.str_int b1 t1 b2 t2
 |.str b1,.str b2,u,v,A,p1,p2,hu=>by
  unfold Hv at p1;obtain⟨t1,rfl⟩:=p1;unfold Hv at p2;obtain⟨t2,rfl⟩:=p2;exact EqAt.str_str b1 t1 b2 t2
 |.str b1,.tup ds2,u,v,A,p1,p2,hu=>by
  unfold Hv at p1;obtain⟨t1,rfl⟩:=p1;unfold Hv at p2;obtain⟨a2,its2,rfl,l2,p2⟩:=p2;exact EqAt.str_tuple b1 t1 l2 (by lia)
 |.str b1,.lst ds2,u,v,A,p1,p2,hu=>by
  unfold Hv at p1;obtain⟨t1,rfl⟩:=p1;unfold Hv at p2;obtain⟨a2,its2,rfl,l2,p2⟩:=p2;exact EqAt.str_list b1 t1 l2 (by lia)
 |.tup ds1,.ak,u,v,A,p1,p2,hu=>by
  unfold Hv at p1;obtain⟨a1,its1,rfl,l1,p1⟩:=p1;unfold Hv at p2;subst p2;exact EqAt.tuple_none  l1 (by lia)
 |.tup ds1,.bl b2,u,v,A,p1,p2,hu=>by
  unfold Hv at p1;obtain⟨a1,its1,rfl,l1,p1⟩:=p1;unfold Hv at p2;subst p2;exact EqAt.tuple_bool b2 l1 (by lia)
 |.tup ds1,.int b2,u,v,A,p1,p2,hu=>by
  unfold Hv at p1;obtain⟨a1,its1,rfl,l1,p1⟩:=p1;unfold Hv at p2;obtain⟨t2,rfl⟩:=p2;exact EqAt.tuple_int b2 t2 l1 (by lia)
 |.tup ds1,.str b2,u,v,A,p1,p2,hu=>by
  unfold Hv at p1;obtain⟨a1,its1,rfl,l1,p1⟩:=p1;unfold Hv at p2;obtain⟨t2,rfl⟩:=p2;exact EqAt.tuple_str b2 t2 l1 (by lia)
 |.tup ds1,.tup ds2,u,v,A,p1,p2,hu=>by
  unfold Hv at p1;obtain⟨a1,its1,rfl,l1,p1⟩:=p1;unfold Hv at p2;obtain⟨a2,its2,rfl,l2,p2⟩:=p2;unfold D.dS;by_cases ha:a1=a2
  ·subst ha;have e0:(.tup ds1:D)=.tup ds2:=Hv.inj (h:=s.heap) (u:=.ref a1) (by unfold Hv;exact⟨a1,its1,rfl,l1,p1⟩) (by unfold Hv;exact⟨a1,its2,rfl,l2,p2⟩);injection e0 with e0;subst e0;rw[p1.refl];exact EqAt.same _
  ·refine EqAt.of_refs ha ?_;have hdep:A.units+fW ds1+1+1<cLine:=by
    have e9:(.tup ds1:D).i7=fW ds1+1:=by first|rfl|(unfold D.i7;rfl)
    lia
   have q:=RcAt.tuples (e:=fun j=>(ds1.getD j .ak).dS (ds2.getD j .ak)) l1 l2 (by lia) fun j h1 h2=>
    have m:=(lp p1 h1).2
    uU (ds1.getD j .ak) (ds2.getD j .ak) _ _ A.in1 (lp p1 h1).1 (lp p2 h2).1 (by
     have:=tH m;show A.units+1+_+1<cLine;lia)
   rw[υ,υ,p1.length,p2.length,tG] at q;exact q
 |.tup ds1,.lst ds2,u,v,A,p1,p2,hu=>by
  unfold Hv at p1;obtain⟨a1,its1,rfl,l1,p1⟩:=p1;unfold Hv at p2;obtain⟨a2,its2,rfl,l2,p2⟩:=p2;exact EqAt.tuple_list l1 l2 (by lia)
 |.lst ds1,.ak,u,v,A,p1,p2,hu=>by
  unfold Hv at p1;obtain⟨a1,its1,rfl,l1,p1⟩:=p1;unfold Hv at p2;subst p2;exact EqAt.list_none  l1 (by lia)
 |.lst ds1,.bl b2,u,v,A,p1,p2,hu=>by
  unfold Hv at p1;obtain⟨a1,its1,rfl,l1,p1⟩:=p1;unfold Hv at p2;subst p2;exact EqAt.list_bool b2 l1 (by lia)
 |.lst ds1,.int b2,u,v,A,p1,p2,hu=>by
  unfold Hv at p1;obtain⟨a1,its1,rfl,l1,p1⟩:=p1;unfold Hv at p2;obtain⟨t2,rfl⟩:=p2;exact EqAt.list_int b2 t2 l1 (by lia)
 |.lst ds1,.str b2,u,v,A,p1,p2,hu=>by
  unfold Hv at p1;obtain⟨a1,its1,rfl,l1,p1⟩:=p1;unfold Hv at p2;obtain⟨t2,rfl⟩:=p2;exact EqAt.list_str b2 t2 l1 (by lia)
 |.lst ds1,.tup ds2,u,v,A,p1,p2,hu=>by
  unfold Hv at p1;obtain⟨a1,its1,rfl,l1,p1⟩:=p1;unfold Hv at p2;obtain⟨a2,its2,rfl,l2,p2⟩:=p2;exact EqAt.list_tuple l1 l2 (by lia)
 |.lst ds1,.lst ds2,u,v,A,p1,p2,hu=>by
  unfold Hv at p1;obtain⟨a1,its1,rfl,l1,p1⟩:=p1;unfold Hv at p2;obtain⟨a2,its2,rfl,l2,p2⟩:=p2;unfold D.dS;by_cases ha:a1=a2
  ·subst ha;have e0:(.lst ds1:D)=.lst ds2:=Hv.inj (h:=s.heap) (u:=.ref a1) (by unfold Hv;exact⟨a1,its1,rfl,l1,p1⟩) (by unfold Hv;exact⟨a1,its2,rfl,l2,p2⟩);injection e0 with e0;subst e0;rw[p1.refl];exact EqAt.same _
  ·refine EqAt.of_refs ha ?_;have hdep:A.units+fW ds1+1+1<cLine:=by
    have e9:(.lst ds1:D).i7=fW ds1+1:=by first|rfl|(unfold D.i7;rfl)
    lia
   by_cases hn:ds1.length=ds2.length
   ·have q:=RcAt.lists (e:=fun j=>(ds1.getD j .ak).dS (ds2.getD j .ak)) l1 l2 (by simp[p1.length,p2.length,hn]) (by lia) fun j h1 h2=>
     have m:=(lp p1 h1).2
     uU (ds1.getD j .ak) (ds2.getD j .ak) _ _ A.in1 (lp p1 h1).1 (lp p2 h2).1 (by
      have:=tH m;show A.units+1+_+1<cLine;lia)
    have q2:=tG ds1 ds2;rw[hn,nZ,beq_self_eq_true,qP] at q2;rw[υ,p1.length,hn,q2] at q;exact q
   ·rw[ye _ _ hn];exact rQ l1 l2 (by simp[p1.length,p2.length,hn]) (by lia)
 |.ak,.iF,u,v,A,p1,p2,hu=>by
  unfold Hv at p2;exact p2.elim
 |.bl b1,.iF,u,v,A,p1,p2,hu=>by
  unfold Hv at p2;exact p2.elim
 |.int b1,.iF,u,v,A,p1,p2,hu=>by
  unfold Hv at p2;exact p2.elim
 |.str b1,.iF,u,v,A,p1,p2,hu=>by
  unfold Hv at p2;exact p2.elim
 |.tup ds1,.iF,u,v,A,p1,p2,hu=>by
  unfold Hv at p2;exact p2.elim
 |.lst ds1,.iF,u,v,A,p1,p2,hu=>by
  unfold Hv at p2;exact p2.elim
 |.iF,e,u,v,A,p1,p2,hu=>by
  unfold Hv at p1;exact p1.elim
termination_by d=>sizeOf d
decreasing_by
 all_goals (have:=List.sizeOf_lt_of_mem m;first|(rw[D.tup.sizeOf_spec];lia)|(rw[D.lst.sizeOf_spec];lia))
theorem LB{s:η}(d e:D)(u v:δ)(A:bT)(p1:Hv s.heap d u)(p2:Hv s.heap e v)(hu:A.units+d.i7+1<cLine):RcAt A s u v (d.dS e):=
 match d,e,p1,p2,hu with
 |.ak,.ak,p1,p2,hu=>by
  unfold Hv at p1;subst p1;unfold Hv at p2;subst p2;exact RcAt.none_none
 |.ak,.bl b2,p1,p2,hu=>by
  unfold Hv at p1;subst p1;unfold Hv at p2;subst p2;exact RcAt.none_bool  b2
 |.ak,.int b2,p1,p2,hu=>by
  unfold Hv at p1;subst p1;unfold Hv at p2;obtain⟨t2,rfl⟩:=p2;exact RcAt.none_int  b2 t2
 |.ak,.str b2,p1,p2,hu=>by
  unfold Hv at p1;subst p1;unfold Hv at p2;obtain⟨t2,rfl⟩:=p2;exact RcAt.none_str  b2 t2
 |.ak,.tup ds2,p1,p2,hu=>by
  unfold Hv at p1;subst p1;unfold Hv at p2;obtain⟨a2,its2,rfl,l2,p2⟩:=p2;exact RcAt.none_tuple  l2 (by lia)
 |.ak,.lst ds2,p1,p2,hu=>by
  unfold Hv at p1;subst p1;unfold Hv at p2;obtain⟨a2,its2,rfl,l2,p2⟩:=p2;exact RcAt.none_list  l2 (by lia)
 |.bl b1,.ak,p1,p2,hu=>by
  unfold Hv at p1;subst p1;unfold Hv at p2;subst p2;exact RcAt.bool_none b1
 |.bl b1,.bl b2,p1,p2,hu=>by
  unfold Hv at p1;subst p1;unfold Hv at p2;subst p2;exact RcAt.bool_bool b1 b2
 |.bl b1,.int b2,p1,p2,hu=>by
  unfold Hv at p1;subst p1;unfold Hv at p2;obtain⟨t2,rfl⟩:=p2;exact RcAt.bool_int b1 b2 t2
 |.bl b1,.str b2,p1,p2,hu=>by
  unfold Hv at p1;subst p1;unfold Hv at p2;obtain⟨t2,rfl⟩:=p2;exact RcAt.bool_str b1 b2 t2
 |.bl b1,.tup ds2,p1,p2,hu=>by
  unfold Hv at p1;subst p1;unfold Hv at p2;obtain⟨a2,its2,rfl,l2,p2⟩:=p2;exact RcAt.bool_tuple b1 l2 (by lia)
 |.bl b1,.lst ds2,p1,p2,hu=>by
  unfold Hv at p1;subst p1;unfold Hv at p2;obtain⟨a2,its2,rfl,l2,p2⟩:=p2;exact RcAt.bool_list b1 l2 (by lia)
 |.int b1,.ak,p1,p2,hu=>by
  unfold Hv at p1;obtain⟨t1,rfl⟩:=p1;unfold Hv at p2;subst p2;exact RcAt.int_none b1 t1
 |.int b1,.bl b2,p1,p2,hu=>by
  unfold Hv at p1;obtain⟨t1,rfl⟩:=p1;unfold Hv at p2;subst p2;exact RcAt.int_bool b1 t1 b2
 |.int b1,.int b2,p1,p2,hu=>by
  unfold Hv at p1;obtain⟨t1,rfl⟩:=p1;unfold Hv at p2;obtain⟨t2,rfl⟩:=p2;exact RcAt.int_int b1 t1 b2 t2
 |.int b1,.str b2,p1,p2,hu=>by
  unfold Hv at p1;obtain⟨t1,rfl⟩:=p1;unfold Hv at p2;obtain⟨t2,rfl⟩:=p2;exact RcAt.int_str b1 t1 b2 t2
 |.int b1,.tup ds2,p1,p2,hu=>by
  unfold Hv at p1;obtain⟨t1,rfl⟩:=p1;unfold Hv at p2;obtain⟨a2,its2,rfl,l2,p2⟩:=p2;exact RcAt.int_tuple b1 t1 l2 (by lia)
 |.int b1,.lst ds2,p1,p2,hu=>by
  unfold Hv at p1;obtain⟨t1,rfl⟩:=p1;unfold Hv at p2;obtain⟨a2,its2,rfl,l2,p2⟩:=p2;exact RcAt.int_list b1 t1 l2 (by lia)
 |.str b1,.ak,p1,p2,hu=>by
  unfold Hv at p1;obtain⟨t1,rfl⟩:=p1;unfold Hv at p2;subst p2;exact RcAt.str_none b1 t1
 |.str b1,.bl b2,p1,p2,hu=>by
  unfold Hv at p1;obtain⟨t1,rfl⟩:=p1;unfold Hv at p2;subst p2;exact RcAt.str_bool b1 t1 b2
 |.str b1,.int b2,p1,p2,hu=>by
  unfold Hv at p1;obtain⟨t1,rfl⟩:=p1;unfold Hv at p2;obtain⟨t2,rfl⟩:=p2;exact RcAt.str_int b1 t1 b2 t2
 |.str b1,.str b2,p1,p2,hu=>by
  unfold Hv at p1;obtain⟨t1,rfl⟩:=p1;unfold Hv at p2;obtain⟨t2,rfl⟩:=p2;exact RcAt.str_str b1 t1 b2 t2
 |.str b1,.tup ds2,p1,p2,hu=>by
  unfold Hv at p1;obtain⟨t1,rfl⟩:=p1;unfold Hv at p2;obtain⟨a2,its2,rfl,l2,p2⟩:=p2;exact RcAt.str_tuple b1 t1 l2 (by lia)
 |.str b1,.lst ds2,p1,p2,hu=>by
  unfold Hv at p1;obtain⟨t1,rfl⟩:=p1;unfold Hv at p2;obtain⟨a2,its2,rfl,l2,p2⟩:=p2;exact RcAt.str_list b1 t1 l2 (by lia)
 |.tup ds1,.ak,p1,p2,hu=>by
  unfold Hv at p1;obtain⟨a1,its1,rfl,l1,p1⟩:=p1;unfold Hv at p2;subst p2;exact RcAt.tuple_none  l1 (by lia)
 |.tup ds1,.bl b2,p1,p2,hu=>by
  unfold Hv at p1;obtain⟨a1,its1,rfl,l1,p1⟩:=p1;unfold Hv at p2;subst p2;exact RcAt.tuple_bool b2 l1 (by lia)
 |.tup ds1,.int b2,p1,p2,hu=>by
  unfold Hv at p1;obtain⟨a1,its1,rfl,l1,p1⟩:=p1;unfold Hv at p2;obtain⟨t2,rfl⟩:=p2;exact RcAt.tuple_int b2 t2 l1 (by lia)
 |.tup ds1,.str b2,p1,p2,hu=>by
  unfold Hv at p1;obtain⟨a1,its1,rfl,l1,p1⟩:=p1;unfold Hv at p2;obtain⟨t2,rfl⟩:=p2;exact RcAt.tuple_str b2 t2 l1 (by lia)
 |.tup ds1,.tup ds2,p1,p2,hu=>by
  unfold Hv at p1;obtain⟨a1,its1,rfl,l1,p1⟩:=p1;unfold Hv at p2;obtain⟨a2,its2,rfl,l2,p2⟩:=p2;unfold D.dS;have hdep:A.units+fW ds1+1+1<cLine:=by
   have e9:(.tup ds1:D).i7=fW ds1+1:=by first|rfl|(unfold D.i7;rfl)
   lia
  have q:=RcAt.tuples (e:=fun j=>(ds1.getD j .ak).dS (ds2.getD j .ak)) l1 l2 (by lia) fun j h1 h2=>
   uU (ds1.getD j .ak) (ds2.getD j .ak) _ _ A.in1 (lp p1 h1).1 (lp p2 h2).1 (by
    have:=tH (lp p1 h1).2;show A.units+1+_+1<cLine;lia)
  rw[υ,υ,p1.length,p2.length,tG] at q;exact q
 |.tup ds1,.lst ds2,p1,p2,hu=>by
  unfold Hv at p1;obtain⟨a1,its1,rfl,l1,p1⟩:=p1;unfold Hv at p2;obtain⟨a2,its2,rfl,l2,p2⟩:=p2;exact RcAt.tuple_list l1 l2 (by lia)
 |.lst ds1,.ak,p1,p2,hu=>by
  unfold Hv at p1;obtain⟨a1,its1,rfl,l1,p1⟩:=p1;unfold Hv at p2;subst p2;exact RcAt.list_none  l1 (by lia)
 |.lst ds1,.bl b2,p1,p2,hu=>by
  unfold Hv at p1;obtain⟨a1,its1,rfl,l1,p1⟩:=p1;unfold Hv at p2;subst p2;exact RcAt.list_bool b2 l1 (by lia)
 |.lst ds1,.int b2,p1,p2,hu=>by
  unfold Hv at p1;obtain⟨a1,its1,rfl,l1,p1⟩:=p1;unfold Hv at p2;obtain⟨t2,rfl⟩:=p2;exact RcAt.list_int b2 t2 l1 (by lia)
 |.lst ds1,.str b2,p1,p2,hu=>by
  unfold Hv at p1;obtain⟨a1,its1,rfl,l1,p1⟩:=p1;unfold Hv at p2;obtain⟨t2,rfl⟩:=p2;exact RcAt.list_str b2 t2 l1 (by lia)
 |.lst ds1,.tup ds2,p1,p2,hu=>by
  unfold Hv at p1;obtain⟨a1,its1,rfl,l1,p1⟩:=p1;unfold Hv at p2;obtain⟨a2,its2,rfl,l2,p2⟩:=p2;exact RcAt.list_tuple l1 l2 (by lia)
 |.lst ds1,.lst ds2,p1,p2,hu=>by
  unfold Hv at p1;obtain⟨a1,its1,rfl,l1,p1⟩:=p1;unfold Hv at p2;obtain⟨a2,its2,rfl,l2,p2⟩:=p2;unfold D.dS;have hdep:A.units+fW ds1+1+1<cLine:=by
   have e9:(.lst ds1:D).i7=fW ds1+1:=by first|rfl|(unfold D.i7;rfl)
   lia
  by_cases hn:ds1.length=ds2.length
  ·have q:=RcAt.lists (e:=fun j=>(ds1.getD j .ak).dS (ds2.getD j .ak)) l1 l2 (by simp[p1.length,p2.length,hn]) (by lia) fun j h1 h2=>
    uU (ds1.getD j .ak) (ds2.getD j .ak) _ _ A.in1 (lp p1 h1).1 (lp p2 h2).1 (by
     have:=tH (lp p1 h1).2;show A.units+1+_+1<cLine;lia)
   have q2:=tG ds1 ds2;rw[hn,nZ,beq_self_eq_true,qP] at q2;rw[υ,p1.length,hn,q2] at q;exact q
  ·rw[ye _ _ hn];exact rQ l1 l2 (by simp[p1.length,p2.length,hn]) (by lia)
 |d,.iF,p1,p2,hu=>by
  unfold Hv at p2;exact p2.elim
 |.iF,e,p1,p2,hu=>by
  unfold Hv at p1;exact p1.elim
theorem LA{s:η}(d e:D)(u v:δ)(A:bT)(p1:Hv s.heap d u)(p2:Hv s.heap e v)(hu:A.units+d.i7+1<cLine):RcNeAt A s u v (!d.dS e):=
 match d,e,p1,p2,hu with
 |.ak,.ak,p1,p2,hu=>by
  unfold Hv at p1;subst p1;unfold Hv at p2;subst p2;exact RcNeAt.none_none
 |.ak,.bl b2,p1,p2,hu=>by
  unfold Hv at p1;subst p1;unfold Hv at p2;subst p2;exact RcNeAt.none_bool  b2
 |.ak,.int b2,p1,p2,hu=>by
  unfold Hv at p1;subst p1;unfold Hv at p2;obtain⟨t2,rfl⟩:=p2;exact RcNeAt.none_int  b2 t2
 |.ak,.str b2,p1,p2,hu=>by
  unfold Hv at p1;subst p1;unfold Hv at p2;obtain⟨t2,rfl⟩:=p2;exact RcNeAt.none_str  b2 t2
 |.ak,.tup ds2,p1,p2,hu=>by
  unfold Hv at p1;subst p1;unfold Hv at p2;obtain⟨a2,its2,rfl,l2,p2⟩:=p2;exact RcNeAt.none_tuple  l2 (by lia)
 |.ak,.lst ds2,p1,p2,hu=>by
  unfold Hv at p1;subst p1;unfold Hv at p2;obtain⟨a2,its2,rfl,l2,p2⟩:=p2;exact RcNeAt.none_list  l2 (by lia)
 |.bl b1,.ak,p1,p2,hu=>by
  unfold Hv at p1;subst p1;unfold Hv at p2;subst p2;exact RcNeAt.bool_none b1
 |.bl b1,.bl b2,p1,p2,hu=>by
  unfold Hv at p1;subst p1;unfold Hv at p2;subst p2;exact RcNeAt.bool_bool b1 b2
 |.bl b1,.int b2,p1,p2,hu=>by
  unfold Hv at p1;subst p1;unfold Hv at p2;obtain⟨t2,rfl⟩:=p2;exact RcNeAt.bool_int b1 b2 t2
 |.bl b1,.str b2,p1,p2,hu=>by
  unfold Hv at p1;subst p1;unfold Hv at p2;obtain⟨t2,rfl⟩:=p2;exact RcNeAt.bool_str b1 b2 t2
 |.bl b1,.tup ds2,p1,p2,hu=>by
  unfold Hv at p1;subst p1;unfold Hv at p2;obtain⟨a2,its2,rfl,l2,p2⟩:=p2;exact RcNeAt.bool_tuple b1 l2 (by lia)
 |.bl b1,.lst ds2,p1,p2,hu=>by
  unfold Hv at p1;subst p1;unfold Hv at p2;obtain⟨a2,its2,rfl,l2,p2⟩:=p2;exact RcNeAt.bool_list b1 l2 (by lia)
 |.int b1,.ak,p1,p2,hu=>by
  unfold Hv at p1;obtain⟨t1,rfl⟩:=p1;unfold Hv at p2;subst p2;exact RcNeAt.int_none b1 t1
 |.int b1,.bl b2,p1,p2,hu=>by
  unfold Hv at p1;obtain⟨t1,rfl⟩:=p1;unfold Hv at p2;subst p2;exact RcNeAt.int_bool b1 t1 b2
 |.int b1,.int b2,p1,p2,hu=>by
  unfold Hv at p1;obtain⟨t1,rfl⟩:=p1;unfold Hv at p2;obtain⟨t2,rfl⟩:=p2;exact RcNeAt.int_int b1 t1 b2 t2
 |.int b1,.str b2,p1,p2,hu=>by
  unfold Hv at p1;obtain⟨t1,rfl⟩:=p1;unfold Hv at p2;obtain⟨t2,rfl⟩:=p2;exact RcNeAt.int_str b1 t1 b2 t2
 |.int b1,.tup ds2,p1,p2,hu=>by
  unfold Hv at p1;obtain⟨t1,rfl⟩:=p1;unfold Hv at p2;obtain⟨a2,its2,rfl,l2,p2⟩:=p2;exact RcNeAt.int_tuple b1 t1 l2 (by lia)
 |.int b1,.lst ds2,p1,p2,hu=>by
  unfold Hv at p1;obtain⟨t1,rfl⟩:=p1;unfold Hv at p2;obtain⟨a2,its2,rfl,l2,p2⟩:=p2;exact RcNeAt.int_list b1 t1 l2 (by lia)
 |.str b1,.ak,p1,p2,hu=>by
  unfold Hv at p1;obtain⟨t1,rfl⟩:=p1;unfold Hv at p2;subst p2;exact RcNeAt.str_none b1 t1
 |.str b1,.bl b2,p1,p2,hu=>by
  unfold Hv at p1;obtain⟨t1,rfl⟩:=p1;unfold Hv at p2;subst p2;exact RcNeAt.str_bool b1 t1 b2
 |.str b1,.int b2,p1,p2,hu=>by
  unfold Hv at p1;obtain⟨t1,rfl⟩:=p1;unfold Hv at p2;obtain⟨t2,rfl⟩:=p2;exact RcNeAt.str_int b1 t1 b2 t2
 |.str b1,.str b2,p1,p2,hu=>by
  unfold Hv at p1;obtain⟨t1,rfl⟩:=p1;unfold Hv at p2;obtain⟨t2,rfl⟩:=p2;exact RcNeAt.str_str b1 t1 b2 t2
 |.str b1,.tup ds2,p1,p2,hu=>by
  unfold Hv at p1;obtain⟨t1,rfl⟩:=p1;unfold Hv at p2;obtain⟨a2,its2,rfl,l2,p2⟩:=p2;exact RcNeAt.str_tuple b1 t1 l2 (by lia)
 |.str b1,.lst ds2,p1,p2,hu=>by
  unfold Hv at p1;obtain⟨t1,rfl⟩:=p1;unfold Hv at p2;obtain⟨a2,its2,rfl,l2,p2⟩:=p2;exact RcNeAt.str_list b1 t1 l2 (by lia)
 |.tup ds1,.ak,p1,p2,hu=>by
  unfold Hv at p1;obtain⟨a1,its1,rfl,l1,p1⟩:=p1;unfold Hv at p2;subst p2;exact RcNeAt.tuple_none  l1 (by lia)
 |.tup ds1,.bl b2,p1,p2,hu=>by
  unfold Hv at p1;obtain⟨a1,its1,rfl,l1,p1⟩:=p1;unfold Hv at p2;subst p2;exact RcNeAt.tuple_bool b2 l1 (by lia)
 |.tup ds1,.int b2,p1,p2,hu=>by
  unfold Hv at p1;obtain⟨a1,its1,rfl,l1,p1⟩:=p1;unfold Hv at p2;obtain⟨t2,rfl⟩:=p2;exact RcNeAt.tuple_int b2 t2 l1 (by lia)
 |.tup ds1,.str b2,p1,p2,hu=>by
  unfold Hv at p1;obtain⟨a1,its1,rfl,l1,p1⟩:=p1;unfold Hv at p2;obtain⟨t2,rfl⟩:=p2;exact RcNeAt.tuple_str b2 t2 l1 (by lia)
 |.tup ds1,.tup ds2,p1,p2,hu=>by
  unfold Hv at p1;obtain⟨a1,its1,rfl,l1,p1⟩:=p1;unfold Hv at p2;obtain⟨a2,its2,rfl,l2,p2⟩:=p2;unfold D.dS;have hdep:A.units+fW ds1+1+1<cLine:=by
   have e9:(.tup ds1:D).i7=fW ds1+1:=by first|rfl|(unfold D.i7;rfl)
   lia
  have q:=RcNeAt.tuples (e:=fun j=>(ds1.getD j .ak).dS (ds2.getD j .ak)) l1 l2 (by lia) fun j h1 h2=>
   uU (ds1.getD j .ak) (ds2.getD j .ak) _ _ A.in1 (lp p1 h1).1 (lp p2 h2).1 (by
    have:=tH (lp p1 h1).2;show A.units+1+_+1<cLine;lia)
  rw[υ,υ,p1.length,p2.length,tG] at q;exact q
 |.tup ds1,.lst ds2,p1,p2,hu=>by
  unfold Hv at p1;obtain⟨a1,its1,rfl,l1,p1⟩:=p1;unfold Hv at p2;obtain⟨a2,its2,rfl,l2,p2⟩:=p2;exact RcNeAt.tuple_list l1 l2 (by lia)
 |.lst ds1,.ak,p1,p2,hu=>by
  unfold Hv at p1;obtain⟨a1,its1,rfl,l1,p1⟩:=p1;unfold Hv at p2;subst p2;exact RcNeAt.list_none  l1 (by lia)
 |.lst ds1,.bl b2,p1,p2,hu=>by
  unfold Hv at p1;obtain⟨a1,its1,rfl,l1,p1⟩:=p1;unfold Hv at p2;subst p2;exact RcNeAt.list_bool b2 l1 (by lia)
 |.lst ds1,.int b2,p1,p2,hu=>by
  unfold Hv at p1;obtain⟨a1,its1,rfl,l1,p1⟩:=p1;unfold Hv at p2;obtain⟨t2,rfl⟩:=p2;exact RcNeAt.list_int b2 t2 l1 (by lia)
 |.lst ds1,.str b2,p1,p2,hu=>by
  unfold Hv at p1;obtain⟨a1,its1,rfl,l1,p1⟩:=p1;unfold Hv at p2;obtain⟨t2,rfl⟩:=p2;exact RcNeAt.list_str b2 t2 l1 (by lia)
 |.lst ds1,.tup ds2,p1,p2,hu=>by
  unfold Hv at p1;obtain⟨a1,its1,rfl,l1,p1⟩:=p1;unfold Hv at p2;obtain⟨a2,its2,rfl,l2,p2⟩:=p2;exact RcNeAt.list_tuple l1 l2 (by lia)
 |.lst ds1,.lst ds2,p1,p2,hu=>by
  unfold Hv at p1;obtain⟨a1,its1,rfl,l1,p1⟩:=p1;unfold Hv at p2;obtain⟨a2,its2,rfl,l2,p2⟩:=p2;unfold D.dS;have hdep:A.units+fW ds1+1+1<cLine:=by
   have e9:(.lst ds1:D).i7=fW ds1+1:=by first|rfl|(unfold D.i7;rfl)
   lia
  by_cases hn:ds1.length=ds2.length
  ·have q:=RcNeAt.lists (e:=fun j=>(ds1.getD j .ak).dS (ds2.getD j .ak)) l1 l2 (by simp[p1.length,p2.length,hn]) (by lia) fun j h1 h2=>
    uU (ds1.getD j .ak) (ds2.getD j .ak) _ _ A.in1 (lp p1 h1).1 (lp p2 h2).1 (by
     have:=tH (lp p1 h1).2;show A.units+1+_+1<cLine;lia)
   have q2:=tG ds1 ds2;rw[hn,nZ,beq_self_eq_true,qP] at q2;rw[υ,p1.length,hn,q2] at q;exact q
  ·rw[ye _ _ hn];exact RcNeAt.lists_lengths l1 l2 (by simp[p1.length,p2.length,hn]) (by lia)
 |d,.iF,p1,p2,hu=>by
  unfold Hv at p2;exact p2.elim
 |.iF,e,p1,p2,hu=>by
  unfold Hv at p1;exact p1.elim
end Dat
namespace L3
open PySem PySem.Spec PyProof.Rows L2
section
variable {X:Cx} {K:ζ}
def xn(f:Int->Int->D):R3:=fun x y G Q=>match x,y with
 |.int i,.int j=>Q (f i j) G
 |_,_=>False
theorem iR{H:Hp}{i:Int}{v:V}(h:Hv K H (.int i) v):v=.int i:=by unfold Hv at h;exact h
theorem wy{H:Hp}{i:Bool}{v:V}(h:Hv K H (.bl i) v):v=.bl i:=by unfold Hv at h;exact h
theorem i4{H:Hp}{a:ε}{v:V}(h:Hv K H (.obj a) v):v=.ref a:=by unfold Hv at h;exact h
theorem kd{H:Hp}{ds:List D}{v:V}(h:Hv K H (.tup ds) v):∃a vs,v=.ref a/\cF K H a vs/\aO K H ds vs:=by unfold Hv at h;exact h
theorem rp{H:Hp}{ds:List D}{v:V}(h:Hv K H (.fo ds) v):∃a vs,v=.ref a/\qI K H a vs/\aO K H ds vs:=by unfold Hv at h;exact h
theorem mT{H:Hp}{i:Int}:Hv K H (.int i) (.int i):=by simp[Hv]
theorem nK{H:Hp}{i:Bool}:Hv K H (.bl i) (.bl i):=by simp[Hv]
theorem qj{H:Hp}{a:ε}:Hv K H (.obj a) (.ref a):=by simp[Hv]
theorem qi{H:Hp}{ds:List D}{a:ε}{vs:List V}(h:cF K H a vs)(q:aO K H ds vs):Hv K H (.tup ds) (.ref a):=by
 unfold Hv;exact⟨a,vs,rfl,h,q⟩
theorem low_ints{f:Int->Int->D}{g:Int->Int->V}(hf:∀i j H,Hv K H (f i j) (g i j)):eG K (xn f) (nJ g):=fun x y vx vy G H Q3 Q hx hy RG h k=>by
 cases x with
 |int i=>
  cases y with
  |int j=>
   rw[iR hx,iR hy];exact⟨i,j,rfl,rfl,k _ H _ G (hf i j H) (.refl H G) RG h⟩
  |_=>exact h.elim
 |_=>exact h.elim
abbrev iQ:R3:=xn fun i j=>.int (i-j)
theorem lE:eG K iQ (nJ fun i j=>.int (i-j)):=low_ints fun _ _ _=>mT
abbrev AR:R3:=xn fun i j=>.bl (decide (i≤j))
theorem JK:eG K AR (nJ fun i j=>.bl (decide (i≤j))):=low_ints fun _ _ _=>nK
abbrev sX:R3:=xn fun i j=>.bl (decide (j<i))
theorem uS:eG K sX (nJ fun i j=>.bl (decide (j<i))):=low_ints fun _ _ _=>nK
abbrev Ep:R3:=xn fun i j=>.bl (decide (j≤i))
theorem Xa:eG K Ep (nJ fun i j=>.bl (decide (j≤i))):=low_ints fun _ _ _=>nK
def gA(i:Int):Prop:=i.natAbs<2^4000
theorem Il{i:Int}(h:gA i):i.natAbs.log2<4000:=by
 by_cases h0:i.natAbs=0
 ·rw[h0];decide
 ·exact (Nat.log2_lt h0).mpr h
theorem Ij{i:Int}(h:gA i):iP i≤4000:=by
 unfold iP;split
 ·exact aB _
 ·exact Il h
theorem Q2{i j:Int}(h1:gA i)(h2:gA j):IntMulOk i j:=by
 unfold IntMulOk dP.Int.intTooBig;have b1:=Ij h1;have b2:=Ij h2;have:¬((iP i:Int)+(iP j:Int) > (bitsLine:Int)):=by
  have:(bitsLine:Int)=134217728:=by decide
  lia
 rw[decide_eq_false this];simp
theorem o6:eB X (binaryOp .FloorDiv) (rI (fun _ j=>0<j/\gA j) fun i j=>.int (i / j)):=Az fun i j _ _ _ _ _ hc q=>by
 have h1:(0:Int)<j:=hc.1;exact floordiv_int (by lia) (by rw[Int.fdiv_eq_ediv_of_nonneg i (by lia)];exact q) (.inl (PyProof.noPylong_of_log2 (jh (Il hc.2) (by decide))))
theorem DY:eB X (binaryOp .Mult) (rI (fun i j=>gA i/\gA j) fun i j=>.int (i*j)):=Az fun _ _ _ _ _ _ _ hc q=>mul_int q (Q2 hc.1 hc.2)
def vO(C:Int->Int->Prop)(f:Int->Int->D):R3:=fun x y G Q=>match x,y with
 |.int i,.int j=>C i j/\Q (f i j) G
 |_,_=>False
theorem yd{C:Int->Int->Prop}{f:Int->Int->D}{g:Int->Int->V}(hf:∀i j H,Hv K H (f i j) (g i j)):eG K (vO C f) (rI C g):=fun x y vx vy G H Q3 Q hx hy RG h k=>by
 cases x with
 |int i=>
  cases y with
  |int j=>
   rw[iR hx,iR hy];exact⟨i,j,rfl,rfl,h.1,k _ H _ G (hf i j H) (.refl H G) RG h.2⟩
  |_=>exact h.elim
 |_=>exact h.elim
abbrev kA:R3:=vO (fun _ j=>0<j/\gA j) fun i j=>.int (i / j)
theorem o5:eG K kA (rI (fun _ j=>0<j/\gA j) fun i j=>.int (i / j)):=yd fun _ _ _=>mT
abbrev jo:R3:=vO (fun _ j=>0<j) fun i j=>.int (i%j)
theorem mG:eG K jo (rI (fun _ j=>0<j) fun i j=>.int (i%j)):=yd fun _ _ _=>mT
abbrev qb:R3:=vO uZ fun i j=>.int (i^j.toNat)
theorem uJ:eG K qb (rI uZ fun i j=>.int (i^j.toNat)):=yd fun _ _ _=>mT
theorem Q1{prog:aG}{w:aQ}{A:bT}{E:δ->η->Prop}{s:η}{t b:ε}{ws:List δ}{Q:δ->η->Prop}(ht:nz s.heap t #[])(hb:nz s.heap b ws.toArray)(h1:Q (.ref b) s):
  ρ (model prog w) A (binaryOp .Add (.ref t) (.ref b)) Q E s:=by
 obtain⟨⟨cls,dd,data,sl⟩,ho,hc,n,hd⟩:=id ht;obtain⟨⟨cls2,dd2,data2,sl2⟩,ho2,hc2,n2,hd2⟩:=id hb;simp only at hc hd hc2 hd2;subst hc hd hc2 hd2;exact nU ⟨_,ho,rfl⟩ ⟨_,ho2,rfl⟩ nT qM jV jz (je _ _)
   (tuple_addW0 t b #[] ws.toArray n n2 dd dd2 sl sl2 rfl) ⟨ho,ho2,h1⟩
def Aw(K:ζ):R2:=fun x y H Q=>∃a b ys,x=.ref a/\y=.ref b/\cF K H a []/\cF K H b ys/\Q (.ref b) H
theorem Q0:eB X (binaryOp .Add) (Aw X.K):=by
 intro pins s σ H x y v u Q I rx ry h;obtain⟨a,b,ys,rfl,rfl,ha,hb,q⟩:=h;cases rx;cases ry;obtain⟨its,r1,p1,_⟩:=I.tuple ha;obtain⟨its2,r2,p2,_⟩:=I.tuple hb;cases r1;exact Q1 p1 p2 ⟨.ref b,H,I,rfl,q⟩
def cB:R3:=fun x y G Q=>match x,y with
 |.int i,.int j=>Q (.int (i+j)) G
 |.obj a,.obj b=>∃ds es,G a=some (.lst ds)/\G b=some (.lst es)/\ds.length+es.length≤aj/\∀p G',dg G p (.lst (ds++es)) G'->Q (.obj p) G'
 |.tup ds,.tup es=>ds.length+es.length≤aj/\Q (.tup (ds++es)) G
 |_,_=>False
abbrev Dc(K:ζ):R2:=fun x y H Q=>nJ (fun i j=>.int (i+j)) x y H Q∨(Er x y H Q∨(C8 K x y H Q∨Aw K x y H Q))
theorem fA:eB X (binaryOp .Add) (Dc X.K):=Jv.or (Ju.or (DZ.or Q0))
theorem fz:eG K cB (Dc K):=fun x y vx vy G H Q3 Q hx hy RG h k=>by
 cases x with
 |int i=>
  cases y with
  |int j=>
   rw[iR hx,iR hy];exact .inl ⟨i,j,rfl,rfl,k _ H _ G mT (.refl H G) RG h⟩
  |_=>exact h.elim
 |obj a=>
  cases y with
  |obj b=>
   rw[i4 hx,i4 hy];obtain⟨ds,es,e1,e2,hz,q⟩:=h;obtain⟨vs,z1,z2⟩:=RG a _ e1;obtain⟨us,y1,y2⟩:=RG b _ e2;refine .inr (.inl ⟨a,b,vs,us,rfl,rfl,z1,y1,by rw[←z2.length,←y2.length];exact hz,fun p hp=>?_⟩);exact k _ _ (.obj p) _ qj (.ix hp) (RG.tJ hp (z2.append y2)) (q p _ (.mk' (RG.free hp)))
  |_=>exact h.elim
 |tup ds=>
  cases y with
  |tup es=>
   obtain⟨a,vs,rfl,e1,e2⟩:=kd hx;obtain⟨b,us,rfl,y1,y2⟩:=kd hy;by_cases h0:vs=[]
   ·subst h0;have:ds=[]:=by
     have:=e2.length;exact lh (by simpa using this)
    subst this;exact .inr (.inr (.inr ⟨a,b,us,rfl,rfl,e1,y1,k _ H (.tup es) G (qi y1 y2) (.refl H G) RG h.2⟩))
   ·refine .inr (.inr (.inl ⟨a,b,vs,us,rfl,rfl,e1,y1,h0,by rw[←e2.length,←y2.length];exact h.1,fun z=>?_,fun z p hp=>?_⟩))
    ·subst z;have:es=[]:=lh (by simpa using y2.length);subst this;refine k _ H (.tup ds) G (qi e1 e2) (.refl H G) RG ?_;have:=h.2;rwa [cU] at this
    ·exact k _ _ (.tup (ds++es)) G (qi (.of g8) ((e2.append y2).ext (.laid hp))) (.laid hp) (RG.laid hp) h.2
  |_=>exact h.elim
 |_=>exact h.elim
def fg:R3:=fun x y G Q=>match x,y with
 |.int i,.int j=>(gA i/\gA j)/\Q (.int (i*j)) G
 |.obj a,.int k=>∃ds,G a=some (.lst ds)/\(-(2^63)≤k/\k<2^63)/\ds.length*k.toNat≤aj/\∀p G',dg G p (.lst (av k.toNat ds).flatten) G'->Q (.obj p) G'
 |_,_=>False
abbrev C7:R2:=fun x y H Q=>rI (fun i j=>gA i/\gA j) (fun i j=>.int (i*j)) x y H Q∨Ek x y H Q
theorem jO:eB X (binaryOp .Mult) C7:=DY.or S9
theorem jN:eG K fg C7:=fun x y vx vy G H Q3 Q hx hy RG h k=>by
 cases x with
 |int i=>
  cases y with
  |int j=>
   rw[iR hx,iR hy];exact .inl ⟨i,j,rfl,rfl,h.1,k _ H _ G mT (.refl H G) RG h.2⟩
  |_=>exact h.elim
 |obj a=>
  cases y with
  |int j=>
   rw[i4 hx,iR hy];obtain⟨ds,e1,hk,hz,q⟩:=h;obtain⟨vs,z1,z2⟩:=RG a _ e1;refine .inr ⟨a,j,vs,rfl,rfl,z1,hk.1,hk.2,by rw[←z2.length];exact hz,fun p hp=>?_⟩;exact k _ _ (.obj p) _ qj (.ix hp) (RG.tJ hp (z2.rep _)) (q p _ (.mk' (RG.free hp)))
  |_=>exact h.elim
 |_=>exact h.elim
def tY:D->Bool
 |.ak=>true
 |_=>false
def um(neg:Bool):R3:=fun x y G Q=>match y with
 |.ak=>Q (.bl (if neg then !tY x else tY x)) G
 |_=>False
theorem Ii{H:Hp}{x:D}{v:V}(h:Hv K H x v):decide (v=.ak)=tY x:=by
 cases x with
 |ak=>unfold Hv at h;subst h;rfl
 |bl b=>rw[wy h];rfl
 |int b=>rw[iR h];rfl
 |str b=>unfold Hv at h;subst h;rfl
 |obj b=>rw[i4 h];rfl
 |tup ds=>obtain⟨a,vs,rfl,_⟩:=kd h;rfl
 |fo ds=>obtain⟨a,vs,rfl,_⟩:=rp h;rfl
 |dc a=>unfold Hv at h;rw[h.1];rfl
theorem JL:eG K (um false) (fun x y H Q=>y=.ak/\Q (.bl (decide (x=.ak))) H):=fun x y vx vy G H Q3 Q hx hy RG h k=>by
 cases y with
 |ak=>
  refine⟨by unfold Hv at hy;exact hy,?_⟩;rw[Ii hx];exact k _ H _ G nK (.refl H G) RG h
 |_=>exact h.elim
theorem Ih:eG K (um true) (fun x y H Q=>y=.ak/\Q (.bl (!decide (x=.ak))) H):=fun x y vx vy G H Q3 Q hx hy RG h k=>by
 cases y with
 |ak=>
  refine⟨by unfold Hv at hy;exact hy,?_⟩;rw[Ii hx];exact k _ H _ G nK (.refl H G) RG h
 |_=>exact h.elim
def intsOf:List D->Option (List Int)
 |[]=>some []
 |.int i::r=>(intsOf r).map (i::·)
 |_::_=>none
theorem rm{H:Hp}:∀{ds:List D} {vs:List V} {ns:List Int},aO K H ds vs->intsOf ds=some ns->vs=ns.map V.int
 |[],vs,ns,h,e=>by
  cases e;exact h.iN
 |d::ds,vs,ns,h,e=>by
  cases d with
  |int i=>
   obtain⟨v,r,rfl,z1,z2⟩:=h.inv;unfold intsOf at e;cases hm:intsOf ds with
   |none=>rw[hm] at e;cases e
   |some ms=>
    rw[hm] at e;cases e;rw[iR z1,rm z2 hm];rfl
  |_=>cases e
def sf:R3:=fun x y G Q=>match x,y with
 |.int i,.int j=>Q (.bl (decide (i<j))) G
 |.tup ds,.tup es=>∃ns ms,intsOf ds=some ns/\intsOf es=some ms/\Q (.bl (HT.lexLt ns ms)) G
 |_,_=>False
abbrev Em(K:ζ):R2:=fun x y H Q=>nJ (fun i j=>.bl (decide (i<j))) x y H Q∨El K x y H Q
theorem wx(hu:X.A.units<cLine):eB X (compareOp .Lt) (Em X.K):=Kn.or (Sw hu)
theorem wu:eG K sf (Em K):=fun x y vx vy G H Q3 Q hx hy RG h k=>by
 cases x with
 |int i=>
  cases y with
  |int j=>
   rw[iR hx,iR hy];exact .inl ⟨i,j,rfl,rfl,k _ H _ G nK (.refl H G) RG h⟩
  |_=>exact h.elim
 |tup ds=>
  cases y with
  |tup es=>
   obtain⟨a,vs,rfl,e1,e2⟩:=kd hx;obtain⟨b,us,rfl,y1,y2⟩:=kd hy;obtain⟨ns,ms,z1,z2,q⟩:=h;have q1:=rm e2 z1;have q2:=rm y2 z2;subst q1 q2;exact .inr ⟨a,b,ns,ms,rfl,rfl,e1,y1,k _ H _ G nK (.refl H G) RG q⟩
  |_=>exact h.elim
 |_=>exact h.elim
def eK:R3:=fun x y G Q=>match x,y with
 |.tup ds,.int i=>∃d,jQ ds i=some d/\Q d G
 |.fo ds,.int i=>∃d,jQ ds i=some d/\Q d G
 |.obj p,.int i=>∃ds d,G p=some (.lst ds)/\jQ ds i=some d/\Q d G
 |_,_=>False
theorem wt{H:Hp}{ds:List D}{vs:List V}{i:Int}{d:D}(h:aO K H ds vs)(e:jQ ds i=some d):∃v,jQ vs i=some v/\Hv K H d v:=by
 unfold jQ at e ⊢;rw[←h.length];cases hx:rD ds.length i with
 |none=>rw[hx] at e;cases e
 |some j=>
  rw[hx] at e;exact h.get e
theorem W9:eG K eK (La K):=fun x y vx vy G H Q3 Q hx hy RG h k=>by
 cases y with
 |int i=>
  rw[iR hy];cases x with
  |tup ds=>
   obtain⟨d,e,q⟩:=h;obtain⟨a,vs,rfl,e1,e2⟩:=kd hx;obtain⟨v,z1,z2⟩:=wt e2 e;exact .inr (.inl ⟨a,vs,i,v,rfl,rfl,e1,z1,k _ H d G z2 (.refl H G) RG q⟩)
  |fo ds=>
   obtain⟨d,e,q⟩:=h;obtain⟨a,vs,rfl,e1,e2⟩:=rp hx;obtain⟨v,z1,z2⟩:=wt e2 e;exact .inl ⟨a,vs,i,v,rfl,rfl,e1.l,z1,k _ H d G z2 (.refl H G) RG q⟩
  |obj p=>
   obtain⟨ds,d,e0,e,q⟩:=h;rw[i4 hx];obtain⟨vs,e1,e2⟩:=RG p _ e0;obtain⟨v,z1,z2⟩:=wt e2 e;exact .inl ⟨p,vs,i,v,rfl,rfl,.of e1,z1,k _ H d G z2 (.refl H G) RG q⟩
  |_=>exact h.elim
 |_=>cases x<;>exact h.elim
theorem Xk{a b:π}{ta tb:aK}{pos:aL}(ha:bV X a ta)(hb:bV X b tb)(hs:pL b:=by intro _ _;rfl):bV X (.Subscript a b pos) (af eK ta tb):=jM (Jr Jq ha hb hs) fun _ _ _ h=>yh W9 h
def wY(ta:dj)(tb:aK):aK:=fun τ G Q=>ta τ G fun ds G1=>qV (tb τ G1 fun y G2=>match y with
 |.int i=>∃d,jQ ds i=some d/\Q d G2
 | _=>False) ds 64
theorem RE{es:List π}{b:π}{ta:dj}{tb:aK}{pos pos':aL}(ha:jR X es ta)(hb:bV X b tb)(hs:pL b:=by intro _ _;rfl):bV X (.Subscript (.List es pos') b pos) (wY ta tb):=
 jM (Jr Jq (IY ha) hb hs) fun σ H Q ⟨τ,G,Q3,RS,RG,h,k⟩=>by
  refine⟨τ,G,_,RS,RG,h,fun vs H1 ds G1 h1 S1 R1 q1=>?_⟩;obtain⟨z,q1⟩:=yg q1;refine⟨by rw[←h1.length];exact wU z,fun p hp=>?_⟩;refine⟨τ,G1,_,(RS.ext (S1.ext RG)).ext (.laid hp),R1.laid hp,q1,fun v2 H2 d2 G2 h2 S2 R2 q2=>?_⟩;have e2:H2 p=some (.lst vs):=S2.fr p _ g8 (R1.free hp);cases d2 with
  |int i=>
   obtain⟨d,e,q⟩:=q2;obtain⟨v,z1,z2⟩:=wt ((h1.ext (.laid hp)).ext (S2.ext (R1.laid hp))) e;rw[iR h2];exact .inl ⟨p,vs,i,v,rfl,rfl,.of e2,z1,k _ H2 d G2 z2 ((S1.trans (.laid hp)).trans S2) R2 q⟩
  |_=>exact q2.elim
end
end L3
namespace L3
open PySem PySem.Spec PyProof.Rows L2
mutual
def nE:D->Option Dat.D
 |.ak=>some .ak
 |.bl b=>some (.bl b)
 |.int i=>some (.int i)
 |.str x=>some (.str x)
 |.tup ds=>match eW ds with
  |some xs=>some (.tup xs)
  |none=>none
 |.fo ds=>match eW ds with
  |some xs=>some (.lst xs)
  |none=>none
 |.obj _=>none
 |.dc _=>none
def eW:List D->Option (List Dat.D)
 |[]=>some []
 |d::ds=>match nE d with
  |some x=>match eW ds with
   |some xs=>some (x::xs)
   |none=>none
  |none=>none
end
def sd(G:Gp):D->Option Dat.D
 |.obj a=>match G a with
  |some (.lst ds)=>match eW ds with
   |some xs=>some (.lst xs)
   |none=>none
  |_=>none
 |d=>nE d
section
variable {X:Cx} {pins:List (ε×aN)} {σ:L2.St} {H:Hp} {s:η}
mutual
theorem rl(I:Inv X pins σ H s):∀{d:D} {v:V} {u:δ} {x:Dat.D},Hv X.K H d v->RelV v u->nE d=some x->Dat.Hv s.heap x u
 |.ak,v,u,x,h,r,e=>by
  unfold Hv at h;subst h;cases e;unfold Dat.Hv;exact r
 |.bl b,v,u,x,h,r,e=>by
  unfold Hv at h;subst h;cases e;unfold Dat.Hv;exact r
 |.int b,v,u,x,h,r,e=>by
  unfold Hv at h;subst h;cases e;unfold Dat.Hv;exact r
 |.str b,v,u,x,h,r,e=>by
  unfold Hv at h;subst h;cases e;unfold Dat.Hv;exact r
 |.obj a,v,u,x,h,r,e=>by cases e
 |.dc a,v,u,x,h,r,e=>by cases e
 |.tup ds,v,u,x,h,r,e=>by
  obtain⟨a,vs,rfl,q1,q2⟩:=kd h;cases r;unfold nE at e;cases hd:eW ds with
  |none=>rw[hd] at e;cases e
  |some xs=>
   rw[hd] at e;cases e;obtain⟨its,rv,p,_⟩:=I.tuple q1;unfold Dat.Hv;exact⟨a,its,rfl,p,yw I q2 rv hd⟩
 |.fo ds,v,u,x,h,r,e=>by
  obtain⟨a,vs,rfl,q1,q2⟩:=rp h;cases r;unfold nE at e;cases hd:eW ds with
  |none=>rw[hd] at e;cases e
  |some xs=>
   rw[hd] at e;cases e;obtain⟨its,rv,p,_⟩:=I.list q1.l;unfold Dat.Hv;exact⟨a,its,rfl,p.isList,yw I q2 rv hd⟩
theorem yw(I:Inv X pins σ H s):∀{ds:List D} {vs:List V} {us:List δ} {xs:List Dat.D},aO X.K H ds vs->bh vs us->eW ds=some xs->Dat.aO s.heap xs us
 |[],vs,us,xs,h,r,e=>by
  cases h.iN;cases r;cases e;unfold Dat.aO;rfl
 |d::ds,vs,us,xs,h,r,e=>by
  obtain⟨v,vr,rfl,q1,q2⟩:=h.inv;unfold eW at e;cases hd:nE d with
  |none=>rw[hd] at e;cases e
  |some x=>
   rw[hd] at e;cases hr:eW ds with
   |none=>rw[hr] at e;cases e
   |some xr=>
    rw[hr] at e;cases e;cases r with
    |cons r1 r2=>
     unfold Dat.aO;exact⟨_,_,rfl,rl I q1 r1 hd,yw I q2 r2 hr⟩
end
theorem yv{G:Gp}(I:Inv X pins σ H s)(RG:bo X.K G H){d:D}{v:V}{u:δ}{x:Dat.D}(h:Hv X.K H d v)(r:RelV v u)(e:sd G d=some x):Dat.Hv s.heap x u:=by
 cases d with
 |obj a=>
  rw[i4 h] at r;cases r;unfold sd at e;cases hG:G a with
  |none=>simp[hG] at e
  |some o=>
   cases o with
   |lst ds=>
    simp only[hG] at e;cases hr:eW ds with
    |none=>rw[hr] at e;cases e
    |some xs=>
     rw[hr] at e;cases e;obtain⟨vs,e1,e2⟩:=RG a _ hG;obtain⟨its,rv,p,_⟩:=I.list (eA.of e1);unfold Dat.Hv;exact⟨a,its,rfl,p.isList,yw I e2 rv hr⟩
   |kl=>simp[hG] at e
   |iF=>simp[hG] at e
   |gen R=>simp[hG] at e
 |ak=>exact rl I h r e
 |bl _=>exact rl I h r e
 |int _=>exact rl I h r e
 |str _=>exact rl I h r e
 |tup _=>exact rl I h r e
 |fo _=>exact rl I h r e
 |dc _=>exact rl I h r e
end
section
variable {X:Cx} {a b e:π} {ta tb:aK} {pos:aL}
def dm(neg:Bool):R3:=fun x y G Q=>∃u v,sd G x=some u/\sd G y=some v/\u.i7≤50/\Q (.bl (if neg then !u.dS v else u.dS v)) G
def Af(X:Cx)(f:δ->δ->Sem δ)(r:R3):Prop:=
 ∀(pins:List (ε×aN)) (s:η) (σ:L2.St) (H:Hp) (G:Gp) (x y:D) (vx vy:V) (u v:δ) (Q3:V3),Inv X pins σ H s->bo X.K G H->Hv X.K H x vx->Hv X.K H y vy->RelV vx u->RelV vy v->r x y G Q3 ->
  ρ (model X.prog X.w) X.A (f u v) (EP X pins σ fun w H'=>∃d G',Hv X.K H' d w/\Step H G H' G'/\bo X.K G' H'/\Q3 d G') X.xe s
theorem Yb(hu:X.A.units+64<cLine):Af X (compareOp .Eq) (dm false):=by
 intro pins s σ H G x y vx vy u v Q3 I RG hx hy rx ry ⟨p,q,e1,e2,hd,h⟩;have:=Dat.LB p q u v X.A (yv I RG hx rx e1) (yv I RG hy ry e2) (by lia);exact this _ _ _ _ ⟨.bl (p.dS q),H,I,rfl,.bl (p.dS q),G,nK,.refl H G,RG,h⟩
theorem XD(hu:X.A.units+64<cLine):Af X (compareOp .NotEq) (dm true):=by
 intro pins s σ H G x y vx vy u v Q3 I RG hx hy rx ry ⟨p,q,e1,e2,hd,h⟩;have:=Dat.LA p q u v X.A (yv I RG hx rx e1) (yv I RG hy ry e2) (by lia);exact this _ _ _ _ ⟨.bl (!p.dS q),H,I,rfl,.bl (!p.dS q),G,nK,.refl H G,RG,h⟩
def si(K:ζ)(r:R3):R2:=fun vx vy H Q=>∃x y G Q3,bo K G H/\Hv K H x vx/\Hv K H y vy/\r x y G Q3/\∀v H' d G',Hv K H' d v->Step H G H' G'->bo K G' H'->Q3 d G'->Q v H'
theorem Af.op{f:δ->δ->Sem δ}{r:R3}(h:Af X f r):eB X f (si X.K r):=by
 intro pins s σ H vx vy u v Q I rx ry ⟨x,y,G,Q3,RG,hx,hy,q,k⟩;refine bL (h pins s σ H G x y vx vy u v Q3 I RG hx hy rx ry q) fun w s' ⟨v',H',I',r',d,G',z1,z2,z3,z4⟩=>⟨v',H',I',r',k v' H' d G' z1 z2 z3 z4⟩
theorem Ig{K:ζ}{r:R3}:eG K r (si K r):=fun x y vx vy G H Q3 Q hx hy RG h k=>⟨x,y,G,Q3,RG,hx,hy,h,k⟩
theorem oZ(hu:X.A.units+64<cLine):eB X (compareOp .Eq) (si X.K (dm false)):=(Yb hu).op
theorem mh(hu:X.A.units+64<cLine):eB X (compareOp .NotEq) (si X.K (dm true)):=(XD hu).op
theorem o7{K:ζ}:eG K (dm false) (si K (dm false)):=Ig
theorem i5{K:ζ}:eG K (dm true) (si K (dm true)):=Ig
abbrev vf:=S3->Gp->(Option Int->Gp->Prop)->Prop
def W8(K:ζ)(t:vf):TO:=fun σ H Q=>∃τ G Q3,eL K τ σ H/\bo K G H/\t τ G Q3/\∀o H' G',Step H G H' G'->bo K G' H'->Q3 o G'->Q o H'
abbrev AH(X:Cx)(e:Option π)(t:vf):Prop:=PO X e (W8 X.K t)
theorem Ie{o:Option π}{t t':TO}(h:PO X o t)(f:∀σ H Q,t' σ H Q->t σ H Q):PO X o t':=fun pins s σ H Q I q=>h pins s σ H Q I (f σ H Q q)
def oE:vf:=fun _ G Q=>Q none G
def lP(t:aK):vf:=fun τ G Q=>t τ G fun x G1=>match x with
 |.int i=>Q (some i) G1
 |_=>False
theorem RC:AH X none oE:=Ie Sz fun σ H Q ⟨τ,G,Q3,RS,RG,h,k⟩=>k none H G (.refl H G) RG h
theorem RB(h:bV X e ta):AH X (some e) (lP ta):=Ie (Sy h) fun σ H Q ⟨τ,G,Q3,RS,RG,h,k⟩=>
 ⟨τ,G,_,RS,RG,h,fun v H1 d G1 h1 S1 R1 q1=>by
  cases d with
  |int i=>exact⟨i,iR h1,k (some i) H1 G1 S1 R1 q1⟩
  |_=>exact q1.elim⟩
def kF(ds:List D)(lo hi:Option Int):List D:=(ds.drop (HT.cb ds.length 0 lo)).take (HT.cb ds.length ds.length hi-HT.cb ds.length 0 lo)
def t5(ta:aK)(tl th:vf):aK:=fun τ G Q=>ta τ G fun x G1=>tl τ G1 fun lo G2=>th τ G2 fun hi G3=>match x with
 |.tup ds=>Q (.tup (kF ds lo hi)) G3
 |.fo ds=>∀p G4,dg G3 p (.lst (kF ds lo hi)) G4->Q (.obj p) G4
 |.obj a=>∃ds,G3 a=some (.lst ds)/\∀p G4,dg G3 p (.lst (kF ds lo hi)) G4->Q (.obj p) G4
 |_=>False
theorem Co{K:ζ}{H:Hp}{ds:List D}{vs:List V}(h:aO K H ds vs)(lo hi:Option Int):aO K H (kF ds lo hi) (rK vs lo hi):=by
 unfold kF rK;rw[h.length];exact (h.drop _).take _
theorem RA{prog:aG}{w:aQ}{A:bT}{E:δ->η->Prop}{s:η}{t sl:ε}{items:Array δ}{vl vu:δ}{lo hi:Option Int}{Q:δ->η->Prop}(ht:nz s.heap t items)(hs:s.heap.IsSliceOf sl vl vu .none)(pl:kX vl lo)(pu:kX vu hi)
  (hw:HT.cb items.size 0 lo=0/\HT.cb items.size items.size hi=items.size) (h:Q (.ref t) s):ρ (model prog w) A (getItem (.ref t) (.ref sl)) Q E s:=by
 obtain⟨os,hos,hcs,hds⟩:=id hs;have hTs:s.TypeIs (.ref sl) "slice":=⟨os,hos,hcs⟩;unfold getItem
 try with_reducible refine cp ?_
 first|refine γ (ι ?_)|skip
 refine γ (wpAny_sequenceKey ht.typeIs (by decide) ?_);refine γ (bZ (name:=eO "__getitem__") ht.typeIs cA
  (bW cA ht.typeIs entry_tuple_getitem ?_ (args_tuple_getitem _ _)))
 show ρ _ _ (mR (.ref t) >>= _) _ _ s;refine γ (tupleItemsOf_ ht ?_);refine γ (jd hTs ?_);rw[if_pos (by decide)];refine γ (HT.nF hs pl pu ?_);have hyes:(((HT.cb items.size 0 lo:Nat):Int)==0&&(1:Int)==1&&(HT.cb items.size items.size hi-HT.cb items.size 0 lo)==items.size)=true:=by
  rw[hw.1,hw.2];simp
 show ρ _ _ (if (((HT.cb items.size 0 lo:Nat):Int)==0&&(1:Int)==1&&(HT.cb items.size items.size hi-HT.cb items.size 0 lo)==items.size)=true then _ else _) _ _ s;rw[if_pos hyes];unfold dP.Tuple.tupleIsExact;refine γ (γ (jd ht.typeIs (ι ?_)));rw[if_pos (by decide)];exact γ (kJ (ι ⟨_,rfl,ι h⟩))
def Kk(K:ζ):V->Option Int->Option Int->Hp->VK->Prop:=fun x lo hi H Q=>∃a xs,x=.ref a/\cF K H a xs ∧
 (HT.cb xs.length 0 lo=0/\HT.cb xs.length xs.length hi=xs.length)/\Q (.ref a) H
theorem DW:vh X (Kk X.K):=by
 intro pins s σ H x v vl vu lo hi sl Q I rx hs pl pu h;obtain⟨a,xs,rfl,hx,hw,q⟩:=h;cases rx;obtain⟨its,r,ht,hz⟩:=I.tuple hx;have hlen:its.toArray.size=xs.length:=by rw[υ];exact r.length.symm
 refine⟨"tuple",_,cA.lookup,ht.typeIs,?_⟩;exact RA ht hs pl pu (by rw[hlen];exact hw) ⟨.ref a,H,I,rfl,q⟩
theorem Xi{lo hi:Option π}{tl th:vf}{p2:aL}(ha:bV X a ta)(hl:AH X lo tl)(hh:AH X hi th):bV X (.Subscript a (.Slice lo hi none p2) pos) (t5 ta tl th):=
 jM (Sx (Ei.or (DW.or Te)) ha hl hh) fun σ H Q ⟨τ,G,Q3,RS,RG,h,k⟩=>by
  refine⟨τ,G,_,RS,RG,h,fun v1 H1 d1 G1 h1 S1 R1 q1=>?_⟩;have RS1:=RS.ext (S1.ext RG);refine⟨τ,G1,_,RS1,R1,q1,fun l H2 G2 S2 R2 q2=>?_⟩;have RS2:=RS1.ext (S2.ext R1);refine⟨τ,G2,_,RS2,R2,q2,fun u H3 G3 S3 R3 q3=>?_⟩;have S13:Step H G H3 G3:=(S1.trans S2).trans S3;have hv:=(h1.ext (S2.ext R1)).ext (S3.ext R2);cases d1 with
  |tup ds=>
   obtain⟨a',vs,rfl,e1,e2⟩:=kd hv;by_cases hw:HT.cb vs.length 0 l=0/\HT.cb vs.length vs.length u=vs.length
   ·refine .inr (.inl ⟨a',vs,rfl,e1,hw,k _ H3 (.tup (kF ds l u)) G3 (qi e1 ?_) S13 R3 q3⟩);have:kF ds l u=ds:=by
     unfold kF;rw[e2.length,hw.1,hw.2];simp[←e2.length]
    rw[this];exact e2
   ·refine .inl ⟨a',vs,rfl,e1,hw,fun p hp=>?_⟩;exact k _ _ (.tup (kF ds l u)) G3 (qi (.of g8) ((Co e2 l u).ext (.laid hp))) (S13.trans (.laid hp)) (R3.laid hp) q3
  |fo ds=>
   obtain⟨a',vs,rfl,e1,e2⟩:=rp hv;refine .inr (.inr ⟨a',vs,rfl,e1.l,fun p hp=>?_⟩);exact k _ _ (.obj p) _ qj (S13.trans (.ix hp)) (R3.tJ hp (Co e2 l u)) (q3 p _ (.mk' (R3.free hp)))
  |obj a'=>
   rw[i4 hv];obtain⟨ds,e0,q3⟩:=q3;obtain⟨vs,e1,e2⟩:=R3 a' _ e0;refine .inr (.inr ⟨a',vs,rfl,.of e1,fun p hp=>?_⟩);exact k _ _ (.obj p) _ qj (S13.trans (.ix hp)) (R3.tJ hp (Co e2 l u)) (q3 p _ (.mk' (R3.free hp)))
  |_=>exact q3.elim
end
end L3
namespace L3
open PySem PySem.Spec PyProof.Rows L2
abbrev C3:=List D->Gp->V3->Prop
def dA(r:C3)(t:dj):aK:=fun τ G Q=>t τ G fun ds G1=>r ds G1 Q
def qz(K:ζ)(r:C3)(r2:List V->Hp->VK->Prop):Prop:=∀ds vs G H Q3 Q,aO K H ds vs->bo K G H->r ds G Q3->(∀v H' d G',Hv K H' d v->Step H G H' G'->bo K G' H'->Q3 d G'->Q v H')->r2 vs H Q
section
variable {X:Cx} {K:ζ} {e:π} {es:List π} {t:dj} {ta:aK} {pos p:aL}
theorem Rz{r:C3}{r2:List V->Hp->VK->Prop}(L:qz K r r2){σ:L2.St}{H:Hp}{Q:VK}(h:low K (dA r t) σ H Q):C0 r2 (tN K t) σ H Q:=by
 obtain⟨τ,G,Q3,RS,RG,h,k⟩:=h;refine⟨τ,G,_,RS,RG,h,fun vs H1 ds G1 h1 S1 R1 q1=>?_⟩;exact L _ _ _ _ _ _ h1 R1 q1 fun v H' d G' z1 z2 z3 z4=>k v H' d G' z1 (S1.trans z2) z3 z4
theorem rH{r:C3}{r2:List V->Hp->VK->Prop}(L:qz X.K r r2)(h:PE X e (C0 r2 (tN X.K t))):bV X e (dA r t):=jM h fun _ _ _ h=>Rz L h
theorem qm{H:Hp}{d:D}{vs:List V}(h:aO K H [d] vs):∃v,vs=[v]/\Hv K H d v:=by
 obtain⟨v,r,rfl,z1,z2⟩:=h.inv;cases z2.iN;exact⟨v,rfl,z1⟩
theorem Xd{H:Hp}{d d':D}{vs:List V}(h:aO K H [d,d'] vs):∃v v',vs=[v,v']/\Hv K H d v/\Hv K H d' v':=by
 obtain⟨v,r,rfl,z1,z2⟩:=h.inv;obtain⟨v',rfl,z3⟩:=qm z2;exact⟨v,v',rfl,z1,z3⟩
def kE:C3:=fun ds G Q=>match ds with
 |[.obj a]=>∃xs,G a=some (.lst xs)/\Q (.int xs.length) G
 |[.tup xs]=>Q (.int xs.length) G
 |[.fo xs]=>Q (.int xs.length) G
 |_=>False
theorem Ry:qz K kE (fun xs H Q=>∃p ys,xs=[.ref p]/\(eA K H p ys∨cF K H p ys)/\Q (.int ys.length) H):=fun ds vs G H Q3 Q h RG q k=>by
 rcases ds with _|⟨d,_|⟨d2,ds⟩⟩
 ·exact q.elim
 ·obtain⟨v,rfl,hv⟩:=qm h;cases d with
  |obj a=>
   obtain⟨xs,e,q⟩:=q;obtain⟨us,e1,e2⟩:=RG a _ e;rw[i4 hv];exact⟨a,us,rfl,.inl (.of e1),by rw[←e2.length];exact k _ H _ G mT (.refl H G) RG q⟩
  |tup xs=>
   obtain⟨a,us,rfl,e1,e2⟩:=kd hv;exact⟨a,us,rfl,.inr e1,by rw[←e2.length];exact k _ H _ G mT (.refl H G) RG q⟩
  |fo xs=>
   obtain⟨a,us,rfl,e1,e2⟩:=rp hv;exact⟨a,us,rfl,.inl e1.l,by rw[←e2.length];exact k _ H _ G mT (.refl H G) RG q⟩
  |_=>exact q.elim
 ·cases d<;>exact q.elim
theorem Rx(hu:X.A.units+64<cLine)(hm:X.mg "len" = none)(ha:jR X (e::es) t)(hg:Gl X "len":=by rfl)(he:notStar e=true:=by rfl)(hpl:es.all notStar=true:=by rfl):
  bV X (.Call (.Name "len" p) (e::es) [] pos) (dA kE t):=rH Ry (rq Td hg hm PySem.boot_len ha (he:=fq he) (hpl:=kD hpl))
def yu:C3:=fun ds G Q=>match ds with
 |[.bl b]=>Q (.int (if b then 1 else 0)) G
 |[.int i]=>Q (.int i) G
 |_=>False
theorem Rw:qz K yu (fun xs H Q=>(∃i,xs=[.int i]/\Q (.int i) H)∨∃k,xs=[.bl k]/\Q (.int (if k then 1 else 0)) H):=fun ds vs G H Q3 Q h RG q k=>by
 rcases ds with _|⟨d,_|⟨d2,ds⟩⟩
 ·exact q.elim
 ·obtain⟨v,rfl,hv⟩:=qm h;cases d with
  |bl b=>
   rw[wy hv];exact .inr ⟨b,rfl,k _ H _ G mT (.refl H G) RG q⟩
  |int b=>
   rw[iR hv];exact .inl ⟨b,rfl,k _ H _ G mT (.refl H G) RG q⟩
  |_=>exact q.elim
 ·cases d<;>exact q.elim
theorem Rv(hu:X.A.units+64<cLine)(hm:X.mg "int" = none)(ha:jR X (e::es) t)(hg:Gl X "int":=by rfl)(he:notStar e=true:=by rfl)(hpl:es.all notStar=true:=by rfl):
  bV X (.Call (.Name "int" p) (e::es) [] pos) (dA yu t):=rH Rw (Cf SW hg hm rfl ha (he:=fq he) (hpl:=kD hpl))
def uI:C3:=fun ds G Q=>match ds with
 |[.int i,.int j]=>Q (.int (if j > i then j else i)) G
 |_=>False
def yt:C3:=fun ds G Q=>match ds with
 |[.int i,.int j]=>Q (.int (if j<i then j else i)) G
 |_=>False
theorem Ic{f:Int->Int->Int}:qz K (fun ds G Q=>match ds with
 |[.int i,.int j]=>Q (.int (f i j)) G
 | _=>False) (fun xs H Q=>∃i j,xs=[.int i,.int j]/\Q (.int (f i j)) H):=fun ds vs G H Q3 Q h RG q k=>by
 rcases ds with _|⟨d,_|⟨d2,_|⟨d3,ds⟩⟩⟩
 ·exact q.elim
 ·cases d<;>exact q.elim
 ·obtain⟨v,v',rfl,h1,h2⟩:=Xd h;cases d with
  |int i=>
   cases d2 with
   |int j=>
    rw[iR h1,iR h2];exact⟨i,j,rfl,k _ H _ G mT (.refl H G) RG q⟩
   |_=>exact q.elim
  |_=>exact q.elim
 ·cases d with
  |int i=>cases d2<;>exact q.elim
  |_=>exact q.elim
theorem Ru(hu:X.A.units+64<cLine)(hm:X.mg "max" = none)(ha:jR X (e::es) t)(hc:X.calm=true:=by rfl)(hg:Gl X "max":=by rfl)(he:notStar e=true:=by rfl)(hpl:es.all notStar=true:=by rfl):
  bV X (.Call (.Name "max" p) (e::es) [] pos) (dA uI t):=rH (Ic (f:=fun i j=>if j > i then j else i)) (rq (TV hc) hg hm rfl ha (he:=fq he) (hpl:=kD hpl))
theorem QL(hu:X.A.units+64<cLine)(hm:X.mg "min" = none)(ha:jR X (e::es) t)(hc:X.calm=true:=by rfl)(hg:Gl X "min":=by rfl)(he:notStar e=true:=by rfl)(hpl:es.all notStar=true:=by rfl):
  bV X (.Call (.Name "min" p) (e::es) [] pos) (dA yt t):=rH (Ic (f:=fun i j=>if j<i then j else i)) (rq (SX hc) hg hm rfl ha (he:=fq he) (hpl:=kD hpl))
def yr:C3:=fun ds G Q=>match ds with
 |[.obj a]=>∃xs,G a=some (.lst xs)/\Q (.tup xs) G
 |[.tup xs]=>Q (.tup xs) G
 |[.fo xs]=>Q (.tup xs) G
 |_=>False
theorem QK:qz K yr (fun xs H Q=>∃p ys,xs=[.ref p]/\((eA K H p ys/\∀l,H l=none->Q (.ref l) (upd H l (.tup ys)))∨(cF K H p ys/\Q (.ref p) H))):=fun ds vs G H Q3 Q h RG q k=>by
 rcases ds with _|⟨d,_|⟨d2,ds⟩⟩
 ·exact q.elim
 ·obtain⟨v,rfl,hv⟩:=qm h;cases d with
  |obj a=>
   obtain⟨xs,e,q⟩:=q;obtain⟨us,e1,e2⟩:=RG a _ e;rw[i4 hv];exact⟨a,us,rfl,.inl ⟨.of e1,fun l hl=>k _ _ (.tup xs) G (qi (.of g8) (e2.ext (.laid hl))) (.laid hl) (RG.laid hl) q⟩⟩
  |tup xs=>
   obtain⟨a,us,rfl,e1,e2⟩:=kd hv;exact⟨a,us,rfl,.inr ⟨e1,k _ H _ G (qi e1 e2) (.refl H G) RG q⟩⟩
  |fo xs=>
   obtain⟨a,us,rfl,e1,e2⟩:=rp hv;exact⟨a,us,rfl,.inl ⟨e1.l,fun l hl=>k _ _ (.tup xs) G (qi (.of g8) (e2.ext (.laid hl))) (.laid hl) (RG.laid hl) q⟩⟩
  |_=>exact q.elim
 ·cases d<;>exact q.elim
theorem QJ(hu:X.A.units+64<cLine)(hm:X.mg "tuple" = none)(ha:jR X (e::es) t)(hg:Gl X "tuple":=by rfl)(he:notStar e=true:=by rfl)(hpl:es.all notStar=true:=by rfl):
  bV X (.Call (.Name "tuple" p) (e::es) [] pos) (dA yr t):=rH QK (Cf Tc hg hm rfl ha (he:=fq he) (hpl:=kD hpl))
def eM(r:D->List D->Gp->V3->Prop)(to:aK)(t:dj):aK:=fun τ G Q=>to τ G fun x G1=>(∃a xs,x=.obj a/\G1 a=some (.lst xs))/\t τ G1 fun ds G2=>r x ds G2 Q
def xh(K:ζ)(r:D->List D->Gp->V3->Prop)(r2:V->List V->Hp->VK->Prop):Prop:=∀x vx ds vs G H Q3 Q,Hv K H x vx->aO K H ds vs->bo K G H->r x ds G Q3->(∀v H' d G',Hv K H' d v->Step H G H' G'->bo K G' H'->Q3 d G'->Q v H')->r2 vx vs H Q
theorem QH{r:D->List D->Gp->V3->Prop}{r2:V->List V->Hp->VK->Prop}{to:aK}(L:xh K r r2){σ:L2.St}{H:Hp}{Q:VK}(h:low K (eM r to t) σ H Q):Eh K "list" r2 (low K to) (tN K t) σ H Q:=by
 obtain⟨τ,G,Q3,RS,RG,h,k⟩:=h;refine⟨τ,G,_,RS,RG,h,fun v1 H1 d1 G1 h1 S1 R1 q1=>?_⟩;obtain⟨⟨a,xs,rfl,e1⟩,q1⟩:=q1;obtain⟨us,e2,e3⟩:=R1 a _ e1;refine⟨?_,τ,G1,_,RS.ext (S1.ext RG),R1,q1,fun vs H2 ds G2 h2 S2 R2 q2=>?_⟩
 ·rw[i4 h1];exact .inl ⟨rfl,us,.of e2⟩
 ·exact L _ _ _ _ _ _ _ _ (h1.ext (S2.ext R1)) h2 R2 q2 fun v H' d G' z1 z2 z3 z4=>k v H' d G' z1 ((S1.trans S2).trans z2) z3 z4
def Ib:D->List D->Gp->V3->Prop:=fun x ds G Q=>match x,ds with
 |.obj a,[d]=>∃xs,G a=some (.lst xs)/\xs.length<aj/\Q .ak (da G a (.lst (xs++[d])))
 |_,_=>False
theorem QF:xh K Ib xo:=fun x vx ds vs G H Q3 Q hx hs RG q k=>by
 rcases ds with _|⟨d,_|⟨d2,ds⟩⟩
 ·cases x<;>exact q.elim
 ·cases x with
  |obj a=>
   obtain⟨xs,e1,hz,q⟩:=q;obtain⟨us,e2,e3⟩:=RG a _ e1;obtain⟨v,rfl,hv⟩:=qm hs;rw[i4 hx];refine⟨a,us,v,rfl,rfl,e2,by rw[←e3.length];exact hz,?_⟩;exact k _ _ .ak _ (by simp[Hv]) (.wrote e1) (RG.Aj e2 (e3.append (.cons hv .nil))) q
  |_=>exact q.elim
 ·cases x<;>exact q.elim
theorem QD{r:D->List D->Gp->V3->Prop}{r2:V->List V->Hp->VK->Prop}{to:aK}(L:xh X.K r r2)(h:PE X e (Eh X.K "list" r2 (low X.K to) (tN X.K t))):bV X e (eM r to t):=jM h fun _ _ _ z=>QH L z
def Cn:D->List D->Gp->V3->Prop:=fun x ds G Q=>match x,ds with
 |.obj a,[.int i]=>∃xs k d,G a=some (.lst xs)/\(-(2^63)≤i/\i<2^63)/\seqIndex? i xs.length=some k/\xs[k]?=some d/\Q d (da G a (.lst (xs.eraseIdx k)))
 |_,_=>False
theorem Ia:xh K Cn Au:=fun x vx ds vs G H Q3 Q hx hs RG q k=>by
 rcases ds with _|⟨d,_|⟨d2,ds⟩⟩
 ·cases x<;>exact q.elim
 ·cases x with
  |obj a=>
   cases d with
   |int i=>
    obtain⟨xs,j,y,e1,hb,hk,hy,q⟩:=q;obtain⟨us,e2,e3⟩:=RG a _ e1;obtain⟨v,rfl,hv⟩:=qm hs;obtain⟨w,e4,e5⟩:=e3.get hy;rw[i4 hx,iR hv];refine⟨a,us,i,j,w,rfl,rfl,e2,hb.1,hb.2,by rw[←e3.length];exact hk,e4,?_⟩;exact k _ _ y _ (e5.ext (.wrote e2)) (.wrote e1) (RG.Aj e2 (e3.erase j)) q
   |_=>exact q.elim
  |_=>exact q.elim
 ·cases x with
  |obj a=>cases d<;>exact q.elim
  |_=>exact q.elim
def oF(T:String)(G:Gp):D->Option Bool
 |.ak=>some false
 |.bl _=>some (T=="bool" || T=="int")
 |.int _=>some (T=="int")
 |.str _=>some (T=="str")
 |.tup _=>some (T=="tuple")
 |.fo _=>some (T=="list")
 |.dc _=>some (T=="dict")
 |.obj a=>match G a with
  |some (.lst _)=>some (T=="list")
  |some .kl=>some (T=="list")
  |some .iF=>some (T=="dict")
  |some (.gen _)=>none
  |none=>none
def vC(T:String)(ta:aK):aK:=fun τ G Q=>ta τ G fun x G1=>match oF T G1 x with
 |some b=>Q (.bl b) G1
 |none=>False
end
end L3
namespace J6
open PySem PySem.W PyProof.Rows
structure Ord(n:Nat)(lt:Nat->Nat->Bool):Prop where
 xx:∀a b,a<n->b<n->lt a b=true->lt b a=false
 sF:∀a b c,a<n->b<n->c<n->lt b a=false->lt c b=false->lt c a=false
abbrev g(p:Array Nat)(i:Nat):Nat:=p.getD i 0
structure Va(n:Nat)(p:Array Nat):Prop where
 perm:p.toList.Perm (Δ n)
section
variable {n:Nat} {lt:Nat->Nat->Bool} {cmp:Nat->Nat->(Bool->η->Prop)->η->Prop} {s:η}
theorem Va.size{p:Array Nat}(v:Va n p):p.size=n:=by
 have:=v.perm.length_eq;simpa using this
theorem Va.get{p:Array Nat}(v:Va n p){i:Nat}(hi:i<n):p[i]?=some (g p i):=by
 have h:=v.size;simp[g,lg,h,hi]
theorem Va.inr{p:Array Nat}(v:Va n p){i:Nat}(hi:i<n):g p i<n:=by
 have h:=v.get hi;have hm:g p i∈p.toList:=bN (by rw[aR];exact h);have:=v.perm.mem_iff.mp hm;simpa using this
theorem Ord.refl(O:Ord n lt){a:Nat}(ha:a<n):lt a a=false:=by
 cases h:lt a a with
 |false=>rfl
 |true=>
  have:=O.xx a a ha ha h;rw[h] at this;exact this
def So(lt:Nat->Nat->Bool)(p:Array Nat)(k:Nat):Prop:=∀i j,i≤j->j<k->lt (g p j) (g p i)=false
def Ni(lt:Nat->Nat->Bool)(p:Array Nat)(k:Nat):Prop:=∀i j,i≤j->j<k->lt (g p i) (g p j)=false
def AM(lt:Nat->Nat->Bool)(p:Array Nat)(lo hi:Nat):Prop:=∀i j,lo≤i->i<hi->lo≤j->j<hi->lt (g p i) (g p j)=false
theorem So.one(O:Ord n lt){p:Array Nat}(v:Va n p)(hn:1≤n):So lt p 1:=fun i j h1 h2=>by
 have e1:i=0:=by lia
 have e2:j=0:=by lia
 rw[e1,e2];exact O.refl (v.inr (by lia))
theorem So.next(O:Ord n lt){p:Array Nat}(v:Va n p){a:Nat}(h1:1≤a)(ha:a<n)(S:So lt p a)(h:lt (g p a) (g p (a-1))=false):So lt p (a+1):=fun i j hij hj=>by
 by_cases hja:j<a
 ·exact S i j hij hja
 ·have e:j=a:=by lia
  subst e;by_cases hij':i=j
  ·rw[hij'];exact O.refl (v.inr ha)
  ·exact O.sF (g p i) (g p (j-1)) (g p j) (v.inr (by lia)) (v.inr (by lia)) (v.inr ha) (S i (j-1) (by lia) (by lia)) h
theorem Ni.next(O:Ord n lt){p:Array Nat}(v:Va n p){a:Nat}(h1:1≤a)(ha:a<n)(S:Ni lt p a)(h:lt (g p (a-1)) (g p a)=false):Ni lt p (a+1):=fun i j hij hj=>by
 by_cases hja:j<a
 ·exact S i j hij hja
 ·have e:j=a:=by lia
  subst e;by_cases hij':i=j
  ·rw[hij'];exact O.refl (v.inr ha)
  ·exact O.sF (g p j) (g p (j-1)) (g p i) (v.inr ha) (v.inr (by lia)) (v.inr (by lia)) h (S i (j-1) (by lia) (by lia))
theorem tF{p:Array Nat}(v:Va n p)(i j:Nat):Va n (kas_rev p i j):=⟨(mirror_perm p i j _).toList.trans v.perm⟩
theorem yq{p:Array Nat}(v:Va n p){lo hi k:Nat}(hh:hi≤n)(hk:k<n):g (kas_rev p lo hi) k=if lo≤k/\k<hi then g p (lo+hi-1-k) else g p k:=by
 have h1:=getElem?_mirror_all (xs:=p) (i:=lo) (j:=hi) (by rw[v.size];exact hh) k;have h2:=(tF v lo hi).get hk;have h3:(kas_rev p lo hi)[k]?=_:=h1;rw[h2] at h3;by_cases hc:lo≤k/\k<hi
 ·rw[if_pos hc] at h3 ⊢;rw[v.get (by lia)] at h3;exact aJ h3
 ·rw[if_neg hc] at h3 ⊢;rw[v.get hk] at h3;exact aJ h3
theorem Cm{p:Array Nat}(v:Va n p){lo hi k:Nat}(hh:hi≤k)(hk:k≤n)(S:Ni lt p k)(e:AM lt p lo hi):Ni lt (kas_rev p lo hi) k:=fun i j hij hj=>by
 rw[yq v (by lia) (show i<n by lia),yq v (by lia) (show j<n by lia)];by_cases hi':lo≤i/\i<hi
 ·rw[if_pos hi'];by_cases hj':lo≤j/\j<hi
  ·rw[if_pos hj'];exact e _ _ (by lia) (by lia) (by lia) (by lia)
  ·rw[if_neg hj'];exact S _ _ (by lia) hj
 ·rw[if_neg hi'];by_cases hj':lo≤j/\j<hi
  ·rw[if_pos hj'];exact S _ _ (by lia) (by lia)
  ·rw[if_neg hj'];exact S _ _ hij hj
theorem QB{p:Array Nat}(v:Va n p){k:Nat}(hk:k≤n)(S:Ni lt p k):So lt (kas_rev p 0 k) k:=fun i j hij hj=>by
 rw[yq v hk (show i<n by lia),yq v hk (show j<n by lia),if_pos (by lia),if_pos (by lia)];exact S _ _ (by lia) (by lia)
variable (O:Ord n lt) (hc:∀i j,i<n->j<n->∀(C:Bool->η->Prop) (s:η),C (lt i j) s->cmp i j C s)
include O hc
theorem Ck{p:Array Nat}(v:Va n p){G:Nat->η->Prop}:∀(f a:Nat),1≤a->a+f≤n->So lt p a->(∀m,a≤m->m≤a+f->So lt p m->(m=a+f∨lt (g p m) (g p (m-1))=true)->G m s)->(kas_asc p f a).kasWp cmp G s
 |0,a,_,_,S,h=>h a (Γ _) (by lia) S (.inl (by lia))
 |f+1,a,h1,h2,S,h=>by
  show cmp _ _ _ s;refine hc _ _ (v.inr (by lia)) (v.inr (by lia)) _ s ?_;cases hb:lt (g p a) (g p (a-1)) with
  |true=>
   ((try dsimp only);rw[if_pos rfl])
   exact h a (Γ _) (by lia) S (.inr hb)
  |false=>
   ((try dsimp only);rw[if_neg ao])
   exact Ck v f (a+1) (by lia) (by lia) (S.next O v h1 (by lia) hb) fun m q1 q2 q3 q4=>h m (by lia) (by lia) q3 (by
    rcases q4 with q4|q4
    ·exact .inl (by lia)
    ·exact .inr q4)
theorem yp{G:Array Nat×Nat×Nat->η->Prop}:∀(f:Nat) (p:Array Nat) (a q:Nat),Va n p->q+1≤a->a+f≤n->Ni lt p a->AM lt p (a-(q+1)) a ->
  (∀p' m q',Va n p'->a≤m->m≤a+f->q'+1≤m->Ni lt p' m->AM lt p' (m-(q'+1)) m->G (p',m,q') s)->(kas_desc f p a q).kasWp cmp G s
 |0,p,a,q,v,h1,h2,S,e,h=>h p a q v (Γ _) (by lia) h1 S e
 |f+1,p,a,q,v,h1,h2,S,e,h=>by
  show cmp _ _ _ s;refine hc _ _ (v.inr (by lia)) (v.inr (by lia)) _ s ?_;have one:∀{p':Array Nat},Va n p'->AM lt p' (a+1-(0+1)) (a+1):=fun {p'} v' i j i1 i2 j1 j2=>by
   have e1:i=a:=by lia
   have e2:j=a:=by lia
   rw[e1,e2];exact O.refl (v'.inr (by lia))
  cases hb:lt (g p a) (g p (a-1)) with
  |true=>
   ((try dsimp only);rw[if_pos rfl])
   have S':=S.next O v (by lia) (by lia) (O.xx _ _ (v.inr (by lia)) (v.inr (by lia)) hb)
   by_cases hq:q > 0
   ·rw[if_pos hq];exact yp f _ (a+1) 0 (tF v _ _) (by lia) (by lia) (Cm v (by lia) (by lia) S' e) (one (tF v _ _)) fun p' m q' r1 r2 r3 r4 r5 r6=>h p' m q' r1 (by lia) (by lia) r4 r5 r6
   ·rw[if_neg hq];exact yp f _ (a+1) 0 v (by lia) (by lia) S' (one v) fun p' m q' r1 r2 r3 r4 r5 r6=>h p' m q' r1 (by lia) (by lia) r4 r5 r6
  |false=>
   ((try dsimp only);rw[if_neg ao])
   show cmp _ _ _ s;refine hc _ _ (v.inr (by lia)) (v.inr (by lia)) _ s ?_;cases hd:lt (g p (a-1)) (g p a) with
   |true=>
    ((try dsimp only);rw[if_pos rfl])
    exact h p a q v (Γ _) (by lia) h1 S e
   |false=>
    ((try dsimp only);rw[if_neg ao])
    refine yp f _ (a+1) (q+1) v (by lia) (by lia) (S.next O v (by lia) (by lia) hd) (fun i j i1 i2 j1 j2=>?_) fun p' m q' r1 r2 r3 r4 r5 r6=>h p' m q' r1 (by lia) (by lia) r4 r5 r6
    have L:∀k,k<n->g p k<n:=fun k hk=>v.inr hk;by_cases hi:i=a
    ·by_cases hj:j=a
     ·rw[hi,hj];exact O.refl (L _ (by lia))
     ·rw[hi];exact O.sF (g p j) (g p (a-1)) (g p a) (L _ (by lia)) (L _ (by lia)) (L _ (by lia)) (e (a-1) j (by lia) (by lia) (by lia) (by lia)) hb
    ·by_cases hj:j=a
     ·rw[hj];exact O.sF (g p a) (g p (a-1)) (g p i) (L _ (by lia)) (L _ (by lia)) (L _ (by lia)) hd (e i (a-1) (by lia) (by lia) (by lia) (by lia))
     ·exact e i j (by lia) (by lia) (by lia) (by lia)
theorem HZ{p:Array Nat}(v:Va n p){a:Nat}{G:Nat×Array Nat->η->Prop}(h1:1≤a)(h2:a≤n)(S:Ni lt p a)(h:∀m p',Va n p'->1≤m->m≤n->So lt p' m->G (m,p') s):(kas_tail3 a n p).kasWp cmp G s:=by
 unfold kas_tail3;rw[iV];exact Ck O hc (tF v 0 a) (n-a) a h1 (by lia) (QB v h2 S) fun m q1 q2 q3 _=>h m _ (tF v 0 a) (by lia) (by lia) q3
theorem HY{p:Array Nat}(v:Va n p){a:Nat}{G:Nat×Array Nat->η->Prop}(h1:1≤a)(h2:a+1≤n)(S:Ni lt p (a+1))(h:∀m p',Va n p'->1≤m->m≤n->So lt p' m->G (m,p') s):(kas_descPart a n p).kasWp cmp G s:=by
 unfold kas_descPart;rw[iV];refine yp O hc (n-(a+1)) p (a+1) 0 v (by lia) (by lia) S (fun i j i1 i2 j1 j2=>?_) fun p' m q' r1 r2 r3 r4 r5 r6=>?_
 ·have e1:i=a:=by lia
  have e2:j=a:=by lia
  rw[e1,e2];exact O.refl (v.inr (by lia))
 ·dsimp only;by_cases hq:q' > 0
  ·rw[if_pos hq];exact HZ O hc (tF r1 _ _) (by lia) (by lia) (Cm r1 (Γ _) (by lia) r5 r6) h
  ·rw[if_neg hq];exact HZ O hc r1 (by lia) (by lia) r5 h
theorem Qz{p:Array Nat}(v:Va n p){G:Nat×Array Nat->η->Prop}(hn:1≤n)(h:∀m p',Va n p'->1≤m->m≤n->So lt p' m->G (m,p') s):(kas_count n p).kasWp cmp G s:=by
 unfold kas_count;rw[iV];refine Ck O hc v (n-1) 1 (Γ _) (by lia) (So.one O v hn) fun a q1 q2 q3 q4=>?_;have L:∀k,k<n->g p k<n:=fun k hk=>v.inr hk;by_cases e1:(a==n)=true
 ·rw[if_pos e1];exact h a p v q1 (by lia) q3
 ·rw[if_neg e1];have hne:a≠n:=fun z=>e1 (by rw[z];exact beq_self_eq_true _);have hlt:lt (g p a) (g p (a-1))=true:=by
   rcases q4 with q4|q4
   ·lia
   ·exact q4
  have hle:=O.xx _ _ (L a (by lia)) (L (a-1) (by lia)) hlt;by_cases e2:a > 1
  ·rw[if_pos e2];show cmp _ _ _ s;refine hc _ _ (v.inr (by lia)) (v.inr (by lia)) _ s ?_;cases hb:lt (g p 0) (g p (a-1)) with
   |true=>
    ((try dsimp only);rw[if_pos rfl])
    exact h a p v q1 (by lia) q3
   |false=>
    ((try dsimp only);rw[if_neg ao])
    -- all of the run are alike
    have eqv:AM lt p 0 a:=fun i j i1 i2 j1 j2=>by
     have h1:lt (g p i) (g p 0)=false:=q3 0 i (by lia) i2;have h2:lt (g p (a-1)) (g p j)=false:=q3 j (a-1) (by lia) (by lia);have h3:lt (g p 0) (g p j)=false:=O.sF _ _ _ (L j (by lia)) (L (a-1) (by lia)) (L 0 (by lia)) h2 hb;have h4:lt (g p (a-1)) (g p i)=false:=q3 i (a-1) (by lia) (by lia);exact O.sF _ _ _ (L j (by lia)) (L 0 (by lia)) (L i (by lia)) h3 h1
    have ni:Ni lt p (a+1):=Ni.next O v (by lia) (by lia) (fun i j hij hj=>eqv i j (by lia) (by lia) (by lia) hj) hle
    exact HY O hc (tF v _ _) (by lia) (by lia) (Cm v (by lia) (by lia) ni eqv) h
  ·rw[if_neg e2];have ea:a=1:=by lia
   subst ea;refine HY O hc v (Γ _) (by lia) (Ni.next O v (by lia) (by lia) (fun i j hij hj=>?_) hle) h
   have e3:i=0:=by lia
   have e4:j=0:=by lia
   rw[e3,e4];exact O.refl (L 0 (by lia))
theorem Cj{p:Array Nat}(v:Va n p){k:Nat}(hk:k<n)(S:So lt p k){G:Nat->η->Prop}:∀(f l r:Nat),l≤r->r≤k->r-l≤f->(∀i,i<l->lt (g p k) (g p i)=false)->(∀i,r≤i->i<k->lt (g p k) (g p i)=true) ->
  (∀l,l≤k->(∀i,i<l->lt (g p k) (g p i)=false)->(∀i,l≤i->i<k->lt (g p k) (g p i)=true)->G l s)->(kas_place p k f l r).kasWp cmp G s
 |0,l,r,h1,h2,h3,h4,h5,h=>by
  have e:l=r:=by lia
  subst e;exact h l h2 h4 h5
 |f+1,l,r,h1,h2,h3,h4,h5,h=>by
  unfold kas_place;by_cases hlr:l≥r
  ·rw[if_pos hlr];have e:l=r:=by lia
   subst e;exact h l h2 h4 h5
  ·rw[if_neg hlr];show cmp _ _ _ s;refine hc _ _ (v.inr hk) (v.inr (by lia)) _ s ?_;have L:∀k,k<n->g p k<n:=fun k hk=>v.inr hk;cases hb:lt (g p k) (g p ((l+r) / 2)) with
   |true=>
    ((try dsimp only);rw[if_pos rfl])
    refine Cj v hk S f l ((l+r) / 2) (by lia) (by lia) (by lia) h4 (fun i i1 i2=>?_) h;by_cases hri:r≤i
    ·exact h5 i hri i2
    ·cases hx:lt (g p k) (g p i) with
     |true=>rfl
     |false=>
      have h6:lt (g p i) (g p ((l+r) / 2))=false:=S _ _ i1 i2;have:=O.sF _ _ _ (L ((l+r) / 2) (by lia)) (L i (by lia)) (L k hk) h6 hx;rw[hb] at this;exact this.symm
   |false=>
    ((try dsimp only);rw[if_neg ao])
    refine Cj v hk S f ((l+r) / 2+1) r (by lia) h2 (by lia) (fun i hi=>?_) h5 h;exact O.sF _ _ _ (L i (by lia)) (L ((l+r) / 2) (by lia)) (L k hk) (S i ((l+r) / 2) (by lia) (by lia)) hb
theorem HX{G:Array Nat->η->Prop}:∀(f:Nat) (p:Array Nat) (k:Nat),Va n p->k+f=n->So lt p k->(∀p',Va n p'->So lt p' n->G p' s)->(kas_bin f p k).kasWp cmp G s
 | 0,p,k,v,hk,S,h=>h p v (by
  have e:k=n:=by lia
  rw[←e];exact S)
 |f+1,p,k,v,hk,S,h=>by
  show ((kas_place p k k 0 k).bind fun l=>kas_bin f (bubble p k (k-l)) (k+1)).kasWp cmp G s;rw[iV];refine Cj O hc v (by lia) S k 0 k (by lia) (Γ _) (by lia) (fun i hi=>by lia) (fun i i1 i2=>by lia) fun l hl q1 q2=>?_;have v':Va n (bubble p k (k-l)):=⟨(bubble_perm p k (k-l)).toList.trans v.perm⟩;have L:∀k,k<n->g p k<n:=fun k hk=>v.inr hk;have bg:∀i,i<n->g (bubble p k (k-l)) i=if i=l then g p k else if l<i/\i≤k then g p (i-1) else g p i:=fun i hi=>by
   have h1:=getElem?_bubble (xs:=p) (src:=k) (by rw[v.size];lia) (k-l) (by lia) i;rw[v'.get hi,show k-(k-l)=l by lia] at h1;by_cases c1:i=l
   ·rw[if_pos c1] at h1 ⊢;rw[v.get (by lia)] at h1;exact aJ h1
   ·rw[if_neg c1] at h1 ⊢;by_cases c2:l<i/\i≤k
    ·rw[if_pos c2] at h1 ⊢;rw[v.get (by lia)] at h1;exact aJ h1
    ·rw[if_neg c2] at h1 ⊢;rw[v.get hi] at h1;exact aJ h1
  refine HX f _ (k+1) v' (by lia) (fun i j hij hj=>?_) h;rw[bg i (by lia),bg j (by lia)];by_cases ci:i=l
  ·rw[if_pos ci];by_cases cj:j=l
   ·rw[if_pos cj];exact O.refl (L k (by lia))
   ·rw[if_neg cj,if_pos (by lia)];exact O.xx _ _ (L k (by lia)) (L _ (by lia)) (q2 (j-1) (by lia) (by lia))
  ·rw[if_neg ci];by_cases cj:j=l
   ·rw[if_pos cj,if_neg (by lia)];exact q1 i (by lia)
   ·rw[if_neg cj];by_cases c3:l<i/\i≤k
    ·rw[if_pos c3,if_pos (by lia)];exact S (i-1) (j-1) (by lia) (by lia)
    ·rw[if_neg c3];by_cases c4:l<j/\j≤k
     ·rw[if_pos c4];exact S i (j-1) (by lia) (by lia)
     ·rw[if_neg c4];exact S i j hij (by lia)
theorem Qy{G:Array Nat->η->Prop}(hn:1≤n)(h:∀p,Va n p->So lt p n->G p s):(kas_sort n).kasWp cmp G s:=by
 unfold kas_sort;rw[iV];have v0:Va n (jj (Δ n)):=⟨by simp⟩;refine Qz O hc v0 hn fun m p' v m1 m2 S=>?_;dsimp only;by_cases hm:m<n
 ·rw[if_pos hm];have e:max m 1=m:=by lia
  rw[e];exact HX O hc (n-m) p' m v (by lia) S h
 ·rw[if_neg hm];have e:m=n:=by lia
  subst e;exact h p' v S
end
end J6
namespace nQ
open PySem PySem.SetTable
def jr(m:Nat):Prop:=m=7∨m=31∨m=127
def rL(m:Nat)(p:Probe):Probe:=
 if p.more > 0 then { p with j:=p.j+1,more:=p.more-1 } else
 { p with j:=(leap m p.i p.perturb).1,more:=runEnd m (leap m p.i p.perturb).1-(leap m p.i p.perturb).1,i:=(leap m p.i p.perturb).1,perturb:=(leap m p.i p.perturb).2 }
def rs(m:Nat)(q:Nat×Nat):Probe:={ j:=q.1,more:=runEnd m q.1-q.1,i:=q.1,perturb:=q.2,dummy:=none }
def XC(m:Nat)(h:Int):Probe:=rs m (bits h%(m+1),bits h)
def sq(m:Nat)(h:Int):Nat->Probe
 |0=>XC m h
 |k+1=>rL m (sq m h k)
def rn(m:Nat)(h:Int):Nat->Nat×Nat
 |0=>(bits h%(m+1),bits h)
 |r+1=>leap m (rn m h r).1 (rn m h r).2
theorem HW(m:Nat)(h:Int):∀k,(sq m h k).dummy=none
 |0=>rfl
 |k+1=>by
  show (rL m (sq m h k)).dummy=none;have ih:=HW m h k;unfold rL;split<;>simpa using ih
theorem Qx(m i:Nat):runEnd m i-i≤9:=by
 unfold runEnd;split<;>lia
theorem Ci(m:Nat)(h:Int)(n:Nat)(q:Nat×Nat)(e:sq m h n=rs m q):∀d,d≤runEnd m q.1-q.1->sq m h (n+d)={ j:=q.1+d,more:=runEnd m q.1-q.1-d,i:=q.1,perturb:=q.2,dummy:=none }
 |0,_=>by rw[Nat.add_zero,e];rfl
 |d+1,hd=>by
  have ih:=Ci m h n q e d (by lia);show rL m (sq m h (n+d))=_;rw[ih];unfold rL;rw[if_pos (show runEnd m q.1-q.1-d > 0 by lia)];simp only[Probe.mk.injEq,and_true,true_and];lia
theorem HV(m:Nat)(h:Int)(n:Nat)(q:Nat×Nat)(e:sq m h n=rs m q):sq m h (n+(runEnd m q.1-q.1)+1)=rs m (leap m q.1 q.2):=by
 show rL m (sq m h (n+(runEnd m q.1-q.1)))=_;rw[Ci m h n q e _ (Γ _)];unfold rL;rw[if_neg (by simp)];rfl
theorem IL(m:Nat)(h:Int):∀r,∃n,n≤10*r/\sq m h n=rs m (rn m h r)
 |0=>⟨0,by lia,rfl⟩
 |r+1=>by
  obtain⟨n,hn,e⟩:=IL m h r;have:=Qx m (rn m h r).1;exact⟨n+(runEnd m (rn m h r).1-(rn m h r).1)+1,by lia,HV m h n _ e⟩
theorem Qw(h:Int):bits h<2^64:=by
 unfold bits;have h1:h%(2^64:Int)<2^64:=bY _ (by decide);have h2:0≤h%(2^64:Int):=cm _ (by decide);lia
theorem IK(m:Nat)(h:Int):∀r,(rn m h r).2=bits h / 32^r
 |0=>by simp[rn]
 |r+1=>by
  show (rn m h r).2 / 32=_;rw[IK m h r,Nat.div_div_eq_div_mul,hZ]
theorem Qv(m:Nat)(h:Int)(r:Nat)(hr:13≤r):(rn m h r).2=0:=by
 rw[IK];have h1:=Qw h;have h2:(32:Nat)^13≤32^r:=bM (by decide) hr;have h3:(2:Nat)^64<32^13:=by decide
 exact Nat.div_eq_of_lt (by lia)
def fl(m x:Nat):Nat:=(x*5+1)%(m+1)
def it(m:Nat):Nat->Nat->Nat
 |0,x=>x
 |n+1,x=>fl m (it m n x)
theorem wq(m:Nat)(a:Nat):∀b x,it m (b+a) x=it m b (it m a x)
 |0,x=>by rw[rR];rfl
 |b+1,x=>by
  rw[show b+1+a=(b+a)+1 by lia];show fl m (it m (b+a) x)=fl m (it m b (it m a x));rw[wq m a b x]
theorem Cg(m:Nat)(h:Int):∀n,(rn m h (13+n)).1=it m n (rn m h 13).1
 |0=>rfl
 |n+1=>by
  show ((rn m h (13+n)).1*5+1+(rn m h (13+n)).2 / 32)%(m+1)=fl m (it m n (rn m h 13).1);rw[Qv m h (13+n) (by lia),Cg m h n];rfl
theorem B2(m:Nat)(h:Int):∀r,(rn m h r).1<m+1
 |0=>dU _ (nX _)
 |r+1=>dU _ (nX _)
def Ay(m:Nat):Nat->Nat->List Nat
 |0,_=>[]
 |n+1,x=>x::Ay m n (fl m x)
theorem yo(m:Nat):∀(n x y:Nat),y∈Ay m n x->∃k,k<n/\y=it m k x
 |0,_,_,h=>by cases h
 |n+1,x,y,h=>by
  rcases az.mp h with e|e
  ·exact⟨0,by lia,e⟩
  ·obtain⟨k,hk,e⟩:=yo m n (fl m x) y e;refine⟨k+1,by lia,?_⟩;rw[wq m 1 k x];exact e
theorem W0:((Δ 8).all fun x=>(Ay 7 8 0).contains x)=true:=by decide +kernel
theorem Km:((Δ 32).all fun x=>(Ay 31 32 0).contains x)=true:=by decide +kernel
theorem Jt:((Δ 128).all fun x=>(Ay 127 128 0).contains x)=true:=by decide +kernel
theorem KO:it 7 8 0=0:=by decide +kernel
theorem JT:it 31 32 0=0:=by decide +kernel
theorem D7:it 127 128 0=0:=by decide +kernel
theorem Dd{m:Nat}(hm:jr m){x:Nat}(hx:x<m+1):∃k,k<m+1/\x=it m k 0:=by
 rcases hm with rfl|rfl|rfl
 ·have:=iB.mp W0 x (aH.mpr hx);exact yo 7 8 0 x (by simpa using this)
 ·have:=iB.mp Km x (aH.mpr hx);exact yo 31 32 0 x (by simpa using this)
 ·have:=iB.mp Jt x (aH.mpr hx);exact yo 127 128 0 x (by simpa using this)
theorem back{m:Nat}(hm:jr m):it m (m+1) 0=0:=by
 rcases hm with rfl|rfl|rfl
 ·exact KO
 ·exact JT
 ·exact D7
theorem Ax{m:Nat}(hm:jr m){x y:Nat}(hx:x<m+1)(hy:y<m+1):∃n,n≤m/\it m n x=y:=by
 obtain⟨a,ha,ea⟩:=Dd hm hx;obtain⟨b,hb,eb⟩:=Dd hm hy;by_cases hab:a≤b
 ·refine⟨b-a,by lia,?_⟩;rw[ea,←wq,eb];congr 1;lia
 ·refine⟨m+1-a+b,by lia,?_⟩;rw[ea,←wq,eb,show m+1-a+b+a=b+(m+1) by lia,wq,back hm]
theorem comes{m:Nat}(hm:jr m)(h:Int){e:Nat}(he:e≤m):∃k,k≤10*m+130/\(sq m h k).j=e:=by
 obtain⟨n,hn,en⟩:=Ax hm (B2 m h 13) (show e<m+1 by lia);obtain⟨k,hk,ek⟩:=IL m h (13+n);refine⟨k,by lia,?_⟩;rw[ek];show (rn m h (13+n)).1=e;rw[Cg,en]
theorem B1{xs:Array Nat}{j:Nat}(hr:xs.toList.Pairwise (· < ·)):∀(fuel lo hi:Nat),hi-lo≤fuel->lo≤hi->hi≤xs.size->(∀i x,i<lo->xs[i]?=some x->x<j)->(∀i x,hi≤i->xs[i]?=some x->j≤x) ->
  below.go xs j fuel lo hi≤xs.size/\(∀i x,i<below.go xs j fuel lo hi->xs[i]?=some x->x<j)/\(∀i x,below.go xs j fuel lo hi≤i->xs[i]?=some x->j≤x)
 |0,lo,hi,hf,hl,hs,h1,h2=>by
  have e:lo=hi:=by lia
  subst e;exact⟨hs,h1,h2⟩
 |fuel+1,lo,hi,hf,hl,hs,h1,h2=>by
  unfold below.go;by_cases hlt:lo<hi
  ·rw[if_pos hlt];dsimp only;have hmid:(lo+hi) / 2<xs.size:=by lia
   have hg:xs.getD ((lo+hi) / 2) j=xs[(lo+hi) / 2]:=by simp[lg,hmid]
   rw[hg];have pw:∀a b x y,a<b->xs[a]?=some x->xs[b]?=some y->x<y:=fun a b x y hab ea eb=>by
    have ha':a<xs.toList.length:=by
     have:=(br.mp ea).1;simpa using this
    have hb':b<xs.toList.length:=by
     have:=(br.mp eb).1;simpa using this
    have:=fZ.mp hr a b ha' hb' hab;obtain⟨_,e1⟩:=br.mp ea;obtain⟨_,e2⟩:=br.mp eb;simpa [e1,e2] using this
   have em:xs[(lo+hi) / 2]?=some xs[(lo+hi) / 2]:=by simp[hmid]
   by_cases hc:xs[(lo+hi) / 2]<j
   ·rw[if_pos hc];refine B1 hr fuel _ hi (by lia) (by lia) hs (fun i x hi' e=>?_) h2;by_cases hi2:i=(lo+hi) / 2
    ·subst hi2;rw[em] at e;cases e;exact hc
    ·exact jh (pw i _ x _ (by lia) e em) hc
   ·rw[if_neg hc];refine B1 hr fuel lo _ (by lia) (by lia) (by lia) h1 (fun i x hi' e=>?_);by_cases hi2:i=(lo+hi) / 2
    ·subst hi2;rw[em] at e;cases e;lia
    ·have:=pw _ i _ x (by lia) em e;lia
  ·rw[if_neg hlt];have e:lo=hi:=by lia
   subst e;exact⟨hs,h1,h2⟩
theorem yn{xs:Array Nat}{j:Nat}(hr:xs.toList.Pairwise (· < ·)):below xs j≤xs.size/\(∀i x,i<below xs j->xs[i]?=some x->x<j)/\(∀i x,below xs j≤i->xs[i]?=some x->j≤x):=
 B1 hr xs.size 0 xs.size (by lia) (by lia) (by lia) (fun i _ h=>by lia) fun i x h e=>by
  have:=(br.mp e).1;lia
theorem below_at{xs:Array Nat}{j i:Nat}(hr:xs.toList.Pairwise (· < ·))(e:xs[i]?=some j):below xs j=i:=by
 obtain⟨h0,h1,h2⟩:=yn (j:=j) hr;have hi:=(br.mp e).1;by_cases hlt:i<below xs j
 ·exact absurd (h1 i j hlt e) (cz _)
 ·by_cases hgt:below xs j<i
  ·have hb:below xs j<xs.size:=by lia
   have eb:xs[below xs j]?=some xs[below xs j]:=by simp[hb]
   have q1:=h2 _ _ (Γ _) eb;have pw:=fZ.mp hr (below xs j) i (by simpa using hb) (by simpa using hi) hgt;obtain⟨_,e1⟩:=br.mp e;simp[e1] at pw;lia
  ·lia
end nQ
namespace nQ
open PySem PySem.SetTable
structure Tab(t:bF)(hs:List Int):Prop where
 mask:jr t.mask
 size:t.place.size=hs.length
 rise:t.place.toList.Pairwise (· < ·)
 bound:∀j∈t.place.toList,j≤t.mask
 nj:t.dummies = #[]
 room:hs.length*5<t.mask*3
 reach:∀j h,(j,h)∈t.place.toList.zip hs->∃k,(sq t.mask h k).j=j/\∀k',k' < k->(sq t.mask h k').j∈t.place.toList
theorem IJ{t:bF}{j i:Nat}(hr:t.place.toList.Pairwise (· < ·))(e:t.place[i]?=some j):t.slot j=.live i:=by
 unfold slot;dsimp only;rw[below_at hr e,e];simp
theorem Qu{t:bF}{j:Nat}(hd:t.dummies = #[])(e:j∉t.place.toList):t.slot j=.empty:=by
 unfold slot;dsimp only;have h1:¬(t.place[below t.place j]?==some j)=true:=by
  intro h;have h':t.place[below t.place j]?=some j:=by simpa using h
  exact e (by
   rw[←aR] at h';exact bN h')
 rw[if_neg h1];have h2:has t.dummies j=false:=by
  rw[hd];rfl
 rw[h2];rfl
theorem B0:∀(n:Nat) (L:List Nat),(∀e,e<n->e∈L)->n≤L.length
 |0,_,_=>aB _
 |n+1,L,h=>by
  have h1:=h n (iz n);have h2:=B0 n (L.erase n) fun e he=>(List.mem_erase_of_ne (by lia)).mpr (h e (by lia));have h3:=List.length_erase_of_mem h1;have h4:=List.length_pos_of_mem h1;lia
theorem Qt{t:bF}{hs:List Int}(T:Tab t hs)(h:Int):∃ke,ke≤10*t.mask+130/\(sq t.mask h ke).j∉t.place.toList/\∀k,k<ke->(sq t.mask h k).j∈t.place.toList:=by
 -- some slot is empty
 have hex:∃e,e≤t.mask/\e∉t.place.toList:=by
  refine aD fun hn=>?_;have hall:∀e,e≤t.mask->e∈t.place.toList:=fun e he=>aD fun q=>hn ⟨e,he,q⟩;have hl:=B0 (t.mask+1) t.place.toList fun e he=>hall e (by lia);have e1:t.place.toList.length=t.place.size:=by simp
  have:=T.size;have:=T.room;lia
 obtain⟨e,he,ne⟩:=hex;obtain⟨k,hk,ek⟩:=comes T.mask h he;have hP:∃k,(sq t.mask h k).j∉t.place.toList:=⟨k,by rw[ek];exact ne⟩
 -- the least one
 have least:∀n,(∃k,k≤n/\(sq t.mask h k).j∉t.place.toList)->∃ke,ke≤n/\(sq t.mask h ke).j∉t.place.toList/\∀k,k<ke->(sq t.mask h k).j∈t.place.toList:=by
  intro n
  induction n with
  |zero=>
   rintro⟨k,hk,q⟩;have:k=0:=by lia
   subst this;exact⟨0,Γ _,q,fun k hk=>by lia⟩
  |succ n ih=>
   rintro⟨k,hk,q⟩;by_cases hp:∃k,k≤n/\(sq t.mask h k).j∉t.place.toList
   ·obtain⟨ke,h1,h2,h3⟩:=ih hp;exact⟨ke,by lia,h2,h3⟩
   ·have hk':k=n+1:=by
     refine aD fun z=>hp ⟨k,by lia,q⟩
    subst hk';exact⟨n+1,Γ _,q,fun k' hk'=>aD fun z=>hp ⟨k',by lia,z⟩⟩
 obtain⟨ke,h1,h2,h3⟩:=least k ⟨k,Γ _,by rw[ek];exact ne⟩;exact⟨ke,by lia,h2,h3⟩
inductive Meets(t:bF)(hashAt:Nat->Int)(h:Int)(n ke:Nat):Met->Prop where
 |zQ {k i:Nat} (h1:n≤k) (h2:k<ke) (h3:t.place[i]?=some (sq t.mask h k).j) (h4:hashAt i=h) (h5:∀k' i',n≤k'->k' < k->t.place[i']?=some (sq t.mask h k').j->hashAt i'≠h):
   Meets t hashAt h n ke (.candidate (sq t.mask h k).j i (sq t.mask h (k+1)))
 |free (h1:n≤ke) (h5:∀k' i',n≤k'->k' < ke->t.place[i']?=some (sq t.mask h k').j->hashAt i'≠h):Meets t hashAt h n ke (.empty (sq t.mask h ke).j none)
theorem II{t:bF}{hashAt:Nat->Int}{h:Int}{ke:Nat}(hr:t.place.toList.Pairwise (· < ·))(hd:t.dummies = #[])(he:(sq t.mask h ke).j∉t.place.toList)(hl:∀k,k<ke->(sq t.mask h k).j∈t.place.toList):
  ∀(fuel n:Nat),n≤ke->ke-n<fuel->∃met,probe.go t hashAt h fuel (sq t.mask h n)=some met/\Meets t hashAt h n ke met
 |0,n,_,hf=>by lia
 |fuel+1,n,hn,hf=>by
  unfold probe.go;by_cases hlast:n=ke
  ·subst hlast;rw[Qu hd he,HW];exact⟨_,rfl,.free (Γ _) fun k' i' h1 h2=>by lia⟩
  ·have hmem:=hl n (by lia);obtain⟨i,hi⟩:=dD hmem;have hi':t.place[i]?=some (sq t.mask h n).j:=by rw[←aR];exact hi
   rw[IJ hr hi'];dsimp only;by_cases hh:hashAt i=h
   ·rw[if_pos (by simpa using hh)];exact⟨_,rfl,.zQ (Γ _) (by lia) hi' hh fun k' i' h1 h2=>by lia⟩
   ·rw[if_neg (by simpa using hh)];obtain⟨met,e,m⟩:=II (hashAt:=hashAt) hr hd he hl fuel (n+1) (by lia) (by lia);refine⟨met,e,?_⟩;have one:∀i',t.place[i']?=some (sq t.mask h n).j->hashAt i'≠h:=fun i' e'=>by
     have e1:=below_at hr hi';have e2:=below_at hr e';have:i'=i:=by lia
     rw[this];exact hh
    cases m with
    |zQ h1 h2 h3 h4 h5=>
     refine .zQ (by lia) h2 h3 h4 fun k' i' q1 q2 q3=>?_;by_cases hk:k'=n
     ·subst hk;exact one i' q3
     ·exact h5 k' i' (by lia) q2 q3
    |free h1 h5=>
     refine .free (by lia) fun k' i' q1 q2 q3=>?_;by_cases hk:k'=n
     ·subst hk;exact one i' q3
     ·exact h5 k' i' (by lia) q2 q3
theorem Qs{t:bF}{hs:List Int}(T:Tab t hs){hashAt:Nat->Int}{h:Int}{ke n:Nat}(hk:ke≤10*t.mask+130)(he:(sq t.mask h ke).j∉t.place.toList)(hl:∀k,k<ke->(sq t.mask h k).j∈t.place.toList)(hn:n≤ke):
  ∃met,t.probe hashAt h (sq t.mask h n)=some met/\Meets t hashAt h n ke met:=by
 unfold probe;exact II T.rise T.nj he hl _ n hn (by unfold turns;lia)
theorem tE{α:Type}(xs:Array α)(p:Nat)(x:α):(insertAt xs p x).toList=xs.toList.take p++x::xs.toList.drop p:=by
 unfold insertAt;have e:(xs.extract p xs.size).toList=xs.toList.drop p:=by
  rw[qG];simp[List.extract];exact gQ (by simp)
 simp[qG,List.extract];exact gQ (by simp)
theorem IH{α β:Type}:∀(p:Nat) (xs:List α) (ys:List β) (x:α) (y:β),xs.length=ys.length->((xs.take p++x::xs.drop p).zip (ys.take p++y::ys.drop p)).Perm ((x,y)::xs.zip ys)
 |0,xs,ys,x,y,_=>by simp
 |p+1,[],ys,x,y,h=>by
  have:ys=[]:=dG.mp (by simpa using h.symm);subst this;simp
 |p+1,a::xs,[],x,y,h=>by simp at h
 |p+1,a::xs,b::ys,x,y,h=>by
  have ih:=IH p xs ys x y (by simpa using h);simp only[List.take_succ_cons,List.drop_succ_cons,List.cons_append,ji];exact (List.Perm.cons (a,b) ih).trans (List.Perm.swap _ _ _)
theorem uH{α:Type}(p:Nat)(xs:List α)(x:α):(xs.take p++x::xs.drop p).Perm (x::xs):=by
 have:=List.perm_middle (a:=x) (l₁:=xs.take p) (l₂:=xs.drop p);rw[ia] at this;exact this
theorem Qr{t:bF}{j:Nat}(hd:t.dummies = #[]):t.put j=({ t with place:=insertAt t.place (below t.place j) j,dummies:=#[]},below t.place j):=by
 unfold put;dsimp only;have h2:has t.dummies j=false:=by
  rw[hd];rfl
 rw[h2];simp[hd]
structure rM(t:bF)(hs:List Int):Prop where
 mask:jr t.mask
 size:t.place.size=hs.length
 rise:t.place.toList.Pairwise (· < ·)
 bound:∀j∈t.place.toList,j≤t.mask
 nj:t.dummies = #[]
 JR:hs.length≤t.mask
 reach:∀j h,(j,h)∈t.place.toList.zip hs->∃k,(sq t.mask h k).j=j/\∀k',k' < k->(sq t.mask h k').j∈t.place.toList
theorem IG{m:Nat}(hm:jr m)(h:Int):∀k,(sq m h k).j≤m/\(sq m h k).j+(sq m h k).more≤m:=by
 have hrun:∀i,i≤m->runEnd m i≤m:=fun i hi=>by
  unfold runEnd;split<;>lia
 have hrs:∀q:Nat×Nat,q.1≤m->(rs m q).j≤m/\(rs m q).j+(rs m q).more≤m:=fun q hq=>by
  have:=hrun q.1 hq;have h2:q.1≤runEnd m q.1:=by unfold runEnd;split<;>lia
  show q.1≤m/\q.1+(runEnd m q.1-q.1)≤m;lia
 intro k
 induction k with
 |zero=>exact hrs _ (by show bits h%(m+1)≤m;have:bits h%(m+1)<m+1:=dU (bits h) (nX m);lia)
 |succ k ih=>
  show (rL m (sq m h k)).j≤m/\(rL m (sq m h k)).j+(rL m (sq m h k)).more≤m;unfold rL;by_cases hc:(sq m h k).more > 0
  ·rw[if_pos hc];show (sq m h k).j+1≤m/\(sq m h k).j+1+((sq m h k).more-1)≤m;lia
  ·rw[if_neg hc];have hlt:(leap m (sq m h k).i (sq m h k).perturb).1≤m:=by
    show ((sq m h k).i*5+1+(sq m h k).perturb / 32)%(m+1)≤m;have:((sq m h k).i*5+1+(sq m h k).perturb / 32)%(m+1)<m+1:=dU _ (nX m);lia
   exact hrs (leap m (sq m h k).i (sq m h k).perturb) hlt
theorem Tab.put{t:bF}{hs:List Int}(T:Tab t hs){h:Int}{ke:Nat}(he:(sq t.mask h ke).j∉t.place.toList)(hl:∀k,k<ke->(sq t.mask h k).j∈t.place.toList):
  rM { t with place:=insertAt t.place (below t.place (sq t.mask h ke).j) (sq t.mask h ke).j,dummies:=#[]} (hs.take (below t.place (sq t.mask h ke).j)++h::hs.drop (below t.place (sq t.mask h ke).j)):=by
 obtain⟨b0,b1,b2⟩:=yn (j:=(sq t.mask h ke).j) T.rise;have hlen:t.place.toList.length=hs.length:=by simpa using T.size
 have hmem:∀x,x∈(insertAt t.place (below t.place (sq t.mask h ke).j) (sq t.mask h ke).j).toList↔x=(sq t.mask h ke).j∨x∈t.place.toList:=fun x=>by
  rw[tE,(uH _ t.place.toList _).mem_iff,az]
 refine⟨T.mask,?_,?_,fun j hj=>?_,rfl,?_,fun j h' hj=>?_⟩
 ·show (insertAt t.place (below t.place (sq t.mask h ke).j) (sq t.mask h ke).j).size=_;have e1:(insertAt t.place (below t.place (sq t.mask h ke).j) (sq t.mask h ke).j).size=(insertAt t.place (below t.place (sq t.mask h ke).j) (sq t.mask h ke).j).toList.length:=by simp
  rw[e1,tE,(uH _ t.place.toList _).length_eq,(uH _ hs _).length_eq];simp only[ax];lia
 ·show (insertAt t.place (below t.place (sq t.mask h ke).j) (sq t.mask h ke).j).toList.Pairwise (· < ·);rw[tE];refine List.pairwise_append.mpr ⟨T.rise.sublist (m8 _ _),List.pairwise_cons.mpr ⟨fun x hx=>?_,T.rise.sublist (List.drop_sublist _ _)⟩,fun a ha b hb=>?_⟩
  ·obtain⟨i,hi⟩:=dD hx;rw[my] at hi;have q:=b2 (below t.place (sq t.mask h ke).j+i) x (by lia) (by rw[←aR];exact hi);have ne:x≠(sq t.mask h ke).j:=fun e=>he (e▸bN hi);lia
  ·obtain⟨i,hi⟩:=dD ha;have hil:i<below t.place (sq t.mask h ke).j:=by
    have:=(aw.mp hi).1;rw[de] at this;lia
   rw[oo hil] at hi;have qa:=b1 i a hil (by rw[←aR];exact hi);rcases az.mp hb with e|hb
   ·rw[e];exact qa
   ·obtain⟨i2,hi2⟩:=dD hb;rw[my] at hi2;have q:=b2 (below t.place (sq t.mask h ke).j+i2) b (by lia) (by rw[←aR];exact hi2);lia
 ·rcases (hmem j).mp hj with e|e
  ·rw[e];exact (IG T.mask h ke).1
  ·exact T.bound j e
 ·rw[(uH _ hs _).length_eq];have:=T.room;rcases T.mask with e|e|e<;>(simp only[ax];show _≤t.mask;lia)
 ·have hp:(j,h')∈(t.place.toList.take (below t.place (sq t.mask h ke).j)++(sq t.mask h ke).j::t.place.toList.drop (below t.place (sq t.mask h ke).j)).zip
    (hs.take (below t.place (sq t.mask h ke).j)++h::hs.drop (below t.place (sq t.mask h ke).j)):=by
   rw[←tE];exact hj
  rw[(IH _ _ _ _ _ hlen).mem_iff] at hp;rcases az.mp hp with e|e
  ·cases e;exact⟨ke,rfl,fun k' hk'=>(hmem _).mpr (.inr (hl k' hk'))⟩
  ·obtain⟨k,e1,e2⟩:=T.reach j h' e;exact⟨k,e1,fun k' hk'=>(hmem _).mpr (.inr (e2 k' hk'))⟩
theorem rM.tab{t:bF}{hs:List Int}(T:rM t hs)(h:t.tooFull=false):Tab t hs:=by
 refine⟨T.mask,T.size,T.rise,T.bound,T.nj,?_,T.reach⟩;have h':¬(t.fill*5≥t.mask*3):=by simpa [tooFull] using h
 have e:t.fill=hs.length:=by
  unfold fill;rw[T.size,T.nj];rfl
 rw[e] at h';lia
end nQ
namespace nQ
open PySem PySem.SetTable
def Taken(ow:Array (Option Nat))(j:Nat):Prop:=∃k,ow[j]?=some (some k)
theorem BZ{ow:Array (Option Nat)}{j:Nat}(hj:j<ow.size):(ow.getD j (some 0)).isNone=true↔¬Taken ow j:=by
 have e:ow.getD j (some 0)=ow[j]:=by simp[lg,hj]
 rw[e];unfold Taken;rw[iY hj];cases ow[j] with
 |none=>simp
 |some k=>simp
theorem IF{m:Nat}(hm:jr m){h:Int}{ow:Array (Option Nat)}(hs:ow.size=m+1):∀(fuel r n:Nat),sq m h n=rs m (rn m h r)->(∀k,k<n->Taken ow (sq m h k).j) ->
  (∃r',r≤r'/\r' < r+fuel/\¬Taken ow (rn m h r').1)->∃ke,layClean.free m ow fuel (rn m h r).1 (rn m h r).2=some (sq m h ke).j/\¬Taken ow (sq m h ke).j/\∀k,k<ke->Taken ow (sq m h k).j
 |0,r,n,_,_,hx=>by
  obtain⟨r',h1,h2,_⟩:=hx;lia
 |fuel+1,r,n,hn,hk,hx=>by
  have hi:=B2 m h r;have hre:runEnd m (rn m h r).1≤m:=by unfold runEnd;split<;>lia
  have hre2:(rn m h r).1≤runEnd m (rn m h r).1:=by unfold runEnd;split<;>lia
  have at_d:∀d,d≤runEnd m (rn m h r).1-(rn m h r).1->(sq m h (n+d)).j=(rn m h r).1+d:=fun d hd=>by
   rw[Ci m h n _ hn d hd]
  unfold layClean.free;cases hf:(Δ (runEnd m (rn m h r).1+1-(rn m h r).1)).find? (fun k=>(ow.getD ((rn m h r).1+k) (some 0)).isNone) with
  |some k=>
   obtain⟨p1,p2,p3⟩:=gu.mp hf;have hkr:=aH.mp p2;refine⟨n+k,?_,?_,fun k' hk'=>?_⟩
   ·rw[at_d k (by lia)]
   ·rw[at_d k (by lia)];exact (BZ (by lia)).mp p1
   ·by_cases hlt:k' < n
    ·exact hk k' hlt
    ·obtain⟨d,rfl⟩:∃d,k'=n+d:=⟨k' - n,by lia⟩;rw[at_d d (by lia)];have q:=p3 d (by lia);refine aD fun z=>?_;rw[(BZ (by lia)).mpr z] at q;cases q
  |none=>
   have hnone:=fD.mp hf;have occ:∀d,d≤runEnd m (rn m h r).1-(rn m h r).1->Taken ow ((rn m h r).1+d):=fun d hd=>
    aD fun z=>hnone d (aH.mpr (by lia)) ((BZ (by lia)).mpr z)
   refine IF hm hs fuel (r+1) (n+(runEnd m (rn m h r).1-(rn m h r).1)+1) (HV m h n _ hn) (fun k hk'=>?_) ?_
   ·by_cases hlt:k<n
    ·exact hk k hlt
    ·obtain⟨d,rfl⟩:∃d,k=n+d:=⟨k-n,by lia⟩;rw[at_d d (by lia)];exact occ d (by lia)
   ·obtain⟨r',h1,h2,h3⟩:=hx;refine⟨r',?_,by lia,h3⟩;have:r'≠r:=fun e=>h3 (by
     rw[e];have:=occ 0 (aB _);simpa using this)
    lia
structure sL(m:Nat)(ow:Array (Option Nat))(l:List Int):Prop where
 size:ow.size=m+1
 all:∀(k:Nat),k<l.length->∃j:Nat,ow[j]?=some (some k)
 one:∀(j j' k:Nat),ow[j]?=some (some k)->ow[j']?=some (some k)->j=j'
 reach:∀(j k:Nat),ow[j]?=some (some k)->∃h,l[k]?=some h/\∃n,(sq m h n).j=j/\∀n',n' < n->Taken ow (sq m h n').j
theorem sL.nil(m:Nat):sL m (Array.replicate (m+1) none) []:=by
 have hno:∀(j k:Nat),¬(Array.replicate (m+1) (none:Option Nat))[j]?=some (some k):=fun j k e=>by
  rw[Array.getElem?_replicate] at e;split at e<;>simp at e
 exact⟨by simp,fun k hk=>by simp at hk,fun j j' k e=>absurd e (hno j k),fun j k e=>absurd e (hno j k)⟩
theorem sL.room{m:Nat}{ow:Array (Option Nat)}{l:List Int}(O:sL m ow l)(hl:l.length≤m):∃e,e≤m/\¬Taken ow e:=by
 refine aD fun hn=>?_;have hall:∀e,e≤m->Taken ow e:=fun e he=>aD fun q=>hn ⟨e,he,q⟩;obtain⟨g,hg⟩:∃g:Nat->Nat,∀k,k<l.length->ow[g k]?=some (some k):=by
  refine⟨fun k=>if q:k<l.length then (O.all k q).choose else 0,fun k hk=>?_⟩;dsimp only;rw[dif_pos hk];exact (O.all k hk).choose_spec
 have hlen:=B0 (m+1) ((Δ l.length).map g) fun e he=>by
  obtain⟨k,hk⟩:=hall e (by lia);obtain⟨h,e1,_⟩:=O.reach e k hk;have hkl:=(aw.mp e1).1;exact aP.mpr ⟨k,aH.mpr hkl,O.one _ _ k (hg k hkl) hk⟩
 simp at hlen;lia
theorem sL.add{m:Nat}(hm:jr m){ow:Array (Option Nat)}{l:List Int}{h:Int}(O:sL m ow l)(hl:l.length≤m):
  ∃j,layClean.free m ow (turns m) (bits h%(m+1)) (bits h)=some j/\sL m (ow.setIfInBounds j (some l.length)) (l++[h]):=by
 obtain⟨e,he,ne⟩:=O.room hl;obtain⟨n0,hn0,en0⟩:=Ax hm (B2 m h 13) (show e<m+1 by lia);obtain⟨ke,h1,h2,h3⟩:=IF hm (h:=h) O.size (turns m) 0 0 rfl (fun k hk=>by lia) ⟨13+n0,by lia,by unfold turns;lia,by rw[Cg,en0];exact ne⟩;refine⟨(sq m h ke).j,h1,?_⟩;have hj:(sq m h ke).j<ow.size:=by
  have:=(IG hm h ke).1;rw[O.size];lia
 have hget:∀j:Nat,(ow.setIfInBounds (sq m h ke).j (some l.length))[j]?=if (sq m h ke).j=j then some (some l.length) else ow[j]?:=fun j=>by
  rw[Array.getElem?_setIfInBounds];by_cases e:(sq m h ke).j=j
  ·rw[if_pos e,if_pos e,if_pos (by lia)]
  ·rw[if_neg e,if_neg e]
 have tk:∀j,Taken ow j->Taken (ow.setIfInBounds (sq m h ke).j (some l.length)) j:=fun j ⟨k,hk⟩=>by
  unfold Taken;rw[hget];by_cases e:(sq m h ke).j=j
  ·exact⟨_,if_pos e⟩
  ·exact⟨k,by rw[if_neg e];exact hk⟩
 have lt_of:∀j k:Nat,ow[j]?=some (some k)->k<l.length:=fun j k e=>by
  obtain⟨h',e1,_⟩:=O.reach j k e;exact (aw.mp e1).1
 refine⟨by rw[Array.size_setIfInBounds];exact O.size,fun k hk=>?_,fun j j' k q q'=>?_,fun j k q=>?_⟩
 ·rw[aa,fH] at hk;by_cases hkl:k<l.length
  ·obtain⟨j,hj'⟩:=O.all k hkl;refine⟨j,?_⟩;rw[hget,if_neg (fun e=>h2 ⟨k,by rw[e];exact hj'⟩)];exact hj'
  ·have:k=l.length:=by lia
   exact⟨(sq m h ke).j,by rw[hget,if_pos rfl,this]⟩
 ·rw[hget] at q q';by_cases e:(sq m h ke).j=j
  ·rw[if_pos e] at q;by_cases e':(sq m h ke).j=j'
   ·lia
   ·rw[if_neg e'] at q';cases q;exact absurd (lt_of _ _ q') (cz _)
  ·rw[if_neg e] at q;by_cases e':(sq m h ke).j=j'
   ·rw[if_pos e'] at q';cases q';exact absurd (lt_of _ _ q) (cz _)
   ·rw[if_neg e'] at q';exact O.one j j' k q q'
 ·rw[hget] at q;by_cases e:(sq m h ke).j=j
  ·rw[if_pos e] at q;cases q;exact⟨h,by simp,ke,e,fun n' hn'=>tk _ (h3 n' hn')⟩
  ·rw[if_neg e] at q;obtain⟨h',e1,n,e2,e3⟩:=O.reach j k q;exact⟨h',by rw[eF (lt_of j k q)];exact e1,n,e2,fun n' hn'=>tk _ (e3 n' hn')⟩
theorem IE{m:Nat}(hm:jr m):∀(l' l:List Int) (ow:Array (Option Nat)),sL m ow l->l.length+l'.length≤m+1 ->
  ∃ow',(l'.foldl (fun (acc:Option (Array (Option Nat)×Nat)) h=>do
   let (owner,k) ←acc
   let j ←layClean.free m owner (turns m) (bits h%(m+1)) (bits h)
   pure (owner.setIfInBounds j (some k),k+1)) (some (ow,l.length)))=some (ow',(l++l').length)/\sL m ow' (l++l')
 |[],l,ow,O,_=>⟨ow,by simp,by simpa using O⟩
 |h::l',l,ow,O,hl=>by
  rw[ax] at hl
  obtain⟨j,e,O'⟩:=O.add hm (h:=h) (by lia)
  obtain⟨ow',e2,O2⟩:=IE hm l' (l++[h]) _ O' (by simp;lia)
  refine⟨ow',?_,by simpa using O2⟩
  rw[oN]
  have hs:(do
   let (owner,k) ←(some (ow,l.length):Option (Array (Option Nat)×Nat))
   let j ←layClean.free m owner (turns m) (bits h%(m+1)) (bits h)
   pure (owner.setIfInBounds j (some k),k+1))=some (ow.setIfInBounds j (some l.length),(l++[h]).length):=by
   show (do
    let j ←layClean.free m ow (turns m) (bits h%(m+1)) (bits h)
    pure (ow.setIfInBounds j (some l.length),l.length+1))=_
   rw[e]
   simp
  rw[hs,e2]
  simp
theorem BY{α:Type}:∀l:List α,((Δ l.length).filterMap fun k=>l[k]?)=l
 |[]=>rfl
 |a::l=>by
  rw[ax,pC,oq (b:=a) (by simp),rW];have ih:=BY l;congr 1
theorem Qq{α:Type}(xs:Array α):((Δ xs.size).filterMap fun k=>xs[k]?)=xs.toList:=by
 have:=BY xs.toList;simpa using this
theorem Qp{m finger moves:Nat}{led plain:Bool}(hm:jr m)(hs:Array Int)(hl:hs.size*5<m*3):
  ∃t order,laid m finger moves led plain hs=some (t,order)/\t.mask=m/\t.led=led/\t.plain=plain/\t.finger=finger/\order.toList.Perm (Δ hs.size)/\Tab t (order.toList.filterMap fun k=>hs[k]?):=by
 obtain⟨ow,e,O⟩:=IE hm hs.toList [] _ (sL.nil m) (by simp;lia);rw[dO] at e O;have hlc:layClean m hs=some ow:=by
  unfold layClean;rw[←Array.foldl_toList];have e':=congrArg (ug fun x:Array (Option Nat)×Nat=>x.1) e;exact e'
 have hmem:∀j k,(j,k)∈((Δ (m+1)).filterMap fun j=>(ow.getD j none).map (j,·))↔ow[j]?=some (some k):=fun j k=>by
  rw[mx];constructor
  ·rintro⟨a,ha,q⟩;have ha':=aH.mp ha;cases ho:ow.getD a none with
   |none=>rw[ho] at q;cases q
   |some k'=>
    rw[ho] at q;cases q;have:ow.getD j none=ow[j]'(by rw[O.size];exact ha'):=by simp[lg,O.size,ha']
    rw[this] at ho;rw[iY (by rw[O.size];exact ha'),ho]
  ·intro q;have hj:=(br.mp q).1;rw[O.size] at hj;refine⟨j,aH.mpr hj,?_⟩;have:ow.getD j none=some k:=by
    rw[Array.getD_eq_getD_getElem?,q];rfl
   rw[this];rfl
 generalize hL:((Δ (m+1)).filterMap fun j=>(ow.getD j none).map (j,·))=L at hmem;have rise:L.Pairwise fun a b=>a.1<b.1:=by
  rw[←hL];refine List.Pairwise.filterMap _ (fun a a' hlt b hb b' hb'=>?_) (List.pairwise_lt_range (n:=m+1));cases ho:ow.getD a none with
  |none=>rw[ho] at hb;cases hb
  |some k=>
   rw[ho] at hb;cases hb;cases ho':ow.getD a' none with
   |none=>rw[ho'] at hb';cases hb'
   |some k'=>
    rw[ho'] at hb';cases hb';exact hlt
 have nd:(L.map (·.2)).Nodup:=by
  refine sC _ (R:=fun a b=>a.2≠b.2) (fun _ _ z=>z) ?_;refine List.Pairwise.imp_of_mem (fun {a b} ha hb hab=>?_) rise;intro q;obtain⟨j,k⟩:=a;obtain⟨j',k'⟩:=b;have ea:=(hmem j k).mp ha;have eb:=(hmem j' k').mp hb;have hab':j<j':=hab;have q':k=k':=q;subst q';have:=O.one j j' k ea eb;lia
 have hperm:(L.map (·.2)).Perm (Δ hs.size):=by
  refine (List.perm_ext_iff_of_nodup nd oj).mpr fun k=>?_;rw[aP,aH];constructor
  ·rintro⟨⟨j,k'⟩,hjk,rfl⟩;obtain⟨h,e1,_⟩:=O.reach j k' ((hmem j k').mp hjk);have:=(aw.mp e1).1;simpa using this
  ·intro hk;obtain⟨j,ej⟩:=O.all k (by simpa using hk);exact⟨(j,k),(hmem j k).mpr ej,rfl⟩
 -- the hashes in the slots' order
 have hzip:∀j h,(j,h)∈(L.map (·.1)).zip ((L.map (·.2)).filterMap fun k=>hs[k]?)->∃k,(j,k)∈L/\hs[k]?=some h:=by
  have hall:∀p∈L,∃h,hs[p.2]?=some h:=fun p hp=>by
   obtain⟨h,e1,_⟩:=O.reach p.1 p.2 ((hmem p.1 p.2).mp hp);exact⟨h,by rw[←aR];exact e1⟩
  clear hmem rise nd hperm hL
  induction L with
  |nil=>intro j h q;cases q
  |cons p L ih=>
   intro j h q;obtain⟨h0,e0⟩:=hall p Ψ;rw[aq,aq,oq e0,ji] at q;rcases az.mp q with q|q
   ·cases q;exact⟨p.2,Ψ,e0⟩
   ·obtain⟨k,q1,q2⟩:=ih (fun p hp=>hall p (Θ _ hp)) j h q;exact⟨k,Θ _ q1,q2⟩
 have hlenL:((L.map (·.2)).filterMap fun k=>hs[k]?).length=L.length:=by
  have h1:=(hperm.filterMap fun k=>hs[k]?).length_eq;rw[Qq] at h1;have h3:=hperm.length_eq;rw[ξ,fR] at h3;rw[h1,h3];simp
 refine⟨_,_,by unfold laid;rw[hlc];rfl,rfl,rfl,rfl,rfl,?_,?_⟩
 ·rw[hL];exact hperm
 ·rw[hL];have hlen:L.length=hs.size:=by
   have:=hperm.length_eq;simpa using this
  refine⟨hm,?_,?_,fun j hj=>?_,rfl,?_,fun j h hj=>?_⟩
  ·rw[hlenL];simp
  ·exact sC _ (fun _ _ z=>z) rise
  ·obtain⟨⟨j',k⟩,hp,rfl⟩:=aP.mp hj;have:=(br.mp ((hmem j' k).mp hp)).1;rw[O.size] at this;show j'≤m;lia
  ·rw[hlenL,hlen];exact hl
  ·obtain⟨k,q1,q2⟩:=hzip j h hj;obtain⟨h',e1,n,e2,e3⟩:=O.reach j k ((hmem j k).mp q1);have eh:h'=h:=by
    rw[aR,q2] at e1;exact (aJ e1).symm
   subst eh;refine⟨n,e2,fun n' hn'=>?_⟩;obtain⟨k',hk'⟩:=e3 n' hn';exact aP.mpr ⟨(_,k'),(hmem _ k').mpr hk',rfl⟩
end nQ
namespace ja
open PySem nQ
section
variable {prog:aG} {w:aQ} {A:bT} {E:δ->η->Prop} {s:η}
abbrev hk(prog:aG)(w:aQ)(ks:List Int):Int:=tupleKeyHash (intKind prog w) ks
abbrev iH(prog:aG)(w:aQ)(h:ay)(ks:List Int)(a:ε):Prop:=IsTupleKey (intKind prog w) h ks a
def ent(prog:aG)(w:aQ)(p:List Int×ε):Int×δ:=(hk prog w p.1,.ref p.2)
structure lT(prog:aG)(w:aQ)(h:ay)(a:ε)(o:aN)(es:Array (Int×δ))(ep:Nat)(t:bF)(xs:List (List Int×ε)):Prop where
 at_:h.get? a=some o
 ex:o.ExactSet
 dat:o.data=.set es ep t
 ents:es.toList=xs.map (ent prog w)
 keys:∀p∈xs,iH prog w h p.1 p.2
 nd:(xs.map (·.1)).Nodup
 plain:t.plain=true
 led:t.led = !(w.params.followText "set-order")
structure kH(w:aQ)(h:ay)(a:ε)(o:aN)(es:Array (Int×δ))(ep:Nat)(t:bF):Prop where
 at_:h.get? a=some o
 ex:o.ExactSet
 dat:o.data=.set es ep t
 plain:t.plain=true
 led:t.led = !(w.params.followText "set-order")
theorem lT.wk{prog:aG}{w:aQ}{h:ay}{a:ε}{o:aN}{es:Array (Int×δ)}{ep:Nat}{t:bF}{xs:List (List Int×ε)}(S:lT prog w h a o es ep t xs):kH w h a o es ep t:=⟨S.at_,S.ex,S.dat,S.plain,S.led⟩
theorem wo{es:Array (Int×δ)}:(es.toList.map (·.1)).length=es.size:=by simp
theorem tD{es:Array (Int×δ)}{t:bF}(T:rM t (es.toList.map (·.1))):t.fits es.size=true:=by
 unfold bF.fits;have h1:=T.size;rw[wo] at h1;have h2:=T.JR;rw[wo] at h2;have h3:t.fill=es.size:=by
  unfold bF.fill;rw[h1,T.nj];rfl
 rw[h3,h1];simp;exact h2
theorem Tab.r{t:bF}{hs:List Int}(T:Tab t hs):rM t hs:=by
 refine⟨T.mask,T.size,T.rise,T.bound,T.nj,?_,T.reach⟩;have:=T.room;lia
theorem Qo{t:bF}(h:jr t.mask):t.gaveWay=false:=by
 unfold bF.gaveWay;rcases h with e|e|e<;>rw[e]<;>rfl
theorem Qn(n:Nat){v:δ}(h:carriedByValue v=true):ofAClassStatement n v=pure false:=by
 cases v with
 |ref a=>simp[carriedByValue] at h
 |_=>first|rfl|(cases n<;>rfl)
theorem ID{ks:List Int}{a:ε}{Q:Bool->η->Prop}(hx:iH prog w s.heap ks a)(h:Q false s):ρ (model prog w) A (ofAClassStatement 8 (.ref a)) Q E s:=by
 have hT:=hx.typeIs;obtain⟨o,items,n,ho,hc,hd,hi⟩:=hx;unfold ofAClassStatement;refine γ (jd hT ?_);dsimp only;rw[if_pos (by decide)];refine γ (ι ?_);rw[if_neg (by decide)];refine γ (dC ho hd ?_);dsimp only;refine γ ?_;rw[←r0];refine kg _ (fun rest r s'=>r.1=none/\s'=s/\∀v∈rest,carriedByValue v=true) _ ?_ ?_ _ _ ⟨rfl,rfl,hi.byValue⟩
 ·rintro v rest r s' ⟨hr,rfl,hall⟩;rw[Qn _ (hall v Ψ)];refine γ (ι ?_);rw[if_neg ao];exact ι ⟨rfl,rfl,fun u hu'=>hall u (Θ _ hu')⟩
 ·rintro⟨r1,r2⟩ s' ⟨hr,rfl,_⟩;simp only at hr;subst hr;exact ι h
theorem Qm{ks:List Int}{a:ε}{Q:Bool->η->Prop}(hx:iH prog w s.heap ks a)(l:List δ)(hl:∀v∈l,∃k y,v=.ref y/\iH prog w s.heap k y)(h:Q false s):
  ρ (model prog w) A (searchCouldBeSeen (.ref a) l) Q E s:=by
 unfold searchCouldBeSeen;refine γ ?_;refine kg _ (fun rest r s'=>r.1=none/\s'=s/\∀v∈rest,∃k y,v=.ref y/\iH prog w s.heap k y) _ ?_ ?_ _ _ ⟨rfl,rfl,hl⟩
 ·rintro v rest r s' ⟨hr,rfl,hall⟩;obtain⟨k,y,rfl,hy⟩:=hall v Ψ;have hrest:∀v∈rest,∃k y,v=aV y/\iH prog w s'.heap k y:=fun v hv=>hall v (Θ _ hv);dsimp only;by_cases hc:((a==y)||(carriedByValue (.ref a)&&carriedByValue (.ref y)))=true
  ·rw[if_pos hc];exact ι ⟨rfl,rfl,hrest⟩
  ·rw[if_neg hc];refine γ (wpAny_eqIsQuiet_tuple hx ?_);rw[if_neg (by decide)];refine γ (wpAny_eqIsQuiet_tuple hy ?_);rw[if_neg (by decide)];refine γ (ID hx ?_);rw[if_neg ao];refine γ (ID hy ?_);rw[if_neg ao];exact ι ⟨rfl,rfl,hrest⟩
 ·rintro⟨r1,r2⟩ s' ⟨hr,rfl,_⟩;simp only at hr;subst hr;exact ι h
theorem Ql{ks:List Int}{a:ε}{Q:Bool->η->Prop}(hx:iH prog w s.heap ks a)(h:Q true s):ρ (model prog w) A (hashByValue 8 (.ref a)) Q E s:=by
 have hT:=hx.typeIs;obtain⟨o,items,n,ho,hc,hd,hi⟩:=hx;unfold hashByValue;refine γ (wpAny_specialOf hT F.slot_tuple_hash.lookup ?_);dsimp only;refine γ (dC ho hd ?_);refine γ ?_;show ρ _ _ (forIn items _ _) _ _ s;rw[←r0];refine kg _ (fun rest r s'=>r.1=none/\s'=s/\∃l,ItemsAre (intKind prog w) l rest) _ ?_ ?_ _ _ ⟨rfl,rfl,ks,hi⟩
 ·rintro v rest r s' ⟨hr,rfl,l,hl⟩;cases hl with
  |@cons k v' _ _ h1 h2=>
   obtain⟨tk,rfl⟩:=gY (k:=k) h1;have e:hashByValue 7 (.int k tk)=pure true:=by rfl
   rw[e];refine γ (ι ?_);rw[if_neg (by decide)];exact ι ⟨rfl,rfl,_,h2⟩
 ·rintro⟨r1,r2⟩ s' ⟨hr,rfl,_⟩;simp only at hr;subst hr;exact ι h
theorem Qk{es:Array (Int×δ)}{xs:List (List Int×ε)}(he:es.toList=xs.map (ent prog w)){i:Nat}(hi:i<es.size):∃p,xs[i]?=some p/\es[i]?=some (ent prog w p):=by
 have hl:xs.length=es.size:=by
  have:=congrArg eJ he;simpa using this.symm
 obtain⟨p,hp⟩:∃p,xs[i]?=some p:=⟨xs[i]'(by lia),ar (by lia)⟩;refine⟨p,hp,?_⟩;rw[←aR,he,ag,hp];rfl
theorem IC{a:ε}{o:aN}{es:Array (Int×δ)}{ep:Nat}{t:bF}{xs:List (List Int×ε)}(S:lT prog w s.heap a o es ep t xs)(T:Tab t (es.toList.map (·.1)))(hu:A.units<cLine)
  {ks:List Int} {x:ε} (hx:iH prog w s.heap ks x) {ke:Nat} (hke:ke≤10*t.mask+130) (hemp:(sq t.mask (hk prog w ks) ke).j∉t.place.toList) (hliv:∀k,k<ke->(sq t.mask (hk prog w ks) k).j∈t.place.toList)
  {Q:SetFound->η->Prop} (hin:ks∈xs.map (·.1)->Q (.there none) s) (hout:ks∉xs.map (·.1)->Q (.free (sq t.mask (hk prog w ks) ke).j false) s):
  ∀(fuel n:Nat) (stand:Option bF.Probe),stand.getD (t.probeStart (hk prog w ks))=sq t.mask (hk prog w ks) n->n≤ke->ke-n<fuel ->
   (∀(k' i':Nat) p,k' < n->t.place[i']?=some (sq t.mask (hk prog w ks) k').j->xs[i']?=some p->p.1≠ks) ->
   ρ (model prog w) A (setSearchFrom a (.ref x) (hk prog w ks) true fuel stand) Q E s
 |0,n,stand,_,_,hf,_=>by lia
 |fuel+1,n,stand,hst,hn,hf,hprev=>by
  have hsz:t.place.size=es.size:=by
   have:=T.size
   rw[wo] at this
   exact this
  have hfit:=tD (Tab.r T)
  have hal:∀(i:Nat) (p:List Int×ε),xs[i]?=some p->((es[i]?).map fun z:Int×δ=>z.1).getD 0=hk prog w p.1:=fun i p hp=>by
   rw[←aR,S.ents,ag,hp]
   rfl
  unfold setSearchFrom
  refine γ (cO S.at_ S.dat hfit ?_)
  dsimp only
  rw[Qo T.mask,if_neg ao,hst]
  obtain⟨met,e,m⟩:=Qs T (hashAt:=fun i=>((es[i]?).map fun z:Int×δ=>z.1).getD 0) hke hemp hliv hn
  erw [e]
  dsimp only
  cases m with
  |free h1 h5=>
   dsimp only
   refine ι (hout fun hmem=>?_)
   obtain⟨p,hp,rfl⟩:=aP.mp hmem
   obtain⟨i,hi⟩:=dD hp
   have hil:i<es.size:=by
    have h1:=(aw.mp hi).1
    have h2:=congrArg eJ S.ents
    simp at h2
    lia
   have hj:∃j,t.place[i]?=some j:=⟨t.place[i]'(by lia),by simp⟩
   obtain⟨j,hj⟩:=hj
   have hz:(j,hk prog w p.1)∈t.place.toList.zip (es.toList.map (·.1)):=by
    refine bN (i:=i) ?_
    rw[ny]
    refine⟨by rw[aR];exact hj,?_⟩
    rw[S.ents,bH,ag,hi]
    rfl
   obtain⟨k,hk1,hk2⟩:=T.reach _ _ hz
   have hkke:k<ke:=by
    refine aD fun z=>hemp ?_
    by_cases q:k=ke
    ·rw[←q,hk1]
     exact bN (by rw[aR];exact hj)
    ·exact hk2 ke (by lia)
   rw[←hk1] at hj
   by_cases hkn:k<n
   ·exact hprev k i p hkn hj hi rfl
   ·exact h5 k i (by lia) hkke hj (hal i p hi)
  |@zQ k i h1 h2 h3 h4 h5=>
   dsimp only
   have hil:i<es.size:=by
    have:=(br.mp h3).1
    lia
   obtain⟨p,hp,hesi⟩:=Qk S.ents hil
   have hyk:=S.keys p (bN hp)
   have hpk:p∈xs:=bN hp
   have go:ρ (model prog w) A (do
     let some (_,y):=es[i]? | unsupported "internal:set-entry"
     let equal ←holding [y] (eqBool y (.ref x))
     let (es',_,t') ←setState a
     if true&&equal then return .there none
     let some same:=t'.sameMemory t.moves t.mask|unsupported "set.changed-during-lookup:is-the-new-block-at-the-old-address"
     let still ←match (if same then t'.slot (sq t.mask (hk prog w ks) k).j else .empty) with
      |.live i'=>match es'[i']? with
       |some (_,y')=>do pure (if ←isSame y' y then some i' else none)
       |none=>pure none
      |_=>pure none
     match still with
     |none=>rule "set.search.anew";setSearchFrom a (.ref x) (hk prog w ks) true fuel none
     | some i'=>if equal then return .there (some i') else setSearchFrom a (.ref x) (hk prog w ks) true fuel (some (sq t.mask (hk prog w ks) (k+1)))) Q E s:=by
    rw[hesi]
    dsimp only[ent]
    refine γ (cp (wpAny_eqBool_tuple hu hyk hx ?_))
    refine γ (cO S.at_ S.dat hfit ?_)
    dsimp only
    by_cases heq:p.1=ks
    ·rw[decide_eq_true heq,if_pos (by decide)]
     exact ι (hin (aP.mpr ⟨p,hpk,heq⟩))
    ·rw[decide_eq_false heq,if_neg (by decide)]
     have hsm:t.sameMemory t.moves t.mask=some true:=by unfold bF.sameMemory;simp
     rw[hsm]
     dsimp only
     rw[if_pos rfl,IJ T.rise h3]
     dsimp only
     rw[hesi]
     dsimp only[ent]
     refine γ (wpAny_isSame_ref_self ?_)
     rw[if_pos rfl]
     refine γ (ι ?_)
     dsimp only
     rw[if_neg ao]
     refine IC S T hu hx hke hemp hliv hin hout fuel (k+1) _ rfl (by lia) (by lia) fun k' i' p' hk' hpl hp'=>?_
     by_cases hkn:k' < n
     ·exact hprev k' i' p' hkn hpl hp'
     ·by_cases hkk:k'=k
      ·subst hkk
       have e1:=below_at T.rise h3
       have e2:=below_at T.rise hpl
       have:i'=i:=by lia
       subst this
       rw[hp] at hp'
       cases hp'
       exact heq
      ·intro he
       exact h5 k' i' (by lia) (by lia) hpl (by rw[hal i' p' hp',he])
   by_cases hled:t.led=true
   ·rw[hled]
    rw[if_neg (by decide)]
    exact go
   ·have hled':t.led=false:=by simpa using hled
    rw[hled']
    rw[if_pos (by decide)]
    refine γ (Qm hx _ (fun v hv=>?_) ?_)
    ·obtain⟨e0,he0,rfl⟩:=aP.mp hv
     have he1:e0∈es.toList:=by
      have:=qH.mp he0
      exact qH.mpr (Array.mem_filter.mp this).1
     rw[S.ents] at he1
     obtain⟨p0,hp0,rfl⟩:=aP.mp he1
     exact⟨p0.1,p0.2,rfl,S.keys p0 hp0⟩
    ·rw[if_neg ao]
     exact go
end
end ja
namespace ja
open PySem nQ
section
variable {prog:aG} {w:aQ} {A:bT} {E:δ->η->Prop} {s:η}
def lS(prog:aG)(w:aQ)(h:ay)(a:ε)(xs:List (List Int×ε)):Prop:=
 ∃o es ep t,lT prog w h a o es ep t xs/\Tab t (es.toList.map (·.1))
theorem ym{h h':ay}{a y:ε}{ks:List Int}{o:aN}{es:Array (Int×δ)}{ep:Nat}{t:bF}(ho:h.get? a=some o)(hd:o.data=.set es ep t)(sb:cJ a h h')(hy:iH prog w h ks y):iH prog w h' ks y:=by
 obtain⟨oy,items,n,hoy,hc,hdy,hi⟩:=hy;have ne:y≠a:=by
  intro e;subst e;rw[ho] at hoy;cases hoy;rw[hd] at hdy;cases hdy
 exact⟨oy,items,n,(sb.2 y ne).trans hoy,hc,hdy,hi⟩
theorem HI{h:ay}{a:ε}{o:aN}{es es':Array (Int×δ)}{ep:Nat}{t t':bF}(ho:h.get? a=some o)(hd:o.data=.set es ep t):
  (h.update a (nv es' t')).get? a=some { o with data:=.set es' (ep+1) t' }:=by
 have q:=fK (nv es' t') ho (by rw[putSet_of es' t' hd];rfl);rw[putSet_of es' t' hd] at q;exact q
theorem Qj:∀n,n<8->5≤n->mo (hJ n)=32:=by decide +kernel
theorem Qi:∀n,n<32->19≤n->mo (hJ n)=128:=by decide +kernel
theorem Qh{t:bF}{hs:List Int}(T:rM t hs)(hf:t.tooFull=true)(h64:hs.length≤64):∃m,mo (hJ hs.length)=m+1/\jr m/\hs.length*5<m*3/\m+1≤128:=by
 have hfill:t.fill=hs.length:=by
  unfold bF.fill;rw[T.size,T.nj];rfl
 have h':hs.length*5≥t.mask*3:=by
  unfold bF.tooFull at hf;rw[hfill] at hf;simpa using hf
 have hfit:=T.JR;rcases T.mask with e|e|e
 ·rw[e] at h' hfit;exact⟨31,Qj _ (by lia) (by lia),.inr (.inl rfl),by lia,by lia⟩
 ·rw[e] at h' hfit;exact⟨127,Qi _ (by lia) (by lia),.inr (.inr rfl),by lia,by lia⟩
 ·rw[e] at h';lia
theorem QZ{α β:Type}(f:α->β)(l:List α)(o:List Nat):(o.filterMap fun k=>(l.map f)[k]?)=(o.filterMap fun k=>l[k]?).map f:=by
 rw[rT];congr 1;funext k;rw[ag]
theorem QY{a:ε}{o:aN}{es:Array (Int×δ)}{ep:Nat}{t:bF}{xs:List (List Int×ε)}(S:lT prog w s.heap a o es ep t xs)(T:rM t (es.toList.map (·.1)))(hf:t.tooFull=true)(h64:es.size≤64)
  {Q:Unit->η->Prop} (h:∀h' xs',cJ a s.heap h'->lS prog w h' a xs'->xs'.Perm xs->Q () { s with heap:=h' }):
  ρ (model prog w) A (setRelay a (hJ es.size)) Q E s:=by
 have hsz:(es.toList.map (·.1)).length=es.size:=wo
 obtain⟨m,hm1,hm2,hm3,hm4⟩:=Qh T hf (by rw[hsz];exact h64)
 rw[hsz] at hm1 hm3
 unfold setRelay
 refine γ (cO S.at_ S.dat (tD T) ?_)
 dsimp only
 rw[hm1,if_neg (by rw[cy];lia)]
 obtain⟨t2,order,e2,em,el,ep2,ef,hperm,T2⟩:=Qp (finger:=t.finger) (moves:=t.movedTo m) (led:=t.led) (plain:=t.plain) hm2 (es.map (·.1)) (by simpa using hm3)
 have erel:t.relaid (es.map (·.1)) (hJ es.size)=some (t2,order):=by
  unfold bF.relaid
  rw[hm1,mw]
  exact e2
 have hosz:(es.map (·.1)).size=es.size:=by simp
 rw[hosz] at hperm
 have hes2:(order.filterMap (es[·]?)).toList=(order.toList.filterMap fun k=>xs[k]?).map (ent prog w):=by
  rw[pG,←QZ,←S.ents]
  congr 1
  funext k
  rw[aR]
 have hxl:xs.length=es.size:=by
  have:=congrArg eJ S.ents
  simpa using this.symm
 have hxp:(order.toList.filterMap fun k=>xs[k]?).Perm xs:=by
  have:=hperm.filterMap fun k=>xs[k]?
  rw[←hxl,BY] at this
  exact this
 have hsz2:(order.filterMap (es[·]?)).size=es.size:=by
  have:=congrArg eJ hes2
  simp only[ξ] at this
  rw[hxp.length_eq,hxl] at this
  rw[←fj]
  exact this
 refine γ ?_
 show ρ _ _ (do
  let some (t,order):=t.relaid (es.map (·.1)) (hJ es.size)|unsupported "internal:set-table-without-room"
  let es':=order.filterMap (es[·]?)
  if es'.size != es.size then unsupported "internal:set-table-lost-an-element"
  pure (es',t)) _ _ _
 rw[erel]
 dsimp only
 rw[hsz2,if_neg (by simp)]
 refine ι ?_
 dsimp only
 refine wpAny_storeSet_of S.at_ S.dat ?_ (by rw[hsz2,cy];lia)
 have sb:=cN s.heap a (nv (order.filterMap (es[·]?)) t2)
 refine h _ _ sb ⟨_,_,_,_,⟨HI S.at_ S.dat,⟨S.ex.1,S.ex.2.1,S.ex.2.2⟩,rfl,hes2,fun p hp=>ym S.at_ S.dat sb (S.keys p (hxp.mem_iff.mp hp)),?_,ep2.trans S.plain,el.trans S.led⟩,?_⟩ hxp
 ·exact (hxp.map _).nodup_iff.mpr S.nd
 ·have eT:(order.filterMap (es[·]?)).toList.map (·.1)=order.toList.filterMap fun k=>(es.map (·.1))[k]?:=by
   rw[pG,rT]
   congr 1
   funext k
   simp
  rw[eT]
  exact T2
theorem QX{a:ε}{xs:List (List Int×ε)}(S:lS prog w s.heap a xs)(h64:xs.length<64)(hu:A.units<cLine){ks:List Int}{x:ε}(hx:iH prog w s.heap ks x)
  {Q:Bool->η->Prop} (h:∀b h' tk xs',s.toks≤tk->cJ a s.heap h'->lS prog w h' a xs'->(ks∈xs.map (·.1)->xs'.Perm xs)->(ks∉xs.map (·.1)->xs'.Perm ((ks,x)::xs))->Q b { s with heap:=h',toks:=tk }):
  ρ (model prog w) A (setAdd a (.ref x)) Q E s:=by
 obtain⟨o,es,ep,t,S,T⟩:=S;have hxl:xs.length=es.size:=by
  have:=congrArg eJ S.ents;simpa using this.symm
 unfold setAdd;refine cp (γ (wpAny_pyHash_tuple hu hx ?_));unfold setAddHashed;refine cp ?_;have lI:∀b h' xs',cJ a s.heap h'->lS prog w h' a xs'->(ks∈xs.map (·.1)->xs'.Perm xs)->(ks∉xs.map (·.1)->xs'.Perm ((ks,x)::xs))->Q b { s with heap:=h',toks:=s.toks+(ks.length+1)}:=
  fun b h' xs' q1 q2 q3 q4=>h b h' _ xs' (fk _ _) q1 q2 q3 q4
 obtain⟨ke,hke,hemp,hliv⟩:=Qt T (hk prog w ks);unfold setAddHashedIn;refine γ (cO (s:={ s with toks:=s.toks+(ks.length+1)}) S.at_ S.dat (tD (Tab.r T)) ?_);dsimp only;rw[show byScan (.ref x) es=false from rfl,if_neg ao];refine γ ?_;unfold setSearch;refine IC (s:={ s with toks:=s.toks+(ks.length+1)}) S T hu hx hke hemp hliv (fun hin=>?_) (fun hout=>?_) 100000 0 none rfl (aB _) (by rcases T.mask with e|e|e<;>rw[e] at hke<;>lia) fun k' i' p hk'=>absurd hk' (Nat.not_lt_zero _)
 ·dsimp only;exact ι (lI false s.heap xs (.refl _ _) ⟨o,es,ep,t,S,T⟩ (fun _=>.refl _) fun z=>absurd hin z)
 ·dsimp only;refine γ (cO (s:={ s with toks:=s.toks+(ks.length+1)}) S.at_ S.dat (tD (Tab.r T)) ?_);dsimp only;rw[Qr T.nj];dsimp only;rw[S.plain,if_pos rfl];refine γ (Ql (s:={ s with toks:=s.toks+(ks.length+1)}) hx ?_);rw[if_pos rfl];have TR:=T.put hemp hliv;generalize hp:hU t.place (sq t.mask (hk prog w ks) ke).j=p at TR ⊢;have hes1:(bP es p (hk prog w ks,aV x)).toList=(xs.take p++(ks,x)::xs.drop p).map (ent prog w):=by
   rw[tE,S.ents,bB,aq,j8,j9];rfl
  have hhs:(bP es p (hk prog w ks,aV x)).toList.map (·.1)=(es.toList.map (·.1)).take p++hk prog w ks::(es.toList.map (·.1)).drop p:=by
   rw[tE,bB,aq,j8,j9]
  have hsz1:(bP es p (hk prog w ks,aV x)).size=es.size+1:=by
   rw[←fj,tE,(uH p es.toList _).length_eq,ax,fj]
  rw[←hhs] at TR;refine γ (wpAny_storeSet_of (s:={ s with toks:=s.toks+(ks.length+1)}) S.at_ S.dat ?_ (by rw[hsz1,cy];lia));have sb:=cN s.heap a (nv (bP es p (hk prog w ks,aV x)) { t with place:=bP t.place p (sq t.mask (hk prog w ks) ke).j,dummies:=#[],plain:=true });have hpx:(xs.take p++(ks,x)::xs.drop p).Perm ((ks,x)::xs):=uH p xs _;have S1:lT prog w (s.heap.update a (nv (bP es p (hk prog w ks,aV x)) { t with place:=bP t.place p (sq t.mask (hk prog w ks) ke).j,dummies:=#[],plain:=true })) a { o with data:=.set (bP es p (hk prog w ks,aV x)) (ep+1) { t with place:=bP t.place p (sq t.mask (hk prog w ks) ke).j,dummies:=#[],plain:=true }} (bP es p (hk prog w ks,aV x)) (ep+1)
    { t with place:=bP t.place p (sq t.mask (hk prog w ks) ke).j,dummies:=#[],plain:=true } (xs.take p++(ks,x)::xs.drop p):=by
   refine⟨HI S.at_ S.dat,⟨S.ex.1,S.ex.2.1,S.ex.2.2⟩,rfl,hes1,fun q hq=>?_,?_,rfl,S.led⟩
   ·rcases az.mp (hpx.mem_iff.mp hq) with e|e
    ·rw[e];exact ym S.at_ S.dat sb hx
    ·exact ym S.at_ S.dat sb (S.keys q e)
   ·refine (hpx.map _).nodup_iff.mpr ?_;rw[aq,dN];exact⟨hout,S.nd⟩
  have TR':rM { t with place:=bP t.place p (sq t.mask (hk prog w ks) ke).j,dummies:=#[],plain:=true } ((bP es p (hk prog w ks,aV x)).toList.map (·.1)):=
   ⟨TR.mask,TR.size,TR.rise,TR.bound,TR.nj,TR.JR,TR.reach⟩
  by_cases hfull:({ t with place:=bP t.place p (sq t.mask (hk prog w ks) ke).j,dummies:=#[],plain:=true }:bF).tooFull=true
  ·rw[hfull,if_pos (by decide)];refine γ ?_;rw[←hsz1];refine QY (s:={ s with heap:=s.heap.update a _,toks:=s.toks+(ks.length+1)}) S1 TR' hfull (by rw[hsz1];lia) fun h' xs' sb' S2 pm=>?_;exact ι (lI true h' xs' (sb.trans sb') S2 (fun z=>absurd z hout) fun _=>pm.trans hpx)
  ·have hfull':({ t with place:=bP t.place p (sq t.mask (hk prog w ks) ke).j,dummies:=#[],plain:=true }:bF).tooFull=false:=by simpa using hfull
   rw[hfull',if_neg (by decide)];exact ι (lI true _ _ sb ⟨_,_,_,_,S1,TR'.tab hfull'⟩ (fun z=>absurd z hout) fun _=>hpx)
end
end ja
namespace ja
open PySem nQ
theorem gE:Slot "set_iterator" "__next__" "set_iterator.__next__":=
 .of (owner:="set_iterator") (n:="__next__")
  (by rw[typeLookup_type,builtinLookup_eq_fast];kernel_rfl)
  (by decide +kernel) (by decide +kernel) (by decide +kernel)
  (by first|exact .inl (by decide +kernel)|exact .inr (by decide +kernel))
  (by rw[pP];kernel_rfl)
theorem HH:Slot "set_iterator" "__iter__" "set_iterator.__iter__":=
 .of (owner:="set_iterator") (n:="__iter__")
  (by rw[typeLookup_type,builtinLookup_eq_fast];kernel_rfl)
  (by decide +kernel) (by decide +kernel) (by decide +kernel)
  (by first|exact .inl (by decide +kernel)|exact .inr (by decide +kernel))
  (by rw[pP];kernel_rfl)
theorem HG:entryFor table "set_iterator.__next__" = some dP.«set_iterator.__next__»:=entryFor_of_tree (by kernel_rfl)
theorem QV:entryFor table "set.__iter__" = some dP.«frozenset.__iter__»:=
 pR (id':="frozenset.__iter__") (by rw[fastTable_eq_tree];kernel_rfl) (by decide +kernel) (by decide +kernel) (by rw[fastTable_eq_tree];kernel_rfl)
theorem HF:Manifest.owners.lookup (String.ofList ['r','o','t','a','r','e','t','i','_','t','e','s'].reverse)=some Manifest.sig_set_iterator:=by kernel_rfl
theorem HE(a:δ):argsOk "set_iterator.__next__" ⟨[a],[]⟩:=by
 unfold argsOk;rw[signature?_of (id:="set_iterator.__next__") (n:=['_','_','t','x','e','n','_','_']) (o:=['r','o','t','a','r','e','t','i','_','t','e','s']) (by kernel_rfl) HF]
 kernel_rfl
theorem HD{α:Type}(next:Nat->Nat):∀(fuel k:Nat) (left:List α) (out:Array α),left.length≤fuel->(pickOrder.go next fuel k left out).toList.Perm (out.toList++left)
 |0,k,left,out,h=>by
  have:left=[]:=dG.mp (by lia);subst this;show out.toList.Perm (out.toList++[]);rw[cU]
 |fuel+1,k,left,out,h=>by
  unfold pickOrder.go;cases hl:left[next k%left.length]? with
  |none=>
   have:left=[]:=by
    cases left with
    |nil=>rfl
    |cons a l=>
     have:=dU (next k) (show 0<(a::l).length by simp)
     rw[ar this] at hl;cases hl
   subst this;show out.toList.Perm (out.toList++[]);rw[cU]
  |some x=>
   have hlt:=(aw.mp hl).1;have ih:=HD next fuel (k+1) (left.eraseIdx (next k%left.length)) (out.push x) (by rw[List.length_eraseIdx];split<;>lia)
   refine ih.trans ?_;rw[Array.toList_push,e7];refine List.Perm.append_left _ ?_;obtain⟨_,e⟩:=aw.mp hl;rw[←e,gB];have q:=List.perm_middle (a:=left[next k%left.length]) (l₁:=left.take (next k%left.length)) (l₂:=left.drop (next k%left.length+1))
   rw[pD,ia] at q;exact q.symm
theorem QU{α:Type}(next:Nat->Nat)(xs:Array α):(pickOrder next xs).toList.Perm xs.toList:=by
 have:=HD next xs.size 0 xs.toList #[] (by simp)
 unfold pickOrder;simpa using this
def jP(w:aQ):Bool:=w.params.followText "set-order"
def iu(w:aQ)(a:ε)(ep:Nat)(es:Array (Int×δ)):List (Int×δ):=if jP w then (pickOrder (w.params.setOrder a ep) es).toList else es.toList
theorem nc(w:aQ)(a:ε)(ep:Nat)(es:Array (Int×δ)):(iu w a ep es).Perm es.toList:=by
 unfold iu;split
 ·exact QU _ _
 ·exact .refl _
def lU(h:ay)(it a:ε)(slot i n ep:Nat):Prop:=h.get? it=some { cls:=.type "set_iterator",data:=.fields #[rawInt slot,rawInt i,.ref a,rawInt n,rawInt ep]}
def pK(w:aQ)(t:bF)(slot i:Nat):Prop:=jP w=true∨hU t.place slot=i
section
variable {prog:aG} {w:aQ} {A:bT} {E:δ->η->Prop} {s:η}
theorem BX{Q:Bool->η->Prop}(h:Q (jP w) s):ρ (model prog w) A setsByText Q E s:=by
 unfold setsByText;exact γ (nS (ι h))
theorem QR{a:ε}{o:aN}{es:Array (Int×δ)}{ep:Nat}{t:bF}(S:kH w s.heap a o es ep t)(T:Tab t (es.toList.map (·.1)))
  {Q:δ->η->Prop} (h:Q (.ref s.heap.objs.size) { s with heap:=s.heap.push { cls:=.type "set_iterator",data:=.fields #[rawInt (0:Nat),rawInt (0:Nat),.ref a,rawInt es.size,rawInt ep]}}):
  ρ (model prog w) A (pyIter (.ref a)) Q E s:=by
 have hT:s.TypeIs (.ref a) "set":=⟨o,S.at_,S.ex.1⟩;have hfit:=tD (Tab.r T);refine jK hT F.slot_set_iter (bW F.slot_set_iter hT QV ?_ (F.args_set_iter_1 _));unfold dP.«frozenset.__iter__»;show ρ _ _ (oC "__iter__" ⟨[.ref a],[]⟩ >>= _) _ _ s;refine γ (m:=oC "__iter__" ⟨[.ref a],[]⟩) (jT (a:=a) rfl ?_);unfold dP.Frozenset.sizeOf setEntries;refine γ (γ (γ (cO S.at_ S.dat hfit (ι (ι ?_)))));unfold setDrawn;refine γ (γ (cO S.at_ S.dat hfit ?_));refine γ (BX (ι ?_));have hnd:(!jP w&&(!t.plain&&decide (es.size > 1)))=false:=by rw[S.plain];simp
 show ρ _ _ (if (!jP w&&(!t.plain&&decide (es.size > 1)))=true then _ else _) _ _ s;rw[hnd,if_neg ao];refine γ (ι ?_);refine γ (wpAny_setEpoch_of S.at_ S.dat hfit ?_);refine γ ?_;unfold newFields;refine bI ?_;refine ι ⟨_,rfl,"set_iterator",_,⟨_,Φ _ rfl,rfl⟩,gE.lookup,h⟩
theorem HC{a:ε}{o:aN}{es:Array (Int×δ)}{ep:Nat}{t:bF}(S:kH w s.heap a o es ep t)(T:Tab t (es.toList.map (·.1))){slot i:Nat}(hsl:pK w t slot i)
  {Q:Option (δ×Nat)->η->Prop} (h1:∀p slot',(iu w a ep es)[i]?=some p->pK w t slot' (i+1)->Q (some (p.2,slot')) s) (h2:(iu w a ep es)[i]?=none->Q none s):
  ρ (model prog w) A (setNext a slot i ep) Q E s:=by
 have hfit:=tD (Tab.r T);have hsz:t.place.size=es.size:=by
  have:=T.size;rw[wo] at this;exact this
 unfold setNext;refine γ (cO S.at_ S.dat hfit ?_);dsimp only;refine γ (BX ?_);unfold iu at h1 h2;cases hbt:jP w with
 |true=>
  rw[hbt] at h1 h2;rw[if_pos rfl];simp only[if_true,aR] at h1 h2;rw[if_neg (by simp)];unfold setWalk;refine γ (γ (cO S.at_ S.dat hfit ?_));dsimp only;refine γ (BX ?_);rw[hbt,if_pos rfl];refine γ (nS (ι ?_));refine ι ?_;show Q (ug (fun e=>(e.snd,slot)) (pickOrder (w.params.setOrder a ep) es)[i]?) s;cases hp:(pickOrder (w.params.setOrder a ep) es)[i]? with
  |none=>exact h2 hp
  |some p=>exact h1 p slot hp (.inl hbt)
 |false=>
  rw[hbt] at h1 h2;rw[if_neg ao];simp only[cZ,if_false,aR] at h1 h2;have hled:t.led=true:=by
   rw[S.led];show (!jP w)=true;rw[hbt];rfl
  have hb:hU t.place slot=i:=by
   rcases hsl with z|z
   ·rw[hbt] at z;cases z
   ·exact z
  have hnd:(!t.plain&&decide (es.size > 1))=false:=by rw[S.plain];simp
  show ρ _ _ (if (!t.plain&&decide (es.size > 1))=true then _ else _) _ _ s;rw[hnd,if_neg ao];refine γ ?_;show ρ _ _ (if (!t.led && !es.isEmpty)=true then _ else _) _ _ s;rw[hled,if_neg (by simp)];refine ι ?_;rw[hb];cases hp:es[i]? with
  |none=>
   refine ι ?_;have hpl:t.place[i]?=none:=by
    have:=iK.mp hp;exact iK.mpr (by lia)
   exact h2 hp
  |some p=>
   have hil:=(br.mp hp).1;have hj:t.place[i]?=some (t.place[i]'(by lia)):=by simp[hsz,hil]
   rw[hj];obtain⟨ph,pv⟩:=p;refine ι (h1 (ph,pv) _ hp (.inr ?_))
   -- the next place
   obtain⟨b0,b1,b2⟩:=yn (j:=t.place[i]'(by lia)+1) T.rise;refine aD fun hne=>?_;by_cases hlt:hU t.place (t.place[i]'(by lia)+1)≤i
   ·have:=b2 i _ hlt hj;lia
   ·have hgt:i+1<hU t.place (t.place[i]'(by lia)+1):=by lia
    have hi1:i+1<t.place.size:=by lia
    have e1:t.place[i+1]?=some (t.place[i+1]):=by simp[hi1]
    have q:=b1 (i+1) _ hgt e1;have pw:=fZ.mp T.rise i (i+1) (by simp;lia) (by simpa using hi1) (iz i);simp at pw;lia
theorem BW{it a:ε}{slot i n ep:Nat}(hit:lU s.heap it a slot i n ep):s.TypeIs (.ref it) "set_iterator":=⟨_,hit,rfl⟩
theorem HB{a it:ε}{o:aN}{es:Array (Int×δ)}{ep:Nat}{t:bF}(S:kH w s.heap a o es ep t)(T:Tab t (es.toList.map (·.1))){slot i:Nat}(hit:lU s.heap it a slot i es.size ep)
  {P:PySem.Fin->η->Prop} (h:ρ (model prog w) A (do
   match ←setNext a slot i ep with
   |some (x,next)=>
    setField (.ref it) 0 (rawInt next)
    setField (.ref it) 1 (rawInt ((i:Int)+1))
    ret x
   | none=>setField (.ref it) 2 .none;raiseNew (←newExc (.type "StopIteration") [])) P E s):
  ρ (model prog w) A (dP.«set_iterator.__next__» ⟨[.ref it],[]⟩) P E s:=by
 have hfit:=tD (Tab.r T);unfold dP.«set_iterator.__next__»;refine γ (m:=slotArgs "__next__" 0 ⟨[.ref it],[]⟩) (jT (a:=(.ref it,[])) rfl ?_);refine γ (pO hit rfl ?_);dsimp only[rawInt];unfold setEntries;refine γ (γ (cO S.at_ S.dat hfit (ι ?_)));rw[if_neg (by simp)];exact h
theorem QQ{a it:ε}{o:aN}{es:Array (Int×δ)}{ep:Nat}{t:bF}(S:kH w s.heap a o es ep t)(T:Tab t (es.toList.map (·.1))){slot i:Nat}(hsl:pK w t slot i)(hit:lU s.heap it a slot i es.size ep)
  {p:Int×δ} (hp:(iu w a ep es)[i]?=some p) {Q:Option δ->η->Prop}
  (h:∀h' slot',lU h' it a slot' (i+1) es.size ep->pK w t slot' (i+1)->cJ it s.heap h'->Q (some p.2) { s with heap:=h' }):ρ (model prog w) A (pyNext (.ref it)) Q E s:=by
 have hT:=BW hit;unfold pyNext;refine γ (iI (bZ (name:=eO "__next__") hT gE
  (bW gE hT HG (HB S T hit (γ (HC S T hsl (fun q slot' hq hs'=>?_) fun hn=>?_))) (HE _))))
 ·rw[hp] at hq;cases hq;dsimp only;refine γ (bQ hit (by simp) fun h1 e1 sb1=>?_);refine γ (bQ (s:={ s with heap:=h1 }) e1 (by simp) fun h2 e2 sb2=>?_)
  refine ι ⟨_,rfl,ι (h h2 slot' ?_ hs' (sb1.trans sb2))⟩;unfold lU;rw[e2];rfl
 ·rw[hp] at hn;cases hn
theorem QP{a it:ε}{o:aN}{es:Array (Int×δ)}{ep:Nat}{t:bF}(hh:A.handled=none)(S:kH w s.heap a o es ep t)(T:Tab t (es.toList.map (·.1))){slot i:Nat}(hsl:pK w t slot i)(hit:lU s.heap it a slot i es.size ep)
  (hp:(iu w a ep es)[i]?=none) {Q:Option δ->η->Prop}
  (h:∀h',sS it s.heap h'->Q none { s with heap:=h' }):ρ (model prog w) A (pyNext (.ref it)) Q E s:=by
 have hT:=BW hit;unfold pyNext;refine γ (iI (bZ (name:=eO "__next__") hT gE
  (bW gE hT HG (HB S T hit (γ (HC S T hsl (fun q slot' hq hs'=>?_) fun hn=>?_))) (HE _))))
 ·rw[hp] at hq;cases hq
 ·dsimp only;refine γ (bQ hit (by simp) fun h1 e1 sb1=>?_);refine γ ?_;simp only[newExc,newTuple];refine γ (bI ?_ (by size_fits));refine γ (m:=firstArgMember _ _) (jT (a:=b6) (by first|rfl|(simp only[firstArgMember];rfl)) ?_)
  refine bI ?_ (by size_fits);simp only[raiseNew];refine γ (qL ?_);rw[show A.in1.handled=none from hh];refine γ (ι (wpAny_throw ?_));refine γ (kf (T:="StopIteration") (b:=true) ⟨_,Φ _ rfl,rfl⟩ pQ ?_);refine ι (h _ fun b ob hb e=>?_);exact ν _ (ν _ ((sb1.2 b hb).trans e))
end
end ja
namespace ja
open PySem nQ
section
variable {prog:aG} {w:aQ} {A:bT} {E:δ->η->Prop} {s:η}
theorem lT.kept{h h':ay}{a:ε}{o:aN}{es:Array (Int×δ)}{ep:Nat}{t:bF}{xs:List (List Int×ε)}(S:lT prog w h a o es ep t xs)
  (k:∀b∈a::xs.map (·.2),∀ob,h.get? b=some ob->h'.get? b=some ob):lT prog w h' a o es ep t xs:=by
 refine⟨k a Ψ _ S.at_,S.ex,S.dat,S.ents,fun p hp=>?_,S.nd,S.plain,S.led⟩;obtain⟨oy,items,n,ho,r⟩:=S.keys p hp;exact⟨oy,items,n,k _ (Θ _ (aP.mpr ⟨p,hp,rfl⟩)) _ ho,r⟩
theorem kH.kept{h h':ay}{a:ε}{o:aN}{es:Array (Int×δ)}{ep:Nat}{t:bF}(S:kH w h a o es ep t)
  (k:∀b∈[a],∀ob,h.get? b=some ob->h'.get? b=some ob):kH w h' a o es ep t:=⟨k a Ψ _ S.at_,S.ex,S.dat,S.plain,S.led⟩
theorem kH.Jz{h:ay}{a it:ε}{o:aN}{es:Array (Int×δ)}{ep ep':Nat}{t:bF}{slot i n:Nat}{b:ε}(S:kH w h a o es ep t)(hit:lU h it b slot i n ep'):
  ∀c∈[a],c≠it:=fun c hc e=>by
 subst e;unfold lU at hit;rw[cH.mp hc,S.at_] at hit;cases hit;have:=S.dat;cases this
theorem QN(hh:A.handled=none){a it:ε}{o:aN}{es:Array (Int×δ)}{ep:Nat}{t:bF}(T:Tab t (es.toList.map (·.1))):
  Walks prog w A it ([it,a]) [it] es.size (fun i v=>∃p,(iu w a ep es)[i]?=some p/\v=p.2)
   (fun i h=>∃slot,lU h it a slot i es.size ep/\pK w t slot i/\kH w h a o es ep t) where
 sub:=fun b hb=>by
  have:b=it:=by simpa using hb
  simp[this]
 frame:=fun i h h' ⟨slot,h1,h2,h3⟩ k=>⟨slot,k it Ψ _ h1,h2,h3.kept fun b hb ob e=>k b (Θ _ hb) ob e⟩
 item:=fun i s Q E hi ⟨slot,h1,h2,h3⟩ hQ=>by
  have hlen:(iu w a ep es).length=es.size:=by rw[(nc w a ep es).length_eq];simp
  have hp:(iu w a ep es)[i]?=some ((iu w a ep es)[i]'(by lia)):=ar (by lia);refine QQ h3 T h2 h1 hp fun h' slot' q1 q2 sb=>?_;refine hQ _ h' s.toks ⟨_,hp,rfl⟩ ⟨slot',q1,q2,h3.kept fun b hb ob e=>(sb.2 b (h3.Jz h1 b hb)).trans e⟩ fun b ob hb e=>?_;exact (sb.2 b (by simpa using hb)).trans e
 done:=fun s Q E ⟨slot,h1,h2,h3⟩ hQ=>by
  have hlen:(iu w a ep es).length=es.size:=by rw[(nc w a ep es).length_eq];simp
  refine QP hh h3 T h2 h1 (cL.mpr (by lia)) fun h' q=>?_;exact hQ h' s.toks fun b ob hb e=>q b ob (by simpa using hb) e
 self:=fun i s Q E ⟨slot,h1,h2,h3⟩ h=>by
  have hT:=BW h1;refine jK hT HH (bW HH hT (b:=dP.«dict_keyiterator.__iter__») ?_ ?_ ?_)
  ·exact pR (id':="dict_keyiterator.__iter__") (by kernel_rfl) (by decide +kernel) (by decide +kernel) (by kernel_rfl)
  ·show ρ _ _ (ret (.ref it)) _ _ s;exact ι ⟨_,rfl,"set_iterator",_,hT,gE.lookup,h⟩
  ·unfold argsOk;rw[signature?_of (id:="set_iterator.__iter__") (n:=['_','_','r','e','t','i','_','_']) (o:=['r','o','t','a','r','e','t','i','_','t','e','s']) (by kernel_rfl) HF]
   kernel_rfl
theorem uj(hh:A.handled=none){a:ε}{o:aN}{es:Array (Int×δ)}{ep:Nat}{t:bF}(S:kH w s.heap a o es ep t)(T:Tab t (es.toList.map (·.1)))(h64:es.size≤64)
  {Q:List δ->η->Prop} (h:∀s',Moved [] (fun x y=>y=x) s s'->Q ((iu w a ep es).map (·.2)) s'):ρ (model prog w) A (collect (.ref a)) Q E s:=by
 have hT:s.TypeIs (.ref a) "set":=⟨o,S.at_,S.ex.1⟩;have hal:a<s.heap.objs.size:=Ω S.at_;unfold collect;refine γ (wpAny_runValue (gL F.entry_proto_collect ?_));rw[gf F.plain_proto_collect _];show ρ _ A.in1 (newList [] >>= fun q=>again (.builtin "list.__iadd__" ⟨[q,.ref a],[]⟩)) _ _ s;refine γ (bI ?_);refine ι ⟨mM F.plain_list_iadd _,gL F.entry_list_iadd ?_⟩;rw[gf F.plain_list_iadd _];show ρ _ A.in1 (mC (.ref s.heap.objs.size) (.ref a) (.ref s.heap.objs.size)) _ _ _;unfold mC;have S1:kH w (s.heap.push { cls:=.type "list",data:=.seq ([]:List δ).toArray }) a o es ep t:=S.kept fun b _ ob e=>ν _ e;have hT1:j6 { s with heap:=s.heap.push { cls:=.type "list",data:=.seq ([]:List δ).toArray }} (.ref a) "set":=⟨o,S1.at_,S.ex.1⟩;refine γ (jd hT1 ?_);have ne:s.heap.objs.size≠a:=eP hal;have e1:ox (.ref s.heap.objs.size) (.ref a)=false:=by simp[ox,ne]
 rw[if_neg (by rw[e1];decide)];refine γ (QR (s:={ s with heap:=s.heap.push { cls:=.type "list",data:=.seq ([]:List δ).toArray }}) S1 T ?_);have S2:=S1.kept (h':=(s.heap.push { cls:=.type "list",data:=.seq ([]:List δ).toArray }).push { cls:=.type "set_iterator",data:=.fields #[rawInt (0:Nat),rawInt (0:Nat),.ref a,rawInt es.size,rawInt ep]}) fun b _ ob e=>ν _ e;have hit:lU ((s.heap.push { cls:=.type "list",data:=.seq ([]:List δ).toArray }).push { cls:=.type "set_iterator",data:=.fields #[rawInt (0:Nat),rawInt (0:Nat),.ref a,rawInt es.size,rawInt ep]})
   (s.heap.push { cls:=.type "list",data:=.seq ([]:List δ).toArray }).objs.size a 0 0 es.size ep:=Φ _ rfl
 have hS0:((s.heap.push { cls:=.type "list",data:=.seq ([]:List δ).toArray }).push { cls:=.type "set_iterator",data:=.fields #[rawInt (0:Nat),rawInt (0:Nat),.ref a,rawInt es.size,rawInt ep]}).get? s.heap.objs.size
   = some { cls:=.type "list",data:=.seq ([]:List δ).toArray }:=ν _ (Φ _ rfl)
 have keep0:∀b ob,s.heap.get? b=some ob->((s.heap.push { cls:=.type "list",data:=.seq ([]:List δ).toArray }).push { cls:=.type "set_iterator",data:=.fields #[rawInt (0:Nat),rawInt (0:Nat),.ref a,rawInt es.size,rawInt ep]}).get? b=some ob:=
  fun b ob e=>ν _ (ν _ e)
 have hI:(s.heap.push { cls:=.type "list",data:=.seq ([]:List δ).toArray }).objs.size=s.heap.objs.size+1:=eE ..;generalize (s.heap.push { cls:=.type "list",data:=.seq ([]:List δ).toArray }).objs.size=it at hI hit ⊢;generalize ((s.heap.push { cls:=.type "list",data:=.seq ([]:List δ).toArray }).push { cls:=.type "set_iterator",data:=.fields #[rawInt (0:Nat),rawInt (0:Nat),.ref a,rawInt es.size,rawInt ep]})=hp at S2 hit hS0 keep0 ⊢;refine γ (cp ?_);have hT2:j6 { s with heap:=hp } (.ref a) "set":=⟨o,S2.at_,S.ex.1⟩;unfold dP.List.listLengthHint;refine γ (wpAny_specialOf hT2 F.slot_set_len.lookup ?_);generalize hid:("set.__len__":String)=id0;dsimp only;rw[show splitId id0=some ("set","__len__") from by subst hid;decide +kernel];subst hid;dsimp only;refine γ (kf (b:=true) hT2 (by rw[pP];kernel_rfl) ?_)
 rw[if_neg (by decide)];show ρ _ A.in1 (typeOf (.ref a) >>= _) _ _ _;refine γ (jd hT2 (ι ?_));show ρ _ A.in1 (rule "list.extend.makes-room" >>= fun _=>dP.List.listTouch (.ref s.heap.objs.size) >>= fun _=>again (.builtin "list.extend.loop" ⟨[.ref s.heap.objs.size,.ref it,.ref s.heap.objs.size],[]⟩)) _ _ _;refine γ (kJ (γ ?_));show ρ _ A.in1 (updateSeq s.heap.objs.size (·.push .none) >>= fun _=>updateSeq s.heap.objs.size (·.pop)) _ _ _;refine γ (wpAny_updateSeq (s:={ s with heap:=hp }) hS0 rfl ?_);have q1:=fK (bA (·.push b6)) hS0 rfl;refine wpAny_updateSeq (s:={ s with heap:=hp.update s.heap.objs.size (bA (·.push b6))}) q1 rfl ?_;have q2:=fK (bA (·.pop)) q1 rfl;have oth:∀b ob,b≠s.heap.objs.size->hp.get? b=some ob->((hp.update s.heap.objs.size (bA (·.push b6))).update s.heap.objs.size (bA (·.pop))).get? b=some ob:=
  fun b ob hb e=>(fx _ _ (eY hb)).trans ((fx _ _ (eY hb)).trans e)
 have q3:∃c,((hp.update s.heap.objs.size (bA (·.push b6))).update s.heap.objs.size (bA (·.pop))).get? s.heap.objs.size=some { cls:=.type "list",dict:=none,data:=.seq #[] c,slots:=#[]}:=⟨_,q2⟩;clear q2;generalize (hp.update s.heap.objs.size (bA (·.push b6))).update s.heap.objs.size (bA (·.pop))=hp2 at q3 oth ⊢;obtain⟨c0,q2⟩:=q3;have hfp:∀b∈[it,a],b≠s.heap.objs.size:=fun b hb e=>by
  rcases az.mp hb with z|z
  ·lia
  ·have hlt:b<s.heap.objs.size:=by
    rw[cH.mp z];exact hal
   lia
 have W:=(QN (prog:=prog) (w:=w) (A:=A.in1) (by simpa using hh) (it:=it) (a:=a) (o:=o) (ep:=ep) T).toS;refine ι ⟨mM F.plain_extend_loop _,codeAny_extend_loopS W (by rw[cy];lia) _ (fun hm=>hfp _ hm rfl) _ es.size 0 _ _ _ rfl (aB _) ?_ q2 (ItemsOf.nil _) fun s' acc' c' hm hS' hacc=>?_⟩
 ·refine⟨0,oth _ _ (hfp _ Ψ) hit,?_,S2.kept fun b hb ob e=>oth b ob (hfp b (Θ _ hb)) e⟩;by_cases hb:jP w=true
  ·exact .inl hb
  ·refine .inr ?_;obtain⟨b0,b1,b2⟩:=yn (j:=0) T.rise;refine aD fun hne=>?_;have hpos:0<hU t.place 0:=by lia
   have h0:0<t.place.size:=by lia
   have:=b1 0 (t.place[0]) hpos (by simp[h0]);lia
 ·show ρ _ A (load s.heap.objs.size >>= _) _ _ s';refine γ (wpAny_load hS' ?_);refine ι ?_;have hlen:(iu w a ep es).length=es.size:=by rw[(nc w a ep es).length_eq];simp
  have eacc:acc'.toList=(iu w a ep es).map (·.2):=by
   refine g7 fun i=>?_;rw[ag,aR];cases ha:acc'[i]? with
   |none=>
    have h1:=iK.mp ha;rw[hacc.1] at h1;rw[cL.mpr (by lia)];rfl
   |some v=>
    obtain⟨p,e1,e2⟩:=hacc.2 i v ha;rw[e1,e2];rfl
  show Q acc'.toList s';rw[eacc];refine h s' ⟨fun b ob _ e=>?_,hm.gens,hm.drawn,hm.os,?_⟩
  ·have hlt:=Ω e;refine hm.heap b ob ?_ (oth b ob (aX hlt) (keep0 b ob e));intro z;rcases az.mp z with z|z
   ·rw[z] at hlt;exact cz _ hlt
   ·have:b=it:=by simpa using z
    rw[this,hI] at hlt;exact cz _ (Nat.lt_of_succ_lt hlt)
  ·exact hm.toks
end
end ja
namespace ja
open PySem nQ
section
variable {prog:aG} {w:aQ} {A:bT} {E:δ->η->Prop} {s:η}
def gj(w:aQ):aN:={ cls:=.type "set",dict:=none,data:=.set #[] 0 (.fresh 0 0 (!(jP w)))}
theorem QM(a:δ){Q₁:δ->η->Prop}(h:Q₁ (.ref s.heap.objs.size) { s with heap:=s.heap.push (gj w)}):
  kn (model prog w) A (.call (.builtin "set.__new__") ⟨[.type "set",a],[]⟩) (wants Q₁ E) s:=by
 refine codeAny_of_tree ?_;show ρ _ A.in1 (checkBuiltinCall "set.__new__" ⟨[.type "set",a],[]⟩ >>= fun _=>again (.builtin "set.__new__" ⟨[.type "set",a],[]⟩)) _ _ s;refine γ (jT (F.newCall_set_1 a) (ι ⟨mM F.plain_set_new _,gL F.entry_set_new ?_⟩));rw[gf F.plain_set_new _];unfold dP.«set.__new__» dP.Frozenset.newClass;have hsub:=sub_set_self;obtain⟨hp,g,d,tk,os⟩:=s;dsimp only;wp_walk;refine nS (ι ?_);dsimp only;simp only[newObj];refine γ (wpAny_alloc (ι ?_));exact ι h
theorem P6(led:Bool):Tab (bF.fresh 0 0 led) []:=
 ⟨.inl rfl,rfl,sy,(fun j hj=>(nomatch hj)),rfl,(by show 0*5<7*3;decide),(fun j h hj=>(nomatch hj))⟩
structure ud(ps xs:List (List Int×ε)):Prop where
 sub:∀p∈xs,p∈ps
 all:∀p∈ps,p.1∈xs.map (·.1)
 len:xs.length≤ps.length
theorem ud.add{ps xs xs':List (List Int×ε)}{p:List Int×ε}(d:ud ps xs)(h1:p.1∈xs.map (·.1)->xs'.Perm xs)(h2:p.1∉xs.map (·.1)->xs'.Perm (p::xs)):ud (ps++[p]) xs':=by
 by_cases hm:p.1∈xs.map (·.1)
 ·have pm:=h1 hm;refine⟨fun q hq=>eS _ (d.sub q (pm.mem_iff.mp hq)),fun q hq=>?_,?_⟩
  ·rw[(pm.map _).mem_iff];rcases cI.mp hq with hq|hq
   ·exact d.all q hq
   ·have:q=p:=by simpa using hq
    rw[this];exact hm
  ·rw[pm.length_eq,aa];have:=d.len;lia
 ·have pm:=h2 hm;refine⟨fun q hq=>?_,fun q hq=>?_,?_⟩
  ·rcases az.mp (pm.mem_iff.mp hq) with e|e
   ·exact bD _ (by simp[e])
   ·exact eS _ (d.sub q e)
  ·rw[(pm.map _).mem_iff,aq];rcases cI.mp hq with hq|hq
   ·exact Θ _ (d.all q hq)
   ·have:q=p:=by simpa using hq
    rw[this];exact Ψ
  ·rw[pm.length_eq,aa,ax,fH];have:=d.len;lia
theorem P5{I:ε}{fp:List ε}{n:Nat}{P:Nat->δ->Prop}{St:Nat->ay->Prop}(W:Walks prog w A.in1 I fp [I] n P St)(S:ε)(hSf:S∉fp)(ps:List (List Int×ε))(hps:ps.length=n)(hn:n≤60)
  (hu:A.in1.units<cLine) (hval:∀(i:Nat) v,P i v->∃p,ps[i]?=some p/\v=.ref p.2) (hpf:∀p∈ps,p.2≠I/\p.2≠S) {R:Result->η->Prop}:
  ∀(k i:Nat) (s:η) (xs:List (List Int×ε)),n-i=k->i≤n->St i s.heap->lS prog w s.heap S xs->ud (ps.take i) xs->(∀p∈ps,iH prog w s.heap p.1 p.2) ->
   (∀h' tk xs',(∀b ob,b≠S->b≠I->s.heap.get? b=some ob->h'.get? b=some ob)->lS prog w h' S xs'->ud ps xs'->R (.ok (.ret .none)) { s with heap:=h',toks:=tk }) ->
   kn (model prog w) A (.builtin "set.update.loop" ⟨[.ref S,.ref I],[]⟩) R s:=by
 have hSI:S≠I:=fun e=>hSf (W.sub _ (by rw[e];simp));have on_kept:∀{h h':ay} {xs:List (List Int×ε)},lS prog w h S xs->(∀p∈xs,p∈ps)->(∀b ob,b≠I->h.get? b=some ob->h'.get? b=some ob)->lS prog w h' S xs:=fun {h h' xs} ⟨o,es,ep,t,q,T⟩ sub kp=>
  ⟨o,es,ep,t,q.kept fun b hb ob e=>kp b ob (by
   rcases az.mp hb with z|z
   ·rw[z];exact hSI
   ·obtain⟨p,hp,rfl⟩:=aP.mp z;exact (hpf p (sub p hp)).1) e,T⟩
 intro k
 induction k with
 |zero=>
  intro i s xs hk hi hst hS hd hkeys hR;have hin:i=n:=by lia
  subst hin;refine gL jg ?_;rw[gf fC _];show ρ _ A.in1 (pyNext (.ref I) >>= _) _ _ s;refine γ (W.done s _ _ hst fun h' tk kp=>?_);show ρ _ A.in1 (ret b6) _ _ _;have hd':ud ps xs:=by
   rw[←hps,oi] at hd;exact hd
  exact ι (hR h' tk xs (fun b ob _ hb e=>kp b ob (by simpa using hb) e) (on_kept hS hd'.sub fun b ob hb e=>kp b ob (by simpa using hb) e) hd')
 |succ k ih=>
  intro i s xs hk hi hst hS hd hkeys hR;have hlt:i<n:=by lia
  refine gL jg ?_;rw[gf fC _];show ρ _ A.in1 (pyNext (.ref I) >>= _) _ _ s;refine γ (W.item i s _ _ hlt hst fun v h1 tk1 hP hst1 kp1=>?_);obtain⟨p,hp,rfl⟩:=hval i v hP;have hpm:p∈ps:=bN hp;have kp1':∀b ob,b≠I->s.heap.get? b=some ob->h1.get? b=some ob:=fun b ob hb e=>kp1 b ob (by simpa using hb) e;have key1:∀q∈ps,iH prog w h1 q.1 q.2:=fun q hq=>by
   obtain⟨oy,items,m,ho,r⟩:=hkeys q hq;exact⟨oy,items,m,kp1' _ _ (hpf q hq).1 ho,r⟩
  have sub0:∀q∈xs,q∈ps:=fun q hq=>kR (hd.sub q hq);have hS1:=on_kept hS sub0 kp1';show ρ _ A.in1 (holding [aV p.2] (setAdd S (.ref p.2)) >>= _) _ _ _;have hlen:xs.length<64:=by
   have h1:=hd.len;rw[de] at h1;lia
  refine γ (cp (QX (s:={ s with heap:=h1,toks:=tk1 }) hS1 hlen hu (key1 p hpm) fun b h2 tk2 xs2 _ sb hS2 q1 q2=>?_));have hd2:ud (ps.take (i+1)) xs2:=by
   rw[List.take_add_one,hp];exact hd.add q1 q2
  obtain⟨oS,_,_,_,SS,_⟩:=hS1;refine ι ⟨mM fC _,ih (i+1) _ xs2 (by lia) hlt (W.frame _ _ _ hst1 fun c hc ob e=>(sb.2 c (fun z=>hSf (z▸hc))).trans e) hS2 hd2 (fun q hq=>ym SS.at_ SS.dat sb (key1 q hq)) fun h' tk xs' kp' a1 a2=>?_⟩;exact hR h' tk xs' (fun c ob c1 c2 e=>kp' c ob c1 c2 ((sb.2 c c1).trans (kp1' c ob c2 e))) a1 a2
set_option maxHeartbeats 6400000 in
theorem vm{l:ε}{vs:List δ}{ps:List (List Int×ε)}{Q:δ->η->Prop}(hh:A.handled=none)(hl:s.heap.IsList l vs.toArray)(hv:vs=ps.map fun p=>aV p.2)(hk:∀p∈ps,iH prog w s.heap p.1 p.2)(hn:ps.length≤60)
  (hu:A.units+4<cLine)
  (h:∀h' tk xs,(∀b ob,s.heap.get? b=some ob->h'.get? b=some ob)->lS prog w h' s.heap.objs.size xs->ud ps xs->Q (.ref s.heap.objs.size) { s with heap:=h',toks:=tk }):
  ρ (model prog w) A (call (.type "set") [.ref l]) Q E s:=by
 obtain⟨c,tl,hmro⟩:=F.called_set.mro;have hmade:=F.called_set.made;have hsub:=F.called_set.sub;refine wpAny_call (codeAny_of_tree ?_);show ρ _ _ (callAny (.type "set") _) _ _ _;refine ι ⟨Code.quiet_builtin _ (by decide +kernel),gL F.entry_type_call ?_⟩;rw[bT.under_plain (weight_type_call_type "set" [.ref l] []) rfl];have h1:=F.called_set.notType;have h2:=F.called_set.canCreate;have hct:=F.typeCall_set_1 (.ref l)
 repeat (any_goals (first|assumption|wp_step))
 refine kM (QM (.ref l) (E:=E) (Q₁:=fun obj s₁=>obj=.ref s.heap.objs.size/\s₁={ s with heap:=s.heap.push (gj w)}) ⟨rfl,rfl⟩) fun r s₁ hr=>?_;cases r with
 |error e=>exact hr
 |ok fl=>
  cases fl with
  |ret obj=>
   obtain⟨rfl,rfl⟩:=hr;have hS:(s.heap.push (gj w)).get? s.heap.objs.size=some (gj w):=Φ _ rfl;have hT:j6 { s with heap:=s.heap.push (gj w)} (.ref s.heap.objs.size) "set":=⟨_,hS,rfl⟩;have hli:=F.called_set.init.lookup;have hbi:=F.called_set.init.bind (.ref s.heap.objs.size)
   repeat (any_goals (first|assumption|wp_step))
   refine kM (codeAny_call_builtin (R:=wants (fun r s₂=>r=.none/\∃h' tk xs,s₂={ s with heap:=h',toks:=tk }/\(∀b ob,s.heap.get? b=some ob->h'.get? b=some ob)/\lS prog w h' s.heap.objs.size xs/\ud ps xs) E)
    F.called_set.init.plain F.entry_set_init (check_set_init_1 hT ?_)) fun r₂ s₂ hr₂=>?_
   ·obtain⟨ol,hol,hcl,nl,hdl⟩:=hl;obtain⟨ocls,odict,odata,oslots⟩:=ol;simp only at hcl hdl;subst hcl;subst hdl;have hol':(s.heap.push (gj w)).get? l=some { cls:=.type "list",dict:=odict,data:=.seq vs.toArray nl,slots:=oslots }:=ν _ hol;have hsls:=F.sub_list_set;have hslf:=F.sub_list_frozenset;have hne:(qC "list" == qC "dict")=false:=by decide
    have hl1:(s.heap.push (gj w)).IsList l vs.toArray:=⟨_,hol',rfl,nl,rfl⟩;have hS2:(s.heap.push (gj w)).get? s.heap.objs.size=some { cls:=.type "set",dict:=none,data:=.set #[] 0 (.fresh 0 0 (!(jP w)))}:=hS;unfold dP.«set.__init__» noKeywords dP.Frozenset.updateFrom;generalize hPI:pyIter=PI;wp_walk;subst hPI;refine eX hl1 ?_;refine γ (wpAny_runValue ?_);have hlS:l<s.heap.objs.size:=Ω hol;have hh3:A.in1.in1.in1.handled=none:=by simp[hh]
    have hu3:A.in1.in1.in1.units<cLine:=by
     show A.units+1+1+1<cLine;lia
    have hsz:(s.heap.push (gj w)).objs.size=s.heap.objs.size+1:=eE ..;have hneI:l≠(s.heap.push (gj w)).objs.size:=by
     rw[hsz];exact aX (gZ hlS)
    have hSf:s.heap.objs.size∉[(s.heap.push (gj w)).objs.size,l]:=by
     rw[hsz];intro z;rcases az.mp z with z|z
     ·exact absurd z (aX (iz _))
     ·have:s.heap.objs.size=l:=by simpa using z
      exact absurd this (eP hlS)
    have hlen:vs.toArray.size=ps.length:=by rw[hv];simp
    refine P5 (Walks.list hh3 _ l hneI vs.toArray) s.heap.objs.size hSf ps hlen.symm (by rw[hlen];exact hn) hu3 (fun i v e=>?_) (fun p hp=>?_) (vs.toArray.size-0) 0 _ [] rfl (aB _)
     ⟨⟨_,Φ _ rfl,rfl,rfl⟩,hl1.push _⟩ ?hS0 ⟨(fun p hp=>(nomatch hp)),(fun p hp=>by rw[List.take_zero] at hp;cases hp),aB _⟩ (fun p hp=>?_) ?hR
    case hS0=>
     refine⟨_,#[],0,_,⟨ν _ hS2,⟨rfl,rfl,rfl⟩,rfl,rfl,(fun p hp=>(nomatch hp)),jv,rfl,rfl⟩,P6 _⟩
    case hR=>
     intro h' tk xs q1 q2 q3;refine ι ?_;show ρ _ _ (ret b6) _ _ _;refine ι ⟨rfl,h',tk,xs,rfl,fun b ob e=>?_,q2,q3⟩;have hb:=Ω e;refine q1 b ob (aX hb) ?_ (ν _ (ν _ e));rw[hsz];exact aX (gZ hb)
    ·rw[hv,List.getElem?_toArray,ag] at e;cases hp:ps[i]? with
     |none=>rw[hp] at e;cases e
     |some p=>rw[hp] at e;exact⟨p,rfl,(aJ e).symm⟩
    ·obtain⟨oy,_,_,ho,_⟩:=hk p hp;have hb:=Ω ho;rw[hsz];exact⟨aX (gZ hb),aX hb⟩
    ·obtain⟨oy,items,m,ho,r⟩:=hk p hp;exact⟨oy,items,m,ν _ (ν _ ho),r⟩
   ·cases r₂ with
    |error e=>exact hr₂
    |ok fl₂=>
     cases fl₂ with
     |ret r=>
      obtain⟨rfl,h',tk,xs,rfl,q1,q2,q3⟩:=hr₂
      repeat (any_goals (first|assumption|wp_step))
      exact h _ _ _ q1 q2 q3
     |_=>exact hr₂.elim
  |_=>exact hr.elim
end
end ja
namespace qw
open PySem PySem.W PyProof.Rows ja J6
def lx:List Int->List Int->Bool
 |[],[]=>false
 |[],_::_=>true
 |_::_,[]=>false
 |x::xs,y::ys=>if x=y then lx xs ys else decide (x<y)
theorem HA:∀{x y:List Int},lx x y=true->lx y x=false
 |[],[],h=>by cases h
 |[],_::_,_=>rfl
 |_::_,[],h=>by cases h
 |x::xs,y::ys,h=>by
  unfold lx at h ⊢;by_cases e:x=y
  ·rw[if_pos e] at h;rw[if_pos e.symm];exact HA h
  ·rw[if_neg e] at h;rw[if_neg (eY e)];have:=of_decide_eq_true h;exact decide_eq_false (by lia)
theorem Hz:∀{a b c:List Int},lx b a=false->lx c b=false->lx c a=false
 |[],b,[],_,_=>rfl
 |[],[],c::cs,_,h=>h
 |[],b::bs,c::cs,h,_=>rfl
 |a::as,[],c,h,_=>by cases h
 |a::as,b::bs,[],_,h=>by cases h
 |a::as,b::bs,c::cs,h1,h2=>by
  unfold lx at h1 h2 ⊢;by_cases e1:b=a
  ·rw[if_pos e1] at h1;by_cases e2:c=b
   ·rw[if_pos e2] at h2;rw[if_pos (e2.trans e1)];exact Hz h1 h2
   ·rw[if_neg e2] at h2;have:=of_decide_eq_false h2;by_cases e3:c=a
    ·lia
    ·rw[if_neg e3];exact decide_eq_false (by lia)
  ·rw[if_neg e1] at h1;have:=of_decide_eq_false h1;by_cases e2:c=b
   ·rw[if_neg (by lia)];exact decide_eq_false (by lia)
   ·rw[if_neg e2] at h2;have:=of_decide_eq_false h2;by_cases e3:c=a
    ·lia
    ·rw[if_neg e3];exact decide_eq_false (by lia)
section
variable {prog:aG} {w:aQ} {A:bT} {E:δ->η->Prop} {s:η}
theorem P4{Q:Bool->η->Prop}:∀(xs ys:List Int) (us vs:List δ) (i:Nat) (fin:Bool),ItemsAre (intKind prog w) xs us->ItemsAre (intKind prog w) ys vs ->
  (fin=decide (us.length<vs.length)∨∃n m,fin=decide (n+us.length<n+vs.length)/\m=n)->Q (lx xs ys) s->KatLex prog w A true fin Q (us.zip vs) i s:=by
 intro xs
 induction xs with
 |nil=>
  intro ys us vs i fin h1 h2 hf h;cases h1;cases h2 with
  |nil=>
   have:fin=false:=by
    rcases hf with hf|⟨n,m,hf,_⟩<;>simp at hf<;>exact hf
   rw[this];exact kat_nil h
  |cons h3 h4=>
   have:fin=true:=by
    rcases hf with hf|⟨n,m,hf,_⟩<;>rw[hf]<;>simp
   rw[this];exact kat_nil h
 |cons x xs ih=>
  intro ys us vs i fin h1 h2 hf h;cases h1 with
  |cons h1 h1'=>
  cases h2 with
  |nil=>
   have:fin=false:=by
    rcases hf with hf|⟨n,m,hf,_⟩<;>rw[hf]<;>simp
   rw[this];exact kat_nil h
  |cons h3 h4=>
   obtain⟨t,rfl⟩:=gY h1;obtain⟨t',rfl⟩:=gY h3;refine kat_cons (wpAny_eqBool_int ?_);unfold lx at h;rename_i _ y ys _;by_cases e:x=y
   ·rw[if_pos e] at h;have:(x==y)=true:=by simpa using e
    rw[this];refine kat_yes (ih ys _ _ (i+1) fin h1' h4 (.inr ?_) h);rcases hf with hf|⟨n,m,hf,_⟩
    ·exact⟨1,1,by rw[hf];simp[Nat.add_comm],rfl⟩
    ·exact⟨n+1,n+1,by rw[hf];congr 1;simp only[ax];apply propext;lia,rfl⟩
   ·rw[if_neg e] at h;have:(x==y)=false:=by simpa using e
    rw[this];refine kat_no ?_;by_cases hi:i=0
    ·subst hi;exact oneLt_int h
    ·have hb:(true&&i==0)=false:=by simp[hi]
     rw[hb];exact kat_one _ _ (lt_int h)
theorem P2{Q:Bool->η->Prop}{x y:List Int}{a b:ε}(hx:iH prog w s.heap x a)(hy:iH prog w s.heap y b)(h:Q (lx x y) s):ρ (model prog w) A (keyLt' (tuples' true) (.ref a) (.ref b)) Q E s:=by
 obtain⟨o,its,n,ho,_,hd,hi⟩:=hx;obtain⟨o',its',n',ho',_,hd',hi'⟩:=hy;exact kat_lt ho hd ho' hd' (P4 x y its.toList its'.toList 0 _ hi hi' (.inl (by simp)) h)
def tX{α:Type}(lt:α->α->Bool)(d:α)(ps:List α)(i j:Nat):Bool:=lt (ps.getD i d) (ps.getD j d)
structure zU{α:Type}(lt:α->α->Bool):Prop where
 xx:∀x y,lt x y=true->lt y x=false
 sF:∀x y z,lt y x=false->lt z y=false->lt z x=false
theorem P1{α:Type}{lt:α->α->Bool}(O:zU lt)(d:α)(ps:List α)(n:Nat):Ord n (tX lt d ps):=⟨fun a b _ _ h=>O.xx _ _ h,fun a b c _ _ _ h1 h2=>O.sF _ _ _ h1 h2⟩
abbrev JF(x y:List Int×ε):Bool:=lx x.1 y.1
abbrev fT(p:List Int×ε):δ:=.ref p.2
theorem WZ:zU JF:=⟨fun _ _ h=>HA h,fun _ _ _ h1 h2=>Hz h1 h2⟩
def Xm(n:Nat)(lt:Nat->Nat->Bool)(i j:Nat)(C:Bool->η->Prop)(s:η):Prop:=i<n/\j<n/\C (lt i j) s
theorem conv{α:Type}{n:Nat}{lt:Nat->Nat->Bool}{κ:nV}{vs:List δ}{Q:α->η->Prop}(ha:∀i j,i<n->j<n->∀C:Bool->η->Prop,C (lt i j) s->lL prog w A κ vs i j C s):
  ∀t:KasT α,t.kasWp (Xm n lt) Q s->t.kasWp (lL prog w A κ vs) Q s
 |.ret a,h=>h
 |.ask i j k,h=>by
  obtain⟨h1,h2,h3⟩:=h;exact ha i j h1 h2 _ (conv ha (k (lt i j)) h3)
theorem BV{α:Type}{f:α->δ}{d:α}{ps:List α}{i:Nat}(hi:i<ps.length):(ps.map f).getD i b6=f (ps.getD i d):=by
 simp[jk,hi]
theorem getD_mem{ps:List (List Int×ε)}{i:Nat}(hi:i<ps.length):ps.getD i ([],0)∈ps:=by
 simp[jk,hi]
theorem P0{ps:List (List Int×ε)}(hk:∀p∈ps,iH prog w s.heap p.1 p.2):∀i j,i<ps.length->j<ps.length->∀C:Bool->η->Prop,C (tX JF ([],0) ps i j) s->lL prog w A (tuples' true) (ps.map fT) i j C s:=fun i j hi hj C h=>by
 unfold lL;rw[BV (d:=([],0)) hi,BV (d:=([],0)) hj];exact P2 (hk _ (getD_mem hi)) (hk _ (getD_mem hj)) h
theorem Hy{h:ay}:∀{ps:List (List Int×ε)},(∀p∈ps,iH prog w h p.1 p.2/\p.1≠[])->∃fs,KatTups h (ps.map fun p=>aV p.2) fs/\fs.length=ps.length/\∀v∈fs,∃i t,v=.int i t
 |[],_=>⟨[],.nil,rfl,fun v hv=>nomatch hv⟩
 |p::ps,hk=>by
  obtain⟨fs,h1,h2,h3⟩:=Hy (ps:=ps) fun q hq=>hk q (Θ _ hq);obtain⟨⟨o,its,n,ho,hc,hd,hi⟩,hne⟩:=hk p Ψ;obtain⟨ks,a⟩:=p;cases ks with
  |nil=>exact absurd rfl hne
  |cons k ks=>
   obtain⟨its⟩:=its;cases hi with
   |cons h4 h5=>
    rename_i v vs;obtain⟨t,e⟩:=gY h4;refine⟨v::fs,KatTups.cons ho hc hd (by simp) h1,by simp[h2],fun u hu=>?_⟩;rcases az.mp hu with q|q
    ·exact⟨k,t,q.trans e⟩
    ·exact h3 u q
theorem PZ{ps:List (List Int×ε)}(hne:ps≠[])(hk:∀p∈ps,iH prog w s.heap p.1 p.2/\p.1≠[]){Q:nV->η->Prop}(h:Q (tuples' true) s):ρ (model prog w) A (keyKind' (ps.map fT).toArray) Q E s:=by
 obtain⟨fs,h1,h2,h3⟩:=Hy hk;have hl:0<fs.length:=by
  rw[h2];exact List.length_pos_iff.mpr hne
 refine kat_kind (T:=.type "int") h1 hl (fun v hv=>?_) rfl h;obtain⟨i,t,rfl⟩:=h3 v hv;exact .now
structure uW{α:Type}(lt:α->α->Bool)(ps qs:List α):Prop where
 perm:qs.Perm ps
 rise:qs.Pairwise fun x y=>lt y x=false
abbrev Lf(ps qs:List (List Int×ε)):Prop:=uW JF ps qs
theorem PY{α:Type}{lt:α->α->Bool}{d:α}{ps:List α}{p:Array Nat}(v:Va ps.length p)(S:So (tX lt d ps) p ps.length):uW lt ps (p.toList.map fun i=>ps.getD i d):=by
 refine⟨?_,?_⟩
 ·refine (v.perm.map _).trans ?_;have:(Δ ps.length).map (fun i=>ps.getD i d)=ps:=by
   refine g7 fun i=>?_;by_cases hi:i<ps.length
   ·simp[ag,dq hi,jk,hi]
   ·rw[cL.mpr (by simpa using hi),cL.mpr (by lia)]
  rw[this]
 ·rw[eZ,fZ];intro i j hi hj hij;have hs:=v.size;have h1:i<ps.length:=by rw[←hs];simpa using hi
  have h2:j<ps.length:=by rw[←hs];simpa using hj
  have e1:p.toList[i]=g p i:=by
   have:=v.get h1;simp[g,lg,hs,h1]
  have e2:p.toList[j]=g p j:=by simp[g,lg,hs,h2]
  rw[e1,e2];exact S i j (og hij) h2
theorem PX{α:Type}{f:α->δ}{d:α}{ps:List α}{p:Array Nat}(v:Va ps.length p):(p.toList.map fun i=>(ps.map f).getD i b6)=(p.toList.map fun i=>ps.getD i d).map f:=by
 rw[bH];refine aM fun i hi=>?_;have:i<ps.length:=by
  have:=v.perm.mem_iff.mp hi;simpa using this
 exact BV this
theorem PV{α:Type}{lt:α->α->Bool}{f:α->δ}{d:α}{κ:nV}(O:zU lt){a:ε}{n:Nat}{ps:List α}{P:PySem.Fin->η->Prop}(ho:s.heap.get? a=some (seqObj "list" (ps.map f).toArray n))
  (hk:∀h',(∀b o,b≠a->s.heap.get? b=some o->h'.get? b=some o)->(∀(Q:nV->η->Prop) (E':δ->η->Prop),Q κ { s with heap:=h' }->ρ (model prog w) A (keyKind' (ps.map f).toArray) Q E' { s with heap:=h' }) ∧
   ∀i j,i<ps.length->j<ps.length->∀C:Bool->η->Prop,C (tX lt d ps i j) { s with heap:=h' }->lL prog w A κ (ps.map f) i j C { s with heap:=h' }) (h2:2≤ps.length) (h64:ps.length<64)
  (h:∀qs h' c,uW lt ps qs->h'.get? a=some (seqObj "list" (qs.map f).toArray c)->(∀b o,b≠a->s.heap.get? b=some o->h'.get? b=some o)->P (.done (.ret .none)) { s with heap:=h' }):
  ρ (model prog w) A (dP.«list.sort» ⟨[.ref a],[]⟩) P E s:=by
 have ha:a<s.heap.objs.size:=Ω ho;have s1:=cN s.heap a (bA fun _=>(#[]:Array δ));obtain⟨e1,ho1⟩:∃e1,(s.heap.update a (bA fun _=>(#[]:Array δ))).get? a=some (seqObj "list" #[] e1):=⟨_,kL ho fun _=>#[]⟩;generalize hvs:(ps.map f)=vs at ho;have hlen:vs.length=ps.length:=by rw[←hvs,ξ]
 have hu3:∀b o,b≠a->s.heap.get? b=some o->(((s.heap.update a (bA fun _=>(#[]:Array δ))).push (seqObj "tuple" vs.toArray 0)).push (seqObj "list" #[] 0)).get? b=some o:=fun b o hb e=>
  ν _ (ν _ ((s1.2 b hb).trans e))
 have ho3:(((s.heap.update a (bA fun _=>(#[]:Array δ))).push (seqObj "tuple" vs.toArray 0)).push (seqObj "list" #[] 0)).get? a=some (seqObj "list" #[] e1):=ν _ (ν _ ho1);rw[list_sort_plain];refine γ (listItems_at ho rfl ?_);refine γ (mN ho rfl ?_ (by rw[υ,cy];lia) (aB _));refine γ (pk ho1 rfl ?_);refine γ (lK ?_ (by show vs.length≤_;rw[cy];lia));refine γ (qK ?_ (aB _));refine cp ?_;show ρ (model prog w) A _ P E { s with heap:=((s.heap.update a (bA fun _=>(#[]:Array δ))).push (seqObj "tuple" vs.toArray 0)).push (seqObj "list" #[] 0)};generalize ((s.heap.update a (bA fun _=>(#[]:Array δ))).push (seqObj "tuple" vs.toArray 0)).push (seqObj "list" #[] 0)=h3 at hu3 ho3 ⊢;obtain⟨hk1,hk2⟩:=hk h3 hu3;dsimp only;have hn2:¬vs.toArray.size<2:=by rw[υ];lia
 rw[if_neg hn2,if_neg hn2];refine γ ?_;rw[←hvs];refine hk1 _ _ ?_;have hsort:(kas_sort vs.length).kasWp (lL prog w A κ (ps.map f)) (fun p s'=>s'={ s with heap:=h3 }/\Va ps.length p/\So (tX lt d ps) p ps.length) { s with heap:=h3 }:=by
  refine conv (lt:=tX lt d ps) (n:=ps.length) hk2 _ ?_
  rw[hlen];exact Qy (P1 O d ps ps.length) (fun i j hi hj C s' hC=>⟨hi,hj,hC⟩) (by lia) fun p v S=>⟨rfl,v,S⟩
 have hsort:(kas_sort (ps.map f).length).kasWp (lL prog w A κ (ps.map f)) (fun p s'=>s'={ s with heap:=h3 }/\Va ps.length p/\So (tX lt d ps) p ps.length) { s with heap:=h3 }:=by
  rw[hlen] at hsort;rw[ξ];exact hsort
 refine γ (fw (kat_run (Q:=fun st' s'=>∃p:Array Nat,p.size=(ps.map f).length/\arrOf st'=p.map (kas_item ((ps.map f).toArray.zip (ps.map f).toArray))/\failedOf st'=none/\s'={ s with heap:=h3 }/\Va ps.length p/\So (tX lt d ps) p ps.length)
  rfl (by rw[ξ];exact h2) (by rw[ξ];exact h64) (fun p' st' s' a1 a2 a3 a4=>⟨p',a1,a2,a3,a4⟩) hsort) ?_ fun _ _ e=>e)
 rintro⟨⟨⟩,st'⟩ s' ⟨p,hp,har,hf,rfl,va,so⟩;dsimp only;have hout:=kat_snds rfl har;rw[PX va] at hout;have hS:=PY va so;generalize (p.toList.map fun i=>ps.getD i d)=qs at hout hS;have hsz:(jj (qs.map f)).size=ps.length:=by rw[υ,ξ,hS.perm.length_eq]
 rw[hout];have s2:=cN h3 a (bA fun _=>jj (qs.map f));obtain⟨c2,hc2⟩:∃c2,(h3.update a (bA fun _=>jj (qs.map f))).get? a=some (seqObj "list" (jj (qs.map f)) c2):=⟨_,kL ho3 fun _=>jj (qs.map f)⟩;refine γ (pk ho3 rfl ?_);refine γ (mN ho3 rfl ?_ (aB _) (ae (Nat.le_of_eq hsz) (by rw[cy];lia)));rw[hf];simp only[bne_self_eq_false,cZ,if_false];exact ι (h qs _ c2 hS hc2 fun b o hb e=>(s2.2 b hb).trans (hu3 b o hb e))
theorem PU{a:ε}{n:Nat}{vs:List δ}{P:PySem.Fin->η->Prop}(ho:s.heap.get? a=some (seqObj "list" vs.toArray n))(h2:vs.length<2)
  (h:∀h' c,h'.get? a=some (seqObj "list" vs.toArray c)->(∀b o,b≠a->s.heap.get? b=some o->h'.get? b=some o)->P (.done (.ret .none)) { s with heap:=h' }):
  ρ (model prog w) A (dP.«list.sort» ⟨[.ref a],[]⟩) P E s:=by
 have s1:=cN s.heap a (bA fun _=>(#[]:Array δ));obtain⟨e1,ho1⟩:∃e1,(s.heap.update a (bA fun _=>(#[]:Array δ))).get? a=some (seqObj "list" #[] e1):=⟨_,kL ho fun _=>#[]⟩;have hu3:∀b o,b≠a->s.heap.get? b=some o->(((s.heap.update a (bA fun _=>(#[]:Array δ))).push (seqObj "tuple" vs.toArray 0)).push (seqObj "list" #[] 0)).get? b=some o:=fun b o hb e=>
  ν _ (ν _ ((s1.2 b hb).trans e))
 have ho3:(((s.heap.update a (bA fun _=>(#[]:Array δ))).push (seqObj "tuple" vs.toArray 0)).push (seqObj "list" #[] 0)).get? a=some (seqObj "list" #[] e1):=ν _ (ν _ ho1);rw[list_sort_plain];refine γ (listItems_at ho rfl ?_);refine γ (mN ho rfl ?_ (by rw[υ,cy];lia) (aB _));refine γ (pk ho1 rfl ?_);refine γ (lK ?_ (by show vs.length≤_;rw[cy];lia));refine γ (qK ?_ (aB _));refine cp ?_;show ρ (model prog w) A _ P E { s with heap:=((s.heap.update a (bA fun _=>(#[]:Array δ))).push (seqObj "tuple" vs.toArray 0)).push (seqObj "list" #[] 0)};generalize ((s.heap.update a (bA fun _=>(#[]:Array δ))).push (seqObj "tuple" vs.toArray 0)).push (seqObj "list" #[] 0)=h3 at hu3 ho3 ⊢;dsimp only;have hn2:vs.toArray.size<2:=by rw[υ];lia
 rw[if_pos hn2,if_pos hn2];refine γ (ι ?_);rw[StateT.run_pure];refine γ (ι ?_);dsimp only;have hout:(arrOf (SortSt.mk' general' (vs.toArray.zip vs.toArray) #[] 7 none)).map (·.2)=vs.toArray:=by
  show (vs.toArray.zip vs.toArray).map (·.2)=vs.toArray;refine Array.ext (by simp) fun i h1 h2=>?_;simp
 rw[hout];have s2:=cN h3 a (bA fun _=>vs.toArray);obtain⟨c2,hc2⟩:∃c2,(h3.update a (bA fun _=>vs.toArray)).get? a=some (seqObj "list" vs.toArray c2):=⟨_,kL ho3 fun _=>vs.toArray⟩;refine γ (pk ho3 rfl ?_);refine γ (mN ho3 rfl ?_ (aB _) (by rw[υ,cy];lia));simp only[bne_self_eq_false,cZ,if_false];exact ι (h _ c2 hc2 fun b o hb e=>(s2.2 b hb).trans (hu3 b o hb e))
theorem PR{h h':ay}{ks:List Int}{a:ε}(keep:∀c o,h.get? c=some o->h'.get? c=some o)(hk:iH prog w h ks a):iH prog w h' ks a:=by
 obtain⟨o,it,m,ho,r⟩:=hk;exact⟨o,it,m,keep a o ho,r⟩
theorem PQ{α:Type}{lt:α->α->Bool}{f:α->δ}{d:α}{κ:nV}(O:zU lt){l:ε}{ps:List α}{Q:δ->η->Prop}
  (hk:∀s':η,2≤ps.length->(∀b o,s.heap.get? b=some o->s'.heap.get? b=some o)->(∀(Q:nV->η->Prop) (E':δ->η->Prop),Q κ s'->ρ (model prog w) A.in1.in1 (keyKind' (ps.map f).toArray) Q E' s') ∧
   ∀i j,i<ps.length->j<ps.length->∀C:Bool->η->Prop,C (tX lt d ps i j) s'->lL prog w A.in1.in1 κ (ps.map f) i j C s') (h64:ps.length<64)
  (Cv:∀(R:List δ->η->Prop),(∀s',Moved [] (fun x y=>y=x) s s'->R (ps.map f) s')->ρ (model prog w) A.in1 (collect (.ref l)) R E s)
  (h:∀qs s' c D,uW lt ps qs->s.heap.get? D=none->s'.heap.get? D=some (seqObj "list" (qs.map f).toArray c)->Moved [] (fun x y=>y=x) s s'->Q (.ref D) s'):
  ρ (model prog w) A (call (.builtin "sorted") [.ref l]) Q E s:=by
 refine Calls.call_function_entry kind_sorted plain_sorted entry_sorted (args_sorted1 _) ?_;unfold dP.«sorted»;refine γ (m:=checkCount "sorted" 1 1 _) (ι ?_);refine γ (Cv _ fun s1 hm=>?_);refine γ (qK ?_ (by rw[ξ,cy];lia));have hoL:(s1.heap.push (seqObj "list" (ps.map f).toArray 0)).get? s1.heap.objs.size=some (seqObj "list" (ps.map f).toArray 0):=Φ _ rfl;have keep0:∀b o,s.heap.get? b=some o->s1.heap.get? b=some o:=fun b o e=>hm.heap b o (fun z=>nomatch z) e;have hfr:s.heap.get? s1.heap.objs.size=none:=by
  cases hz:s.heap.get? s1.heap.objs.size with
  |none=>rfl
  |some o=>exact absurd (Ω (keep0 _ _ hz)) (cz _)
 have keep:∀b o,s.heap.get? b=some o->(s1.heap.push (seqObj "list" (ps.map f).toArray 0)).get? b=some o:=fun b o e=>ν _ (keep0 b o e);show ρ _ _ _ _ _ { s1 with heap:=s1.heap.push (seqObj "list" (ps.map f).toArray 0)};refine γ (cp (bW slot_list_sort ⟨_,hoL,rfl⟩ entry_list_sort ?body (args_list_sort _)));have fin:∀qs h' c,uW lt ps qs->h'.get? s1.heap.objs.size=some (seqObj "list" (qs.map f).toArray c)->(∀b o,b≠s1.heap.objs.size->(s1.heap.push (seqObj "list" (ps.map f).toArray 0)).get? b=some o->h'.get? b=some o)->Q (.ref s1.heap.objs.size) { s1 with heap:=h' }:=fun qs h' c hS e kk=>
  h qs _ c _ hS hfr e ⟨fun b o _ e1=>kk b o (aX (Ω (keep0 b o e1))) (keep b o e1),hm.gens,hm.drawn,hm.os,hm.toks⟩
 case body=>
  by_cases h2:2≤ps.length
  ·refine PV O (s:={ s1 with heap:=s1.heap.push (seqObj "list" (ps.map f).toArray 0)}) hoL (fun h' kk=>hk { s1 with heap:=h' } h2 fun b o e=>kk b o (aX (Ω (keep0 b o e))) (keep b o e)) h2 h64 fun qs h' c hS e kk=>?_;exact⟨_,rfl,ι ⟨_,rfl,fin qs h' c hS e kk⟩⟩
  ·refine PU (s:={ s1 with heap:=s1.heap.push (seqObj "list" (ps.map f).toArray 0)}) hoL (by rw[ξ];lia) fun h' c e kk=>?_;have hS:uW lt ps ps:=⟨.refl _,by
    rcases ps with _|⟨x,_|⟨y,r⟩⟩
    ·exact .nil
    ·exact List.pairwise_singleton _ _
    ·simp at h2⟩
   exact⟨_,rfl,ι ⟨_,rfl,fin ps h' c hS e kk⟩⟩
theorem u9{l:ε}{ps:List (List Int×ε)}{Q:δ->η->Prop}(hk:∀p∈ps,iH prog w s.heap p.1 p.2/\p.1≠[])(h64:ps.length<64)
  (Cv:∀(R:List δ->η->Prop),(∀s',Moved [] (fun x y=>y=x) s s'->R (ps.map fT) s')->ρ (model prog w) A.in1 (collect (.ref l)) R E s)
  (h:∀qs s' c D,Lf ps qs->s.heap.get? D=none->s'.heap.get? D=some (seqObj "list" (qs.map fT).toArray c)->Moved [] (fun x y=>y=x) s s'->Q (.ref D) s'):
  ρ (model prog w) A (call (.builtin "sorted") [.ref l]) Q E s:=by
 refine PQ (κ:=tuples' true) (d:=([],0)) WZ (fun s' h2 kk=>?_) h64 Cv h;have hk':∀p∈ps,iH prog w s'.heap p.1 p.2/\p.1≠[]:=fun p hp=>⟨PR kk (hk p hp).1,(hk p hp).2⟩;exact⟨fun Q E q=>PZ (fun z=>by rw[z] at h2;simp at h2) hk' q,P0 fun p hp=>(hk' p hp).1⟩
end
end qw
namespace L3
open PySem PySem.Spec PyProof.Rows L2
structure AL(T:String):Prop where
 ak:∀K,gh K (.type "NoneType") (.type T)=some false
 bl:∀K,gh K (.type "bool") (.type T)=some (T=="bool" || T=="int")
 int:∀K,gh K (.type "int") (.type T)=some (T=="int")
 str:∀K,gh K (.type "str") (.type T)=some (T=="str")
 tup:∀K,gh K (.type "tuple") (.type T)=some (T=="tuple")
 lst:∀K,gh K (.type "list") (.type T)=some (T=="list")
 iF:∀K,gh K (.type "dict") (.type T)=some (T=="dict")
theorem PN:AL "int":=⟨fun _=>rfl,fun _=>rfl,fun _=>rfl,fun _=>rfl,fun _=>rfl,fun _=>rfl,fun _=>rfl⟩
theorem PM:AL "bool":=⟨fun _=>rfl,fun _=>rfl,fun _=>rfl,fun _=>rfl,fun _=>rfl,fun _=>rfl,fun _=>rfl⟩
section
variable {X:Cx} {a e:π} {es:List π} {ta:aK} {t:dj} {pos p p2:aL}
theorem PL{T:String}(k:AL T):ju X (.builtin "isinstance") (fun vs H Q=>∃d v G b,vs=[v,.ty T]/\Hv X.K H d v/\bo X.K G H/\oF T G d=some b/\Q (.bl b) H):=by
 intro pins s σ H vs us Q I r h;obtain⟨d,v,G,b,rfl,hd,RG,hb,q⟩:=h;obtain⟨u,c,rfl,ru,rc⟩:=vals2 r;cases (show c=qC T from rc);have fin:∀tk,EP X pins σ Q (.bool b) { s with toks:=tk }:=fun tk=>⟨.bl b,H,I.tok tk,rfl,q⟩
 cases d with
 |ak=>
  unfold Hv at hd;subst hd;cases (show u=b6 from ru);cases hb;exact du PySem.W.kitx_none I.mU kO (k.ak _) (fun z=>nomatch z) fin
 |bl y=>
  rw[wy hd] at ru;cases (show u=kN y from ru);cases hb;exact du PySem.W.kitx_bool I.mU kO (k.bl _) (fun z=>nomatch z) fin
 |int y=>
  rw[iR hd] at ru;obtain⟨t,rfl⟩:=(show ∃t,u=oJ y t from ru);cases hb;exact du PySem.W.kitx_int I.mU kO (k.int _) (fun z=>nomatch z) fin
 |str y=>
  unfold Hv at hd;subst hd;obtain⟨t,rfl⟩:=(show ∃t,u=δ.str y t from ru);cases hb;exact du PySem.W.kitx_str I.mU kO (k.str _) (fun z=>nomatch z) fin
 |tup ds=>
  obtain⟨x,xs,rfl,e1,_⟩:=kd hd;cases (show u=aV x from ru);cases hb;obtain⟨its,_,⟨o,h1,h2,_⟩,_⟩:=I.tuple e1;exact du PySem.W.kitx_tuple I.mU ⟨o,h1,h2⟩ (k.tup _) (fun z=>nomatch z) fin
 |fo ds=>
  obtain⟨x,xs,rfl,e1,_⟩:=rp hd;cases (show u=aV x from ru);cases hb;obtain⟨its,_,p1,_⟩:=I.list e1.l;obtain⟨o,h1,h2,_⟩:=p1.isList;exact du m5 I.mU ⟨o,h1,h2⟩ (k.lst _) (fun z=>nomatch z) fin
 |dc x=>
  unfold Hv at hd;obtain⟨rfl,ob,φ,e1,c⟩:=hd;cases (show u=aV x from ru);cases hb;obtain⟨h1,_⟩:=I.cq x _ e1;exact du sx I.mU ⟨ob,h1,c⟩ (k.iF _) (fun z=>nomatch z) fin
 |obj x=>
  rw[i4 hd] at ru;cases (show u=aV x from ru);unfold oF at hb;cases hG:G x with
  |none=>simp[hG] at hb
  |some o=>
   have hl:∀xs,H x=some (.lst xs)->∃o,s.heap.get? x=some o/\o.cls=.type "list":=fun xs e=>by
    obtain⟨_,_,n,_,h1⟩:=(show fu X.prog X.w H s.heap x (.lst xs) from I.cq x _ e);exact⟨_,h1,rfl⟩
   cases o with
   |lst ds=>
    simp only[hG] at hb;cases hb;obtain⟨vs,e1,_⟩:=RG x _ hG;obtain⟨o,h1,h2⟩:=hl _ e1;exact du m5 I.mU ⟨o,h1,h2⟩ (k.lst _) (fun z=>nomatch z) fin
   |kl=>
    simp only[hG] at hb;cases hb;obtain⟨_,_,_,e1,_⟩:=RG x _ hG;obtain⟨o,h1,h2⟩:=hl _ e1;exact du m5 I.mU ⟨o,h1,h2⟩ (k.lst _) (fun z=>nomatch z) fin
   |gen R=>simp[hG] at hb
   |iF=>
    simp only[hG] at hb;cases hb;have e1:H x=some (.ext fun h=>∃o,h.get? x=some o/\o.cls=.type "dict"):=RG x _ hG;obtain⟨⟨o,h1,h2⟩,_⟩:=(show fu X.prog X.w H s.heap x _ from I.cq x _ e1);exact du sx I.mU ⟨o,h1,h2⟩ (k.iF _) (fun z=>nomatch z) fin
theorem PK{T:String}{TS:ψ}(k:AL T)(hv:gn TS=some (.type T))(ha:bV X a ta)(hm:X.mg "isinstance" = none)(hm2:X.mg TS=none)(hgT:Gl X TS)(hnT:TS≠"__name__")(hdT:(TS==("__debug__":ψ))=false)(hg:Gl X "isinstance":=by rfl)
  (he:notStar a=true:=by rfl):
  bV X (.Call (.Name "isinstance" p) [a,.Name TS p2] [] pos) (vC T ta):=
 jM (rq (PL k) hg hm rfl (wA ha (wA (Ul (v:=.ty T) hgT hm2 hv rfl hnT hdT) yk (fq rfl)) (fq he)) (he:=fq he) (hpl:=kD rfl)) fun σ H Q ⟨τ,G,Q3,RS,RG,h,k⟩=>by
  refine⟨τ,G,_,RS,RG,h,fun v H1 d G1 h1 S1 R1 q1=>?_⟩;cases hb:oF T G1 d with
  |none=>rw[hb] at q1;exact q1.elim
  |some b=>
   rw[hb] at q1;exact⟨d,v,G1,b,rfl,h1,R1,hb,k _ H1 (.bl b) G1 nK S1 R1 q1⟩
end
def tupI(ns:List Int):D:=.tup (ns.map D.int)
section
variable {P:aG} {w:aQ} {H:Hp} {h:ay} {a:ε} {o:HO}
theorem PJ(x:fu P w H h a o):∃o,h.get? a=some o:=by
 cases o with
 |lst xs=>obtain⟨_,_,_,_,e⟩:=x;exact⟨_,e⟩
 |tup xs=>obtain⟨_,_,_,o,e,_⟩:=x;exact⟨_,e⟩
 |dK kvs=>obtain⟨_,_,_,_,o,_,_,e,_⟩:=x;exact⟨_,e⟩
 |dT kvs=>obtain⟨_,_,_,_,o,_,_,e,_⟩:=x;exact⟨_,e⟩
 |set S n=>obtain⟨o,_,_,_,e,_⟩:=x;exact⟨_,e⟩
 |ins C dx fs=>obtain⟨_,_,_,e,_⟩:=x;exact⟨_,e⟩
 |own y=>obtain⟨_,e⟩:=x;exact⟨_,e⟩
 |xd fs=>obtain⟨_,⟨_,_,_,e,_⟩,_⟩:=x;exact⟨_,e⟩
 |C2 lo hi=>obtain⟨_,_,_,e⟩:=x;exact⟨_,e⟩
 |gI ob u=>obtain⟨e,_⟩:=x;exact⟨_,e⟩
 |u7 ps=>exact⟨_,(show h.get? a=some _ from x)⟩
 |met f y=>exact⟨_,(show h.get? a=some _ from x)⟩
 |ext φ=>obtain⟨_,⟨_,e⟩,_⟩:=x;exact⟨_,e⟩
end
section
variable {X:Cx} {pins:List (ε×aN)} {σ:L2.St} {H:Hp} {s:η}
theorem Inv.Dt(I:Inv X pins σ H s){a:ε}(hn:s.heap.get? a=none):H a=none:=by
 cases e:H a with
 |none=>rfl
 |some o=>
  obtain⟨ob,h⟩:=PJ (I.cq a o e);rw[hn] at h;cases h
theorem Inv.KH{a:ε}{o:HO}{t':Nat}{h':ay}(I:Inv X pins σ H s)(k:∀b u,s.heap.get? b=some u->h'.get? b=some u)(hn:s.heap.get? a=none)(new:fu X.prog X.w (upd H a o) h' a o):
  Inv X pins σ (upd H a o) { s with heap:=h',toks:=t' }:=by
 have hH:=Inv.Dt I hn;have ne:∀b u,s.heap.get? b=some u->b≠a:=fun b u e z=>by rw[z,hn] at e;cases e
 refine I.un ⟨fun b u q _ _ _=>k b u q,fun b u q _ _ _=>⟨u.slots,k b u q⟩,fun b u q n _=>by rw[dR (ne b u q)];exact n,fun b u q _=>⟨u,k b u q⟩,fun b xs q=>by rw[dR (lH q hH)];exact q,
  fun b u xs q=>by rw[dR (lH q hH)];exact q,fun b ps q=>⟨#[],by rw[dR (lH q hH),q];simp⟩⟩ fun b u e=>?_
 by_cases hb:b=a
 ·subst hb;rw[g8] at e;cases e;exact new
 ·rw[dR hb] at e;exact (I.cq b u e).sV (fun c v _ q=>k c v q) (fun c q=>by rw[dR (lH q hH)];exact q) fun c xs q=>by rw[dR (lH q hH)];exact q
theorem BU{ns:List Int}:∀{us:List δ},bh (ns.map V.int) us->ItemsAre (intKind X.prog X.w) ns us:=by
 induction ns with
 |nil=>intro us r;cases r;exact .nil
 |cons n ns ih=>
  intro us r;cases r with
  |cons r1 r2=>
   obtain⟨t,rfl⟩:=(show ∃t,_=oJ n t from r1);exact .cons (by show sN n (.int n t)=true;simp[sN]) (ih r2)
theorem BS(I:Inv X pins σ H s):∀{nss:List (List Int)} {vs:List V} {us:List δ},aO X.K H (nss.map tupI) vs->bh vs us ->
  ∃ps:List (List Int×ε),ps.map (·.1)=nss/\vs=ps.map (fun p=>.ref p.2)/\us=ps.map (fun p=>aV p.2)/\∀p∈ps,cF X.K H p.2 (p.1.map V.int)/\ja.iH X.prog X.w s.heap p.1 p.2
 |[],vs,us,h,r=>by
  cases h.iN;cases r;exact⟨[],rfl,rfl,rfl,fun p hp=>nomatch hp⟩
 |ns::nss,vs,us,h,r=>by
  obtain⟨v,vr,rfl,q1,q2⟩:=h.inv;cases r with
  |cons r1 r2=>
   obtain⟨ps,e1,e2,e3,e4⟩:=BS I q2 r2;obtain⟨a,ws,rfl,z1,z2⟩:=kd q1;have hw:ws=ns.map V.int:=by
    refine rm z2 ?_;clear z2 z1 q1 h e1 e2 e3 e4 q2 r2 r1
    induction ns with
    |nil=>rfl
    |cons n ns ih=>simp[intsOf,ih]
   subst hw;cases (show _=aV a from r1);obtain⟨its,rv,⟨o,h1,h2,n,h3⟩,_⟩:=I.tuple z1;refine⟨(ns,a)::ps,by simp[e1],by simp[e2],by simp[e3],fun p hp=>?_⟩;rcases az.mp hp with rfl|hp
   ·exact⟨z1,o,its.toArray,n,h1,h2,h3,BU rv⟩
   ·exact e4 p hp
theorem BR{K:ζ}{H:Hp}:∀{qs:List (List Int×ε)},(∀p∈qs,cF K H p.2 (p.1.map V.int))->aO K H ((qs.map (·.1)).map tupI) (qs.map fun p=>.ref p.2)
 |[],_=>.nil
 |q::qs,h=>.cons (qi (h q Ψ) (aO.ints _)) (BR fun p hp=>h p (Θ _ hp))
theorem Hx:∀(qs:List (List Int×ε)),bh (qs.map fun p=>V.ref p.2) (qs.map fun p=>aV p.2)
 |[]=>.nil
 |q::qs=>.cons rfl (Hx qs)
def qx(nss:List (List Int)):Prop:=nss.Pairwise fun x y=>qw.lx y x=false
theorem Hw{Q:VK}(I:Inv X pins σ H s){ps qs:List (List Int×ε)}{s':η}{c:Nat}{D':ε}(hz:ps.length<64)(hS:qw.Lf ps qs)(hn:s.heap.get? D'=none)(hD:s'.heap.get? D'=some (seqObj "list" (qs.map fun p=>aV p.2).toArray c))
  (hm:Moved [] (fun x y=>y=x) s s') (q:H D'=none->Q (.ref D') (upd H D' (.lst (qs.map fun p=>.ref p.2)))):EP X pins σ Q (.ref D') s':=by
 have e:s'={ s with heap:=s'.heap,toks:=s'.toks }:=by
  cases s';cases s;have h1:=hm.gens;have h2:=hm.drawn;have h3:=hm.os;simp only at h1 h2 h3;subst h1 h2 h3;rfl
 rw[e];refine⟨.ref D',_,Inv.KH I (o:=.lst (qs.map fun p=>.ref p.2)) (fun b u z=>hm.heap b u (fun y=>nomatch y) z) hn ?_,rfl,q (Inv.Dt I hn)⟩;refine⟨?_,_,c,Hx qs,hD⟩;rw[ξ,hS.perm.length_eq,cy];lia
theorem PH(hc:X.calm=true)(hu:X.A.units+64<cLine):ju X (.builtin "sorted") (fun vs H Q=>∃(a:ε) (xs:List V) (nss:List (List Int)),vs=[.ref a]/\eA X.K H a xs/\aO X.K H (nss.map tupI) xs/\nss.length<64/\(∀ns∈nss,ns≠[]) ∧
  ∀(p:ε) (mss:List (List Int)) (ys:List V),H p=none->mss.Perm nss->qx mss->aO X.K H (mss.map tupI) ys->Q (.ref p) (upd H p (.lst ys))):=by
 intro pins s σ H vs us Q I r h;obtain⟨a,xs,nss,rfl,hl,hv,hz,hne,q⟩:=h;obtain⟨u,rfl,ru⟩:=vals1 r;cases ru;obtain⟨its,rv,pl,_⟩:=I.list hl;obtain⟨ps,e1,e2,e3,e4⟩:=BS I hv rv;subst e3;have hlen:ps.length=nss.length:=by rw[←e1,ξ]
 refine qw.u9 (ps:=ps) (fun p hp=>⟨(e4 p hp).2,hne _ (by rw[←e1];exact aP.mpr ⟨p,hp,rfl⟩)⟩) (by lia) (fun R hR=>?_) fun qs s' c D' hS hn hD hm=>?_
 ·refine collect_list pl.isList (hR _ ⟨fun b o _ e=>?_,rfl,rfl,rfl,Γ _⟩) (by rw[ξ,cy];lia);have hlt:=Ω e;show ((s.heap.push (seqObj "list" #[] 0)).update s.heap.objs.size _).get? b=some o;rw[fx _ _ (eP hlt)];exact ν _ e
 ·refine Hw I (by lia) hS hn hD hm fun hf=>?_;refine q _ (qs.map (·.1)) _ hf (by rw[←e1];exact hS.perm.map _) ?_ (BR fun p hp=>(e4 p (hS.perm.mem_iff.mp hp)).1);exact eZ.mpr hS.rise
end
end L3
namespace L3
open PySem PySem.Spec PyProof.Rows L2
def vL(P:aG)(w:aQ)(b:ε)(zs:List (List Int×ε)):ay->Prop:=fun h=>∃o es ep t,h.get? b=some o/\o.ExactSet/\o.data=.set es ep t/\es.toList=zs.map (ja.ent P w)/\(zs.map (·.1)).Nodup/\t.plain=true ∧
 t.led=(!(w.params.followText "set-order"))/\nQ.Tab t (es.toList.map (·.1))
theorem PF{α β:Type}{f:α->β}{l l':List β}(h:l.Perm l'):∀{zs:List α},l'=zs.map f->∃zs':List α,zs'.Perm zs/\l=zs'.map f:=by
 induction h with
 |nil=>
  intro zs e;have:zs=[]:=by simpa using e.symm
  subst this;exact⟨[],.nil,rfl⟩
 |cons x _ ih=>
  intro zs e;cases zs with
  |nil=>cases e
  |cons z zs=>
   simp only[aq,ui] at e;obtain⟨zs',h1,h2⟩:=ih e.2;exact⟨z::zs',h1.cons z,by simp[e.1,h2]⟩
 |swap x y l=>
  intro zs e;rcases zs with _|⟨z,_|⟨z2,zs⟩⟩
  ·cases e
  ·simp at e
  ·simp only[aq,ui] at e;exact⟨z2::z::zs,.swap _ _ _,by simp[e.1,e.2.1,e.2.2]⟩
 |trans _ _ ih1 ih2=>
  intro zs e;obtain⟨z2,h1,h2⟩:=ih2 e;obtain⟨z1,h3,h4⟩:=ih1 h2;exact⟨z1,h3.trans h1,h4⟩
section
variable {X:Cx}
theorem PD(hc:X.calm=true)(hu:X.A.units+64<cLine):ju X (.type "set") (fun vs H Q=>∃(a:ε) (xs:List V) (nss:List (List Int)),vs=[.ref a]/\eA X.K H a xs/\aO X.K H (nss.map tupI) xs/\nss.length≤60 ∧
  ∀(b:ε) (zs:List (List Int×ε)),H b=none->(∀p∈zs,cF X.K H p.2 (p.1.map V.int))->(∀ns,ns∈zs.map (·.1)↔ns∈nss)->(zs.map (·.1)).Nodup->zs.length≤nss.length->Q (.ref b) (upd H b (.ext (vL X.prog X.w b zs)))):=by
 intro pins s σ H vs us Q I r h;obtain⟨a,xs,nss,rfl,hl,hv,hz,q⟩:=h;obtain⟨u,rfl,ru⟩:=vals1 r;cases ru;obtain⟨its,rv,pl,_⟩:=I.list hl;obtain⟨ps,e1,e2,e3,e4⟩:=BS I hv rv;subst e3;have hlen:ps.length=nss.length:=by rw[←e1,ξ]
 refine ja.vm (ps:=ps) (I.ok.hd hc) pl.isList rfl (fun p hp=>(e4 p hp).2) (by lia) (by lia) fun h' tk zs kk hS hD=>?_;obtain⟨o,es,ep,t,S,T⟩:=hS;refine⟨.ref s.heap.objs.size,_,I.laid (o:=.ext (vL X.prog X.w s.heap.objs.size zs)) kk (Γ _) ?_,rfl,q _ zs (I.cq.fresh (Γ _)) (fun p hp=>(e4 p (hD.sub p hp)).1) (fun ns=>?_) S.nd ?_⟩
 ·refine⟨⟨o,es,ep,t,S.at_,S.ex,S.dat,S.ents,S.nd,S.plain,S.led,T⟩,⟨o,S.at_⟩,fun h1 h2 ⟨o',es',ep',t',y1,y⟩ kk2=>⟨o',es',ep',t',kk2 _ y1,y⟩⟩
 ·rw[←e1];constructor
  ·intro hm;obtain⟨p,hp,rfl⟩:=aP.mp hm;exact aP.mpr ⟨p,hD.sub p hp,rfl⟩
  ·intro hm;obtain⟨p,hp,rfl⟩:=aP.mp hm;exact hD.all p hp
 ·rw[←hlen];exact hD.len
theorem PC(hc:X.calm=true)(hu:X.A.units+64<cLine):ju X (.builtin "sorted") (fun vs H Q=>∃(b:ε) (zs:List (List Int×ε)),vs=[.ref b]/\H b=some (.ext (vL X.prog X.w b zs))/\(∀p∈zs,cF X.K H p.2 (p.1.map V.int))/\zs.length≤60/\(∀p∈zs,p.1≠[]) ∧
  ∀(p:ε) (mss:List (List Int)) (ys:List V),H p=none->mss.Perm (zs.map (·.1))->qx mss->aO X.K H (mss.map tupI) ys->Q (.ref p) (upd H p (.lst ys))):=by
 intro pins s σ H vs us Q I r h;obtain⟨b,zs,rfl,hb,hk,hz,hne,q⟩:=h;obtain⟨u,rfl,ru⟩:=vals1 r;cases ru;obtain⟨⟨o,es,ep,t,y1,y2,y3,y4,y5,y6,y7,T⟩,_⟩:=(show fu X.prog X.w H s.heap b _ from I.cq b _ hb);have hK:∀p∈zs,ja.iH X.prog X.w s.heap p.1 p.2:=fun p hp=>by
  obtain⟨its,rv,⟨o,h1,h2,n,h3⟩,_⟩:=I.tuple (hk p hp);exact⟨o,its.toArray,n,h1,h2,h3,BU rv⟩
 have S:ja.lT X.prog X.w s.heap b o es ep t zs:=⟨y1,y2,y3,y4,hK,y5,y6,y7⟩;obtain⟨zs',p1,p2⟩:=PF (ja.nc X.w b ep es) y4;have hsz:es.size=zs.length:=by
  have:es.toList.length=zs.length:=by rw[y4,ξ]
  simpa using this
 refine qw.u9 (ps:=zs') (fun p hp=>⟨hK p (p1.mem_iff.mp hp),hne p (p1.mem_iff.mp hp)⟩) (by rw[p1.length_eq];lia) (fun R hR=>?_) fun qs s' c D' hS hn hD hm=>?_
 ·refine ja.uj (by have:=I.ok.hd hc;simpa using this) S.wk T (by lia) fun s' hm=>?_;have:=hR s' hm;rw[p2,bH];exact this
 ·refine Hw I (by rw[p1.length_eq];lia) hS hn hD hm fun hf=>?_;refine q _ (qs.map (·.1)) _ hf ((hS.perm.map _).trans (p1.map _)) ?_ (BR fun p hp=>hk p (p1.mem_iff.mp (hS.perm.mem_iff.mp hp)));exact eZ.mpr hS.rise
end
section
variable {X:Cx} {K:ζ} {e:π} {es:List π} {t:dj} {ta:aK} {pos p p' pos':aL}
def wm:C3:=fun ds G Q=>match ds with
 |[.obj a]=>∃nss:List (List Int),G a=some (.lst (nss.map tupI))/\nss.length<64/\(∀ns∈nss,ns≠[])/\∀(p:ε) (mss:List (List Int)) (G':Gp),dg G p (.lst (mss.map tupI)) G'->mss.Perm nss->qx mss->Q (.obj p) G'
 |_=>False
theorem PB:qz K wm (fun vs H Q=>∃(a:ε) (xs:List V) (nss:List (List Int)),vs=[.ref a]/\eA K H a xs/\aO K H (nss.map tupI) xs/\nss.length<64/\(∀ns∈nss,ns≠[]) ∧
  ∀(p:ε) (mss:List (List Int)) (ys:List V),H p=none->mss.Perm nss->qx mss->aO K H (mss.map tupI) ys->Q (.ref p) (upd H p (.lst ys))):=fun ds vs G H Q3 Q h RG q k=>by
 rcases ds with _|⟨d,_|⟨d2,ds⟩⟩
 ·exact q.elim
 ·obtain⟨v,rfl,hv⟩:=qm h;cases d with
  |obj a=>
   obtain⟨nss,e1,hz,hne,q⟩:=q;obtain⟨xs,e2,e3⟩:=RG a _ e1;rw[i4 hv];exact⟨a,xs,nss,rfl,.of e2,e3,hz,hne,fun p mss ys hp h1 h2 h3=>k _ _ (.obj p) _ qj (.ix hp) (RG.tJ hp h3) (q p mss _ (.mk' (RG.free hp)) h1 h2)⟩
  |_=>exact q.elim
 ·cases d<;>exact q.elim
theorem Pz(hu:X.A.units+64<cLine)(hm:X.mg "sorted" = none)(ha:jR X (e::es) t)(hc:X.calm=true:=by rfl)(hg:Gl X "sorted":=by rfl)(he:notStar e=true:=by rfl)(hpl:es.all notStar=true:=by rfl):
  bV X (.Call (.Name "sorted" p) (e::es) [] pos) (dA wm t):=rH PB (rq (PH hc hu) hg hm rfl ha (he:=fq he) (hpl:=kD hpl))
def tO(ta:aK):aK:=fun τ G Q=>ta τ G fun x G1=>match x with
 |.obj a=>∃nss:List (List Int),G1 a=some (.lst (nss.map tupI))/\nss.length≤60/\(∀ns∈nss,ns≠[])/\∀(p:ε) (mss:List (List Int)) (G':Gp),dg G1 p (.lst (mss.map tupI)) G'->(∀ns,ns∈mss↔ns∈nss)->mss.Nodup->qx mss->mss.length≤nss.length->Q (.obj p) G'
 |_=>False
theorem Py(hu:X.A.units+64<cLine)(ha:bV X e ta)(hm:X.mg "sorted" = none)(hm2:X.mg "set" = none)(hc:X.calm=true:=by rfl)(hg:Gl X "sorted":=by rfl)(hg2:Gl X "set":=by rfl)(he2:notStar e=true:=by rfl):
  bV X (.Call (.Name "sorted" p) [.Call (.Name "set" p') [e] [] pos'] [] pos) (tO ta):=
 jM (rq (PC hc hu) hg hm rfl (wA (Cf (PD hc hu) hg2 hm2 rfl (wA ha yk (fq he2)) (he:=fq he2) (hpl:=kD rfl)) yk (fq rfl)) (he:=fq rfl) (hpl:=kD rfl)) fun σ H Q ⟨τ,G,Q3,RS,RG,h,k⟩=>by
  refine⟨τ,G,_,RS,RG,h,fun v H1 d G1 h1 S1 R1 q1=>?_⟩;cases d with
  |obj a=>
   obtain⟨nss,e1,hz,hne,q⟩:=q1;obtain⟨xs,e2,e3⟩:=R1 a _ e1;rw[i4 h1];refine⟨a,xs,nss,rfl,.of e2,e3,hz,fun b zs hb hk hmem hnd hlen=>?_⟩;have E2:Ext H1 (upd H1 b (.ext (vL X.prog X.w b zs))):=.laid hb;refine⟨b,zs,rfl,g8,fun p hp=>cF.ext E2 (hk p hp),by lia,fun p hp=>hne _ ((hmem _).mp (aP.mpr ⟨p,hp,rfl⟩)),fun p mss ys hp hpm hr hv=>?_⟩;have R2:bo X.K G1 (upd H1 b (.ext (vL X.prog X.w b zs))):=R1.laid hb;refine k _ _ (.obj p) _ qj ((S1.trans (.laid hb)).trans (.ix hp)) (R2.tJ hp hv) (q p mss _ (.mk' (R2.free hp)) (fun ns=>?_) ?_ hr ?_)
   ·rw[hpm.mem_iff];exact hmem ns
   ·exact hpm.nodup_iff.mpr hnd
   ·rw[hpm.length_eq,ξ];exact hlen
  |_=>exact q1.elim
def qu:List D->Option (List Bool)
 |[]=>some []
 |.bl b::r=>(qu r).map (b::·)
 |_::_=>none
theorem Hu{H:Hp}:∀{ds:List D} {vs:List V} {bs:List Bool},aO K H ds vs->qu ds=some bs->vs=bs.map V.bl
 |[],vs,ns,h,e=>by
  cases e;exact h.iN
 |d::ds,vs,ns,h,e=>by
  cases d with
  |bl i=>
   obtain⟨v,r,rfl,z1,z2⟩:=h.inv;unfold qu at e;cases hm:qu ds with
   |none=>rw[hm] at e;cases e
   |some ms=>
    rw[hm] at e;cases e;rw[wy z1,Hu z2 hm];rfl
  |_=>cases e
theorem Ht:∀{bs:List Bool} {us:List δ},bh (bs.map V.bl) us->us=bs.map kN
 |[],_,.nil=>rfl
 |b::bs,_,.cons r rr=>by
  rw[(show _=kN b from r),Ht rr];rfl
theorem range_all(bs:List Bool):(Δ bs.length).all (fun i=>bs.getD i false)=bs.all id:=by
 rw[gO];simp only[iB,aH,id_eq];constructor
 ·intro h b hb;obtain⟨i,hi,rfl⟩:=List.mem_iff_getElem.mp hb;have:=h i hi;simpa [jk,hi] using this
 ·intro h i hi;have:=h bs[i] (List.getElem_mem hi);simpa [jk,hi] using this
theorem Hs(hc:X.calm=true){pins:List (ε×aN)}{s:η}{σ:L2.St}{H:Hp}{a:ε}{xs:List V}{E:δ->η->Prop}(I:Inv X pins σ H s)(hl:eA X.K H a xs){Q:δ->η->Prop}
  (q:∀(its:List δ) (I':ε),bh xs its->WalksS X.prog X.w X.A.in1 I' [I',a] [I'] (fun x y=>y=x) its.length (fun i v=>its[i]?=some v) (fun i s=>s.heap.IsListIter I' a i/\s.heap.IsList a its.toArray) ->
   (s.heap.push { cls:=.type "list_iterator",data:=.fields #[.ref a,.int 0 0]}).IsListIter I' a 0->(s.heap.push { cls:=.type "list_iterator",data:=.fields #[.ref a,.int 0 0]}).IsList a its.toArray ->
   (∀b∈[I',a],b<(s.heap.push { cls:=.type "list_iterator",data:=.fields #[.ref a,.int 0 0]}).objs.size) ->
   (∀s',Moved [I'] (fun x y=>y=x) { s with heap:=s.heap.push { cls:=.type "list_iterator",data:=.fields #[.ref a,.int 0 0]}} s'->Inv X pins σ H s')->Q (.ref I') { s with heap:=s.heap.push { cls:=.type "list_iterator",data:=.fields #[.ref a,.int 0 0]}}):
  ρ (model X.prog X.w) X.A.in1 (pyIter (.ref a)) Q E s:=by
 obtain⟨its,rv,pl,_⟩:=I.list hl;have hla:a<s.heap.objs.size:=by
  obtain⟨o,h1,_⟩:=pl.isList;exact Ω h1
 refine eX pl.isList ?_;have hW:=(Walks.list (prog:=X.prog) (w:=X.w) (A:=X.A.in1) (by have:=I.ok.hd hc;simpa using this) s.heap.objs.size a (aX hla) its.toArray).toS;refine q its s.heap.objs.size rv (by simpa using hW) ⟨_,Φ _ rfl,rfl,rfl⟩ ?_ ?_ fun s' hm=>?_
 ·obtain⟨o,h1,h2⟩:=pl.isList;exact⟨o,ν _ h1,h2⟩
 ·intro b hb;rw[size_push'];rcases az.mp hb with e|e
  ·rw[e];exact iz _
  ·have:b=a:=by simpa using e
   rw[this];exact gZ hla
 ·have e:s'={ s with heap:=s'.heap,toks:=s'.toks }:=by
   cases s';cases s;have h1:=hm.gens;have h2:=hm.drawn;have h3:=hm.os;simp only at h1 h2 h3;subst h1 h2 h3;rfl
  rw[e];exact I.kept fun b u z=>hm.heap b u (fun y=>by
   have:b=s.heap.objs.size:=by simpa using y
   exact absurd (this▸Ω z) (cz _)) (ν _ z)
theorem Px(hc:X.calm=true):ju X (.builtin "all") (fun vs H Q=>∃(a:ε) (bs:List Bool),vs=[.ref a]/\eA X.K H a (bs.map V.bl)/\Q (.bl (bs.all id)) H):=by
 intro pins s σ H vs us Q I r h;obtain⟨a,bs,rfl,hl,q⟩:=h;obtain⟨u,rfl,ru⟩:=vals1 r;cases ru;refine call_all_walkS (Hs hc I hl fun its I' rv W h1 h2 h3 back=>⟨I',_,_,_,_,_,_,fun i=>bs.getD i false,rfl,W,⟨h1,h2⟩,?_,fun s' hm=>?_⟩)
 ·intro i v s' Q' E' hv hq;have hx:=Ht rv;subst hx;rw[ag] at hv;cases hb:bs[i]? with
  |none=>rw[hb] at hv;cases hv
  |some b=>
   rw[hb] at hv;cases hv;have:bs.getD i false=b:=by simp[jk,hb]
   dsimp only at hq;rw[this] at hq;exact gX hq
 ·have:its.length=bs.length:=by rw[←rv.length,ξ]
  rw[this,range_all];exact⟨.bl (bs.all id),H,back s' hm,rfl,q⟩
theorem Hr(ns:List Int):∀k,k≤ns.length->preSum (fun i=>ns.getD i 0) k=(ns.take k).sum
 |0,_=>by simp[preSum]
 |k+1,hk=>by
  rw[preSum,Hr ns k (by lia),List.take_succ,eR];have:k<ns.length:=by lia
  simp[jk,this]
theorem Qg(hc:X.calm=true):ju X (.builtin "sum") (fun vs H Q=>∃(a:ε) (ns:List Int),vs=[.ref a]/\eA X.K H a (ns.map V.int)/\Q (.int ns.sum) H):=by
 intro pins s σ H vs us Q I r h;obtain⟨a,ns,rfl,hl,q⟩:=h;obtain⟨u,rfl,ru⟩:=vals1 r;cases ru;refine call_sum_walkAnyS (Hs hc I hl fun its I' rv W h1 h2 h3 back=>⟨I',_,_,_,_,_,_,fun i=>ns.getD i 0,rfl,W,⟨h1,h2⟩,h3,?_,fun s' t' hm=>?_⟩)
 ·intro i v hv;have hi:i<ns.length:=by
   have h4:its.length=ns.length:=by rw[←rv.length,ξ]
   have:=(aw.mp hv).1;lia
  obtain⟨u',e1,e2⟩:=rv.get (i:=i) (x:=.int ns[i]) (by rw[ag,ar hi];rfl);rw[hv] at e1;cases e1;obtain⟨t,rfl⟩:=(show ∃t,v=oJ ns[i] t from e2);exact⟨t,by simp[jk,hi]⟩
 ·have h4:its.length=ns.length:=by rw[←rv.length,ξ]
  rw[h4,Hr ns ns.length (Γ _),oi];exact⟨.int ns.sum,H,back s' hm,⟨t',rfl⟩,q⟩
def wj:C3:=fun ds G Q=>match ds with
 |[.obj a]=>∃xs bs,G a=some (.lst xs)/\qu xs=some bs/\Q (.bl (bs.all id)) G
 |_=>False
def wg:C3:=fun ds G Q=>match ds with
 |[.obj a]=>∃xs ns,G a=some (.lst xs)/\intsOf xs=some ns/\Q (.int ns.sum) G
 |_=>False
theorem Qf:qz K wj (fun vs H Q=>∃(a:ε) (bs:List Bool),vs=[.ref a]/\eA K H a (bs.map V.bl)/\Q (.bl (bs.all id)) H):=fun ds vs G H Q3 Q h RG q k=>by
 rcases ds with _|⟨d,_|⟨d2,ds⟩⟩
 ·exact q.elim
 ·obtain⟨v,rfl,hv⟩:=qm h;cases d with
  |obj a=>
   obtain⟨xs,bs,e1,e2,q⟩:=q;obtain⟨ys,e3,e4⟩:=RG a _ e1;rw[i4 hv];rw[Hu e4 e2] at e3;exact⟨a,bs,rfl,.of e3,k _ H _ G nK (.refl H G) RG q⟩
  |_=>exact q.elim
 ·cases d<;>exact q.elim
theorem Qe:qz K wg (fun vs H Q=>∃(a:ε) (ns:List Int),vs=[.ref a]/\eA K H a (ns.map V.int)/\Q (.int ns.sum) H):=fun ds vs G H Q3 Q h RG q k=>by
 rcases ds with _|⟨d,_|⟨d2,ds⟩⟩
 ·exact q.elim
 ·obtain⟨v,rfl,hv⟩:=qm h;cases d with
  |obj a=>
   obtain⟨xs,bs,e1,e2,q⟩:=q;obtain⟨ys,e3,e4⟩:=RG a _ e1;rw[i4 hv];rw[rm e4 e2] at e3;exact⟨a,bs,rfl,.of e3,k _ H _ G mT (.refl H G) RG q⟩
  |_=>exact q.elim
 ·cases d<;>exact q.elim
theorem Qd(hu:X.A.units+64<cLine)(hm:X.mg "all" = none)(ha:jR X (e::es) t)(hc:X.calm=true:=by rfl)(hg:Gl X "all":=by rfl)(he:notStar e=true:=by rfl)(hpl:es.all notStar=true:=by rfl):
  bV X (.Call (.Name "all" p) (e::es) [] pos) (dA wj t):=rH Qf (rq (Px hc) hg hm rfl ha (he:=fq he) (hpl:=kD hpl))
theorem Qc(hu:X.A.units+64<cLine)(hm:X.mg "sum" = none)(ha:jR X (e::es) t)(hc:X.calm=true:=by rfl)(hg:Gl X "sum":=by rfl)(he:notStar e=true:=by rfl)(hpl:es.all notStar=true:=by rfl):
  bV X (.Call (.Name "sum" p) (e::es) [] pos) (dA wg t):=rH Qe (rq (Qg hc) hg hm rfl ha (he:=fq he) (hpl:=kD hpl))
end
end L3
namespace L3
open PySem PySem.Spec PyProof.Rows L2
open Sem (wp)
def Ik(k:Bool)(h:ay)(jt a:ε)(i:Nat):Prop:=match k with
 |true=>h.IsListIter jt a i
 |false=>h.IsTupleIter jt a i
def Sk(k:Bool)(h:ay)(a:ε)(xs:Array δ):Prop:=match k with
 |true=>h.IsList a xs
 |false=>h.IsTuple a xs
theorem Ik.of{k:Bool}{h h':ay}{jt a:ε}{i:Nat}(x:Ik k h jt a i)(f:∀o,h.get? jt=some o->h'.get? jt=some o):Ik k h' jt a i:=by
 cases k<;>(obtain⟨o,e,r⟩:=x;exact⟨o,f o e,r⟩)
theorem Sk.of{k:Bool}{h h':ay}{a:ε}{xs:Array δ}(x:Sk k h a xs)(f:∀o,h.get? a=some o->h'.get? a=some o):Sk k h' a xs:=by
 cases k<;>(obtain⟨o,e,r⟩:=x;exact⟨o,f o e,r⟩)
theorem Ik.obj{k:Bool}{h:ay}{jt a:ε}{i:Nat}(x:Ik k h jt a i):∃o,h.get? jt=some o/\∀v,o.data≠.cell v:=by
 cases k<;>(obtain⟨o,e,c,d⟩:=x;exact⟨o,e,fun v z=>by rw[d] at z;cases z⟩)
section
variable {P:aG} {w:aQ} {A:bT} {E:δ->η->Prop} {s:η}
theorem nextK{k:Bool}{jt a:ε}{i:Nat}{xs:Array δ}{u:δ}{Q:δ->η->Prop}(hi:Ik k s.heap jt a i)(ha:Sk k s.heap a xs)(hx:xs[i]?=some u)
  (q:∀h',Ik k h' jt a (i+1)->cJ jt s.heap h'->Q u { s with heap:=h' }):ρ (model P w) A (cx (.ref jt)) Q E s:=by
 cases k with
 |true=>exact wpAny_nextOf_list_item hi ha hx q
 |false=>
  have hi:s.heap.IsTupleIter jt a i:=hi;obtain⟨o,e1,c1,d1⟩:=id hi;obtain⟨oa,e2,c2,n2,d2⟩:=(show s.heap.IsTuple a xs from ha);unfold cx;refine γ (bZ (name:=eO "__next__") hi.typeIs F.slot_tuple_iterator_next (bW F.slot_tuple_iterator_next hi.typeIs F.entry_tuple_iterator_next ?_ (F.args_tuple_iterator_next_1 _)));show ρ _ _ (field (.ref jt) 0 >>= _) _ _ s;refine γ (cn e1 d1 (x:=.ref a) rfl ?_);show ρ _ _ (if (aV a==b6)=true then _ else _) _ _ s;rw[if_neg (show ¬((aV a==b6)=true) from ao)];show ρ _ _ (field (.ref jt) 1 >>= _) _ _ s;refine γ (cn e1 d1 (x:=.int i 0) rfl ?_);show ρ _ _ (seqItems? (.ref a) >>= _) _ _ s;refine γ (dC e2 d2 ?_);simp only[hx,aU];refine γ (pN e1 d1 (by simp) (ι ⟨u,rfl,ι (q _ ?_ (cN ..))⟩));exact⟨_,fK _ e1 (aN.isFreed_of_fields (aN.data_mapFields d1 _)),(aN.cls_mapFields ..).trans c1,by rw[aN.data_mapFields d1];simp[rawInt]⟩
theorem Hq{k:Bool}{jt a:ε}{i:Nat}{xs:Array δ}{Q:δ->η->Prop}(hh:A.handled=none)(hi:Ik k s.heap jt a i)(ha:Sk k s.heap a xs)(hx:xs[i]?=none)
  (q:∀h' e,sS jt s.heap h'->(∃o,h'.get? e=some o/\o.cls=.type "StopIteration")->E (.ref e) { s with heap:=h' }):ρ (model P w) A (cx (.ref jt)) Q E s:=by
 cases k with
 |true=>exact wpAny_nextOf_list_end hh hi ha hx q
 |false=>
  have hi:s.heap.IsTupleIter jt a i:=hi;obtain⟨o,e1,c1,d1⟩:=id hi;obtain⟨oa,e2,c2,n2,d2⟩:=(show s.heap.IsTuple a xs from ha);unfold cx;refine γ (bZ (name:=eO "__next__") hi.typeIs F.slot_tuple_iterator_next (bW F.slot_tuple_iterator_next hi.typeIs F.entry_tuple_iterator_next ?_ (F.args_tuple_iterator_next_1 _)));show ρ _ _ (field (.ref jt) 0 >>= _) _ _ s;refine γ (cn e1 d1 (x:=.ref a) rfl ?_);show ρ _ _ (if (aV a==b6)=true then _ else _) _ _ s;rw[if_neg (show ¬((aV a==b6)=true) from ao)];show ρ _ _ (field (.ref jt) 1 >>= _) _ _ s;refine γ (cn e1 d1 (x:=.int i 0) rfl ?_);show ρ _ _ (seqItems? (.ref a) >>= _) _ _ s;refine γ (dC e2 d2 ?_);simp only[hx,aU];refine γ (kJ (γ (pN e1 d1 (by simp) ?_)));show ρ _ _ (newExc (.type "StopIteration") [] >>= _) _ _ ({ s with heap:=_ }:η);refine γ ?_;simp only[newTuple,newExc];refine γ (bI ?_ (by size_fits));refine γ (m:=firstArgMember _ _) (jT (a:=b6) (by first|(simp only[firstArgMember];rfl)|rfl) ?_)
  refine bI ?_ (by size_fits);simp only[raiseNew];refine γ (qL ?_)
  first|rw[hh]|rw[show A.in1.handled=none from hh]
  refine γ (ι (wpAny_throw ?_));exact q _ _ (((cN ..).extBut.push _).push _) ⟨_,Φ _ rfl,rfl⟩
theorem Ll{k1 k2:Bool}{zz ti ot j1 j2 a1 a2:ε}{m n:Nat}{xs ys:Array δ}{u v c d:δ}{Q:δ->η->Prop}(D:ZipApart zz ti ot j1 j2 a1 a2)
  (Z:ka s.heap zz ti ot .none) (Ti:gv s.heap ti (.ref j1) (.ref j2)) (To:gv s.heap ot c d) (g1:Ik k1 s.heap j1 a1 m) (g2:Ik k2 s.heap j2 a2 n) (s1:Sk k1 s.heap a1 xs) (s2:Sk k2 s.heap a2 ys) (hu:xs[m]?=some u) (hv:ys[n]?=some v)
  (q:∀h',ka h' zz ti ot (rawInt s.heap.objs.size)->gv h' ot u v->Ik k1 h' j1 a1 (m+1)->Ik k2 h' j2 a2 (n+1)->gv h' s.heap.objs.size u v ->
   (∀b o,b≠zz->b≠ot->b≠j1->b≠j2->s.heap.get? b=some o->h'.get? b=some o)->Q (.ref s.heap.objs.size) { s with heap:=h' }):
  ρ (model P w) A (dP.«zip.__next__» ⟨[.ref zz],[]⟩) (fun fin s'=>∃r,fin=.done (.ret r)/\Q r s') E s:=by
 show ρ _ _ (field (.ref zz) 2 >>= _) _ _ _;refine γ (cn Z rfl (x:=.bool false) rfl ?_);show ρ _ _ (field (.ref zz) 3 >>= _) _ _ _;refine γ (cn Z rfl (x:=.ref ti) rfl ?_);refine γ (dC Ti rfl ?_);show ρ _ _ (dE (.ref zz) >>= _) _ _ _;refine γ ?_;unfold dE;refine γ (cn Z rfl (x:=.none) rfl (ι ?_));simp only[if_true];refine γ (kJ ?_);refine γ (cn Z rfl (x:=.ref ot) rfl ?_);refine γ (bQ Z (by simp) fun w1 Z1 b1=>?_)
 replace Z1:ka w1 zz ti ot .ellipsis:=Z1
 refine γ ?_
 (simp only[List.zipIdx_nil,List.zipIdx_cons,pW,kW])
 have k1_:∀b o,b≠zz->s.heap.get? b=some o->w1.get? b=some o:=fun b o h e=>b1.extBut b o h e;refine γ (γ (mL ?_));show ρ _ _ (cx (.ref j1) >>= _) _ _ _;refine γ (nextK (g1.of fun o e=>k1_ _ o D.i1z e) (s1.of fun o e=>k1_ _ o D.l1z e) hu fun w2 J1 b2=>ι ?_);have k2_:∀b o,b≠zz->b≠j1->s.heap.get? b=some o->w2.get? b=some o:=fun b o h h2 e=>b2.extBut b o h2 (k1_ b o h e);have To2:gv w2 ot c d:=k2_ _ _ D.TOz D.TOi1 To;refine γ (dC To2 rfl ?_);refine γ (kI To2 fun w3 To3 b3=>?_)
 replace To3:gv w3 ot u d:=To3
 have k3_:∀b o,b≠zz->b≠j1->b≠ot->s.heap.get? b=some o->w3.get? b=some o:=fun b o h h2 h3 e=>b3.extBut b o h3 (k2_ b o h h2 e);refine γ (pf (ι ?_));refine γ (γ (mL ?_));show ρ _ _ (cx (.ref j2) >>= _) _ _ _;refine γ (nextK (g2.of fun o e=>k3_ _ o D.i2z D.i12.symm D.TOi2.symm e) (s2.of fun o e=>k3_ _ o D.l2z D.l2i1 D.l2TO e) hv fun w4 J2 b4=>ι ?_);have To4:gv w4 ot u d:=b4.extBut _ _ D.TOi2 To3;refine γ (dC To4 rfl ?_);refine γ (kI To4 fun w5 To5 b5=>?_)
 replace To5:gv w5 ot u v:=To5
 refine γ (pf (ι (ι ?_)));refine γ (dC To5 rfl ?_);refine γ (lK ?_);have sz:w5.objs.size=s.heap.objs.size:=by rw[b5.1,b4.1,b3.1,b2.1,b1.1]
 have Z5:ka w5 zz ti ot .ellipsis:=b5.extBut _ _ D.TOz.symm (b4.extBut _ _ D.i2z.symm (b3.extBut _ _ D.TOz.symm (b2.extBut _ _ D.i1z.symm Z1)));have k5_:∀b o,b≠zz->b≠ot->b≠j1->b≠j2->s.heap.get? b=some o->w5.get? b=some o:=fun b o c1 c2 c3 c4 e=>b5.extBut _ _ c2 (b4.extBut _ _ c4 (k3_ b o c1 c3 c2 e));have L1:Ik k1 w5 j1 a1 (m+1):=J1.of fun o e=>b5.extBut _ _ D.TOi1.symm (b4.extBut _ _ D.i12 (b3.extBut _ _ D.TOi1.symm e));have L2:Ik k2 w5 j2 a2 (n+1):=J2.of fun o e=>b5.extBut _ _ D.TOi2.symm e;have lz:zz<w5.objs.size:=Ω Z5;show ρ _ _ (jn (.ref zz) (.ref w5.objs.size) >>= _) _ _ _;refine γ ?_;unfold jn;have Z6:ka (w5.push { cls:=.type "tuple",data:=.seq #[u,v]}) zz ti ot .ellipsis:=ν _ Z5;refine γ (bQ Z6 (by simp) fun w7 Z7 b7=>?_)
 replace Z7:ka w7 zz ti ot (rawInt w5.objs.size):=Z7
 refine bQ Z7 (by simp) fun w8 Z8 b8=>?_
 replace Z8:ka w8 zz ti ot (rawInt w5.objs.size):=Z8
 have up:∀b o,b≠zz->w5.get? b=some o->w8.get? b=some o:=fun b o c1 e=>b8.extBut _ _ c1 (b7.extBut _ _ c1 (ν _ e));have T8:gv w8 w5.objs.size u v:=b8.extBut _ _ (eP lz) (b7.extBut _ _ (eP lz) (Φ _ rfl));rw[sz] at Z8 T8;refine ι ⟨_,rfl,?_⟩;show Q (.ref w5.objs.size) _;rw[sz];exact q w8 Z8 (up _ _ D.TOz To5) (L1.of fun o e=>up _ o D.i1z e) (L2.of fun o e=>up _ o D.i2z e) T8 fun b o c1 c2 c3 c4 e=>up b o c1 (k5_ b o c1 c2 c3 c4 e)
theorem Qb{k1 k2:Bool}{zz ti ot j1 j2 a1 a2:ε}{m n:Nat}{xs ys:Array δ}{c d:δ}{Q:Fin->η->Prop}(hh:A.handled=none)(D:ZipApart zz ti ot j1 j2 a1 a2)
  (Z:ka s.heap zz ti ot .none) (Ti:gv s.heap ti (.ref j1) (.ref j2)) (To:gv s.heap ot c d) (g1:Ik k1 s.heap j1 a1 m) (g2:Ik k2 s.heap j2 a2 n) (s1:Sk k1 s.heap a1 xs) (s2:Sk k2 s.heap a2 ys) (he:xs[m]?=none∨ys[n]?=none)
  (q:∀h' e,(∀b o,b≠zz->b≠ot->b≠j1->b≠j2->s.heap.get? b=some o->h'.get? b=some o)->(∃o,h'.get? e=some o/\o.cls=.type "StopIteration")->E (.ref e) { s with heap:=h' }):
  ρ (model P w) A (dP.«zip.__next__» ⟨[.ref zz],[]⟩) Q E s:=by
 show ρ _ _ (field (.ref zz) 2 >>= _) _ _ _;refine γ (cn Z rfl (x:=.bool false) rfl ?_);show ρ _ _ (field (.ref zz) 3 >>= _) _ _ _;refine γ (cn Z rfl (x:=.ref ti) rfl ?_);refine γ (dC Ti rfl ?_);show ρ _ _ (dE (.ref zz) >>= _) _ _ _;refine γ ?_;unfold dE;refine γ (cn Z rfl (x:=.none) rfl (ι ?_));simp only[if_true];refine γ (kJ ?_);refine γ (cn Z rfl (x:=.ref ot) rfl ?_);refine γ (bQ Z (by simp) fun w1 Z1 b1=>?_)
 replace Z1:ka w1 zz ti ot .ellipsis:=Z1
 refine γ ?_
 (simp only[List.zipIdx_nil,List.zipIdx_cons,pW,kW])
 have k1_:∀b o,b≠zz->s.heap.get? b=some o->w1.get? b=some o:=fun b o h e=>b1.extBut b o h e;refine γ (γ (mL ?_));show ρ _ _ (cx (.ref j1) >>= _) _ _ _;cases hx:xs[m]? with
 |none=>
  refine γ (Hq hh (g1.of fun o e=>k1_ _ o D.i1z e) (s1.of fun o e=>k1_ _ o D.l1z e) hx fun w2 e b2 hs=>?_);obtain⟨oe,e1,e2⟩:=hs;have Z2:ka w2 zz ti ot .ellipsis:=b2 _ _ D.i1z.symm Z1;have ez:e≠zz:=fun x=>by
   subst x;rw[Z2] at e1;cases e1;simp at e2
  exact bQ Z2 (by simp) fun w3 _ b3=>q w3 e (fun b o c1 _ c3 _ x=>b3.extBut _ _ c1 (b2 _ _ c3 (k1_ b o c1 x))) ⟨oe,b3.extBut _ _ ez e1,e2⟩
 |some u=>
  have hy:ys[n]?=none:=by
   rcases he with h|h
   ·rw[hx] at h;cases h
   ·exact h
  refine γ (nextK (g1.of fun o e=>k1_ _ o D.i1z e) (s1.of fun o e=>k1_ _ o D.l1z e) hx fun w2 J1 b2=>ι ?_);have k2_:∀b o,b≠zz->b≠j1->s.heap.get? b=some o->w2.get? b=some o:=fun b o h h2 e=>b2.extBut b o h2 (k1_ b o h e);have To2:gv w2 ot c d:=k2_ _ _ D.TOz D.TOi1 To;refine γ (dC To2 rfl ?_);refine γ (kI To2 fun w3 To3 b3=>?_);have k3_:∀b o,b≠zz->b≠j1->b≠ot->s.heap.get? b=some o->w3.get? b=some o:=fun b o h h2 h3 e=>b3.extBut b o h3 (k2_ b o h h2 e);refine γ (pf (ι ?_));refine γ (γ (mL ?_));show ρ _ _ (cx (.ref j2) >>= _) _ _ _;refine γ (Hq hh (g2.of fun o e=>k3_ _ o D.i2z D.i12.symm D.TOi2.symm e) (s2.of fun o e=>k3_ _ o D.l2z D.l2i1 D.l2TO e) hy fun w4 e b4 hs=>?_);obtain⟨oe,e1,e2⟩:=hs;have Z4:ka w4 zz ti ot .ellipsis:=b4 _ _ D.i2z.symm (b3.extBut _ _ D.TOz.symm (b2.extBut _ _ D.i1z.symm Z1));have ez:e≠zz:=fun x=>by
   subst x;rw[Z4] at e1;cases e1;simp at e2
  exact bQ Z4 (by simp) fun w5 _ b5=>q w5 e (fun b o c1 c2 c3 c4 x=>b5.extBut _ _ c1 (b4 _ _ c4 (k3_ b o c1 c3 c2 x))) ⟨oe,b5.extBut _ _ ez e1,e2⟩
end
end L3
namespace L3
open PySem PySem.Spec PyProof.Rows L2
open Sem (wp)
section
variable {X:Cx} {pins:List (ε×aN)} {σ:L2.St} {H:Hp} {s:η}
theorem sa{h':ay}{t':Nat}{fp:List ε}(I:L2.Inv X pins σ H s)(k:∀b o,b∉fp->s.heap.get? b=some o->h'.get? b=some o)(hf:∀b∈fp,jc X pins H b):L2.Inv X pins σ H { s with heap:=h',toks:=t' }:=by
 have nit:∀b u,H b=some u->b∉fp:=fun b u e z=>by rw[(hf b z).1] at e;cases e
 refine I.step (g':=s.gens) (d':=s.drawn) (ch:=fp) (fun b hb=>?_) (fun b o _ _ hc e _=>k b o hc e) (fun b o _ _ hc e _=>⟨o.slots,k b o hc e⟩) (fun _ _ _ _ n=>n) (fun b o hc e=>⟨o,k b o hc e⟩) (fun _ _ e=>e) (fun _ _ _ e=>e) (fun b ps e=>⟨#[],by rw[e];simp⟩) (fun m hm=>?_) (fun b u e=>?_) I.bare
 ·obtain⟨f0,f1,f2,f3,f4,f5⟩:=hf b hb;exact⟨f3,f1,f4,f5⟩
 ·obtain⟨o,es,ep,ho,r⟩:=hm;exact⟨o,es,ep,k _ o (fun z=>(hf _ z).2.1 rfl) ho,r⟩
 ·refine (I.cq b u e).sV (fun c v hc q=>k c v ?_ q) (fun _ q=>q) fun _ _ q=>q;rcases hc with z|z
  ·rw[z];exact nit b u e
  ·exact nit c _ z
def mV(K:ζ)(k:Bool)(H:Hp)(a:ε)(xs:List V):Prop:=match k with
 |true=>eA K H a xs
 |false=>cF K H a xs
theorem mV.heap{k:Bool}{a:ε}{xs:List V}(I:L2.Inv X pins σ H s)(h:mV X.K k H a xs):∃its,bh xs its/\Sk k s.heap a its.toArray:=by
 cases k with
 |true=>
  obtain⟨its,rv,p,hz⟩:=I.list (show eA X.K H a xs from h);exact⟨its,rv,p.isList⟩
 |false=>
  obtain⟨its,rv,p,hz⟩:=I.tuple (show cF X.K H a xs from h);exact⟨its,rv,p⟩
theorem mV.inj{k:Bool}{a:ε}{xs ys:List V}(I:L2.Inv X pins σ H s)(h:mV X.K k H a xs)(h':mV X.K k H a ys):xs=ys:=by
 cases k with
 |true=>exact I.wR (show eA X.K H a xs from h) (show eA X.K H a ys from h')
 |false=>exact I.u0 (show cF X.K H a xs from h) (show cF X.K H a ys from h')
theorem mV.apart{k:Bool}{a b:ε}{xs:List V}(I:L2.Inv X pins σ H s)(h:mV X.K k H a xs)(f:jc X pins H b):a≠b:=by
 intro z;subst z;have hb:(∃u,H a=some u)∨∃o,X.K.lookup a=some o:=by
  cases k <;>
  ·rcases h with (h|⟨o,h⟩)|⟨o,_,_,h,_⟩
   ·exact .inl ⟨_,h⟩
   ·exact .inl ⟨_,h⟩
   ·exact .inr ⟨_,h⟩
 rcases hb with⟨u,e⟩|⟨o,e⟩
 ·rw[f.1] at e;cases e
 ·have e2:=I.mod.Dq a o e;rcases f.2.2.2.1 with q|q
  ·exact I.ok.tI a o e2 q
  ·exact absurd (aY (Ω (I.ok.bs a o e2).1) q) (cz _)
end
def Lh(K:ζ)(k1 k2:Bool)(a1 a2:ε):It:=
 ⟨fun i H=>∃xs ys x y,(mV K k1 H a1 xs/\xs[i]?=some x)/\mV K k2 H a2 ys/\ys[i]?=some y,
  fun i H x H'=>∃T u v,x=.ref T/\H T=none/\H'=upd H T (.tup [u,v])/\(∀xs,mV K k1 H a1 xs->xs[i]?=some u)/\∀ys,mV K k2 H a2 ys->ys[i]?=some v,
  fun i H=>∃xs ys,mV K k1 H a1 xs/\mV K k2 H a2 ys/\(xs.length≤i∨ys.length≤i)⟩
theorem K8{zz ti ot j1 j2 a1 a2:ε}(h:[zz,ti,ot,j1,j2].Nodup)(h1:∀b∈[zz,ti,ot,j1,j2],a1≠b)(h2:∀b∈[zz,ti,ot,j1,j2],a2≠b):ZipApart zz ti ot j1 j2 a1 a2:=by
 simp only[dN,az,not_or,dY,not_false_eq_true,jv,and_true] at h;obtain⟨⟨n1,n2,n3,n4⟩,⟨n5,n6,n7⟩,⟨n8,n9⟩,n10⟩:=h;exact⟨eY n1,eY n2,eY n3,eY n4,n5,n6,n7,n8,n9,n10,h1 _ (by simp),h1 _ (by simp),h1 _ (by simp),h1 _ (by simp),h2 _ (by simp),h2 _ (by simp),h2 _ (by simp),h2 _ (by simp)⟩
theorem Qa{P:aG}{w:aQ}{K:ζ}{es:List π}{n0:Nat}{ps:aL}(k1 k2:Bool)(a1 a2 zz ti ot j1 j2:ε)(hd:[zz,ti,ot,j1,j2].Nodup):
  Turn P w K (.Tuple es n0 ps) (Lh K k1 k2 a1 a2) [zz,ti,ot,j1,j2] zz (fun i h=>ka h zz ti ot .none/\gv h ti (.ref j1) (.ref j2)/\(∃c d,gv h ot c d)/\Ik k1 h j1 a1 i/\Ik k2 h j2 a2 i) where
 mem:=by simp
 obj:=fun i h st b hb=>by
  obtain⟨Z,Ti,⟨c,d,To⟩,g1,g2⟩:=st;simp only[az,dY,or_false] at hb;rcases hb with rfl|rfl|rfl|rfl|rfl
  ·exact⟨_,Z,fun v z=>by cases (show ma _=kq v from z)⟩
  ·exact⟨_,Ti,fun v z=>by cases (show Data.seq _ _=kq v from z)⟩
  ·exact⟨_,To,fun v z=>by cases (show Data.seq _ _=kq v from z)⟩
  ·exact g1.obj
  ·exact g2.obj
 keep:=fun i h h' st k=>by
  obtain⟨Z,Ti,⟨c,d,To⟩,g1,g2⟩:=st;exact⟨k _ (by simp) _ Z,k _ (by simp) _ Ti,⟨c,d,k _ (by simp) _ To⟩,g1.of fun o e=>k _ (by simp) _ e,g2.of fun o e=>k _ (by simp) _ e⟩
 item:=by
  intro X hP hw hK hc i pins s σ H E I hf st hg;subst hP hw hK;obtain⟨Z,Ti,⟨c,d,To⟩,g1,g2⟩:=st;obtain⟨xs,ys,x,y,⟨q1,hx⟩,q2,hy⟩:=hg;obtain⟨its1,rv1,p1⟩:=q1.heap I;obtain⟨its2,rv2,p2⟩:=q2.heap I;obtain⟨u,hu,ru⟩:=rv1.get hx;obtain⟨v,hv,rv⟩:=rv2.get hy;have D:=K8 hd (fun b hb=>q1.apart I (hf b hb)) (fun b hb=>q2.apart I (hf b hb));have hT:s.TypeIs (.ref zz) "zip":=⟨_,Z,rfl⟩;unfold pyNext;refine γ (iI (bZ (name:=eO "__next__") hT F.slot_zip_next (bW F.slot_zip_next hT F.entry_zip_next (Ll D Z Ti To g1 g2 p1 p2 (u:=u) (v:=v) (by simpa using hu) (by simpa using hv) fun h' Z' To' g1' g2' T' kp=>?_) (F.args_zip_next_1 _))));refine ι ⟨_,rfl,?_⟩;refine wpAny_letOwnedTupleGo_zip Z' fun h2 Z2 b2=>?_;have hn:H s.heap.objs.size=none:=I.cq.fresh (Γ _);have I1:L2.Inv X pins σ (upd H s.heap.objs.size (.tup [x,y])) { s with heap:=s.heap.push { cls:=.type "tuple",data:=.seq #[u,v]}}:=I.laid (t':=s.toks) (fun b o e=>ν _ e) (Γ _) ⟨by show 2≤aj;decide,[u,v],.cons ru (.cons rv .nil),⟨_,Φ _ rfl,rfl,⟨_,rfl⟩,rfl⟩⟩;have lt:∀b∈[zz,ti,ot,j1,j2],b<s.heap.objs.size:=fun b hb=>by
   simp only[az,dY,or_false] at hb;rcases hb with rfl|rfl|rfl|rfl|rfl
   ·exact Ω Z
   ·exact Ω Ti
   ·exact Ω To
   ·obtain⟨o,e,_⟩:=g1.obj;exact Ω e
   ·obtain⟨o,e,_⟩:=g2.obj;exact Ω e
  have hf':∀b∈[zz,ti,ot,j1,j2],jc X pins (upd H s.heap.objs.size (.tup [x,y])) b:=fun b hb=>⟨by rw[dR (aX (lt b hb))];exact (hf b hb).1,(hf b hb).2⟩;have I2:L2.Inv X pins σ (upd H s.heap.objs.size (.tup [x,y])) { s with heap:=h2 }:=sa (s:={ s with heap:=s.heap.push { cls:=.type "tuple",data:=.seq #[u,v]}}) (t':=s.toks) I1 (fun b o hb e=>by
   simp only[az,dY,or_false,not_or] at hb;refine b2.extBut b o hb.1 ?_;rcases qE e with⟨rfl,rfl⟩|e
   ·exact T'
   ·exact kp b o hb.1 hb.2.2.1 hb.2.2.2.1 hb.2.2.2.2 e) hf'
  refine⟨.ref s.heap.objs.size,_,I2,rfl,⟨_,x,y,rfl,hn,rfl,fun zs hz=>by rw[hz.inj I q1];exact hx,fun zs hz=>by rw[hz.inj I q2];exact hy⟩,⟨Z2,?_,⟨u,v,?_⟩,g1'.of fun o e=>b2.extBut _ _ D.i1z e,g2'.of fun o e=>b2.extBut _ _ D.i2z e⟩,fun b hb=>(hf' b hb).1⟩
  ·exact b2.extBut _ _ D.TIz (kp _ _ D.TIz D.TITO D.TIi1 D.TIi2 Ti)
  ·exact b2.extBut _ _ D.TOz To'
 done:=by
  intro X hP hw hK hc i pins s σ H E I hf st hg;subst hP hw hK;obtain⟨Z,Ti,⟨c,d,To⟩,g1,g2⟩:=st;obtain⟨xs,ys,q1,q2,hl⟩:=hg;obtain⟨its1,rv1,p1⟩:=q1.heap I;obtain⟨its2,rv2,p2⟩:=q2.heap I;have D:=K8 hd (fun b hb=>q1.apart I (hf b hb)) (fun b hb=>q2.apart I (hf b hb));have hT:s.TypeIs (.ref zz) "zip":=⟨_,Z,rfl⟩;have l1:=rv1.length;have l2:=rv2.length;unfold pyNext;refine γ (iI (bZ (name:=eO "__next__") hT F.slot_zip_next (bW F.slot_zip_next hT F.entry_zip_next (Qb (I.ok.hd hc) D Z Ti To g1 g2 p1 p2 (by
   rcases hl with h|h
   ·exact .inl (by simp;lia)
   ·exact .inr (by simp;lia)) fun h' e kp hs=>?_) (F.args_zip_next_1 _))))
  obtain⟨o,ho,hcl⟩:=hs;refine γ (kf (T:="StopIteration") (b:=true) ⟨o,ho,hcl⟩ pQ ?_);refine ι ⟨rfl,sa (t':=s.toks) I (fun b o hb e=>?_) hf⟩;simp only[az,dY,or_false,not_or] at hb;exact kp b o hb.1 hb.2.2.1 hb.2.2.2.1 hb.2.2.2.2 e
 self:=fun _ _ _ _ _ st h=>wpAny_pyIter_zip st.1 h
def xu(k:Bool)(a:ε):aN:=match k with
 |true=>{ cls:=.type "list_iterator",data:=.fields #[.ref a,.int 0 0]}
 |false=>{ cls:=.type "tuple_iterator",data:=.fields #[.ref a,.int 0 0]}
def Ai(k1:Bool)(h:ay)(a1:ε):ay:=h.push (xu k1 a1)
def Ah(k1 k2:Bool)(h:ay)(a1 a2:ε):ay:=(Ai k1 h a1).push (xu k2 a2)
def Ag(k1 k2:Bool)(h:ay)(a1 a2:ε):ay:=(Ah k1 k2 h a1 a2).push { cls:=.type "tuple",data:=.seq #[.ref h.objs.size,.ref (Ai k1 h a1).objs.size]}
def xj(k1 k2:Bool)(h:ay)(a1 a2:ε):ay:=(Ag k1 k2 h a1 a2).push { cls:=.type "tuple",data:=.seq #[.none,.none]}
def kv(k1 k2:Bool)(h:ay)(a1 a2:ε):ay:=(xj k1 k2 h a1 a2).push { cls:=.type "zip",data:=.fields #[.none,.bool false,.bool false,.ref (Ah k1 k2 h a1 a2).objs.size,.ref (Ag k1 k2 h a1 a2).objs.size]}
theorem Lb{k:Bool}{h:ay}{jt a:ε}(e:h.get? jt=some (xu k a)):Ik k h jt a 0:=by
 cases k<;>exact⟨_,e,rfl,rfl⟩
theorem Ho{k:Bool}{a:ε}:(xu k a).isFreed=false:=by cases k<;>rfl
theorem P9(k1 k2:Bool)(a1 a2:ε)(xs ys:Array δ):Meets (dP.«zip.__new__» ⟨[.type "zip",.ref a1,.ref a2],[]⟩) (fun _ R s=>Sk k1 s.heap a1 xs/\Sk k2 s.heap a2 ys ∧
   R (.ok (.ret (.ref (xj k1 k2 s.heap a1 a2).objs.size))) { s with heap:=kv k1 k2 s.heap a1 a2 }):=
 .of_wp fun prog w A R s h=>by
  obtain⟨hp,g,d,tk,os⟩:=s;obtain⟨h1,h2,h⟩:=h;have hsub:=sub_zip;cases k1<;>cases k2
  ·have q1:ou (gP ⟨hp,g,d,tk,os⟩) a1 xs:=h1;have q2:ou (gP ⟨hp.push { cls:=.type "tuple_iterator",data:=.fields #[.ref a1,.int 0 0]},g,d,tk,os⟩) a2 ys:=sD h2 _;wp_walk using gK q1,gK q2;exact⟨_,rfl,h⟩
  ·have q1:ou (gP ⟨hp,g,d,tk,os⟩) a1 xs:=h1;have q2:pF (gP ⟨hp.push { cls:=.type "tuple_iterator",data:=.fields #[.ref a1,.int 0 0]},g,d,tk,os⟩) a2 ys:=tS h2 _;wp_walk using gK q1,eX q2;exact⟨_,rfl,h⟩
  ·have q1:pF (gP ⟨hp,g,d,tk,os⟩) a1 xs:=h1;have q2:ou (gP ⟨hp.push { cls:=.type "list_iterator",data:=.fields #[.ref a1,.int 0 0]},g,d,tk,os⟩) a2 ys:=sD h2 _;wp_walk using eX q1,gK q2;exact⟨_,rfl,h⟩
  ·have q1:pF (gP ⟨hp,g,d,tk,os⟩) a1 xs:=h1;have q2:pF (gP ⟨hp.push { cls:=.type "list_iterator",data:=.fields #[.ref a1,.int 0 0]},g,d,tk,os⟩) a2 ys:=tS h2 _;wp_walk using eX q1,eX q2;exact⟨_,rfl,h⟩
theorem Hn{k1 k2:Bool}{h:ay}{a1 a2:ε}:ka (kv k1 k2 h a1 a2) (h.objs.size+4) (h.objs.size+2) (h.objs.size+3) .none/\gv (kv k1 k2 h a1 a2) (h.objs.size+2) (.ref h.objs.size) (.ref (h.objs.size+1))/\gv (kv k1 k2 h a1 a2) (h.objs.size+3) .none .none ∧
  Ik k1 (kv k1 k2 h a1 a2) h.objs.size a1 0/\Ik k2 (kv k1 k2 h a1 a2) (h.objs.size+1) a2 0/\(xj k1 k2 h a1 a2).objs.size=h.objs.size+4/\∀c o,h.get? c=some o->(kv k1 k2 h a1 a2).get? c=some o:=by
 have e1:(Ai k1 h a1).objs.size=h.objs.size+1:=eE ..;have e2:(Ah k1 k2 h a1 a2).objs.size=h.objs.size+2:=(eE ..).trans (by rw[e1]);have e3:(Ag k1 k2 h a1 a2).objs.size=h.objs.size+3:=(eE ..).trans (by rw[e2]);have e4:(xj k1 k2 h a1 a2).objs.size=h.objs.size+4:=(eE ..).trans (by rw[e3]);have u5:∀c o,(xj k1 k2 h a1 a2).get? c=some o->(kv k1 k2 h a1 a2).get? c=some o:=fun c o e=>ν _ e;have u4:∀c o,(Ag k1 k2 h a1 a2).get? c=some o->(kv k1 k2 h a1 a2).get? c=some o:=fun c o e=>u5 c o (ν _ e);have u3:∀c o,(Ah k1 k2 h a1 a2).get? c=some o->(kv k1 k2 h a1 a2).get? c=some o:=fun c o e=>u4 c o (ν _ e);have u2:∀c o,(Ai k1 h a1).get? c=some o->(kv k1 k2 h a1 a2).get? c=some o:=fun c o e=>u3 c o (ν _ e);have u1:∀c o,h.get? c=some o->(kv k1 k2 h a1 a2).get? c=some o:=fun c o e=>u2 c o (ν _ e);have g5:(kv k1 k2 h a1 a2).get? (xj k1 k2 h a1 a2).objs.size=some _:=Φ _ rfl;have g4:(kv k1 k2 h a1 a2).get? (Ag k1 k2 h a1 a2).objs.size=some _:=u5 _ _ (Φ _ rfl);have g3:(kv k1 k2 h a1 a2).get? (Ah k1 k2 h a1 a2).objs.size=some _:=u4 _ _ (Φ _ rfl);have g2:(kv k1 k2 h a1 a2).get? (Ai k1 h a1).objs.size=some (xu k2 a2):=u3 _ _ (Φ _ Ho);have g1:(kv k1 k2 h a1 a2).get? h.objs.size=some (xu k1 a1):=u2 _ _ (Φ _ Ho);rw[e2,e3,e4] at g5;rw[e1,e2] at g3;rw[e3] at g4;rw[e1] at g2;exact⟨g5,g3,g4,Lb g1,Lb g2,e4,u1⟩
theorem P8{P:aG}{w:aQ}{A:bT}{E:δ->η->Prop}{s:η}{k1 k2:Bool}{a1 a2:ε}{xs ys:Array δ}{Q:δ->η->Prop}(h1:Sk k1 s.heap a1 xs)(h2:Sk k2 s.heap a2 ys)
  (q:Q (.ref (s.heap.objs.size+4)) { s with heap:=kv k1 k2 s.heap a1 a2 }):ρ (model P w) A (call (.type "zip") [.ref a1,.ref a2]) Q E s:=by
 refine callType_new F.called_zip (by decide) (F.typeCall_zip_2 _ _) (F.newCall_zip_2 _ _) (fun obj=>F.args_object_init_3 obj _ _) F.entry_zip_new (P9 k1 k2 a1 a2 xs ys) ⟨h1,h2,?_⟩;obtain⟨z1,_,_,_,_,z2,_⟩:=Hn (k1:=k1) (k2:=k2) (h:=s.heap) (a1:=a1) (a2:=a2);show _/\_;rw[z2];exact⟨⟨_,z1,rfl⟩,q⟩
section
variable {X:Cx} {es:List π} {n0:Nat} {ps p pos:aL}
def Xc(K:ζ)(ta:TA):TI:=fun σ H R=>ta σ H fun vs H1=>∃k1 k2 a1 a2,vs=[.ref a1,.ref a2]/\(∃xs,mV K k1 H1 a1 xs)/\(∃ys,mV K k2 H1 a2 ys)/\R (Lh K k1 k2 a1 a2) H1
theorem P7{a b:π}{ta:TA}(hg:Gl X "zip")(hm:X.mg "zip" = none)(ha:PA X [a,b] ta)(hs:bJ [a,b] X.env=[(false,eval a X.env),(false,eval b X.env)]:=by rfl)(hs2:bJ [b] X.env=[(false,eval b X.env)]:=by rfl):
  PI X (.Tuple es n0 ps) (.Call (.Name "zip" p) [a,b] [] pos) (Xc X.K ta):=by
 intro pins s σ H R I h;refine Call_ (rA I hg hm boot_zip (cV (bL (ha pos pins s σ H _ I h) fun us s1 ⟨vs,H1,I1,r1,q1⟩=>?_) (by rw[hs,hs2]) (by rw[hs2];rfl)));obtain⟨k1,k2,a1,a2,e,⟨xs,q1⟩,⟨ys,q2⟩,q⟩:=q1;subst e;cases r1 with
 |cons r rr=>
  cases rr with
  |cons r' rr=>
   cases rr;cases r;cases r';obtain⟨its1,rv1,p1⟩:=q1.heap I1;obtain⟨its2,rv2,p2⟩:=q2.heap I1;refine P8 p1 p2 ?_;obtain⟨z1,z2,z3,z4,z5,z6,z7⟩:=Hn (k1:=k1) (k2:=k2) (h:=s1.heap) (a1:=a1) (a2:=a2);refine wpAny_pyIter_zip (s:={ s1 with heap:=kv k1 k2 s1.heap a1 a2 }) z1 ?_
   refine⟨s1.heap.objs.size+4,[s1.heap.objs.size+4,s1.heap.objs.size+2,s1.heap.objs.size+3,s1.heap.objs.size,s1.heap.objs.size+1],_,_,H1,rfl,I1.kept (t':=s1.toks) z7,Qa k1 k2 a1 a2 _ _ _ _ _ (by simp),⟨z1,z2,⟨_,_,z3⟩,z4,z5⟩,fun b hb=>?_,q⟩;have hb:s1.heap.objs.size≤b:=by
    simp only[az,dY,or_false] at hb;rcases hb with rfl|rfl|rfl|rfl|rfl
    ·exact fk _ _
    ·exact fk _ _
    ·exact fk _ _
    ·exact Γ _
    ·exact fk _ _
   exact I1.o8 hb (I1.cq.fresh hb)
def mE(G:Gp):D->List D->Prop
 |.obj p,ds=>G p=some (.lst ds)
 |.tup es,ds=>ds=es
 |.fo es,ds=>ds=es
 |_,_=>False
def sT(xs ys:List D):List D:=rS (fun x y=>.tup [x,y]) xs ys
def wV(ta:dj):ls:=fun τ G R=>ta τ G fun ds G1=>match ds with
 |[x,y]=>∃xs ys,mE G1 x xs/\mE G1 y ys/\R ⟨sT xs ys,fun G=>mE G x xs/\mE G y ys⟩ G1
 |_=>False
theorem Hm{K:ζ}{H:Hp}{x:D}{v:V}(hv:Hv K H x v):∃k,∀H' G' xs,Ext H H'->bo K G' H'->mE G' x xs->∃a vs,v=.ref a/\mV K k H' a vs/\aO K H' xs vs:=by
 cases x with
 |obj p=>
  unfold Hv at hv;subst hv;refine⟨true,fun H' G' xs E RG h=>?_⟩;obtain⟨vs,e2,e3⟩:=RG p _ h;exact⟨p,vs,rfl,eA.of e2,e3⟩
 |tup es=>
  unfold Hv at hv;obtain⟨a,vs,rfl,e2,e3⟩:=hv;refine⟨false,fun H' G' xs E RG h=>?_⟩;cases (show xs=es from h);exact⟨a,vs,rfl,cF.ext E e2,e3.ext E⟩
 |fo es=>
  unfold Hv at hv;obtain⟨a,vs,rfl,e2,e3⟩:=hv;refine⟨true,fun H' G' xs E RG h=>?_⟩;cases (show xs=es from h);exact⟨a,vs,rfl,(qI.ext E e2).l,e3.ext E⟩
 |ak=>exact⟨true,fun _ _ _ _ _ h=>h.elim⟩
 |bl _=>exact⟨true,fun _ _ _ _ _ h=>h.elim⟩
 |int _=>exact⟨true,fun _ _ _ _ _ h=>h.elim⟩
 |str _=>exact⟨true,fun _ _ _ _ _ h=>h.elim⟩
 |dc _=>exact⟨true,fun _ _ _ _ _ h=>h.elim⟩
theorem Pk{xs ys:List D}{i:Nat}{d:D}(h:(sT xs ys)[i]?=some d):∃x y,xs[i]?=some x/\ys[i]?=some y/\d=.tup [x,y]:=by
 unfold sT at h;rw[ko] at h;cases hx:xs[i]? with
 |none=>rw[hx] at h;cases h
 |some x=>
  cases hy:ys[i]? with
  |none=>rw[hx,hy] at h;cases h
  |some y=>
   rw[hx,hy] at h;cases h;exact⟨x,y,rfl,rfl,rfl⟩
theorem Pj{a b:π}{ta:dj}(hm:X.mg "zip" = none)(ha:jR X [a,b] ta)(hg:Gl X "zip":=by rfl)(hs:notStar a=true:=by rfl)(hs2:notStar b=true:=by rfl):
  rO X (.Tuple es n0 ps) (.Call (.Name "zip" p) [a,b] [] pos) (wV ta):=
 uL (P7 hg hm ha (by rw[fq hs,fq hs2];rfl) (fq hs2)) fun σ H R ⟨τ,G,R3,RS,RG,h,k⟩=>⟨τ,G,_,RS,RG,h,fun vs H1 ds G1 h1 S1 R1 q1=>by
  rcases ds with _|⟨d,_|⟨d2,_|⟨d3,ds⟩⟩⟩
  ·exact q1.elim
  ·exact q1.elim
  ·obtain⟨xs,ys,s1,s2,q⟩:=q1;obtain⟨v,r,rfl,z1,z2⟩:=h1.inv;obtain⟨v',r',rfl,z3,z4⟩:=z2.inv;cases z4.iN;obtain⟨k1,f1⟩:=Hm z1;obtain⟨k2,f2⟩:=Hm z3;obtain⟨a1,vs1,rfl,y1,w1⟩:=f1 _ _ _ (Ext.refl _) R1 s1;obtain⟨a2,vs2,rfl,y2,w2⟩:=f2 _ _ _ (Ext.refl _) R1 s2;refine⟨k1,k2,a1,a2,rfl,⟨_,y1⟩,⟨_,y2⟩,k _ _ _ _ ⟨?_,?_⟩ S1 R1 q⟩
   ·intro i d H' G' E' RG' hg hi;obtain⟨x,y,e1,e2,rfl⟩:=Pk hi;obtain⟨b1,us1,c1,m1,n1⟩:=f1 _ _ _ E' RG' hg.1;obtain⟨b2,us2,c2,m2,n2⟩:=f2 _ _ _ E' RG' hg.2;cases c1;cases c2;obtain⟨u1,o1,o2⟩:=n1.get e1;obtain⟨u2,o3,o4⟩:=n2.get e2;refine⟨⟨_,_,_,_,⟨m1,o1⟩,m2,o3⟩,fun x' H'' hy=>?_⟩;obtain⟨T,u,v,rfl,hn,rfl,t1,t2⟩:=hy;have:=t1 _ m1;rw[o1] at this;cases this;have:=t2 _ m2;rw[o3] at this;cases this;refine⟨?_,.laid hn,RG'.laid hn⟩;unfold Hv;exact⟨T,_,rfl,.of g8,.cons (o2.ext (.laid hn)) (.cons (o4.ext (.laid hn)) .nil)⟩
   ·intro i H' G' E' RG' hg hi;obtain⟨b1,us1,c1,m1,n1⟩:=f1 _ _ _ E' RG' hg.1;obtain⟨b2,us2,c2,m2,n2⟩:=f2 _ _ _ E' RG' hg.2;cases c1;cases c2;refine⟨_,_,m1,m2,?_⟩;have hi:(sT xs ys).length≤i:=hi;unfold sT at hi;rw[ly] at hi;rw[←n1.length,←n2.length];lia
  ·exact q1.elim⟩
end
end L3
namespace L2
open PySem PySem.Spec PyProof.Rows
def rP(lo c:Int)(n:Nat):It:=⟨fun i _=>i<n,fun i H x H'=>H'=H/\x=.int (lo+i*c),fun i _=>n≤i⟩
theorem Hl{P:aG}{w:aQ}{K:ζ}{tg:π}(it:ε)(lo c:Int)(n:Nat):Turn P w K tg (rP lo c n) [it] it (fun i h=>lY h it (lo+(i:Nat)*c) ((n:Int)-(i:Nat)) c) where
 mem:=by simp
 obj:=fun i h st b hb=>by
  have e:b=it:=by simpa using hb
  subst e;exact⟨_,st,fun v z=>by
   have z':ma _=kq v:=z;cases z'⟩
 keep:=fun i h h' st k=>k it (by simp) _ st
 item:=by
  intro X hP hw hK hc i pins s σ H E I hf st hg;subst hP hw hK;obtain⟨f0,f1,f2,f3,f4,f5⟩:=hf it (by simp);have W:=Walks.range (prog:=X.prog) (w:=X.w) (I.ok.hd hc) it lo c n;refine W.item i s _ _ hg st fun v h' tk hv st' kk=>?_;obtain⟨t,rfl⟩:=hv;have I1:Inv X pins σ H { s with heap:=h',toks:=tk }:=I.turned (fun b o hb e=>kk b o (by simpa using hb) e) f0 f1 f3 f4 f5;refine⟨_,rfl,wB (s:={ s with heap:=h',toks:=tk }) (n:="range_iterator") st' rfl rfl (by decide) ⟨.int (lo+i*c),H,I1,⟨t,rfl⟩,⟨rfl,rfl⟩,st',fun b hb=>(hf b hb).1⟩⟩
 done:=by
  intro X hP hw hK hc i pins s σ H E I hf st hg;subst hP hw hK;obtain⟨f0,f1,f2,f3,f4,f5⟩:=hf it (by simp);exact wpAny_pyNext_range_end (I.ok.hd hc) st (by have:n≤i:=hg;lia) fun h' eb=>⟨rfl,I.turned (t':=s.toks) (fun b o hb e=>eb b o hb e) f0 f1 f3 f4 f5⟩
 self:=fun _ _ _ _ _ st h=>wpAny_pyIter_rangeiter st h
def kG(i j c:Int):Nat:=if i<j then ((j-i-1) / c+1).toNat else 0
theorem Ph{i j c:Int}(hc:0<c):ba i j c=(kG i j c:Int):=by
 unfold ba kG;rw[if_pos hc];split
 ·rename_i h;have:0≤(j-i-1) / c:=iW (by lia) (by lia);lia
 ·rfl
theorem Pg{i j c:Int}(h1:-(2^61)≤i)(h2:i<2^61)(h3:-(2^61)≤j)(h4:j<2^61)(hc:0<c)(hc2:c<2^30):iO i j c=true:=by
 have hs:ba i j c≤2^62/\0≤ba i j c:=by
  unfold ba;rw[if_pos hc];split
  ·rename_i h;have e1:(j-i-1) / c≤j-i-1:=Int.ediv_le_self _ (by lia);have e2:0≤(j-i-1) / c:=iW (by lia) (by lia);lia
  ·lia
 unfold iO;generalize ba i j c=z at hs;simp only[dP.Range.rangeFitsLong,df,Bool.or_eq_true,decide_eq_true_eq,beq_iff_eq,hc,gt_iff_lt,if_true];have:∀p q:Int,True:=fun _ _=>trivial;refine ?_;lia
section
variable {X:Cx} {tg:π}
theorem Pf{pins:List (ε×aN)}{σ:St}{H:Hp}{s:η}{R:It->Hp->Prop}{E:δ->η->Prop}{lo hi c:Int}{t u v:Tok}{tk:Nat}(I:Inv X pins σ H s)(hs:iO lo hi c=true)(hc:0<c)
  (q:R (rP lo c (kG lo hi c)) H):ρ (model X.prog X.w) X.A (pyIter (.ref s.heap.objs.size)) (AJ X pins σ tg R) E { s with heap:=s.heap.push { cls:=.type "range",data:=.fields #[.int lo t,.int hi u,.int c v]},toks:=tk }:=by
 refine mj (pE ..) hs ?_;have I1:Inv X pins σ H { s with heap:=s.heap.push { cls:=.type "range",data:=.fields #[.int lo t,.int hi u,.int c v]},toks:=tk }:=I.kept fun b o e=>ν _ e;refine⟨(s.heap.push { cls:=.type "range",data:=.fields #[.int lo t,.int hi u,.int c v]}).objs.size,[(s.heap.push { cls:=.type "range",data:=.fields #[.int lo t,.int hi u,.int c v]}).objs.size],_,_,H,rfl,
  I1.kept (t':=tk) fun b o e=>ν _ e,Hl _ lo c (kG lo hi c),?_,fun b hb=>?_,q⟩
 ·have e1:lo+((0:Nat):Int)*c=lo:=by simp
  have e2:(((kG lo hi c):Nat):Int)-((0:Nat):Int)=ba lo hi c:=by rw[Ph hc];simp
  show lY _ _ (lo+((0:Nat):Int)*c) ((((kG lo hi c):Nat):Int)-((0:Nat):Int)) c;rw[e1,e2];exact Φ _ rfl
 ·have e:b=(s.heap.push { cls:=.type "range",data:=.fields #[.int lo t,.int hi u,.int c v]}).objs.size:=by simpa using hb
  subst e;exact I1.o8 (Γ _) (I1.cq.fresh (Γ _))
def JN(ta:TA):TI:=fun σ H R=>ta σ H fun vs H1=>∃i j c:Int,vs=[.int i,.int j,.int c]/\(-(2^61)≤i/\i<2^61/\-(2^61)≤j/\j<2^61/\0<c/\c<2^30)/\R (rP i c (kG i j c)) H1
theorem Pe{a b d:π}{ta:TA}{p pos:aL}(hg:Gl X "range")(hm:X.mg "range" = none)(ha:PA X [a,b,d] ta)(hs:bJ [a,b,d] X.env=[(false,eval a X.env),(false,eval b X.env),(false,eval d X.env)])(hs2:bJ [b,d] X.env=[(false,eval b X.env),(false,eval d X.env)]):
  PI X tg (.Call (.Name "range" p) [a,b,d] [] pos) (JN ta):=by
 intro pins s σ H R I h;refine Call_ (rA I hg hm qB (cV (bL (ha pos pins s σ H _ I h) fun us s1 ⟨vs,H1,I1,r1,q1⟩=>?_) (by rw[hs,hs2]) (by rw[hs2];rfl)));obtain⟨i,j,c,e,⟨q1,q2,q3,q4,q5,q6⟩,q⟩:=q1;subst e;cases r1 with
 |cons r rr=>
  cases rr with
  |cons r' rr=>
   cases rr with
   |cons r'' rr=>
    cases rr;obtain⟨t,rfl⟩:=r;obtain⟨t',rfl⟩:=r';obtain⟨t'',rfl⟩:=r'';exact call_range_3 (by lia) (Pf I1 (Pg q1 q2 q3 q4 q5 q6) q5 q) (.inl (pz (by lia)))
end
section
variable {X:Cx}
theorem Pd:J0 X (AS X.K):=by
 intro pins s σ H x y v u Q I rx ry h;obtain⟨p,xs,i,z,rfl,rfl,hq,he,q⟩:=h;cases rx;obtain⟨t,rfl⟩:=ry;obtain⟨its,r,pl,hz⟩:=I.list hq;obtain⟨j,h1,h2,h3,h4,h5⟩:=yj he;obtain⟨w,ew,rw'⟩:=r.get h2;have hl:=r.length;have hn:=nL;have fin:EP X pins σ Q w s:=⟨z,H,I,rw',q⟩;by_cases h0:0≤i
 ·have hj:i.toNat=j:=by
   rw[pj h0 h5] at h1;exact aJ h1
  exact wpAny_getItem_list pl.isList h0 (by lia) (by rw[hj];simpa using ew) fin
 ·have hj:(i+(its.toArray.size:Int)).toNat=j:=by
   rw[seqIndex_neg (by lia) h4] at h1;rw[υ,←hl];exact aJ h1
  exact wpAny_getItem_list_neg pl.isList (by lia) (by rw[υ]<;>lia) (by lia) (by rw[hj];simpa using ew) fin
end
end L2
namespace L3
open PySem PySem.Spec PyProof.Rows L2
section
variable {X:Cx} {tg:π} {p pos:aL}
def iw(lo c:Int)(n:Nat):List D:=(Δ n).map fun i:Nat=>.int (lo+(i:Int)*c)
theorem Pc{lo c:Int}{n i:Nat}{d:D}(h:(iw lo c n)[i]?=some d):i<n/\d=.int (lo+(i:Int)*c):=by
 unfold iw at h;rw[ag] at h;by_cases hi:i<n
 ·rw[dq hi] at h;simp at h;exact⟨hi,h.symm⟩
 ·rw[cL.mpr (by simpa using hi)] at h;cases h
theorem Pb(lo c:Int)(n:Nat):(iw lo c n).length=n:=by simp[iw]
theorem BQ{K:ζ}{H:Hp}(lo c:Int)(n:Nat):zT K H (rP lo c n) ⟨iw lo c n,fun _=>True⟩:=⟨by
 intro i d H' G' _ RG _ hi;obtain⟨h1,h2⟩:=Pc hi;refine⟨h1,fun x H'' hy=>?_⟩;obtain⟨rfl,rfl⟩:=hy;exact⟨by rw[h2];simp[Hv],.refl _ _,RG⟩,by
 intro i H' G' _ RG _ hi;rw[Pb] at hi;exact hi⟩
def yE(ta:dj):ls:=fun τ G R=>ta τ G fun ds G1=>match ds with
 |[.int i,.int j,.int c]=>(-(2^61)≤i/\i<2^61/\-(2^61)≤j/\j<2^61/\0<c/\c<2^30)/\R ⟨iw i c (kG i j c),fun _=>True⟩ G1
 |_=>False
theorem Pa{a b d:π}{ta:dj}(hm:X.mg "range" = none)(ha:jR X [a,b,d] ta)(hg:Gl X "range":=by rfl)(hs:notStar a=true:=by rfl)(hs2:notStar b=true:=by rfl)(hs3:notStar d=true:=by rfl):
  rO X tg (.Call (.Name "range" p) [a,b,d] [] pos) (yE ta):=
 uL (Pe hg hm ha (by rw[fq hs,fq hs2,fq hs3];rfl) (by rw[fq hs2,fq hs3];rfl)) fun σ H R ⟨τ,G,R3,RS,RG,h,k⟩=>⟨τ,G,_,RS,RG,h,fun vs H1 ds G1 h1 S1 R1 q1=>by
  rcases ds with _|⟨d,_|⟨d2,_|⟨d3,_|⟨d4,ds⟩⟩⟩⟩
  ·exact q1.elim
  ·cases d<;>exact q1.elim
  ·cases d<;>(try exact q1.elim)<;>cases d2<;>exact q1.elim
  ·cases d with
   |int i=>
    cases d2 with
    |int j=>
     cases d3 with
     |int c=>
      obtain⟨v,r,rfl,z1,z2⟩:=h1.inv;obtain⟨v2,r2,rfl,z3,z4⟩:=z2.inv;obtain⟨v3,r3,rfl,z5,z6⟩:=z4.inv;cases z6.iN;unfold Hv at z1 z3 z5;exact⟨i,j,c,by rw[z1,z3,z5],q1.1,k _ _ _ _ (BQ i c _) S1 R1 q1.2⟩
     |_=>exact q1.elim
    |_=>cases d3<;>exact q1.elim
   |_=>cases d2<;>(try exact q1.elim)<;>cases d3<;>exact q1.elim
  ·cases d<;>(try exact q1.elim)<;>cases d2<;>(try exact q1.elim)<;>cases d3<;>exact q1.elim⟩
abbrev Av:R3:=xn fun i j=>.int (i+j)
theorem O9{K:ζ}:eG K Av (Lc fun i j=>i+j):=low_ints fun _ _ _=>mT
theorem O8{o i e:π}{to ti te:aK}{tpos:aL}(ho:bV X o to)(hi:bV X i ti)(he:bV X e te)
  (ha:∀ov iv new,augStore i ov iv new=(do holding [new,ov,iv] (setItem ov iv new);release [new,ov,iv] [];pure .next):=by intros;rfl):
  mX X (.AugAssign (.Subscript o i tpos) .Add e pos) (vw to ti te (· + ·)):=
 lF (Tt ho hi Pd he Je set_list ha) fun D σ H ⟨τ,G,D3,RS,RG,h,k⟩=>by
  refine⟨τ,G,_,RS,RG,h,fun v1 H1 d1 G1 h1 S1 R1 q1=>⟨τ,G1,_,RS.ext (S1.ext RG),R1,q1,fun v2 H2 d2 G2 h2 S2 R2 q2=>?_⟩⟩;cases d1 with
  |obj p=>
   cases d2 with
   |int j=>
    obtain⟨ds,x,e1,e2,q⟩:=q2;obtain⟨vs,z1,z2⟩:=R2 p _ e1;obtain⟨v,z3,z4⟩:=wt z2 e2;have hv1:v1=.ref p:=i4 h1;have hv2:v2=.int j:=iR h2;refine⟨p,vs,j,v,hv1,hv2,.of z1,z3,⟨τ,G2,_,(RS.ext (S1.ext RG)).ext (S2.ext R1),R2,q,fun v5 H5 d5 G5 h5 S5 R5 q5=>?_⟩⟩;cases d5 with
    |int y=>
     have hx:v=.int x:=iR z4;have hy:v5=.int y:=iR h5;refine⟨x,y,hx,hy,?_⟩;exact Iq (((h1.ext (S2.ext R1)).ext (S5.ext R2))) ((h2.ext (S5.ext R2))) mT R5 q5 fun H' G' y1 y2 y3=>k.nx _ _ G' H' ((((RS.ext (S1.ext RG)).ext (S2.ext R1)).ext (S5.ext R2)).ext (y1.ext R5)) (((S1.trans S2).trans S5).trans y1) y2 y3
    |_=>exact q5.elim
   |_=>exact q2.elim
  |_=>cases d2<;>exact q2.elim
end
end L3
namespace L3
open PySem PySem.Spec PyProof.Rows L2
structure QE(X:Cx)(e:π)(t:aK):Prop where
 of:bV X e t
structure QT(X:Cx)(e:π)(t:cE):Prop where
 of:pM X e t
structure QW(X:Cx)(e:π)(t:cE):Prop where
 of:vj X e t
structure QA(X:Cx)(es:List π)(t:dj):Prop where
 of:jR X es t
structure QS(X:Cx)(st:aS)(t:ab):Prop where
 of:mX X st t
structure t9(X:Cx)(st:List aS)(t:ab):Prop where
 of:pd X st t
structure QG(X:Cx)(tg:π)(t:ip):Prop where
 of:ua X tg t
structure DC(X:Cx)(tgs:List π)(t:nP):Prop where
 of:xf X tgs t
structure QI(X:Cx)(tg iter:π)(t:ls):Prop where
 of:rO X tg iter t
structure QO(X:Cx)(e:Option π)(t:vf):Prop where
 of:AH X e t
structure QC(X:Cx)(ifs:List π)(t:cE):Prop where
 of:sJ X ifs (ql X.K t)
section
variable {X:Cx} {a b e c:π} {ta tb te:aK} {tA tB:cE} {pos:aL} {es rest:List π}
theorem ο{i:Nat}{x:ψ}(h:PE X (.Name x pos) (xy i)):QE X (.Name x pos) (θ i):=⟨R7 (h:=h)⟩
end
section
variable {X:Cx} {a b e c:π} {ta tb te:aK} {tA tB:cE} {pos:aL} {es rest:List π}
theorem aC{i:Int}{j}:QE X (.Constant (.int i) j pos) (eC (.int i)):=⟨R6 ⟩
end
section
variable {X:Cx} {a b e c:π} {ta tb te:aK} {tA tB:cE} {pos:aL} {es rest:List π}
theorem oY{i:Bool}{j}:QE X (.Constant (.bool i) j pos) (eC (.bl i)):=⟨Xl ⟩
end
section
variable {X:Cx} {a b e c:π} {ta tb te:aK} {tA tB:cE} {pos:aL} {es rest:List π}
theorem tz{j}:QE X (.Constant .none j pos) (eC .ak):=⟨R4 ⟩
end
section
variable {X:Cx} {a b e c:π} {ta tb te:aK} {tA tB:cE} {pos:aL} {es rest:List π}
theorem we{x:ψ}{i:Int}{u:Tok}(hm:X.mg x=some (.int i u))(hg:Gl X x:=by rfl)(hd:(x==("__debug__":ψ))=false:=by decide):QE X (.Name x pos) (eC (.int i)):=⟨RZ (hm:=hm) (hg:=hg) (hd:=hd)⟩
end
section
variable {X:Cx} {a b e c:π} {ta tb te:aK} {tA tB:cE} {pos:aL} {es rest:List π}
theorem bu{op:kh}{r:R3}{r2:R2}(L:eG X.K r r2)(ho:eB X (binaryOp op) r2)(ha:QE X a ta)(hb:QE X b tb):QE X (.BinOp a op b pos) (af r ta tb):=⟨Xj (L:=L) (ho:=ho) (ha:=ha.of) (hb:=hb.of)⟩
end
section
variable {X:Cx} {a b e c:π} {ta tb te:aK} {tA tB:cE} {pos:aL} {es rest:List π}
theorem tx{op:CmpOp}{r:R3}{r2:R2}(L:eG X.K r r2)(ho:eB X (compareOp op) r2)(ha:QE X a ta)(hb:QE X b tb)(hm:behindInMarks op b=false):QE X (.Compare a [op] [b] pos) (af r ta tb):=⟨RY (L:=L) (ho:=ho) (ha:=ha.of) (hb:=hb.of) (hm:=hm)⟩
end
section
variable {X:Cx} {a b e c:π} {ta tb te:aK} {tA tB:cE} {pos:aL} {es rest:List π}
theorem fb{op:CmpOp}{r:R3}{r2:R2}(L:eG X.K r r2)(ho:eB X (compareOp op) r2)(ha:QE X a ta)(hb:QE X b tb)(hm:behindInMarks op b=false):QT X (.Compare a [op] [b] pos) (bK (af r ta tb)):=⟨RX (L:=L) (ho:=ho) (ha:=ha.of) (hb:=hb.of) (hm:=hm)⟩
end
section
variable {X:Cx} {a b e c:π} {ta tb te:aK} {tA tB:cE} {pos:aL} {es rest:List π}
theorem tw(h:QE X a ta)(he:∀whole,isTrue a X.env whole=(do let v ←whole;standAt a.pos;holding [v] (truthy v)):=by intro _;rfl):QT X a (bK ta):=⟨RW (h:=h.of) (he:=he)⟩
end
section
variable {X:Cx} {a b e c:π} {ta tb te:aK} {tA tB:cE} {pos:aL} {es rest:List π}
theorem O7(ha:QE X a ta):QE X (.UnaryOp .USub a pos) (JS xE ta):=⟨RV (ha:=ha.of)⟩
end
section
variable {X:Cx} {a b e c:π} {ta tb te:aK} {tA tB:cE} {pos:aL} {es rest:List π}
theorem wd(ha:QT X a tA):QW X (.BoolOp .And [a] pos) tA:=⟨RU (ha:=ha.of)⟩
end
section
variable {X:Cx} {a b e c:π} {ta tb te:aK} {tA tB:cE} {pos:aL} {es rest:List π}
theorem rk(ha:QT X a tA):QW X (.BoolOp .Or [a] pos) tA:=⟨RT (ha:=ha.of)⟩
end
section
variable {X:Cx} {a b e c:π} {ta tb te:aK} {tA tB:cE} {pos:aL} {es rest:List π}
theorem wN(ha:QT X a tA)(hb:QW X (.BoolOp .And (b::rest) pos) tB):QW X (.BoolOp .And (a::b::rest) pos) (tP tA tB):=⟨RQ (ha:=ha.of) (hb:=hb.of)⟩
end
section
variable {X:Cx} {a b e c:π} {ta tb te:aK} {tA tB:cE} {pos:aL} {es rest:List π}
theorem rj(ha:QT X a tA)(hb:QW X (.BoolOp .Or (b::rest) pos) tB):QW X (.BoolOp .Or (a::b::rest) pos) (sH tA tB):=⟨RP (ha:=ha.of) (hb:=hb.of)⟩
end
section
variable {X:Cx} {a b e c:π} {ta tb te:aK} {tA tB:cE} {pos:aL} {es rest:List π}
theorem lD(h:QW X a tA):QT X a tA:=⟨Lm (h:=h.of)⟩
end
section
variable {X:Cx} {a b e c:π} {ta tb te:aK} {tA tB:cE} {pos:aL} {es rest:List π}
theorem yc(ha:QT X a tA):QT X (.UnaryOp .Not a pos) (uV tA):=⟨RO (ha:=ha.of)⟩
end
section
variable {X:Cx} {a b e c:π} {ta tb te:aK} {tA tB:cE} {pos:aL} {es rest:List π}
theorem Hk{op}(h:QE X a ta):QE X (.BoolOp op [a] pos) ta:=⟨RN (h:=h.of)⟩
end
section
variable {X:Cx} {a b e c:π} {ta tb te:aK} {tA tB:cE} {pos:aL} {es rest:List π}
theorem Hj(ha:QE X a ta)(hb:QE X (.BoolOp .And (b::rest) pos) tb):QE X (.BoolOp .And (a::b::rest) pos) (vE ta tb):=⟨RM (ha:=ha.of) (hb:=hb.of)⟩
end
section
variable {X:Cx} {a b e c:π} {ta tb te:aK} {tA tB:cE} {pos:aL} {es rest:List π}
theorem O6(ha:QE X a ta):QE X (.UnaryOp .Not a pos) (zi ta):=⟨RL (ha:=ha.of)⟩
end
section
variable {X:Cx} {a b e c:π} {ta tb te:aK} {tA tB:cE} {pos:aL} {es rest:List π}
theorem au  : QA X [] Ξ:=⟨RK ⟩
end
section
variable {X:Cx} {a b e c:π} {ta tb te:aK} {tA tB:cE} {pos:aL} {es rest:List π}
theorem χ{tr:dj}(ha:QE X a ta)(hr:QA X es tr)(hs:notStar a=true:=by rfl):QA X (a::es) (μ ta tr):=⟨RJ (ha:=ha.of) (hr:=hr.of) (hs:=hs)⟩
end
section
variable {X:Cx} {a b e c:π} {ta tb te:aK} {tA tB:cE} {pos:aL} {es rest:List π}
theorem tu{t:dj}{x1}(h:QA X es t):QE X (.Tuple es x1 pos) (qr t):=⟨RI (h:=h.of)⟩
end
section
variable {X:Cx} {a b e c:π} {ta tb te:aK} {tA tB:cE} {pos:aL} {es rest:List π}
theorem jy{t:dj}(h:QA X es t):QE X (.List es pos) (fM t):=⟨RH (h:=h.of)⟩
end
section
variable {X:Cx} {st:aS} {rest:List aS} {t u:ab} {e c:π} {te:aK} {tc:cE} {pos:aL}
theorem iZ  : t9 X [] dI:=⟨Si ⟩
end
section
variable {X:Cx} {st:aS} {rest:List aS} {t u:ab} {e c:π} {te:aK} {tc:cE} {pos:aL}
theorem bx(h1:QS X st t)(h2:t9 X rest u):t9 X (st::rest) (aF t u):=⟨Sh (h1:=h1.of) (h2:=h2.of)⟩
end
section
variable {X:Cx} {st:aS} {rest:List aS} {t u:ab} {e c:π} {te:aK} {tc:cE} {pos:aL}
theorem bO(h1:QS X st t):t9 X [st] t:=⟨Sg (h1:=h1.of)⟩
end
section
variable {X:Cx} {st:aS} {rest:List aS} {t u:ab} {e c:π} {te:aK} {tc:cE} {pos:aL}
theorem qh(he:QE X e te)(hs:swapsWith e none pos.line X.env=pure false:=by rfl):QS X (.Expr e pos) (ky te):=⟨Sf (he:=he.of) (hs:=hs)⟩
end
section
variable {X:Cx} {st:aS} {rest:List aS} {t u:ab} {e c:π} {te:aK} {tc:cE} {pos:aL}
theorem dt(he:QE X e te):QS X (.Return (some e) pos) (cg te):=⟨Se (he:=he.of)⟩
end
section
variable {X:Cx} {st:aS} {rest:List aS} {t u:ab} {e c:π} {te:aK} {tc:cE} {pos:aL}
theorem ik{a b:List aS}(hc:QT X c tc)(ha:t9 X a t)(hb:t9 X b u):QS X (.If c a b pos) (gH tc t u):=⟨Lz (hc:=hc.of) (ha:=ha.of) (hb:=hb.of)⟩
end
section
variable {X:Cx} {st:aS} {rest:List aS} {t u:ab} {e c:π} {te:aK} {tc:cE} {pos:aL}
theorem BP  : QS X st qY:=⟨Rt ⟩
end
section
variable {X:Cx} {pos:aL} {e:π} {es:List π}
theorem fy{i:Nat}{x:ψ}(hN:X.N.Nodup)(hi:X.N[i]?=some x:=by rfl)(hx:Loc X.env.scope x:=by first|exact nW rfl|exact mr rfl)(hf:X.fn x=true∨X.env.scope.names.lookup x=some .local:=by first|exact .inl rfl|exact .inr rfl|assumption):QG X (.Name x pos) (hName i):=⟨Rr (hN:=hN) (hi:=hi) (hx:=hx) (hf:=hf)⟩
end
section
variable {X:Cx} {pos:aL} {e:π} {es:List π}
theorem qg  : DC X [] nN:=⟨Rq ⟩
end
section
variable {X:Cx} {pos:aL} {e:π} {es:List π}
theorem ll{t:ip}{u:nP}(h1:QG X e t)(h2:DC X es u)(hs:(assignEach (e::es) X.env).map (·.2)=assign e X.env::(assignEach es X.env).map (·.2):=by rfl):DC X (e::es) (fF t u):=⟨Rp (h1:=h1.of) (h2:=h2.of) (hs:=hs)⟩
end
section
variable {X:Cx} {pos:aL} {e:π} {es:List π}
theorem qf{k:Nat}{t:nP}{n:Nat}(hc:X.calm=true)(h:DC X es t)(hn:(assignEach es X.env).length=n:=by rfl)(hst:(assignEach es X.env).findIdx? (·.1)=none:=by rfl):QG X (.Tuple es k pos) (nM n t):=⟨Ro (hc:=hc) (h:=h.of) (hn:=hn) (hst:=hst)⟩
end
section
variable {X:Cx} {pos:aL} {e:π} {es:List π}
theorem BO{tg:π}{te:aK}{g:ip}(he:QE X e te)(hg:QG X tg g)(hs:swapsWithSole [tg] e pos.line X.env=pure false:=by rfl)(hw:swappedStores [tg] e X.env=pure none:=by rfl)(h1:(assignEach [tg] X.env).map (·.2)=[assign tg X.env]:=by rfl):QS X (.Assign [tg] e pos) (bf te g):=⟨Rn (he:=he.of) (hg:=hg.of) (hs:=hs) (hw:=hw) (h1:=h1)⟩
end
section
variable {X:Cx} {pos:aL} {e:π} {es:List π}
theorem cw{i:Nat}{x:ψ}{te:aK}{pos':aL}(hN:X.N.Nodup)(he:QE X e te)(hi:X.N[i]?=some x:=by rfl)(hx:Loc X.env.scope x:=by first|exact nW rfl|exact mr rfl)(hs:swapsWith e (some (.Name x pos')) pos.line X.env=pure false:=by rfl)(hf:X.fn x=true∨X.env.scope.names.lookup x=some .local:=by first|exact .inl rfl|exact .inr rfl|assumption):QS X (.Assign [.Name x pos'] e pos) (bf te (hName i)):=⟨Rm (hN:=hN) (he:=he.of) (hi:=hi) (hx:=hx) (hs:=hs) (hf:=hf)⟩
end
section
variable {X:Cx} {pos:aL} {e:π} {es:List π}
theorem O5{i:Nat}{x:ψ}{te:aK}{op:kh}{r:R3}{r2:vg}{pos':aL}(L:eG X.K r r2)(hN:X.N.Nodup)(he:QE X e te)(ho:AI X op r2)(hi:X.N[i]?=some x:=by rfl)(hx:Loc X.env.scope x:=by first|exact nW rfl|exact mr rfl)(hf:X.fn x=true∨X.env.scope.names.lookup x=some .local:=by first|exact .inl rfl|exact .inr rfl|assumption):QS X (.AugAssign (.Name x pos') op e pos) (xC i te r):=⟨Rk (L:=L) (hN:=hN) (he:=he.of) (ho:=ho) (hi:=hi) (hx:=hx) (hf:=hf)⟩
end
section
variable {X:Cx} {pos:aL} {e:π} {es:List π}
theorem Hi{o i:π}{to ti:aK}(ho:QE X o to)(hi:QE X i ti) (ha:∀v,assign (.Subscript o i pos) X.env v=(do
   let ov ←holding [v] (eval o X.env)
   let iv ←holding [v,ov] (eval i X.env)
   standAt pos
   holding [v,ov,iv] (setItem ov iv v)
   release [v,ov,iv] []):=by intro _;rfl):QG X (.Subscript o i pos) (hSub to ti):=⟨Rj (ho:=ho.of) (hi:=hi.of) (ha:=ha)⟩
end
section
variable {X:Cx} {pos:aL} {e:π} {es:List π}
theorem wM{c:π}{body:List aS}{tc:cE}{tb:ab}(hp:mq (model X.prog X.w) X.A X.env X.xe)(hc:QT X c tc)(hb:t9 X body tb):QS X (.While c body [] pos) (nI tc tb):=⟨Ri (hp:=hp) (hc:=hc.of) (hb:=hb.of)⟩
end
section
variable {X:Cx} {k:Nat} {f:ε} {fd:aE} {ps:List ψ} {sp:dF} {x:ψ} {p pos:aL} {e:π} {es:List π} {t:dj}
theorem bR(F:cu X.prog X.w X.K X.mg X.base k f fd ps sp)(hr:gk k X.A)(hm:X.mg x=some (.ref f))(hk:hV X.K (.ref f)=true)(hb:Binds X.K fd ps [])(ha:QA X (e::es) t)(hg:Gl X x:=by rfl)(hdb:(x==("__debug__":ψ))=false:=by decide)(he:notStar e=true:=by rfl)(hpl:es.all notStar=true:=by rfl):QE X (.Call (.Name x p) (e::es) [] pos) (aA sp t):=⟨Rg (F:=F) (hr:=hr) (hm:=hm) (hk:=hk) (hb:=hb) (ha:=ha.of) (hg:=hg) (hdb:=hdb) (he:=he) (hpl:=hpl)⟩
end
section
variable {X:Cx} {tg iter:π} {pos p:aL}
theorem oX{l:π}{te:aK}(hl:QE X l te):QI X tg l (mJ te):=⟨Rf (hl:=hl.of)⟩
end
section
variable {X:Cx} {tg iter:π} {pos p:aL}
theorem wL{a:π}{ta:dj}(hm:X.mg "range" = none)(ha:QA X [a] ta)(hg:Gl X "range":=by rfl)(hs:notStar a=true:=by rfl):QI X tg (.Call (.Name "range" p) [a] [] pos) (nq ta):=⟨Ra (hm:=hm) (ha:=ha.of) (hg:=hg) (hs:=hs)⟩
end
section
variable {X:Cx} {tg iter:π} {pos p:aL}
theorem kB{body:List aS}{ti:ls}{g:ip}{tb:ab}(hp:mq (model X.prog X.w) X.A X.env X.xe)(hc:X.calm=true)(hi:QI X tg iter ti)(hg:QG X tg g)(hb:t9 X body tb)(hs:∀x,foldedSetIterable iter X.env x=pure x:=by intro _;rfl):QS X (.For tg iter body [] pos) (jE ti g tb):=⟨Q9 (hp:=hp) (hc:=hc) (hi:=hi.of) (hg:=hg.of) (hb:=hb.of) (hs:=hs)⟩
end
section
variable {X:Cx} {tg iter:π} {pos p:aL}
theorem oW  : QC X [] (fL):=⟨Q8 ⟩
end
section
variable {X:Cx} {tg iter:π} {pos p:aL}
theorem O4{c:π}{t:cE}(h:QT X c t):QC X [c] (t):=⟨Q7 (h:=h.of)⟩
end
section
variable {X:Cx} {K:ζ}
theorem ij{a b:π}{ta tb:aK}{pos:aL}(ha:QE X a ta)(hb:QE X b tb)(hs:pL b:=by intro _ _;rfl):QE X (.Subscript a b pos) (af eK ta tb):=⟨Xk (ha:=ha.of) (hb:=hb.of) (hs:=hs)⟩
end
section
variable {X:Cx} {K:ζ}
theorem O3{es:List π}{b:π}{ta:dj}{tb:aK}{pos pos':aL}(ha:QA X es ta)(hb:QE X b tb)(hs:pL b:=by intro _ _;rfl):QE X (.Subscript (.List es pos') b pos) (wY ta tb):=⟨RE (ha:=ha.of) (hb:=hb.of) (hs:=hs)⟩
end
section
variable {X:Cx} {a b e:π} {ta tb:aK} {pos:aL}
theorem uG  : QO X none oE:=⟨RC ⟩
end
section
variable {X:Cx} {a b e:π} {ta tb:aK} {pos:aL}
theorem rh(h:QE X e ta):QO X (some e) (lP ta):=⟨RB (h:=h.of)⟩
end
section
variable {X:Cx} {a b e:π} {ta tb:aK} {pos:aL}
theorem tq{lo hi:Option π}{tl th:vf}{p2:aL}(ha:QE X a ta)(hl:QO X lo tl)(hh:QO X hi th):QE X (.Subscript a (.Slice lo hi none p2) pos) (t5 ta tl th):=⟨Xi (ha:=ha.of) (hl:=hl.of) (hh:=hh.of)⟩
end
section
variable {X:Cx} {K:ζ} {e:π} {es:List π} {t:dj} {ta:aK} {pos p:aL}
theorem jH(hu:X.A.units+64<cLine)(hm:X.mg "len" = none)(ha:QA X (e::es) t)(hg:Gl X "len":=by rfl)(he:notStar e=true:=by rfl)(hpl:es.all notStar=true:=by rfl):QE X (.Call (.Name "len" p) (e::es) [] pos) (dA kE t):=⟨Rx (hu:=hu) (hm:=hm) (ha:=ha.of) (hg:=hg) (he:=he) (hpl:=hpl)⟩
end
section
variable {X:Cx} {K:ζ} {e:π} {es:List π} {t:dj} {ta:aK} {pos p:aL}
theorem O1(hu:X.A.units+64<cLine)(hm:X.mg "int" = none)(ha:QA X (e::es) t)(hg:Gl X "int":=by rfl)(he:notStar e=true:=by rfl)(hpl:es.all notStar=true:=by rfl):QE X (.Call (.Name "int" p) (e::es) [] pos) (dA yu t):=⟨Rv (hu:=hu) (hm:=hm) (ha:=ha.of) (hg:=hg) (he:=he) (hpl:=hpl)⟩
end
section
variable {X:Cx} {K:ζ} {e:π} {es:List π} {t:dj} {ta:aK} {pos p:aL}
theorem yb(hu:X.A.units+64<cLine)(hm:X.mg "max" = none)(ha:QA X (e::es) t)(hc:X.calm=true:=by rfl)(hg:Gl X "max":=by rfl)(he:notStar e=true:=by rfl)(hpl:es.all notStar=true:=by rfl):QE X (.Call (.Name "max" p) (e::es) [] pos) (dA uI t):=⟨Ru (hu:=hu) (hm:=hm) (ha:=ha.of) (hc:=hc) (hg:=hg) (he:=he) (hpl:=hpl)⟩
end
section
variable {X:Cx} {K:ζ} {e:π} {es:List π} {t:dj} {ta:aK} {pos p:aL}
theorem Hh(hu:X.A.units+64<cLine)(hm:X.mg "min" = none)(ha:QA X (e::es) t)(hc:X.calm=true:=by rfl)(hg:Gl X "min":=by rfl)(he:notStar e=true:=by rfl)(hpl:es.all notStar=true:=by rfl):QE X (.Call (.Name "min" p) (e::es) [] pos) (dA yt t):=⟨QL (hu:=hu) (hm:=hm) (ha:=ha.of) (hc:=hc) (hg:=hg) (he:=he) (hpl:=hpl)⟩
end
section
variable {X:Cx} {K:ζ} {e:π} {es:List π} {t:dj} {ta:aK} {pos p:aL}
theorem O0(hu:X.A.units+64<cLine)(hm:X.mg "tuple" = none)(ha:QA X (e::es) t)(hg:Gl X "tuple":=by rfl)(he:notStar e=true:=by rfl)(hpl:es.all notStar=true:=by rfl):QE X (.Call (.Name "tuple" p) (e::es) [] pos) (dA yr t):=⟨QJ (hu:=hu) (hm:=hm) (ha:=ha.of) (hg:=hg) (he:=he) (hpl:=hpl)⟩
end
section
variable {X:Cx} {a e:π} {es:List π} {ta:aK} {t:dj} {pos p p2:aL}
theorem HU{T:String}{TS:ψ}(k:AL T)(hv:gn TS=some (.type T))(ha:QE X a ta)(hm:X.mg "isinstance" = none)(hm2:X.mg TS=none)(hgT:Gl X TS)(hnT:TS≠"__name__")(hdT:(TS==("__debug__":ψ))=false)(hg:Gl X "isinstance":=by rfl)(he:notStar a=true:=by rfl):QE X (.Call (.Name "isinstance" p) [a,.Name TS p2] [] pos) (vC T ta):=⟨PK (k:=k) (hv:=hv) (ha:=ha.of) (hm:=hm) (hm2:=hm2) (hgT:=hgT) (hnT:=hnT) (hdT:=hdT) (hg:=hg) (he:=he)⟩
end
section
variable {X:Cx} {K:ζ} {e:π} {es:List π} {t:dj} {ta:aK} {pos p p' pos':aL}
theorem HS(hu:X.A.units+64<cLine)(hm:X.mg "sorted" = none)(ha:QA X (e::es) t)(hc:X.calm=true:=by rfl)(hg:Gl X "sorted":=by rfl)(he:notStar e=true:=by rfl)(hpl:es.all notStar=true:=by rfl):QE X (.Call (.Name "sorted" p) (e::es) [] pos) (dA wm t):=⟨Pz (hu:=hu) (hm:=hm) (ha:=ha.of) (hc:=hc) (hg:=hg) (he:=he) (hpl:=hpl)⟩
end
section
variable {X:Cx} {K:ζ} {e:π} {es:List π} {t:dj} {ta:aK} {pos p p' pos':aL}
theorem OZ(hu:X.A.units+64<cLine)(ha:QE X e ta)(hm:X.mg "sorted" = none)(hm2:X.mg "set" = none)(hc:X.calm=true:=by rfl)(hg:Gl X "sorted":=by rfl)(hg2:Gl X "set":=by rfl)(he2:notStar e=true:=by rfl):QE X (.Call (.Name "sorted" p) [.Call (.Name "set" p') [e] [] pos'] [] pos) (tO ta):=⟨Py (hu:=hu) (ha:=ha.of) (hm:=hm) (hm2:=hm2) (hc:=hc) (hg:=hg) (hg2:=hg2) (he2:=he2)⟩
end
section
variable {X:Cx} {K:ζ} {e:π} {es:List π} {t:dj} {ta:aK} {pos p p' pos':aL}
theorem HR(hu:X.A.units+64<cLine)(hm:X.mg "all" = none)(ha:QA X (e::es) t)(hc:X.calm=true:=by rfl)(hg:Gl X "all":=by rfl)(he:notStar e=true:=by rfl)(hpl:es.all notStar=true:=by rfl):QE X (.Call (.Name "all" p) (e::es) [] pos) (dA wj t):=⟨Qd (hu:=hu) (hm:=hm) (ha:=ha.of) (hc:=hc) (hg:=hg) (he:=he) (hpl:=hpl)⟩
end
section
variable {X:Cx} {K:ζ} {e:π} {es:List π} {t:dj} {ta:aK} {pos p p' pos':aL}
theorem HQ(hu:X.A.units+64<cLine)(hm:X.mg "sum" = none)(ha:QA X (e::es) t)(hc:X.calm=true:=by rfl)(hg:Gl X "sum":=by rfl)(he:notStar e=true:=by rfl)(hpl:es.all notStar=true:=by rfl):QE X (.Call (.Name "sum" p) (e::es) [] pos) (dA wg t):=⟨Qc (hu:=hu) (hm:=hm) (ha:=ha.of) (hc:=hc) (hg:=hg) (he:=he) (hpl:=hpl)⟩
end
section
variable {X:Cx} {es:List π} {n0:Nat} {ps p pos:aL}
theorem BN{a b:π}{ta:dj}(hm:X.mg "zip" = none)(ha:QA X [a,b] ta)(hg:Gl X "zip":=by rfl)(hs:notStar a=true:=by rfl)(hs2:notStar b=true:=by rfl):QI X (.Tuple es n0 ps) (.Call (.Name "zip" p) [a,b] [] pos) (wV ta):=⟨Pj (hm:=hm) (ha:=ha.of) (hg:=hg) (hs:=hs) (hs2:=hs2)⟩
end
section
variable {X:Cx} {tg:π} {p pos:aL}
theorem OY{a b d:π}{ta:dj}(hm:X.mg "range" = none)(ha:QA X [a,b,d] ta)(hg:Gl X "range":=by rfl)(hs:notStar a=true:=by rfl)(hs2:notStar b=true:=by rfl)(hs3:notStar d=true:=by rfl):QI X tg (.Call (.Name "range" p) [a,b,d] [] pos) (yE ta):=⟨Pa (hm:=hm) (ha:=ha.of) (hg:=hg) (hs:=hs) (hs2:=hs2) (hs3:=hs3)⟩
end
section
variable {X:Cx} {tg:π} {p pos:aL}
theorem HP{o i e:π}{to ti te:aK}{tpos:aL}(ho:QE X o to)(hi:QE X i ti)(he:QE X e te)(ha:∀ov iv new,augStore i ov iv new=(do holding [new,ov,iv] (setItem ov iv new);release [new,ov,iv] [];pure .next):=by intros;rfl):QS X (.AugAssign (.Subscript o i tpos) .Add e pos) (vw to ti te (· + ·)):=⟨O8 (ho:=ho.of) (hi:=hi.of) (he:=he.of) (ha:=ha)⟩
end
section
variable {X:Cx} {a b c e o:π} {es:List π} {ta tb tc te to:aK} {t:dj} {pos apos cpos p:aL}
theorem BM{name:ψ}{id:String}{r:D->List D->Gp->V3->Prop}{r2:V->List V->Hp->VK->Prop}(L:xh X.K r r2)(slot:Slot "list" name id)(hty:typeOf (.builtin id)=pure (.type "method_descriptor"))(hm:J3 X id r2)(ho:QE X o to)(ha:QA X (e::es) t)
  (nt:attributeBase o name X.env (eval o X.env)=eval o X.env:=by rfl)
  (Cu:((backTo cpos (bJ (e::es) X.env)).all (fun x=>!x.1)&&(backToKw cpos (keywordEach [] X.env)).all (fun x=>x.1.isSome)
   && decide ((e::es).length+([]:List pX).length+(if ([]:List pX).isEmpty then 0 else 1)<30))=true:=by rfl)
  (nr:(apos.endLine==cpos.line)=true:=by rfl) (he:notStar e=true:=by rfl) (hpl:es.all notStar=true:=by rfl):
  QE X (.Call (.Attribute o name apos) (e::es) [] cpos) (eM r to t):=⟨QD L (Ta PySem.F.plainAttrs_list slot hty hm ho.of ha.of nt Cu nr (fq he) (kD hpl))⟩
theorem OX{i j:Nat}{x y:ψ}{px py pt:aL}{kt k2 pt2}(hc:X.calm=true)(hN:X.N.Nodup)(hi:X.N[i]?=some x)(hj:X.N[j]?=some y)(hij:i≠j)(hx:X.env.scope.names.lookup x=some .local)(hy:X.env.scope.names.lookup y=some .local)(ha:QA X [a,b] t)
  (hw:swappedStores [.Tuple [.Name x px,.Name y py] kt pt] (.Tuple [a,b] k2 pt2) X.env=pure (some [x,y])) (hs:swapsWithSole [.Tuple [.Name x px,.Name y py] kt pt] (.Tuple [a,b] k2 pt2) pos.line X.env=pure false:=by rfl):
  QS X (.Assign [.Tuple [.Name x px,.Name y py] kt pt] (.Tuple [a,b] k2 pt2) pos) (AQ i j t):=⟨Rl (Tv hc hN hi hj hij hx hy ha.of hw hs)⟩
end
section
variable {X:Cx} {tg iter elt:π} {ifs:List π} {scope:gM} {own:List ψ} {js:List Nat} {ti:ls} {g:ip} {tc:cE} {te:aK} {pos:aL}
theorem tp(hc:X.calm=true)(C:dM X.N X.env.scope scope own js)(hi:QI X tg iter ti)
  (hb:∀s H fp,QG (X.cmp scope own js s H fp) tg g/\QC (X.cmp scope own js s H fp) ifs tc/\QE (X.cmp scope own js s H fp) elt te)
  (hs:∀x,foldedSetIterable iter X.env x=pure x:=by intro _;rfl):QE X (.ListComp elt [⟨tg,iter,ifs,0⟩] scope pos) (gV own js ti g tc te):=
 ⟨Q6 hc C hi.of (fun s H fp=>⟨(hb s H fp).1.of,(hb s H fp).2.1.of,(hb s H fp).2.2.of⟩) hs⟩
theorem ya{i:Nat}{y:ψ}{py spos:aL}(hc:X.calm=true)(hN:X.N.Nodup)(C:dM X.N X.env.scope scope own js)(hi:QI X tg iter ti)
  (hb:∀s H fp,QG (X.cmp scope own js s H fp) tg g/\QC (X.cmp scope own js s H fp) ifs tc/\QE (X.cmp scope own js s H fp) elt te) (hy:X.N[i]?=some y:=by rfl) (hyl:X.env.scope.names.lookup y=some .local:=by rfl)
  (AB:swapsWith (.ListComp elt [⟨tg,iter,ifs,0⟩] scope pos) (some (.Name y py)) spos.line X.env=pure true:=by rfl)
  (hs:∀x,foldedSetIterable iter X.env x=pure x:=by intro _;rfl):QS X (.Assign [.Name y py] (.ListComp elt [⟨tg,iter,ifs,0⟩] scope pos) spos) (bf (gV own js ti g tc te) (hName i)):=
 ⟨Q5 hc hN C hi.of (fun s H fp=>⟨(hb s H fp).1.of,(hb s H fp).2.1.of,(hb s H fp).2.2.of⟩) hy hyl AB hs⟩
end
theorem dy{P:aG}{w:aQ}{K:ζ}{mg:ψ->Option δ}{base:ay}{x qual:ψ}{st:aS}{f:ε}{fd:aE}{N ps:List ψ}{k:Nat}{sp:dF}(F:dJ K x qual st f fd)(S:bC N ps (ai st))(hN:ps.length≤N.length)(len:∀ds G Q,sp ds G Q->ds.length=ps.length)(tb:ab)
  (qp:∀(cdv:δ) (A:bT) (outer:List ir) (s:η) (H:Hp) (E:XK),gk k (A.deeper (envOfC qual (ai st) s.heap.objs.size f cdv)) ->
   t9 (rJ vk P w K mg base N qual (ai st) f cdv A outer s H E).xq (km st) tb)
  (Ds:∀ds G Q,sp ds G Q->tb (aT Q) (bz N ds) G):cu P w K mg base (k+1) f fd ps sp:=X9 F S hN len tb (fun cdv A outer s H E hr=>(qp cdv A outer s H E hr).of) Ds
end L3
namespace My
open PySem L2 L3
def Known(G:Gp):D->Prop
 |.obj a=>∃o,G a=some o/\o.plain
 |_=>True
def Eb:D->Bool
 |.int _=>true
 |_=>false
theorem eI{Q:V3}{d:D}{G:Gp}(h:Q d G):(aT Q).rt d G:=⟨G,Sub.refl G,h⟩
theorem rf{Q:V3}{d:D}{G G':Gp}(s:Sub G G')(h:Q d G):(aT Q).rt d G':=⟨G,s,h⟩
theorem dX{i:Int}(h1:-(10^80)<i)(h2:i<10^80):gA i:=by
 have:i.natAbs<10^80:=by lia
 exact jh this (by decide)
theorem Sub.sU{G G':Gp}{a:ε}{o:GO}(s:Sub G G')(h:G a=none):Sub G (da G' a o):=fun b u e=>by
 rw[mi (fun z=>by rw[z,h] at e;cases e)];exact s b u e
def wK:dF:=fun ds G Q=>match ds with
 |[d]=>Known G d/\Q (.bl (Eb d)) G
 |_=>False
def HN:ab:=cg (vE (vC "int" (θ 0)) (zi (vC "bool" (θ 0))))
theorem OW{nm:ψ}:∀ds G Q,wK ds G Q->HN (aT Q) (bz [nm] ds) G:=by
 intro ds G Q h;rcases ds with _|⟨d,_|⟨d2,ds⟩⟩
 ·exact h.elim
 ·cases d with
  |int i=>exact⟨fun _=>eI h.2,nofun⟩
  |bl b=>exact⟨fun _=>eI h.2,nofun⟩
  |ak=>exact⟨nofun,fun _=>eI h.2⟩
  |str _=>exact⟨nofun,fun _=>eI h.2⟩
  |tup _=>exact⟨nofun,fun _=>eI h.2⟩
  |fo _=>exact⟨nofun,fun _=>eI h.2⟩
  |dc _=>exact⟨nofun,fun _=>eI h.2⟩
  |obj a=>
   obtain⟨o1,h1,hp⟩:∃o,G a=some o/\o.plain:=h.1;show match oF "int" G (.obj a) with
    |some b=>_
    |none=>_
   cases hG:G a with
   |none=>rw[h1] at hG;cases hG
   |some o=>
    cases o with
    |lst _=>simp only[oF,hG];exact⟨nofun,fun _=>eI h.2⟩
    |kl=>simp only[oF,hG];exact⟨nofun,fun _=>eI h.2⟩
    |iF=>simp only[oF,hG];exact⟨nofun,fun _=>eI h.2⟩
    |gen R=>
     rw[h1] at hG;cases hG;exact hp.elim
 ·exact h.elim
abbrev OV:=@OW "thing"
def wJ:dF:=fun ds G Q=>∃(ns:List Int) (k:Nat),ds=[.fo (ns.map .int),.int k]/\∀i:Int,Q (.int i) G
def HM:ab:=aF (gH (bK (af sf (θ 1) (dA kE (μ (θ 0) (Ξ))))) (cg (af eK (θ 0) (θ 1))) (dI)) (cg (eC (.int 0)))
theorem OU:∀ds G Q,wJ ds G Q->HM (aT Q) (bz ["script","k"] ds) G:=by
 rintro ds G Q ⟨ns,k,rfl,q⟩;refine⟨fun h=>?_,fun h=>eI (q 0)⟩;have h':(k:Int)<((ns.map D.int).length:Nat):=of_decide_eq_true h;rw[ξ] at h';have hk:k<ns.length:=by lia
 exact⟨.int ns[k],wz (by rw[ag,ar hk];rfl),eI (q _)⟩
def uF:dF:=fun ds G Q=>∃n:Int,ds=[.int n]/\0≤n/\∀r:Int,0≤r->r<2147483629->Q (.int r) G
def HL:ab:=aF (bf (af jo (af cB (θ 0) (eC (.int 7919))) (eC (.int 2147483647))) (hName 0)) (cg (af jo (af cB (af cB (af fg (θ 0) (θ 0)) (af fg (eC (.int 48271)) (θ 0))) (eC (.int 12345))) (eC (.int 2147483629))))
theorem OT:∀ds G Q,uF ds G Q->HL (aT Q) (bz ["seed"] ds) G:=by
 rintro ds G Q ⟨n,rfl,hn,q⟩;have h1:=cm (n+7919) (show (2147483647:Int)≠0 by decide);have h2:=bY (n+7919) (show (0:Int)<2147483647 by decide);have hb:gA ((n+7919)%2147483647):=dX (by lia) (by lia);refine⟨(by decide:(0:Int)<2147483647),⟨hb,hb⟩,⟨dX (by decide) (by decide),hb⟩,(by decide:(0:Int)<2147483629),eI (q _ ?_ ?_)⟩
 ·exact cm _ (by decide)
 ·exact bY _ (by decide)
def xZ:dF:=fun ds G Q=>∃(p:ε) (m i j k:Int),ds=[.obj p,.int m]/\G p=some (.lst [.int i,.int j,.int k])/\sm i j k/\0<m/\gA m ∧
 ∀r i' j' k':Int,sm i' j' k'->0≤r->r<m->Q (.int r) (da G p (.lst [.int i',.int j',.int k']))
def lj:dF:=fun ds G Q=>∃(p:ε) (m:Int),ds=[.obj p,.int m]/\G p=some .kl/\(0<m/\gA m)/\∀r:Int,0≤r->r<m->Q (.int r) G
def HK:ab:=aF (gH (bK (af (dm false) (af eK (θ 0) (eC (.int 1))) (eC (.int 1)))) (aF (bf (af jo (af eK (θ 0) (eC (.int 0))) (θ 1)) (hName 2)) (aF (bf (af kA (af eK (θ 0) (eC (.int 0))) (θ 1)) (hSub (θ 0) (eC (.int 0)))) (cg (θ 2)))) (dI)) (aF (bf (aA uF (μ (af cB (aA uF (μ (af eK (θ 0) (eC (.int 2))) (Ξ))) (eC (.int 7))) (Ξ))) (hSub (θ 0) (eC (.int 2)))) (cg (af jo (af kA (af eK (θ 0) (eC (.int 2))) (eC (.int 64))) (θ 1))))
theorem Pw:∀ds G Q,xZ ds G Q->HK (aT Q) (bz ["pen","many","found"] ds) G:=by
 rintro ds G Q ⟨p,m,i,j,k,rfl,hp,ok,hm,hb,q⟩;obtain⟨o1,o2,o3⟩:=ok;refine⟨_,_,hp,rfl,_,_,rfl,rfl,aB _,fun _=>?_,fun _=>?_⟩
 ·refine⟨_,_,hp,rfl,hm,_,_,hp,rfl,⟨hm,hb⟩,_,0,hp,rfl,?_⟩;refine eI (q (i%m) (i / m) j k ⟨?_,o2,o3⟩ ?_ ?_)
  ·exact iW o1 (by lia)
  ·exact cm _ (by lia)
  ·exact bY _ hm
 ·refine⟨_,_,hp,rfl,_,rfl,o2,fun r h1 h2=>⟨_,rfl,(by lia),fun r' h3 h4=>?_⟩⟩;refine⟨_,2,hp,rfl,_,_,lr,rfl,⟨by decide,dX (by decide) (by decide)⟩,hm,?_⟩;refine eI (q _ i j r' ⟨o1,h3,by lia⟩ ?_ ?_)
  ·exact cm _ (by lia)
  ·exact bY _ hm
theorem Pu{K:ζ}:∀vs H Q E,nk K lj vs H Q E->nk K xZ vs H Q E:=by
 rintro vs H Q E ⟨ds,G,Q3,hd,RG,⟨p,m,rfl,hp,hm,q⟩,k⟩;obtain⟨i,j,l,e,ok⟩:=RG p _ hp;refine⟨_,da G p (.lst [.int i,.int j,.int l]),fun d G'=>∃i' j' l',sm i' j' l'/\G'=da G p (.lst [.int i',.int j',.int l'])/\Q3 d G,hd,?_,⟨p,m,i,j,l,rfl,lr,ok,hm.1,hm.2,fun r i' j' k' ok' h1 h2=>⟨i',j',k',ok',Sa,q r h1 h2⟩⟩,?_⟩
 ·intro a o ea;by_cases z:a=p
  ·subst z;rw[lr] at ea;cases ea;exact⟨_,e,.cons (by simp[Hv]) (.cons (by simp[Hv]) (.cons (by simp[Hv]) .nil))⟩
  ·rw[mi z] at ea;exact RG a o ea
 ·rintro v H' d G' hv S R ⟨i',j',l',ok',rfl,h3⟩;refine k v H' d G hv ⟨fun a o ea n=>S.fr a o ea ?_,S.nC,fun a n z=>absurd n z⟩ (fun a o ea=>?_) h3
  ·have:a≠p:=fun z=>by rw[z,hp] at n;cases n
   rw[mi this];exact n
  ·by_cases z:a=p
   ·subst z;rw[hp] at ea;cases ea;obtain⟨ws,e1,e2⟩:=R a _ lr;have:=rm e2 (ns:=[i',j',l']) rfl;subst this;exact⟨i',j',l',e1,ok'⟩
   ·exact R a o (by rw[mi z];exact ea)
def xY:dF:=fun ds G Q=>∃c:Int,ds=[.int c]/\∀p i j k G',dg G p (.lst [.int i,.int j,.int k]) G'->sm i j k->Q (.obj p) G'
def BL:dF:=fun ds G Q=>∃c:Int,ds=[.int c]/\∀p G',dg G p .kl G'->Q (.obj p) G'
def HJ:ab:=aF (bf (dA uI (μ (θ 0) (μ (af iQ (eC (.int 0)) (θ 0)) (Ξ)))) (hName 1)) (cg (fM (μ (θ 1) (μ (dA yu (μ (af Ep (θ 1) (af qb (eC (.int 10)) (eC (.int 18)))) (Ξ))) (μ (af jo (θ 1) (eC (.int 1000003))) (Ξ))))))
theorem Pt:∀ds G Q,xY ds G Q->HJ (aT Q) (bz ["cell","left"] ds) G:=by
 rintro ds G Q ⟨c,rfl,q⟩;refine⟨⟨by decide,by decide,by decide⟩,(by decide:(0:Int)<1000003),fun p G' hp=>eI (q p _ _ _ _ hp ⟨?_,?_,?_⟩)⟩
 ·split<;>lia
 ·exact cm _ (by decide)
 ·exact Int.lt_trans (bY _ (by decide)) (by decide)
theorem Pr{K:ζ}:∀vs H Q E,nk K BL vs H Q E->nk K xY vs H Q E:=by
 rintro vs H Q E ⟨ds,G,Q3,hd,RG,⟨c,rfl,q⟩,k⟩;refine⟨_,G,fun d G'=>∃p i j l,sm i j l/\dg G p (.lst [.int i,.int j,.int l]) G'/\d=.obj p,hd,RG,⟨c,rfl,fun p i j l G' hp ok=>⟨p,i,j,l,ok,hp,rfl⟩⟩,?_⟩;rintro v H' d G' hv S R ⟨p,i,j,l,ok,hp,rfl⟩;refine k v H' _ (da G' p .kl) hv ⟨S.fr,S.nC,fun a n z=>S.new a n ?_⟩ (fun a o ea=>?_) (q p _ ⟨hp.ak,Sub.sU hp.sub hp.ak,lr⟩)
 ·by_cases y:a=p
  ·rw[y,hp.at_];simp
  ·rw[mi y] at z;exact z
 ·by_cases z:a=p
  ·subst z;rw[lr] at ea;cases ea;obtain⟨ws,e1,e2⟩:=R a _ hp.at_;have:=rm e2 (ns:=[i,j,l]) rfl;subst this;exact⟨i,j,l,e1,ok⟩
  ·rw[mi z] at ea;exact R a o ea
abbrev ω:=Int×Int
def cD(c:ω):D:=.tup [.int c.1,.int c.2]
def cT(cs:List ω):D:=.tup (cs.map cD)
def Valid(c:ω):Prop:=0<c.1/\0≤c.2/\c.2<c.1
def rg(n:Int)(c:ω):Bool:=n%c.1==c.2
def wI:dF:=fun ds G Q=>∃(c:ω) (n:Int),ds=[cD c,.int n]/\0<c.1/\Q (.bl (rg n c)) G
def GU:ab:=cg (af (dm false) (af jo (θ 1) (af eK (θ 0) (eC (.int 0)))) (af eK (θ 0) (eC (.int 1))))
theorem Pq:∀ds G Q,wI ds G Q->GU (aT Q) (bz ["clock","number"] ds) G:=by
 rintro ds G Q ⟨⟨s,r⟩,n,rfl,hs,q⟩;exact⟨_,rfl,hs,_,rfl,_,_,rfl,rfl,aB _,eI q⟩
def mF:dF:=fun ds G Q=>∃(cs:List ω) (n:Int),ds=[cT cs,.int n]/\(∀c∈cs,0<c.1)/\cs.length≤1000/\∀p G',dg G p (.lst ((cs.filter (rg n)).map cD)) G'->Q (.obj p) G'
def GS:ab:=cg (gV ["clock"] [1] (mJ (θ 0)) (hName 0) (bK (aA wI (μ (θ 0) (μ (θ 1) (Ξ))))) (θ 0))
theorem cP{n:Nat}(h:n≤1000):n≤aj:=ae h (by decide)
theorem oV{α:Type}{guard:Gp->Prop}{g:ip}{tc:cE}{te:aK}{Q:List D->Gp->Prop}(I:S3->Prop)(h:α->D)(pr:α->Bool)(f:α->D){G:Gp}(hg:guard G):∀(xs:List α) (acc:List D) (τ:S3),I τ ->
  (∀x∈xs,∀τ (K1:S3->Gp->Prop) (K2:S3->D->Gp->Prop),I τ->(pr x=true->∀τ2,I τ2->K2 τ2 (f x) G)->(pr x=false->∀τ2,I τ2->K1 τ2 G)->g (h x) τ G fun τ2 G2=>tc τ2 G2 fun b G3=>Br b (te τ2 G3 fun v G4=>K2 τ2 v G4) (K1 τ2 G3)) ->
  Q (acc++(xs.filter pr).map f) G->iG guard g tc te Q (xs.map h) acc τ G
 |[],acc,τ,_,_,q=>⟨hg,by simpa using q⟩
 |d::ds,acc,τ,hI,hs,q=>by
  refine⟨hg,hs d Ψ τ (fun τ2 G3=>iG guard g tc te Q (ds.map h) acc τ2 G3) (fun τ2 v G4=>iG guard g tc te Q (ds.map h) (acc++[v]) τ2 G4) hI (fun hp τ2 h2=>?_) fun hp τ2 h2=>?_⟩
  ·refine oV I h pr f hg ds _ τ2 h2 (fun d' hd=>hs d' (Θ _ hd)) ?_;rw[oA hp] at q;simpa using q
  ·refine oV I h pr f hg ds _ τ2 h2 (fun d' hd=>hs d' (Θ _ hd)) ?_;rw[oB (by rw[hp];simp)] at q;exact q
theorem Pp:∀ds G Q,mF ds G Q->GS (aT Q) (bz ["clocks","number"] ds) G:=by
 rintro ds G Q ⟨cs,n,rfl,hc,hz,q⟩;refine⟨by show (cs.map cD).length≤aj;rw[ξ];exact cP hz,?_⟩;refine oV (fun τ=>∃x,τ=[x,some (.int n)]) cD (rg n) cD (G:=G) trivial cs [] _ ⟨none,rfl⟩ ?_ ?_
 ·rintro c hm τ K1 K2 ⟨x,rfl⟩ h1 h2;exact⟨c,n,rfl,hc c hm,fun e=>h1 e _ ⟨_,rfl⟩,fun e=>h2 e _ ⟨_,rfl⟩⟩
 ·exact fun p G' hp=>eI (q p G' hp)
end My
namespace My
open PySem L2 L3
def cX(c:ω):Dat.D:=.tup [.int c.1,.int c.2]
theorem uE:∀cs:List ω,eW (cs.map cD)=some (cs.map cX)
 |[]=>rfl
 |c::cs=>by
  show (match nE (cD c) with
   |some x=>match eW (cs.map cD) with
    |some xs=>some (x::xs)
    |none=>none
   | none=>none)=_
  rw[uE cs];rfl
theorem jG{G:Gp}{a:ε}{ds:List D}{xs:List Dat.D}(h:G a=some (.lst ds))(e:eW ds=some xs):sd G (.obj a)=some (.lst xs):=by
 unfold sd;simp only[h,e]
theorem GR:∀cs:List ω,Dat.fW (cs.map cX)≤1
 |[]=>aB _
 |c::cs=>by
  show max (cX c).i7 (Dat.fW (cs.map cX))≤1;have h1:(cX c).i7=1:=rfl;have:=GR cs;lia
theorem wH(cs:List ω):(Dat.D.lst (cs.map cX)).i7≤50:=by
 show Dat.fW (cs.map cX)+1≤50;have:=GR cs;lia
theorem uD(xs:List Dat.D):(Dat.D.lst xs).dS (.lst [])=xs.isEmpty:=by
 cases xs with
 |nil=>rfl
 |cons x xs=>rfl
def yy(cs:List ω):D->Bool
 |.int n=>(cs.filter (rg n)).isEmpty
 |_=>false
def wG:dF:=fun ds G Q=>∃(cs:List ω) (d:D),ds=[cT cs,d]/\Known G d/\(∀c∈cs,0<c.1)/\cs.length≤1000/\Q (.bl (yy cs d)) G
def GQ:ab:=cg (vE (aA wK (μ (θ 1) (Ξ))) (af (dm false) (aA mF (μ (θ 0) (μ (θ 1) (Ξ)))) (fM (Ξ))))
theorem isEmpty_map{α β:Type}(f:α->β)(xs:List α):(xs.map f).isEmpty=xs.isEmpty:=by cases xs<;>rfl
theorem Po:∀ds G Q,wG ds G Q->GQ (aT Q) (bz ["clocks","thing"] ds) G:=by
 rintro ds G Q ⟨cs,d,rfl,hk,hc,hz,q⟩;refine⟨hk,?_⟩;cases d with
 |int n=>
  refine⟨fun _=>?_,nofun⟩;refine⟨cs,n,rfl,hc,hz,fun p G1 h1 p2 G2 h2=>⟨_,_,jG (h2.sub _ _ h1.at_) (uE _),jG h2.at_ rfl,wH _,?_⟩⟩;rw[show (if false=true then _ else Dat.D.dS (.lst ((cs.filter (rg n)).map cX)) (.lst []))=yy cs (.int n) by
   show Dat.D.dS _ _=_;rw[uD,isEmpty_map];rfl]
  exact rf (h1.sub.trans h2.sub) q
 |_=>exact⟨nofun,fun _=>eI q⟩
def bU(n:Int)(c:ω):Bool:=(n-c.2)%c.1==0
theorem BK{c:ω}(h:Valid c)(n:Int):bU n c=rg n c:=by
 obtain⟨h1,h2,h3⟩:=h;unfold rg bU;rw[gO];simp only[beq_iff_eq];constructor
 ·intro e;have h4:=Int.emod_emod_of_dvd n (Int.dvd_refl c.1);have:n%c.1=c.2%c.1:=dz.mpr e;rw[this];exact m9 h2 h3
 ·intro e;refine dz.mp ?_;rw[e];exact (m9 h2 h3).symm
end My
namespace My
open PySem L2 L3
def qt{α:Type}(xs:List α)(lo hi:Option Int):List α:=(xs.drop (HT.cb xs.length 0 lo)).take (HT.cb xs.length xs.length hi-HT.cb xs.length 0 lo)
theorem tm{α:Type}(f:α->D)(xs:List α)(lo hi:Option Int):kF (xs.map f) lo hi=(qt xs lo hi).map f:=by
 unfold kF qt;rw[ξ,j8,j9]
theorem Pn{α:Type}(xs:List α)(lo hi:Option Int):(qt xs lo hi).length≤xs.length:=by
 unfold qt;rw[de,gs];lia
theorem xX{α:Type}(xs:List α)(k:Nat):qt xs none (some (k:Int))=xs.take k:=by
 unfold qt;rw[HT.vN,HT.xm];simp only[List.drop_zero,Nat.sub_zero];by_cases h:k≤xs.length
 ·rw[Nat.min_eq_left h]
 ·rw[Nat.min_eq_right (by lia),oi,gQ (by lia)]
theorem GP{α:Type}(xs:List α)(k:Nat):qt xs (some (k:Int)) none=xs.drop k:=by
 unfold qt;rw[HT.vN,HT.xm];by_cases h:k≤xs.length
 ·rw[Nat.min_eq_left h];exact gQ (by rw[gs];lia)
 ·rw[Nat.min_eq_right (by lia),List.drop_length,jY (by lia)];simp
def tQ(M:Int)(cs:List ω):Prop:=∀c∈cs,Valid c/\c.1≤M
theorem Pm{s r k i:Int}(h:Valid (s,r))(h1:0≤i)(h2:i<k):Valid (s*k,r+s*i):=by
 obtain⟨a,b,c⟩:=h;simp only at a b c;have q:=ff (show i≤k-1 by lia) (show 0≤s by lia);rw[gR,iM] at q;have q2:=Int.mul_nonneg (show 0≤s by lia) h1;refine⟨?_,?_,?_⟩
 ·exact Int.mul_pos a (by lia)
 ·show 0≤r+s*i;lia
 ·show r+s*i<s*k;lia
theorem BJ{α:Type}(f:α->D){xs:List α}{r:Int}(h1:0≤r)(h2:r<(xs.length:Nat)):∃x,xs[r.toNat]?=some x/\x∈xs/\jQ (xs.map f) r=some (f x):=by
 have hk:r.toNat<xs.length:=by lia
 refine⟨xs[r.toNat],ar hk,List.getElem_mem hk,?_⟩;have e:r=((r.toNat:Nat):Int):=by lia
 have q:jQ (xs.map f) ((r.toNat:Nat):Int)=some (f xs[r.toNat]):=wz (by rw[ag];simp[hk]);rw[←e] at q;exact q
theorem GN{ns:List Int}{r:Int}(h1:0≤r)(h2:r<(ns.length:Nat)):∃n,n∈ns/\jQ (ns.map D.int) r=some (.int n):=by
 obtain⟨x,_,h3,h4⟩:=BJ D.int h1 h2;exact⟨x,h3,h4⟩
end My
namespace My
open PySem L2 L3
def eH(c:ω):List Int:=[c.1,c.2]
theorem BI(cs:List ω):(cs.map eH).map tupI=cs.map cD:=by
 rw[bH];rfl
theorem BH{cs:List ω}:∀{mss:List (List Int)},(∀ns∈mss,ns∈cs.map eH)->∃cs':List ω,mss=cs'.map eH/\∀c∈cs',c∈cs
 |[],_=>⟨[],rfl,fun c hc=>nomatch hc⟩
 |ns::mss,h=>by
  obtain⟨cs',e,hc⟩:=BH (mss:=mss) fun n hn=>h n (Θ _ hn);obtain⟨c,h1,rfl⟩:=aP.mp (h ns Ψ);refine⟨c::cs',by simp[e],fun d hd=>?_⟩;rcases az.mp hd with rfl|hd
  ·exact h1
  ·exact hc d hd
def Ld(a b:ω):Prop:=a.1<b.1∨(a.1=b.1/\a.2<b.2)
def rN(cs:List ω):Prop:=cs.Pairwise Ld
theorem wF{a b:ω}(h:eH a=eH b):a=b:=by
 obtain⟨s,r⟩:=a;obtain⟨s',r'⟩:=b;simp[eH] at h;simp[h]
theorem Pl{a b:ω}(h:qw.lx (eH b) (eH a)=false)(hne:a≠b):Ld a b:=by
 obtain⟨s,r⟩:=a;obtain⟨s',r'⟩:=b;unfold eH at h;simp only[qw.lx] at h;by_cases e:s'=s
 ·rw[if_pos e] at h;by_cases e2:r'=r
  ·exact absurd (by rw[e,e2]) hne
  ·rw[if_neg e2] at h;have:=of_decide_eq_false h;exact .inr ⟨e.symm,by simp only;lia⟩
 ·rw[if_neg e] at h;have:=of_decide_eq_false h;exact .inl (by simp only;lia)
theorem GL{cs:List ω}(h:qx (cs.map eH))(nd:(cs.map eH).Nodup):rN cs:=by
 have h1:=eZ.mp h;have h2:=eZ.mp nd;exact (h1.and h2).imp fun {a b} q=>Pl q.1 fun z=>q.2 (by rw[z])
theorem rN.take{cs:List ω}(h:rN cs)(n:Nat):rN (cs.take n):=List.Pairwise.sublist (m8 n cs) h
theorem OI{cs:List ω}{mss:List (List Int)}(hmem:∀ns,ns∈mss↔ns∈cs.map eH)(nd:mss.Nodup)(hr:qx mss)(hl:mss.length≤(cs.map eH).length):
  ∃cs':List ω,mss=cs'.map eH/\(∀c,c∈cs'↔c∈cs)/\rN cs'/\cs'.length≤cs.length:=by
 obtain⟨cs',rfl,hc⟩:=BH fun ns hn=>(hmem ns).mp hn;refine⟨cs',rfl,fun c=>⟨fun h=>hc c h,fun h=>?_⟩,GL hr nd,by simpa using hl⟩;obtain⟨c',h1,h2⟩:=aP.mp ((hmem (eH c)).mpr (aP.mpr ⟨c,h,rfl⟩));rw[←wF h2];exact h1
theorem GK{cs:List ω}:∀ns∈cs.map eH,ns≠[]:=fun ns hn=>by
 obtain⟨c,_,rfl⟩:=aP.mp hn;simp[eH]
theorem GJ{G:Gp}{a:ε}{cs:List ω}(e:G a=some (.lst (cs.map cD))):G a=some (.lst ((cs.map eH).map tupI)):=by rw[BI];exact e
theorem GI{r:Int}{n:Nat}(h1:0≤r)(h2:r<(n:Int)):seqIndex? r n=some r.toNat:=by
 unfold seqIndex?;simp only[if_neg (show ¬r<0 by lia)];rw[if_pos (by simp;lia)]
theorem BG{α β:Type}(f:α->β):∀(xs:List α) (i:Nat),(xs.map f).eraseIdx i=(xs.eraseIdx i).map f
 |[],_=>rfl
 |_::_,0=>rfl
 |x::xs,i+1=>by simp[BG f xs i]
end My
namespace My
open PySem L2 L3
theorem wD{guard:Gp->Prop}{g:ip}{tc:cE}{te:aK}{Q:List D->Gp->Prop}(I:List D->List D->S3->Gp->Prop)(hg:∀ds acc τ G,I ds acc τ G->guard G)
  (step:∀d ds acc τ G (K1:S3->Gp->Prop) (K2:S3->D->Gp->Prop),I (d::ds) acc τ G->(∀τ' v G',I ds (acc++[v]) τ' G'->K2 τ' v G')->(∀τ' G',I ds acc τ' G'->K1 τ' G')->g d τ G fun τ2 G2=>tc τ2 G2 fun b G3=>Br b (te τ2 G3 fun v G4=>K2 τ2 v G4) (K1 τ2 G3))
  (lI:∀acc τ G,I [] acc τ G->Q acc G):∀ds acc τ G,I ds acc τ G->iG guard g tc te Q ds acc τ G
 |[],acc,τ,G,h=>⟨hg _ _ _ _ h,lI _ _ _ h⟩
 |d::ds,acc,τ,G,h=>⟨hg _ _ _ _ h,step d ds acc τ G (fun τ2 G3=>iG guard g tc te Q ds acc τ2 G3) (fun τ2 v G4=>iG guard g tc te Q ds (acc++[v]) τ2 G4) h
   (fun τ' v G' q=>wD I hg step lI ds _ τ' G' q) fun τ' G' q=>wD I hg step lI ds _ τ' G' q⟩
def uB:dF:=fun ds G Q=>∃(p:ε) (m:Int),ds=[.obj p,.int m]/\G p=some .kl/\(0<m/\m≤1000)/\∀c:ω,Valid c->c.1≤m->Q (cD c) G
def OH:ab:=cg (qr (μ (θ 2) (μ (aA lj (μ (θ 0) (μ (θ 2) (Ξ)))) (Ξ))))
def GH:ab:=aF (bf (af cB (eC (.int 1)) (aA lj (μ (θ 0) (μ (θ 1) (Ξ))))) (hName 2)) OH
theorem OG:∀ds G Q,uB ds G Q->GH (aT Q) (bz ["pen","most","step"] ds) G:=by
 rintro ds G Q ⟨p,m,rfl,hp,hm,q⟩;refine⟨p,m,rfl,hp,⟨hm.1,dX (by lia) (by lia)⟩,fun r h1 h2=>?_⟩;refine⟨p,_,rfl,hp,⟨by lia,dX (by lia) (by lia)⟩,fun r2 h3 h4=>eI (q (1+r,r2) ⟨?_,h3,h4⟩ ?_)⟩
 ·show 0<1+r;lia
 ·show 1+r≤m;lia
theorem OF{cs:List ω}{mss:List (List Int)}(hp:mss.Perm (cs.map eH)):∃cs':List ω,mss=cs'.map eH/\(∀c∈cs',c∈cs)/\cs'.length=cs.length:=by
 obtain⟨cs',rfl,hc⟩:=BH fun ns hn=>hp.mem_iff.mp hn;exact⟨cs',rfl,hc,by simpa using hp.length_eq⟩
def OE:ab:=bf (af cB (θ 3) (gV ["part"] [5,4,6] (nq (μ (θ 4) (Ξ))) (hName 0) (fL) (qr (μ (af fg (θ 1) (θ 2)) (μ (af cB (θ 3) (af fg (θ 1) (θ 0))) (Ξ)))))) (hName 3)
def OD:ab:=aF (gH (bK (af sX (af fg (θ 5) (θ 4)) (eC (.int 1000)))) (cg (dA wm (μ (af cB (θ 3) (fM (μ (qr (μ (θ 5) (μ (θ 6) (Ξ)))) (Ξ)))) (Ξ)))) (dI)) OE
def GG:ab:=aF (bf (eM Cn (θ 3) (μ (aA lj (μ (θ 0) (μ (dA kE (μ (θ 3) (Ξ))) (Ξ)))) (Ξ))) (nM 2 (fF (hName 5) (fF (hName 6) (nN))))) OD
def OC:ab:=aF (bf (dA yt (μ (θ 4) (μ (dA uI (μ (eC (.int 2)) (μ (af cB (af iQ (θ 2) (dA kE (μ (θ 3) (Ξ)))) (eC (.int 1))) (Ξ)))) (Ξ)))) (hName 4)) GG
def GF:ab:=aF (bf (wY (μ (eC (.int 2)) (μ (eC (.int 2)) (μ (eC (.int 3)) (μ (eC (.int 2)) (μ (eC (.int 3)) (μ (eC (.int 5)) (Ξ))))))) (aA lj (μ (θ 0) (μ (eC (.int 6)) (Ξ))))) (hName 4)) OC
def BF:ab:=cg (dA wm (μ (θ 3) (Ξ)))
def OB:ab:=aF (nI (sH (bK (af sf (dA kE (μ (θ 3) (Ξ))) (θ 1))) (tP (bK (af sX (aA lj (μ (θ 0) (μ (eC (.int 4)) (Ξ)))) (eC (.int 0)))) (bK (af sf (dA kE (μ (θ 3) (Ξ))) (θ 2))))) (GF)) BF
def OA:ab:=aF (bf (fM (μ (qr (μ (eC (.int 1)) (μ (eC (.int 0)) (Ξ)))) (Ξ))) (hName 3)) OB
theorem wrote{G G1:Gp}{q:ε}{o o':GO}(n:dg G q o G1):dg G q o' (da G1 q o'):=⟨n.ak,Sub.sU n.sub n.ak,lr⟩
end My
namespace My
open PySem L2 L3
def Oz:ab:=ky (eM Ib (θ 3) (μ (qr (μ (θ 6) (μ (aA lj (μ (θ 0) (μ (θ 6) (Ξ)))) (Ξ)))) (Ξ)))
def Oy:ab:=aF (bf (af eK (θ 4) (aA lj (μ (θ 0) (μ (eC (.int 7)) (Ξ))))) (hName 6)) Oz
def Ox:ab:=jE (nq (μ (aA lj (μ (θ 0) (μ (af cB (θ 1) (eC (.int 1))) (Ξ)))) (Ξ))) (hName 5) (Oy)
def Ow:ab:=aF (bf (fM (Ξ)) (hName 3)) Ox
def GD:ab:=gH (bK (af (dm false) (θ 2) (eC (.int 4)))) (ky (eM Cn (θ 3) (μ (aA lj (μ (θ 0) (μ (dA kE (μ (θ 3) (Ξ))) (Ξ)))) (Ξ)))) (dI)
def Ov:ab:=aF (gH (bK (af (dm false) (θ 2) (eC (.int 3)))) (bf (af cB (θ 3) (fM (μ (aA uB (μ (θ 0) (μ (eC (.int 6)) (Ξ)))) (Ξ)))) (hName 3)) (dI)) GD
def BE:ab:=cg (t5 (dA yr (μ (tO (θ 3)) (Ξ))) (oE) (lP (θ 1)))
end My
namespace My
open PySem L2 L3
def wc:dF:=fun ds G Q=>∃a b:Nat,ds=[.int a,.int b]/\Q (.int (bj a b:Nat)) G
def Ou:ab:=AQ 0 1 (μ (θ 1) (μ (af jo (θ 0) (θ 1)) (Ξ)))
def Ot:ab:=cg (θ 0)
def GC:ab:=aF (nI (bK (af sX (θ 1) (eC (.int 0)))) (Ou)) Ot
theorem Oq:∀ds G Q,wc ds G Q->GC (aT Q) (bz ["one","other"] ds) G:=by
 rintro ds G Q ⟨a,b,rfl,q⟩;refine⟨fun m τ G'=>G'=G/\∃a':Nat,τ=[some (.int a'),some (.int (m:Nat))]/\bj a' m=bj a b,⟨b,rfl,a,rfl,rfl⟩,?_⟩;rintro m τ G' ⟨rfl,a',rfl,hg⟩;refine⟨fun h=>?_,fun h=>?_⟩
 ·have h':(0:Int)<(m:Int):=of_decide_eq_true h;refine⟨h',a'%m,by exact_mod_cast dU a' (by lia),rfl,m,?_,?_⟩
  ·show [some (D.int (m:Nat)),some (D.int ((a':Int)%(m:Int)))]=_;rw[←gw]
  ·rw[←hg,gq a' m,lX m a',gq]
 ·have h':¬((0:Int)<(m:Int)):=of_decide_eq_false h;have:m=0:=by lia
  subst this;rw[mv] at hg;rw[←hg] at q;exact eI q
def oR(cs:List ω)(a:Nat):Nat:=cs.foldl (fun a c=>aZ a c.1.toNat) a
def cS(cs:List ω):Nat:=oR cs 1
theorem GB{M:Nat}:∀{cs:List ω} {a:Nat},(∀c∈cs,0<c.1/\c.1≤(M:Int))->0<a->0<oR cs a/\oR cs a≤a*M^cs.length
 |[],a,_,h=>⟨h,by simp[oR]⟩
 |c::cs,a,hc,h=>by
  obtain⟨h1,h2⟩:=hc c Ψ;have hp:0<aZ a c.1.toNat:=lV h (by lia);obtain⟨h3,h4⟩:=GB (cs:=cs) (a:=aZ a c.1.toNat) (fun d hd=>hc d (Θ _ hd)) hp;refine⟨h3,ae h4 ?_⟩;rw[ax,hZ,eQ (M^cs.length) M,←j7];refine iy _ ?_;have:aZ a c.1.toNat≤a*c.1.toNat:=fP (gg h (by lia)) (lW (g0 _ _) (ki _ _));exact ae this (lu _ (by lia))
theorem Gz{n:Nat}(h:n<10^80):gA (n:Int):=by
 show (n:Int).natAbs<2^4000;exact jh (by simpa using h) (by decide)
def wb:dF:=fun ds G Q=>∃cs:List ω,ds=[cT cs]/\tQ 1000 cs/\cs.length≤12/\Q (.int (cS cs:Nat)) G
def Oo:ab:=bf (af fg (af kA (θ 1) (aA wc (μ (θ 1) (μ (θ 2) (Ξ))))) (θ 2)) (hName 1)
def Om:ab:=cg (θ 1)
def Ol:ab:=aF (jE (mJ (θ 0)) (nM 2 (fF (hName 2) (fF (hName 3) (nN)))) (Oo)) Om
def Gy:ab:=aF (bf (eC (.int 1)) (hName 1)) Ol
theorem Oj:∀ds G Q,wb ds G Q->Gy (aT Q) (bz ["clocks","found","step","rest"] ds) G:=by
 rintro ds G Q ⟨cs,rfl,ok,hl,q⟩;refine kC (fun ds τ G'=>G'=G/\∃(zs:List ω) (a:Nat) (x2 x3:Option D),ds=zs.map cD/\τ=[some (cT cs),some (.int a),x2,x3]/\tQ 1000 zs/\0<a/\a*1000^zs.length≤1000^12/\oR zs a=cS cs) (fun _ _ _ _=>trivial) ?_ ?_ _ _ _ ⟨rfl,cs,1,none,none,rfl,rfl,ok,by decide,?_,rfl⟩
 ·rintro d ds τ G' N ⟨rfl,zs,a,x2,x3,e,rfl,okz,ha,hb,hr⟩ hN;cases zs with
  |nil=>cases e
  |cons z zs=>
   cases e;obtain⟨s,r⟩:=z;obtain⟨v,hs⟩:=okz _ Ψ;have hs1:0<s:=v.1;have hs2:s≤1000:=hs;obtain⟨n,rfl⟩:∃n:Nat,s=(n:Int):=⟨s.toNat,by lia⟩;have hg:0<bj a n:=jB _ ha;have hga:bj a n≤a:=fP ha (gp _ _);have ha12:a≤1000^12:=ae (jA _ (Nat.pow_pos (by decide))) hb;have hbig:∀k:Nat,k≤1000^12->gA (k:Int):=fun k hk=>Gz (eD hk (by decide));refine⟨rfl,a,n,rfl,⟨by lia,hbig _ (ae hga ha12)⟩,⟨?_,hbig _ (ae (show n≤1000 by lia) (by decide))⟩,?_⟩
   ·rw[←eo];exact hbig _ (ae (oK _ _) ha12)
   have el:a / bj a n*n=aZ a n:=by
    unfold aZ;rw[eQ a n,m6 n (gp a n),eQ]
   refine hN _ _ ⟨rfl,zs,aZ a n,some (.int n),some (.int r),rfl,?_,fun c hc=>okz c (Θ _ hc),lV ha (by lia),?_,hr⟩
   ·show [some (cT cs),some (D.int ((a:Int) / (bj a n:Nat)*(n:Int))),_,_]=_;rw[←eo,←dw,el]
   ·refine ae ?_ hb;rw[ax,hZ,eQ (1000^zs.length) 1000,←j7];refine iy _ ?_;have:aZ a n≤a*n:=fP (gg ha (by lia)) (lW (g0 _ _) (ki _ _));exact ae this (lu _ (by lia))
 ·rintro τ G' ⟨rfl,zs,a,x2,x3,e,rfl,okz,ha,hb,hr⟩;have:zs=[]:=by cases zs with
   |nil=>rfl
   |cons z zs=>cases e
  subst this;have hr':a=cS cs:=hr;rw[←hr'] at q;exact eI q
 ·rw[sO];exact bM (by decide) hl
def wa:dF:=fun ds G Q=>∃(cs:List ω) (n:Int),ds=[cT cs,.int n]/\(∀c∈cs,0<c.1)/\cs.length≤1000/\Q (.int ((cs.filter (rg n)).length:Nat)) G
def Gx:ab:=cg (dA kE (μ (aA mF (μ (θ 0) (μ (θ 1) (Ξ)))) (Ξ)))
theorem Oi:∀ds G Q,wa ds G Q->Gx (aT Q) (bz ["clocks","number"] ds) G:=by
 rintro ds G Q ⟨cs,n,rfl,hc,hz,q⟩;refine⟨cs,n,rfl,hc,hz,fun p G' h=>⟨_,h.at_,?_⟩⟩;rw[ξ];exact rf h.sub q
end My
namespace My
open PySem L2 L3
def uA:dF:=fun ds G Q=>∃a b:Nat,ds=[.int a,.int b]/\Q (.int (bj a b:Nat)) G
def Oh:ab:=bf (θ 2) (hName 1)
def Og:ab:=aF (bf (θ 1) (hName 0)) Oh
def Of:ab:=aF (bf (af jo (θ 0) (θ 1)) (hName 2)) Og
def Oe:ab:=cg (θ 0)
def Gw:ab:=aF (nI (bK (af (dm true) (θ 1) (eC (.int 0)))) (Of)) Oe
theorem OS:∀ds G Q,uA ds G Q->Gw (aT Q) (bz ["one","other","left"] ds) G:=by
 rintro ds G Q ⟨a,b,rfl,q⟩;refine⟨fun m τ G'=>G'=G/\∃(a':Nat) (x:Option D),τ=[some (.int a'),some (.int (m:Nat)),x]/\bj a' m=bj a b,⟨b,rfl,a,_,rfl,rfl⟩,?_⟩;rintro m τ G' ⟨rfl,a',x,rfl,hg⟩;refine⟨_,_,rfl,rfl,aB _,fun h=>?_,fun h=>?_⟩
 ·have h1:(!((m:Int)==0))=true:=h;have h':(0:Int)<(m:Int):=by simp at h1;lia
  refine⟨h',a'%m,by exact_mod_cast dU a' (by lia),rfl,m,some (.int (a'%m:Nat)),?_,?_⟩
  ·show [some (D.int (m:Nat)),some (D.int ((a':Int)%(m:Int))),some (D.int ((a':Int)%(m:Int)))]=_;rw[←gw]
  ·rw[←hg,gq a' m,lX m a',gq]
 ·have h1:(!((m:Int)==0))=false:=h;have:m=0:=by simp at h1;lia
  subst this;rw[mv] at hg;rw[←hg] at q;exact eI q
def nD(n:Nat):D:=.int (n:Nat)
def uR(ns:List Nat)(a:Nat):Nat:=ns.foldl aZ a
def v9:dF:=fun ds G Q=>∃(p:ε) (ns:List Nat),ds=[.obj p]/\G p=some (.lst (ns.map nD))/\(∀n∈ns,0<n/\n≤1000)/\ns.length≤20/\Q (.int (uR ns 1:Nat)) G
def OR:ab:=bf (af fg (θ 1) (af kA (θ 2) (aA uA (μ (θ 1) (μ (θ 2) (Ξ)))))) (hName 1)
def OQ:ab:=cg (θ 1)
def OP:ab:=aF (jE (mJ (θ 0)) (hName 2) (OR)) OQ
def Gv:ab:=aF (bf (eC (.int 1)) (hName 1)) OP
theorem OO:∀ds G Q,v9 ds G Q->Gv (aT Q) (bz ["numbers","least","number"] ds) G:=by
 rintro ds G Q ⟨p,ns,rfl,hp,ok,hl,q⟩;refine⟨_,hp,?_⟩;refine kC (fun ds τ G'=>G'=G/\∃(zs:List Nat) (a:Nat) (x2:Option D),ds=zs.map nD/\τ=[some (.obj p),some (.int a),x2]/\(∀n∈zs,0<n/\n≤1000)/\0<a/\a*1000^zs.length≤1000^20/\uR zs a=uR ns 1) (fun _ _ _ h=>by rw[h.1];exact hp) ?_ ?_ _ _ _ ⟨rfl,ns,1,none,rfl,rfl,ok,by decide,?_,rfl⟩
 ·rintro d ds τ G' N ⟨rfl,zs,a,x2,e,rfl,okz,ha,hb,hr⟩ hN;cases zs with
  |nil=>cases e
  |cons n zs=>
   cases e;obtain⟨hs1,hs2⟩:=okz _ Ψ;have hg:0<bj a n:=jB _ ha;have hga:bj a n≤a:=fP ha (gp _ _);have ha20:a≤1000^20:=ae (jA _ (Nat.pow_pos (by decide))) hb;have hbig:∀k:Nat,k≤1000^20->gA (k:Int):=fun k hk=>Gz (eD hk (by decide));refine⟨a,n,rfl,⟨by lia,hbig _ (ae hga ha20)⟩,⟨hbig _ ha20,?_⟩,?_⟩
   ·show gA ((n:Int) / (bj a n:Nat));rw[←eo];exact hbig _ (ae (oK _ _) (ae hs2 (by decide)))
   have el:a*(n / bj a n)=aZ a n:=by
    unfold aZ;rw[m6 a (jL a n)]
   refine hN _ _ ⟨rfl,zs,aZ a n,some (nD n),rfl,?_,fun c hc=>okz c (Θ _ hc),lV ha (by lia),?_,hr⟩
   ·show [some (D.obj p),some (D.int ((a:Int)*((n:Int) / (bj a n:Nat)))),_]=_;rw[←eo,←dw,el]
   ·refine ae ?_ hb;rw[ax,hZ,eQ (1000^zs.length) 1000,←j7];refine iy _ ?_;have:aZ a n≤a*n:=fP (gg ha (by lia)) (lW (g0 _ _) (ki _ _));exact ae this (lu _ (by lia))
 ·rintro τ G' ⟨rfl,zs,a,x2,e,rfl,okz,ha,hb,hr⟩;have:zs=[]:=by cases zs with
   |nil=>rfl
   |cons z zs=>cases e
  subst this;have hr':a=uR ns 1:=hr;rw[←hr'] at q;exact eI q
 ·rw[sO];exact bM (by decide) hl
theorem ON(cs:List ω)(a:Nat):uR (cs.map fun c=>c.1.toNat) a=oR cs a:=by
 unfold uR oR;rw[List.foldl_map]
def uz:dF:=fun ds G Q=>∃cs:List ω,ds=[cT cs]/\tQ 1000 cs/\cs.length≤20/\Q (.int (cS cs:Nat)) G
def Gu:ab:=cg (aA v9 (μ (gV ["clock"] [] (mJ (θ 0)) (hName 0) (fL) (af eK (θ 0) (eC (.int 0)))) (Ξ)))
theorem filter_all{α:Type}(xs:List α):xs.filter (fun _=>true)=xs:=lA.mpr fun _ _=>rfl
theorem OM:∀ds G Q,uz ds G Q->Gu (aT Q) (bz ["clocks"] ds) G:=by
 rintro ds G Q ⟨cs,rfl,ok,hl,q⟩;refine⟨by show (cs.map cD).length≤aj;rw[ξ];exact cP (by lia),?_⟩;refine oV (fun τ=>∃x,τ=[x]) cD (fun _=>true) (fun c=>nD c.1.toNat) (G:=G) trivial cs [] _ ⟨none,rfl⟩ ?_ ?_
 ·rintro⟨s,r⟩ hm τ K1 K2 ⟨x,rfl⟩ h1 h2;refine⟨fun _=>⟨_,rfl,?_⟩,nofun⟩;have hs:0<s:=(ok _ hm).1.1;have:=h1 rfl [some (cD (s,r))] ⟨_,rfl⟩;show K2 [some (cD (s,r))] (.int s) G;rw[show D.int s=nD (s,r).1.toNat by show D.int s=D.int ((s.toNat:Nat):Int);rw[bw (by lia)]];exact this
 ·intro p G' n;rw[filter_all,dO,show cs.map (fun c:ω=>nD c.1.toNat)=(cs.map fun c:ω=>c.1.toNat).map nD by rw[bH];rfl] at n;refine⟨p,_,rfl,n.at_,fun k hk=>?_,by rw[ξ];exact hl,?_⟩
  ·obtain⟨c,hc,rfl⟩:=aP.mp hk;obtain⟨⟨a,_⟩,b⟩:=ok c hc;lia
  ·rw[ON];exact rf n.sub q
end My
namespace My
open PySem L2 L3
def v8:dF:=fun ds G Q=>∃n b:Nat,ds=[.int n,.int b]/\0<b/\b<10^70/\bj n b=1/\∀r:Int,0≤r->r<b->((b:Int)∣n*r-1)->Q (.int r) G
def OL:ab:=bf (θ 8) (hName 5)
def OK:ab:=aF (bf (θ 7) (hName 3)) OL
def OJ:ab:=aF (bf (θ 5) (hName 4)) OK
def N0:ab:=aF (bf (θ 3) (hName 2)) OJ
def NZ:ab:=aF (bf (af iQ (θ 4) (af fg (θ 6) (θ 5))) (hName 8)) N0
def NY:ab:=aF (bf (af iQ (θ 2) (af fg (θ 6) (θ 3))) (hName 7)) NZ
def NX:ab:=aF (bf (af kA (θ 2) (θ 3)) (hName 6)) NY
def NW:ab:=cg (af jo (θ 4) (θ 1))
def NV:ab:=aF (nI (bK (af (dm true) (θ 3) (eC (.int 0)))) (NX)) NW
def NU:ab:=aF (bf (eC (.int 1)) (hName 5)) NV
def NT:ab:=aF (bf (eC (.int 0)) (hName 4)) NU
def NS:ab:=aF (bf (af jo (θ 0) (θ 1)) (hName 3)) NT
def Gs:ab:=aF (bf (θ 1) (hName 2)) NS
theorem NR{hf lf q:Int}{lo hi le b:Nat}(hq:0≤q)(he:(le:Int)=hi-q*lo)(h:hf.natAbs*lo+lf.natAbs*hi≤b):lf.natAbs*le+(hf-q*lf).natAbs*lo≤b:=by
 obtain⟨k,rfl⟩:∃k:Nat,q=(k:Int):=⟨q.toNat,by lia⟩;have h1:(hf-(k:Int)*lf).natAbs≤hf.natAbs+k*lf.natAbs:=by
  have:=Int.natAbs_sub_le hf ((k:Int)*lf);rw[Int.natAbs_mul,jm] at this;exact this
 have h2:hi=le+k*lo:=by
  have:(hi:Int)=((le+k*lo:Nat):Int):=by
   rw[oO,dw];lia
  exact_mod_cast this
 have h3:=iy lo h1;rw[Nat.add_mul] at h3;have h4:lf.natAbs*hi=lf.natAbs*le+k*lf.natAbs*lo:=by
  rw[h2,Nat.mul_add,eQ k lf.natAbs,j7]
 lia
theorem NQ:∀ds G Q,v8 ds G Q->Gs (aT Q) (bz ["number","bound","high","low","high_factor","low_factor","turns","left","left_factor"] ds) G:=by
 rintro ds G Q ⟨n,b,rfl,hb,hz,hg,q⟩;have hb':(0:Int)<(b:Int):=by lia
 refine⟨hb',?_⟩;refine⟨fun m τ G'=>G'=G/\∃(hi:Nat) (hf lf:Int) (x6 x7 x8:Option D),τ=[some (.int n),some (.int b),some (.int hi),some (.int (m:Nat)),some (.int hf),some (.int lf),x6,x7,x8]/\m<hi/\hi≤b/\bj hi m=1/\((b:Int)∣hi-hf*n)/\((b:Int)∣m-lf*n)/\hf.natAbs*m+lf.natAbs*hi≤b,⟨n%b,rfl,b,0,1,none,none,none,?_,dU _ hb,Γ _,?_,?_,?_,?_⟩,?_⟩
 ·show [some (D.int n),some (D.int b),some (D.int b),some (D.int ((n:Int)%(b:Int))),_,_,_,_,_]=_;rw[←gw]
 ·rw[←hg,gq b,←lX,gq]
 ·rw[Int.zero_mul,Int.sub_zero];exact Int.dvd_refl _
 ·refine⟨-((n:Int) / b),?_⟩;have:=ck (n:Int) b;rw[gw,sR];lia
 ·simp
 rintro m τ G' ⟨rfl,hi,hf,lf,x6,x7,x8,rfl,h0,h1,hgm,d1,d2,hbd⟩;refine⟨_,_,rfl,rfl,aB _,fun h=>?_,fun h=>?_⟩
 ·have h2:(!((m:Int)==0))=true:=h;have hm:0<m:=by simp at h2;lia
  have hlf:lf.natAbs≤b:=ae (jA _ (by lia)) (ae (Nat.le_add_left _ _) hbd);have bigb:∀i:Int,i.natAbs≤b->gA i:=fun i hi'=>dX (by lia) (by lia);have hq:((hi:Int) / (m:Int))=((hi / m:Nat):Int):=(eo _ _).symm;have hqb:gA ((hi:Int) / (m:Int)):=by
   rw[hq];exact bigb _ (by rw[jm];exact ae (oK _ _) h1)
  have hmb:gA (m:Int):=bigb _ (by rw[jm];lia);have hle:((hi%m:Nat):Int)=hi-(hi:Int) / m*m:=by
   have:=ck (hi:Int) m;rw[gw,eV ((hi:Int) / m)];lia
  refine⟨⟨by lia,hmb⟩,⟨hqb,hmb⟩,⟨hqb,bigb _ hlf⟩,hi%m,dU _ hm,rfl,m,lf,hf-(hi:Int) / m*lf,some (.int ((hi:Int) / m)),some (.int ((hi%m:Nat):Int)),some (.int (hf-(hi:Int) / m*lf)),?_,dU _ hm,by lia,?_,d2,?_,?_⟩
  ·show [some (D.int n),some (D.int b),some (D.int m),some (D.int ((hi:Int)-(hi:Int) / m*m)),some (D.int lf),some (D.int (hf-(hi:Int) / m*lf)),some (D.int ((hi:Int) / m)),some (D.int ((hi:Int)-(hi:Int) / m*m)),some (D.int (hf-(hi:Int) / m*lf))]=_;rw[←hle]
  ·rw[←hgm,gq hi m,lX m hi,gq]
  ·rw[hle];have:=di d1 (fe d2 (Int.dvd_mul_left ((hi:Int) / m) _));rw[show (hi:Int)-(hi:Int) / m*m-(hf-(hi:Int) / m*lf)*n=hi-hf*n-(hi:Int) / m*(m-lf*n) by
    rw[sQ,gR,fc];lia]
   exact this
  ·exact NR (by rw[hq];exact cY _) hle hbd
 ·have h2:(!((m:Int)==0))=false:=h;have:m=0:=by simp at h2;lia
  subst this;rw[mv] at hgm;subst hgm;refine⟨hb',eI (q _ (cm _ (by lia)) (bY _ hb') ?_)⟩;have e:=ck hf b;have h3:(n:Int)*(hf%b)-1 = -((1:Nat)-hf*n)-b*(n*(hf / b)):=by
   have:hf%b=hf-b*(hf / b):=by lia
   rw[this,gR,←fc,←fc,eV (n:Int) hf,eV (n:Int) b];lia
  rw[h3];exact di (Int.dvd_neg.mpr d1) (fU _ _)
def Meets(a b:ω)(x:Int):Prop:=0≤x/\x<(aZ a.1.toNat b.1.toNat:Nat)/\a.1∣x-a.2/\b.1∣x-b.2
theorem Meets.one{a b:ω}{x y:Int}(ha:Valid a)(hb:Valid b)(hx:Meets a b x)(hy:Meets a b y):x=y:=by
 obtain⟨x1,x2,x3,x4⟩:=hx;obtain⟨y1,y2,y3,y4⟩:=hy;have d1:a.1∣x-y:=by
  have:=di x3 y3;rwa [show x-a.2-(y-a.2)=x-y by lia] at this
 have d2:b.1∣x-y:=by
  have:=di x4 y4;rwa [show x-b.2-(y-b.2)=x-y by lia] at this
 have e1:a.1.toNat∣(x-y).natAbs:=by
  have:=fJ.mpr d1;rwa [show a.1.natAbs=a.1.toNat by have:=ha.1;lia] at this
 have e2:b.1.toNat∣(x-y).natAbs:=by
  have:=fJ.mpr d2;rwa [show b.1.natAbs=b.1.toNat by have:=hb.1;lia] at this
 have e3:=lW e1 e2;have:(x-y).natAbs=0:=Nat.eq_zero_of_dvd_of_lt e3 (by lia);lia
def j3(a b:ω):Option ω:=((Δ (aZ a.1.toNat b.1.toNat)).find? fun x:Nat=>bU x a&&bU x b).map fun x:Nat=>(((aZ a.1.toNat b.1.toNat:Nat):Int),(x:Int))
theorem cK{c:ω}{n:Int}:bU n c=true↔c.1∣n-c.2:=by
 unfold bU;rw[beq_iff_eq];exact⟨Int.dvd_of_emod_eq_zero,jC⟩
theorem Gr{a b:ω}{x:Int}(ha:Valid a)(hb:Valid b)(h:Meets a b x):j3 a b=some (((aZ a.1.toNat b.1.toNat:Nat):Int),x):=by
 obtain⟨k,rfl⟩:∃k:Nat,x=(k:Int):=⟨x.toNat,by have:=h.1;lia⟩;unfold j3;cases e:(Δ (aZ a.1.toNat b.1.toNat)).find? fun x:Nat=>bU x a&&bU x b with
 |none=>
  have:=fD.mp e k (aH.mpr (by have:=h.2.1;lia));exact absurd (by rw[df,cK,cK];exact h.2.2) this
 |some y=>
  have h1:=List.find?_some e;have h2:=aH.mp (iT e);rw[df,cK,cK] at h1;have:((y:Nat):Int)=(k:Int):=Meets.one ha hb ⟨by lia,by lia,h1.1,h1.2⟩ h;show some ((((aZ a.1.toNat b.1.toNat:Nat):Int),((y:Nat):Int)):ω)=_;rw[this]
theorem NP{a b:ω}(h:∀x,¬Meets a b x):j3 a b=none:=by
 unfold j3;rw[fD.mpr]
 ·rfl
 ·intro x hx h1;rw[df,cK,cK] at h1;exact h x ⟨by lia,by have:=aH.mp hx;lia,h1.1,h1.2⟩
theorem NO{a b:ω}{m:ω}(h:j3 a b=some m):m.1=(aZ a.1.toNat b.1.toNat:Nat)/\Meets a b m.2:=by
 unfold j3 at h;cases e:(Δ (aZ a.1.toNat b.1.toNat)).find? fun x:Nat=>bU x a&&bU x b with
 |none=>rw[e] at h;cases h
 |some y=>
  rw[e] at h;have h1:=List.find?_some e;have h2:=aH.mp (iT e);rw[df,cK,cK] at h1;cases h;exact⟨rfl,cY _,Int.ofNat_lt.mpr h2,h1.1,h1.2⟩
def oD:Option ω->D
 |none=>.ak
 |some c=>cD c
def v7:dF:=fun ds G Q=>∃a b:ω,ds=[cD a,cD b]/\Valid a/\Valid b/\a.1<10^60/\b.1<10^60/\Q (oD (j3 a b)) G
def NN:ab:=cg (qr (μ (af fg (af eK (θ 0) (eC (.int 0))) (θ 4)) (μ (af cB (af eK (θ 0) (eC (.int 1))) (af fg (af eK (θ 0) (eC (.int 0))) (θ 5))) (Ξ))))
def NM:ab:=aF (bf (af jo (af fg (af kA (θ 3) (θ 2)) (aA v8 (μ (af kA (af eK (θ 0) (eC (.int 0))) (θ 2)) (μ (θ 4) (Ξ))))) (θ 4)) (hName 5)) NN
def NL:ab:=aF (bf (af kA (af eK (θ 1) (eC (.int 0))) (θ 2)) (hName 4)) NM
def NK:ab:=aF (gH (bK (af (dm true) (af jo (θ 3) (θ 2)) (eC (.int 0)))) (cg (eC .ak)) (dI)) NL
def NJ:ab:=aF (bf (af iQ (af eK (θ 1) (eC (.int 1))) (af eK (θ 0) (eC (.int 1)))) (hName 3)) NK
def Gq:ab:=aF (bf (aA uA (μ (af eK (θ 0) (eC (.int 0))) (μ (af eK (θ 1) (eC (.int 0))) (Ξ)))) (hName 2)) NJ
theorem NI{g p q:Nat}{ap t inv r1 r2:Int}(hg:0<g)(hp:0<p)(hq:0<q)(hpq:bj p q=1)(h1:0≤r1)(h2:r1<((g*p:Nat):Int))(e:r2-r1=g*ap)(hi:(q:Int)∣p*inv-1)(ht:t=ap*inv%q):
  Meets (((g*p:Nat):Int),r1) (((g*q:Nat):Int),r2) (r1+((g*p:Nat):Int)*t):=by
 have t1:0≤t:=by rw[ht];exact cm _ (by lia)
 have t2:t<q:=by rw[ht];exact bY _ (by lia)
 have hl:aZ (g*p) (g*q)=g*p*q:=by
  rw[Nat.lcm_mul_left,aZ,hpq,Nat.div_one,j7]
 refine⟨?_,?_,?_,?_⟩
 ·exact Int.add_nonneg h1 (Int.mul_nonneg (cY _) t1)
 ·show r1+((g*p:Nat):Int)*t<(aZ (((g*p:Nat):Int)).toNat (((g*q:Nat):Int)).toNat:Nat);rw[aU,aU,hl,dw (g*p) q];have:((g*p:Nat):Int)*t≤((g*p:Nat):Int)*((q:Int)-1):=ff (by lia) (cY _);rw[gR,iM] at this;lia
 ·show ((g*p:Nat):Int)∣r1+((g*p:Nat):Int)*t-r1;rw[show r1+((g*p:Nat):Int)*t-r1=((g*p:Nat):Int)*t by lia];exact fU _ _
 ·show ((g*q:Nat):Int)∣r1+((g*p:Nat):Int)*t-r2;have d:(q:Int)∣p*t-ap:=by
   have e1:=ck (ap*inv) q;have e2:(p:Int)*t-ap=ap*(p*inv-1)-q*(p*(ap*inv / q)):=by
    have:t=ap*inv-q*(ap*inv / q):=by lia
    rw[this,gR,gR,iM,←fc (p:Int) q,eV (p:Int) q,fc (q:Int),←fc ap (p:Int),eV ap (p:Int),fc (p:Int) ap];lia
   rw[e2];exact di (fe hi (Int.dvd_mul_left _ _)) (fU _ _)
  obtain⟨k,hk⟩:=d;refine⟨k,?_⟩;have:r1+((g*p:Nat):Int)*t-r2=g*(p*t-ap):=by
   rw[gR,←e,←fc,dw];lia
  rw[this,hk,dw,fc]
theorem NH:∀ds G Q,v7 ds G Q->Gq (aT Q) (bz ["one","other","shared","apart","many","turns"] ds) G:=by
 rintro ds G Q ⟨⟨s1,r1⟩,⟨s2,r2⟩,rfl,va,vb,z1,z2,q⟩;have v1:0<s1:=va.1;have v2:0<s2:=vb.1;have z1':s1<10^60:=z1;have z2':s2<10^60:=z2;obtain⟨m1,rfl⟩:∃n:Nat,s1=(n:Int):=⟨s1.toNat,by lia⟩;obtain⟨m2,rfl⟩:∃n:Nat,s2=(n:Int):=⟨s2.toNat,by lia⟩;have hg:0<bj m1 m2:=jB _ (by lia);have hgl:bj m1 m2≤m1:=fP (by lia) (gp _ _);have bg:gA ((bj m1 m2:Nat):Int):=dX (by lia) (by lia);refine⟨_,rfl,_,rfl,m1,m2,rfl,_,rfl,_,rfl,by show (0:Int)<(bj m1 m2:Nat);lia,_,_,rfl,rfl,aB _,fun h=>?_,fun h=>?_⟩
 ·have h':(!((r2-r1)%((bj m1 m2:Nat):Int)==0))=true:=h;have hne:(r2-r1)%((bj m1 m2:Nat):Int)≠0:=by simpa using h'
  rw[NP] at q
  ·exact eI q
  ·rintro x ⟨_,_,d1,d2⟩;have e1:((bj m1 m2:Nat):Int)∣x-r1:=fe (cC.mpr (gp _ _)) d1;have e2:((bj m1 m2:Nat):Int)∣x-r2:=fe (cC.mpr (jL _ _)) d2;have:=di e1 e2;rw[show x-r1-(x-r2)=r2-r1 by lia] at this;exact hne (jC this)
 ·have h':(!((r2-r1)%((bj m1 m2:Nat):Int)==0))=false:=h;have he:(r2-r1)%((bj m1 m2:Nat):Int)=0:=by simpa using h'
  obtain⟨p,hp⟩:=gp m1 m2;obtain⟨k,hk⟩:=jL m1 m2;have hpk:bj p k=1:=by
   have:=Nat.gcd_mul_left (bj m1 m2) p k;rw[←hp,←hk] at this;exact Nat.eq_of_mul_eq_mul_left hg (by rw[←this,Nat.mul_one])
  have hp0:0<p:=by
   rcases Nat.eq_zero_or_pos p with z|z
   ·rw[z,Nat.mul_zero] at hp;lia
   ·exact z
  have hk0:0<k:=by
   rcases Nat.eq_zero_or_pos k with z|z
   ·rw[z,Nat.mul_zero] at hk;lia
   ·exact z
  have hkm:k≤m2:=by rw[hk];exact pA _ hg
  have hpm:p≤m1:=by rw[hp];exact pA _ hg
  have dk:((m2:Int) / ((bj m1 m2:Nat):Int))=(k:Int):=by
   rw[←eo];congr 1;exact iJ hg hk
  have dp:((m1:Int) / ((bj m1 m2:Nat):Int))=(p:Int):=by
   rw[←eo];congr 1;exact iJ hg hp
  have c0:(0:Int)<((bj m1 m2:Nat):Int):=by lia
  have eap:r2-r1=((bj m1 m2:Nat):Int)*((r2-r1) / ((bj m1 m2:Nat):Int)):=by
   have:=ck (r2-r1) ((bj m1 m2:Nat):Int);lia
  have a1:0≤r1:=va.2.1;have a2:r1<(m1:Int):=va.2.2;have b1:0≤r2:=vb.2.1;have b2:r2<(m2:Int):=vb.2.2;have bap:gA ((r2-r1) / ((bj m1 m2:Nat):Int)):=by
   have h3:=Int.natAbs_ediv_le_natAbs (r2-r1) ((bj m1 m2:Nat):Int);exact dX (by lia) (by lia)
  refine⟨_,rfl,⟨c0,bg⟩,⟨c0,bg⟩,_,rfl,⟨c0,bg⟩,?_⟩;dsimp only;rw[dk,dp];refine⟨p,k,rfl,hk0,by lia,hpk,fun inv i1 i2 i3=>⟨⟨bap,dX (by lia) (by lia)⟩,by show (0:Int)<(k:Int);lia,?_⟩⟩;have t1:=cm ((r2-r1) / ((bj m1 m2:Nat):Int)*inv) (show (k:Int)≠0 by lia);have t2:=bY ((r2-r1) / ((bj m1 m2:Nat):Int)*inv) (show (0:Int)<(k:Int) by lia);refine⟨_,rfl,⟨dX (by lia) (by lia),dX (by lia) (by lia)⟩,_,rfl,_,rfl,⟨dX (by lia) (by lia),dX (by lia) (by lia)⟩,?_⟩;have M:=NI (g:=bj m1 m2) (p:=p) (q:=k) (inv:=inv) (r1:=r1) (r2:=r2) hg hp0 hk0 hpk a1 (by rw[←hp];exact a2) eap i3 rfl;rw[←hp,←hk] at M;rw[Gr va vb M] at q;have el:aZ m1 m2=m1*k:=by
   unfold aZ;rw[m6 _ (jL _ _)];congr 1;exact iJ hg hk
  have q':Q (.tup [.int ((aZ m1 m2:Nat):Int),.int (r1+(m1:Int)*((r2-r1) / ((bj m1 m2:Nat):Int)*inv%k))]) G:=q;rw[el,dw] at q';exact eI q'
end My
namespace My
open PySem L2 L3
def qy(c:ω)(y:Int):Prop:=c.1∣y-c.2
theorem NG{cs:List ω}:∀{a:Nat},a∣oR cs a:=by
 induction cs with
 |nil=>exact Nat.dvd_refl _
 |cons c cs ih=>intro a;exact mO (oh a c.1.toNat) (ih (a:=aZ a c.1.toNat))
theorem NF{cs:List ω}{c:ω}:∀{a:Nat},c∈cs->c.1.toNat∣oR cs a:=by
 induction cs with
 |nil=>exact fun h=>nomatch h
 |cons d cs ih=>
  intro a h;rcases az.mp h with rfl|h
  ·exact mO (m7 a c.1.toNat) (NG (cs:=cs) (a:=aZ a c.1.toNat))
  ·exact ih (a:=aZ a d.1.toNat) h
theorem ND{a b:ω}(ha:Valid a)(hb:Valid b)(h:j3 a b=none)(y:Int):¬(qy a y/\qy b y):=by
 rintro⟨h1,h2⟩;have hL:0<aZ a.1.toNat b.1.toNat:=lV (by have:=ha.1;lia) (by have:=hb.1;lia);have hL':(0:Int)<((aZ a.1.toNat b.1.toNat:Nat):Int):=by lia
 have ed:=ck y ((aZ a.1.toNat b.1.toNat:Nat):Int);have step:∀c:ω,Valid c->c.1.toNat∣aZ a.1.toNat b.1.toNat->qy c y->qy c (y%((aZ a.1.toNat b.1.toNat:Nat):Int)):=by
  intro c hc hd hr;have d:c.1∣((aZ a.1.toNat b.1.toNat:Nat):Int):=by
   have:=cC.mpr hd;rwa [bw (by have:=hc.1;lia)] at this
  show c.1∣y%((aZ a.1.toNat b.1.toNat:Nat):Int)-c.2;have e2:=di hr (fe d (fU _ (y / ((aZ a.1.toNat b.1.toNat:Nat):Int))));rwa [show y-c.2-((aZ a.1.toNat b.1.toNat:Nat):Int)*(y / ((aZ a.1.toNat b.1.toNat:Nat):Int))=y%((aZ a.1.toNat b.1.toNat:Nat):Int)-c.2 by lia] at e2
 have:=Gr ha hb ⟨cm y (by lia),bY y hL',step a ha (oh _ _) h1,step b hb (m7 _ _) h2⟩;rw[h] at this;cases this
theorem NC{a b m:ω}(ha:Valid a)(hb:Valid b)(h:j3 a b=some m):Valid m/\m.1.toNat=aZ a.1.toNat b.1.toNat/\∀y,(qy a y/\qy b y)↔qy m y:=by
 obtain⟨e1,x1,x2,x3,x4⟩:=NO h;have hm:m.1.toNat=aZ a.1.toNat b.1.toNat:=by rw[e1,aU]
 refine⟨⟨by lia,x1,by lia⟩,hm,fun y=>⟨fun⟨h1,h2⟩=>?_,fun h1=>⟨?_,?_⟩⟩⟩
 ·show m.1∣y-m.2;rw[e1];have d1:a.1.toNat∣(y-m.2).natAbs:=by
   have:=fJ.mpr (di h1 x3);rwa [show y-a.2-(m.2-a.2)=y-m.2 by lia,show a.1.natAbs=a.1.toNat by have:=ha.1;lia] at this
  have d2:b.1.toNat∣(y-m.2).natAbs:=by
   have:=fJ.mpr (di h2 x4);rwa [show y-b.2-(m.2-b.2)=y-m.2 by lia,show b.1.natAbs=b.1.toNat by have:=hb.1;lia] at this
  exact fJ.mp (by rw[jm];exact lW d1 d2)
 ·have d:a.1∣m.1:=by
   rw[e1];have:=cC.mpr (oh a.1.toNat b.1.toNat);rwa [bw (by have:=ha.1;lia)] at this
  have:=lZ (fe d h1) x3;rwa [show y-m.2+(m.2-a.2)=y-a.2 by lia] at this
 ·have d:b.1∣m.1:=by
   rw[e1];have:=cC.mpr (m7 a.1.toNat b.1.toNat);rwa [bw (by have:=hb.1;lia)] at this
  have:=lZ (fe d h1) x4;rwa [show y-m.2+(m.2-b.2)=y-b.2 by lia] at this
end My
namespace My
open PySem L2 L3
theorem Ej(n:Nat):kc 0 n=(Δ n).map nD:=by
 unfold kc;refine aM fun i _=>?_;show D.int (0+(i:Int))=D.int (i:Int);rw[kY]
end My
namespace My
open PySem L2 L3
theorem BD{α:Type}(f:α->Bool):∀xs:List α,qu (xs.map fun x=>D.bl (f x))=some (xs.map f)
 |[]=>rfl
 |x::xs=>by
  show ug _ (qu (xs.map fun x=>D.bl (f x)))=_;rw[BD f xs];rfl
end My
namespace My
open PySem L2 L3
theorem xW{α β:Type}(f:α->D)(g:β->D):∀(as:List α) (bs:List β),sT (as.map f) (bs.map g)=(as.zip bs).map fun p=>D.tup [f p.1,g p.2]
 |[],_=>rfl
 |a::as,[]=>rfl
 |a::as,b::bs=>by
  show D.tup [f a,g b]::sT (as.map f) (bs.map g)=D.tup [f a,g b]::(as.zip bs).map _;rw[xW f g as bs]
end My
namespace My
open PySem L2 L3
def parts(c:ω)(k:Nat):List ω:=(Δ k).map fun t:Nat=>(c.1*(k:Int),c.2+c.1*(t:Int))
theorem xV(c:ω)(k:Nat):(parts c k).length=k:=by simp[parts]
end My
namespace My
open PySem L2 L3
def qe:dF:=fun ds G Q=>∃a b:Int,ds=[.int a,.int b]/\a≤b/\Q .ak G
def Gn:ab:=gH (bK (af sX (θ 0) (θ 1))) (qY) (dI)
theorem NB:∀ds G Q,qe ds G Q->Gn (aT Q) (bz ["many","most"] ds) G:=by
 rintro ds G Q ⟨a,b,rfl,h,q⟩;refine⟨fun h'=>?_,fun _=>⟨G,Sub.refl _,q⟩⟩;have:a > b:=of_decide_eq_true h';lia
def nums(c:ω)(n:Nat):List Nat:=(Δ (kG c.2 n c.1)).map fun i=>c.2.toNat+i*c.1.toNat
theorem NA{c:ω}(h:Valid c)(n:Nat):iw c.2 c.1 (kG c.2 n c.1)=(nums c n).map nD:=by
 unfold iw nums;rw[bH];refine aM fun i _=>?_;show D.int _=D.int ((c.2.toNat+i*c.1.toNat:Nat):Int);congr 1;have:=h.1;have:=h.2.1;rw[oO,dw,bw (by lia),bw (by lia)]
theorem Hg{c:ω}(h:Valid c){n x:Nat}:x∈nums c n↔x<n/\rg x c=true:=by
 obtain⟨h1,h2,h3⟩:=h;unfold nums;rw[aP];obtain⟨s,hs⟩:∃s:Nat,c.1=(s:Int):=⟨c.1.toNat,by lia⟩;obtain⟨r,hr⟩:∃r:Nat,c.2=(r:Int):=⟨c.2.toNat,by lia⟩;have hrg:rg x c=true↔x%s=r:=by
  show ((x:Int)%c.1==c.2)=true↔_;rw[beq_iff_eq,hs,hr];constructor
  ·intro e;exact_mod_cast e
  ·intro e;exact_mod_cast e
 rw[hrg];have s0:0<s:=by lia
 have rs:r<s:=by lia
 have hc:∀i,i<kG c.2 n c.1↔r+i*s<n:=fun i=>by
  unfold kG;rw[hs,hr];split
  ·rename_i hlt;have hrn:r<n:=by lia
   rw[show ((n:Int)-(r:Int)-1) / (s:Int)+1=(((n-r-1) / s+1:Nat):Int) by
    rw[oO,eo,show ((n-r-1:Nat):Int)=(n:Int)-(r:Int)-1 by lia];rfl,aU,Nat.lt_succ_iff,Nat.le_div_iff_mul_le s0]
   lia
  ·rename_i hlt;have:¬r<n:=by lia
   constructor
   ·intro z;exact absurd z (Nat.not_lt_zero _)
   ·intro z;lia
 rw[hs,hr,aU,aU];constructor
 ·rintro⟨i,hi,rfl⟩;have hi:=aH.mp hi;rw[←hs,←hr] at hi;refine⟨(hc i).mp hi,?_⟩;rw[Nat.add_mul_mod_self_right,nY rs]
 ·rintro⟨hx,e⟩;have hd:s*(x / s)+x%s=x:=iS x s;refine⟨x / s,?_,?_⟩
  ·rw[aH,←hs,←hr,hc,eQ];lia
  ·rw[eQ];lia
theorem Od{c:ω}(h:Valid c)(n:Nat):(nums c n).Nodup:=by
 unfold nums;unfold List.Nodup;rw[eZ];refine List.Pairwise.imp ?_ (oj (n:=kG c.2 n c.1));intro a b hab e;have:=h.1;have h0:0<c.1.toNat:=by lia
 exact hab (Nat.eq_of_mul_eq_mul_right h0 (by lia))
def fX(cs:List ω)(x:Nat):Nat:=(cs.filter (rg x)).length
def gC(f:Nat->Nat)(n:Nat):List D:=(Δ n).map fun x=>nD (f x)
theorem Hf(f:Nat->Nat)(n:Nat):(gC f n).length=n:=by simp[gC]
theorem He{f:Nat->Nat}{n x:Nat}(h:x<n):jQ (gC f n) (x:Int)=some (nD (f x)):=wz (by
 unfold gC;rw[ag,dq h];rfl)
theorem Hd{f:Nat->Nat}{n x v:Nat}(h:x<n):(gC f n).set x (nD v)=gC (fun y=>if y=x then v else f y) n:=by
 unfold gC;apply g7;intro i;rw[List.getElem?_set];by_cases hi:i<n
 ·by_cases hx:x=i
  ·subst hx;simp[h]
  ·have:¬i=x:=fun z=>hx z.symm;simp[hi,hx,this]
 ·have:¬x=i:=fun z=>hi (by lia);simp[hi,this]
theorem BC{f g:Nat->Nat}{n:Nat}(h:∀x,x<n->f x=g x):gC f n=gC g n:=by
 unfold gC;refine aM fun x hx=>?_;rw[h x (aH.mp hx)]
theorem Hc{n x:Nat}(h:x<n):rD n (x:Int)=some x:=by
 unfold rD;simp[h]
def vZ:dF:=fun ds G Q=>∃(cs:List ω) (n:Nat),ds=[cT cs,.int n]/\tQ 1000 cs/\cs.length≤1000/\n≤10000/\∀p G',dg G p (.lst (gC (fX cs) n)) G'->Q (.obj p) G'
def Oc:ab:=vw (θ 2) (θ 5) (eC (.int 1)) (· + ·)
def Ob:ab:=jE (yE (μ (θ 4) (μ (θ 1) (μ (θ 3) (Ξ))))) (hName 5) (Oc)
def Oa:ab:=cg (θ 2)
def N9:ab:=aF (jE (mJ (θ 0)) (nM 2 (fF (hName 3) (fF (hName 4) (nN)))) (Ob)) Oa
def N8:ab:=aF (bf (af fg (fM (μ (eC (.int 0)) (Ξ))) (θ 1)) (hName 2)) N9
def GZ:ab:=aF (ky (aA qe (μ (θ 1) (μ (eC (.int 10000)) (Ξ))))) N8
theorem zeros(n:Nat):(av n [D.int 0]).flatten=gC (fun _=>0) n:=by
 unfold gC
 induction n with
 |zero=>rfl
 |succ n ih=>
  rw[List.replicate_succ',List.flatten_append,ih,kP,bB];rfl
theorem N7(c:ω)(cs:List ω)(x:Nat):fX (c::cs) x=(if rg x c=true then 1 else 0)+fX cs x:=by
 unfold fX;rw[dZ];split
 ·rw[ax];lia
 ·lia
theorem N6:∀ds G Q,vZ ds G Q->GZ (aT Q) (bz ["clocks","many","counts","step","rest","number"] ds) G:=by
 rintro ds G Q ⟨cs,n,rfl,ok,hl,hn,q⟩;refine⟨n,10000,rfl,by lia,?_⟩;intro p0 G0 n0;refine⟨_,n0.at_,⟨by lia,by lia⟩,?_,fun p G1 n1=>?_⟩
 ·rw[aU];exact ae (show 1*n≤10000 by lia) (by decide)
 rw[aU,zeros] at n1;have m1:dg G p (.lst (gC (fun _=>0) n)) G1:=⟨n0.sub.of_none n1.ak,n0.sub.trans n1.sub,n1.at_⟩;refine kC (fun ds τ G'=>∃(zs:List ω) (f:Nat->Nat) (x3 x4 x5:Option D),ds=zs.map cD/\τ=[some (cT cs),some (.int n),some (.obj p),x3,x4,x5]/\dg G p (.lst (gC f n)) G'/\(∀z∈zs,z∈cs)/\∀x,f x+fX zs x=fX cs x) (fun _ _ _ _=>trivial) ?_ ?_ _ _ _ ⟨cs,fun _=>0,none,none,none,rfl,rfl,m1,fun _ h=>h,fun x=>rR _⟩
 ·rintro d ds τ G' N ⟨zs,f,x3,x4,x5,e,rfl,m2,hm,hf⟩ hN;cases zs with
  |nil=>cases e
  |cons c zs=>
   cases e;obtain⟨hv,h1000⟩:=ok c (hm c Ψ);have v1:=hv.1;have v2:=hv.2.1;have v3:=hv.2.2;refine⟨rfl,⟨by lia,by lia,by lia,by lia,v1,by lia⟩,?_⟩;show j4 _ _ _ _ (iw c.2 c.1 (kG c.2 n c.1)) _ _;rw[NA hv];refine kC (fun ds τ G'=>∃(ms:List Nat) (g:Nat->Nat) (x5:Option D),ds=ms.map nD/\τ=[some (cT cs),some (.int n),some (.obj p),some (.int c.1),some (.int c.2),x5]/\dg G p (.lst (gC g n)) G'/\ms.Nodup/\(∀x∈ms,x<n/\rg x c=true)/\∀x,x<n->g x=f x+(if rg x c=true/\x∉ms then 1 else 0)) (fun _ _ _ _=>trivial) ?_ ?_ _ _ _ ⟨nums c n,f,x5,rfl,rfl,m2,Od hv n,fun x hx=>(Hg hv).mp hx,fun x hx=>?_⟩
   ·rintro d ds τ G2 N2 ⟨ms,g,x5,e,rfl,m3,nd,hr,hg⟩ hN2;cases ms with
    |nil=>cases e
    |cons x ms=>
     cases e;have nd':=dN.mp nd;obtain⟨hx,hrx⟩:=hr x Ψ;refine⟨_,_,m3.at_,He hx,?_⟩;refine⟨_,x,m3.at_,?_,?_⟩
     ·rw[Hf];exact Hc hx
     ·refine hN2 _ _ ⟨ms,fun y=>if y=x then g x+1 else g y,_,rfl,rfl,⟨m3.ak,Sub.sU m3.sub m3.ak,?_⟩,nd'.2,fun y hy=>hr y (Θ _ hy),fun y hy=>?_⟩
      ·rw[lr,←Hd hx];rfl
      ·have:=hg y hy;by_cases hyx:y=x
       ·subst hyx;rw[if_neg (fun z=>z.2 Ψ)] at this;rw[if_pos (⟨hrx,nd'.1⟩:rg y c=true/\y∉ms)];show (if y=y then g y+1 else g y)=f y+1;rw[if_pos rfl,this]
       ·show (if y=x then g x+1 else g y)=_;rw[if_neg hyx,this];have:y∉x::ms↔y∉ms:=by simp[hyx]
        simp only[this]
   ·rintro τ G2 ⟨ms,g,x5,e,rfl,m3,nd,hr,hg⟩;have e0:ms=[]:=by cases ms with
     |nil=>rfl
     |cons z zs=>cases e
    subst e0;refine hN _ _ ⟨zs,fun x=>f x+(if rg x c=true then 1 else 0),_,_,_,rfl,rfl,?_,fun z hz=>hm z (Θ _ hz),fun x=>?_⟩
    ·rw[BC (g:=g) fun x hx=>?_]
     ·exact m3
     ·rw[hg x hx];simp
    ·have:=hf x;rw[N7] at this;show f x+(if rg x c=true then 1 else 0)+fX zs x=fX cs x;lia
   ·rw[if_neg]
    ·rfl
    ·rintro⟨z1,z2⟩;exact z2 ((Hg hv).mpr ⟨hx,z1⟩)
 ·rintro τ G' ⟨zs,f,x3,x4,x5,e,rfl,m2,hm,hf⟩;have e0:zs=[]:=by cases zs with
   |nil=>rfl
   |cons z zs=>cases e
  subst e0;refine eI (q p G' ?_);rw[BC (g:=f) fun x _=>by have:=hf x;have e:fX [] x=0:=rfl;lia];exact m2
end My
namespace My
open PySem L2 L3
def Xx(cs:List ω):Prop:=tQ 1000 cs/\cs.length≤12/\cS cs≤10000
def se(cs:List ω)(k:Nat):Nat:=((Δ (cS cs)).filter fun x=>fX cs x==k).length
def vY:dF:=fun ds G Q=>∃cs:List ω,ds=[cT cs]/\Xx cs/\∀p G',dg G p (.lst (gC (se cs) (cs.length+1))) G'->Q (.obj p) G'
def N5:ab:=vw (θ 1) (θ 2) (eC (.int 1)) (· + ·)
def N4:ab:=cg (θ 1)
def Nn:ab:=aF (jE (mJ (aA vZ (μ (θ 0) (μ (aA uz (μ (θ 0) (Ξ))) (Ξ))))) (hName 2) (N5)) N4
def GY:ab:=aF (bf (af fg (fM (μ (eC (.int 0)) (Ξ))) (af cB (dA kE (μ (θ 0) (Ξ))) (eC (.int 1)))) (hName 1)) Nn
theorem Nm(cs:List ω)(x:Nat):fX cs x≤cs.length:=ib _ _
theorem Nl:∀ds G Q,vY ds G Q->GY (aT Q) (bz ["clocks","tally","many"] ds) G:=by
 rintro ds G Q ⟨cs,rfl,⟨ok,hl,hn⟩,q⟩;have hlm:(cs.map cD).length=cs.length:=ξ ..;intro p0 G0 n0;refine⟨_,n0.at_,⟨by rw[hlm];lia,by rw[hlm];lia⟩,?_,fun p G1 n1=>?_⟩
 ·rw[hlm];exact cP (by show 1*((cs.length:Int)+1).toNat≤1000;lia)
 rw[hlm,show ((cs.length:Int)+1).toNat=cs.length+1 by lia,zeros] at n1;have m1:dg G p (.lst (gC (fun _=>0) (cs.length+1))) G1:=⟨n0.sub.of_none n1.ak,n0.sub.trans n1.sub,n1.at_⟩;refine⟨cs,rfl,ok,by lia,cs,cS cs,rfl,ok,by lia,hn,fun p2 G2 n2=>⟨_,n2.at_,?_⟩⟩;have hne:p2≠p:=fun z=>by
  have:=n2.ak;rw[z,m1.at_] at this;cases this
 refine kC (fun ds τ G'=>∃(xs:List Nat) (f:Nat->Nat) (x2:Option D),ds=xs.map (fun x=>nD (fX cs x))/\τ=[some (cT cs),some (.obj p),x2]/\dg G p (.lst (gC f (cs.length+1))) G'/\G' p2=some (.lst (gC (fX cs) (cS cs)))/\∀k,f k+(xs.filter fun x=>fX cs x==k).length=se cs k) (fun _ _ _ h=>by
  obtain⟨_,_,_,_,_,_,h,_⟩:=h;exact h) ?_ ?_ _ _ _ ⟨Δ (cS cs),fun _=>0,none,rfl,rfl,⟨m1.ak,m1.sub.trans n2.sub,n2.sub _ _ m1.at_⟩,n2.at_,fun k=>rR _⟩
 ·rintro d ds τ G' N ⟨xs,f,x2,e,rfl,m2,e2,hf⟩ hN;cases xs with
  |nil=>cases e
  |cons x xs=>
   cases e;have hx:fX cs x<cs.length+1:=Nat.lt_succ_of_le (Nm cs x);refine⟨_,_,m2.at_,He hx,_,fX cs x,m2.at_,by rw[Hf];exact Hc hx,hN _ _ ⟨xs,fun y=>if y=fX cs x then f (fX cs x)+1 else f y,_,rfl,rfl,⟨m2.ak,Sub.sU m2.sub m2.ak,?_⟩,?_,fun k=>?_⟩⟩
   ·rw[lr,←Hd hx];rfl
   ·rw[mi hne];exact e2
   ·have:=hf k;rw[dZ] at this;show (if k=fX cs x then f (fX cs x)+1 else f k)+_=_;by_cases hk:k=fX cs x
    ·rw[if_pos (show (fX cs x==k)=true by rw[hk,beq_self_eq_true]),ax] at this;rw[if_pos hk,←hk];lia
    ·rw[if_neg (show ¬(fX cs x==k)=true from fun z=>hk (by rw[beq_iff_eq] at z;exact z.symm))] at this;rw[if_neg hk];exact this
 ·rintro τ G' ⟨xs,f,x2,e,rfl,m2,e2,hf⟩;have e0:xs=[]:=by cases xs with
   |nil=>rfl
   |cons z zs=>cases e
  subst e0;refine eI (q p G' ?_);rw[BC (g:=f) fun k _=>by have:=hf k;simpa using this.symm];exact m2
end My
namespace My
open PySem L2 L3
abbrev WK:=List (ω×List Int)
def ft(kvs:WK)(c:ω)(y:List Int):List Int:=((kvs.find? fun q=>decide (q.1=c)).map (·.2)).getD y
def oQ(kvs:WK)(c:ω)(v:List Int):WK:=if c∈kvs.map (·.1) then kvs.map (fun q=>if q.1=c then (q.1,v) else q) else kvs++[(c,v)]
def lC(a b:List Int):List Int:=rS (· + ·) a b
def jD(a b:List Int):List Int:=rS (· - ·) a b
def addW(kvs:WK)(c:ω)(w:List Int):WK:=oQ kvs c (lC (ft kvs c (av w.length 0)) w)
def sW(kvs:WK)(x:Int)(j:Nat):Int:=(kvs.map fun q=>if bU x q.1=true then q.2.getD j 0 else 0).sum
def l1(w:List Int):Nat:=(w.map Int.natAbs).sum
def aW(kvs:WK):Nat:=(kvs.map fun q=>l1 q.2).sum
structure sI(n:Nat)(B:Int)(kvs:WK):Prop where
 len:∀q∈kvs,q.2.length=n
 val:∀q∈kvs,Valid q.1/\q.1.1≤B
 nd:(kvs.map (·.1)).Nodup
theorem Nk{a b:List Int}(h:a.length=b.length)(j:Nat):(lC a b).getD j 0=a.getD j 0+b.getD j 0:=by
 unfold lC;rw[bp,bp,bp,ko];by_cases hj:j<a.length
 ·rw[ar hj,ar (by lia)];rfl
 ·rw[cR (by lia),cR (by lia)];rfl
theorem Nj{a b:List Int}(h:a.length=b.length)(j:Nat):(jD a b).getD j 0=a.getD j 0-b.getD j 0:=by
 unfold jD;rw[bp,bp,bp,ko];by_cases hj:j<a.length
 ·rw[ar hj,ar (by lia)];rfl
 ·rw[cR (by lia),cR (by lia)];rfl
theorem GX{kvs:WK}{n:Nat}(h:∀q∈kvs,q.2.length=n)(c:ω){y:List Int}(hy:y.length=n):(ft kvs c y).length=n:=by
 unfold ft;cases e:kvs.find? fun q=>decide (q.1=c) with
 |none=>exact hy
 |some q=>exact h q (iT e)
theorem GW{kvs:WK}{c:ω}(h:c∉kvs.map (·.1))(y:List Int):ft kvs c y=y:=by
 unfold ft;rw[fD.mpr]
 ·rfl
 ·intro q hq e;exact h (aP.mpr ⟨q,hq,of_decide_eq_true e⟩)
theorem Nh(n j:Nat):(av n (0:Int)).getD j 0=0:=by
 rw[bp,gD];split<;>rfl
theorem GV{kvs:WK}{c:ω}{v:List Int}(h:c∉kvs.map (·.1)):kvs.map (fun q=>if q.1=c then (q.1,v) else q)=kvs:=by
 refine (aM fun q hq=>?_).trans (List.map_id _);rw[if_neg fun e=>h (aP.mpr ⟨q,hq,e⟩)];rfl
theorem vX(q:ω×List Int)(kvs:WK)(x:Int)(j:Nat):sW (q::kvs) x j=(if bU x q.1=true then q.2.getD j 0 else 0)+sW kvs x j:=by
 unfold sW;rw[aq,bS]
theorem Ng(kvs:WK)(q:ω×List Int)(x:Int)(j:Nat):sW (kvs++[q]) x j=sW kvs x j+if bU x q.1=true then q.2.getD j 0 else 0:=by
 unfold sW;rw[bB,eR];simp
theorem FY{c:ω}{v y:List Int}(x:Int)(j:Nat):∀{kvs:WK},(kvs.map (·.1)).Nodup->c∈kvs.map (·.1) ->
  sW (kvs.map fun q=>if q.1=c then (q.1,v) else q) x j=sW kvs x j+if bU x c=true then v.getD j 0-(ft kvs c y).getD j 0 else 0
 |[],_,h=>by cases h
 |q::kvs,nd,h=>by
  rw[aq] at nd;obtain⟨n1,n2⟩:=dN.mp nd;rw[aq,vX,vX];by_cases e:q.1=c
  ·subst e;have el:ft (q::kvs) q.1 y=q.2:=by
    unfold ft;rw[eU,decide_eq_true rfl];rfl
   rw[GV n1,if_pos rfl,el];by_cases hr:bU x q.1=true
   ·simp only[hr,if_true];lia
   ·simp only[hr,if_false,cZ];lia
  ·have hc:c∈kvs.map (·.1):=by
    rcases az.mp h with z|z
    ·exact absurd z.symm e
    ·exact z
   have el:ft (q::kvs) c y=ft kvs c y:=by
    unfold ft;rw[eU,decide_eq_false e]
   rw[if_neg e,FY (y:=y) x j n2 hc,el];lia
theorem Cc{n:Nat}{B:Int}{kvs:WK}{c:ω}{w:List Int}(h:sI n B kvs)(hw:w.length=n)(x:Int)(j:Nat):sW (addW kvs c w) x j=sW kvs x j+if bU x c=true then w.getD j 0 else 0:=by
 have hl:=GX h.len c (y:=av w.length 0) (by rw[fI];exact hw);have hz:=Nk (a:=ft kvs c (av w.length 0)) (b:=w) (by rw[hl,hw]) j;unfold addW oQ;by_cases hc:c∈kvs.map (·.1)
 ·rw[if_pos hc,FY (y:=av w.length 0) x j h.nd hc,hz];by_cases hr:bU x c=true
  ·simp only[hr,if_true];lia
  ·simp only[hr,if_false,cZ]
 ·rw[if_neg hc,Ng,hz,GW hc,Nh];by_cases hr:bU x c=true
  ·simp only[hr,if_true];lia
  ·simp only[hr,if_false,cZ]
theorem Nf(kvs:WK)(c:ω)(v:List Int):(oQ kvs c v).map (·.1)=if c∈kvs.map (·.1) then kvs.map (·.1) else kvs.map (·.1)++[c]:=by
 unfold oQ;by_cases hc:c∈kvs.map (·.1)
 ·rw[if_pos hc,if_pos hc,bH];refine aM fun q _=>?_;show (if q.1=c then (q.1,v) else q).1=q.1;split<;>rfl
 ·rw[if_neg hc,if_neg hc,bB];rfl
theorem FX{kvs:WK}{c:ω}{v:List Int}{q:ω×List Int}(h:q∈oQ kvs c v):q∈kvs∨q=(c,v):=by
 unfold oQ at h;split at h
 ·obtain⟨p,hp,e⟩:=aP.mp h;by_cases z:p.1=c
  ·rw[if_pos z,z] at e;exact .inr e.symm
  ·rw[if_neg z] at e;exact .inl (e▸hp)
 ·rcases cI.mp h with h|h
  ·exact .inl h
  ·exact .inr (cH.mp h)
theorem sI.add{n:Nat}{B:Int}{kvs:WK}{c:ω}{w:List Int}(h:sI n B kvs)(hw:w.length=n)(hc:Valid c/\c.1≤B):sI n B (addW kvs c w):=by
 have hl:=GX h.len c (y:=av w.length 0) (by rw[fI];exact hw);refine⟨fun q hq=>?_,fun q hq=>?_,?_⟩
 ·rcases FX hq with z|z
  ·exact h.len q z
  ·rw[z];show (lC _ w).length=n;unfold lC;rw[ly,hl,hw,nZ]
 ·rcases FX hq with z|z
  ·exact h.val q z
  ·rw[z];exact hc
 ·unfold addW;rw[Nf];by_cases hm:c∈kvs.map (·.1)
  ·rw[if_pos hm];exact h.nd
  ·rw[if_neg hm,List.nodup_append];refine⟨h.nd,by simp,fun a ha b hb e=>?_⟩;rw[cH.mp hb] at e;exact hm (e▸ha)
theorem Cb(kvs:WK)(c:ω)(w:List Int):(addW kvs c w).length≤kvs.length+1:=by
 unfold addW oQ;split
 ·rw[ξ];lia
 ·rw[aa];exact Γ _
theorem Ca:∀a b:List Int,l1 (lC a b)≤l1 a+l1 b
 |[],b=>by simp[l1,lC]
 |a::as,[]=>by simp[l1,lC]
 |a::as,b::bs=>by
  have ih:=Ca as bs;have:(a+b).natAbs≤a.natAbs+b.natAbs:=Int.natAbs_add_le a b;simp only[l1,lC,pB,aq,bS] at ih ⊢;lia
theorem FW:∀a b:List Int,l1 (jD a b)≤l1 a+l1 b
 |[],b=>by simp[l1,jD]
 |a::as,[]=>by simp[l1,jD]
 |a::as,b::bs=>by
  have ih:=FW as bs;have:(a-b).natAbs≤a.natAbs+b.natAbs:=by lia
  simp only[l1,jD,pB,aq,bS] at ih ⊢;lia
theorem Nd(n:Nat):l1 (av n 0)=0:=by
 induction n with
 |zero=>rfl
 |succ n ih=>
  simp only[l1,cM,aq,bS] at ih ⊢;lia
theorem Nc(w:List Int)(j:Nat):(w.getD j 0).natAbs≤l1 w:=by
 induction w generalizing j with
 |nil=>simp[l1]
 |cons a w ih=>
  cases j with
  |zero=>
   simp only[l1,aq,bS,qR];lia
  |succ j=>
   have:=ih j;simp only[l1,aq,bS,qS] at this ⊢;lia
theorem Nb{kvs:WK}{q:ω×List Int}(h:q∈kvs):l1 q.2≤aW kvs:=by
 induction kvs with
 |nil=>cases h
 |cons p kvs ih=>
  unfold aW;rw[aq,bS];rcases az.mp h with e|e
  ·rw[e];exact fk _ _
  ·have:=ih e;unfold aW at this;lia
theorem FV{c:ω}{v y:List Int}{m:Nat}:∀{kvs:WK},(kvs.map (·.1)).Nodup->c∈kvs.map (·.1)->l1 v≤l1 (ft kvs c y)+m->aW (kvs.map fun q=>if q.1=c then (q.1,v) else q)≤aW kvs+m
 |[],_,h,_=>by cases h
 |q::kvs,nd,h,hv=>by
  rw[aq] at nd;obtain⟨n1,n2⟩:=dN.mp nd;by_cases e:q.1=c
  ·subst e;have el:ft (q::kvs) q.1 y=q.2:=by
    unfold ft;rw[eU,decide_eq_true rfl];rfl
   rw[el] at hv;rw[aq,GV n1,if_pos rfl];unfold aW;rw[aq,bS,aq,bS];show l1 v+_≤l1 q.2+_+m;lia
  ·have hc:c∈kvs.map (·.1):=by
    rcases az.mp h with z|z
    ·exact absurd z.symm e
    ·exact z
   have el:ft (q::kvs) c y=ft kvs c y:=by
    unfold ft;rw[eU,decide_eq_false e]
   rw[el] at hv;have ih:=FV n2 hc hv;rw[aq,if_neg e];unfold aW at ih ⊢;rw[aq,bS,aq,bS];lia
theorem FU{n:Nat}{B:Int}{kvs:WK}{c:ω}{w:List Int}(h:sI n B kvs):aW (addW kvs c w)≤aW kvs+l1 w:=by
 unfold addW oQ;by_cases hc:c∈kvs.map (·.1)
 ·rw[if_pos hc];exact FV (y:=av w.length 0) h.nd hc (Ca _ _)
 ·rw[if_neg hc,GW hc];unfold aW;rw[bB,eR];have:=Ca (av w.length 0) w;rw[Nd] at this;simp only[aq,om,bS,List.sum_nil];lia
def WX(g:WK)(q:ω×List Int):Option ω->WK
 |none=>g
 |some b=>addW g b (jD (0::q.2) (q.2++[0]))
def gF(c:ω)(g:WK)(q:ω×List Int):WK:=WX (addW g q.1 (q.2++[0])) q (j3 q.1 c)
def vB(c:ω)(kvs:WK):WK:=kvs.foldl (gF c) []
def fQ(cs:List ω):WK:=cs.foldl (fun kvs c=>vB c kvs) [((1,0),[1])]
theorem FT(w:List Int)(j:Nat):(w++[(0:Int)]).getD j 0=w.getD j 0:=by
 rw[bp,bp,List.getElem?_append];by_cases h:j<w.length
 ·rw[if_pos h]
 ·rw[if_neg h,show w[j]?=none from cR (by lia)];cases e:[(0:Int)][j-w.length]? with
  |none=>rfl
  |some v=>
   have:=bN e;rw[cH.mp this];rfl
theorem FR(w:List Int):(jD (0::w) (w++[0])).length=w.length+1:=by
 unfold jD;rw[ly,aa];simp
theorem Na{a c:ω}{B:Int}(ha:Valid a)(hc:Valid c)(h1:a.1≤B)(h2:c.1≤1000):((aZ a.1.toNat c.1.toNat:Nat):Int)≤B*1000:=by
 have hd:aZ a.1.toNat c.1.toNat≤a.1.toNat*c.1.toNat:=fP (gg (by have:=ha.1;lia) (by have:=hc.1;lia)) (Nat.lcm_dvd_mul _ _);have h3:((aZ a.1.toNat c.1.toNat:Nat):Int)≤((a.1.toNat*c.1.toNat:Nat):Int):=rZ.mpr hd;rw[dw,bw (by have:=ha.1;lia),bw (by have:=hc.1;lia)] at h3;have p0:=ha.1;have p1:=hc.1;exact ie h3 (ie (ff h2 (by lia)) (kZ h1 (by decide)))
theorem M9{n:Nat}{B:Int}{c:ω}{g:WK}{q:ω×List Int}(hc:Valid c/\c.1≤1000)(h:sI (n+1) (B*1000) g)(hq:q.2.length=n)(hv:Valid q.1/\q.1.1≤B)(hB:0≤B):
  sI (n+1) (B*1000) (gF c g q)/\(∀x j,sW (gF c g q) x j=sW g x j+if bU x q.1=true then (if bU x c=true then (0::q.2).getD j 0 else q.2.getD j 0) else 0)/\aW (gF c g q)≤aW g+3*l1 q.2/\(gF c g q).length≤g.length+2:=by
 have l2:(q.2++[(0:Int)]).length=n+1:=by rw[aa,hq];rfl
 have w1:=h.add l2 ⟨hv.1,ie hv.2 (by lia)⟩;have la:l1 (q.2++[(0:Int)])=l1 q.2:=by
  unfold l1;rw[bB,eR];simp
 have lb:l1 (0::q.2)=l1 q.2:=by
  unfold l1;rw[aq,bS];simp
 have a1:=FU (c:=q.1) (w:=q.2++[0]) h;have n1:=Cb g q.1 (q.2++[0]);rw[la] at a1;unfold gF;cases e:j3 q.1 c with
 |none=>
  refine⟨w1,fun x j=>?_,by show aW (addW g q.1 (q.2++[0]))≤_;lia,by show (addW g q.1 (q.2++[0])).length≤_;lia⟩;show sW (addW g q.1 (q.2++[0])) x j=_;rw[Cc h l2,FT];by_cases hr:bU x q.1=true
  ·have:¬bU x c=true:=fun z=>ND hv.1 hc.1 e x ⟨cK.mp hr,cK.mp z⟩;rw[if_pos hr,if_pos hr,if_neg this]
  ·rw[if_neg hr,if_neg hr]
 |some b=>
  obtain⟨vb,eb,hb⟩:=NC hv.1 hc.1 e;have lz:(jD (0::q.2) (q.2++[0])).length=n+1:=by rw[FR,hq]
  have bb:b.1≤B*1000:=by
   have:=Na hv.1 hc.1 hv.2 hc.2;rw[←eb,bw (by have:=vb.1;lia)] at this;exact this
  have a2:=FU (c:=b) (w:=jD (0::q.2) (q.2++[0])) w1;have a3:=FW (0::q.2) (q.2++[0]);have n2:=Cb (addW g q.1 (q.2++[0])) b (jD (0::q.2) (q.2++[0]));rw[la,lb] at a3;refine⟨w1.add lz ⟨vb,bb⟩,fun x j=>?_,by show aW (addW (addW g q.1 (q.2++[0])) b _)≤_;lia,by show (addW (addW g q.1 (q.2++[0])) b _).length≤_;lia⟩;show sW (addW (addW g q.1 (q.2++[0])) b (jD (0::q.2) (q.2++[0]))) x j=_;rw[Cc w1 lz,Cc h l2,Nj (by rw[aa];rfl),FT];have hbr:bU x b=true↔bU x q.1=true/\bU x c=true:=by
   rw[cK,cK,cK];exact (hb x).symm
  by_cases hr:bU x q.1=true
  ·by_cases hx:bU x c=true
   ·rw[if_pos hr,if_pos (hbr.mpr ⟨hr,hx⟩),if_pos hr,if_pos hx];lia
   ·rw[if_pos hr,if_neg (fun z=>hx (hbr.mp z).2),if_pos hr,if_neg hx];lia
  ·rw[if_neg hr,if_neg (fun z=>hr (hbr.mp z).1),if_neg hr];lia
theorem B9{n:Nat}{B:Int}{c:ω}(hc:Valid c/\c.1≤1000)(hB:0≤B):∀{kvs:WK} {g:WK},(∀q∈kvs,q.2.length=n)->(∀q∈kvs,Valid q.1/\q.1.1≤B)->sI (n+1) (B*1000) g ->
  sI (n+1) (B*1000) (kvs.foldl (gF c) g)/\(∀x j,sW (kvs.foldl (gF c) g) x j=sW g x j+if bU x c=true then (if j=0 then 0 else sW kvs x (j-1)) else sW kvs x j)/\aW (kvs.foldl (gF c) g)≤aW g+3*aW kvs/\(kvs.foldl (gF c) g).length≤g.length+2*kvs.length
 |[],g,_,_,hg=>⟨hg,fun x j=>by
   show sW g x j=sW g x j+if bU x c=true then (if j=0 then 0 else (0:Int)) else 0;simp,Γ _,Γ _⟩
 |q::kvs,g,hl,hv,hg=>by
  obtain⟨s1,s2,s3,s4⟩:=M9 hc hg (hl q Ψ) (hv q Ψ) hB;obtain⟨t1,t2,t3,t4⟩:=B9 hc hB (fun p hp=>hl p (Θ _ hp)) (fun p hp=>hv p (Θ _ hp)) s1;rw[oN];refine⟨t1,fun x j=>?_,?_,?_⟩
  ·rw[t2,s2,vX,vX];cases j with
   |zero=>
    by_cases hx:bU x c=true
    ·simp only[hx,if_true,qR];split<;>lia
    ·simp only[hx,if_false,cZ];lia
   |succ j=>
    by_cases hx:bU x c=true
    ·simp only[hx,if_true,qS,mw,Nat.succ_ne_zero,if_false,Nat.add_eq_zero,Nat.one_ne_zero,and_false];lia
    ·simp only[hx,if_false,cZ];lia
  ·unfold aW at t3 s3 ⊢;rw[aq,bS];lia
  ·rw[ax];lia
structure nO(cs:List ω)(kvs:WK):Prop where
 ok:sI (cs.length+1) (1000^cs.length) kvs
 sum:∀x j,sW kvs x j=if (cs.filter (bU x)).length=j then 1 else 0
 abs:aW kvs≤3^cs.length
 many:kvs.length≤2^cs.length
theorem M8:nO [] [((1,0),[1])]:=by
 refine⟨⟨fun q hq=>?_,fun q hq=>?_,by simp⟩,fun x j=>?_,by decide,by decide⟩
 ·rw[cH.mp hq];rfl
 ·rw[cH.mp hq];exact⟨⟨by decide,by decide,by decide⟩,by decide⟩
 ·have hr:bU x ((1,0):ω)=true:=cK.mpr (Int.one_dvd _);show sW [(((1,0):ω),[(1:Int)])] x j=if 0=j then 1 else 0;rw[vX,if_pos hr];cases j with
  |zero=>rfl
  |succ j=>simp[sW]
theorem M7{cs:List ω}{c:ω}{kvs:WK}(hc:Valid c/\c.1≤1000)(h:nO cs kvs):nO (cs++[c]) (vB c kvs):=by
 have hB:(0:Int)≤1000^cs.length:=Int.pow_nonneg (by decide);obtain⟨t1,t2,t3,t4⟩:=B9 hc hB h.ok.len h.ok.val (g:=[]) ⟨nofun,nofun,jv⟩;have hl:(cs++[c]).length=cs.length+1:=aa;refine⟨?_,fun x j=>?_,?_,?_⟩
 ·rw[hl,rY];exact t1
 ·show sW (kvs.foldl (gF c) []) x j=_;rw[t2,cW];have e0:sW [] x j=0:=rfl;rw[e0,kY];by_cases hx:bU x c=true
  ·have e1:[c].filter (bU x)=[c]:=by rw[dZ,if_pos hx];rfl
   rw[if_pos hx,e1,aa];cases j with
   |zero=>rfl
   |succ j=>
    rw[if_neg (Nat.succ_ne_zero j),mw,h.sum];by_cases e:(cs.filter (bU x)).length=j
    ·rw[if_pos e,if_pos (by rw[e];rfl)]
    ·rw[if_neg e,if_neg (fun z=>e (by have z:(cs.filter (bU x)).length+1=j+1:=z;lia))]
  ·have e1:[c].filter (bU x)=[]:=by rw[dZ,if_neg hx];rfl
   rw[if_neg hx,e1,cU,h.sum]
 ·show aW (kvs.foldl (gF c) [])≤_;rw[hl,hZ];have e0:aW []=0:=rfl;have:=h.abs;lia
 ·show (kvs.foldl (gF c) []).length≤_;rw[hl,hZ];have:=h.many;have e0:([]:WK).length=0:=rfl;lia
theorem FQ:∀{ds cs:List ω} {kvs:WK},(∀c∈ds,Valid c/\c.1≤1000)->nO cs kvs->nO (cs++ds) (ds.foldl (fun kvs c=>vB c kvs) kvs)
 |[],cs,kvs,_,h=>by
  rw[cU];exact h
 |d::ds,cs,kvs,hc,h=>by
  have:=FQ (ds:=ds) (fun c hm=>hc c (Θ _ hm)) (M7 (hc d Ψ) h);rw[e7] at this;exact this
theorem B8{cs:List ω}(h:∀c∈cs,Valid c/\c.1≤1000):nO cs (fQ cs):=FQ (cs:=[]) h M8
def iE(c:ω)(b:Int):Int:=(b-c.2-1) / c.1+1
theorem LC{c:ω}(h:Valid c):iE c 0=0:=by
 have h1:=h.1;have h2:=h.2.1;have h3:=h.2.2;have:(0-c.2-1) / c.1 = -1:=by
  refine jZ h1 |>.mpr ⟨?_,?_⟩<;>lia
 unfold iE;rw[this];rfl
theorem M6{c:ω}(h:Valid c)(b:Int):iE c (b+1)=iE c b+if bU b c=true then 1 else 0:=by
 have h1:=h.1;unfold iE;rw[show b+1-c.2-1=b-c.2 by lia];by_cases hr:bU b c=true
 ·rw[if_pos hr];obtain⟨k,hk⟩:=cK.mp hr;have e1:(b-c.2) / c.1=k:=by rw[hk,Int.mul_ediv_cancel_left _ (by lia)]
  have e2:(b-c.2-1) / c.1=k-1:=by
   refine jZ h1 |>.mpr ⟨?_,?_⟩
   ·rw[sQ,eV k,←hk];lia
   ·rw[sQ,eV k,←hk];lia
  rw[e1,e2];lia
 ·rw[if_neg hr];have hm:(b-c.2)%c.1≠0:=fun z=>hr (beq_iff_eq.mpr z);have e0:=ck (b-c.2) c.1;have m0:=cm (b-c.2) (show c.1≠0 by lia);have m1:=bY (b-c.2) h1;have e2:(b-c.2-1) / c.1=(b-c.2) / c.1:=by
   refine jZ h1 |>.mpr ⟨?_,?_⟩
   ·rw[eV];lia
   ·rw[eV];lia
  rw[e2];lia
def tW(kvs:WK)(j:Nat)(b:Int):Int:=(kvs.map fun q=>q.2.getD j 0*iE q.1 b).sum
theorem Ln{kvs:WK}(h:∀q∈kvs,Valid q.1)(j:Nat):tW kvs j 0=0:=by
 unfold tW;rw[show kvs.map (fun q=>q.2.getD j 0*iE q.1 0)=kvs.map (fun _=>(0:Int)) from aM fun q hq=>by rw[LC (h q hq),Int.mul_zero]]
 induction kvs with
 |nil=>rfl
 |cons q kvs ih=>
  rw[aq,bS,ih fun p hp=>h p (Θ _ hp)];rfl
theorem M5{kvs:WK}(h:∀q∈kvs,Valid q.1)(j:Nat)(b:Int):tW kvs j (b+1)=tW kvs j b+sW kvs b j:=by
 induction kvs with
 |nil=>rfl
 |cons q kvs ih=>
  have ih:=ih fun p hp=>h p (Θ _ hp);unfold tW sW at ih ⊢;rw[aq,bS,aq,bS,aq,bS,ih,M6 (h q Ψ),Int.mul_add];by_cases hr:bU b q.1=true
  ·rw[if_pos hr,if_pos hr,iM];lia
  ·rw[if_neg hr,if_neg hr,Int.mul_zero];lia
def dB(cs:List ω)(j b:Nat):Nat:=((Δ b).filter fun x:Nat=>decide ((cs.filter (bU (x:Int))).length=j)).length
theorem rb(cs:List ω)(j b:Nat):dB cs j (b+1)=dB cs j b+if (cs.filter (bU (b:Int))).length=j then 1 else 0:=by
 unfold dB;rw[kP,cW,aa];by_cases e:(cs.filter (bU (b:Int))).length=j
 ·rw[if_pos e,dZ,if_pos (decide_eq_true e)];rfl
 ·rw[if_neg e,dZ,if_neg (by rw[decide_eq_true_iff];exact e)];rfl
theorem FP{cs:List ω}{kvs:WK}(h:nO cs kvs)(j b:Nat):tW kvs j (b:Int)=dB cs j b:=by
 have hv:∀q∈kvs,Valid q.1:=fun q hq=>(h.ok.val q hq).1
 induction b with
 |zero=>exact Ln hv j
 |succ b ih=>
  rw[show ((b+1:Nat):Int)=(b:Int)+1 by lia,M5 hv,ih,h.sum,rb];split<;>lia
end My
namespace L2
open PySem PySem.Spec PyProof.Rows
section
variable {X:Cx} {pins:List (ε×aN)} {σ:St} {H:Hp} {s:η} {a:ε} {y v:V} {u r:δ} {o:Option V} {A:bT} {E:δ->η->Prop}
theorem Inv.Le(I:Inv X pins σ H s):sysModules<s.heap.objs.size:=by
 have h:bt<s.heap.objs.size:=(I.mod.glob.keeps I.bk).lt;exact jh (by decide) h
theorem FO{h':ay}{t':Nat}{ob:HO}(I:Inv X pins σ H s)(mu:AK (H a))(hs:cJ a s.heap h')(he:∃q,h'.get? a=some q)(new:fu X.prog X.w (upd H a ob) h' a ob):
  Inv X pins σ (upd H a ob) { s with heap:=h',toks:=t' }:=
 I.write (x:=a) (e:=a) mu (.inl rfl) (fun b q hb z=>(hs.2 b hb).trans z) he new
end
structure M2(X:Cx)(o:π)(m:ψ)(apos:aL)(e f:π)(cpos:aL):Prop where
 base:attributeBase o m X.env (eval o X.env)=eval o X.env
 Ya:((backTo cpos (bJ [e,f] X.env)).all (fun x=>!x.1)&&(backToKw cpos (keywordEach [] X.env)).all (fun x=>x.1.isSome)
  && decide (([e,f]:List π).length+([]:List pX).length+(if ([]:List pX).isEmpty then 0 else 1)<30))=true
 line:(apos.endLine==cpos.line)=true
 trees:backTo cpos (bJ [e,f] X.env)=[(false,eval e X.env),(false,eval f X.env)]
end L2
namespace L3
open PySem PySem.Spec PyProof.Rows L2
abbrev i6:=List Int×ε×δ
section
variable {K:ζ} {H:Hp} {G:Gp} {a p:ε} {ks:List (List Int)}
theorem Ext.pH{φ:ay->Prop}{o:HO}(h:H p=some (.ext φ)):Ext H (upd H p o):=
 ⟨fun b ys e=>by
  rw[dR fun z=>by rw[z,h] at e;cases e];exact e,fun b x u e=>by
  rw[dR fun z=>by rw[z,h] at e;cases e];exact e⟩
theorem bo.pH{φ:ay->Prop}{o:HO}{g:GO}(R:bo K G H)(h:H p=some (.ext φ))(new:sM K (upd H p o) p g):bo K (da G p g) (upd H p o):=fun a u e=>by
 by_cases z:a=p
 ·subst z;rw[lr] at e;cases e;exact new
 ·rw[mi z] at e;exact (R a u e).ext (Ext.pH h) (dR z)
end
section
variable {X:Cx} {pins:List (ε×aN)} {σ:L2.St} {H:Hp} {s:η} {a b:ε} {A:bT} {E:δ->η->Prop}
theorem xU(I:L2.Inv X pins σ H s){k:List Int}(h:cF X.K H b (k.map V.int)):(tupleKind (intKind X.prog X.w)).is s.heap k b:=by
 obtain⟨its,rv,⟨o,h1,h2,n,h3⟩,_⟩:=I.tuple h;exact⟨o,its.toArray,n,h1,h2,h3,BU rv⟩
end
end L3
namespace L3
open PySem PySem.Spec PyProof.Rows L2
abbrev KD:=List Int×D
def fO(a:ε)(o:aN):ay->Prop:=fun h=>h.get? a=some o
structure Ae(K:ζ)(H:Hp)(p:KD)(x:i6):Prop where
 k:x.1=p.1
 t:cF K H x.2.1 (x.1.map V.int)
 v:∃v,Hv K H p.2 v/\RelV v x.2.2
def dH(K:ζ)(H:Hp):List KD->List i6->Prop
 |[],[]=>True
 |p::ps,x::xs=>Ae K H p x/\dH K H ps xs
 |_,_=>False
def uN(kvs:List KD)(k:List Int)(d:D):List KD:=if k∈kvs.map (·.1) then kvs.map (fun p=>if p.1=k then (p.1,d) else p) else kvs++[(k,d)]
def lQ(kvs:List KD)(k:List Int)(y:D):D:=((kvs.find? fun p=>decide (p.1=k)).map (·.2)).getD y
def kz(o:aN)(xs:List i6):Prop:=o.ExactDict/\(∃P w es ep,o.data=.dict es ep/\es.toList=xs.map (entryOfKey (tupleKind (intKind P w))))/\(xs.map (·.1)).Nodup
def fN(kvs:List KD)(o:aN):ζ->ε->Hp->Prop:=fun K a H=>H a=some (.ext (fO a o))/\(a==sysModules)=false/\∃xs,kz o xs/\dH K H kvs xs
section
variable {K:ζ} {H H':Hp} {G:Gp} {a b:ε} {kvs:List KD} {xs:List i6} {o:aN} {k:List Int} {d:D} {v:V} {r:δ}
theorem dH.ext(E:Ext H H'):∀{kvs:List KD} {xs:List i6},dH K H kvs xs->dH K H' kvs xs
 |[],[],_=>trivial
 |p::ps,x::xs,h=>⟨⟨h.1.k,cF.ext E h.1.t,let ⟨v,a,b⟩:=h.1.v;⟨v,a.ext E,b⟩⟩,dH.ext E h.2⟩
 |[],_::_,h=>h.elim
 |_::_,[],h=>h.elim
theorem dH.keys:∀{kvs:List KD} {xs:List i6},dH K H kvs xs->xs.map (·.1)=kvs.map (·.1)
 |[],[],_=>rfl
 |p::ps,x::xs,h=>by
  rw[aq,aq,h.1.k,dH.keys h.2]
 |[],_::_,h=>h.elim
 |_::_,[],h=>h.elim
theorem dH.mD:∀{kvs:List KD} {xs:List i6},dH K H kvs xs->∀x∈xs,cF K H x.2.1 (x.1.map V.int)
 |[],[],_,_,hx=>nomatch hx
 |p::ps,x::xs,h,y,hy=>by
  rcases az.mp hy with rfl|hy
  ·exact h.1.t
  ·exact dH.mD h.2 y hy
 |[],_::_,h,_,_=>h.elim
 |_::_,[],h,_,_=>h.elim
theorem dH.app:∀{kvs:List KD} {xs:List i6} {p:KD} {x:i6},dH K H kvs xs->Ae K H p x->dH K H (kvs++[p]) (xs++[x])
 |[],[],_,_,_,h=>⟨h,trivial⟩
 |p::ps,x::xs,_,_,h,e=>⟨h.1,dH.app h.2 e⟩
 |[],_::_,_,_,h,_=>h.elim
 |_::_,[],_,_,h,_=>h.elim
theorem dH.Js(hd:Hv K H d v)(hr:RelV v r):∀{kvs:List KD} {xs:List i6},dH K H kvs xs->dH K H (kvs.map (fun p=>if p.1=k then (p.1,d) else p)) (xs.map (putAt k r))
 |[],[],_=>trivial
 |p::ps,x::xs,h=>by
  refine⟨?_,dH.Js hd hr h.2⟩;show Ae K H (if p.1=k then (p.1,d) else p) (putAt k r x);unfold putAt;by_cases e:p.1=k
  ·rw[if_pos e,if_pos (h.1.k.trans e)];exact⟨h.1.k,h.1.t,v,hd,hr⟩
  ·rw[if_neg e,if_neg (fun z=>e (h.1.k.symm.trans z))];exact h.1
 |[],_::_,h=>h.elim
 |_::_,[],h=>h.elim
theorem at_isSome(xs:List i6)(k:List Int):(atKey xs k).isSome=decide (k∈xs.map (·.1)):=by
 unfold atKey;rw[Option.isSome_map,gO,List.find?_isSome,decide_eq_true_iff,aP];constructor
 ·rintro⟨x,hx,e⟩;exact⟨x,hx,of_decide_eq_true e⟩
 ·rintro⟨x,hx,e⟩;exact⟨x,hx,decide_eq_true e⟩
theorem dH.put(h:dH K H kvs xs)(hb:cF K H b (k.map V.int))(hd:Hv K H d v)(hr:RelV v r):dH K H (uN kvs k d) (storedH xs k b r):=by
 unfold storedH uN;rw[at_isSome,h.keys];by_cases q:k∈kvs.map (·.1)
 ·rw[if_pos q,if_pos (decide_eq_true q)];exact h.Js hd hr
 ·rw[if_neg q,if_neg (by simpa using q)];exact h.app ⟨rfl,hb,v,hd,hr⟩
theorem dH.look(hd:Hv K H d v)(hr:RelV v r):∀{kvs:List KD} {xs:List i6},dH K H kvs xs->∃u,Hv K H (lQ kvs k d) u/\RelV u (((atKey xs k).map (·.2)).getD r)
 |[],[],_=>⟨v,hd,hr⟩
 |p::ps,x::xs,h=>by
  by_cases e:p.1=k
  ·have e1:lQ (p::ps) k d=p.2:=by
    unfold lQ;rw[eU,decide_eq_true e];rfl
   have e2:((atKey (x::xs) k).map (·.2)).getD r=x.2.2:=by
    unfold atKey;rw[eU,decide_eq_true (h.1.k.trans e)];rfl
   rw[e1,e2];exact h.1.v
  ·have e1:lQ (p::ps) k d=lQ ps k d:=by
    unfold lQ;rw[eU,decide_eq_false e]
   have e2:((atKey (x::xs) k).map (·.2)).getD r=((atKey xs k).map (·.2)).getD r:=by
    unfold atKey;rw[eU,decide_eq_false fun z=>e (h.1.k.symm.trans z)]
   rw[e1,e2];exact dH.look hd hr h.2
 |[],_::_,h=>h.elim
 |_::_,[],h=>h.elim
theorem dH.vals:∀{kvs:List KD} {xs:List i6},dH K H kvs xs->∃vs,aO K H (kvs.map (·.2)) vs/\bh vs (xs.map (·.2.2))
 |[],[],_=>⟨[],by simp[aO],.nil⟩
 |p::ps,x::xs,h=>by
  obtain⟨v,h1,h2⟩:=h.1.v;obtain⟨vs,h3,h4⟩:=dH.vals h.2;exact⟨v::vs,aO.cons h1 h3,.cons h2 h4⟩
 |[],_::_,h=>h.elim
 |_::_,[],h=>h.elim
theorem xT(h:fN kvs o K a H):sM K H a (.gen (fN kvs o)):=
 ⟨h,⟨_,h.1,fun _=>nofun,fun _ _=>nofun⟩,fun H1 H2 h1 h2 e ⟨z,q,xs,r,en⟩=>⟨e.trans z,q,xs,r,en.ext ⟨h1,h2⟩⟩⟩
theorem B7{P:aG}{w:aQ}{h:ay}(e:h.get? a=some o):fu P w H h a (.ext (fO a o)):=
 ⟨e,⟨o,e⟩,fun h1 h2 e kk=>kk _ e⟩
end
section
variable {X:Cx} {pins:List (ε×aN)} {σ:L2.St} {H:Hp} {s:η} {a b:ε} {A:bT} {E:δ->η->Prop} {o:aN} {xs:List i6} {k:List Int}
theorem vW(I:L2.Inv X pins σ H s)(e:H a=some (.ext (fO a o))):s.heap.get? a=some o:=by
 obtain⟨z,_⟩:=(show fu X.prog X.w H s.heap a _ from I.cq a _ e);exact z
theorem B6(I:L2.Inv X pins σ H s)(e:H a=some (.ext (fO a o)))(R:kz o xs)(ht:∀x∈xs,cF X.K H x.2.1 (x.1.map V.int)):s.heap.DictOfH (tupleKind (intKind X.prog X.w)) a xs:=by
 obtain⟨r1,⟨P,w,es,ep,r2,r3⟩,r4⟩:=R;exact⟨o,es,ep,vW I e,r1,r2,r3,fun x hm=>xU I (ht x hm),r4⟩
theorem M4{r:δ}{Q:Unit->η->Prop}(hu:A.units+1<cLine)(I:L2.Inv X pins σ H s)(e:H a=some (.ext (fO a o)))(R:kz o xs)(ht:∀x∈xs,cF X.K H x.2.1 (x.1.map V.int))(hk:cF X.K H b (k.map V.int))(hl:xs.length≤1000)
  (h:∀s' o',L2.Inv X pins σ (upd H a (.ext (fO a o'))) s'->kz o' (storedH xs k b r)->Q () s'):
  ρ (model X.prog X.w) A (setItem (.ref a) (.ref b) r) Q E s:=by
 refine wpAny_setItem_heap (hsz:=by rw[cy];omega) (tupleKind_room_in1 hu) (xU I hk) (B6 I e R ht) fun h' dd' hs=>?_;obtain⟨q,es',ep',hq,y2,y3,y4,_,y5⟩:=dd';exact h _ q (FO I (by rw[e];exact kO) hs ⟨q,hq⟩ (B7 hq)) ⟨y2,⟨_,_,es',ep',y3,y4⟩,y5⟩
theorem M3{r:δ}{Q:Unit->η->Prop}(hu:A.units<cLine)(I:L2.Inv X pins σ H s)(e:H a=some (.ext (fO a o)))(R:kz o xs)(ht:∀x∈xs,cF X.K H x.2.1 (x.1.map V.int))(hk:cF X.K H b (k.map V.int))(hl:xs.length≤1000)
  (h:∀s' o',L2.Inv X pins σ (upd H a (.ext (fO a o'))) s'->kz o' (storedH xs k b r)->Q () s'):
  ρ (model X.prog X.w) A (dictSet a (.ref b) r) Q E s:=by
 refine wpAny_dictSet_heap (hsz:=by rw[cy];omega) hu (xU I hk) (B6 I e R ht) fun h' dd' hs=>?_;obtain⟨q,es',ep',hq,y2,y3,y4,_,y5⟩:=dd';exact h _ q (FO I (by rw[e];exact kO) hs ⟨q,hq⟩ (B7 hq)) ⟨y2,⟨_,_,es',ep',y3,y4⟩,y5⟩
end
section
variable {X:Cx} {o i e f:π} {pos pos' p apos cpos:aL} {to ti tv ta tk td:aK}
def wZ:aK:=fun _ G Q=>∀p o G2,dg G p (.gen (fN [] o)) G2->Q (.obj p) G2
theorem B5(P:aG)(w:aQ):kz { cls:=.type "dict",data:=.dict #[]} []:=⟨⟨rfl,rfl,rfl⟩,⟨P,w,#[],0,rfl,rfl⟩,jv⟩
theorem FN{pins:List (ε×aN)}{s:η}{σ:L2.St}{H:Hp}(I:L2.Inv X pins σ H s):L2.Inv X pins σ (upd H s.heap.objs.size (.ext (fO s.heap.objs.size { cls:=.type "dict",data:=.dict #[]}))) { s with heap:=s.heap.push { cls:=.type "dict",data:=.dict #[]}}:=
 I.laid (a:=s.heap.objs.size) (o:=.ext (fO s.heap.objs.size { cls:=.type "dict",data:=.dict #[]})) (t':=s.toks) (fun _ _ q=>ν _ q) (Γ _) (B7 (Φ _ rfl))
theorem M1:PE X (.Dict [] [] pos) (fun _ H Q=>∀p o,H p=none->(p==sysModules)=false->kz o []->Q (.ref p) (upd H p (.ext (fO p o)))):=fun pins s σ H Q I h=>
 wpAny_Dict_empty ⟨.ref s.heap.objs.size,_,FN I,rfl,h _ _ (I.cq.fresh (Γ _)) (beq_eq_false_iff_ne.mpr (eY (aX I.Le))) (B5 X.prog X.w)⟩
theorem M0:bV X (.Dict [] [] pos) wZ:=jM M1 fun σ H Q ⟨τ,G,Q3,RS,RG,h,k⟩ p o hp hs R=>
 k _ _ (.obj p) _ qj (.ix hp) (RG.ix hp (xT (kvs:=[]) ⟨g8,hs,[],R,trivial⟩)) (h p o _ (.mk' (RG.free hp)))
def xB(to ti tv:aK):ab:=fun D τ G=>tv τ G fun v G1=>to τ G1 fun o G2=>ti τ G2 fun x G3=>match o,x with
 |.obj p,.tup ds=>∃kvs ob k,G3 p=some (.gen (fN kvs ob))/\ds=k.map .int/\kvs.length≤1000/\∀ob',D.nx τ (da G3 p (.gen (fN (uN kvs k v) ob')))
 |_,_=>False
theorem MZ{td ty tv:TE}(hu:X.A.units+1<cLine)(ho:PE X o td)(hi:PE X i ty)(hv:PE X e tv)(hs:swapsWith e (some (.Subscript o i pos')) pos.line X.env=pure false):
  PS X (.Assign [.Subscript o i pos'] e pos) (fun D σ H=>tv σ H fun v H1=>td σ H1 fun x H2=>ty σ H2 fun y H3=>∃a b ob xs k,x=.ref a/\y=.ref b/\H3 a=some (.ext (fO a ob))/\kz ob xs/\(∀x∈xs,cF X.K H3 x.2.1 (x.1.map V.int))/\cF X.K H3 b (k.map V.int)/\xs.length≤1000 ∧
   ∀r o',RelV v r->kz o' (storedH xs k b r)->D.nx σ (upd H3 a (.ext (fO a o')))):=by
 intro pins s σ H D I h;refine wpAny_Assign_Subscript (bL (hv pins s σ H _ I h) fun r s1 ⟨v,H1,I1,rv,q1⟩=>bL (ho pins s1 σ H1 _ I1 q1) fun u s2 ⟨x,H2,I2,rx,q2⟩=>bL (hi pins s2 σ H2 _ I2 q2) fun iv s3 ⟨y,H3,I3,ry,a,b,ob,xs,k,ex,ey,z1,R,z2,z3,z4,q3⟩=>?_) hs;subst ex ey;obtain rfl:u=aV a:=rx;obtain rfl:iv=aV b:=ry;exact M4 hu I3 z1 R z2 z3 z4 fun s4 o' I4 y1=>⟨σ,_,I4,q3 r o' rv y1⟩
theorem B4{K:ζ}{H:Hp}{key:List Int}{vs:List V}(h:aO K H (key.map D.int) vs):vs=key.map V.int:=by
 refine rm h ?_;clear h
 induction key with
 |nil=>rfl
 |cons n ns ih=>simp[intsOf,ih]
theorem MY(hu:X.A.units+64<cLine)(ho:bV X o to)(hi:bV X i ti)(hv:bV X e tv)(hs:swapsWith e (some (.Subscript o i pos')) pos.line X.env=pure false:=by rfl):
  mX X (.Assign [.Subscript o i pos'] e pos) (xB to ti tv):=
 lF (MZ (eD (by omega) hu) ho hi hv hs) fun D σ H ⟨τ,G,D3,RS,RG,h,k⟩=>
  ⟨τ,G,_,RS,RG,h,fun v H1 dv G1 hv S1 R1 q1=>⟨τ,G1,_,RS.ext (S1.ext RG),R1,q1,fun x H2 d2 G2 h2 S2 R2 q2=>
   ⟨τ,G2,_,(RS.ext (S1.ext RG)).ext (S2.ext R1),R2,q2,fun y H3 d3 G3 h3 S3 R3 q3=>by
    cases d2 with
    |obj p=>
     cases d3 with
     |tup ds=>
      obtain⟨kvs,ob,key,e1,rfl,l1,q⟩:=q3;obtain⟨⟨z1,z0,xs,z2,z3⟩,_⟩:=R3 p _ e1;obtain⟨b,vs,rfl,t1,t2⟩:=kd h3;obtain rfl:=B4 t2;have hx:x=.ref p:=i4 h2;refine⟨p,b,ob,xs,key,hx,rfl,z1,z2,z3.mD,t1,?_,fun r o' rr y1=>?_⟩
      ·have:=congrArg eJ z3.keys;rw[ξ,ξ] at this;omega
      ·have E3:=Ext.pH (o:=.ext (fO p o')) z1;refine k.nx τ σ _ _ ?_ ?_ (R3.pH z1 (xT ⟨g8,z0,_,y1,(z3.put t1 ((hv.ext (S2.ext R1)).ext (S3.ext R2)) rr).ext E3⟩)) (q o')
       ·exact ((((RS.ext (S1.ext RG)).ext (S2.ext R1)).ext (S3.ext R2))).ext E3
       ·exact ((S1.trans S2).trans S3).trans (Step.wrote e1)
     |_=>exact q3.elim
    |_=>exact q3.elim⟩⟩⟩
def zj(to tk td:aK):aK:=fun τ G Q=>to τ G fun o G1=>match o with
 |.obj p=>(∃kvs ob,G1 p=some (.gen (fN kvs ob)))/\tk τ G1 fun x G2=>td τ G2 fun y G3=>match x with
  |.tup ds=>∃kvs ob k,G3 p=some (.gen (fN kvs ob))/\ds=k.map .int/\Q (lQ kvs k y) G3
  |_=>False
 |_=>False
theorem MX{to tk td:TE}(hu:X.A.units+1<cLine)(ho:PE X o to)(he:PE X e tk)(hf:PE X f td)(m:M2 X o "get" apos e f cpos):
  PE X (.Call (.Attribute o "get" apos) [e,f] [] cpos) (fun σ H Q=>to σ H fun x H1=>∃a,x=.ref a/\(∃ob,H1 a=some (.ext (fO a ob))/\ob.ExactDict)/\tk σ H1 fun y H2=>td σ H2 fun z H3=>∃b k ob xs,y=.ref b/\H3 a=some (.ext (fO a ob))/\(a==sysModules)=false/\kz ob xs/\(∀x∈xs,cF X.K H3 x.2.1 (x.1.map V.int))/\cF X.K H3 b (k.map V.int) ∧
   ∀r,RelV z r->∃u,RelV u (((atKey xs k).map (·.2)).getD r)/\Q u H3):=by
 intro pins s σ H Q I h;refine wpAny_Call_method m.base m.Ya m.line PySem.F.plainAttrs_dict pV PySem.F.type_dict_get (bL (ho pins s σ H _ I h) fun u s1 ⟨x,H1,I1,rx,a,ex,⟨ob,e1,ex1⟩,q1⟩=>?_);subst ex;obtain rfl:u=aV a:=rx;have hh:=vW I1 e1;refine⟨⟨ob,hh,ex1.1⟩,fun a1 e=>by cases e;exact⟨ob,hh,ex1.2.1⟩,?_⟩;rw[m.trees];refine j0 rfl (qF (mB (bL (he pins s1 σ H1 _ I1 q1) fun iv s2 ⟨y,H2,I2,ry,q2⟩=>
  mB (bL (hf pins s2 σ H2 _ I2 q2) fun fv s3 ⟨z,H3,I3,rz,b,k,ob2,xs,ey,z1,z0,R,z2,z3,q3⟩=>sE ?_))))
 subst ey;obtain rfl:iv=aV b:=ry;have dd:=B6 I3 z1 R z2;obtain⟨u,ru,q⟩:=q3 fv rz;exact call_meetsIn pV dd.typeIs PySem.F.entry_dict_get (PySem.F.args_dict_get_3 _ _ _) (meetsH_dict_get_default (tupleKind (intKind X.prog X.w)) a b z0 fv) ⟨tupleKind_room_in1 hu,k,xs,xU I3 z3,dd,⟨u,H3,I3.tok _,ru,q⟩⟩
theorem MW(hu:X.A.units+64<cLine)(ho:bV X o to)(he:bV X e tk)(hf:bV X f td)(m:M2 X o "get" apos e f cpos):bV X (.Call (.Attribute o "get" apos) [e,f] [] cpos) (zj to tk td):=
 jM (MX (eD (by omega) hu) ho he hf m) fun σ H Q ⟨τ,G,Q3,RS,RG,h,k⟩=>
  ⟨τ,G,_,RS,RG,h,fun v H1 d1 G1 h1 S1 R1 q1=>by
   cases d1 with
   |obj p=>
    obtain⟨⟨kvs,ob,e1⟩,q1⟩:=q1;obtain⟨⟨z1,z0,xs,z2,z3⟩,_⟩:=R1 p _ e1;refine⟨p,i4 h1,⟨ob,z1,z2.1⟩,τ,G1,_,RS.ext (S1.ext RG),R1,q1,fun y H2 d2 G2 h2 S2 R2 q2=>⟨τ,G2,_,(RS.ext (S1.ext RG)).ext (S2.ext R1),R2,q2,fun z H3 d3 G3 h3 S3 R3 q3=>?_⟩⟩;cases d2 with
    |tup ds=>
     obtain⟨kvs,ob,key,e1,rfl,q⟩:=q3;obtain⟨⟨z1,z0,xs,z2,z3⟩,_⟩:=R3 p _ e1;obtain⟨b,vs,rfl,t1,t2⟩:=kd (h2.ext (S3.ext R2));obtain rfl:=B4 t2;refine⟨b,key,ob,xs,rfl,z1,z0,z2,z3.mD,t1,fun r rr=>?_⟩;obtain⟨u,hu1,hu2⟩:=z3.look (k:=key) h3 rr;exact⟨u,hu2,k u H3 _ G3 hu1 ((S1.trans S2).trans S3) R3 q⟩
    |_=>exact q3.elim
   |_=>exact q1.elim⟩
def zl(tk tv:aK):aK:=fun τ G Q=>∀p o0 G0,dg G p (.gen (fN [] o0)) G0->tk τ G0 fun x G1=>tv τ G1 fun v G2=>match x with
 |.tup ds=>∃k,ds=k.map .int/\G2 p=some (.gen (fN [] o0))/\∀o',Q (.obj p) (da G2 p (.gen (fN [(k,v)] o')))
 |_=>False
theorem MV{tk tv:TE}(hu:X.A.units+64<cLine)(hk:PE X i tk)(hv:PE X e tv):
  PE X (.Dict [some i] [e] pos) (fun σ H Q=>∀p o,H p=none->(p==sysModules)=false->kz o []->tk σ (upd H p (.ext (fO p o))) fun x H1=>tv σ H1 fun v H2=>∃b k,x=.ref b/\H2 p=some (.ext (fO p o))/\cF X.K H2 b (k.map V.int) ∧
   ∀r o',RelV v r->kz o' (storedH [] k b r)->Q (.ref p) (upd H2 p (.ext (fO p o')))):=by
 intro pins s σ H Q I h;have h0:=h s.heap.objs.size _ (I.cq.fresh (Γ _)) (beq_eq_false_iff_ne.mpr (eY (aX I.Le))) (B5 X.prog X.w);refine wpAny_Dict_any rfl rfl (by simp) (by simp) ?_;show ρ _ _ (eval i X.env >>= _) _ _ _;refine γ (bL (hk pins _ σ _ _ (FN I) h0) fun u s1 ⟨x,H1,I1,rx,q1⟩=>?_);refine γ (cp (γ (bL (hv pins s1 σ H1 _ I1 q1) fun u2 s2 ⟨y,H2,I2,ry,b,k,ex,e1,t1,q2⟩=>γ (j5 (ι ?_)))));refine γ (cp (ι (ι ?_)));subst ex;obtain rfl:u=aV b:=rx;unfold storeAll;simp only[kW,pW];refine γ (γ (M3 (eD (by omega) hu) I2 e1 (B5 X.prog X.w) (fun x hx=>nomatch hx) t1 (by simp) fun s3 o' I3 R'=>ι (ι ?_)));exact⟨.ref s.heap.objs.size,_,I3,rfl,q2 u2 o' ry R'⟩
theorem Nz(hu:X.A.units+64<cLine)(hk:bV X i tk)(hv:bV X e tv):bV X (.Dict [some i] [e] pos) (zl tk tv):=
 jM (MV hu hk hv) fun σ H Q ⟨τ,G,Q3,RS,RG,h,k⟩ p o hp hs R=>by
  have S0:Step H G (upd H p (.ext (fO p o))) (da G p (.gen (fN [] o))):=.ix hp;have R0:bo X.K (da G p (.gen (fN [] o))) (upd H p (.ext (fO p o))):=RG.ix hp (xT (kvs:=[]) ⟨g8,hs,[],R,trivial⟩);refine⟨τ,_,_,RS.ext (S0.ext RG),R0,h p o _ (.mk' (RG.free hp)),fun x H1 d1 G1 h1 S1 R1 q1=>⟨τ,G1,_,(RS.ext (S0.ext RG)).ext (S1.ext R0),R1,q1,fun v H2 d2 G2 h2 S2 R2 q2=>?_⟩⟩;cases d1 with
  |tup ds=>
   obtain⟨key,rfl,e1,q⟩:=q2;obtain⟨⟨z1,z0,xs,z2,z3⟩,_⟩:=R2 p _ e1;obtain⟨b,vs,rfl,t1,t2⟩:=kd (h1.ext (S2.ext R1));obtain rfl:=B4 t2;refine⟨b,key,rfl,z1,t1,fun r o' rr y1=>?_⟩;have E3:=Ext.pH (o:=.ext (fO p o')) z1;refine k _ _ (.obj p) _ qj (((S0.trans S1).trans S2).trans (Step.wrote e1)) (R2.pH z1 (xT ⟨g8,z0,_,y1,?_⟩)) (q o');exact (dH.put (kvs:=[]) (xs:=[]) trivial t1 h2 rr).ext E3
  |_=>exact q2.elim
end
end L3
namespace L3
open PySem PySem.Spec PyProof.Rows L2
section
variable {prog:aG} {w:aQ} {A:bT} {E:δ->η->Prop} {s:η}
theorem Ny(d:ε)(hd:(d==sysModules)=false):
  MeetsIn prog w (dP.«dict.items» ⟨[.ref d],[]⟩) (fun _ R s=>s.TypeIs (.ref d) "dict" ∧
   R (.ok (.ret (.ref s.heap.objs.size))) { s with heap:=s.heap.push { cls:=.type "dict_items",data:=.fields #[.ref d]}}):=
 .of_wp fun A R s ⟨hm,h⟩=>by
  unfold dP.«dict.items»;refine γ ?_;unfold dP.Dict.noArgs;refine γ (wpAny_notOrdered_dict hm ?_);show ρ _ _ (pure d) _ _ s;refine ι ?_;show ρ _ _ (pY d >>= _) _ _ s;unfold pY;rw[if_neg (by rw[hd];exact ao)];refine γ (ι ?_);exact γ (bI (ι ⟨_,rfl,h⟩))
theorem Nx{v d:ε}{o:aN}{es:Array mz}{ep:Nat}{Q:δ->η->Prop}(hv:s.heap.IsItemsView v d)(ho:s.heap.get? d=some o)(hdat:o.data=.dict es ep)
  (hQ:Q (.ref s.heap.objs.size) { s with heap:=s.heap.push { cls:=.type "dict_itemiterator",data:=.fields #[.none,.bool false,.ref d,.int 0 0,.int es.size 0,.int ep 0,.none,.none]}}):
  ρ (model prog w) A (pyIter (.ref v)) Q E s:=by
 obtain⟨ov,hov,hcv,hdv⟩:=id hv;refine jK hv.typeIs F.slot_dict_items_iter (bW F.slot_dict_items_iter hv.typeIs F.entry_dict_items_iter ?_ (F.args_dict_items_iter_1 _));unfold dP.«dict_items.__iter__»;refine γ (ι ?_);refine γ ?_;unfold dP.Dict_items.dictOf;refine γ (cn hov hdv (x:=.ref d) rfl (ι ?_));refine γ ?_;unfold dP.Dict_items.newIterator;refine γ (mY ho hdat ?_);refine γ (oI ho hdat ?_);have hown:ig "dict_itemiterator" = true:=by decide
 simp only[hown,if_true];refine bI (ι ⟨_,rfl,"dict_itemiterator",_,⟨_,Φ _ rfl,rfl⟩,F.slot_dict_itemiterator_next.lookup,?_⟩)
  (by simp only[sizeOk,jx,υ,aa,ax,kT,cy];lia)
 simpa [rawInt,jx] using hQ
theorem Nw{it d:ε}{i ep:Nat}{od:aN}{es:Array mz}{en:mz}{ok ov:δ}{Q:Option δ->η->Prop}(hit:iC s.heap it d i es.size ep ok ov)
  (AD:s.heap.get? d=some od) (hdd:od.data=.dict es ep) (hx:es[i]?=some en)
  (hQ:∀h',qO h' it d (i+1) es.size ep en.key en.val s.heap.objs.size ->
   h'.get? s.heap.objs.size=some { cls:=.type "tuple",data:=.seq #[en.key,en.val]}->h'.objs.size=s.heap.objs.size+1 ->
   (∀b o,b≠it->s.heap.get? b=some o->h'.get? b=some o)->Q (some (.ref s.heap.objs.size)) { s with heap:=h' }):
  ρ (model prog w) A (pyNext (.ref it)) Q E s:=by
 obtain⟨hp,g,dr,tk,os⟩:=s;obtain⟨hlt',een⟩:=br.mp hx;subst een;have hT:j6 ⟨hp,g,dr,tk,os⟩ (.ref it) "dict_itemiterator":=⟨_,hit,rfl⟩;unfold pyNext;refine γ (iI (bZ (name:=eO "__next__") hT F.slot_dict_itemiterator_next
  (bW F.slot_dict_itemiterator_next hT F.entry_dict_itemiterator_next ?_ (F.args_dict_itemiterator_next_1 _))))
 refine γ (ι ?_);refine γ ?_;refine γ ?_
 first|refine γ (eN hT (ι ?_))|refine γ (fY hT (ι ?_))
 refine γ (pO hit rfl ?_);have hown:ig "dict_itemiterator" = true:=by decide
 simp only[hown,if_true];show ρ _ _ (if (aV d==b6)=true then _ else _) _ _ _;rw[if_neg (show ¬((aV d==b6)=true) from ao)];refine γ (ι ?_);refine γ (mY AD hdd ?_);rw[if_neg (by simp)];refine γ (ι ?_);refine γ (oI AD hdd ?_);rw[if_neg (by simp)];refine ι ?_;simp only[show ¬((i:Int)<0) from by lia,if_false,aU,iY hlt'];refine γ ?_
 first|refine γ (eN hT (ι ?_))|refine γ (fY hT (ι ?_))
 refine γ (jU hT ?_);show ρ _ _ (setField (.ref it) 3 (rawInt ((i:Int)+1)) >>= _) _ _ ⟨hp,g,dr,tk,os⟩;refine γ (bQ hit (by simp) fun h₁ he₁ hs₁=>?_)
 replace hs₁:cJ it hp h₁:=hs₁
 replace he₁:iC h₁ it d (i+1) es.size ep ok ov:=by
  have e:((i+1:Nat):Int)=(i:Int)+1:=by lia
  unfold iC;rw[e];simpa [rawInt] using he₁
 have hT₁:j6 ⟨h₁,g,dr,tk,os⟩ (.ref it) "dict_itemiterator":=⟨_,he₁,rfl⟩;refine γ (cp ?_);refine γ (jU hT₁ ?_);refine γ (jU hT₁ ?_);show ρ _ _ (kj (.ref it) 6 es[i].key es[i].val) _ _ ⟨h₁,g,dr,tk,os⟩;unfold kj;refine γ (lK ?_);have he₂:iC (h₁.push { cls:=.type "tuple",data:=.seq #[es[i].key,es[i].val]}) it d (i+1) es.size ep ok ov:=ν _ he₁;generalize hh₂:h₁.push { cls:=.type "tuple",data:=.seq #[es[i].key,es[i].val]}=h₂ at he₂;have hz₁:h₁.objs.size=hp.objs.size:=hs₁.1;have hil:it<hp.objs.size:=Ω hit;have ht₂:h₂.get? hp.objs.size=some { cls:=.type "tuple",data:=.seq #[es[i].key,es[i].val]}:=by rw[←hh₂,←hz₁];exact Φ _ rfl
 have hz₂:h₂.objs.size=hp.objs.size+1:=by rw[←hh₂,eE,hz₁]
 have hk₂:∀b o,b≠it->hp.get? b=some o->h₂.get? b=some o:=fun b o hb e=>by rw[←hh₂];exact ν _ (hs₁.extBut b o hb e)
 show ρ _ _ (jw (.ref it) >>= _) _ _ ⟨h₂,g,dr,tk,os⟩;rw[hz₁];clear hh₂ he₁ hs₁ hT₁ hz₁ h₁;refine γ ?_;unfold jw;refine γ (cn he₂ rfl (x:=.none) rfl (ι ?_));simp only[if_true];refine γ (cn he₂ rfl (x:=ok) rfl ?_);refine γ (cn he₂ rfl (x:=ov) rfl ?_);refine γ (bQ he₂ (by simp) fun h₃ he₃ hs₃=>?_)
 replace hs₃:cJ it h₂ h₃:=hs₃
 replace he₃:iC h₃ it d (i+1) es.size ep es[i].key ov:=he₃
 refine γ (bQ he₃ (by simp) fun h₄ he₄ hs₄=>?_)
 replace hs₄:cJ it h₃ h₄:=hs₄
 replace he₄:iC h₄ it d (i+1) es.size ep es[i].key es[i].val:=he₄
 refine γ (bQ he₄ (by simp) fun h₅ he₅ hs₅=>?_)
 replace hs₅:cJ it h₄ h₅:=hs₅
 replace he₅:qO h₅ it d (i+1) es.size ep es[i].key es[i].val hp.objs.size:=he₅
 refine γ (bQ he₅ (by simp) fun h₆ he₆ hs₆=>?_)
 replace hs₆:cJ it h₅ h₆:=hs₆
 replace he₆:qO h₆ it d (i+1) es.size ep es[i].key es[i].val hp.objs.size:=he₆
 refine γ (pf (ι (ι ⟨_,rfl,ι (hQ h₆ he₆ ?_ ?_ ?_)⟩)))
 ·exact hs₆.extBut _ _ (eP hil) (hs₅.extBut _ _ (eP hil) (hs₄.extBut _ _ (eP hil) (hs₃.extBut _ _ (eP hil) ht₂)))
 ·show h₆.objs.size=hp.objs.size+1;rw[hs₆.1,hs₅.1,hs₄.1,hs₃.1,hz₂]
 ·exact fun b o hb e=>hs₆.extBut b o hb (hs₅.extBut b o hb (hs₄.extBut b o hb (hs₃.extBut b o hb (hk₂ b o hb e))))
theorem Nv{it d:ε}{i ep:Nat}{od:aN}{es:Array mz}{ok ov:δ}{Q:Option δ->η->Prop}(hh:A.handled=none)(hit:iC s.heap it d i es.size ep ok ov)
  (AD:s.heap.get? d=some od) (hdd:od.data=.dict es ep) (hge:es.size≤i)
  (hQ:∀h',sS it s.heap h'->Q none { s with heap:=h' }):ρ (model prog w) A (pyNext (.ref it)) Q E s:=by
 have hT:s.TypeIs (.ref it) "dict_itemiterator":=⟨_,hit,rfl⟩;unfold pyNext;refine γ (iI (bZ (name:=eO "__next__") hT F.slot_dict_itemiterator_next
  (bW F.slot_dict_itemiterator_next hT F.entry_dict_itemiterator_next ?_ (F.args_dict_itemiterator_next_1 _))))
 refine γ (ι ?_);refine γ ?_;refine γ ?_
 first|refine γ (eN hT (ι ?_))|refine γ (fY hT (ι ?_))
 refine γ (pO hit rfl ?_);have hown:ig "dict_itemiterator" = true:=by decide
 simp only[hown,if_true];show ρ _ _ (if (aV d==b6)=true then _ else _) _ _ s;rw[if_neg (show ¬((aV d==b6)=true) from ao)];refine γ (ι ?_);refine γ (mY AD hdd ?_);rw[if_neg (by simp)];refine γ (ι ?_);refine γ (oI AD hdd ?_);rw[if_neg (by simp)];refine ι ?_;simp only[show ¬((i:Int)<0) from by lia,if_false,aU,Array.getElem?_eq_none hge];refine γ ?_
 first|refine γ (eN hT (ι ?_))|refine γ (fY hT (ι ?_))
 show ρ _ _ (setField (.ref it) 2 .none >>= _) _ _ s;refine γ (pN hit rfl (by simp) ?_);show ρ _ _ (newExc (.type "StopIteration") [] >>= _) _ _ _;refine γ ?_;simp only[newExc,newTuple];refine γ (bI ?_ (by size_fits));refine γ (m:=firstArgMember _ _) (jT (a:=b6) (by first|rfl|(simp only[firstArgMember];rfl)) ?_)
 refine bI ?_ (by size_fits);simp only[raiseNew];refine γ (qL ?_);rw[show A.in1.handled=none from hh];refine γ (ι (wpAny_throw ?_));refine γ (kf (T:="StopIteration") (b:=true) ⟨_,Φ _ rfl,rfl⟩ pQ ?_);exact ι (hQ _ (((cN ..).extBut.push _).push _))
end
theorem dH.get{K:ζ}{H:Hp}:∀{kvs:List KD} {xs:List i6} {i:Nat} {q:KD},dH K H kvs xs->kvs[i]?=some q->∃x,xs[i]?=some x/\Ae K H q x
 |[],_,_,_,_,e=>by cases e
 |p::ps,x::xs,0,q,h,e=>by
  cases e;exact⟨x,rfl,h.1⟩
 |p::ps,x::xs,i+1,q,h,e=>dH.get (i:=i) h.2 e
 |_::_,[],_,_,h,_=>h.elim
theorem FL{K:ζ}{H:Hp}:∀k:List Int,aO K H (k.map D.int) (k.map V.int)
 |[]=>by simp[aO]
 |n::ns=>aO.cons (by simp[Hv]) (FL ns)
def Ct(d:ε)(o:aN)(xs:List i6)(vs:List V):It:=
 ⟨fun i H=>H d=some (.ext (fO d o))/\i<xs.length,
  fun i H x H'=>∃T e v,x=.ref T/\H T=none/\H'=upd H T (.tup [.ref e.2.1,v])/\xs[i]?=some e/\vs[i]?=some v,
  fun i H=>H d=some (.ext (fO d o))/\xs.length≤i⟩
theorem Nu{P P':aG}{w w':aQ}{K:ζ}{es:List π}{n0:Nat}{ps:aL}(d it:ε){o:aN}{xs:List i6}{vs:List V}{ees:Array mz}{ep:Nat}(hdat:o.data=.dict ees ep)(hes:ees.toList=xs.map (entryOfKey (tupleKind (intKind P' w'))))(hv:bh vs (xs.map (·.2.2))):
  Turn P w K (.Tuple es n0 ps) (Ct d o xs vs) [it] it (fun i h=>∃ok ov,iC h it d i ees.size ep ok ov) where
 mem:=by simp
 obj:=fun i h ⟨ok,ov,Z⟩ b hb=>by
  rw[cH.mp hb];exact⟨_,Z,fun v z=>by cases (show ma _=kq v from z)⟩
 keep:=fun i h h' ⟨ok,ov,Z⟩ k=>⟨ok,ov,k _ (by simp) _ Z⟩
 item:=by
  intro X hP hw hK hc i pins s σ H E I hf st hg;subst hP hw hK;obtain⟨ok,ov,Z⟩:=st;obtain⟨e1,hi⟩:=hg;have ho:=vW I e1;have hx:xs[i]?=some xs[i]:=ar hi;have hen:ees[i]?=some (entryOfKey (tupleKind (intKind P' w')) xs[i]):=by
   rw[entry_at hes i,hx];rfl
  have hlv:i<vs.length:=by
   rw[hv.length,ξ];exact hi
  obtain⟨u,hu1,hu2⟩:=hv.get (ar hlv);have eu:u=xs[i].2.2:=by
   rw[ag,hx] at hu1;exact (aJ hu1).symm
  subst eu;refine Nw Z ho hdat hen fun h' Zo T' sz kp=>⟨_,rfl,?_⟩;refine wpAny_letOwnedTupleGo_items (s:={ s with heap:=h' }) Zo fun h2 Z2 b2=>?_;have hn:H s.heap.objs.size=none:=I.cq.fresh (Γ _);have I1:L2.Inv X pins σ (upd H s.heap.objs.size (.tup [.ref xs[i].2.1,vs[i]])) { s with heap:=s.heap.push { cls:=.type "tuple",data:=.seq #[.ref xs[i].2.1,xs[i].2.2]}}:=I.laid (t':=s.toks) (fun b o e=>ν _ e) (Γ _) ⟨by show 2≤aj;decide,[.ref xs[i].2.1,xs[i].2.2],.cons rfl (.cons hu2 .nil),⟨_,Φ _ rfl,rfl,⟨_,rfl⟩,rfl⟩⟩;have lt:∀b∈[it],b<s.heap.objs.size:=fun b hb=>by
   rw[cH.mp hb];exact Ω Z
  have hf':∀b∈[it],jc X pins (upd H s.heap.objs.size (.tup [.ref xs[i].2.1,vs[i]])) b:=fun b hb=>⟨by rw[dR (aX (lt b hb))];exact (hf b hb).1,(hf b hb).2⟩;have I2:L2.Inv X pins σ (upd H s.heap.objs.size (.tup [.ref xs[i].2.1,vs[i]])) { s with heap:=h2 }:=sa (s:={ s with heap:=s.heap.push { cls:=.type "tuple",data:=.seq #[.ref xs[i].2.1,xs[i].2.2]}}) (t':=s.toks) I1 (fun b o hb e=>by
   simp only[az,dY,or_false] at hb;refine b2.extBut b o hb ?_;rcases qE e with⟨rfl,rfl⟩|e
   ·exact T'
   ·exact kp b o hb e) hf'
  exact⟨.ref s.heap.objs.size,_,I2,rfl,⟨_,xs[i],vs[i],rfl,hn,rfl,hx,ar hlv⟩,⟨_,_,Z2⟩,fun b hb=>(hf' b hb).1⟩
 done:=by
  intro X hP hw hK hc i pins s σ H E I hf st hg;subst hP hw hK;obtain⟨ok,ov,Z⟩:=st;obtain⟨e1,hl⟩:=hg;exact Nv (I.ok.hd hc) Z (vW I e1) hdat (by rw[size_of_entries hes];exact hl) fun h' kp=>⟨rfl,sa (t':=s.toks) I (fun b o hb e=>kp b o (by simpa using hb) e) hf⟩
 self:=fun A i s Q E ⟨ok,ov,Z⟩ h=>by
  have hT:s.TypeIs (.ref it) "dict_itemiterator":=⟨_,Z,rfl⟩;refine jK hT F.slot_dict_itemiterator_iter (bW F.slot_dict_itemiterator_iter hT (b:=dP.«dict_keyiterator.__iter__») ?_ ?_ (F.args_dict_itemiterator_iter_1 _))
  ·exact pR (id':="dict_keyiterator.__iter__") (by kernel_rfl) (by decide +kernel) (by decide +kernel) (by kernel_rfl)
  ·show ρ _ _ (ret (.ref it)) _ _ s;exact ι ⟨_,rfl,"dict_itemiterator",_,hT,F.slot_dict_itemiterator_next.lookup,h⟩
section
variable {X:Cx} {es:List π} {n0:Nat} {ps apos cpos:aL} {o:π}
theorem Nt{to:TE}(ho:PE X o to)(nt:attributeBase o "items" X.env (eval o X.env)=eval o X.env)(nr:(apos.endLine==cpos.line)=true):
  PI X (.Tuple es n0 ps) (.Call (.Attribute o "items" apos) [] [] cpos) (fun σ H R=>to σ H fun x H1=>∃a ob xs vs,x=.ref a/\H1 a=some (.ext (fO a ob))/\(a==sysModules)=false/\kz ob xs/\bh vs (xs.map (·.2.2))/\R (Ct a ob xs vs) H1):=by
 intro pins s σ H R I h;refine wpAny_Call_method0_late nt nr (bL (ho pins s σ H _ I h) fun v s1 ⟨x,H1,I1,r1,a,ob,xs,vs,ex,e1,z0,RD,hv,q⟩=>?_);subst ex;obtain rfl:v=aV a:=r1;have hh:=vW I1 e1;have hT:s1.TypeIs (.ref a) "dict":=⟨ob,hh,RD.1.1⟩;refine⟨"dict","dict.items",F.plainAttrs_dict,F.slot_dict_items,F.type_dict_items,hT,fun a1 e=>by cases e;exact⟨ob,hh,RD.1.2.1⟩,j0 rfl (PySem.evalArgs_none ?_)⟩;refine call_meetsIn F.slot_dict_items hT F.entry_dict_items (F.args_dict_items_1 _) (Ny a z0) ⟨hT,?_⟩;obtain⟨_,⟨P',w',ees,ep,r2,r3⟩,_⟩:=RD;refine Nx (s:={ s1 with heap:=s1.heap.push { cls:=.type "dict_items",data:=.fields #[.ref a]}}) (o:=ob) ⟨_,Φ _ rfl,rfl,rfl⟩ (ν _ hh) r2 ?_
 refine⟨_,[_],_,Ct a ob xs vs,H1,rfl,I1.kept (t':=s1.toks) (fun b o e=>ν _ (ν _ e)),Nu a _ r2 r3 hv,⟨_,_,Φ _ rfl⟩,fun b hb=>?_,q⟩;have hb:s1.heap.objs.size≤b:=by
  rw[cH.mp hb,eE];exact sP _
 exact I1.o8 hb (I1.cq.fresh hb)
def rE(to:aK):ls:=fun τ G R=>to τ G fun x G1=>match x with
 |.obj p=>∃kvs ob,G1 p=some (.gen (fN kvs ob))/\R ⟨kvs.map (fun q=>.tup [tupI q.1,q.2]),fun G=>G p=some (.gen (fN kvs ob))⟩ G1
 |_=>False
theorem Nr{to:aK}(ho:bV X o to)(nt:attributeBase o "items" X.env (eval o X.env)=eval o X.env:=by rfl)(nr:(apos.endLine==cpos.line)=true:=by rfl):
  rO X (.Tuple es n0 ps) (.Call (.Attribute o "items" apos) [] [] cpos) (rE to):=
 uL (Nt ho nt nr) fun σ H R ⟨τ,G,R3,RS,RG,h,k⟩=>⟨τ,G,_,RS,RG,h,fun v H1 d G1 h1 S1 R1 q1=>by
  cases d with
  |obj p=>
   obtain⟨kvs,ob,e1,q⟩:=q1;obtain⟨⟨z1,z0,xs,z2,z3⟩,_⟩:=R1 p _ e1;obtain⟨vs,hv1,hv2⟩:=z3.vals;have hlen:xs.length=kvs.length:=by
    have:=congrArg eJ z3.keys;rwa [ξ,ξ] at this
   refine⟨p,ob,xs,vs,i4 h1,z1,z0,z2,hv2,k _ _ _ _ ⟨?_,?_⟩ S1 R1 q⟩
   ·intro i d H' G' E' RG' hg hi;have hi:(kvs.map fun q=>D.tup [tupI q.1,q.2])[i]?=some d:=hi;rw[ag] at hi;obtain⟨q,hq,rfl⟩:=Option.map_eq_some_iff.mp hi;obtain⟨x,hx,er⟩:=(z3.ext E').get hq;obtain⟨u,hu1,hu2⟩:=hv1.get (i:=i) (d:=q.2) (by rw[ag,hq];rfl);refine⟨⟨(RG' p _ hg).1.1,(aw.mp hx).1⟩,fun x' H'' hy=>?_⟩;obtain⟨T,e,v,rfl,hn,rfl,hx2,hv3⟩:=hy;rw[hx] at hx2;rw[hu1] at hv3;cases hx2;cases hv3;refine⟨?_,.laid hn,RG'.laid hn⟩;unfold Hv;refine⟨T,_,rfl,.of g8,.cons ?_ (.cons ((hu2.ext E').ext (.laid hn)) .nil)⟩;show Hv _ _ (.tup (q.1.map D.int)) _;unfold Hv;have ht:=cF.ext (.laid hn:Ext H' (upd H' T (.tup [.ref x.2.1,u]))) er.t;rw[er.k] at ht;exact⟨_,_,rfl,ht,FL q.1⟩
   ·intro i H' G' E' RG' hg hi;have hi:(kvs.map fun q=>D.tup [tupI q.1,q.2]).length≤i:=hi;rw[ξ] at hi;exact⟨(RG' p _ hg).1.1,by lia⟩
  |_=>exact q1.elim⟩
end
end L3
namespace L3
open PySem PySem.Spec PyProof.Rows L2
def o9(G:Gp)(a:ε):Gp:=fun b=>if b=a then none else G b
theorem B3{G:Gp}{a b:ε}(h:b≠a):o9 G a b=G b:=by simp[o9,h]
theorem dg.del{G G1:Gp}{p:ε}{o:GO}(n:dg G p o G1):Sub G (o9 G1 p):=fun a u e=>by
 rw[B3]
 ·exact n.sub a u e
 ·intro z;rw[z,n.ak] at e;cases e
section
variable {X:Cx} {e:π} {ta:aK} {pins:List (ε×aN)} {σ:L2.St} {H:Hp} {s:η} {a:ε} {xs:List V}
theorem Nq(I:Inv X pins σ H s)(h:H a=some (.lst xs)):∃o,Inv X pins σ (upd H a (.gI o (.lst xs))) s:=by
 obtain⟨z,its,n,r,p⟩:=I.cq a _ h;exact⟨_,I.write (e:=a) (h':=s.heap) (t':=s.toks) (by rw[h];trivial) (.inl rfl) (fun b u _ q=>q) ⟨_,p⟩ ⟨p,z,its,n,r,p⟩⟩
def zk(ta:aK):aK:=fun τ G Q=>ta τ G fun x G1=>match x with
 |.obj a=>∃ds,G1 a=some (.lst ds)/\Q (.fo ds) (o9 G1 a)
 |_=>False
theorem Np(ha:bV X e ta):bV X e (zk ta):=by
 intro pins s σ H Q I ⟨τ,G,Q3,RS,RG,h,kk⟩;refine bL (ha pins s σ H (fun v H1=>∃d G1,Hv X.K H1 d v/\Step H G H1 G1/\bo X.K G1 H1/\(match d with
  |.obj a=>∃ds,G1 a=some (.lst ds)/\Q3 (.fo ds) (o9 G1 a)
  | _=>False)) I ⟨τ,G,_,RS,RG,h,fun v H1 d G1 a b c q=>⟨d,G1,a,b,c,q⟩⟩) fun u s1 ⟨v,H1,I1,r1,d,G1,hd,S1,R1,q⟩=>?_
 cases d with
 |obj a=>
  obtain⟨ds,e1,q⟩:=q;obtain⟨vs,e2,e3⟩:=R1 a _ e1;obtain⟨o,I2⟩:=Nq I1 e2;refine⟨v,_,I2,r1,kk v _ (.fo ds) _ ?_ ⟨fun b u f n=>?_,fun b f=>?_,fun b n f=>?_⟩ (fun b u f=>?_) q⟩
  ·unfold Hv;exact⟨a,vs,i4 hd,.inl ⟨o,g8⟩,e3.ext (.wrote e2)⟩
  ·by_cases z:b=a
   ·subst z;rw[S1.new b n (by rw[e1];exact nofun)] at f;cases f
   ·rw[dR z];exact S1.fr b u f n
  ·by_cases z:b=a
   ·subst z;rw[g8];exact nofun
   ·rw[dR z];exact S1.nC b f
  ·by_cases z:b=a
   ·subst z;exact absurd (show o9 G1 b b=none by simp[o9]) f
   ·rw[B3 z] at f;exact S1.new b n f
  ·by_cases z:b=a
   ·subst z;rw[show o9 G1 b b=none by simp[o9]] at f;cases f
   ·rw[B3 z] at f;exact (R1 b u f).ext (.wrote e2) (by rw[dR z])
 |_=>exact q.elim
theorem FK(ha:QE X e ta):QE X e (zk ta):=⟨Np ha.of⟩
end
end L3
namespace L3
open PySem PySem.Spec PyProof.Rows L2
def AO(G:Gp):D->List D->Prop
 |.obj p,ds=>G p=some (.lst ds)
 |.fo es,ds=>ds=es
 |_,_=>False
def tV:R3:=fun x y G Q=>∃ds es,AO G x ds/\AO G y es/\ds.length+es.length≤aj/\∀p G',dg G p (.lst (ds++es)) G'->Q (.obj p) G'
def C9(K:ζ):R2:=fun x y H Q=>∃l b xs zs,x=.ref l/\y=.ref b/\eA K H l xs/\eA K H b zs/\xs.length+zs.length≤aj/\∀p,H p=none->Q (.ref p) (upd H p (.lst (xs++zs)))
section
variable {X:Cx} {K:ζ}
theorem Bq:eB X (binaryOp .Add) (C9 X.K):=by
 intro pins s σ H x y v u Q I rx ry h;obtain⟨l,b,xs,zs,rfl,rfl,hH,hB,hz,q⟩:=h;cases rx;cases ry;obtain⟨its,r,⟨⟨cls,dd,data,sl⟩,n,e,h1,h2,h3⟩,_⟩:=I.list hH;obtain⟨its2,r2,⟨⟨cls2,dd2,data2,sl2⟩,n2,e2,g1,g2,g3⟩,_⟩:=I.list hB;simp only at h1 h2 h3 g1 g2 g3;subst h1 h2 h3 g1 g2 g3;have hsz:its.toArray.size+its2.toArray.size≤aj:=by
  rw[υ,υ,←r.length,←r2.length];exact hz
 refine nU ⟨_,e,rfl⟩ ⟨_,e2,rfl⟩ noFill_list_add seq_list_add F.slot_list_add F.entry_list_add (F.args_list_add_2 _ _) (list_addW l b its.toArray its2.toArray n n2 none none sl sl2 hsz) ⟨e,e2,?_⟩;have ea:its.toArray++its2.toArray=(its++its2).toArray:=by simp
 rw[ea];exact⟨.ref _,_,I.yD (t':=s.toks) (r.append r2) (by rw[aa];omega),rfl,q _ I.fresh⟩
theorem FJ{H:Hp}{G:Gp}{x:D}{v:V}{ds:List D}(hv:Hv K H x v)(RG:bo K G H)(h:AO G x ds):∃a vs,v=.ref a/\eA K H a vs/\aO K H ds vs:=by
 cases x with
 |obj p=>
  obtain⟨vs,e2,e3⟩:=RG p _ h;exact⟨p,vs,i4 hv,eA.of e2,e3⟩
 |fo es=>
  obtain⟨a,vs,rfl,e2,e3⟩:=rp hv;cases (show ds=es from h);exact⟨a,vs,rfl,e2.l,e3⟩
 |_=>exact h.elim
theorem Bp:eG K tV (C9 K):=fun x y vx vy G H Q3 Q hx hy RG h k=>by
 obtain⟨ds,es,h1,h2,hz,q⟩:=h;obtain⟨a,vs,rfl,e1,e2⟩:=FJ hx RG h1;obtain⟨b,us,rfl,y1,y2⟩:=FJ hy RG h2;exact⟨a,b,vs,us,rfl,rfl,e1,y1,by rw[←e2.length,←y2.length];exact hz,fun p hp=>k _ _ (.obj p) _ qj (.ix hp) (RG.tJ hp (e2.append y2)) (q p _ (.mk' (RG.free hp)))⟩
end
section
variable {X:Cx} {o i e f:π} {pos pos' p apos cpos ps:aL} {to ti tv tk td:aK} {es:List π} {n0:Nat}
theorem MK:QE X (.Dict [] [] pos) wZ:=⟨M0⟩
theorem MJ(hu:X.A.units+64<cLine)(ho:QE X o to)(hi:QE X i ti)(hv:QE X e tv)(hs:swapsWith e (some (.Subscript o i pos')) pos.line X.env=pure false:=by rfl):
  QS X (.Assign [.Subscript o i pos'] e pos) (xB to ti tv):=⟨MY hu ho.of hi.of hv.of hs⟩
theorem MI(hu:X.A.units+64<cLine)(ho:QE X o to)(he:QE X e tk)(hf:QE X f td)(m:M2 X o "get" apos e f cpos:=by exact⟨rfl,rfl,rfl,rfl⟩):QE X (.Call (.Attribute o "get" apos) [e,f] [] cpos) (zj to tk td):=⟨MW hu ho.of he.of hf.of m⟩
theorem MH(hu:X.A.units+64<cLine)(hk:QE X i tk)(hv:QE X e tv):QE X (.Dict [some i] [e] pos) (zl tk tv):=⟨Nz hu hk.of hv.of⟩
theorem Bo(ho:QE X o to)(nt:attributeBase o "items" X.env (eval o X.env)=eval o X.env:=by rfl)(nr:(apos.endLine==cpos.line)=true:=by rfl):
  QI X (.Tuple es n0 ps) (.Call (.Attribute o "items" apos) [] [] cpos) (rE to):=⟨Nr ho.of nt nr⟩
end
end L3
namespace My
open PySem L2 L3
def vD(w:List Int):D:=.fo (w.map D.int)
def fB(kvs:WK):List KD:=kvs.map fun q=>(eH q.1,vD q.2)
theorem MG(kvs:WK):(fB kvs).map (·.1)=(kvs.map (·.1)).map eH:=by
 unfold fB;rw[bH,bH];rfl
theorem xt{kvs:WK}{c:ω}:eH c∈(fB kvs).map (·.1)↔c∈kvs.map (·.1):=by
 rw[MG];constructor
 ·intro h;obtain⟨d,hd,e⟩:=aP.mp h;rw[←wF e];exact hd
 ·exact fun h=>qQ h
theorem MF(kvs:WK)(c:ω)(v:List Int):uN (fB kvs) (eH c) (vD v)=fB (oQ kvs c v):=by
 unfold uN oQ;by_cases h:c∈kvs.map (·.1)
 ·rw[if_pos h,if_pos (xt.mpr h)];unfold fB;rw[bH,bH];refine aM fun q _=>?_;show (if eH q.1=eH c then (eH q.1,vD v) else (eH q.1,vD q.2))=_;by_cases e:q.1=c
  ·rw[if_pos (by rw[e])];show _=(eH (if q.1=c then (q.1,v) else q).1,vD (if q.1=c then (q.1,v) else q).2);rw[if_pos e]
  ·rw[if_neg (fun z=>e (wF z))];show _=(eH (if q.1=c then (q.1,v) else q).1,vD (if q.1=c then (q.1,v) else q).2);rw[if_neg e]
 ·rw[if_neg h,if_neg (fun z=>h (xt.mp z))];unfold fB;rw[bB];rfl
theorem ME{G:Gp}{kvs:WK}{c:ω}{p:ε}{y:List Int}(h:G p=some (.lst (y.map D.int))):mE G (lQ (fB kvs) (eH c) (.obj p)) ((ft kvs c y).map D.int):=by
 unfold lQ ft fB;rw[List.find?_map];have e:((fun p:KD=>decide (p.1=eH c)) ∘ fun q:ω×List Int=>(eH q.1,vD q.2))=fun q:ω×List Int=>decide (q.1=c):=by
  funext q;show decide (eH q.1=eH c)=_;by_cases z:q.1=c
  ·rw[decide_eq_true z,decide_eq_true (by rw[z])]
  ·rw[decide_eq_false z,decide_eq_false fun w=>z (wF w)]
 rw[e];cases kvs.find? fun q=>decide (q.1=c) with
 |none=>exact h
 |some q=>rfl
theorem FI(n:Nat):(av n [D.int 0]).flatten=(av n (0:Int)).map D.int:=by
 induction n with
 |zero=>rfl
 |succ n ih=>
  rw[cM,fS,ih,cM,aq];rfl
def uy:dF:=fun ds G Q=>∃(p r:ε) (kvs:WK) (ob:aN) (c:ω) (w:List Int),ds=[.obj p,cD c,.obj r]/\G p=some (.gen (fN (fB kvs) ob))/\G r=some (.lst (w.map D.int))/\w.length≤100/\kvs.length≤1000 ∧
 ∀ob' G',Sub (da G p (.gen (fN (fB (addW kvs c w)) ob'))) G'->Q .ak G'
def MD:ab:=xB (θ 0) (θ 1) (zk (gV ["one","other"] [] (wV (μ (θ 3) (μ (θ 2) (Ξ)))) (nM 2 (fF (hName 0) (fF (hName 1) (nN)))) (fL) (af cB (θ 0) (θ 1))))
def FH:ab:=aF (bf (zj (θ 0) (θ 1) (af fg (fM (μ (eC (.int 0)) (Ξ))) (dA kE (μ (θ 2) (Ξ))))) (hName 3)) MD
theorem MC{A B:Gp}{p:ε}{o:GO}(h:Sub A B):Sub (da A p o) (da B p o):=fun a u e=>by
 by_cases z:a=p
 ·subst z;rw[lr] at e ⊢;exact e
 ·rw[mi z] at e ⊢;exact h a u e
theorem MB:∀ds G Q,uy ds G Q->FH (aT Q) (bz ["weights","met","weight","ahead"] ds) G:=by
 rintro ds G Q ⟨p,r,kvs,ob,c,w,rfl,hp,hr,hw,hk,q⟩;have hwl:(w.map D.int).length=w.length:=ξ ..;refine⟨⟨_,_,hp⟩,fun p0 G0 n0=>⟨_,n0.sub _ _ hr,_,n0.at_,⟨?_,?_⟩,?_,fun p1 G1 n1=>⟨fB kvs,ob,eH c,n1.sub _ _ (n0.sub _ _ hp),rfl,?_⟩⟩⟩
 ·rw[hwl];lia
 ·rw[hwl];lia
 ·rw[hwl,aU];exact ae (show 1*w.length≤100 by lia) (by decide)
 rw[hwl,aU,FI] at n1;have s1:=n0.sub.trans n1.sub;have hsq:=ME (kvs:=kvs) (c:=c) n1.at_;refine⟨_,_,hsq,s1 _ _ hr,?_⟩;rw[xW D.int D.int];generalize hA:ft kvs c (av w.length 0)=a at hsq;refine⟨?_,?_⟩
 ·show ((a.zip w).map _).length≤aj;rw[ξ,kS];exact cP (by lia)
 refine oV (guard:=fun G'=>mE G' (lQ (fB kvs) (eH c) (.obj p1)) (a.map D.int)/\mE G' (.obj r) (w.map D.int)) (fun τ=>∃x y,τ=[x,y]) (fun p:Int×Int=>D.tup [D.int p.1,D.int p.2]) (fun _=>true) (fun p=>D.int (p.1+p.2)) (G:=G1) ⟨hsq,s1 _ _ hr⟩ (a.zip w) [] _ ⟨none,none,rfl⟩ ?_ ?_
 ·rintro⟨x,y⟩ hm τ K1 K2 ⟨_,_,rfl⟩ g1 g2;exact⟨rfl,fun _=>g1 rfl _ ⟨_,_,rfl⟩,nofun⟩
 intro p2 G2 n2;rw[filter_all,dO] at n2;have ez:((a.zip w).map fun p:Int×Int=>D.int (p.1+p.2))=(lC a w).map D.int:=by
  unfold lC;rw[←ku,bH];rfl
 rw[ez] at n2;have s2:Sub G (o9 G2 p2):=s1.trans n2.del;refine⟨_,n2.at_,fB kvs,ob,eH c,s2 _ _ hp,rfl,by unfold fB;rw[ξ];exact hk,fun ob'=>?_⟩;refine⟨_,Sub.refl _,q ob' _ ?_⟩;have e:uN (fB kvs) (eH c) (.fo ((lC a w).map D.int))=fB (addW kvs c w):=by
  unfold addW;rw[hA];exact MF kvs c (lC a w)
 rw[e];exact MC s2
def tj:dF:=fun ds G Q=>∃cs:List ω,ds=[cT cs]/\(∀c∈cs,Valid c/\c.1≤1000)/\cs.length≤9/\∀p ob G',dg G p (.gen (fN (fB (fQ cs)) ob)) G'->Q (.obj p) G'
def MA:ab:=gH (bK (af (um true) (θ 6) (eC .ak))) (ky (aA uy (μ (θ 3) (μ (θ 6) (μ (gV ["more","less"] [] (wV (μ (af tV (fM (μ (eC (.int 0)) (Ξ))) (θ 5)) (μ (af tV (θ 5) (fM (μ (eC (.int 0)) (Ξ)))) (Ξ)))) (nM 2 (fF (hName 0) (fF (hName 1) (nN)))) (fL) (af iQ (θ 0) (θ 1))) (Ξ)))))) (dI)
def Mz:ab:=aF (bf (aA v7 (μ (θ 4) (μ (θ 2) (Ξ)))) (hName 6)) MA
def FG:ab:=aF (ky (aA uy (μ (θ 3) (μ (θ 4) (μ (af tV (θ 5) (fM (μ (eC (.int 0)) (Ξ)))) (Ξ)))))) Mz
def Mx:ab:=bf (θ 3) (hName 1)
def Mw:ab:=aF (jE (rE (θ 1)) (nM 2 (fF (hName 4) (fF (hName 5) (nN)))) (FG)) Mx
def FF:ab:=aF (bf (wZ) (hName 3)) Mw
def Mv:ab:=cg (θ 1)
def Mu:ab:=aF (jE (mJ (θ 0)) (hName 2) (FF)) Mv
def FE:ab:=aF (bf (zl (qr (μ (eC (.int 1)) (μ (eC (.int 0)) (Ξ)))) (zk (fM (μ (eC (.int 1)) (Ξ))))) (hName 1)) Mu
theorem FD{G0 G1 G2 G':Gp}{p:ε}{o o':GO}(m:dg G0 p o G1)(s:Sub G1 G2)(h:Sub (da G2 p o') G'):dg G0 p o' G':=⟨m.ak,(Sub.sU (m.sub.trans s) m.ak).trans h,h _ _ lr⟩
theorem Mt{D3:gz}{G0 G1:Gp}{x0 x1 x6:Option D}{pg:ε}{ob:aN}{g:WK}{c:ω}{q:ω×List Int}(m:dg G0 pg (.gen (fN (fB g) ob)) G1)(hg:g.length≤900)(hq:q.2.length≤50)(vq:Valid q.1)(vc:Valid c)(bq:q.1.1<10^60)(bc:c.1≤1000)
  (hN:∀ob' G' x6',dg G0 pg (.gen (fN (fB (gF c g q)) ob')) G'->D3.nx [x0,x1,some (cD c),some (.obj pg),some (cD q.1),some (vD q.2),x6'] G'):
  FG D3 [x0,x1,some (cD c),some (.obj pg),some (cD q.1),some (vD q.2),x6] G1:=by
 intro p0 G2 n0;refine⟨_,_,rfl,n0.at_,?_,fun r G3 n3=>⟨pg,r,g,ob,q.1,q.2++[(0:Int)],rfl,n3.sub _ _ (n0.sub _ _ m.at_),?_,?_,by lia,fun ob1 G4 s4=>?_⟩⟩
 ·rw[ξ];exact cP (show q.2.length+1≤1000 by lia)
 ·rw[n3.at_,bB];rfl
 ·rw[aa];show q.2.length+1≤100;lia
 have m4:=FD m (n0.sub.trans n3.sub) s4;have ha:=Cb g q.1 (q.2++[(0:Int)]);refine⟨q.1,c,rfl,vq,vc,bq,fE bc (by decide),?_⟩;unfold gF at hN;cases e:j3 q.1 c with
 |none=>
  rw[e] at hN;exact⟨nofun,fun _=>hN _ _ _ m4⟩
 |some b=>
  rw[e] at hN;refine⟨fun _=>?_,nofun⟩;intro p5 G5 n5;refine⟨_,_,n5.at_,rfl,?_,fun r6 G6 n6=>?_⟩
  ·rw[ξ];exact cP (show 1+q.2.length≤1000 by lia)
  intro p7 G7 n7;refine⟨_,_,rfl,n7.at_,?_,fun r8 G8 n8=>?_⟩
  ·rw[ξ];exact cP (show q.2.length+1≤1000 by lia)
  have s8:Sub G4 G8:=(n5.sub.trans n6.sub).trans (n7.sub.trans n8.sub);have e6:G8 r6=some (.lst ((0::q.2).map D.int)):=n8.sub _ _ (n7.sub _ _ n6.at_);have e8:G8 r8=some (.lst ((q.2++[(0:Int)]).map D.int)):=by
   rw[n8.at_,bB];rfl
  refine⟨_,_,e6,e8,?_⟩;rw[xW D.int D.int];refine⟨?_,?_⟩
  ·show (((0::q.2).zip (q.2++[(0:Int)])).map _).length≤aj;rw[ξ,kS,ax];exact cP (by lia)
  refine oV (guard:=fun G'=>mE G' (.obj r6) ((0::q.2).map D.int)/\mE G' (.obj r8) ((q.2++[(0:Int)]).map D.int)) (fun τ=>∃x y,τ=[x,y]) (fun p:Int×Int=>D.tup [D.int p.1,D.int p.2]) (fun _=>true) (fun p=>D.int (p.1-p.2)) (G:=G8) ⟨e6,e8⟩ ((0::q.2).zip (q.2++[(0:Int)])) [] _ ⟨none,none,rfl⟩ ?_ ?_
  ·rintro⟨x,y⟩ hm τ K1 K2 ⟨_,_,rfl⟩ g1 g2;exact⟨rfl,fun _=>g1 rfl _ ⟨_,_,rfl⟩,nofun⟩
  intro r9 G9 n9;rw[filter_all,dO] at n9;have ez:(((0::q.2).zip (q.2++[(0:Int)])).map fun p:Int×Int=>D.int (p.1-p.2))=(jD (0::q.2) (q.2++[(0:Int)])).map D.int:=by
   unfold jD;rw[←ku,bH];rfl
  rw[ez] at n9;refine⟨pg,r9,addW g q.1 (q.2++[(0:Int)]),ob1,b,jD (0::q.2) (q.2++[(0:Int)]),rfl,n9.sub _ _ (s8 _ _ m4.at_),n9.at_,by rw[FR];lia,by lia,fun ob2 GA sA=>hN ob2 GA _ (FD m4 (s8.trans n9.sub) sA)⟩
theorem Bn{n:Nat}(h:n≤9):(1000:Int)^n<10^60:=by
 have h1:1000^n≤1000^9:=bM (by decide) h;have h2:(((1000^n:Nat)):Int)≤((1000^9:Nat):Int):=rZ.mpr h1;rw[Int.natCast_pow] at h2;exact fE h2 (by decide)
theorem Ms(cs:List ω)(c:ω):fQ (cs++[c])=vB c (fQ cs):=by
 unfold fQ;rw[List.foldl_append];rfl
theorem Mr{D3:gz}{G G1:Gp}{x0 x3 x4 x5 x6:Option D}{p:ε}{ob:aN}{done:List ω}{c:ω}(W:nO done (fQ done))(hl:done.length≤8)(hc:Valid c/\c.1≤1000)(m:dg G p (.gen (fN (fB (fQ done)) ob)) G1)
  (hN:∀p' ob' G' x3 x4 x5 x6,dg G p' (.gen (fN (fB (fQ (done++[c]))) ob')) G'->D3.nx [x0,some (.obj p'),some (cD c),x3,x4,x5,x6] G'):
  FF D3 [x0,some (.obj p),some (cD c),x3,x4,x5,x6] G1:=by
 intro pg obg Gg ng;have hB:(0:Int)≤1000^done.length:=Int.pow_nonneg (by decide);have hkl:(fQ done).length≤256:=ae W.many (ae (bM (by decide) hl) (by decide));refine⟨fB (fQ done),ob,ng.sub _ _ m.at_,?_⟩;have ei:(fB (fQ done)).map (fun q=>D.tup [tupI q.1,q.2])=(fQ done).map fun q=>D.tup [cD q.1,vD q.2]:=by
  unfold fB;rw[bH];rfl
 rw[ei];refine kC (fun ds τ G'=>∃(dn rs:WK) (obg':aN) (y4 y5 y6:Option D),dn++rs=fQ done/\ds=rs.map (fun q=>D.tup [cD q.1,vD q.2])/\τ=[x0,some (.obj p),some (cD c),some (.obj pg),y4,y5,y6]/\dg G1 pg (.gen (fN (fB (dn.foldl (gF c) [])) obg')) G') (fun _ _ _ h=>?_) ?_ ?_ _ _ _ ⟨[],fQ done,obg,x4,x5,x6,rfl,rfl,rfl,ng⟩
 ·obtain⟨_,_,_,_,_,_,_,_,_,mm⟩:=h;exact mm.sub _ _ m.at_
 ·rintro d ds τ G2 N ⟨dn,rs,obg',y4,y5,y6,ek,e,rfl,mm⟩ hN2;cases rs with
  |nil=>cases e
  |cons q rs=>
   cases e;have hqm:q∈fQ done:=by rw[←ek];exact bD _ Ψ
   have hdm:∀z∈dn,z∈fQ done:=fun z hz=>by rw[←ek];exact eS _ hz
   have hdl:dn.length≤256:=by
    have:=congrArg eJ ek;rw[aa] at this;lia
   obtain⟨_,_,_,t4⟩:=B9 hc hB (kvs:=dn) (g:=[]) (fun z hz=>W.ok.len z (hdm z hz)) (fun z hz=>W.ok.val z (hdm z hz)) ⟨nofun,nofun,jv⟩;have t4:(dn.foldl (gF c) []).length≤0+2*dn.length:=t4;have vq:=W.ok.val q hqm;have lq:=W.ok.len q hqm;refine⟨rfl,?_⟩;refine Mt mm (by lia) (by lia) vq.1 hc.1 (fE vq.2 (Bn (by lia))) hc.2 fun ob' G' x6' m'=>hN2 _ _ ⟨dn++[q],rs,ob',_,_,_,by rw[e7];exact ek,rfl,rfl,?_⟩;rw[List.foldl_append];exact m'
 ·rintro τ G2 ⟨dn,rs,obg',y4,y5,y6,ek,e,rfl,mm⟩;have e0:rs=[]:=by
   cases rs with
   |nil=>rfl
   |cons z zs=>cases e
  subst e0;rw[cU] at ek;subst ek;refine hN pg obg' G2 _ _ _ _ ?_;rw[Ms];exact⟨m.sub.of_none mm.ak,m.sub.trans mm.sub,mm.at_⟩
theorem Mq:∀ds G Q,tj ds G Q->FE (aT Q) (bz ["clocks","weights","clock","grown","met","weight","both"] ds) G:=by
 rintro ds G Q ⟨cs,rfl,hc,hl,q⟩;intro p o0 G0 n0 p1 G1 n1;refine⟨_,n1.at_,[1,0],rfl,n1.del _ _ n0.at_,fun o'=>?_⟩;refine kC (fun ds τ G'=>∃(dn rs:List ω) (p:ε) (ob:aN) (x2 x3 x4 x5 x6:Option D),dn++rs=cs/\ds=rs.map cD/\τ=[some (cT cs),some (.obj p),x2,x3,x4,x5,x6]/\dg G p (.gen (fN (fB (fQ dn)) ob)) G') (fun _ _ _ _=>trivial) ?_ ?_ _ _ _ ⟨[],cs,p,o',_,_,_,_,_,rfl,rfl,rfl,n0.ak,Sub.sU (n0.sub.trans n1.del) n0.ak,lr⟩
 ·rintro d ds τ G2 N ⟨dn,rs,p,ob,x2,x3,x4,x5,x6,ek,e,rfl,m⟩ hN;cases rs with
  |nil=>cases e
  |cons c rs=>
   cases e;have hcm:c∈cs:=by rw[←ek];exact bD _ Ψ
   have hdm:∀z∈dn,z∈cs:=fun z hz=>by rw[←ek];exact eS _ hz
   have hdl:dn.length≤8:=by
    have:=congrArg eJ ek;rw[aa,ax] at this;lia
   exact Mr (B8 fun z hz=>hc z (hdm z hz)) hdl (hc c hcm) m fun p' ob' G' x3 x4 x5 x6 m'=>hN _ _ ⟨dn++[c],rs,p',ob',_,_,_,_,_,by rw[e7];exact ek,rfl,rfl,m'⟩
 ·rintro τ G2 ⟨dn,rs,p,ob,x2,x3,x4,x5,x6,ek,e,rfl,m⟩;have e0:rs=[]:=by
   cases rs with
   |nil=>rfl
   |cons z zs=>cases e
  subst e0;rw[cU] at ek;subst ek;exact eI (q p ob G2 m)
def ux:dF:=fun ds G Q=>∃(c:ω) (b:Int),ds=[cD c,.int b]/\Valid c/\c.1<10^60/\0≤b/\Q (.int (iE c b)) G
def FC:ab:=cg (dA uI (μ (eC (.int 0)) (μ (af cB (af kA (af iQ (af iQ (θ 1) (af eK (θ 0) (eC (.int 1)))) (eC (.int 1))) (af eK (θ 0) (eC (.int 0)))) (eC (.int 1))) (Ξ))))
theorem FA{c:ω}{b:Int}(h:Valid c)(hb:0≤b):0≤iE c b:=by
 have h1:=h.1;have h2:=h.2.2;have:(-1:Int)≤(b-c.2-1) / c.1:=Int.le_ediv_of_mul_le h1 (by lia);unfold iE;lia
theorem Mp:∀ds G Q,ux ds G Q->FC (aT Q) (bz ["clock","bound"] ds) G:=by
 rintro ds G Q ⟨c,b,rfl,hv,h1,h0,q⟩;have hp:=hv.1;have h2:=hv.2.1;have h3:=hv.2.2;have hr:=FA hv h0;refine⟨_,rfl,_,rfl,⟨hp,dX (by lia) (by lia)⟩,?_⟩;have e:(if iE c b > 0 then iE c b else 0)=iE c b:=by
  split<;>lia
 show (aT Q).rt (.int (if iE c b > 0 then iE c b else 0)) G;rw[e];exact eI q
def uw:dF:=fun ds G Q=>∃(p:ε) (cs:List ω) (ob:aN) (b:Nat),ds=[.obj p,.int b]/\G p=some (.gen (fN (fB (fQ cs)) ob))/\(∀c∈cs,Valid c/\c.1≤1000)/\cs.length≤9/\b<10^60/\∀G',Sub G G'->Q (.int (dB cs 0 b:Nat)) G'
def Fz:ab:=cg (dA wg (μ (gV ["met","weight"] [1] (rE (θ 0)) (nM 2 (fF (hName 0) (fF (hName 1) (nN)))) (fL) (af fg (af eK (θ 1) (eC (.int 0))) (aA ux (μ (θ 0) (μ (θ 2) (Ξ)))))) (Ξ)))
theorem Fy{α:Type}(f:α->Int):∀xs:List α,intsOf (xs.map fun x=>D.int (f x))=some (xs.map f)
 |[]=>rfl
 |x::xs=>by
  show intsOf (D.int (f x)::xs.map fun x=>D.int (f x))=_;simp only[intsOf,Fy f xs];rfl
theorem Mo(w:List Int)(h:0<w.length):jQ (w.map D.int) 0=some (.int (w.getD 0 0)):=by
 cases w with
 |nil=>cases h
 |cons a w=>exact wz (xs:=(a::w).map D.int) (j:=0) (v:=.int a) rfl
theorem Fx{c:ω}{b:Nat}(h:Valid c)(hb:b<10^60):gA (iE c b):=by
 have h0:=FA h (cY b);have:iE c b≤b+1:=by
  unfold iE;have h1:=h.1;have h2:=h.2.1;have:(((b:Nat):Int)-c.2-1) / c.1≤b:=by
   by_cases hn:0≤((b:Nat):Int)-c.2-1
   ·exact ie (Int.ediv_le_self _ hn) (by lia)
   ·exact ie (Int.le_of_lt (Int.ediv_neg_of_neg_of_pos (by lia) h1)) (cY _)
  lia
 have hb':((b:Nat):Int)<10^60:=by exact_mod_cast hb
 exact dX (by lia) (by lia)
theorem Fw{cs:List ω}{kvs:WK}(W:nO cs kvs)(hl:cs.length≤9){q:ω×List Int}(hq:q∈kvs)(j:Nat):gA (q.2.getD j 0):=by
 have h1:=Nc q.2 j;have h2:=Nb hq;have h3:=W.abs;have h4:3^cs.length≤3^9:=bM (by decide) hl;have h5:(3:Nat)^9=19683:=by decide
 exact dX (by lia) (by lia)
theorem Mn:∀ds G Q,uw ds G Q->Fz (aT Q) (bz ["weights","bound"] ds) G:=by
 rintro ds G Q ⟨p,cs,ob,b,rfl,hp,hc,hl,hb,q⟩;have W:=B8 hc;have hb':((b:Nat):Int)<10^60:=by exact_mod_cast hb
 have hkl:(fQ cs).length≤512:=ae W.many (ae (bM (by decide) hl) (by decide));refine⟨fB (fQ cs),ob,hp,?_⟩;have ei:(fB (fQ cs)).map (fun q=>D.tup [tupI q.1,q.2])=(fQ cs).map fun q=>D.tup [cD q.1,vD q.2]:=by
  unfold fB;rw[bH];rfl
 rw[ei];refine⟨?_,?_⟩
 ·show ((fQ cs).map _).length≤aj;rw[ξ];exact cP (by lia)
 refine oV (guard:=fun G'=>G' p=some (.gen (fN (fB (fQ cs)) ob))) (fun τ=>∃x y,τ=[x,y,some (.int b)]) (fun q:ω×List Int=>D.tup [cD q.1,vD q.2]) (fun _=>true) (fun q=>D.int (q.2.getD 0 0*iE q.1 b)) (G:=G) hp (fQ cs) [] _ ⟨none,none,rfl⟩ ?_ ?_
 ·rintro e hm τ K1 K2 ⟨_,_,rfl⟩ g1 g2;have vq:=W.ok.val e hm;have lq:=W.ok.len e hm;exact⟨rfl,fun _=>⟨_,Mo e.2 (by lia),e.1,b,rfl,vq.1,fE vq.2 (Bn hl),cY _,⟨Fw W hl hm 0,Fx vq.1 hb⟩,g1 rfl _ ⟨_,_,rfl⟩⟩,nofun⟩
 ·intro p2 G2 n2;rw[filter_all,dO] at n2;refine⟨_,_,n2.at_,Fy _ _,?_⟩;have:=FP W 0 b;unfold tW at this;rw[this];exact eI (q G2 n2.sub)
end My
namespace My
open PySem L2 L3
def dQ(cs:List ω)(b:Nat):List Int:=(Δ (cs.length+1)).map fun j=>((dB cs j b:Nat):Int)
def i9(n:Nat)(kvs:WK)(b:Nat):List Int:=(Δ (n+1)).map fun j=>tW kvs j b
theorem Bm(n:Nat)(kvs:WK)(b:Nat):(i9 n kvs b).length=n+1:=by
 unfold i9;rw[ξ,fR]
theorem Mm(kvs:WK)(q:ω×List Int)(j:Nat)(b:Int):tW (kvs++[q]) j b=tW kvs j b+q.2.getD j 0*iE q.1 b:=by
 unfold tW;rw[bB,eR];simp
theorem Ml{n:Nat}(kvs:WK){q:ω×List Int}(hq:q.2.length=n+1)(b:Nat):((i9 n kvs b).zip q.2).map (fun p:Int×Int=>p.1+iE q.1 b*p.2)=i9 n (kvs++[q]) b:=by
 refine g7 fun j=>?_;by_cases hj:j<n+1
 ·have hz:((i9 n kvs b).zip q.2)[j]?=some (tW kvs j b,q.2[j]'(by lia)):=by
   rw[ny];refine⟨?_,ar _⟩;unfold i9;rw[ag,dq hj];rfl
  rw[ag,hz];unfold i9;rw[ag,dq hj];show some (tW kvs j b+iE q.1 b*q.2[j]'(by lia))=some (tW (kvs++[q]) j b);rw[Mm,bp,ar (by lia),eV];rfl
 ·rw[cR (by rw[ξ,kS,Bm];lia),cR (by rw[Bm];lia)]
theorem Mk(n b:Nat):i9 n [] b=av (n+1) 0:=by
 unfold i9;refine g7 fun j=>?_;rw[ag,gD];by_cases hj:j<n+1
 ·rw[dq hj,if_pos hj];rfl
 ·rw[cR (by rw[fR];lia),if_neg hj];rfl
theorem MU{cs:List ω}(W:nO cs (fQ cs))(b:Nat):i9 cs.length (fQ cs) b=dQ cs b:=by
 unfold i9 dQ;refine aM fun j _=>?_;exact FP W j b
theorem MT{cs:List ω}{kvs:WK}(W:nO cs kvs)(hl:cs.length≤9){q:ω×List Int}(hq:q∈kvs){y:Int}(hy:y∈q.2):gA y:=by
 obtain⟨j,hj,e⟩:=List.getElem_of_mem hy;have:=Fw W hl hq j;rw[bp,ar hj,e] at this;exact this
def oU:dF:=fun ds G Q=>∃(cs:List ω) (b:Nat),ds=[cT cs,.int b]/\(∀c∈cs,Valid c/\c.1≤1000)/\cs.length≤9/\b<10^60/\∀p G',dg G p (.lst ((dQ cs b).map D.int)) G'->Q (.obj p) G'
def MS:ab:=bf (gV ["counted","part"] [5] (wV (μ (θ 2) (μ (θ 4) (Ξ)))) (nM 2 (fF (hName 0) (fF (hName 1) (nN)))) (fL) (af cB (θ 0) (af fg (θ 2) (θ 1)))) (hName 2)
def MR:ab:=aF (bf (aA ux (μ (θ 3) (μ (θ 1) (Ξ)))) (hName 5)) MS
def MQ:ab:=cg (θ 2)
def Gm:ab:=aF (jE (rE (aA tj (μ (θ 0) (Ξ)))) (nM 2 (fF (hName 3) (fF (hName 4) (nN)))) (MR)) MQ
def MP:ab:=aF (bf (af fg (fM (μ (eC (.int 0)) (Ξ))) (af cB (dA kE (μ (θ 0) (Ξ))) (eC (.int 1)))) (hName 2)) Gm
def Gk:ab:=aF (ky (aA qe (μ (dA kE (μ (θ 0) (Ξ))) (μ (eC (.int 10)) (Ξ))))) MP
theorem MO{Q:V3}{G G1:Gp}{cs:List ω}{b:Nat}{p0:ε}{x3 x4 x5:Option D}(hc:∀c∈cs,Valid c/\c.1≤1000)(hl:cs.length≤9)(hb:b<10^60)(m0:dg G p0 (.lst ((av (cs.length+1) (0:Int)).map D.int)) G1)
  (q:∀p G',dg G p (.lst ((dQ cs b).map D.int)) G'->Q (.obj p) G'):Gm (aT Q) [some (cT cs),some (.int b),some (.obj p0),x3,x4,x5] G1:=by
 have W:=B8 hc;refine⟨cs,rfl,hc,hl,fun pw ob G2 n2=>⟨fB (fQ cs),ob,n2.at_,?_⟩⟩;have ei:(fB (fQ cs)).map (fun q=>D.tup [tupI q.1,q.2])=(fQ cs).map fun q=>D.tup [cD q.1,vD q.2]:=by
  unfold fB;rw[bH];rfl
 rw[ei];refine kC (fun ds τ G'=>∃(dn rs:WK) (pt:ε) (y3 y4 y5:Option D),dn++rs=fQ cs/\ds=rs.map (fun q=>D.tup [cD q.1,vD q.2])/\τ=[some (cT cs),some (.int b),some (.obj pt),y3,y4,y5]/\dg G pt (.lst ((i9 cs.length dn b).map D.int)) G'/\Sub G2 G') (fun _ _ _ h=>?_) ?_ ?_ _ _ _ ⟨[],fQ cs,p0,x3,x4,x5,rfl,rfl,rfl,?_,Sub.refl _⟩
 ·obtain⟨_,_,_,_,_,_,_,_,_,_,s⟩:=h;exact s _ _ n2.at_
 ·rintro d ds τ G3 N ⟨dn,rs,pt,y3,y4,y5,ek,ed,rfl,m,s⟩ hN;cases rs with
  |nil=>cases ed
  |cons e rs=>
   cases ed;have hem:e∈fQ cs:=by rw[←ek];exact bD _ Ψ
   have ve:=W.ok.val e hem;have le:=W.ok.len e hem;refine⟨rfl,e.1,b,rfl,ve.1,fE ve.2 (Bn hl),cY _,?_⟩;refine⟨_,_,m.at_,rfl,?_⟩;rw[xW D.int D.int];refine⟨?_,?_⟩
   ·show (((i9 cs.length dn b).zip e.2).map _).length≤aj;rw[ξ,kS,Bm];exact cP (by lia)
   refine oV (guard:=fun G'=>mE G' (.obj pt) ((i9 cs.length dn b).map D.int)/\mE G' (vD e.2) (e.2.map D.int)) (fun τ=>∃x y,τ=[x,y,some (.int (iE e.1 b))]) (fun p:Int×Int=>D.tup [D.int p.1,D.int p.2]) (fun _=>true) (fun p=>D.int (p.1+iE e.1 b*p.2)) (G:=G3) ⟨m.at_,rfl⟩ ((i9 cs.length dn b).zip e.2) [] _ ⟨none,none,rfl⟩ ?_ ?_
   ·rintro⟨x,y⟩ hm τ K1 K2 ⟨_,_,rfl⟩ g1 g2;exact⟨rfl,fun _=>⟨⟨Fx ve.1 hb,MT W hl hem (kQ hm).2⟩,g1 rfl _ ⟨_,_,rfl⟩⟩,nofun⟩
   ·intro p4 G4 n4;rw[filter_all,dO] at n4;have ez:(((i9 cs.length dn b).zip e.2).map fun p:Int×Int=>D.int (p.1+iE e.1 b*p.2))=(i9 cs.length (dn++[e]) b).map D.int:=by
     rw[←Ml dn le b,bH];rfl
    rw[ez] at n4;exact hN _ _ ⟨dn++[e],rs,p4,_,_,_,by rw[e7];exact ek,rfl,rfl,⟨m.sub.of_none n4.ak,m.sub.trans n4.sub,n4.at_⟩,s.trans n4.sub⟩
 ·rintro τ G3 ⟨dn,rs,pt,y3,y4,y5,ek,e,rfl,m,s⟩;have e0:rs=[]:=by
   cases rs with
   |nil=>rfl
   |cons z zs=>cases e
  subst e0;rw[cU] at ek;subst ek;rw[MU W] at m;exact eI (q pt G3 m)
 ·rw[Mk];exact⟨m0.ak,m0.sub.trans n2.sub,n2.sub _ _ m0.at_⟩
theorem MN:∀ds G Q,oU ds G Q->Gk (aT Q) (bz ["clocks","bound","tally","met","weight","many"] ds) G:=by
 rintro ds G Q ⟨cs,b,rfl,hc,hl,hb,q⟩;have hlm:(cs.map cD).length=cs.length:=ξ ..;refine⟨_,_,rfl,by show (((cs.map cD).length:Nat):Int)≤10;rw[hlm];lia,?_⟩;intro p0 G0 n0;have et:((((cs.map cD).length:Nat):Int)+1).toNat=cs.length+1:=by rw[hlm];lia
 refine⟨_,n0.at_,⟨by rw[hlm];lia,by rw[hlm];lia⟩,?_,fun p1 G1 n1=>?_⟩
 ·rw[et];exact ae (show 1*(cs.length+1)≤100 by lia) (by decide)
 rw[et,FI] at n1;exact MO hc hl hb ⟨n0.sub.of_none n1.ak,n0.sub.trans n1.sub,n1.at_⟩ q
end My
namespace My
open PySem L2 L3
theorem Bl{cs:List ω}{z:ω}(h:z∈cs):z.1.toNat∣cS cs:=NF h
theorem MM{z:ω}(hz:0<z.1){N:Nat}(hd:z.1.toNat∣N)(x t:Int):rg (x+t*N) z=rg x z:=by
 have:z.1∣t*(N:Int):=by
  have h:=cC.mpr hd;rw[bw (by lia)] at h;exact cf h
 unfold rg;rw[Int.add_emod,jC this,Int.add_zero,Int.emod_emod]
theorem Gj{z:ω}(hz:0<z.1){N:Nat}(hd:z.1.toNat∣N)(x:Nat):rg ((x%N:Nat):Int) z=rg x z:=by
 have e:(x:Int)=((x%N:Nat):Int)+((x / N:Nat):Int)*N:=by
  have:=Nat.mod_add_div x N;rw[eQ] at this;exact_mod_cast this.symm
 rw[e,MM hz hd]
theorem ML{cs:List ω}(h:∀z∈cs,0<z.1):0<cS cs:=by
 have:∀(cs:List ω) (a:Nat),(∀z∈cs,0<z.1)->0<a->0<oR cs a:=by
  intro cs
  induction cs with
  |nil=>intro a _ h;exact h
  |cons z zs ih=>
   intro a hz ha;refine ih _ (fun y hy=>hz y (Θ _ hy)) (lV ha ?_);have:=hz z Ψ;lia
 exact this cs 1 h (by decide)
theorem Bk{c p:ω}{k:Nat}(h:Valid c)(hp:p∈parts c k):Valid p/\p.1=c.1*(k:Int):=by
 obtain⟨t,ht,rfl⟩:=aP.mp hp;have ht:=aH.mp ht;exact⟨Pm h (by lia) (by lia),rfl⟩
def C4(cs:List ω)(i:Nat):List ω:=cs.take i++cs.drop (i+1)
end My
namespace L3
open PySem PySem.Spec PyProof.Rows L2
theorem mI{us:List δ}(h:us.length=1):∃a,us=[a]:=List.length_eq_one_iff.mp h
theorem fV{us:List δ}(h:us.length=2):∃a b,us=[a,b]:=by
 rcases us with _|⟨a,us⟩
 ·cases h
 ·obtain⟨b,rfl⟩:=mI (us:=us) (Nat.succ.inj h);exact⟨a,b,rfl⟩
theorem JJ{us:List δ}(h:us.length=3):∃a b c,us=[a,b,c]:=by
 rcases us with _|⟨a,us⟩
 ·cases h
 ·obtain⟨b,c,rfl⟩:=fV (us:=us) (Nat.succ.inj h);exact⟨a,b,c,rfl⟩
end L3
namespace My
open PySem L2 L3
def vJ(C c:ω):ω:=(C.1*c.1,C.2+C.1*c.2)
theorem L9{C c:ω}(hC:0<C.1)(n:Int):bU (C.2+C.1*n) (vJ C c)=bU n c:=by
 rw[gO,cK,cK];show C.1*c.1∣C.2+C.1*n-(C.2+C.1*c.2)↔_;rw[show C.2+C.1*n-(C.2+C.1*c.2)=C.1*(n-c.2) by rw[gR];lia];exact Int.mul_dvd_mul_iff_left (by lia)
end My
namespace My
open PySem L2 L3
end My
namespace My
open PySem L2 L3
def uX(cs:List ω):Prop:=∀n:Int,(cs.filter (bU n)).length=1
theorem L8{c:ω}:bU c.2 c=true:=by
 rw[cK,Int.sub_self];exact Int.dvd_zero _
theorem uX.nodup{cs:List ω}(h:uX cs):cs.Nodup:=by
 rw[qD];intro c;have h1:=h c.2;have:cs.count c≤(cs.filter (bU c.2)).length:=by
  rw[←lO];unfold List.count;refine List.countP_mono_left fun x _ hx=>?_;rw[eq_of_beq hx];exact L8
 lia
theorem L7{c:ω}{os:List ω}(hc:0<c.1)(h:uX os)(n:Int):((os.map (vJ c)).filter (bU n)).length=if bU n c=true then 1 else 0:=by
 by_cases q:bU n c=true
 ·rw[if_pos q];obtain⟨m,hm⟩:=cK.mp q;rw[List.filter_map,ξ,←h m];refine congrArg eJ (g6 fun y _=>?_);show bU n (vJ c y)=bU m y;rw[show n=c.2+c.1*m by lia];exact L9 hc m
 ·rw[if_neg q,dG,jX];intro z hz e;obtain⟨y,_,rfl⟩:=aP.mp hz;refine q (cK.mpr ?_);have d:=cK.mp e;have d1:c.1∣n-(c.2+c.1*y.2):=fe (fU c.1 y.1) d;have:=lZ d1 (fU c.1 y.2);rwa [show n-(c.2+c.1*y.2)+c.1*y.2=n-c.2 by lia] at this
theorem L6{cs:List ω}{i:Nat}{c:ω}(hi:cs[i]?=some c):cs=cs.take i++c::cs.drop (i+1):=by
 obtain⟨hl,e⟩:=aw.mp hi;rw[←e,pD,ia]
theorem L5{cs os:List ω}{i:Nat}{c:ω}(hc:0<c.1)(hi:cs[i]?=some c)(ho:uX os)(n:Int):((C4 cs i++os.map (vJ c)).filter (bU n)).length=(cs.filter (bU n)).length:=by
 have e:(cs.filter (bU n)).length=((cs.take i).filter (bU n)).length+((if bU n c=true then 1 else 0)+((cs.drop (i+1)).filter (bU n)).length):=by
  conv=>lhs;rw[L6 hi]
  rw[cW,aa];by_cases q:bU n c=true
  ·rw[oA q,ax,if_pos q];lia
  ·rw[oB q,if_neg q];lia
 rw[e,cW,aa,L7 hc ho];unfold C4;rw[cW,aa];lia
end My
namespace My
open PySem L2 L3
structure Made(cs:List ω):Prop where
 v:∀c∈cs,Valid c
 n:∃N:Nat,0<N/\N≤2^(cs.length-1)/\∀c∈cs,c.1.toNat∣N
 once:uX cs
 top:cs=[(1,0)]∨∃M:Int,(∀c∈cs,c.1≤M)/\2≤(cs.filter fun c=>c.1==M).length
theorem Made.perm{cs cs':List ω}(h:Made cs)(p:cs.Perm cs'):Made cs':=by
 refine⟨fun c hc=>h.v c (p.mem_iff.mpr hc),?_,fun n=>?_,?_⟩
 ·obtain⟨N,h1,h2,h3⟩:=h.n;exact⟨N,h1,by rw[←p.length_eq];exact h2,fun c hc=>h3 c (p.mem_iff.mpr hc)⟩
 ·rw[←(p.filter _).length_eq];exact h.once n
 ·rcases h.top with e|⟨M,h1,h2⟩
  ·rw[e] at p;exact .inl (List.singleton_perm.mp p).symm
  ·exact .inr ⟨M,fun c hc=>h1 c (p.mem_iff.mpr hc),by rw[←(p.filter _).length_eq];exact h2⟩
theorem L4{k t0:Nat}(h:t0<k){p:Nat->Bool}(hp:∀t,t<k->(p t=true↔t=t0)):((Δ k).filter p).length=1:=by
 have e:(Δ k).filter p=(Δ k).filter (· == t0):=g6 fun t ht=>by
  rw[gO,hp t (aH.mp ht),beq_iff_eq]
 rw[e,←lO];show (Δ k).count t0=1;have h1:0<(Δ k).count t0:=List.count_pos_iff.mpr (aH.mpr h);have h2:=qD.mp (oj (n:=k)) t0;lia
theorem L0{k:Nat}(hk:0<k):uX (parts (1,0) k):=fun n=>by
 unfold parts;rw[List.filter_map,ξ];have k0:(0:Int)<(k:Int):=by lia
 have m0:=cm n (show (k:Int)≠0 by lia);have m1:=bY n k0;refine L4 (t0:=(n%(k:Int)).toNat) (by lia) fun t ht=>?_;show ((n-(0+1*(t:Int)))%(1*(k:Int))==0)=true↔_;rw[kY,iL,iL,beq_iff_eq,←dz,m9 (show (0:Int)≤(t:Int) by lia) (by lia)];lia
theorem LZ(c:ω)(k:Nat):(parts (1,0) k).map (vJ c)=parts c k:=by
 unfold parts;rw[bH];refine aM fun t _=>?_;show (c.1*(1*(k:Int)),c.2+c.1*(0+1*(t:Int)))=_;rw[iL,iL,kY]
theorem Made.split{cs:List ω}{i k:Nat}{c:ω}(h:Made cs)(hi:cs[i]?=some c)(k2:2≤k):Made (cs.eraseIdx i++parts c k):=by
 have hm:=bN hi;have vc:=h.v c hm;have il:i<cs.length:=(aw.mp hi).1;have le:(cs.eraseIdx i).length=cs.length-1:=mP il;refine⟨fun z hz=>?_,?_,fun n=>?_,.inr ?_⟩
 ·rcases cI.mp hz with z1|z1
  ·exact h.v z (cQ z1)
  ·exact (Bk vc z1).1
 ·obtain⟨N,h1,h2,h3⟩:=h.n;refine⟨N*k,gg h1 (by lia),?_,fun z hz=>?_⟩
  ·rw[aa,le,xV,show cs.length-1+k-1=(cs.length-1)+(k-1) by lia,Nat.pow_add];have:k-1<2^(k-1):=Nat.lt_two_pow_self;exact lN h2 (by lia)
  ·rcases cI.mp hz with z1|z1
   ·exact mO (h3 z (cQ z1)) (g0 _ _)
   ·rw[(Bk vc z1).2,Int.toNat_mul (by have:=vc.1;lia) (by lia),aU];exact Nat.mul_dvd_mul_right (h3 c hm) k
 ·rw[gB,←LZ];have:=L5 vc.1 hi (L0 (show 0<k by lia)) n;rw[h.once n] at this;exact this
 ·have pe:∀z∈parts c k,z.1=c.1*(k:Int):=fun z hz=>(Bk vc hz).2;have gt:c.1<c.1*(k:Int):=by
   have h0:=vc.1;have:c.1*2≤c.1*(k:Int):=ff (by lia) (by lia);lia
  have pl:((parts c k).filter fun z=>z.1==c.1*(k:Int)).length=k:=by
   rw[lA.mpr fun z hz=>by rw[pe z hz];exact beq_self_eq_true _,xV]
  rcases h.top with e|⟨M,h1,h2⟩
  ·rw[e] at hi il;have i0:i=0:=by simpa using il
   rw[e,i0];refine⟨c.1*(k:Int),fun z hz=>?_,?_⟩
   ·have hz:z∈parts c k:=by simpa using hz
    rw[pe z hz];exact Int.le_refl _
   ·show 2≤((parts c k).filter fun z=>z.1==c.1*(k:Int)).length;lia
  ·rcases Int.le_total M (c.1*(k:Int)) with w|w
   ·refine⟨c.1*(k:Int),fun z hz=>?_,?_⟩
    ·rcases cI.mp hz with z1|z1
     ·exact ie (h1 z (cQ z1)) w
     ·rw[pe z z1];exact Int.le_refl _
    ·rw[cW,aa,pl];lia
   ·refine⟨M,fun z hz=>?_,?_⟩
    ·rcases cI.mp hz with z1|z1
     ·exact h1 z (cQ z1)
     ·rw[pe z z1];exact w
    ·rw[cW,aa];have hne:(c.1==M)=false:=by
      rw[beq_eq_false_iff_ne];lia
     have:((cs.eraseIdx i).filter fun z=>z.1==M).length=(cs.filter fun z=>z.1==M).length:=by
      have e1:cs=cs.take i++c::cs.drop (i+1):=by
       rw[←(aw.mp hi).2,←iU il,ia]
      conv=>rhs;rw[e1]
      rw[gB,cW,cW,dZ,hne];rfl
     lia
theorem Made.le{cs:List ω}{c:ω}{j:Nat}(h:Made cs)(hl:cs.length≤j+1)(hc:c∈cs):c.1≤((2^j:Nat):Int):=by
 obtain⟨N,h1,h2,h3⟩:=h.n;have:=fP h1 (h3 c hc);have h4:2^(cs.length-1)≤2^j:=bM (by decide) (by lia);have h0:=(h.v c hc).1;lia
theorem LY:Made [(1,0)]:=by
 refine⟨fun c hc=>?_,⟨1,by decide,by decide,fun c hc=>?_⟩,fun n=>?_,.inl rfl⟩
 ·simp at hc;subst hc;exact⟨by decide,by decide,by decide⟩
 ·simp at hc;subst hc;exact Nat.dvd_refl 1
 ·have:bU n (1,0)=true:=by
   show ((n-0)%1==0)=true;rw[Int.emod_one];rfl
  rw[dZ,if_pos this];rfl
def vV:dF:=fun ds G Q=>∃(p:ε) (l m:Int),ds=[.obj p,.int l,.int m]/\G p=some .kl/\(l≤m/\1≤m/\m≤8)/\∀q cs G',Made cs->rN cs->l≤(cs.length:Int)->(cs.length:Int)≤m->1≤cs.length->dg G q (.lst (cs.map cD)) G'->Q (.obj q) G'
abbrev Gi:=OA
def pb(G:Gp)(p:ε)(l m:Int)(k:Nat):S3->Gp->Prop:=fun τ' G'=>∃m',m' < k/\∃q cs x4 x5 x6,τ'=[some (.obj p),some (.int l),some (.int m),some (.obj q),x4,x5,x6]/\dg G q (.lst (cs.map cD)) G'/\Made cs/\1≤cs.length/\(cs.length:Int)≤m/\(m':Int)+cs.length=m
theorem LX{G G1:Gp}{D3:gz}{p:ε}{l m:Int}{q1:ε}{cs:List ω}{x5 x6:Option D}{k:Nat}{k1:Int}(hp:G p=some .kl)(hm:m≤8)
  (n1:dg G q1 (.lst (cs.map cD)) G1) (ok:Made cs) (l1:1≤cs.length) (l2:(cs.length:Int)<m) (hk:(k:Int)+cs.length=m) (h1:2≤k1) (h2:k1≤5) (h3:(cs.length:Int)-1+k1≤m)
  (JO:D3.nx=pb G p l m k):GG D3 [some (.obj p),some (.int l),some (.int m),some (.obj q1),some (.int k1),x5,x6] G1:=by
 have hp1:=n1.sub p _ hp;have e1:=n1.at_;refine⟨⟨q1,_,rfl,e1⟩,_,e1,p,_,rfl,hp1,⟨by rw[ξ];lia,dX (by rw[ξ];lia) (by rw[ξ];lia)⟩,fun r a b=>?_⟩;rw[ξ] at b;obtain⟨c,ec,hc,_⟩:=BJ cD a b;obtain⟨s,r'⟩:=c;refine⟨_,r.toNat,cD (s,r'),e1,⟨by lia,by lia⟩,by rw[ξ];exact GI a b,by rw[ag,ec];rfl,rfl,?_⟩;rw[BG];have n2:dg G q1 (.lst ((cs.eraseIdx r.toNat).map cD)) (da G1 q1 (.lst ((cs.eraseIdx r.toNat).map cD))):=wrote n1;generalize da G1 q1 (.lst ((cs.eraseIdx r.toNat).map cD))=G2 at n2;have hv:=ok.v _ hc;have hs:s≤((2^6:Nat):Int):=ok.le (j:=6) (by lia) hc;have hs:s≤64:=hs;have hv1:0<s:=hv.1;have hlen:(cs.eraseIdx r.toNat).length=cs.length-1:=mP (by lia);have hmul:s*k1≤320:=by
  have h4:s*k1≤64*k1:=kZ hs (by lia);lia
 refine⟨⟨dX (by lia) (by lia),dX (by lia) (by lia)⟩,fun hg=>?_,fun hg=>?_⟩
 ·have hg':1000<s*k1:=of_decide_eq_true hg;lia
 ·refine⟨⟨by lia,by lia⟩,?_,?_⟩
  ·show (kc 0 k1.toNat).length≤aj;rw[uK];exact cP (by lia)
  refine oV (fun τ=>∃x,τ=[x,some (.int s),some (.int k1),some (.int r')]) (fun i:Nat=>D.int (0+(i:Int))) (fun _=>true) (fun i:Nat=>cD (s*k1,r'+s*(0+(i:Int)))) trivial (Δ k1.toNat) [] _ ⟨none,rfl⟩ ?_ ?_
  ·rintro i hi τ K1 K2 ⟨x,rfl⟩ g1 g2;have hi':(i:Int)<k1:=by have:=aH.mp hi;lia
   have b1:gA s:=dX (by lia) (by lia);refine⟨fun _=>⟨⟨b1,dX (by lia) (by lia)⟩,⟨b1,dX (by lia) (by lia)⟩,?_⟩,nofun⟩;exact g1 rfl _ ⟨_,rfl⟩
  ·intro q3 G3 n3;rw[dO,lA.mpr (fun _ _=>rfl)] at n3;have em:((Δ k1.toNat).map fun i:Nat=>cD (s*k1,r'+s*(0+(i:Int))))=(parts (s,r') k1.toNat).map cD:=by
    unfold parts;rw[bH];refine aM fun i _=>?_;show cD (s*k1,r'+s*(0+(i:Int)))=cD (s*((k1.toNat:Nat):Int),r'+s*(i:Int));rw[kY,bw (by lia)]
   rw[em] at n3;refine⟨_,_,n3.sub _ _ n2.at_,n3.at_,?_,fun q4 G4 n4=>?_⟩
   ·rw[ξ,ξ,xV,hlen];exact cP (by lia)
   rw[←bB] at n4;show D3.nx _ G4;rw[JO];have s3:=n2.sub.trans n3.sub;have hl':((cs.eraseIdx r.toNat)++parts (s,r') k1.toNat).length=cs.length-1+k1.toNat:=by
    rw[aa,hlen,xV]
   exact⟨(m-((cs.length:Int)-1+k1)).toNat,by lia,q4,_,_,_,_,rfl,⟨s3.of_none n4.ak,s3.trans n4.sub,n4.at_⟩,ok.split ec (by lia),by lia,by lia,by lia⟩
theorem LW:∀ds G Q,vV ds G Q->Gi (aT Q) (bz ["pen","least","most","clocks","k","step","rest"] ds) G:=by
 rintro ds G Q ⟨p,l,m,rfl,hp,hm,q⟩;intro q0 G0 n0;refine⟨fun k τ G'=>∃q cs x4 x5 x6,τ=[some (.obj p),some (.int l),some (.int m),some (.obj q),x4,x5,x6]/\dg G q (.lst (cs.map cD)) G'/\Made cs/\1≤cs.length/\(cs.length:Int)≤m/\(k:Int)+cs.length=m,⟨(m-1).toNat,q0,[(1,0)],_,_,_,rfl,n0,LY,by decide,by simp;lia,by simp;lia⟩,?_⟩;rintro k τ G1 ⟨q1,cs,x4,x5,x6,rfl,n1,ok,l1,l2,hk⟩;have hp1:=n1.sub p _ hp;have e1:=n1.at_;have stop:l≤(cs.length:Int)->BF (aT Q) [some (.obj p),some (.int l),some (.int m),some (.obj q1),x4,x5,x6] G1:=fun hl=>by
  refine⟨_,GJ n1.at_,by rw[ξ];lia,GK,fun p2 mss G2 hp2 hpm hr=>?_⟩;obtain⟨cs',rfl,_⟩:=OF hpm;rw[BI] at hp2;have hp':cs'.Perm cs:=by
   have back:∀us:List ω,(us.map eH).map (fun l=>((l.getD 0 0,l.getD 1 0):ω))=us:=fun us=>by
    rw[bH];exact List.map_id _
   have:=hpm.map (fun l:List Int=>((l.getD 0 0,l.getD 1 0):ω));rwa [back,back] at this
  exact eI (q p2 cs' _ (ok.perm hp'.symm) (GL hr (eZ.mpr ((ok.perm hp'.symm).once.nodup.imp fun h e=>h (wF e)))) (by rw[hp'.length_eq];exact hl) (by rw[hp'.length_eq];exact l2) (by rw[hp'.length_eq];exact l1) ⟨n1.sub.of_none hp2.ak,n1.sub.trans hp2.sub,hp2.at_⟩)
 have go:(cs.length:Int)<m->GF { aT Q with nx:=pb G p l m k,ct:=pb G p l m k,bk:=BF (aT Q)} [some (.obj p),some (.int l),some (.int m),some (.obj q1),x4,x5,x6] G1:=by
  intro hlt;refine⟨p,6,rfl,hp1,⟨by decide,dX (by decide) (by decide)⟩,fun r h1 h2=>?_⟩;obtain⟨k0,hk0,ek⟩:=GN (ns:=[2,2,3,2,3,5]) h1 h2;refine⟨.int k0,ek,_,e1,?_⟩;have hk2:2≤k0/\k0≤5:=by simp at hk0;lia
  refine LX hp (by lia) n1 ok l1 hlt hk ?_ ?_ ?_ rfl
  ·rw[ξ];split<;>split<;>lia
  ·rw[ξ];split<;>split<;>lia
  ·rw[ξ];split<;>split<;>lia
 have hll:((cs.map cD).length:Int)=(cs.length:Int):=by rw[ξ]
 refine⟨_,e1,fun h=>⟨fun _=>go ?_,nofun⟩,fun h=>⟨p,4,rfl,hp1,⟨by decide,dX (by decide) (by decide)⟩,fun r a b=>⟨fun h2=>⟨_,e1,fun h3=>go ?_,fun h3=>stop ?_⟩,fun h2=>⟨nofun,fun _=>stop ?_⟩⟩⟩⟩
 ·have h':((cs.map cD).length:Int)<l:=of_decide_eq_true h;lia
 ·have h':((cs.map cD).length:Int)<m:=of_decide_eq_true h3;lia
 ·have h':¬((cs.map cD).length:Int)<l:=of_decide_eq_false h;lia
 ·have h':¬((cs.map cD).length:Int)<l:=of_decide_eq_false h;lia
def Small(cs:List ω):Prop:=(∀c∈cs,c.1≤12)∨∃N:Nat,0<N/\N≤1000/\∀c∈cs,c.1.toNat∣N
theorem Small.sub{cs cs':List ω}(h:Small cs)(hs:∀c∈cs',c∈cs):Small cs':=by
 rcases h with h|⟨N,h1,h2,h3⟩
 ·exact .inl fun c hc=>h c (hs c hc)
 ·exact .inr ⟨N,h1,h2,fun c hc=>h3 c (hs c hc)⟩
def DS(cs:List ω):Prop:=tQ 1000 cs/\Small cs/\∀c∈cs,c.1≤64
end My
namespace L2
open PySem PySem.Spec PyProof.Rows
theorem LV{P:aG}{w:aQ}{K:ζ}{tg:π}(it:ε)(lo c:Int)(n:Nat):Turn P w K tg (rP lo c n) [it] it (fun i h=>IsLongIter h it (lo+(i:Nat)*c) ((n:Int)-(i:Nat)) c) where
 mem:=by simp
 obj:=fun i h st b hb=>by
  have e:b=it:=by simpa using hb
  subst e;exact⟨_,st,fun v z=>by
   have z':ma _=kq v:=z;cases z'⟩
 keep:=fun i h h' st k=>k it (by simp) _ st
 item:=by
  intro X hP hw hK hc i pins s σ H E I hf st hg;subst hP hw hK;obtain⟨f0,f1,f2,f3,f4,f5⟩:=hf it (by simp);have W:=Walks.longrange (prog:=X.prog) (w:=X.w) (I.ok.hd hc) it lo c n;refine W.item i s _ _ hg st fun v h' tk hv st' kk=>?_;obtain⟨t,rfl⟩:=hv;have I1:Inv X pins σ H { s with heap:=h',toks:=tk }:=I.turned (fun b o hb e=>kk b o (by simpa using hb) e) f0 f1 f3 f4 f5;refine⟨_,rfl,wB (s:={ s with heap:=h',toks:=tk }) (n:="longrange_iterator") st' rfl rfl (by decide) ⟨.int (lo+i*c),H,I1,⟨t,rfl⟩,⟨rfl,rfl⟩,st',fun b hb=>(hf b hb).1⟩⟩
 done:=by
  intro X hP hw hK hc i pins s σ H E I hf st hg;subst hP hw hK;obtain⟨f0,f1,f2,f3,f4,f5⟩:=hf it (by simp);exact wpAny_pyNext_long_end (I.ok.hd hc) st (by have:n≤i:=hg;lia) fun h' eb=>⟨rfl,I.turned (t':=s.toks) (fun b o hb e=>eb b o hb e) f0 f1 f3 f4 f5⟩
 self:=fun _ _ _ _ _ st h=>wpAny_pyIter_longiter st h
def g9(i j c:Int):Nat:=(ba i j c).toNat
theorem LU(i j c:Int):ba i j c=(g9 i j c:Int):=by
 unfold g9;refine (bw ?_).symm;unfold ba;split
 ·split
  ·have:0≤(j-i-1) / c:=iW (by lia) (by lia);lia
  ·lia
 ·split
  ·have:0≤(i-j-1) / (-c):=iW (by lia) (by lia);lia
  ·lia
section
variable {X:Cx} {tg:π}
theorem Gh{pins:List (ε×aN)}{σ:St}{H:Hp}{s:η}{R:It->Hp->Prop}{E:δ->η->Prop}{lo hi c:Int}{t u v:Tok}{tk:Nat}(I:Inv X pins σ H s)
  (q:R (rP lo c (g9 lo hi c)) H):ρ (model X.prog X.w) X.A (pyIter (.ref s.heap.objs.size)) (AJ X pins σ tg R) E { s with heap:=s.heap.push { cls:=.type "range",data:=.fields #[.int lo t,.int hi u,.int c v]},toks:=tk }:=by
 have I1:Inv X pins σ H { s with heap:=s.heap.push { cls:=.type "range",data:=.fields #[.int lo t,.int hi u,.int c v]},toks:=tk }:=I.kept fun b o e=>ν _ e;have e1:lo+((0:Nat):Int)*c=lo:=by simp
 have e2:(((g9 lo hi c):Nat):Int)-((0:Nat):Int)=ba lo hi c:=by rw[LU];simp
 have fp:∀b∈[(s.heap.push { cls:=.type "range",data:=.fields #[.int lo t,.int hi u,.int c v]}).objs.size],jc X pins H b:=fun b hb=>by
  have e:b=(s.heap.push { cls:=.type "range",data:=.fields #[.int lo t,.int hi u,.int c v]}).objs.size:=by simpa using hb
  subst e;exact I1.o8 (Γ _) (I1.cq.fresh (Γ _))
 cases hs:iO lo hi c with
 |true=>
  refine mj (pE ..) hs ?_;refine⟨(s.heap.push { cls:=.type "range",data:=.fields #[.int lo t,.int hi u,.int c v]}).objs.size,_,_,_,H,rfl,I1.kept (t':=tk) fun b o e=>ν _ e,Hl _ lo c (g9 lo hi c),?_,fp,q⟩;show lY _ _ (lo+((0:Nat):Int)*c) ((((g9 lo hi c):Nat):Int)-((0:Nat):Int)) c;rw[e1,e2];exact Φ _ rfl
 |false=>
  refine wpAny_pyIter_longrange (pE ..) hs ?_;refine⟨(s.heap.push { cls:=.type "range",data:=.fields #[.int lo t,.int hi u,.int c v]}).objs.size,_,_,_,H,rfl,I1.kept (t':=tk) fun b o e=>ν _ e,LV _ lo c (g9 lo hi c),?_,fp,q⟩;show IsLongIter _ _ (lo+((0:Nat):Int)*c) ((((g9 lo hi c):Nat):Int)-((0:Nat):Int)) c;rw[e1,e2];exact Φ _ rfl
def D5(ta:TA):TI:=fun σ H R=>ta σ H fun vs H1=>∃i j:Int,vs=[.int i,.int j]/\R (rP i 1 (g9 i j 1)) H1
theorem LS{a b:π}{ta:TA}{p pos:aL}(hg:Gl X "range")(hm:X.mg "range" = none)(ha:PA X [a,b] ta)(hs:bJ [a,b] X.env=[(false,eval a X.env),(false,eval b X.env)])(hs2:bJ [b] X.env=[(false,eval b X.env)]):
  PI X tg (.Call (.Name "range" p) [a,b] [] pos) (D5 ta):=by
 intro pins s σ H R I h;refine Call_ (rA I hg hm qB (cV (bL (ha pos pins s σ H _ I h) fun us s1 ⟨vs,H1,I1,r1,q1⟩=>?_) (by rw[hs,hs2]) (by rw[hs2];rfl)));obtain⟨i,j,e,q⟩:=q1;subst e;cases r1 with
 |cons r rr=>
  cases rr with
  |cons r' rr=>
   cases rr;obtain⟨t,rfl⟩:=r;obtain⟨t',rfl⟩:=r';exact call_range_2 (Gh I1 q)
def D4(ta:TA):TI:=fun σ H R=>ta σ H fun vs H1=>∃i j c:Int,vs=[.int i,.int j,.int c]/\(c≠0/\c.natAbs<1073741824)/\R (rP i c (g9 i j c)) H1
theorem LR{a b d:π}{ta:TA}{p pos:aL}(hg:Gl X "range")(hm:X.mg "range" = none)(ha:PA X [a,b,d] ta)(hs:bJ [a,b,d] X.env=[(false,eval a X.env),(false,eval b X.env),(false,eval d X.env)])(hs2:bJ [b,d] X.env=[(false,eval b X.env),(false,eval d X.env)]):
  PI X tg (.Call (.Name "range" p) [a,b,d] [] pos) (D4 ta):=by
 intro pins s σ H R I h;refine Call_ (rA I hg hm qB (cV (bL (ha pos pins s σ H _ I h) fun us s1 ⟨vs,H1,I1,r1,q1⟩=>?_) (by rw[hs,hs2]) (by rw[hs2];rfl)));obtain⟨i,j,c,e,⟨q1,q2⟩,q⟩:=q1;subst e;cases r1 with
 |cons r rr=>
  cases rr with
  |cons r' rr=>
   cases rr with
   |cons r'' rr=>
    cases rr;obtain⟨t,rfl⟩:=r;obtain⟨t',rfl⟩:=r';obtain⟨t'',rfl⟩:=r'';exact call_range_3 q1 (Gh I1 q) (.inl (pz q2))
end
end L2
namespace L3
open PySem PySem.Spec PyProof.Rows L2
section
variable {X:Cx} {tg:π} {p pos:aL} {a b d:π} {ta:dj}
def tZ(ta:dj):ls:=fun τ G R=>ta τ G fun ds G1=>match ds with
 |[.int i,.int j]=>R ⟨iw i 1 (g9 i j 1),fun _=>True⟩ G1
 |_=>False
theorem LQ(hm:X.mg "range" = none)(ha:jR X [a,b] ta)(hg:Gl X "range":=by rfl)(hs:notStar a=true:=by rfl)(hs2:notStar b=true:=by rfl):rO X tg (.Call (.Name "range" p) [a,b] [] pos) (tZ ta):=
 uL (LS hg hm ha (by rw[fq hs,fq hs2];rfl) (fq hs2)) fun σ H R ⟨τ,G,R3,RS,RG,h,k⟩=>⟨τ,G,_,RS,RG,h,fun vs H1 ds G1 h1 S1 R1 q1=>by
  rcases ds with _|⟨d,_|⟨d2,_|⟨d3,ds⟩⟩⟩
  ·exact q1.elim
  ·cases d<;>exact q1.elim
  ·cases d with
   |int i=>
    cases d2 with
    |int j=>
     obtain⟨v,r,rfl,z1,z2⟩:=h1.inv;obtain⟨v2,r2,rfl,z3,z4⟩:=z2.inv;cases z4.iN;unfold Hv at z1 z3;exact⟨i,j,by rw[z1,z3],k _ _ _ _ (BQ i 1 _) S1 R1 q1⟩
    |_=>exact q1.elim
   |_=>cases d2<;>exact q1.elim
  ·cases d<;>(try exact q1.elim)<;>cases d2<;>exact q1.elim⟩
def wW(ta:dj):ls:=fun τ G R=>ta τ G fun ds G1=>match ds with
 |[.int i,.int j,.int c]=>(c≠0/\c.natAbs<1073741824)/\R ⟨iw i c (g9 i j c),fun _=>True⟩ G1
 |_=>False
theorem LP(hm:X.mg "range" = none)(ha:jR X [a,b,d] ta)(hg:Gl X "range":=by rfl)(hs:notStar a=true:=by rfl)(hs2:notStar b=true:=by rfl)(hs3:notStar d=true:=by rfl):rO X tg (.Call (.Name "range" p) [a,b,d] [] pos) (wW ta):=
 uL (LR hg hm ha (by rw[fq hs,fq hs2,fq hs3];rfl) (by rw[fq hs2,fq hs3];rfl)) fun σ H R ⟨τ,G,R3,RS,RG,h,k⟩=>⟨τ,G,_,RS,RG,h,fun vs H1 ds G1 h1 S1 R1 q1=>by
  rcases ds with _|⟨d,_|⟨d2,_|⟨d3,_|⟨d4,ds⟩⟩⟩⟩
  ·exact q1.elim
  ·cases d<;>exact q1.elim
  ·cases d<;>(try exact q1.elim)<;>cases d2<;>exact q1.elim
  ·cases d with
   |int i=>
    cases d2 with
    |int j=>
     cases d3 with
     |int c=>
      obtain⟨v,r,rfl,z1,z2⟩:=h1.inv;obtain⟨v2,r2,rfl,z3,z4⟩:=z2.inv;obtain⟨v3,r3,rfl,z5,z6⟩:=z4.inv;cases z6.iN;unfold Hv at z1 z3 z5;exact⟨i,j,c,by rw[z1,z3,z5],q1.1,k _ _ _ _ (BQ i c _) S1 R1 q1.2⟩
     |_=>exact q1.elim
    |_=>cases d3<;>exact q1.elim
   |_=>cases d2<;>(try exact q1.elim)<;>cases d3<;>exact q1.elim
  ·cases d<;>(try exact q1.elim)<;>cases d2<;>(try exact q1.elim)<;>cases d3<;>exact q1.elim⟩
theorem Gf(hm:X.mg "range" = none)(ha:QA X [a,b] ta)(hg:Gl X "range":=by rfl)(hs:notStar a=true:=by rfl)(hs2:notStar b=true:=by rfl):QI X tg (.Call (.Name "range" p) [a,b] [] pos) (tZ ta):=⟨LQ hm ha.of hg hs hs2⟩
theorem LO(hm:X.mg "range" = none)(ha:QA X [a,b,d] ta)(hg:Gl X "range":=by rfl)(hs:notStar a=true:=by rfl)(hs2:notStar b=true:=by rfl)(hs3:notStar d=true:=by rfl):QI X tg (.Call (.Name "range" p) [a,b,d] [] pos) (wW ta):=⟨LP hm ha.of hg hs hs2 hs3⟩
theorem Bj(i:Int)(n:Nat):iw i 1 n=(Δ n).map fun k:Nat=>D.int (i+(k:Int)):=by
 unfold iw;exact aM fun k _=>by rw[iM]
theorem LN(i:Int)(n:Nat):iw i (-1) n=(Δ n).map fun k:Nat=>D.int (i-(k:Int)):=by
 unfold iw;exact aM fun k _=>by rw[sR,iM,Int.sub_eq_add_neg]
theorem Bi(i:Int)(n:Nat):g9 i (i+(n:Int)) 1=n:=by
 unfold g9 ba;rw[if_pos (by decide)];split<;>lia
theorem LM(i:Int)(n:Nat):g9 i (i-(n:Int)) (-1)=n:=by
 unfold g9 ba;rw[if_neg (by decide),show (-(-1):Int)=1 from rfl,Int.ediv_one];split<;>lia
end
end L3
namespace DR
abbrev m:Nat:=50837476016421357502988548801
def ws:List Nat:=[0,1,50837476016421357502988548800,10135803261913921868960235765,47713544533386487461430421334,16118752378830961294094796173,10135803261913921868960235766,7136454782211252119412762766,35420441936250108660223587217,1067808664912197872057180565,2212999697970585129814089039,32024112978982417696217670635,31462163339786520225322394788,24560183545309856507467121994,18870267659707217759248440958,38446430134675096138813990232,42277647789822174321452631753,38387337802546712263664490506,33696275681530116412491186272,23593368141310544835077211227,19447797092445194300996637147,17511251399760103422205503489,46126122288104411497689658519,36907145420440214206607912945,45973492287892274563861303616,14903400133920819969803059909,4649537661657208259846829918,31114212333553529286392122120,44186178021154598154410537556,15750616528888460823380307771,37311772889004453734767886545,2825544552670135852985887673,47363332747560446153518827856,21000669660117927839405950976,12392113440277509241703900924,4176012144902884549022596413,46129195059946262553435805396,4699831264134915652592827173,33768564965926269124823709640,30577596685849853241285515590,34491177121087526967130970123,24493149354549804787101258075,1917514258149939870566438092,24460627199287438234388759321,15572640086247702267885243696,49801172466899913257280597541,15022720890134983842052313096,6032499345555032065792858721,20654929227990413533122822066,19669368532025763686749006026,14097040531507188184922654416,27290221972880011291309030375,20470725047528306846033631086,9960773929908013828533900877,41077435601782818928401615986,9363266671448748706979837916,31102825875459151086899000966,11739883316600765676560339068,23716771092680085950793670612,33798028121467025120762686278,12647321811752306225001780964,40100694038434913197550718157,31970675141182861997966009672,18810801587874101012718312085,9550120148141332660707824803]
def w(d:Nat):Nat:=ws.getD d 0
theorem Ec:∀d,d<65->0<d->(w d^d%m=1/\∀j,j<d->0<j->bj (m+1-w d^j%m) m=1):=by decide +kernel
def nx(a:Int)(f:Nat->Int):Nat->Int:=fun x=>f (x+1)-a*f x
def ops:List Int->(Nat->Int)->Nat->Int
 |[],f=>f
 |a::l,f=>ops l (nx a f)
def Z(f:Nat->Int):Prop:=∀x,(m:Int)∣f x
theorem LL(a b:Int)(f):nx a (nx b f)=nx b (nx a f):=by
 funext x;simp only[nx];grind
theorem LK(l):∀a f,ops l (nx a f)=nx a (ops l f):=by
 induction l with
 |nil=>intro a f;rfl
 |cons b l ih=>intro a f;simp only[ops];rw[LL,ih]
theorem LJ(l l'):∀f,ops (l++l') f=ops l' (ops l f):=by
 induction l with
 |nil=>intro f;rfl
 |cons b l ih=>intro f;simp only[List.cons_append,ops];rw[ih]
theorem LI(l l'):∀f,ops l' (ops l f)=ops l (ops l' f):=by
 induction l with
 |nil=>intro f;rfl
 |cons b l ih=>intro f;simp only[ops];rw[ih,LK]
theorem Xu{f a}(h:Z f):Z (nx a f):=fun x=>di (h (x+1)) (cf (h x))
theorem Ge{l}:∀{f},Z f->Z (ops l f):=by
 induction l with
 |nil=>intro f h;exact h
 |cons b l ih=>intro f h;exact ih (Xu h)
theorem Gd(l):∀c f g,ops l (fun x=>f x-c*g x)=fun x=>ops l f x-c*ops l g x:=by
 induction l with
 |nil=>intro c f g;rfl
 |cons a l ih=>
  intro c f g;simp only[ops];rw[←ih];congr 1;funext x;simp only[nx];grind
theorem LH(v:Int)(l):∀k f,ops (l.map (v*·)) (fun x=>v^(x+k)*f x)=fun x=>v^(x+k+l.length)*ops l f x:=by
 induction l with
 |nil=>intro k f;rfl
 |cons a l ih=>
  intro k f;simp only[List.map,ops,ax];have:nx (v*a) (fun x=>v^(x+k)*f x)=fun x=>v^(x+(k+1))*nx a f x:=by
   funext x;simp only[nx];have e1:v^(x+1+k)=v^(x+k)*v:=by rw[show x+1+k=x+k+1 by lia,rY]
   have e2:v^(x+(k+1))=v^(x+k)*v:=by rw[←rY];rfl
   rw[e1,e2];grind
  rw[this,ih];funext x;congr 2;lia
theorem LG(l):∀f,Z (ops l f)->(∀x<l.length,(m:Int)∣f x)->Z f:=by
 induction l with
 |nil=>intro f h _;exact h
 |cons a l ih=>
  intro f h h0 x;have hg:Z (nx a f):=ih (nx a f) h fun x hx=>di (h0 (x+1) (by simpa using hx)) (cf (h0 x (by simp;lia)))
  induction x with
  |zero=>exact h0 0 (by simp)
  |succ x ihx=>
   have:=lZ (hg x) (cf (b:=a) ihx);simpa [nx] using this
def F:List (Nat×Nat)->Nat->Int
 |[],_=>1
 |c::cs,x=>F cs x-((w c.1:Int)^(x+(c.1-c.2)))*F cs x
def A:List (Nat×Nat)->List Int
 |[]=>[1]
 |c::cs=>A cs++(A cs).map ((w c.1:Int)*·)
theorem Mj(cs):(A cs).length=2^cs.length:=by
 induction cs with
 |nil=>rfl
 |cons c cs ih=>simp only[A,aa,ξ,ih,ax];lia
theorem KI(cs):Z (ops (A cs) (F cs)):=by
 induction cs with
 |nil=>intro x;simp[A,ops,nx,F]
 |cons c cs ih=>
  have e:F (c::cs)=fun x=>F cs x-1*((w c.1:Int)^(x+(c.1-c.2))*F cs x):=by funext x;simp only[F];grind
  rw[e,A,LJ,Gd];rw[Gd];intro x;refine di (Ge ih x) (cf ?_);rw[LI (A cs) ((A cs).map _),LH];exact Ge (l:=A cs) (fun x=>cf (ih x)) x
theorem Gc(d x:Nat):((w d:Int)^x)%m=((w d^x%m:Nat):Int):=by simp
theorem FZ(d:Nat)(h:d<65)(h0:0<d)(k:Nat):(m:Int)∣1-(w d:Int)^(d*k):=by
 have h1:(m:Int)∣1-(w d:Int)^d:=by
  have:=(Ec d h h0).1;have e:=Gc d d;rw[this] at e;have e2:=ck ((w d:Int)^d) m;rw[e] at e2;exact⟨-((w d:Int)^d / m),by rw[←e2];grind⟩
 induction k with
 |zero=>simp
 |succ k ih=>
  rw[Nat.mul_succ,Int.pow_add];obtain⟨a,ha⟩:=h1;obtain⟨b,hb⟩:=ih;exact⟨a+b-m*a*b,by
   have e1:(w d:Int)^d=1-m*a:=by lia
   have e2:(w d:Int)^(d*k)=1-m*b:=by lia
   rw[e1,e2];grind⟩
def U(a:Int):Prop:=∃u:Int,(m:Int)∣1-u*a
theorem Mi{a b}(ha:U a)(hb:U b):U (a*b):=by
 obtain⟨u,p,hp⟩:=ha;obtain⟨v,q,hq⟩:=hb;exact⟨u*v,p+q-m*p*q,by
  have e1:u*a=1-m*p:=by lia
  have e2:v*b=1-m*q:=by lia
  have:u*v*(a*b)=(u*a)*(v*b):=by grind
  rw[this,e1,e2];grind⟩
theorem Xv{a}(h:U a):¬(m:Int)∣a:=by
 intro ha;obtain⟨u,hu⟩:=h;have:=lZ hu (cf (b:=u) ha);have h2:1-u*a+u*a=1:=by lia
 have e:(m:Int)∣1:=by rwa [h2] at this
 revert e;decide
theorem Yd(a b:Nat):∃u v:Int,u*a+v*b=bj a b:=by
 induction a,b using bj.induction with
 |H0 n=>exact⟨0,1,by simp⟩
 |H1 a b h ih=>
  obtain⟨u,v,e⟩:=ih;have e2:(b:Int)=a*(b / a:Nat)+(b%a:Nat):=by have:=iS b a;lia
  rw[lX];exact⟨v-u*(b / a:Nat),u,by rw[←e];generalize ((b / a:Nat):Int)=q at *;generalize ((b%a:Nat):Int)=r at *;rw[e2];grind⟩
theorem Mh(a:Nat)(h:bj a m=1):U a:=by
 obtain⟨u,v,e⟩:=Yd a m;rw[h] at e;exact⟨u,v,by have:u*(a:Int)+v*(m:Int)=1:=e;grind⟩
theorem unit(d x:Nat)(h:d<65)(h0:0<d)(hx:x%d≠0):U (1-(w d:Int)^x):=by
 have h1:=Mh _ ((Ec d h h0).2 (x%d) (dU _ h0) (by lia));obtain⟨u,hu⟩:=h1;refine⟨u,?_⟩;have hk:=FZ d h h0 (x / d);have e:(w d:Int)^x=(w d:Int)^(d*(x / d))*(w d:Int)^(x%d):=by rw[←Int.pow_add,iS]
 have e3:=Gc d (x%d);have h2:(m:Int)∣(1-(w d:Int)^x)-((m+1-w d^(x%d)%m:Nat):Int):=by
  have l:w d^(x%d)%m<m:=dU _ (by decide);obtain⟨b,hb⟩:=hk;have e2:(w d:Int)^(d*(x / d))=1-m*b:=by lia
  have e4:(w d:Int)^(x%d)=m*((w d:Int)^(x%d) / m)+((w d^(x%d)%m:Nat):Int):=by
   rw[←e3];exact (ck _ _).symm
  generalize hq:(w d:Int)^(x%d) / m=q at e4;generalize hr:w d^(x%d)%m=r at *;have e5:((m+1-r:Nat):Int)=(m:Int)+1-r:=by lia
  rw[e,e2,e5,e4];exact⟨b*(m*q+r)-q-1,by grind⟩
 have:=di hu (cf (b:=u) h2);have e:1-u*((m+1-w d^(x%d)%m:Nat):Int)-u*(1-(w d:Int)^x-((m+1-w d^(x%d)%m:Nat):Int))=1-u*(1-(w d:Int)^x):=by
  generalize ((m+1-w d^(x%d)%m:Nat):Int)=y;grind
 rwa [e] at this
def Lg(c:Nat×Nat):Prop:=c.1<65/\c.2<c.1
theorem Fk(cs)(h:∀c∈cs,Lg c)(x):(m:Int)∣F cs x↔∃c∈cs,x%c.1=c.2:=by
 have key:(∃c∈cs,x%c.1=c.2)/\(m:Int)∣F cs x∨(¬∃c∈cs,x%c.1=c.2)/\U (F cs x):=by
  induction cs with
  |nil=>right;exact⟨by simp,1,by simp[F]⟩
  |cons c cs ih=>
   have⟨o1,o2⟩:=h c (by simp);have e:F (c::cs) x=(1-(w c.1:Int)^(x+(c.1-c.2)))*F cs x:=by simp only[F];grind
   have ih:=ih fun c hc=>h c (by simp[hc]);rw[e];by_cases hr:x%c.1=c.2
   ·left;refine⟨⟨c,by simp,hr⟩,?_⟩;refine Int.dvd_mul_of_dvd_left ?_;have:x+(c.1-c.2)=c.1*(x / c.1+1):=by
     have:=iS x c.1;rw[Nat.mul_add];lia
    rw[this];exact FZ _ o1 (by lia) _
   ·rcases ih with⟨⟨b,hb,hb'⟩,hd⟩|⟨hn,hu⟩
    ·left;exact⟨⟨b,by simp[hb],hb'⟩,cf hd⟩
    ·right;refine⟨?_,Mi (unit _ _ o1 (by lia) ?_) hu⟩
     ·rintro⟨b,hb,hb'⟩;rcases az.1 hb with rfl|hb
      ·exact hr hb'
      ·exact hn ⟨b,hb,hb'⟩
     ·intro h0;apply hr;have hx:=iS x c.1;obtain⟨k,hk⟩:=Nat.dvd_of_mod_eq_zero h0;have l:=dU x (show 0<c.1 by lia);have e1:(x+(c.1-c.2))%c.1=(x%c.1+(c.1-c.2))%c.1:=by simp
      rw[h0] at e1;by_cases hlt:x%c.1+(c.1-c.2)<c.1
      ·rw[nY hlt] at e1;lia
      ·rw[Nat.mod_eq_sub_mod (by lia)] at e1;rw[nY (by lia)] at e1;lia
 rcases key with⟨a,b⟩|⟨a,b⟩
 ·exact⟨fun _=>a,fun _=>b⟩
 ·exact⟨fun d=>absurd d (Xv b),fun c=>absurd c a⟩
theorem Yc(cs:List (Nat×Nat))(h:∀c∈cs,Lg c)(h0:∀x<2^cs.length,∃c∈cs,x%c.1=c.2)(x:Nat):∃c∈cs,x%c.1=c.2:=
 (Fk cs h x).1 (LG (A cs) (F cs) (KI cs) (fun y hy=>(Fk cs h y).2 (h0 y (by rwa [Mj] at hy))) x)
end DR
namespace My
open PySem L2 L3
def dh(cs:List ω)(x b:Int)(k:Nat):Bool:=(cs.filter (rg (x+b*(k:Int)))).isEmpty
def u6(x b:Int):Option Nat->D
 |none=>.ak
 |some k=>.int (x+b*(k:Int))
theorem Fj{c:ω}{x b:Int}(hv:Valid c)(hb:b=1∨b = -1)(k:Nat):rg (x+b*(k:Int)) c=true↔k%c.1.toNat=((b*(c.2-x))%c.1).toNat:=by
 obtain⟨h1,h2,h3⟩:=hv;have m0:=cm (b*(c.2-x)) (show c.1≠0 by lia);have e:((k%c.1.toNat:Nat):Int)=(k:Int)%c.1:=by rw[gw,bw (by lia)]
 have step:rg (x+b*(k:Int)) c=true↔(k:Int)%c.1=(b*(c.2-x))%c.1:=by
  rw[←BK ⟨h1,h2,h3⟩,cK,dz,←Int.dvd_iff_emod_eq_zero];rcases hb with rfl|rfl
  ·rw[show x+1*(k:Int)-c.2=(k:Int)-1*(c.2-x) by lia]
  ·rw[show x + -1*(k:Int)-c.2 = -((k:Int) - -1*(c.2-x)) by lia,Int.dvd_neg]
 rw[step];lia
theorem tK{cs:List ω}{x b:Int}{k:Nat}:dh cs x b k=false↔∃c∈cs,rg (x+b*(k:Int)) c=true:=by
 unfold dh;rw[Bool.eq_false_iff,Ne,List.isEmpty_iff,jX];constructor
 ·intro h;refine aD fun hn=>h fun c hc hr=>hn ⟨c,hc,hr⟩
 ·rintro⟨c,hc,hr⟩ h;exact h c hc hr
theorem Mg{cs:List ω}{x b:Int}(hv:∀c∈cs,Valid c/\c.1≤64)(hb:b=1∨b = -1)(h:∀k,k<2^cs.length->dh cs x b k=false)(k:Nat):dh cs x b k=false:=by
 have:=DR.Yc (cs.map fun c=>(c.1.toNat,((b*(c.2-x))%c.1).toNat)) (fun d hd=>by
  obtain⟨c,hc,rfl⟩:=aP.mp hd;obtain⟨⟨h1,h2,h3⟩,h4⟩:=hv c hc;have m1:=bY (b*(c.2-x)) h1;exact⟨by show c.1.toNat<65;lia,by show ((b*(c.2-x))%c.1).toNat<c.1.toNat;lia⟩) (fun y hy=>by
  rw[ξ] at hy;obtain⟨c,hc,hr⟩:=tK.mp (h y hy);exact⟨_,qQ hc,(Fj (hv c hc).1 hb y).mp hr⟩) k
 obtain⟨d,hd,e⟩:=this;obtain⟨c,hc,rfl⟩:=aP.mp hd;exact tK.mpr ⟨c,hc,(Fj (hv c hc).1 hb k).mpr e⟩
def vU:dF:=fun ds G Q=>∃n:Nat,ds=[.int n]/\n≤60/\Q (.int ((2^n:Nat):Int)) G
def Mf:ab:=xC 1 (θ 1) Av
def Me:ab:=cg (θ 1)
def Md:ab:=aF (jE (nq (μ (θ 0) (Ξ))) (hName 2) (Mf)) Me
def Fi:ab:=aF (bf (eC (.int 1)) (hName 1)) Md
theorem Mc:∀ds G Q,vU ds G Q->Fi (aT Q) (bz ["times","number","turn"] ds) G:=by
 rintro ds G Q ⟨n,rfl,hn,q⟩;refine⟨⟨by lia,by lia⟩,?_⟩;show j4 _ _ _ _ (kc 0 ((n:Int)).toNat) _ _;rw[aU,Ej];refine kC (fun ds τ G'=>G'=G/\∃(k:Nat) (x2:Option D),ds.length+k=n/\τ=[some (.int n),some (.int ((2^k:Nat):Int)),x2]) (fun _ _ _ _=>trivial) ?_ ?_ _ _ _ ⟨rfl,0,none,by simp,rfl⟩
 ·rintro d ds τ G' N ⟨rfl,k,x2,hk,rfl⟩ hN;refine hN _ _ ⟨rfl,k+1,some d,by simp at hk;lia,?_⟩;show [some (D.int n),some (D.int (((2^k:Nat):Int)+((2^k:Nat):Int))),_]=_;rw[show ((2^k:Nat):Int)+((2^k:Nat):Int)=((2^(k+1):Nat):Int) by rw[hZ];lia]
 ·rintro τ G' ⟨rfl,k,x2,hk,rfl⟩;have:k=n:=by simpa using hk
  rw[this];exact eI q
def tf:dF:=fun ds G Q=>∃cs:List ω,ds=[cT cs]/\cs.length≤60/\Q (.int ((2^cs.length:Nat):Int)) G
def Fh:ab:=cg (aA vU (μ (dA kE (μ (θ 0) (Ξ))) (Ξ)))
theorem Mb:∀ds G Q,tf ds G Q->Fh (aT Q) (bz ["clocks"] ds) G:=by
 rintro ds G Q ⟨cs,rfl,hl,q⟩;refine⟨cs.length,?_,hl,eI q⟩;show [D.int (((cs.map cD).length:Nat):Int)]=_;rw[ξ]
def Ma:ab:=gH (bK (af (dm false) (aA mF (μ (θ 0) (μ (θ 2) (Ξ)))) (fM (Ξ)))) (cg (θ 2)) (dI)
theorem Fg{Q:V3}{G G1:Gp}{cs:List ω}{x b:Int}{N:Nat}{D3:gz}(hp:∀c∈cs,0<c.1)(hl:cs.length≤1000)(s:Sub G G1)(hrt:D3.rt=(aT Q).rt)(JO:∀τ G',Sub G G'->Q .ak G->D3.nx τ G')
  (q:Q (u6 x b ((Δ N).find? (dh cs x b))) G):j4 (fun _=>True) (hName 2) Ma D3 ((Δ N).map fun k:Nat=>D.int (x+b*(k:Int))) [some (cT cs),some (.int x),none] G1:=by
 refine kC (fun ds τ G'=>Sub G G'/\∃(ks:List Nat) (x2:Option D),ds=ks.map (fun k:Nat=>D.int (x+b*(k:Int)))/\τ=[some (cT cs),some (.int x),x2]/\ks.find? (dh cs x b)=(Δ N).find? (dh cs x b)) (fun _ _ _ _=>trivial) ?_ ?_ _ _ _ ⟨s,Δ N,none,rfl,rfl,rfl⟩
 ·rintro d ds τ G' N' ⟨s1,ks,x2,e,rfl,hf⟩ hN;cases ks with
  |nil=>cases e
  |cons k ks=>
   cases e;refine⟨cs,x+b*(k:Int),rfl,hp,hl,fun p2 G2 n2 p3 G3 n3=>?_⟩;refine⟨_,_,jG (n3.sub _ _ n2.at_) (uE _),jG n3.at_ rfl,wH _,fun h=>?_,fun h=>?_⟩
   ·have h':(Dat.D.lst ((cs.filter (rg (x+b*(k:Int)))).map cX)).dS (.lst [])=true:=h;rw[uD,iA] at h';rw[List.find?_cons_of_pos (by exact h')] at hf;rw[←hf] at q;show D3.rt (.int (x+b*(k:Int))) G3;rw[hrt];exact rf ((s1.trans n2.sub).trans n3.sub) q
   ·have h':(Dat.D.lst ((cs.filter (rg (x+b*(k:Int)))).map cX)).dS (.lst [])=false:=h;rw[uD,iA] at h';rw[List.find?_cons_of_neg (by rw[show dh cs x b k=false from h'];decide)] at hf;exact hN _ _ ⟨(s1.trans n2.sub).trans n3.sub,ks,_,rfl,rfl,hf⟩
 ·rintro τ G' ⟨s1,ks,x2,e,rfl,hf⟩;cases ks with
  |cons k ks=>cases e
  |nil=>
   rw[←hf] at q;exact JO _ _ s1 q
end My
namespace My
open PySem L2 L3
def qd:dF:=fun ds G Q=>∃(cs:List ω) (x:Int),ds=[cT cs,.int x]/\(∀c∈cs,0<c.1)/\cs.length≤10/\Q (u6 x 1 ((Δ (2^cs.length)).find? (dh cs x 1))) G
def WL:ab:=gH (bK (af (dm false) (aA mF (μ (θ 0) (μ (θ 2) (Ξ)))) (fM (Ξ)))) (cg (θ 2)) (dI)
def WJ:ab:=cg (eC .ak)
def WI:ab:=aF (jE (tZ (μ (θ 1) (μ (af cB (θ 1) (aA tf (μ (θ 0) (Ξ)))) (Ξ)))) (hName 2) (WL)) WJ
def Ff:ab:=aF (ky (aA qe (μ (dA kE (μ (θ 0) (Ξ))) (μ (eC (.int 10)) (Ξ))))) WI
theorem WH:∀ds G Q,qd ds G Q->Ff (aT Q) (bz ["clocks","number","looked"] ds) G:=by
 rintro ds G Q ⟨cs,x,rfl,hp,hl,q⟩;have hlm:(((cs.map cD).length:Nat):Int)=(cs.length:Nat):=by rw[ξ]
 refine⟨_,_,rfl,by show (((cs.map cD).length:Nat):Int)≤10;rw[hlm];lia,cs,rfl,by lia,?_⟩;show j4 _ _ _ _ (iw x 1 (g9 x (x+((2^cs.length:Nat):Int)) 1)) _ _;rw[Bi,Bj];have e:((Δ (2^cs.length)).map fun k:Nat=>D.int (x+(k:Int)))=(Δ (2^cs.length)).map fun k:Nat=>D.int (x+1*(k:Int)):=aM fun k _=>by rw[iL]
 rw[e];exact Fg (G:=G) hp (by lia) (Sub.refl _) rfl (fun τ G' s qn=>rf s qn) q
def uv:dF:=fun ds G Q=>∃(cs:List ω) (x:Int),ds=[cT cs,.int x]/\(∀c∈cs,0<c.1)/\cs.length≤10/\Q (u6 x (-1) ((Δ (2^cs.length)).find? (dh cs x (-1)))) G
def WG:ab:=gH (bK (af (dm false) (aA mF (μ (θ 0) (μ (θ 2) (Ξ)))) (fM (Ξ)))) (cg (θ 2)) (dI)
def WE:ab:=cg (eC .ak)
def WD:ab:=aF (jE (wW (μ (θ 1) (μ (af iQ (θ 1) (aA tf (μ (θ 0) (Ξ)))) (μ (JS xE (eC (.int 1))) (Ξ))))) (hName 2) (WG)) WE
def Fe:ab:=aF (ky (aA qe (μ (dA kE (μ (θ 0) (Ξ))) (μ (eC (.int 10)) (Ξ))))) WD
theorem WC:∀ds G Q,uv ds G Q->Fe (aT Q) (bz ["clocks","number","looked"] ds) G:=by
 rintro ds G Q ⟨cs,x,rfl,hp,hl,q⟩;have hlm:(((cs.map cD).length:Nat):Int)=(cs.length:Nat):=by rw[ξ]
 refine⟨_,_,rfl,by show (((cs.map cD).length:Nat):Int)≤10;rw[hlm];lia,cs,rfl,by lia,⟨by decide,by decide⟩,?_⟩;show j4 _ _ _ _ (iw x (-1) (g9 x (x-((2^cs.length:Nat):Int)) (-1))) _ _;rw[LM,LN];have e:((Δ (2^cs.length)).map fun k:Nat=>D.int (x-(k:Int)))=(Δ (2^cs.length)).map fun k:Nat=>D.int (x + -1*(k:Int)):=aM fun k _=>by rw[show x-(k:Int)=x + -1*(k:Int) by lia]
 rw[e];exact Fg (G:=G) hp (by lia) (Sub.refl _) rfl (fun τ G' s qn=>rf s qn) q
def hE(cs:List ω):Prop:=∀c∈cs,Valid c/\c.1≤64
def gm(cs:List ω)(x:Int):Prop:=cs.filter (bU x)=[]
theorem hE.k{cs:List ω}(h:hE cs):∀c∈cs,Valid c/\c.1≤1000:=fun c hc=>⟨(h c hc).1,by have:=(h c hc).2;lia⟩
theorem hE.p{cs:List ω}(h:hE cs):∀c∈cs,0<c.1:=fun c hc=>(h c hc).1.1
theorem ra{cs:List ω}(h:hE cs)(x:Int):cs.filter (rg x)=cs.filter (bU x):=g6 fun c hc=>(BK (h c hc).1 x).symm
theorem oT{cs:List ω}(h:hE cs){x b:Int}{k:Nat}:dh cs x b k=true↔gm cs (x+b*(k:Int)):=by
 unfold dh gm;rw[List.isEmpty_iff,ra h]
theorem Bh{cs:List ω}(h:hE cs){y:Int}(hy:gm cs y)(x:Int)(b:Int)(hb:b=1∨b = -1):∃k:Nat,k<2^cs.length/\gm cs (x+b*(k:Int)):=by
 refine aD fun hn=>?_;have hall:=Mg (x:=x) (b:=b) h hb fun k hk=>by
  cases e:dh cs x b k with
  |false=>rfl
  |true=>exact absurd ⟨k,hk,(oT h).mp e⟩ hn
 have hpos:=ML fun z hz=>(h z hz).1.1
 -- a number of the same rest as y,that way
 obtain⟨k,hk⟩:∃k:Nat,((cS cs:Nat):Int)∣(x+b*(k:Int))-y:=by
  refine⟨((b*(y-x))%((cS cs:Nat):Int)).toNat,?_⟩;have m0:=cm (b*(y-x)) (show ((cS cs:Nat):Int)≠0 by lia);rw[bw m0];have e0:=ck (b*(y-x)) ((cS cs:Nat):Int);generalize (b*(y-x))%((cS cs:Nat):Int)=r at e0 m0;generalize (b*(y-x)) / ((cS cs:Nat):Int)=t at e0;rcases hb with rfl|rfl
  ·exact⟨-t,by rw[sR];lia⟩
  ·exact⟨t,by lia⟩
 have hm:=hall k;obtain⟨c,hc,hr⟩:=tK.mp hm;rw[←BK (h c hc).1,cK] at hr;have hd:c.1∣((cS cs:Nat):Int):=by
  have:=cC.mpr (Bl hc);rwa [bw (by have:=(h c hc).1.1;lia)] at this
 have hy2:c.1∣y-c.2:=by
  have e:=di hr (fe hd hk);rwa [show x+b*(k:Int)-c.2-(x+b*(k:Int)-y)=y-c.2 by lia] at e
 have:c∈cs.filter (bU y):=oM.mpr ⟨hc,cK.mpr hy2⟩;rw[hy] at this;cases this
theorem sZ(cs:List ω)(b:Nat):(gm cs (b:Int)->dB cs 0 (b+1)=dB cs 0 b+1)/\(¬gm cs (b:Int)->dB cs 0 (b+1)=dB cs 0 b):=by
 rw[rb];constructor
 ·intro h;rw[if_pos (by rw[h];rfl)]
 ·intro h;rw[if_neg (fun z=>h (dG.mp z))];rfl
theorem xS(cs:List ω){a b:Nat}(h:a≤b):dB cs 0 a≤dB cs 0 b:=by
 induction h with
 |refl=>exact Γ _
 |step _ ih=>
  rw[rb];exact ae ih (fk _ _)
theorem Fd{cs:List ω}(h:hE cs){y:Int}(hy:gm cs y):∀t:Nat,t≤dB cs 0 (t*2^cs.length)
 |0=>aB _
 |t+1=>by
  have ih:=Fd h hy t;obtain⟨k,hk,hm⟩:=Bh h hy ((t*2^cs.length:Nat):Int) 1 (.inl rfl);have e:((t*2^cs.length:Nat):Int)+1*(k:Int)=((t*2^cs.length+k:Nat):Int):=by lia
  rw[e] at hm;have s1:=(sZ cs _).1 hm;have s2:=xS cs (show t*2^cs.length≤t*2^cs.length+k by lia);have s3:=xS cs (show t*2^cs.length+k+1≤(t+1)*2^cs.length by rw[Nat.add_mul];lia);lia
def uu:dF:=fun ds G Q=>∃(cs:List ω) (n:Nat),ds=[cT cs,.int n]/\hE cs/\cs.length≤9/\n<10^50/\(∃y,gm cs y)/\∀(y:Nat) G',gm cs (y:Int)->dB cs 0 y=n->y<(n+1)*2^cs.length->Sub G G'->Q (.int y) G'
def WB:ab:=gH (bK (af sX (aA uw (μ (θ 2) (μ (af cB (θ 5) (eC (.int 1))) (Ξ)))) (θ 1))) (bf (θ 5) (hName 4)) (bf (af cB (θ 5) (eC (.int 1))) (hName 3))
def WA:ab:=aF (bf (af kA (af cB (θ 3) (θ 4)) (eC (.int 2))) (hName 5)) WB
def Wz:ab:=cg (θ 3)
def Wy:ab:=aF (nI (bK (af sf (θ 3) (θ 4))) (WA)) Wz
def Wx:ab:=aF (bf (af iQ (af fg (af cB (θ 1) (eC (.int 1))) (aA tf (μ (θ 0) (Ξ)))) (eC (.int 1))) (hName 4)) Wy
def Ww:ab:=aF (bf (eC (.int 0)) (hName 3)) Wx
def Fc:ab:=aF (bf (aA tj (μ (θ 0) (Ξ))) (hName 2)) Ww
def Fb:ab:=aF (gH (bK (af (um false) (aA qd (μ (θ 0) (μ (eC (.int 0)) (Ξ)))) (eC .ak))) (qY) (dI)) Fc
theorem Bg{cs:List ω}(h:hE cs){y:Int}(hy:gm cs y)(x:Int):∃k:Nat,(Δ (2^cs.length)).find? (dh cs x 1)=some k:=by
 obtain⟨k,hk,hm⟩:=Bh h hy x 1 (.inl rfl);cases e:(Δ (2^cs.length)).find? (dh cs x 1) with
 |some k=>exact⟨k,rfl⟩
 |none=>exact absurd ((oT h).mpr hm) (fD.mp e k (aH.mpr hk))
theorem Wv{D3:gz}{G:Gp}{cs:List ω}{n:Nat}(h:hE cs)(hl:cs.length≤9)(hn:n<10^50){y0:Int}(hy0:gm cs y0)(q:∀(y:Nat) G',gm cs (y:Int)->dB cs 0 y=n->y<(n+1)*2^cs.length->Sub G G'->D3.rt (.int y) G'):
  Fc D3 [some (cT cs),some (.int n),none,none,none,none] G:=by
 have hpw:2^cs.length≤512:=ae (bM (by decide) hl) (by decide);have hpp:0<2^cs.length:=Nat.two_pow_pos _;have hn':((n:Nat):Int)<10^50:=by exact_mod_cast hn
 have hw':((2^cs.length:Nat):Int)≤512:=by exact_mod_cast hpw
 refine⟨cs,rfl,h.k,hl,fun pw ob G1 n1=>⟨cs,rfl,by lia,⟨?_,?_⟩,?_⟩⟩
 ·exact dX (by lia) (by lia)
 ·exact dX (by lia) (by lia)
 generalize hW:2^cs.length=W at hpw hpp q;have hw0:=Fd h hy0 (n+1);rw[hW] at hw0;have ehi:(((n:Nat):Int)+1)*((W:Nat):Int)-1=(((n+1)*W-1:Nat):Int):=by
  have:0<(n+1)*W:=gg (by lia) hpp;rw[Int.ofNat_sub (by lia),dw];rfl
 refine⟨fun m τ G'=>∃(lo hi:Nat) (x5:Option D),τ=[some (cT cs),some (.int n),some (.obj pw),some (.int lo),some (.int hi),x5]/\m=hi-lo/\lo≤hi/\hi<(n+1)*W/\dB cs 0 lo≤n/\n<dB cs 0 (hi+1)/\Sub G1 G',⟨_,0,(n+1)*W-1,none,?_,rfl,by lia,?_,aB _,?_,Sub.refl _⟩,?_⟩
 ·show [some (cT cs),some (D.int n),some (D.obj pw),some (D.int 0),some (D.int ((((n:Nat):Int)+1)*((W:Nat):Int)-1)),none]=_;rw[ehi];rfl
 ·have:0<(n+1)*W:=gg (by lia) hpp;lia
 ·rw[Nat.sub_add_cancel (gg (by lia) hpp)];lia
 rintro m τ G2 ⟨lo,hi,x5,rfl,rfl,hle,hhi,h1,h2,s⟩;refine⟨fun g=>?_,fun g=>?_⟩
 ·have g':(lo:Int)<(hi:Int):=of_decide_eq_true g;have emid:((lo:Int)+(hi:Int)) / 2=(((lo+hi) / 2:Nat):Int):=by lia
  have hb60:(lo+hi) / 2+1<10^60:=by
   have:(n+1)*W≤10^50*512:=lN hn hpw;lia
  refine⟨⟨by decide,dX (by decide) (by decide)⟩,pw,cs,ob,(lo+hi) / 2+1,?_,s _ _ n1.at_,h.k,hl,hb60,fun G3 s3=>⟨fun z=>?_,fun z=>?_⟩⟩
  ·show [D.obj pw,D.int (((lo:Int)+(hi:Int)) / 2+1)]=_;rw[emid];rfl
  ·have z':((n:Nat):Int)<((dB cs 0 ((lo+hi) / 2+1):Nat):Int):=of_decide_eq_true z;refine⟨(lo+hi) / 2-lo,by lia,lo,(lo+hi) / 2,some (.int (((lo+hi) / 2:Nat):Int)),?_,rfl,by lia,by lia,h1,by lia,s.trans s3⟩
   ·show [some (cT cs),some (D.int n),some (D.obj pw),some (D.int lo),some (D.int (((lo:Int)+(hi:Int)) / 2)),some (D.int (((lo:Int)+(hi:Int)) / 2))]=_;rw[emid]
  ·have z':¬((n:Nat):Int)<((dB cs 0 ((lo+hi) / 2+1):Nat):Int):=of_decide_eq_false z;refine⟨hi-((lo+hi) / 2+1),by lia,(lo+hi) / 2+1,hi,some (.int (((lo+hi) / 2:Nat):Int)),?_,rfl,by lia,by lia,by lia,h2,s.trans s3⟩
   ·show [some (cT cs),some (D.int n),some (D.obj pw),some (D.int (((lo:Int)+(hi:Int)) / 2+1)),some (D.int hi),some (D.int (((lo:Int)+(hi:Int)) / 2))]=_;rw[emid];rfl
 ·have g':¬(lo:Int)<(hi:Int):=of_decide_eq_false g;have e:lo=hi:=by lia
  subst e;have hm:gm cs (lo:Int):=by
   refine aD fun hn=>?_;rw[(sZ cs lo).2 hn] at h2;lia
  have e2:=(sZ cs lo).1 hm;exact q lo G2 hm (by lia) hhi (n1.sub.trans s)
theorem Wu:∀ds G Q,uu ds G Q->Fb (aT Q) (bz ["clocks","n","weights","low","high","middle"] ds) G:=by
 rintro ds G Q ⟨cs,n,rfl,h,hl,hn,⟨y0,hy0⟩,q⟩;obtain⟨k,ek⟩:=Bg h hy0 0;refine⟨cs,0,rfl,h.p,by lia,?_⟩;rw[ek];exact⟨nofun,fun _=>Wv h hl hn hy0 fun y G' h1 h2 h3 s=>eI (q y G' h1 h2 h3 s)⟩
def vT:dF:=fun ds G Q=>∃(cs:List ω) (y:Nat),ds=[cT cs,.int y]/\hE cs/\cs.length≤9/\y<10^60/\gm cs (y:Int)/\∀G',Sub G G'->Q (.int (dB cs 0 y:Nat)) G'
def Wt:ab:=cg (aA uw (μ (aA tj (μ (θ 0) (Ξ))) (μ (θ 1) (Ξ))))
def Ws:ab:=aF (gH (sH (uV (bK (aA wG (μ (θ 0) (μ (θ 1) (Ξ)))))) (bK (af sf (θ 1) (eC (.int 0))))) (qY) (dI)) Wt
def E9:ab:=aF (ky (aA qe (μ (dA kE (μ (θ 0) (Ξ))) (μ (eC (.int 10)) (Ξ))))) Ws
theorem Wr:∀ds G Q,vT ds G Q->E9 (aT Q) (bz ["clocks","number"] ds) G:=by
 rintro ds G Q ⟨cs,y,rfl,h,hl,hy,hm,q⟩;have hlm:(((cs.map cD).length:Nat):Int)=(cs.length:Nat):=by rw[ξ]
 have em:yy cs (.int (y:Int))=true:=by
  show (cs.filter (rg (y:Int))).isEmpty=true;rw[ra h,hm];rfl
 refine⟨_,_,rfl,by show (((cs.map cD).length:Nat):Int)≤10;rw[hlm];lia,cs,.int y,rfl,trivial,h.p,by lia,?_⟩;rw[em];refine⟨nofun,fun _=>⟨fun g=>?_,fun _=>⟨cs,rfl,h.k,hl,fun pw ob G1 n1=>⟨pw,cs,ob,y,rfl,n1.at_,h.k,hl,hy,fun G2 s2=>eI (q G2 (n1.sub.trans s2))⟩⟩⟩⟩;have g':((y:Nat):Int)<0:=of_decide_eq_true g;lia
end My
namespace My
open PySem L2 L3
def vS:dF:=fun ds G Q=>∃(p:ε),ds=[.obj p,.int 7]/\G p=some .kl/\∀cs,DS cs->cs.length≤7->rN cs->Q (cT cs) G
def Wq:ab:=aF (gH (bK (af (dm false) (θ 2) (eC (.int 0)))) (bf (gV ["turn"] [0] (nq (μ (aA lj (μ (θ 0) (μ (af cB (θ 1) (eC (.int 1))) (Ξ)))) (Ξ))) (hName 0) (fL) (aA uB (μ (θ 1) (μ (eC (.int 12)) (Ξ))))) (hName 3)) (gH (bK (af (dm false) (θ 2) (eC (.int 1)))) (aF (bf (fM (μ (eC (.int 2)) (μ (eC (.int 3)) (μ (eC (.int 4)) (μ (eC (.int 6)) (μ (eC (.int 8)) (μ (eC (.int 12)) (μ (eC (.int 24)) (Ξ))))))))) (hName 4)) Ow) (aF (bf (aA vV (μ (θ 0) (μ (eC (.int 1)) (μ (dA uI (μ (eC (.int 1)) (μ (af iQ (θ 1) (eC (.int 1))) (Ξ)))) (Ξ))))) (hName 3)) Ov))) BE
def E8:ab:=aF (bf (aA lj (μ (θ 0) (μ (eC (.int 5)) (Ξ)))) (hName 2)) Wq
theorem xR{G G1:Gp}{Q:V3}{p:ε}{q1:ε}{cs:List ω}{x2 x4 x5 x6:Option D}(q:∀cs,DS cs->cs.length≤7->rN cs->Q (cT cs) G)
  (n1:dg G q1 (.lst (cs.map cD)) G1) (ok:DS cs) (hl:cs.length≤60):BE (aT Q) [some (.obj p),some (.int 7),x2,some (.obj q1),x4,x5,x6] G1:=by
 refine⟨_,GJ n1.at_,by rw[ξ];exact hl,GK,fun p1 mss G2 hp1 hmem nd hr hlen=>?_⟩;obtain⟨cs',rfl,hmem,hr,hlen⟩:=OI hmem nd hr hlen;rw[BI] at hp1;refine⟨_,hp1.at_,?_⟩;show (aT Q).rt (.tup (kF (cs'.map cD) none (some ((7:Nat):Int)))) G2;rw[tm,xX];have sb:∀c∈cs'.take 7,c∈cs:=fun c hc=>(hmem c).mp (kR hc);refine rf (n1.sub.trans hp1.sub) (q _ ⟨fun c hc=>ok.1 c (sb c hc),ok.2.1.sub sb,fun c hc=>ok.2.2 c (sb c hc)⟩ ?_ (hr.take 7));rw[de];lia
theorem Wp:∀ds G Q,vS ds G Q->E8 (aT Q) (bz ["pen","most","way","found","steps","turn","step"] ds) G:=by
 rintro ds G Q ⟨p,rfl,hp,q⟩;refine⟨p,5,rfl,hp,⟨by decide,dX (by decide) (by decide)⟩,fun way w1 w2=>?_⟩;refine⟨_,_,rfl,rfl,aB _,fun _=>?_,fun _=>⟨_,_,rfl,rfl,aB _,fun _=>?_,fun _=>?_⟩⟩
 ·refine⟨p,_,rfl,hp,⟨by lia,dX (by lia) (by lia)⟩,fun n h1 h2=>⟨⟨by lia,by lia⟩,?_,?_⟩⟩
  ·show (kc 0 n.toNat).length≤aj;rw[uK];exact cP (by lia)
  refine wD (fun ds acc τ G'=>(∃cs:List ω,acc=cs.map cD/\(∀c∈cs,Valid c/\c.1≤12)/\cs.length+ds.length≤50)/\G'=G/\∃x,τ=[x,some (.obj p)]) (fun _ _ _ _ _=>trivial) ?_ ?_ _ _ _ _ ⟨⟨[],rfl,(fun c hc=>nomatch hc),?_⟩,rfl,none,rfl⟩
  ·rintro d ds acc τ G' K1 K2 ⟨⟨cs,rfl,ok,hl⟩,rfl,x,rfl⟩ g1 g2;refine⟨fun _=>⟨p,12,rfl,hp,⟨by decide,by decide⟩,fun c hv hc=>?_⟩,nofun⟩;refine g1 _ _ _ ⟨⟨cs++[c],by simp,fun c' hc'=>?_,?_⟩,rfl,_,rfl⟩
   ·rcases cI.mp hc' with z|z
    ·exact ok c' z
    ·have:c'=c:=by simpa using z
     rw[this];exact⟨hv,hc⟩
   ·rw[aa,fH];simp only[ax] at hl;lia
  ·rintro acc τ G' ⟨⟨cs,rfl,ok,hl⟩,rfl,x,rfl⟩;intro q1 G1 n1;exact xR q n1 ⟨fun c hc=>⟨(ok c hc).1,by have:=(ok c hc).2;lia⟩,.inl fun c hc=>(ok c hc).2,fun c hc=>by have:=(ok c hc).2;lia⟩ (by simp at hl;lia)
  ·show ([]:List ω).length+(kc 0 n.toNat).length≤50;rw[uK];simp;lia
 ·intro st G0 hst q1 G1 n1;have hp1:=n1.sub _ _ (hst.sub _ _ hp);refine⟨p,_,rfl,hp1,⟨by lia,dX (by lia) (by lia)⟩,fun n h1 h2=>⟨⟨by lia,by lia⟩,?_⟩⟩;refine kC (fun ds τ G'=>∃(cs:List ω) (x5 x6:Option D),τ=[some (.obj p),some (.int 7),some (.int way),some (.obj q1),some (.obj st),x5,x6]/\dg G q1 (.lst (cs.map cD)) G'/\G' st=some (.lst (([2,3,4,6,8,12,24]:List Int).map D.int))/\(∀c∈cs,Valid c/\c.1∣24)/\cs.length+ds.length≤50) (fun _ _ _ _=>trivial) ?_ ?_ _ _ _ ?_
  ·rintro d ds τ G2 N ⟨cs,x5,x6,rfl,n2,e3,ok,hl⟩ hN;have hp2:=n2.sub p _ hp;have e2:=n2.at_;refine⟨p,7,rfl,hp2,⟨by decide,dX (by decide) (by decide)⟩,fun r a b=>?_⟩;obtain⟨stp,hm',es⟩:=GN (ns:=[2,3,4,6,8,12,24]) a b;have hs:(2≤stp/\stp≤24)/\stp∣24:=by
    simp at hm';rcases hm' with rfl|rfl|rfl|rfl|rfl|rfl|rfl<;>decide
   refine⟨_,.int stp,e3,es,⟨q1,_,rfl,e2⟩,p,stp,rfl,hp2,⟨by lia,dX (by lia) (by lia)⟩,fun r2 h3 h4=>?_⟩;simp only[ax] at hl;refine⟨_,e2,by rw[ξ];exact eD (show cs.length≤50 by lia) (by decide),?_⟩;have hne:st≠q1:=fun z=>by
    rw[z,e2] at e3;cases cs with
    |nil=>simp at e3
    |cons c cs=>simp[cD] at e3
   refine hN _ _ ⟨cs++[(stp,r2)],_,_,rfl,⟨n2.ak,Sub.sU n2.sub n2.ak,?_⟩,?_,fun c hc=>?_,?_⟩
   ·rw[lr,bB];rfl
   ·rw[mi hne];exact e3
   ·rcases cI.mp hc with hc|hc
    ·exact ok c hc
    ·have:c=(stp,r2):=by simpa using hc
     subst this;exact⟨⟨by show 0<stp;lia,h3,h4⟩,hs.2⟩
   ·rw[aa,fH];lia
  ·rintro τ G2 ⟨cs,x5,x6,rfl,n2,e3,ok,hl⟩;refine xR q n2 ⟨fun c hc=>⟨(ok c hc).1,?_⟩,.inr ⟨24,by decide,by decide,fun c hc=>?_⟩,fun c hc=>by have:=Int.le_of_dvd (by decide) (ok c hc).2;lia⟩ (by simp at hl;lia)
   ·have:=Int.le_of_dvd (by decide) (ok c hc).2;lia
   ·have h0:=(ok c hc).1.1;refine cC.mp ?_;rw[bw (by lia)];exact (ok c hc).2
  ·refine⟨[],_,_,rfl,⟨hst.sub.of_none n1.ak,hst.sub.trans n1.sub,n1.at_⟩,n1.sub _ _ hst.at_,(fun c hc=>nomatch hc),?_⟩;show ([]:List ω).length+(kc 0 n.toNat).length≤50;rw[uK];simp;lia
 ·refine⟨p,1,_,rfl,hp,⟨by decide,by decide,by decide⟩,fun q1 cs G1 ok _ _ l2 l1 n1=>?_⟩;have l2:(cs.length:Int)≤6:=l2;have l3:cs.length≤6:=by lia
  have hp1:=n1.sub _ _ hp;obtain⟨N,N1,N2,N3⟩:=ok.n;have N64:N≤64:=ae N2 (ae (bM (by decide) (show cs.length-1≤6 by lia)) (by decide));have c64:∀c∈cs,c.1≤64:=fun c hc=>by
   have:c.1≤((2^6:Nat):Int):=ok.le (j:=6) (by lia) hc;exact this
  have cl:∀c∈cs,Valid c/\c.1≤1000:=fun c hc=>⟨ok.v c hc,by
   have:=c64 c hc;lia⟩
  have pop:∀{q1:ε} {cs:List ω} {G1:Gp},DS cs->1≤cs.length->cs.length≤51->dg G q1 (.lst (cs.map cD)) G1->GD { aT Q with nx:=BE (aT Q)} [some (.obj p),some (.int 7),some (.int way),some (.obj q1),none,none,none] G1:=by
   intro q1 cs G1 ok l1 l3 n1;refine⟨_,_,rfl,rfl,aB _,fun _=>?_,fun _=>xR q n1 ok (by lia)⟩;have e1:=n1.at_;refine⟨⟨q1,_,rfl,e1⟩,_,e1,p,_,rfl,n1.sub _ _ hp,⟨by rw[ξ];lia,dX (by rw[ξ];lia) (by rw[ξ];lia)⟩,fun r a b=>?_⟩;rw[ξ] at b;obtain⟨c,ec,hc,_⟩:=BJ cD a b;refine⟨_,r.toNat,cD c,e1,⟨by lia,by lia⟩,by rw[ξ];exact GI a b,by rw[ag,ec];rfl,?_⟩;rw[BG];exact xR q (wrote n1) ⟨fun c hc=>ok.1 c (cQ hc),ok.2.1.sub fun c hc=>cQ hc,fun c hc=>ok.2.2 c (cQ hc)⟩ (ae (Ce cs _) (by lia))
  refine⟨_,_,rfl,rfl,aB _,fun _=>?_,fun _=>pop ⟨cl,.inr ⟨N,N1,by lia,N3⟩,c64⟩ l1 (by lia) n1⟩;refine⟨p,6,rfl,hp1,⟨by decide,by decide⟩,fun c hv hc=>?_⟩;intro q2 G2 n2;refine⟨_,_,n2.sub _ _ n1.at_,n2.at_,?_,fun q3 G3 n3=>?_⟩
  ·rw[ξ];exact cP (by simp;lia)
  have n3':dg G q3 (.lst ((cs++[c]).map cD)) G3:=⟨(n1.sub.trans n2.sub).of_none n3.ak,(n1.sub.trans n2.sub).trans n3.sub,by rw[n3.at_,bB];rfl⟩;have h0:=hv.1;have one:∀c':ω,c'∈cs++[c]->c'∈cs∨c'=c:=fun c' hc'=>by
   rcases cI.mp hc' with z|z
   ·exact .inl z
   ·exact .inr (by simpa using z)
  refine pop ⟨fun c' hc'=>?_,.inr ⟨N*c.1.toNat,gg N1 (by lia),?_,fun c' hc'=>?_⟩,fun c' hc'=>?_⟩ (by simp) (by simp;lia) n3'
  ·rcases one c' hc' with z|rfl
   ·exact cl c' z
   ·exact⟨hv,by lia⟩
  ·have:N*c.1.toNat≤64*6:=lN N64 (by lia);lia
  ·rcases one c' hc' with z|rfl
   ·exact mO (N3 c' z) (g0 _ _)
   ·exact ki _ _
  ·rcases one c' hc' with z|rfl
   ·exact c64 c' z
   ·lia
end My
namespace My
open PySem L2 L3
theorem ur:∀ns:List Int,eW (ns.map D.int)=some (ns.map Dat.D.int):=by
 intro ns
 induction ns with
 |nil=>rfl
 |cons n ns ih=>
  show eW (D.int n::ns.map D.int)=_;rw[eW,ih];rfl
theorem E7(ms ns:List Int):Dat.jI (ms.map Dat.D.int) (ns.map Dat.D.int)=decide (ms=ns):=by
 induction ms generalizing ns with
 |nil=>cases ns<;>rfl
 |cons m ms ih=>
  cases ns with
  |nil=>rfl
  |cons n ns=>
   show ((m==n)&&Dat.jI (ms.map Dat.D.int) (ns.map Dat.D.int))=_;rw[ih,gO];simp
theorem E6(ns:List Int):Dat.fW (ns.map Dat.D.int)=0:=by
 induction ns with
 |nil=>rfl
 |cons n ns ih=>
  show max 0 (Dat.fW (ns.map Dat.D.int))=0;lia
end My
namespace My
open PySem L2 L3
theorem ints_map:∀ns:List Int,intsOf (ns.map D.int)=some ns
 |[]=>rfl
 |n::ns=>by
  show intsOf (D.int n::ns.map D.int)=_;simp only[intsOf,ints_map ns];rfl
theorem EZ(f:Nat->Int)(t:Nat):∀m:Nat,((Δ m).map fun j=>f j+if t=j then 1 else 0).sum=((Δ m).map f).sum+if t<m then 1 else 0
 |0=>rfl
 |m+1=>by
  rw[kP,bB,eR,bB,eR,EZ f t m];simp only[aq,om,bS,List.sum_nil];by_cases e:t=m
  ·subst e;rw[if_neg (cz _),if_pos rfl,if_pos (iz _)];lia
  ·rw[if_neg e];by_cases h:t<m
   ·rw[if_pos h,if_pos (by lia)];lia
   ·rw[if_neg h,if_neg (by lia)];lia
theorem EY(cs:List ω):∀b:Nat,(dQ cs b).sum=(b:Int)
 |0=>by
  unfold dQ;have:∀m:Nat,((Δ m).map fun j=>((dB cs j 0:Nat):Int)).sum=0:=fun m=>by
   induction m with
   |zero=>rfl
   |succ m ih=>
    rw[kP,bB,eR,ih];rfl
  exact this _
 |b+1=>by
  have ih:=EY cs b;unfold dQ at ih ⊢;have e:((Δ (cs.length+1)).map fun j=>((dB cs j (b+1):Nat):Int))=(Δ (cs.length+1)).map fun j=>((dB cs j b:Nat):Int)+if (cs.filter (bU (b:Int))).length=j then 1 else 0:=aM fun j _=>by
   rw[rb];split<;>lia
  rw[e,EZ,ih,if_pos (Nat.lt_succ_of_le (ib _ _))];lia
theorem xQ{cs:List ω}{b t:Nat}(h:t≤cs.length):jQ ((dQ cs b).map D.int) (t:Int)=some (.int (dB cs t b:Nat)):=by
 refine wz ?_;unfold dQ;rw[ag,ag,dq (by lia)];rfl
theorem Wo(cs:List ω)(b:Nat):(dQ cs (b+1)).take (cs.filter (bU (b:Int))).length++(dQ cs (b+1)).drop ((cs.filter (bU (b:Int))).length+1)=(dQ cs b).take (cs.filter (bU (b:Int))).length++(dQ cs b).drop ((cs.filter (bU (b:Int))).length+1):=by
 generalize ht:(cs.filter (bU (b:Int))).length=t;have key:∀j,j≠t->((dB cs j (b+1):Nat):Int)=((dB cs j b:Nat):Int):=fun j hj=>by
  rw[rb,ht,if_neg (fun z=>hj z.symm)];rfl
 unfold dQ;rw[←j8,←j9,←j8,←j9];refine congr (congrArg _ (aM fun j hj=>key j ?_)) (aM fun j hj=>key j ?_)
 ·obtain⟨i,hi⟩:=dD hj;rw[List.getElem?_take] at hi;by_cases z:i<t
  ·rw[if_pos z] at hi;obtain⟨_,e⟩:=aw.mp hi;rw[rV] at e;lia
  ·rw[if_neg z] at hi;cases hi
 ·obtain⟨i,hi⟩:=dD hj;rw[my] at hi;obtain⟨_,e⟩:=aw.mp hi;rw[rV] at e;lia
theorem Bf(cs:List ω)(b:Nat):(dQ cs b).length=cs.length+1:=by
 unfold dQ;rw[ξ,fR]
def vR:dF:=fun ds G Q=>∃(cs:List ω) (b:Nat),ds=[cT cs,.int b]/\hE cs/\cs.length≤9/\b<10^45/\∀G',Sub G G'->Q (.bl true) G'
def Wn:ab:=cg (af (dm false) (af cB (t5 (θ 2) (oE) (lP (θ 4))) (t5 (θ 2) (lP (af cB (θ 4) (eC (.int 1)))) (oE))) (af cB (t5 (θ 3) (oE) (lP (θ 4))) (t5 (θ 3) (lP (af cB (θ 4) (eC (.int 1)))) (oE))))
def Wm:ab:=aF (gH (sH (bK (af (dm true) (dA wg (μ (θ 2) (Ξ))) (θ 1))) (bK (af (dm true) (af eK (θ 3) (θ 4)) (af cB (af eK (θ 2) (θ 4)) (eC (.int 1)))))) (cg (eC (.bl false))) (dI)) Wn
def Wl:ab:=aF (bf (aA wa (μ (θ 0) (μ (θ 1) (Ξ)))) (hName 4)) Wm
def Wk:ab:=aF (bf (aA oU (μ (θ 0) (μ (af cB (θ 1) (eC (.int 1))) (Ξ)))) (hName 3)) Wl
def EX:ab:=aF (bf (aA oU (μ (θ 0) (μ (θ 1) (Ξ)))) (hName 2)) Wk
theorem qZ{a b:Int}(h:a=b):¬(!((Dat.D.int a).dS (.int b)))=true:=by
 rw[h];show ¬(!(b==b))=true;rw[beq_self_eq_true];decide
theorem WW:∀ds G Q,vR ds G Q->EX (aT Q) (bz ["clocks","bound","found","more","times"] ds) G:=by
 rintro ds G Q ⟨cs,b,rfl,h,hl,hb,q⟩;refine⟨cs,b,rfl,h.k,hl,jh hb (by decide),fun p1 G1 n1=>⟨cs,b+1,rfl,h.k,hl,by lia,fun p2 G2 n2=>⟨cs,b,rfl,h.p,by lia,?_⟩⟩⟩;rw[ra h];have htl:(cs.filter (bU (b:Int))).length≤cs.length:=ib _ _;have hcut:=Wo cs b;have hcn:dB cs (cs.filter (bU (b:Int))).length (b+1)=dB cs (cs.filter (bU (b:Int))).length b+1:=by rw[rb,if_pos rfl]
 generalize (cs.filter (bU (b:Int))).length=t at htl hcut hcn;have e1:=n2.sub _ _ n1.at_;refine⟨_,_,e1,ints_map _,_,_,rfl,rfl,aB _,fun g=>absurd g (qZ (EY cs b)),fun _=>⟨_,_,n2.at_,xQ htl,_,_,e1,xQ htl,_,_,rfl,rfl,aB _,fun g=>absurd g (qZ (by rw[hcn];rfl)),fun _=>?_⟩⟩;refine⟨_,e1,fun p3 G3 n3=>⟨_,n3.sub _ _ e1,fun p4 G4 n4=>?_⟩⟩;rw[tm,xX] at n3;rw[tm,show (((t:Nat):Int)+1)=((t+1:Nat):Int) from rfl,GP] at n4;refine⟨_,_,n4.sub _ _ n3.at_,n4.at_,?_,fun p5 G5 n5=>?_⟩
 ·rw[ξ,ξ,de,gs,Bf];exact cP (by lia)
 have s5:Sub G2 G5:=n3.sub.trans (n4.sub.trans n5.sub);have e2:=s5 _ _ n2.at_;refine⟨_,e2,fun p6 G6 n6=>⟨_,n6.sub _ _ e2,fun p7 G7 n7=>?_⟩⟩;rw[tm,xX] at n6;rw[tm,show (((t:Nat):Int)+1)=((t+1:Nat):Int) from rfl,GP] at n7;refine⟨_,_,n7.sub _ _ n6.at_,n7.at_,?_,fun p8 G8 n8=>?_⟩
 ·rw[ξ,ξ,de,gs,Bf];exact cP (by lia)
 rw[←bB] at n5 n8;rw[hcut] at n8;have s8:Sub G5 G8:=n6.sub.trans (n7.sub.trans n8.sub);have hd:∀ns:List Int,(Dat.D.lst (ns.map Dat.D.int)).i7≤50:=fun ns=>by
  show Dat.fW (ns.map Dat.D.int)+1≤50;rw[E6];decide
 refine⟨_,_,jG (s8 _ _ n5.at_) (ur _),jG n8.at_ (ur _),hd _,?_⟩;have ee:(Dat.D.lst (((dQ cs b).take t++(dQ cs b).drop (t+1)).map Dat.D.int)).dS (.lst (((dQ cs b).take t++(dQ cs b).drop (t+1)).map Dat.D.int))=true:=by
  show Dat.jI _ _=true;rw[E7];exact decide_eq_true rfl
 show (aT Q).rt (.bl ((Dat.D.lst (((dQ cs b).take t++(dQ cs b).drop (t+1)).map Dat.D.int)).dS (.lst (((dQ cs b).take t++(dQ cs b).drop (t+1)).map Dat.D.int)))) G8;rw[ee];exact eI (q G8 ((n1.sub.trans n2.sub).trans (s5.trans s8)))
theorem WV{cs:List ω}{y z:Nat}(hy:gm cs (y:Int))(hz:gm cs (z:Int))(e:dB cs 0 y=dB cs 0 z):y=z:=by
 have h1:=(sZ cs y).1 hy;have h2:=(sZ cs z).1 hz;rcases Nat.lt_trichotomy y z with w|w|w
 ·have:=xS cs (show y+1≤z from w);lia
 ·exact w
 ·have:=xS cs (show z+1≤y from w);lia
theorem EW{cs:List ω}{a:Nat}:∀k:Nat,(∀i,i<k->¬gm cs ((a+i:Nat):Int))->dB cs 0 (a+k)=dB cs 0 a
 |0,_=>rfl
 |k+1,h=>by
  rw[show a+(k+1)=a+k+1 by lia,(sZ cs (a+k)).2 (h k (by lia))];exact EW k fun i hi=>h i (by lia)
theorem WU{cs:List ω}(h:hE cs){y:Nat}(hy:gm cs (y:Int)):∃k:Nat,k<2^cs.length/\(Δ (2^cs.length)).find? (dh cs ((y:Int)+1) 1)=some k/\gm cs ((y+1+k:Nat):Int)/\(∀i,i<k->¬gm cs ((y+1+i:Nat):Int)):=by
 obtain⟨k,ek⟩:=Bg h hy ((y:Int)+1);obtain⟨k1,k2,k3⟩:=gu.mp ek;have ce:∀i:Nat,(y:Int)+1+1*(i:Int)=((y+1+i:Nat):Int):=fun i=>by lia
 refine⟨k,aH.mp k2,ek,?_,fun i hi hm=>?_⟩
 ·have:=(oT h).mp k1;rwa [ce] at this
 ·have:=k3 i hi;rw[(oT h).mpr (by rw[ce];exact hm)] at this;cases this
theorem WT{cs:List ω}(h:hE cs){y k:Nat}(hk:k<2^cs.length)(hy:gm cs (y:Int))(hn:∀i,i<k->¬gm cs ((y+1+i:Nat):Int)):(Δ (2^cs.length)).find? (dh cs ((y+1+k:Nat)-1:Int) (-1))=some k:=by
 refine gu.mpr ⟨(oT h).mpr ?_,aH.mpr hk,fun i hi=>?_⟩
 ·rw[show ((y+1+k:Nat):Int)-1 + -1*(k:Int)=(y:Int) by lia];exact hy
 ·cases e:dh cs ((y+1+k:Nat)-1:Int) (-1) i with
  |false=>rfl
  |true=>
   have:=(oT h).mp e;rw[show ((y+1+k:Nat):Int)-1 + -1*(i:Int)=((y+1+(k-1-i):Nat):Int) by lia] at this;exact absurd this (hn _ (by lia))
theorem WS{cs:List ω}(h:hE cs){y:Nat}(hy:gm cs (y:Int)):(Δ (2^cs.length)).find? (dh cs (y:Int) 1)=some 0:=by
 refine gu.mpr ⟨(oT h).mpr ?_,aH.mpr (Nat.two_pow_pos _),nofun⟩;rw[show (y:Int)+1*((0:Nat):Int)=(y:Int) by lia];exact hy
def uq:dF:=fun ds G Q=>∃(cs:List ω) (n:Nat),ds=[cT cs,.int n]/\hE cs/\cs.length≤9/\n<10^45/\(∃y,gm cs y)/\∀G',Sub G G'->Q (.bl true) G'
def EV:ab:=cg (dA wj (μ (gV ["one"] [0] (tZ (μ (af cB (θ 2) (eC (.int 1))) (μ (dA yt (μ (θ 3) (μ (af cB (θ 2) (eC (.int 50))) (Ξ)))) (Ξ)))) (hName 0) (fL) (af (dm true) (aA mF (μ (θ 1) (μ (θ 0) (Ξ)))) (fM (Ξ)))) (Ξ)))
def WR:ab:=aF (gH (sH (bK (af (dm true) (θ 3) (aA uu (μ (θ 0) (μ (af cB (θ 1) (eC (.int 1))) (Ξ)))))) (bK (af (dm true) (aA uv (μ (θ 0) (μ (af iQ (θ 3) (eC (.int 1))) (Ξ)))) (θ 2)))) (cg (eC (.bl false))) (dI)) EV
def Be:ab:=aF (bf (aA qd (μ (θ 0) (μ (af cB (θ 2) (eC (.int 1))) (Ξ)))) (hName 3)) WR
def WQ:ab:=aF (gH (sH (tP (bK (af AR (θ 2) (af qb (eC (.int 10)) (eC (.int 40))))) (bK (af (dm true) (af eK (aA oU (μ (θ 0) (μ (θ 2) (Ξ)))) (eC (.int 0))) (θ 1)))) (bK (af (dm true) (aA qd (μ (θ 0) (μ (θ 2) (Ξ)))) (θ 2)))) (cg (eC (.bl false))) (dI)) Be
def WO:ab:=aF (gH (sH (bK (af (dm true) (aA vT (μ (θ 0) (μ (θ 2) (Ξ)))) (θ 1))) (bK (af (dm true) (aA mF (μ (θ 0) (μ (θ 2) (Ξ)))) (fM (Ξ))))) (cg (eC (.bl false))) (dI)) WQ
def EU:ab:=aF (bf (aA uu (μ (θ 0) (μ (θ 1) (Ξ)))) (hName 2)) WO
theorem WN{Q:V3}{G:Gp}{cs:List ω}{y k:Nat}{x1:Option D}(h:hE cs)(hl:cs.length≤9)(hn:∀i,i<k->¬gm cs ((y+1+i:Nat):Int))(q:∀G',Sub G G'->Q (.bl true) G'):EV (aT Q) [some (cT cs),x1,some (.int y),some (.int ((y+1+k:Nat):Int))] G:=by
 obtain⟨m,hm,em⟩:∃m:Nat,m≤k/\m≤49/\(if (y:Int)+50<((y+1+k:Nat):Int) then (y:Int)+50 else ((y+1+k:Nat):Int))=(y:Int)+1+(m:Int):=by
  by_cases z:(y:Int)+50<((y+1+k:Nat):Int)
  ·exact⟨49,by lia,by lia,by rw[if_pos z];lia⟩
  ·exact⟨k,by lia,by lia,by rw[if_neg z];lia⟩
 refine⟨?_,?_⟩
 ·show (iw ((y:Int)+1) 1 (g9 ((y:Int)+1) (if (y:Int)+50<((y+1+k:Nat):Int) then (y:Int)+50 else ((y+1+k:Nat):Int)) 1)).length≤aj;rw[em.2,Bi,Bj,ξ,fR];exact cP (by lia)
 show iG _ _ _ _ _ (iw ((y:Int)+1) 1 (g9 ((y:Int)+1) (if (y:Int)+50<((y+1+k:Nat):Int) then (y:Int)+50 else ((y+1+k:Nat):Int)) 1)) _ _ _;rw[em.2,Bi,Bj];refine wD (fun ds acc τ G'=>Sub G G'/\(∃x,τ=[x,some (cT cs)])/\∃ms as:List Nat,ds=ms.map (fun k:Nat=>D.int ((y:Int)+1+(k:Int)))/\(∀i∈ms,i<k)/\acc=as.map (fun _=>D.bl true)) (fun _ _ _ _ _=>trivial) ?_ ?_ _ _ _ _ ⟨Sub.refl _,⟨none,rfl⟩,Δ m,[],rfl,fun i hi=>aY (aH.mp hi) hm,rfl⟩
 ·rintro d ds acc τ G1 K1 K2 ⟨s1,⟨x,rfl⟩,ms,as,e,hms,rfl⟩ g1 g2;cases ms with
  |nil=>cases e
  |cons i ms=>
   cases e;have hni:=hn i (hms i Ψ);refine⟨fun _=>⟨cs,(y:Int)+1+(i:Int),rfl,h.p,by lia,fun p2 G2 n2 p3 G3 n3=>⟨_,_,jG (n3.sub _ _ n2.at_) (uE _),jG n3.at_ rfl,wH _,?_⟩⟩,nofun⟩;have ee:(!((Dat.D.lst ((cs.filter (rg ((y:Int)+1+(i:Int)))).map cX)).dS (.lst [])))=true:=by
    rw[uD,iA,ra h];cases ef:(cs.filter (bU ((y:Int)+1+(i:Int)))) with
    |cons c r=>rfl
    |nil=>exact absurd (show gm cs ((y+1+i:Nat):Int) by rw[show ((y+1+i:Nat):Int)=(y:Int)+1+(i:Int) by lia];exact ef) hni
   show K2 _ (D.bl (!((Dat.D.lst ((cs.filter (rg ((y:Int)+1+(i:Int)))).map cX)).dS (.lst [])))) G3;rw[ee];exact g1 _ _ _ ⟨s1.trans (n2.sub.trans n3.sub),⟨_,rfl⟩,ms,as++[i],rfl,fun z hz=>hms z (Θ _ hz),by rw[bB];rfl⟩
 ·rintro acc τ G1 ⟨s1,⟨x,rfl⟩,ms,as,e,hms,rfl⟩ p4 G4 n4;refine⟨_,_,n4.at_,BD (fun _=>true) as,?_⟩;have ea:(as.map fun _=>true).all id=true:=by simp
  rw[ea];exact eI (q G4 (s1.trans n4.sub))
theorem WM:∀ds G Q,uq ds G Q->EU (aT Q) (bz ["clocks","n","number","after"] ds) G:=by
 rintro ds G Q ⟨cs,n,rfl,h,hl,hn,⟨y0,hy0⟩,q⟩;have hpw:2^cs.length≤512:=ae (bM (by decide) hl) (by decide);refine⟨cs,n,rfl,h,hl,by lia,⟨y0,hy0⟩,fun y G1 hy ey hb s1=>?_⟩;have hyb:y<10^45*512:=aY hb (lN hn hpw);refine⟨cs,y,rfl,h,hl,by lia,hy,fun G2 s2=>?_⟩;rw[ey];refine⟨_,_,rfl,rfl,aB _,fun g=>absurd g (qZ rfl),fun _=>⟨cs,(y:Int),rfl,h.p,by lia,fun p3 G3 n3 p4 G4 n4=>⟨_,_,jG (n4.sub _ _ n3.at_) (uE _),jG n4.at_ rfl,wH _,fun g=>?_,fun _=>?_⟩⟩⟩
 ·have g':(!((Dat.D.lst ((cs.filter (rg (y:Int))).map cX)).dS (.lst [])))=true:=g;rw[uD,iA,ra h,hy] at g';cases g'
 have s4:Sub G G4:=s1.trans (s2.trans (n3.sub.trans n4.sub));obtain⟨k,hk,ek,hm,hnm⟩:=WU h hy;have hcn:dB cs 0 (y+1+k)=n+1:=by
  rw[EW k hnm,(sZ cs y).1 hy,ey]
 have tail:∀G5,Sub G G5->Be (aT Q) [some (cT cs),some (.int n),some (.int y),none] G5:=fun G5 s5=>by
  refine⟨cs,(y:Int)+1,rfl,h.p,by lia,?_⟩;rw[ek];have ea:u6 ((y:Int)+1) 1 (some k)=.int ((y+1+k:Nat):Int):=by
   show D.int ((y:Int)+1+1*(k:Int))=_;rw[show (y:Int)+1+1*(k:Int)=((y+1+k:Nat):Int) by lia]
  rw[ea];refine⟨cs,n+1,rfl,h,hl,by lia,⟨y0,hy0⟩,fun z G6 hz ez _ s6=>?_⟩;have eyz:z=y+1+k:=WV hz hm (by rw[ez,hcn]);subst eyz;refine⟨_,_,rfl,rfl,aB _,fun g=>absurd g (qZ rfl),fun _=>⟨cs,((y+1+k:Nat):Int)-1,rfl,h.p,by lia,?_⟩⟩;rw[WT h hk hy hnm];have el:u6 (((y+1+k:Nat):Int)-1) (-1) (some k)=.int (y:Int):=by
   show D.int (((y+1+k:Nat):Int)-1 + -1*(k:Int))=_;rw[show ((y+1+k:Nat):Int)-1 + -1*(k:Int)=(y:Int) by lia]
  rw[el];refine⟨_,_,rfl,rfl,aB _,fun g=>absurd g (qZ rfl),fun _=>WN h hl hnm fun G7 s7=>q G7 (s5.trans (s6.trans s7))⟩
 have mid:∀G5,Sub G G5->(bK (af (dm true) (aA qd (μ (θ 0) (μ (θ 2) (Ξ)))) (θ 2))) [some (cT cs),some (.int n),some (.int y),none] G5 fun b G6=>Br b ((aT Q).rt (.bl false) G6) (Be (aT Q) [some (cT cs),some (.int n),some (.int y),none] G6):=fun G5 s5=>by
  refine⟨cs,(y:Int),rfl,h.p,by lia,?_⟩;rw[WS h hy];have e0:u6 (y:Int) 1 (some 0)=.int (y:Int):=by
   show D.int ((y:Int)+1*((0:Nat):Int))=_;rw[show (y:Int)+1*((0:Nat):Int)=(y:Int) by lia]
  rw[e0];exact⟨_,_,rfl,rfl,aB _,fun g=>absurd g (qZ rfl),fun _=>tail G5 s5⟩
 refine⟨⟨by decide,by decide⟩,fun _=>⟨cs,y,rfl,h.k,hl,by lia,fun p5 G5 n5=>⟨_,_,n5.at_,xQ (t:=0) (aB _),?_⟩⟩,fun _=>⟨nofun,fun _=>mid G4 s4⟩⟩;rw[ey];exact⟨_,_,rfl,rfl,aB _,fun g=>absurd g (qZ rfl),fun _=>mid G5 (s4.trans n5.sub)⟩
end My
namespace L3
open PySem PySem.Spec PyProof.Rows L2
section
variable {X:Cx} {K:ζ}
abbrev C5:R3:=vO uZ fun i j=>.int (i*2^j.toNat)
theorem V9:eG K C5 (rI uZ fun i j=>.int (i*2^j.toNat)):=yd fun _ _ _=>mT
end
end L3
namespace My
open PySem L2 L3
structure oH(cs:List ω):Prop where
 c:hE cs
 l:cs.length≤7
theorem oH.ok{cs:List ω}(h:oH cs):tQ 1000 cs:=fun c hc=>⟨(h.c c hc).1,by have:=(h.c c hc).2;lia⟩
theorem oH.cS{cs:List ω}(h:oH cs):cS cs≤64^7:=by
 have h1:=(GB (M:=64) (cs:=cs) (a:=1) (fun c hc=>⟨(h.c c hc).1.1,(h.c c hc).2⟩) (by decide)).2;rw[sO] at h1;exact ae h1 (bM (by decide) h.l)
theorem V8{cs:List ω}(h:oH cs)(j:Nat):se cs j=dB cs j (cS cs):=by
 unfold se dB;refine congrArg _ (g6 fun x _=>?_);unfold fX;rw[ra h.c];by_cases e:(cs.filter (bU (x:Int))).length=j
 ·rw[decide_eq_true e,e,beq_self_eq_true]
 ·rw[decide_eq_false e];exact beq_eq_false_iff_ne.mpr e
theorem V7{cs:List ω}(h:oH cs):gC (se cs) (cs.length+1)=(dQ cs (cS cs)).map D.int:=by
 unfold gC dQ;rw[bH];refine aM fun j _=>?_;show D.int ((se cs j:Nat):Int)=D.int ((dB cs j (cS cs):Nat):Int);rw[V8 h]
theorem ET{cs:List ω}(h:oH cs)(j:Nat):∀b:Nat,dB cs j (cS cs+b)=dB cs j (cS cs)+dB cs j b
 |0=>rfl
 |b+1=>by
  have e:(cs.filter (bU ((cS cs+b:Nat):Int))).length=(cs.filter (bU (b:Int))).length:=by
   rw[←ra h.c,←ra h.c];refine congrArg _ (g6 fun c hc=>?_);rw[←Gj (h.c c hc).1.1 (Bl hc) (cS cs+b),Nat.add_mod_left,Gj (h.c c hc).1.1 (Bl hc)]
  rw[←Nat.add_assoc,rb,ET h j b,rb,e];lia
theorem V6{cs:List ω}(h:oH cs):(dQ cs (cS cs)).map (fun x=>D.int (2*x))=(dQ cs (2*cS cs)).map D.int:=by
 unfold dQ;rw[bH,bH];refine aM fun j _=>?_;show D.int (2*((dB cs j (cS cs):Nat):Int))=D.int ((dB cs j (2*cS cs):Nat):Int);rw[Nat.two_mul,ET h];rw[show 2*((dB cs j (cS cs):Nat):Int)=((dB cs j (cS cs)+dB cs j (cS cs):Nat):Int) by lia]
theorem V5{cs:List ω}{b:Nat}{x:Int}(hx:x∈dQ cs b):0≤x/\x≤(b:Int):=by
 obtain⟨j,_,rfl⟩:=aP.mp hx;have:dB cs j b≤b:=by
  unfold dB;exact ae (ib _ _) (by rw[fR];exact Γ _)
 lia
theorem ES(ns:List Int):¬(!((Dat.D.lst (ns.map Dat.D.int)).dS (.lst (ns.map Dat.D.int))))=true:=by
 show ¬(!(Dat.jI (ns.map Dat.D.int) (ns.map Dat.D.int)))=true;rw[E7,decide_eq_true rfl];decide
theorem ER(ns:List Int):(Dat.D.lst (ns.map Dat.D.int)).i7≤50:=by
 show Dat.fW (ns.map Dat.D.int)+1≤50;rw[E6];decide
def me:dF:=fun ds G Q=>∃ns:List Int,ds=[.fo (ns.map .int)]/\ns.length≤63/\Q (.bl true) G
def V4:ab:=gH (sH (bK (af (dm true) (aA oU (μ (θ 3) (μ (θ 4) (Ξ)))) (θ 5))) (bK (af (dm true) (aA oU (μ (θ 3) (μ (af fg (eC (.int 2)) (θ 4)) (Ξ)))) (θ 6)))) (cg (eC (.bl false))) (dI)
def V2:ab:=aF (bf (gV ["one"] [] (mJ (θ 5)) (hName 0) (fL) (af fg (eC (.int 2)) (θ 0))) (hName 6)) V4
def V1:ab:=gH (uV (bK (aA vR (μ (θ 3) (μ (θ 7) (Ξ)))))) (cg (eC (.bl false))) (dI)
def V0:ab:=gH (tP (uV (bK (θ 8))) (uV (tP (bK (aA uq (μ (θ 3) (μ (eC (.int 0)) (Ξ))))) (bK (aA uq (μ (θ 3) (μ (θ 12) (Ξ)))))))) (cg (eC (.bl false))) (dI)
def EO:ab:=aF (bf (aA lj (μ (θ 2) (μ (af qb (eC (.int 10)) (eC (.int 30))) (Ξ)))) (hName 12)) V0
def VZ:ab:=aF (gH (tP (bK (θ 8)) (sH (bK (af (um true) (aA uv (μ (θ 3) (μ (θ 9) (Ξ)))) (eC .ak))) (bK (af (dm true) (af eK (aA oU (μ (θ 3) (μ (θ 4) (Ξ)))) (eC (.int 0))) (eC (.int 0)))))) (cg (eC (.bl false))) (dI)) EO
def VY:ab:=aF (gH (bK (af (dm true) (dA wj (μ (θ 11) (Ξ))) (θ 8))) (cg (eC (.bl false))) (dI)) VZ
def EN:ab:=aF (bf (gV ["turn"] [3,9] (nq (μ (θ 10) (Ξ))) (hName 0) (fL) (af (dm true) (aA mF (μ (θ 1) (μ (af cB (θ 2) (θ 0)) (Ξ)))) (fM (Ξ)))) (hName 11)) VY
def EM:ab:=aF (bf (af C5 (eC (.int 1)) (dA kE (μ (θ 3) (Ξ)))) (hName 10)) EN
def Fv:ab:=aF (bf (af iQ (aA lj (μ (θ 2) (μ (af qb (eC (.int 10)) (eC (.int 20))) (Ξ)))) (aA lj (μ (θ 2) (μ (af qb (eC (.int 10)) (eC (.int 20))) (Ξ))))) (hName 9)) EM
def Fu:ab:=aF (bf (af (um false) (aA qd (μ (θ 3) (μ (eC (.int 0)) (Ξ)))) (eC .ak)) (hName 8)) Fv
def Ft:ab:=aF (jE (mJ (fM (μ (eC (.int 0)) (μ (aA lj (μ (θ 2) (μ (eC (.int 100)) (Ξ)))) (μ (aA lj (μ (θ 2) (μ (af qb (eC (.int 10)) (eC (.int 39))) (Ξ)))) (Ξ)))))) (hName 7) (V1)) Fu
def Fs:ab:=aF (gH (bK (af AR (θ 4) (eC (.int 10000)))) (aF (bf (aA vY (μ (θ 3) (Ξ))) (hName 5)) V2) (dI)) Ft
def Bd:ab:=aF (bf (aA uz (μ (θ 3) (Ξ))) (hName 4)) Fs
def VX:ab:=aF (gH (bK (af sX (aA wb (μ (θ 3) (Ξ))) (eC (.int 1000)))) (bf (t5 (θ 3) (oE) (lP (eC (.int 3)))) (hName 3)) (dI)) Bd
def Fq:ab:=aF (bf (aA vS (μ (θ 2) (μ (eC (.int 7)) (Ξ)))) (hName 3)) VX
def VW:ab:=aF (bf (aA BL (μ (θ 1) (Ξ))) (hName 2)) Fq
def VV:ab:=cg (eC (.bl true))
def Fp:ab:=aF (jE (mJ (af cB (fM (μ (aA wJ (μ (θ 0) (μ (eC (.int 0)) (Ξ)))) (Ξ))) (t5 (θ 0) (lP (eC (.int 1))) (lP (eC (.int 3)))))) (hName 1) (VW)) VV
theorem Fo{cs:List ω}(h:hE cs)(hn:¬∃y,gm cs y)(x b:Int)(N:Nat):(Δ N).find? (dh cs x b)=none:=by
 refine fD.mpr fun k _ hk=>hn ⟨_,(oT h).mp hk⟩
theorem Fn{D3:gz}{G:Gp}{pp:ε}{cs:List ω}{e:Bool}{x0 x1 x4 x5 x6 x7 x9 x10 x11 x12:Option D}(h:oH cs)(hpp:G pp=some .kl)(he:e=false->∃y,gm cs y)
  (q:∀G' x12,Sub G G'->D3.nx [x0,x1,some (.obj pp),some (cT cs),x4,x5,x6,x7,some (.bl e),x9,x10,x11,x12] G'):
  EO D3 [x0,x1,some (.obj pp),some (cT cs),x4,x5,x6,x7,some (.bl e),x9,x10,x11,x12] G:=by
 refine⟨⟨by decide,by decide⟩,pp,_,rfl,hpp,⟨by decide,dX (by decide) (by decide)⟩,fun r r1 r2=>?_⟩;obtain⟨n,rfl⟩:∃n:Nat,r=(n:Int):=⟨r.toNat,by lia⟩;have r2:(n:Int)<10^30:=r2;have hl:=h.l;cases e with
 |true=>exact⟨nofun,fun _=>⟨nofun,fun _=>q G _ (Sub.refl _)⟩⟩
 |false=>
  have ex:=he rfl;refine⟨fun _=>⟨cs,0,rfl,h.c,by lia,by decide,ex,fun G1 s1=>⟨fun _=>⟨cs,n,rfl,h.c,by lia,by lia,ex,fun G2 s2=>⟨nofun,fun _=>q G2 _ (s1.trans s2)⟩⟩,nofun⟩⟩,nofun⟩
theorem VU{D3:gz}{G:Gp}{pp:ε}{cs:List ω}{x0 x1 x5 x6 x7 x8 x9 x10 x11 x12:Option D}(h:oH cs)(hpp:G pp=some .kl)
  (q:∀G' y8 y9 y10 y11 y12,Sub G G'->D3.nx [x0,x1,some (.obj pp),some (cT cs),some (.int (cS cs:Nat)),x5,x6,x7,y8,y9,y10,y11,y12] G'):
  Fu D3 [x0,x1,some (.obj pp),some (cT cs),some (.int (cS cs:Nat)),x5,x6,x7,x8,x9,x10,x11,x12] G:=by
 have hl:=h.l;have hlm:(cs.map cD).length=cs.length:=ξ ..;have hpw:2^cs.length≤128:=ae (bM (by decide) hl) (by decide);obtain⟨e,he1,he2,he3⟩:∃e:Bool,tY (u6 0 1 ((Δ (2^cs.length)).find? (dh cs 0 1)))=e/\(e=false->∃y,gm cs y)/\(e=true->¬∃y,gm cs y):=by
  by_cases hx:∃y,gm cs y
  ·obtain⟨y,hy⟩:=hx;obtain⟨k,ek⟩:=Bg h.c hy 0;exact⟨false,by rw[ek];rfl,fun _=>⟨y,hy⟩,nofun⟩
  ·exact⟨true,by rw[Fo h.c hx];rfl,nofun,fun _=>hx⟩
 refine⟨cs,0,rfl,h.c.p,by lia,?_⟩;show Fv D3 [x0,x1,some (.obj pp),some (cT cs),some (.int (cS cs:Nat)),x5,x6,x7,some (.bl (tY (u6 0 1 ((Δ (2^cs.length)).find? (dh cs 0 1))))),x9,x10,x11,x12] G;rw[he1];refine⟨⟨by decide,by decide⟩,pp,_,rfl,hpp,⟨by decide,dX (by decide) (by decide)⟩,fun r r1 r2=>⟨⟨by decide,by decide⟩,pp,_,rfl,hpp,⟨by decide,dX (by decide) (by decide)⟩,fun r' r1' r2'=>?_⟩⟩;show EM D3 [x0,x1,some (.obj pp),some (cT cs),some (.int (cS cs:Nat)),x5,x6,x7,some (.bl e),some (.int (r-r')),x10,x11,x12] G;generalize r-r'=st;refine⟨⟨by rw[hlm];lia,by rw[hlm];lia,by decide⟩,?_⟩;have em:(1:Int)*2^((((cs.map cD).length:Nat):Int)).toNat=((2^cs.length:Nat):Int):=by
  rw[hlm,aU,iL,Int.natCast_pow];rfl
 show EN D3 [x0,x1,some (.obj pp),some (cT cs),some (.int (cS cs:Nat)),x5,x6,x7,some (.bl e),some (.int st),some (.int (1*2^((((cs.map cD).length:Nat):Int)).toNat)),x11,x12] G;rw[em];refine⟨⟨ie (by decide) (cY _),fE (rZ.mpr hpw) (by decide)⟩,?_,?_⟩
 ·show (kc 0 (((2^cs.length:Nat):Int)).toNat).length≤aj;rw[uK,aU];exact cP (by lia)
 show iG _ _ _ _ _ (kc 0 (((2^cs.length:Nat):Int)).toNat) _ _ _;rw[aU,Ej];refine wD (fun ds acc τ G'=>Sub G G'/\(∃x,τ=[x,some (cT cs),some (.int st)])/\∃ms as:List Nat,ds=ms.map nD/\acc=as.map (fun k=>D.bl (!dh cs st 1 k))/\as++ms=Δ (2^cs.length)) (fun _ _ _ _ _=>trivial) ?_ ?_ _ _ _ _ ⟨Sub.refl _,⟨none,rfl⟩,_,[],rfl,rfl,rfl⟩
 ·rintro d ds acc τ G1 K1 K2 ⟨s1,⟨x,rfl⟩,ms,as,ed,rfl,ha⟩ g1 g2;cases ms with
  |nil=>cases ed
  |cons k ms=>
   cases ed;refine⟨fun _=>⟨cs,st+(k:Int),rfl,h.c.p,by lia,fun p2 G2 n2 p3 G3 n3=>⟨_,_,jG (n3.sub _ _ n2.at_) (uE _),jG n3.at_ rfl,wH _,?_⟩⟩,nofun⟩;have ee:(!((Dat.D.lst ((cs.filter (rg (st+(k:Int)))).map cX)).dS (.lst []))) = !dh cs st 1 k:=by
    rw[uD,iA];unfold dh;rw[iL]
   show K2 _ (D.bl (!((Dat.D.lst ((cs.filter (rg (st+(k:Int)))).map cX)).dS (.lst [])))) G3;rw[ee];exact g1 _ _ _ ⟨s1.trans (n2.sub.trans n3.sub),⟨_,rfl⟩,ms,as++[k],rfl,by rw[bB];rfl,by rw[←ha,e7];rfl⟩
 ·rintro acc τ G1 ⟨s1,⟨x,rfl⟩,ms,as,ed,rfl,ha⟩ p4 G4 n4;have e0:ms=[]:=by
   cases ms with
   |nil=>rfl
   |cons z zs=>cases ed
  subst e0;rw[cU] at ha;subst ha;have s4:Sub G G4:=s1.trans n4.sub;refine⟨_,_,n4.at_,BD (fun k=>!dh cs st 1 k) _,?_⟩;have eall:((Δ (2^cs.length)).map fun k=>!dh cs st 1 k).all id=e:=by
   cases e with
   |true=>
    rw[rX,iB];intro k _;show (!dh cs st 1 k)=true;cases em:dh cs st 1 k with
    |false=>rfl
    |true=>exact absurd ⟨_,(oT h.c).mp em⟩ (he3 rfl)
   |false=>
    obtain⟨y,hy⟩:=he2 rfl;obtain⟨k,hk,hm⟩:=Bh h.c hy st 1 (.inl rfl);rw[rX,List.all_eq_false];refine⟨k,aH.mpr hk,?_⟩;show ¬(!dh cs st 1 k)=true;rw[(oT h.c).mpr hm];decide
  rw[eall];refine⟨_,_,rfl,rfl,aB _,fun g=>?_,fun _=>?_⟩
  ·have g':(!(e==e))=true:=g;rw[beq_self_eq_true] at g';cases g'
  cases e with
  |false=>exact⟨nofun,fun _=>⟨nofun,fun _=>Fn h (s4 _ _ hpp) he2 fun G5 y12 s5=>q G5 _ _ _ _ _ (s4.trans s5)⟩⟩
  |true=>
   refine⟨fun _=>⟨cs,st,rfl,h.c.p,by lia,?_⟩,nofun⟩;rw[Fo h.c (he3 rfl)];refine⟨nofun,fun _=>⟨cs,cS cs,rfl,h.c.k,by lia,eD h.cS (by decide),fun p5 G5 n5=>⟨_,_,n5.at_,xQ (t:=0) (aB _),?_⟩⟩⟩;have e0:dB cs 0 (cS cs)=0:=by
    unfold dB;rw[dG,jX];intro x _ hx;exact he3 rfl ⟨_,dG.mp (of_decide_eq_true hx)⟩
   rw[e0];exact⟨_,_,rfl,rfl,aB _,fun g=>absurd g (qZ (a:=((0:Nat):Int)) (b:=0) rfl),fun _=>Fn h (n5.sub _ _ (s4 _ _ hpp)) he2 fun G6 y12 s6=>q G6 _ _ _ _ _ (s4.trans (n5.sub.trans s6))⟩
theorem Fm{D3:gz}{G:Gp}{pp:ε}{cs:List ω}{x0 x1 x5 x6 x7 x8 x9 x10 x11 x12:Option D}(h:oH cs)(hpp:G pp=some .kl)
  (q:∀G' y7 y8 y9 y10 y11 y12,Sub G G'->D3.nx [x0,x1,some (.obj pp),some (cT cs),some (.int (cS cs:Nat)),x5,x6,y7,y8,y9,y10,y11,y12] G'):
  Ft D3 [x0,x1,some (.obj pp),some (cT cs),some (.int (cS cs:Nat)),x5,x6,x7,x8,x9,x10,x11,x12] G:=by
 have hl:=h.l;refine⟨pp,100,rfl,hpp,⟨by decide,dX (by decide) (by decide)⟩,fun r r1 r2=>⟨⟨by decide,by decide⟩,pp,_,rfl,hpp,⟨by decide,dX (by decide) (by decide)⟩,fun r' r1' r2'=>?_⟩⟩;obtain⟨n,rfl⟩:∃n:Nat,r=(n:Int):=⟨r.toNat,by lia⟩;obtain⟨n',rfl⟩:∃n:Nat,r'=(n:Int):=⟨r'.toNat,by lia⟩;have r2':(n':Int)<10^39:=r2';intro p0 G0 n0;refine⟨_,n0.at_,?_⟩;refine kC (fun ds τ G'=>∃(bs:List Nat) (y7:Option D),ds=bs.map (fun b:Nat=>D.int b)/\(∀b∈bs,b<10^45)/\τ=[x0,x1,some (.obj pp),some (cT cs),some (.int (cS cs:Nat)),x5,x6,y7,x8,x9,x10,x11,x12]/\Sub G0 G') (fun _ _ _ h=>?_) ?_ ?_ _ _ _ ⟨[0,n,n'],x7,rfl,fun b hb=>?_,rfl,Sub.refl _⟩
 ·obtain⟨_,_,_,_,_,s⟩:=h;exact s _ _ n0.at_
 ·rintro d ds τ G1 N ⟨bs,y7,e,hb,rfl,s⟩ hN;cases bs with
  |nil=>cases e
  |cons b bs=>
   cases e;exact⟨cs,b,rfl,h.c,by lia,hb b Ψ,fun G2 s2=>⟨nofun,fun _=>hN _ _ ⟨bs,_,rfl,fun z hz=>hb z (Θ _ hz),rfl,s.trans s2⟩⟩⟩
 ·rintro τ G1 ⟨bs,y7,e,hb,rfl,s⟩;exact VU h (s _ _ (n0.sub _ _ hpp)) fun G2 y8 y9 y10 y11 y12 s2=>q G2 _ _ _ _ _ _ (n0.sub.trans (s.trans s2))
 ·simp only[az,dY,or_false] at hb;rcases hb with rfl|rfl|rfl
  ·decide
  ·lia
  ·lia
theorem VT{D3:gz}{G:Gp}{pp:ε}{cs:List ω}{x0 x1 x5 x6 x7 x8 x9 x10 x11 x12:Option D}(h:oH cs)(hpp:G pp=some .kl)
  (q:∀G' y4 y5 y6 y7 y8 y9 y10 y11 y12,Sub G G'->D3.nx [x0,x1,some (.obj pp),some (cT cs),y4,y5,y6,y7,y8,y9,y10,y11,y12] G'):
  Fs D3 [x0,x1,some (.obj pp),some (cT cs),some (.int (cS cs:Nat)),x5,x6,x7,x8,x9,x10,x11,x12] G:=by
 have hl:=h.l;refine⟨fun g=>?_,fun _=>Fm h hpp fun G1 y7 y8 y9 y10 y11 y12 s1=>q G1 _ _ _ _ _ _ _ _ _ s1⟩;have g':((cS cs:Nat):Int)≤10000:=of_decide_eq_true g;refine⟨cs,rfl,⟨h.ok,by lia,by lia⟩,fun p5 G5 n5=>?_⟩;rw[V7 h] at n5;refine⟨_,n5.at_,?_,?_⟩
 ·rw[ξ,Bf];exact cP (by lia)
 refine oV (guard:=fun G'=>G' p5=some (.lst ((dQ cs (cS cs)).map D.int))) (fun τ=>∃x,τ=[x]) D.int (fun _=>true) (fun x=>D.int (2*x)) (G:=G5) n5.at_ (dQ cs (cS cs)) [] _ ⟨none,rfl⟩ ?_ ?_
 ·rintro x hx τ K1 K2 ⟨y,rfl⟩ g1 g2;have hb:=V5 hx;exact⟨fun _=>⟨⟨dX (by decide) (by decide),dX (by lia) (by lia)⟩,g1 rfl _ ⟨_,rfl⟩⟩,nofun⟩
 intro p6 G6 n6;rw[filter_all,dO,V6 h] at n6;refine⟨cs,cS cs,rfl,h.c.k,by lia,by lia,fun p7 G7 n7=>⟨_,_,jG n7.at_ (ur _),jG (n7.sub _ _ (n6.sub _ _ n5.at_)) (ur _),ER _,fun g=>absurd g (ES _),fun _=>⟨⟨dX (by decide) (by decide),dX (by lia) (by lia)⟩,cs,2*cS cs,?_,h.c.k,by lia,by lia,fun p8 G8 n8=>⟨_,_,jG n8.at_ (ur _),jG (n8.sub _ _ (n7.sub _ _ n6.at_)) (ur _),ER _,fun g=>absurd g (ES _),fun _=>?_⟩⟩⟩⟩
 ·show [cT cs,D.int (2*((cS cs:Nat):Int))]=_;rw[show 2*((cS cs:Nat):Int)=((2*cS cs:Nat):Int) by lia]
 have s8:Sub G G8:=n5.sub.trans (n6.sub.trans (n7.sub.trans n8.sub));exact Fm h (s8 _ _ hpp) fun G1 y7 y8 y9 y10 y11 y12 s1=>q G1 _ _ _ _ _ _ _ _ _ (s8.trans s1)
theorem Fl{D3:gz}{G:Gp}{pp:ε}{cs:List ω}{x0 x1 x4 x5 x6 x7 x8 x9 x10 x11 x12:Option D}(h:oH cs)(hpp:G pp=some .kl)
  (q:∀G' y3 y4 y5 y6 y7 y8 y9 y10 y11 y12,Sub G G'->D3.nx [x0,x1,some (.obj pp),y3,y4,y5,y6,y7,y8,y9,y10,y11,y12] G'):
  Bd D3 [x0,x1,some (.obj pp),some (cT cs),x4,x5,x6,x7,x8,x9,x10,x11,x12] G:=by
 have hl:=h.l;exact⟨cs,rfl,h.ok,by lia,VT h hpp fun G1 y4 y5 y6 y7 y8 y9 y10 y11 y12 s1=>q G1 _ _ _ _ _ _ _ _ _ _ s1⟩
theorem VS{D3:gz}{G:Gp}{pp:ε}{x0 x1 x3 x4 x5 x6 x7 x8 x9 x10 x11 x12:Option D}(hpp:G pp=some .kl)
  (q:∀G' y3 y4 y5 y6 y7 y8 y9 y10 y11 y12,Sub G G'->D3.nx [x0,x1,some (.obj pp),y3,y4,y5,y6,y7,y8,y9,y10,y11,y12] G'):
  Fq D3 [x0,x1,some (.obj pp),x3,x4,x5,x6,x7,x8,x9,x10,x11,x12] G:=by
 refine⟨pp,rfl,hpp,fun cs hb hl hr=>?_⟩;have h:oH cs:=⟨fun c hc=>⟨(hb.1 c hc).1,hb.2.2 c hc⟩,hl⟩;refine⟨cs,rfl,hb.1,by lia,fun _=>?_,fun _=>Fl h hpp q⟩;have e:D.tup (kF (cs.map cD) none (some ((3:Nat):Int)))=cT (cs.take 3):=by
  rw[tm,xX];rfl
 show Bd D3 [x0,x1,some (.obj pp),some (D.tup (kF (cs.map cD) none (some ((3:Nat):Int)))),x4,x5,x6,x7,x8,x9,x10,x11,x12] G;rw[e];exact Fl ⟨fun c hc=>h.c c (kR hc),by rw[de];lia⟩ hpp q
theorem VR:∀ds G Q,me ds G Q->Fp (aT Q) (bz ["script","cell","pen","clocks","size","tally","twice","bound","none","start","many","rung","far"] ds) G:=by
 rintro ds G Q ⟨ns,rfl,hl,q⟩;refine⟨ns,0,rfl,fun i=>?_⟩;intro q0 G0 n0 q1 G1 n1;rw[tm] at n1;have hcl:=Pn ns (some 1) (some 3);refine⟨_,_,n1.sub _ _ n0.at_,n1.at_,?_,fun q2 G2 n2=>?_⟩
 ·rw[ξ];exact cP (by simp;lia)
 have s2:=(n0.sub.trans n1.sub).trans n2.sub;refine⟨_,n2.at_,?_⟩;refine kC (fun ds τ G'=>(∃is:List Int,ds=is.map D.int)/\Sub G2 G'/\∃x1 x2 x3 x4 x5 x6 x7 x8 x9 x10 x11 x12,τ=[some (.fo (ns.map .int)),x1,x2,x3,x4,x5,x6,x7,x8,x9,x10,x11,x12]) (fun _ _ _ h=>h.2.1 _ _ n2.at_) ?_ ?_ _ _ _ ⟨⟨i::qt ns (some 1) (some 3),rfl⟩,Sub.refl _,_,_,_,_,_,_,_,_,_,_,_,_,rfl⟩
 ·rintro d ds τ G3 N ⟨⟨is,e⟩,s3,x1,x2,x3,x4,x5,x6,x7,x8,x9,x10,x11,x12,rfl⟩ hN;cases is with
  |nil=>cases e
  |cons cc is=>
   cases e;exact⟨cc,rfl,fun pp G4 n4=>VS n4.at_ fun G5 y3 y4 y5 y6 y7 y8 y9 y10 y11 y12 s5=>hN _ _ ⟨⟨is,rfl⟩,s3.trans (n4.sub.trans s5),_,_,_,_,_,_,_,_,_,_,_,_,rfl⟩⟩
 ·rintro τ G3 ⟨_,s3,x1,x2,x3,x4,x5,x6,x7,x8,x9,x10,x11,x12,rfl⟩;exact rf (s2.trans s3) q
end My
namespace My
open PySem L2 L3
def top(i:Nat):aS:=PySem.Challenge.pw_coverclocks_k52_whole_far_counts.main.body.getD i (.Pass ⟨0,0,0,0⟩)
abbrev Bc:aS:=top 6
abbrev VQ:List ψ:=["thing"]
theorem VP:bC VQ ["thing"] (ai Bc):=⟨rfl,rfl,rfl,by decide +kernel,rfl,by decide +kernel,by decide +kernel⟩
abbrev Bb:aS:=top 7
abbrev VO:List ψ:=["many","most"]
theorem VN:bC VO ["many","most"] (ai Bb):=⟨rfl,rfl,rfl,by decide +kernel,rfl,by decide +kernel,by decide +kernel⟩
abbrev Ba:aS:=top 8
abbrev VM:List ψ:=["times","number","turn"]
theorem tU:bC VM ["times"] (ai Ba):=⟨rfl,rfl,rfl,by decide +kernel,rfl,by decide +kernel,by decide +kernel⟩
abbrev A9:aS:=top 9
abbrev VL:List ψ:=["one","other","left"]
theorem vn:bC VL ["one","other"] (ai A9):=⟨rfl,rfl,rfl,by decide +kernel,rfl,by decide +kernel,by decide +kernel⟩
abbrev A8:aS:=top 10
abbrev VJ:List ψ:=["numbers","least","number"]
theorem vp:bC VJ ["numbers"] (ai A8):=⟨rfl,rfl,rfl,by decide +kernel,rfl,by decide +kernel,by decide +kernel⟩
abbrev A7:aS:=top 11
abbrev VI:List ψ:=["number","bound","high","low","high_factor","low_factor","turns","left","left_factor"]
theorem iD:bC VI ["number","bound"] (ai A7):=⟨rfl,rfl,rfl,by decide +kernel,rfl,by decide +kernel,by decide +kernel⟩
abbrev A6:aS:=top 12
abbrev Wj:List ψ:=["clocks","many","counts","step","rest","number"]
theorem tT:bC Wj ["clocks","many"] (ai A6):=⟨rfl,rfl,rfl,by decide +kernel,rfl,by decide +kernel,by decide +kernel⟩
abbrev A5:aS:=top 14
abbrev Wi:List ψ:=["clock","number"]
theorem Wh:bC Wi ["clock","number"] (ai A5):=⟨rfl,rfl,rfl,by decide +kernel,rfl,by decide +kernel,by decide +kernel⟩
abbrev xP:aS:=top 15
abbrev EL:List ψ:=["clocks","number"]
theorem Wg:bC EL ["clocks","number"] (ai xP):=⟨rfl,rfl,rfl,by decide +kernel,rfl,by decide +kernel,by decide +kernel⟩
abbrev xO:aS:=top 16
abbrev EK:List ψ:=["clocks"]
theorem Wf:bC EK ["clocks"] (ai xO):=⟨rfl,rfl,rfl,by decide +kernel,rfl,by decide +kernel,by decide +kernel⟩
abbrev A4:aS:=top 17
abbrev We:List ψ:=["one","other","shared","apart","many","turns"]
theorem qW:bC We ["one","other"] (ai A4):=⟨rfl,rfl,rfl,by decide +kernel,rfl,by decide +kernel,by decide +kernel⟩
abbrev A3:aS:=top 19
abbrev Wd:List ψ:=["clocks","thing"]
theorem Wc:bC Wd ["clocks","thing"] (ai A3):=⟨rfl,rfl,rfl,by decide +kernel,rfl,by decide +kernel,by decide +kernel⟩
abbrev xN:aS:=top 22
abbrev EJ:List ψ:=["clocks","bound","tally","met","weight","many"]
theorem pI:bC EJ ["clocks","bound"] (ai xN):=⟨rfl,rfl,rfl,by decide +kernel,rfl,by decide +kernel,by decide +kernel⟩
abbrev xM:aS:=top 23
abbrev EI:List ψ:=["clocks","weights","clock","grown","met","weight","both"]
theorem mf:bC EI ["clocks"] (ai xM):=⟨rfl,rfl,rfl,by decide +kernel,rfl,by decide +kernel,by decide +kernel⟩
abbrev xK:aS:=top 24
abbrev EH:List ψ:=["weights","met","weight","ahead"]
theorem Ao:bC EH ["weights","met","weight"] (ai xK):=⟨rfl,rfl,rfl,by decide +kernel,rfl,by decide +kernel,by decide +kernel⟩
abbrev A2:aS:=top 25
abbrev Wb:List ψ:=["clock","bound"]
theorem Wa:bC Wb ["clock","bound"] (ai A2):=⟨rfl,rfl,rfl,by decide +kernel,rfl,by decide +kernel,by decide +kernel⟩
abbrev xJ:aS:=top 26
abbrev EG:List ψ:=["weights","bound"]
theorem Vx:bC EG ["weights","bound"] (ai xJ):=⟨rfl,rfl,rfl,by decide +kernel,rfl,by decide +kernel,by decide +kernel⟩
abbrev A1:aS:=top 27
abbrev Vw:List ψ:=["clocks","n","weights","low","high","middle"]
theorem nG:bC Vw ["clocks","n"] (ai A1):=⟨rfl,rfl,rfl,by decide +kernel,rfl,by decide +kernel,by decide +kernel⟩
abbrev BB:aS:=top 28
abbrev Vv:List ψ:=["clocks","number"]
theorem Vu:bC Vv ["clocks","number"] (ai BB):=⟨rfl,rfl,rfl,by decide +kernel,rfl,by decide +kernel,by decide +kernel⟩
abbrev BA:aS:=top 29
abbrev Vt:List ψ:=["clocks"]
theorem Vs:bC Vt ["clocks"] (ai BA):=⟨rfl,rfl,rfl,by decide +kernel,rfl,by decide +kernel,by decide +kernel⟩
abbrev Bz:aS:=top 30
abbrev Vr:List ψ:=["clocks","number","looked"]
theorem As:bC Vr ["clocks","number"] (ai Bz):=⟨rfl,rfl,rfl,by decide +kernel,rfl,by decide +kernel,by decide +kernel⟩
abbrev By:aS:=top 31
abbrev Vq:List ψ:=["clocks","number","looked"]
theorem Ar:bC Vq ["clocks","number"] (ai By):=⟨rfl,rfl,rfl,by decide +kernel,rfl,by decide +kernel,by decide +kernel⟩
abbrev Bx:aS:=top 33
abbrev Vp:List ψ:=["clocks","number"]
theorem Vo:bC Vp ["clocks","number"] (ai Bx):=⟨rfl,rfl,rfl,by decide +kernel,rfl,by decide +kernel,by decide +kernel⟩
abbrev Bw:aS:=top 34
abbrev Vn:List ψ:=["clocks","tally","many"]
theorem vM:bC Vn ["clocks"] (ai Bw):=⟨rfl,rfl,rfl,by decide +kernel,rfl,by decide +kernel,by decide +kernel⟩
abbrev Bv:aS:=top 36
abbrev Vm:List ψ:=["script","k"]
theorem Vl:bC Vm ["script","k"] (ai Bv):=⟨rfl,rfl,rfl,by decide +kernel,rfl,by decide +kernel,by decide +kernel⟩
abbrev Bu:aS:=top 37
abbrev Vk:List ψ:=["seed"]
theorem Am:bC Vk ["seed"] (ai Bu):=⟨rfl,rfl,rfl,by decide +kernel,rfl,by decide +kernel,by decide +kernel⟩
abbrev Bt:aS:=top 38
abbrev Vj:List ψ:=["cell","left"]
theorem Aq:bC Vj ["cell"] (ai Bt):=⟨rfl,rfl,rfl,by decide +kernel,rfl,by decide +kernel,by decide +kernel⟩
abbrev Bs:aS:=top 39
abbrev Vi:List ψ:=["pen","many","found"]
theorem An:bC Vi ["pen","many"] (ai Bs):=⟨rfl,rfl,rfl,by decide +kernel,rfl,by decide +kernel,by decide +kernel⟩
abbrev A0:aS:=top 40
abbrev Vh:List ψ:=["pen","most","step"]
theorem C1:bC Vh ["pen","most"] (ai A0):=⟨rfl,rfl,rfl,by decide +kernel,rfl,by decide +kernel,by decide +kernel⟩
abbrev xI:aS:=top 41
abbrev EF:List ψ:=["pen","least","most","clocks","k","step","rest"]
theorem nH:bC EF ["pen","least","most"] (ai xI):=⟨rfl,rfl,rfl,by decide +kernel,rfl,by decide +kernel,by decide +kernel⟩
abbrev xH:aS:=top 42
abbrev EE:List ψ:=["pen","most","way","found","steps","turn","step"]
theorem nh:bC EE ["pen","most"] (ai xH):=⟨rfl,rfl,rfl,by decide +kernel,rfl,by decide +kernel,by decide +kernel⟩
abbrev AZ:aS:=top 44
abbrev Vg:List ψ:=["one","other"]
theorem Ap:bC Vg ["one","other"] (ai AZ):=⟨rfl,rfl,rfl,by decide +kernel,rfl,by decide +kernel,by decide +kernel⟩
abbrev AY:aS:=top 45
abbrev Vf:List ψ:=["clocks","found","step","rest"]
theorem qX:bC Vf ["clocks"] (ai AY):=⟨rfl,rfl,rfl,by decide +kernel,rfl,by decide +kernel,by decide +kernel⟩
abbrev AX:aS:=top 46
abbrev Ve:List ψ:=["clocks","bound","found","more","times"]
theorem vt:bC Ve ["clocks","bound"] (ai AX):=⟨rfl,rfl,rfl,by decide +kernel,rfl,by decide +kernel,by decide +kernel⟩
abbrev xG:aS:=top 47
abbrev ED:List ψ:=["clocks","n","number","after"]
theorem xA:bC ED ["clocks","n"] (ai xG):=⟨rfl,rfl,rfl,by decide +kernel,rfl,by decide +kernel,by decide +kernel⟩
abbrev vQ:aS:=top 48
abbrev AW:List ψ:=["script","cell","pen","clocks","size","tally","twice","bound","none","start","many","rung","far"]
theorem gG:bC AW ["script"] (ai vQ):=⟨rfl,rfl,rfl,by decide +kernel,rfl,by decide +kernel,by decide +kernel⟩
set_option genInjectivity false in
structure DT where
 yX:ε
 zG:aE
 Cz:ε
 CJ:aE
 yJ:ε
 zp:aE
 CC:ε
 CM:aE
 CD:ε
 CN:aE
 yU:ε
 zD:aE
 CB:ε
 CL:aE
 yH:ε
 zm:aE
 yN:ε
 zu:aE
 yM:ε
 zt:aE
 yI:ε
 zo:aE
 yS:ε
 zB:aE
 yV:ε
 zE:aE
 yZ:ε
 zI:aE
 yT:ε
 zC:aE
 zc:ε
 zL:aE
 zf:ε
 zO:aE
 yY:ε
 zH:aE
 Cw:ε
 CH:aE
 yR:ε
 zA:aE
 zd:ε
 zM:aE
 zb:ε
 zK:aE
 yK:ε
 zq:aE
 yO:ε
 zw:aE
 ze:ε
 zN:aE
 yL:ε
 zr:aE
 za:ε
 zJ:aE
 yP:ε
 zx:aE
 Cy:ε
 CI:aE
 zg:ε
 zP:aE
 CA:ε
 CK:aE
 yW:ε
 zF:aE
 yQ:ε
 zy:aE
 CG:ε
 CP:aE
 CF:ε
 CO:aE
 zh:ε
 t6:aE
 su:Tok
 uk:Tok
structure Txt(K:ζ)(mg:ψ->Option δ)(t:DT):Prop where
 DN:dJ K "whole_good" "whole_good" Bc t.yX t.zG
 Kx:mg "whole_good" = some (.ref t.yX)
 K3:Binds K t.zG ["thing"] []
 uY:dJ K "refuse_above" "refuse_above" Bb t.Cz t.CJ
 wQ:mg "refuse_above" = some (.ref t.Cz)
 xa:Binds K t.CJ ["many","most"] []
 DG:dJ K "doubled" "doubled" Ba t.yJ t.zp
 Kq:mg "doubled" = some (.ref t.yJ)
 KR:Binds K t.zp ["times"] []
 CU:dJ K "common_divisor" "common_divisor" A9 t.CC t.CM
 JC:mg "common_divisor" = some (.ref t.CC)
 JV:Binds K t.CM ["one","other"] []
 Ka:dJ K "common_multiple" "common_multiple" A8 t.CD t.CN
 W6:mg "common_multiple" = some (.ref t.CD)
 Xr:Binds K t.CN ["numbers"] []
 DL:dJ K "inverse_of" "inverse_of" A7 t.yU t.zD
 Kv:mg "inverse_of" = some (.ref t.yU)
 KZ:Binds K t.zD ["number","bound"] []
 J9:dJ K "counts_within" "counts_within" A6 t.CB t.CL
 W5:mg "counts_within" = some (.ref t.CB)
 Xq:Binds K t.CL ["clocks","many"] []
 DE:dJ K "rings" "rings" A5 t.yH t.zm
 Ko:mg "rings" = some (.ref t.yH)
 KP:Binds K t.zm ["clock","number"] []
 oG:dJ K "rings_at" "rings_at" xP t.yN t.zu
 qk:mg "rings_at" = some (.ref t.yN)
 qv:Binds K t.zu ["clocks","number"] []
 zX:dJ K "round_of" "round_of" xO t.yM t.zt
 Df:mg "round_of" = some (.ref t.yM)
 Dv:Binds K t.zt ["clocks"] []
 DF:dJ K "meet_of" "meet_of" A4 t.yI t.zo
 Kp:mg "meet_of" = some (.ref t.yI)
 KQ:Binds K t.zo ["one","other"] []
 DK:dJ K "miss_good" "miss_good" A3 t.yS t.zB
 Ku:mg "miss_good" = some (.ref t.yS)
 KY:Binds K t.zB ["clocks","thing"] []
 qA:dJ K "rung_below" "rung_below" xN t.yV t.zE
 sg:mg "rung_below" = some (.ref t.yV)
 sk:Binds K t.zE ["clocks","bound"] []
 vH:dJ K "weights_of" "weights_of" xM t.yZ t.zI
 yB:mg "weights_of" = some (.ref t.yZ)
 zS:Binds K t.zI ["clocks"] []
 zY:dJ K "put_weight" "put_weight" xK t.yT t.zC
 Dg:mg "put_weight" = some (.ref t.yT)
 Dw:Binds K t.zC ["weights","met","weight"] []
 Ab:dJ K "rings_below" "rings_below" A2 t.zc t.zL
 Dj:mg "rings_below" = some (.ref t.zc)
 Dz:Binds K t.zL ["clock","bound"] []
 Ac:dJ K "missed_below" "missed_below" xJ t.zf t.zO
 Dk:mg "missed_below" = some (.ref t.zf)
 DA:Binds K t.zO ["weights","bound"] []
 zZ:dJ K "nth_missed" "nth_missed" A1 t.yY t.zH
 Dh:mg "nth_missed" = some (.ref t.yY)
 Dx:Binds K t.zH ["clocks","n"] []
 J7:dJ K "missed_ahead" "missed_ahead" BB t.Cw t.CH
 W3:mg "missed_ahead" = some (.ref t.Cw)
 Xo:Binds K t.CH ["clocks","number"] []
 vG:dJ K "window_of" "window_of" BA t.yR t.zA
 yA:mg "window_of" = some (.ref t.yR)
 zR:Binds K t.zA ["clocks"] []
 uc:dJ K "next_missed" "next_missed" Bz t.zd t.zM
 vz:mg "next_missed" = some (.ref t.zd)
 vF:Binds K t.zM ["clocks","number"] []
 Aa:dJ K "last_missed" "last_missed" By t.zb t.zK
 Di:mg "last_missed" = some (.ref t.zb)
 Dy:Binds K t.zK ["clocks","number"] []
 DH:dJ K "times_at" "times_at" Bx t.yK t.zq
 Kr:mg "times_at" = some (.ref t.yK)
 KS:Binds K t.zq ["clocks","number"] []
 DI:dJ K "tally_of" "tally_of" Bw t.yO t.zw
 Ks:mg "tally_of" = some (.ref t.yO)
 KU:Binds K t.zw ["clocks"] []
 DP:dJ K "_law_cell_at" "_law_cell_at" Bv t.ze t.zN
 Kz:mg "_law_cell_at" = some (.ref t.ze)
 K5:Binds K t.zN ["script","k"] []
 zW:dJ K "_law_next" "_law_next" Bu t.yL t.zr
 De:mg "_law_next" = some (.ref t.yL)
 Du:Binds K t.zr ["seed"] []
 DO:dJ K "_law_pen_of" "_law_pen_of" Bt t.za t.zJ
 Ky:mg "_law_pen_of" = some (.ref t.za)
 K4:Binds K t.zJ ["cell"] []
 gJ:dJ K "_law_draw" "_law_draw" Bs t.yP t.zx
 gS:mg "_law_draw" = some (.ref t.yP)
 gW:Binds K t.zx ["pen","many"] []
 CT:dJ K "_law_clock_by" "_law_clock_by" A0 t.Cy t.CI
 JB:mg "_law_clock_by" = some (.ref t.Cy)
 JU:Binds K t.CI ["pen","most"] []
 DQ:dJ K "_law_parts_by" "_law_parts_by" xI t.zg t.zP
 KA:mg "_law_parts_by" = some (.ref t.zg)
 K6:Binds K t.zP ["pen","least","most"] []
 J8:dJ K "_law_clocks_by" "_law_clocks_by" xH t.CA t.CK
 W4:mg "_law_clocks_by" = some (.ref t.CA)
 Xp:Binds K t.CK ["pen","most"] []
 DM:dJ K "_law_common" "_law_common" AZ t.yW t.zF
 Kw:mg "_law_common" = some (.ref t.yW)
 K0:Binds K t.zF ["one","other"] []
 DJ:dJ K "_law_round" "_law_round" AY t.yQ t.zy
 Kt:mg "_law_round" = some (.ref t.yQ)
 KW:Binds K t.zy ["clocks"] []
 Kb:dJ K "_law_bounds_right" "_law_bounds_right" AX t.CG t.CP
 W7:mg "_law_bounds_right" = some (.ref t.CG)
 Xs:Binds K t.CP ["clocks","bound"] []
 CV:dJ K "_law_missed_right" "_law_missed_right" xG t.CF t.CO
 JD:mg "_law_missed_right" = some (.ref t.CF)
 JW:Binds K t.CO ["clocks","n"] []
 K7:dJ K "law" "law" vQ t.zh t.t6
 KE:mg "law" = some (.ref t.zh)
 Ye:Binds K t.t6 ["script"] []
 gU:mg "MOST_FAR_CLOCKS" = some (.int 10 t.su)
 uQ:mg "MOST_NUMBERS" = some (.int 10000 t.uk)
 Dp:mg "all" = none
 JE:mg "bool" = none
 Dn:mg "int" = none
 rC:mg "isinstance" = none
 gT:mg "len" = none
 vA:mg "max" = none
 Dm:mg "min" = none
 jq:mg "range" = none
 KC:mg "set" = none
 tL:mg "sorted" = none
 Dl:mg "sum" = none
 D0:mg "tuple" = none
 yz:mg "zip" = none
section
variable {P:aG} {w:aQ} {K:ζ} {mg:ψ->Option δ} {base:ay} {t:DT}
theorem Vd:∀ds G Q,wK ds G Q->ds.length=1:=by
 intro ds G Q h
 first
  | (rcases ds with _|⟨_,_|⟨_,_|⟨_,_|⟨_,_⟩⟩⟩⟩<;>first|rfl|exact h.elim)
  | (obtain⟨rfl,_⟩:=h;rfl)
  | (obtain⟨_,rfl,_⟩:=h;rfl)
  | (obtain⟨_,_,rfl,_⟩:=h;rfl)
  | (obtain⟨_,_,_,rfl,_⟩:=h;rfl)
  | (obtain⟨_,_,_,_,rfl,_⟩:=h;rfl)
  | (obtain⟨_,_,_,_,_,rfl,_⟩:=h;rfl)
  | (obtain⟨_,_,_,_,_,_,rfl,_⟩:=h;rfl)
  | (obtain⟨_,_,_,_,_,_,_,rfl,_⟩:=h;rfl)
  | (obtain⟨_,_,_,_,_,_,_,_,rfl,_⟩:=h;rfl)
theorem Vc(T:Txt K mg t):cu P w K mg base 1 t.yX t.zG ["thing"] wK:=by
 refine dy (k:=0) (sp:=wK) T.DN VP (by decide) Vd HN (fun cdv A outer s H E hr=>?_) OV;refine bO (dt ?_);refine Hj (HU PN rfl (ο (pv 0)) T.rC T.Dn rfl (by decide) (by decide)) ?_;refine Hk (O6 (HU PM rfl (ο (pv 0)) T.rC T.JE rfl (by decide) (by decide)))
theorem Vb:∀ds G Q,qe ds G Q->ds.length=2:=by
 intro ds G Q h;obtain⟨_,_,rfl,_⟩:=h;rfl
theorem vP(T:Txt K mg t):cu P w K mg base 1 t.Cz t.CJ ["many","most"] qe:=by
 refine dy (k:=0) (sp:=qe) T.uY VN (by decide) Vb Gn (fun cdv A outer s H E hr=>?_) NB;refine bO (ik (fb uS uM (ο (pv 0)) (ο (pv 1)) (bG _)) (bO BP) iZ)
theorem U9:∀ds G Q,vU ds G Q->ds.length=1:=by
 intro ds G Q h;obtain⟨_,rfl,_⟩:=h;rfl
theorem U8(T:Txt K mg t):cu P w K mg base 1 t.yJ t.zp ["times"] vU:=by
 refine dy (k:=0) (sp:=vU) T.DG tU (by decide) U9 Fi (fun cdv A outer s H E hr=>?_) Mc;refine bx (cw (i:=1) tU.nd aC) (bx ?_ (bO (dt (ο (pv 1)))));refine kB bE rfl (wL T.jq (χ (ο (pv 0)) au)) (fy (i:=2) tU.nd) ?_;refine bO (O5 (i:=1) O9 tU.nd (ο (pv 1)) Je)
theorem U7:∀ds G Q,uA ds G Q->ds.length=2:=by
 intro ds G Q h;obtain⟨_,_,rfl,_⟩:=h;rfl
theorem EC(T:Txt K mg t):cu P w K mg base 1 t.CC t.CM ["one","other"] uA:=by
 refine dy (k:=0) (sp:=uA) T.CU vn (by decide) U7 Gw (fun cdv A outer s H E hr=>?_) OS;refine bx ?_ (bO (dt (ο (pv 0))));refine wM bE (fb i5 (mh hr.units) (ο (pv 1)) aC (bG _)) ?_;refine bx (cw (i:=2) vn.nd (bu mG mH (ο (pv 0)) (ο (pv 1)))) ?_;refine bx (cw (i:=0) vn.nd (ο (pv 1))) (bO (cw (i:=1) vn.nd (ο (pv 2))))
theorem VH:∀ds G Q,v9 ds G Q->ds.length=1:=by
 intro ds G Q h;obtain⟨_,_,rfl,_⟩:=h;rfl
theorem VG(T:Txt K mg t):cu P w K mg base 2 t.CD t.CN ["numbers"] v9:=by
 refine dy (k:=1) (sp:=v9) T.Ka vp (by decide) VH Gv (fun cdv A outer s H E hr=>?_) OO;refine bx (cw (i:=1) vp.nd aC) (bx ?_ (bO (dt (ο (pv 1)))));refine kB bE rfl (oX (ο (pv 0))) (fy (i:=2) vp.nd) (bO ?_);refine cw (i:=1) vp.nd (bu jN jO (ο (pv 1)) (bu o5 o6 (ο (pv 2)) ?_));refine bR ((EC T).mono (by decide)) hr T.JC T.CU.kp T.JV ?_;refine χ (ο (pv 1)) (χ (ο (pv 2)) au)
theorem VF:∀ds G Q,v8 ds G Q->ds.length=2:=by
 intro ds G Q h;obtain⟨_,_,rfl,_⟩:=h;rfl
theorem VE(T:Txt K mg t):cu P w K mg base 1 t.yU t.zD ["number","bound"] v8:=by
 refine dy (k:=0) (sp:=v8) T.DL iD (by decide) VF Gs (fun cdv A outer s H E hr=>?_) NQ;refine bx (cw (i:=2) iD.nd (ο (pv 1))) ?_;refine bx (cw (i:=3) iD.nd (bu mG mH (ο (pv 0)) (ο (pv 1)))) ?_;refine bx (cw (i:=4) iD.nd aC) (bx (cw (i:=5) iD.nd aC) ?_);refine bx ?_ (bO (dt (bu mG mH (ο (pv 4)) (ο (pv 1)))));refine wM bE (fb i5 (mh hr.units) (ο (pv 3)) aC (bG _)) ?_;refine bx (cw (i:=6) iD.nd (bu o5 o6 (ο (pv 2)) (ο (pv 3)))) ?_;refine bx (cw (i:=7) iD.nd (bu lE lG (ο (pv 2)) (bu jN jO (ο (pv 6)) (ο (pv 3))))) ?_;refine bx (cw (i:=8) iD.nd (bu lE lG (ο (pv 4)) (bu jN jO (ο (pv 6)) (ο (pv 5))))) ?_;refine bx (cw (i:=2) iD.nd (ο (pv 3))) (bx (cw (i:=4) iD.nd (ο (pv 5))) ?_);refine bx (cw (i:=3) iD.nd (ο (pv 7))) (bO (cw (i:=5) iD.nd (ο (pv 8))))
theorem VD:∀ds G Q,vZ ds G Q->ds.length=2:=by
 intro ds G Q h;obtain⟨_,_,rfl,_⟩:=h;rfl
theorem VC(T:Txt K mg t):cu P w K mg base 2 t.CB t.CL ["clocks","many"] vZ:=by
 refine dy (k:=1) (sp:=vZ) T.J9 tT (by decide) VD GZ (fun cdv A outer s H E hr=>?_) N6;refine bx (qh ?_) ?_;refine bR ((vP T).mono (by decide)) hr T.wQ T.uY.kp T.xa ?_;refine χ (ο (pv 1)) (χ (we T.uQ) au);refine bx (cw (i:=2) tT.nd (bu jN jO (jy (χ aC au)) (ο (pv 1)))) ?_;refine bx ?_ (bO (dt (ο (pv 2))));refine kB bE rfl (oX (ο (pv 0))) ?_ (bO ?_);refine qf rfl (ll (fy (i:=3) tT.nd) (ll (fy (i:=4) tT.nd) qg));refine kB bE rfl (OY T.jq (χ (ο (pv 4)) (χ (ο (pv 1)) (χ (ο (pv 3)) au)))) ?_ ?_;refine fy (i:=5) tT.nd;refine bO (HP (ο (pv 2)) (ο (pv 5)) aC)
theorem VB:∀ds G Q,wI ds G Q->ds.length=2:=by
 intro ds G Q h;obtain⟨_,_,rfl,_⟩:=h;rfl
theorem VA(T:Txt K mg t):cu P w K mg base 1 t.yH t.zm ["clock","number"] wI:=by
 refine dy (k:=0) (sp:=wI) T.DE Wh (by decide) VB GU (fun cdv A outer s H E hr=>?_) Pq;refine bO (dt (tx o7 (oZ hr.units) (bu mG mH (ο (pv 1)) (ij (ο (pv 0)) aC)) (ij (ο (pv 0)) aC) (bG _)))
theorem Vz:∀ds G Q,mF ds G Q->ds.length=2:=by
 intro ds G Q h;obtain⟨_,_,rfl,_⟩:=h;rfl
theorem sY(T:Txt K mg t):cu P w K mg base 2 t.yN t.zu ["clocks","number"] mF:=by
 refine dy (k:=1) (sp:=mF) T.oG Wg (by decide) Vz GS (fun cdv A outer s H E hr=>?_) Pp;refine bO (dt ?_);refine tp rfl (show dM EL (ai xP) _ ["clock"] [1] from⟨rfl,by decide +kernel,by decide +kernel,by decide +kernel,by decide +kernel,by decide +kernel⟩) ?_ ?_;refine oX (ο (pv 0));intro s0 H0 fp0;refine⟨(fy (i:=0) (show (["clock","number"]:List ψ).Nodup by decide +kernel)),?_,(ο (pv 0))⟩;refine O4 (tw (bR ((VA T).mono (by decide)) hr T.Ko T.DE.kp T.KP (χ (ο (pv 0)) (χ (ο (pv 1)) au))))
theorem Vy:∀ds G Q,uz ds G Q->ds.length=1:=by
 intro ds G Q h;obtain⟨_,rfl,_⟩:=h;rfl
theorem EB(T:Txt K mg t):cu P w K mg base 3 t.yM t.zt ["clocks"] uz:=by
 refine dy (k:=2) (sp:=uz) T.zX Wf (by decide) Vy Gu (fun cdv A outer s H E hr=>?_) OM;refine bO (dt ?_);refine bR ((VG T).mono (by decide)) hr T.W6 T.Ka.kp T.Xr (χ ?_ au);refine tp rfl (show dM EK (ai xO) _ ["clock"] [] from⟨rfl,by decide +kernel,by decide +kernel,by decide +kernel,by decide +kernel,by decide +kernel⟩) ?_ ?_;refine oX (ο (pv 0));intro s0 H0 fp0;refine⟨(fy (i:=0) (show (["clock"]:List ψ).Nodup by decide +kernel)),oW,(ij (ο (pv 0)) aC)⟩
theorem UW:∀ds G Q,v7 ds G Q->ds.length=2:=by
 intro ds G Q h;obtain⟨_,_,rfl,_⟩:=h;rfl
theorem UU(T:Txt K mg t):cu P w K mg base 2 t.yI t.zo ["one","other"] v7:=by
 refine dy (k:=1) (sp:=v7) T.DF qW (by decide) UW Gq (fun cdv A outer s H E hr=>?_) NH;refine bx (cw (i:=2) qW.nd ?_) ?_;refine bR ((EC T).mono (by decide)) hr T.JC T.CU.kp T.JV ?_;refine χ (ij (ο (pv 0)) aC) (χ (ij (ο (pv 1)) aC) au);refine bx (cw (i:=3) qW.nd (bu lE lG (ij (ο (pv 1)) aC) (ij (ο (pv 0)) aC))) ?_;refine bx (ik (fb i5 (mh hr.units) (bu mG mH (ο (pv 3)) (ο (pv 2))) aC (bG _)) (bO (dt tz)) iZ) ?_;refine bx (cw (i:=4) qW.nd (bu o5 o6 (ij (ο (pv 1)) aC) (ο (pv 2)))) ?_;refine bx (cw (i:=5) qW.nd ?_) (bO (dt ?_));refine bu mG mH (bu jN jO (bu o5 o6 (ο (pv 3)) (ο (pv 2))) ?_) (ο (pv 4));refine bR ((VE T).mono (by decide)) hr T.Kv T.DL.kp T.KZ ?_;refine χ (bu o5 o6 (ij (ο (pv 0)) aC) (ο (pv 2))) (χ (ο (pv 4)) au);refine tu (χ (bu jN jO (ij (ο (pv 0)) aC) (ο (pv 4))) ?_);refine χ (bu fz fA (ij (ο (pv 0)) aC) (bu jN jO (ij (ο (pv 0)) aC) (ο (pv 5)))) au
theorem UT:∀ds G Q,wG ds G Q->ds.length=2:=by
 intro ds G Q h;obtain⟨_,_,rfl,_⟩:=h;rfl
theorem US(T:Txt K mg t):cu P w K mg base 3 t.yS t.zB ["clocks","thing"] wG:=by
 refine dy (k:=2) (sp:=wG) T.DK Wc (by decide) UT GQ (fun cdv A outer s H E hr=>?_) Po;refine bO (dt ?_);refine Hj (bR ((Vc T).mono (by decide)) hr T.Kx T.DN.kp T.K3 (χ (ο (pv 1)) au)) ?_;refine Hk (tx o7 (oZ hr.units) ?_ (jy au) (bG _));refine bR ((sY T).mono (by decide)) hr T.qk T.oG.kp T.qv (χ (ο (pv 0)) (χ (ο (pv 1)) au))
theorem UR:∀ds G Q,uy ds G Q->ds.length=3:=by
 intro ds G Q h;obtain⟨_,_,_,_,_,_,rfl,_⟩:=h;rfl
theorem EA(T:Txt K mg t):cu P w K mg base 1 t.yT t.zC ["weights","met","weight"] uy:=by
 refine dy (k:=0) (sp:=uy) T.zY Ao (by decide) UR FH (fun cdv A outer s H E hr=>?_) MB;refine bx ?_ (bO (MJ hr.units (ο (pv 0)) (ο (pv 1)) (FK ?_)));refine cw (i:=3) Ao.nd (MI hr.units (ο (pv 0)) (ο (pv 1)) ?_);refine bu jN jO (jy (χ aC au)) (jH hr.units T.gT (χ (ο (pv 2)) au));refine tp rfl (show dM EH (ai xK) _ ["one","other"] [] from⟨rfl,by decide +kernel,by decide +kernel,by decide +kernel,by decide +kernel,by decide +kernel⟩) ?_ ?_;refine BN T.yz (χ (ο (pv 3)) (χ (ο (pv 2)) au));intro s0 H0 fp0;refine⟨(qf rfl ?_),oW,(bu fz fA (ο (pv 0)) (ο (pv 1)))⟩;refine ll (fy (i:=0) (show (["one","other"]:List ψ).Nodup by decide +kernel)) ?_;refine ll (fy (i:=1) (show (["one","other"]:List ψ).Nodup by decide +kernel)) qg
theorem UQ:∀ds G Q,tj ds G Q->ds.length=1:=by
 intro ds G Q h;obtain⟨_,rfl,_⟩:=h;rfl
theorem AV(T:Txt K mg t):cu P w K mg base 3 t.yZ t.zI ["clocks"] tj:=by
 refine dy (k:=2) (sp:=tj) T.vH mf (by decide) UQ FE (fun cdv A outer s H E hr=>?_) Mq;refine bx (cw (i:=1) mf.nd (MH hr.units (tu (χ aC (χ aC au))) (FK (jy (χ aC au))))) ?_;refine bx ?_ (bO (dt (ο (pv 1))));refine kB bE rfl (oX (ο (pv 0))) (fy (i:=2) mf.nd) ?_;refine bx (cw (i:=3) mf.nd MK) (bx ?_ (bO (cw (i:=1) mf.nd (ο (pv 3)))));refine kB bE rfl (Bo (ο (pv 1))) ?_ ?_;refine qf rfl (ll (fy (i:=4) mf.nd) (ll (fy (i:=5) mf.nd) qg));refine bx (qh ?_) ?_;refine bR ((EA T).mono (by decide)) hr T.Dg T.zY.kp T.Dw ?_;refine χ (ο (pv 3)) (χ (ο (pv 4)) (χ (bu Bp Bq (ο (pv 5)) (jy (χ aC au))) au));refine bx (cw (i:=6) mf.nd ?_) (bO ?_);refine bR ((UU T).mono (by decide)) hr T.Kp T.DF.kp T.KQ (χ (ο (pv 4)) (χ (ο (pv 2)) au));refine ik (fb Ih Ja (ο (pv 6)) tz (bG _)) (bO (qh ?_)) iZ;refine bR ((EA T).mono (by decide)) hr T.Dg T.zY.kp T.Dw ?_;refine χ (ο (pv 3)) (χ (ο (pv 6)) (χ ?_ au));refine tp rfl (show dM EI (ai xM) _ ["more","less"] [] from⟨rfl,by decide +kernel,by decide +kernel,by decide +kernel,by decide +kernel,by decide +kernel⟩) ?_ ?_;refine BN T.yz ?_;refine χ (bu Bp Bq (jy (χ aC au)) (ο (pv 5))) ?_;refine χ (bu Bp Bq (ο (pv 5)) (jy (χ aC au))) au;intro s0 H0 fp0;refine⟨(qf rfl ?_),oW,(bu lE lG (ο (pv 0)) (ο (pv 1)))⟩;refine ll (fy (i:=0) (show (["more","less"]:List ψ).Nodup by decide +kernel)) ?_;refine ll (fy (i:=1) (show (["more","less"]:List ψ).Nodup by decide +kernel)) qg
theorem UP:∀ds G Q,ux ds G Q->ds.length=2:=by
 intro ds G Q h;obtain⟨_,_,rfl,_⟩:=h;rfl
theorem Ez(T:Txt K mg t):cu P w K mg base 1 t.zc t.zL ["clock","bound"] ux:=by
 refine dy (k:=0) (sp:=ux) T.Ab Wa (by decide) UP FC (fun cdv A outer s H E hr=>?_) Mp;refine bO (dt ?_);refine yb hr.units T.vA (χ aC (χ (bu fz fA ?_ aC) au));refine bu o5 o6 (bu lE lG (bu lE lG (ο (pv 1)) (ij (ο (pv 0)) aC)) aC) (ij (ο (pv 0)) aC)
theorem UO:∀ds G Q,oU ds G Q->ds.length=2:=by
 intro ds G Q h;obtain⟨_,_,rfl,_⟩:=h;rfl
theorem uo(T:Txt K mg t):cu P w K mg base 4 t.yV t.zE ["clocks","bound"] oU:=by
 refine dy (k:=3) (sp:=oU) T.qA pI (by decide) UO Gk (fun cdv A outer s H E hr=>?_) MN;refine bx (qh ?_) ?_;refine bR ((vP T).mono (by decide)) hr T.wQ T.uY.kp T.xa ?_;refine χ (jH hr.units T.gT (χ (ο (pv 0)) au)) (χ (we T.gU) au);refine bx (cw (i:=2) pI.nd ?_) (bx ?_ (bO (dt (ο (pv 2)))));refine bu jN jO (jy (χ aC au)) (bu fz fA (jH hr.units T.gT (χ (ο (pv 0)) au)) aC);refine kB bE rfl ?_ (qf rfl (ll (fy (i:=3) pI.nd) (ll (fy (i:=4) pI.nd) qg))) ?_;refine Bo (bR ((AV T).mono (by decide)) hr T.yB T.vH.kp T.zS (χ (ο (pv 0)) au));refine bx (cw (i:=5) pI.nd ?_) (bO ?_);refine bR ((Ez T).mono (by decide)) hr T.Dj T.Ab.kp T.Dz (χ (ο (pv 3)) (χ (ο (pv 1)) au));refine ya (i:=2) rfl pI.nd (show dM EJ (ai xN) _ ["counted","part"] [5] from⟨rfl,by decide +kernel,by decide +kernel,by decide +kernel,by decide +kernel,by decide +kernel⟩) ?_ ?_;refine BN T.yz (χ (ο (pv 2)) (χ (ο (pv 4)) au));intro s0 H0 fp0;refine⟨(qf rfl ?_),oW,(bu fz fA (ο (pv 0)) (bu jN jO (ο (pv 2)) (ο (pv 1))))⟩;refine ll (fy (i:=0) (show (["counted","part","many"]:List ψ).Nodup by decide +kernel)) ?_;refine ll (fy (i:=1) (show (["counted","part","many"]:List ψ).Nodup by decide +kernel)) qg
theorem UN:∀ds G Q,uw ds G Q->ds.length=2:=by
 intro ds G Q h;obtain⟨_,_,_,_,rfl,_⟩:=h;rfl
theorem Ey(T:Txt K mg t):cu P w K mg base 2 t.zf t.zO ["weights","bound"] uw:=by
 refine dy (k:=1) (sp:=uw) T.Ac Vx (by decide) UN Fz (fun cdv A outer s H E hr=>?_) Mn;refine bO (dt (HQ hr.units T.Dl (χ ?_ au)));refine tp rfl (show dM EG (ai xJ) _ ["met","weight"] [1] from⟨rfl,by decide +kernel,by decide +kernel,by decide +kernel,by decide +kernel,by decide +kernel⟩) ?_ ?_;refine Bo (ο (pv 0));intro s0 H0 fp0;refine⟨(qf rfl ?_),oW,(bu jN jO (ij (ο (pv 1)) aC) ?_)⟩;refine ll (fy (i:=0) (show (["met","weight","bound"]:List ψ).Nodup by decide +kernel)) ?_;refine ll (fy (i:=1) (show (["met","weight","bound"]:List ψ).Nodup by decide +kernel)) qg;refine bR ((Ez T).mono (by decide)) hr T.Dj T.Ab.kp T.Dz (χ (ο (pv 0)) (χ (ο (pv 2)) au))
theorem UM:∀ds G Q,tf ds G Q->ds.length=1:=by
 intro ds G Q h;obtain⟨_,rfl,_⟩:=h;rfl
theorem AU(T:Txt K mg t):cu P w K mg base 2 t.yR t.zA ["clocks"] tf:=by
 refine dy (k:=1) (sp:=tf) T.vG Vs (by decide) UM Fh (fun cdv A outer s H E hr=>?_) Mb;refine bO (dt ?_);refine bR ((U8 T).mono (by decide)) hr T.Kq T.DG.kp T.KR (χ (jH hr.units T.gT (χ (ο (pv 0)) au)) au)
theorem UL:∀ds G Q,qd ds G Q->ds.length=2:=by
 intro ds G Q h
 first
  | (rcases ds with _|⟨_,_|⟨_,_|⟨_,_|⟨_,_⟩⟩⟩⟩<;>first|rfl|exact h.elim)
  | (obtain⟨rfl,_⟩:=h;rfl)
  | (obtain⟨_,rfl,_⟩:=h;rfl)
  | (obtain⟨_,_,rfl,_⟩:=h;rfl)
  | (obtain⟨_,_,_,rfl,_⟩:=h;rfl)
  | (obtain⟨_,_,_,_,rfl,_⟩:=h;rfl)
  | (obtain⟨_,_,_,_,_,rfl,_⟩:=h;rfl)
  | (obtain⟨_,_,_,_,_,_,rfl,_⟩:=h;rfl)
  | (obtain⟨_,_,_,_,_,_,_,rfl,_⟩:=h;rfl)
  | (obtain⟨_,_,_,_,_,_,_,_,rfl,_⟩:=h;rfl)
theorem xF(T:Txt K mg t):cu P w K mg base 3 t.zd t.zM ["clocks","number"] qd:=by
 refine dy (k:=2) (sp:=qd) T.uc As (by decide) UL Ff (fun cdv A outer s H E hr=>?_) WH;refine bx (qh ?_) (bx ?_ (bO (dt tz)));refine bR ((vP T).mono (by decide)) hr T.wQ T.uY.kp T.xa ?_;refine χ (jH hr.units T.gT (χ (ο (pv 0)) au)) (χ (we T.gU) au);refine kB bE rfl (Gf T.jq (χ (ο (pv 1)) (χ ?_ au))) (fy (i:=2) As.nd) (bO ?_);refine bu fz fA (ο (pv 1)) (bR ((AU T).mono (by decide)) hr T.yA T.vG.kp T.zR (χ (ο (pv 0)) au));refine ik (fb o7 (oZ hr.units) ?_ (jy au) (bG _)) (bO (dt (ο (pv 2)))) iZ;refine bR ((sY T).mono (by decide)) hr T.qk T.oG.kp T.qv (χ (ο (pv 0)) (χ (ο (pv 2)) au))
theorem UK:∀ds G Q,uu ds G Q->ds.length=2:=by
 intro ds G Q h;obtain⟨_,_,rfl,_⟩:=h;rfl
theorem Ex(T:Txt K mg t):cu P w K mg base 4 t.yY t.zH ["clocks","n"] uu:=by
 refine dy (k:=3) (sp:=uu) T.zZ nG (by decide) UK Fb (fun cdv A outer s H E hr=>?_) Wu;refine bx (ik (fb JL Jb ?_ tz (bG _)) (bO BP) iZ) ?_;refine bR ((xF T).mono (by decide)) hr T.vz T.uc.kp T.vF (χ (ο (pv 0)) (χ aC au));refine bx (cw (i:=2) nG.nd ?_) (bx (cw (i:=3) nG.nd aC) ?_);refine bR ((AV T).mono (by decide)) hr T.yB T.vH.kp T.zS (χ (ο (pv 0)) au);refine bx (cw (i:=4) nG.nd ?_) (bx ?_ (bO (dt (ο (pv 3)))));refine bu lE lG (bu jN jO (bu fz fA (ο (pv 1)) aC) ?_) aC;refine bR ((AU T).mono (by decide)) hr T.yA T.vG.kp T.zR (χ (ο (pv 0)) au);refine wM bE (fb wu (wx hr.qT) (ο (pv 3)) (ο (pv 4)) (bG _)) ?_;refine bx (cw (i:=5) nG.nd (bu o5 o6 (bu fz fA (ο (pv 3)) (ο (pv 4))) aC)) (bO ?_);refine ik (fb uS uM ?_ (ο (pv 1)) (bG _)) (bO (cw (i:=4) nG.nd (ο (pv 5)))) ?_;refine bR ((Ey T).mono (by decide)) hr T.Dk T.Ac.kp T.DA ?_;refine χ (ο (pv 2)) (χ (bu fz fA (ο (pv 5)) aC) au);refine bO (cw (i:=3) nG.nd (bu fz fA (ο (pv 5)) aC))
theorem UJ:∀ds G Q,vT ds G Q->ds.length=2:=by
 intro ds G Q h;obtain⟨_,_,rfl,_⟩:=h;rfl
theorem UI(T:Txt K mg t):cu P w K mg base 4 t.Cw t.CH ["clocks","number"] vT:=by
 refine dy (k:=3) (sp:=vT) T.J7 Vu (by decide) UJ E9 (fun cdv A outer s H E hr=>?_) Wr;refine bx (qh ?_) ?_;refine bR ((vP T).mono (by decide)) hr T.wQ T.uY.kp T.xa ?_;refine χ (jH hr.units T.gT (χ (ο (pv 0)) au)) (χ (we T.gU) au);refine bx (ik (lD ?_) (bO BP) iZ) (bO (dt ?_));refine rj (yc ?_) (rk (fb wu (wx hr.qT) (ο (pv 1)) aC (bG _)));refine tw (bR ((US T).mono (by decide)) hr T.Ku T.DK.kp T.KY (χ (ο (pv 0)) (χ (ο (pv 1)) au)));refine bR ((Ey T).mono (by decide)) hr T.Dk T.Ac.kp T.DA ?_;refine χ (bR ((AV T).mono (by decide)) hr T.yB T.vH.kp T.zS (χ (ο (pv 0)) au)) ?_;refine χ (ο (pv 1)) au
theorem UH:∀ds G Q,uv ds G Q->ds.length=2:=by
 intro ds G Q h;obtain⟨_,_,rfl,_⟩:=h;rfl
theorem Ew(T:Txt K mg t):cu P w K mg base 3 t.zb t.zK ["clocks","number"] uv:=by
 refine dy (k:=2) (sp:=uv) T.Aa Ar (by decide) UH Fe (fun cdv A outer s H E hr=>?_) WC;refine bx (qh ?_) (bx ?_ (bO (dt tz)));refine bR ((vP T).mono (by decide)) hr T.wQ T.uY.kp T.xa ?_;refine χ (jH hr.units T.gT (χ (ο (pv 0)) au)) (χ (we T.gU) au);refine kB bE rfl ?_ (fy (i:=2) Ar.nd) (bO ?_);refine LO T.jq (χ (ο (pv 1)) (χ ?_ (χ (O7 aC) au)));refine bu lE lG (ο (pv 1)) (bR ((AU T).mono (by decide)) hr T.yA T.vG.kp T.zR (χ (ο (pv 0)) au));refine ik (fb o7 (oZ hr.units) ?_ (jy au) (bG _)) (bO (dt (ο (pv 2)))) iZ;refine bR ((sY T).mono (by decide)) hr T.qk T.oG.kp T.qv (χ (ο (pv 0)) (χ (ο (pv 2)) au))
theorem UG:∀ds G Q,wa ds G Q->ds.length=2:=by
 intro ds G Q h;obtain⟨_,_,rfl,_⟩:=h;rfl
theorem UE(T:Txt K mg t):cu P w K mg base 3 t.yK t.zq ["clocks","number"] wa:=by
 refine dy (k:=2) (sp:=wa) T.DH Vo (by decide) UG Gx (fun cdv A outer s H E hr=>?_) Oi;refine bO (dt (jH hr.units T.gT ?_));refine χ (bR ((sY T).mono (by decide)) hr T.qk T.oG.kp T.qv (χ (ο (pv 0)) (χ (ο (pv 1)) au))) (au)
theorem UD:∀ds G Q,vY ds G Q->ds.length=1:=by
 intro ds G Q h;obtain⟨_,rfl,_⟩:=h;rfl
theorem UC(T:Txt K mg t):cu P w K mg base 4 t.yO t.zw ["clocks"] vY:=by
 refine dy (k:=3) (sp:=vY) T.DI vM (by decide) UD GY (fun cdv A outer s H E hr=>?_) Nl;refine bx (cw (i:=1) vM.nd ?_) (bx ?_ (bO (dt (ο (pv 1)))));refine bu jN jO (jy (χ aC au)) (bu fz fA (jH hr.units T.gT (χ (ο (pv 0)) au)) aC);refine kB bE rfl (oX ?_) (fy (i:=2) vM.nd) (bO (HP (ο (pv 1)) (ο (pv 2)) aC));refine bR ((VC T).mono (by decide)) hr T.W5 T.J9.kp T.Xq (χ (ο (pv 0)) ?_);refine χ (bR ((EB T).mono (by decide)) hr T.Df T.zX.kp T.Dv (χ (ο (pv 0)) au)) au
theorem UB:∀ds G Q,wJ ds G Q->ds.length=2:=by
 intro ds G Q h;obtain⟨_,_,rfl,_⟩:=h;rfl
theorem UA(T:Txt K mg t):cu P w K mg base 1 t.ze t.zN ["script","k"] wJ:=by
 refine dy (k:=0) (sp:=wJ) T.DP Vl (by decide) UB HM (fun cdv A outer s H E hr=>?_) OU;refine bx ?_ (bO (dt aC));refine ik (fb wu (wx hr.qT) (ο (pv 1)) (jH hr.units T.gT (χ (ο (pv 0)) au)) (bG _)) ?_ iZ;refine bO (dt (ij (ο (pv 0)) (ο (pv 1))))
theorem Uz:∀ds G Q,uF ds G Q->ds.length=1:=by
 intro ds G Q h;obtain⟨_,rfl,_⟩:=h;rfl
theorem Eu(T:Txt K mg t):cu P w K mg base 1 t.yL t.zr ["seed"] uF:=by
 refine dy (k:=0) (sp:=uF) T.zW Am (by decide) Uz HL (fun cdv A outer s H E hr=>?_) OT;refine bx (cw (i:=0) Am.nd (bu mG mH (bu fz fA (ο (pv 0)) aC) aC)) ?_;refine bO (dt (bu mG mH ?_ aC));refine bu fz fA (bu fz fA (bu jN jO (ο (pv 0)) (ο (pv 0))) (bu jN jO aC (ο (pv 0)))) aC
theorem Uy:∀ds G Q,xY ds G Q->ds.length=1:=by
 intro ds G Q h;obtain⟨_,rfl,_⟩:=h;rfl
theorem Ux(T:Txt K mg t):cu P w K mg base 1 t.za t.zJ ["cell"] BL:=by
 refine jJ.imp ?_ Pr;refine dy (k:=0) (sp:=xY) T.DO Aq (by decide) Uy HJ (fun cdv A outer s H E hr=>?_) Pt;refine bx (cw (i:=1) Aq.nd (yb hr.units T.vA (χ (ο (pv 0)) (χ (bu lE lG aC (ο (pv 0))) au)))) ?_;refine bO (dt (jy (χ (ο (pv 1)) ?_)));refine χ (O1 hr.units T.Dn (χ (tx Xa T4 (ο (pv 1)) (bu uJ uC aC aC) (bG _)) au)) ?_;refine χ (bu mG mH (ο (pv 1)) aC) au
theorem Uw:∀ds G Q,xZ ds G Q->ds.length=2:=by
 intro ds G Q h;obtain⟨_,_,_,_,_,rfl,_⟩:=h;rfl
theorem jF(T:Txt K mg t):cu P w K mg base 2 t.yP t.zx ["pen","many"] lj:=by
 refine jJ.imp ?_ Pu;refine dy (k:=1) (sp:=xZ) T.gJ An (by decide) Uw HK (fun cdv A outer s H E hr=>?_) Pw;refine bx ?_ ?_;refine ik (fb o7 (oZ hr.units) (ij (ο (pv 0)) aC) aC (bG _)) ?_ iZ;refine bx (cw (i:=2) An.nd (bu mG mH (ij (ο (pv 0)) aC) (ο (pv 1)))) ?_;refine bx (BO (bu o5 o6 (ij (ο (pv 0)) aC) (ο (pv 1))) (Hi (ο (pv 0)) aC)) (bO (dt (ο (pv 2))));refine bx (BO ?_ (Hi (ο (pv 0)) aC)) ?_;refine bR ((Eu T).mono (by decide)) hr T.De T.zW.kp T.Du (χ ?_ au);refine bu fz fA (bR ((Eu T).mono (by decide)) hr T.De T.zW.kp T.Du (χ (ij (ο (pv 0)) aC) au)) (aC);refine bO (dt (bu mG mH (bu o5 o6 (ij (ο (pv 0)) aC) aC) (ο (pv 1))))
theorem Uv:∀ds G Q,uB ds G Q->ds.length=2:=by
 intro ds G Q h;obtain⟨_,_,rfl,_⟩:=h;rfl
theorem Et(T:Txt K mg t):cu P w K mg base 3 t.Cy t.CI ["pen","most"] uB:=by
 refine dy (k:=2) (sp:=uB) T.CT C1 (by decide) Uv GH (fun cdv A outer s H E hr=>?_) OG;refine bx (cw (i:=2) C1.nd (bu fz fA aC ?_)) (bO (dt (tu (χ (ο (pv 2)) ?_))));refine bR ((jF T).mono (by decide)) hr T.gS T.gJ.kp T.gW (χ (ο (pv 0)) (χ (ο (pv 1)) au));refine χ (bR ((jF T).mono (by decide)) hr T.gS T.gJ.kp T.gW (χ (ο (pv 0)) (χ (ο (pv 2)) au))) (au)
theorem U6:∀ds G Q,vV ds G Q->ds.length=3:=by
 intro ds G Q h;obtain⟨_,_,_,rfl,_⟩:=h;rfl
theorem U5(T:Txt K mg t):cu P w K mg base 3 t.zg t.zP ["pen","least","most"] vV:=by
 refine dy (k:=2) (sp:=vV) T.DQ nH (by decide) U6 Gi (fun cdv A outer s H E hr=>?_) LW;refine bx (cw (i:=3) nH.nd (jy (χ (tu (χ aC (χ aC au))) au))) ?_;refine bx ?_ (bO (dt (HS hr.units T.tL (χ (ο (pv 3)) au))));refine wM bE (lD ?_) ?_;refine rj (fb wu (wx hr.qT) (jH hr.units T.gT (χ (ο (pv 3)) au)) (ο (pv 1)) (bG _)) (rk (lD ?_));refine wN ?_ (wd (fb wu (wx hr.qT) (jH hr.units T.gT (χ (ο (pv 3)) au)) (ο (pv 2)) (bG _)));refine fb uS uM (bR ((jF T).mono (by decide)) hr T.gS T.gJ.kp T.gW (χ (ο (pv 0)) (χ aC au))) ?_ (bG _);refine aC;refine bx (cw (i:=4) nH.nd ?_) ?_;refine O3 (χ aC (χ aC (χ aC (χ aC (χ aC (χ aC au)))))) ?_;refine bR ((jF T).mono (by decide)) hr T.gS T.gJ.kp T.gW (χ (ο (pv 0)) (χ aC au));refine bx (cw (i:=4) nH.nd ?_) ?_;refine Hh hr.units T.Dm (χ (ο (pv 4)) (χ (yb hr.units T.vA ?_) au));refine χ aC (χ (bu fz fA (bu lE lG (ο (pv 2)) (jH hr.units T.gT (χ (ο (pv 3)) au))) aC) au);refine bx ?_ ?_;refine BO ?_ (qf rfl (ll (fy (i:=5) nH.nd) (ll (fy (i:=6) nH.nd) qg)));refine BM Ia pU pT Jo (ο (pv 3)) (χ ?_ au);refine bR ((jF T).mono (by decide)) hr T.gS T.gJ.kp T.gW ?_;refine χ (ο (pv 0)) (χ (jH hr.units T.gT (χ (ο (pv 3)) au)) au);refine bx ?_ ?_;refine ik (fb uS uM (bu jN jO (ο (pv 5)) (ο (pv 4))) aC (bG _)) (bO (dt (HS hr.units T.tL ?_))) iZ;refine χ (bu fz fA (ο (pv 3)) (jy (χ (tu (χ (ο (pv 5)) (χ (ο (pv 6)) au))) au))) au;refine bO (cw (i:=3) nH.nd (bu fz fA (ο (pv 3)) ?_));refine tp rfl (show dM EF (ai xI) _ ["part"] [5,4,6] from⟨rfl,by decide +kernel,by decide +kernel,by decide +kernel,by decide +kernel,by decide +kernel⟩) ?_ ?_;refine wL T.jq (χ (ο (pv 4)) au);intro s0 H0 fp0;refine⟨(fy (i:=0) (show (["part","step","k","rest"]:List ψ).Nodup by decide +kernel)),oW,?_⟩;refine tu (χ (bu jN jO (ο (pv 1)) (ο (pv 2))) ?_);refine χ (bu fz fA (ο (pv 3)) (bu jN jO (ο (pv 1)) (ο (pv 0)))) au
theorem U4:∀ds G Q,vS ds G Q->ds.length=2:=by
 intro ds G Q h;obtain⟨_,rfl,_⟩:=h;rfl
theorem U3(T:Txt K mg t):cu P w K mg base 4 t.CA t.CK ["pen","most"] vS:=by
 refine dy (k:=3) (sp:=vS) T.J8 nh (by decide) U4 E8 (fun cdv A outer s H E hr=>?_) Wp;refine bx (cw (i:=2) nh.nd ?_) ?_;refine bR ((jF T).mono (by decide)) hr T.gS T.gJ.kp T.gW (χ (ο (pv 0)) (χ aC au));refine bx ?_ ?_;refine ik (fb o7 (oZ hr.units) (ο (pv 2)) aC (bG _)) (bO ?_) (bO ?_);refine ya (i:=3) rfl nh.nd (show dM EE (ai xH) _ ["turn"] [0] from⟨rfl,by decide +kernel,by decide +kernel,by decide +kernel,by decide +kernel,by decide +kernel⟩) ?_ ?_;refine wL T.jq (χ ?_ au);refine bR ((jF T).mono (by decide)) hr T.gS T.gJ.kp T.gW ?_;refine χ (ο (pv 0)) (χ (bu fz fA (ο (pv 1)) aC) au);intro s0 H0 fp0;refine⟨(fy (i:=0) (show (["turn","pen"]:List ψ).Nodup by decide +kernel)),oW,?_⟩;refine bR ((Et T).mono (by decide)) hr T.JB T.CT.kp T.JU (χ (ο (pv 1)) (χ aC au));refine ik (fb o7 (oZ hr.units) (ο (pv 2)) aC (bG _)) ?_ ?_;refine bx (cw (i:=4) nh.nd ?_) (bx (cw (i:=3) nh.nd (jy au)) (bO ?_));refine jy (χ aC (χ aC (χ aC (χ aC (χ aC (χ aC (χ aC au)))))));refine kB bE rfl (wL T.jq (χ ?_ au)) (fy (i:=5) nh.nd) ?_;refine bR ((jF T).mono (by decide)) hr T.gS T.gJ.kp T.gW ?_;refine χ (ο (pv 0)) (χ (bu fz fA (ο (pv 1)) aC) au);refine bx (cw (i:=6) nh.nd ?_) (bO (qh ?_));refine ij (ο (pv 4)) (bR ((jF T).mono (by decide)) hr T.gS T.gJ.kp T.gW (χ (ο (pv 0)) (χ aC au)));refine BM QF PySem.F.slot_list_append PySem.F.type_list_append Jp (ο (pv 3)) (χ (tu (χ (ο (pv 6)) ?_)) au);refine χ (bR ((jF T).mono (by decide)) hr T.gS T.gJ.kp T.gW (χ (ο (pv 0)) (χ (ο (pv 6)) au))) (au);refine bx (cw (i:=3) nh.nd ?_) ?_;refine bR ((U5 T).mono (by decide)) hr T.KA T.DQ.kp T.K6 ?_;refine χ (ο (pv 0)) (χ aC (χ (yb hr.units T.vA (χ aC (χ (bu lE lG (ο (pv 1)) aC) au))) au));refine bx ?_ (bO ?_);refine ik (fb o7 (oZ hr.units) (ο (pv 2)) aC (bG _)) (bO ?_) iZ;refine cw (i:=3) nh.nd (bu fz fA (ο (pv 3)) (jy (χ ?_ au)));refine bR ((Et T).mono (by decide)) hr T.JB T.CT.kp T.JU (χ (ο (pv 0)) (χ aC au));refine ik (fb o7 (oZ hr.units) (ο (pv 2)) aC (bG _)) (bO (qh ?_)) iZ;refine BM Ia pU pT Jo (ο (pv 3)) (χ ?_ au);refine bR ((jF T).mono (by decide)) hr T.gS T.gJ.kp T.gW ?_;refine χ (ο (pv 0)) (χ (jH hr.units T.gT (χ (ο (pv 3)) au)) au);refine bO (dt (tq (O0 hr.units T.D0 (χ (OZ hr.units (ο (pv 3)) T.tL T.KC) au)) uG (rh (ο (pv 1)))))
theorem U2:∀ds G Q,wc ds G Q->ds.length=2:=by
 intro ds G Q h;obtain⟨_,_,rfl,_⟩:=h;rfl
theorem U1(T:Txt K mg t):cu P w K mg base 1 t.yW t.zF ["one","other"] wc:=by
 refine dy (k:=0) (sp:=wc) T.DM Ap (by decide) U2 GC (fun cdv A outer s H E hr=>?_) Oq;refine bx ?_ (bO (dt (ο (pv 0))));refine wM bE (fb uS uM (ο (pv 1)) aC (bG _)) (bO ?_);refine OX (i:=0) (j:=1) rfl Ap.nd rfl rfl (by decide) rfl rfl ?_ rfl;refine χ (ο (pv 1)) (χ (bu mG mH (ο (pv 0)) (ο (pv 1))) au)
theorem U0:∀ds G Q,wb ds G Q->ds.length=1:=by
 intro ds G Q h;obtain⟨_,rfl,_⟩:=h;rfl
theorem UZ(T:Txt K mg t):cu P w K mg base 2 t.yQ t.zy ["clocks"] wb:=by
 refine dy (k:=1) (sp:=wb) T.DJ qX (by decide) U0 Gy (fun cdv A outer s H E hr=>?_) Oj;refine bx (cw (i:=1) qX.nd aC) (bx ?_ (bO (dt (ο (pv 1)))));refine kB bE rfl (oX (ο (pv 0))) ?_ (bO ?_);refine qf rfl (ll (fy (i:=2) qX.nd) (ll (fy (i:=3) qX.nd) qg));refine cw (i:=1) qX.nd (bu jN jO (bu o5 o6 (ο (pv 1)) ?_) (ο (pv 2)));refine bR ((U1 T).mono (by decide)) hr T.Kw T.DM.kp T.K0 (χ (ο (pv 1)) (χ (ο (pv 2)) au))
theorem UY:∀ds G Q,vR ds G Q->ds.length=2:=by
 intro ds G Q h;obtain⟨_,_,rfl,_⟩:=h;rfl
theorem UX(T:Txt K mg t):cu P w K mg base 5 t.CG t.CP ["clocks","bound"] vR:=by
 refine dy (k:=4) (sp:=vR) T.Kb vt (by decide) UY EX (fun cdv A outer s H E hr=>?_) WW;refine bx (cw (i:=2) vt.nd ?_) ?_;refine bR ((uo T).mono (by decide)) hr T.sg T.qA.kp T.sk (χ (ο (pv 0)) (χ (ο (pv 1)) au));refine bx (cw (i:=3) vt.nd ?_) ?_;refine bR ((uo T).mono (by decide)) hr T.sg T.qA.kp T.sk ?_;refine χ (ο (pv 0)) (χ (bu fz fA (ο (pv 1)) aC) au);refine bx (cw (i:=4) vt.nd ?_) ?_;refine bR ((UE T).mono (by decide)) hr T.Kr T.DH.kp T.KS (χ (ο (pv 0)) (χ (ο (pv 1)) au));refine bx (ik (lD ?_) (bO (dt oY)) iZ) (bO (dt ?_));refine rj (fb i5 (mh hr.units) (HQ hr.units T.Dl (χ (ο (pv 2)) au)) (ο (pv 1)) (bG _)) ?_;refine rk (fb i5 (mh hr.units) (ij (ο (pv 3)) (ο (pv 4))) (bu fz fA (ij (ο (pv 2)) (ο (pv 4))) aC) (bG _));refine tx o7 (oZ hr.units) ?_ ?_ (bG _);refine bu fz fA (tq (ο (pv 2)) uG (rh (ο (pv 4)))) ?_;refine tq (ο (pv 2)) (rh (bu fz fA (ο (pv 4)) aC)) uG;refine bu fz fA (tq (ο (pv 3)) uG (rh (ο (pv 4)))) ?_;refine tq (ο (pv 3)) (rh (bu fz fA (ο (pv 4)) aC)) uG
theorem Uu:∀ds G Q,uq ds G Q->ds.length=2:=by
 intro ds G Q h;obtain⟨_,_,rfl,_⟩:=h;rfl
theorem Es(T:Txt K mg t):cu P w K mg base 5 t.CF t.CO ["clocks","n"] uq:=by
 refine dy (k:=4) (sp:=uq) T.CV xA (by decide) Uu EU (fun cdv A outer s H E hr=>?_) WM;refine bx (cw (i:=2) xA.nd ?_) ?_;refine bR ((Ex T).mono (by decide)) hr T.Dh T.zZ.kp T.Dx (χ (ο (pv 0)) (χ (ο (pv 1)) au));refine bx (ik (lD ?_) (bO (dt oY)) iZ) ?_;refine rj (fb i5 (mh hr.units) ?_ (ο (pv 1)) (bG _)) (rk (fb i5 (mh hr.units) ?_ (jy au) (bG _)));refine bR ((UI T).mono (by decide)) hr T.W3 T.J7.kp T.Xo (χ (ο (pv 0)) (χ (ο (pv 2)) au));refine bR ((sY T).mono (by decide)) hr T.qk T.oG.kp T.qv (χ (ο (pv 0)) (χ (ο (pv 2)) au));refine bx (ik (lD ?_) (bO (dt oY)) iZ) ?_;refine rj (lD ?_) (rk (fb i5 (mh hr.units) ?_ (ο (pv 2)) (bG _)));refine wN (fb JK Jc (ο (pv 2)) (bu uJ uC aC aC) (bG _)) ?_;refine wd (fb i5 (mh hr.units) (ij ?_ aC) (ο (pv 1)) (bG _));refine bR ((uo T).mono (by decide)) hr T.sg T.qA.kp T.sk (χ (ο (pv 0)) (χ (ο (pv 2)) au));refine bR ((xF T).mono (by decide)) hr T.vz T.uc.kp T.vF (χ (ο (pv 0)) (χ (ο (pv 2)) au));refine bx (cw (i:=3) xA.nd ?_) ?_;refine bR ((xF T).mono (by decide)) hr T.vz T.uc.kp T.vF ?_;refine χ (ο (pv 0)) (χ (bu fz fA (ο (pv 2)) aC) au);refine bx (ik (lD ?_) (bO (dt oY)) iZ) (bO (dt (HR hr.units T.Dp (χ ?_ au))));refine rj (fb i5 (mh hr.units) (ο (pv 3)) ?_ (bG _)) (rk (fb i5 (mh hr.units) ?_ (ο (pv 2)) (bG _)));refine bR ((Ex T).mono (by decide)) hr T.Dh T.zZ.kp T.Dx ?_;refine χ (ο (pv 0)) (χ (bu fz fA (ο (pv 1)) aC) au);refine bR ((Ew T).mono (by decide)) hr T.Di T.Aa.kp T.Dy ?_;refine χ (ο (pv 0)) (χ (bu lE lG (ο (pv 3)) aC) au);refine tp rfl (show dM ED (ai xG) _ ["one"] [0] from⟨rfl,by decide +kernel,by decide +kernel,by decide +kernel,by decide +kernel,by decide +kernel⟩) ?_ ?_;refine Gf T.jq (χ (bu fz fA (ο (pv 2)) aC) ?_);refine χ (Hh hr.units T.Dm (χ (ο (pv 3)) (χ (bu fz fA (ο (pv 2)) aC) au))) au;intro s0 H0 fp0;refine⟨(fy (i:=0) (show (["one","clocks"]:List ψ).Nodup by decide +kernel)),oW,(tx i5 (mh hr.units) ?_ (jy au) (bG _))⟩;refine bR ((sY T).mono (by decide)) hr T.qk T.oG.kp T.qv (χ (ο (pv 1)) (χ (ο (pv 0)) au))
theorem Ut:∀ds G Q,me ds G Q->ds.length=1:=by
 intro ds G Q h;obtain⟨_,rfl,_⟩:=h;rfl
theorem Jx(T:Txt K mg t):cu P w K mg base 6 t.zh t.t6 ["script"] me:=by
 refine dy (k:=5) (sp:=me) T.K7 gG (by decide) Ut Fp (fun cdv A outer s H E hr=>?_) VR;refine bx ?_ (bO (dt oY));refine kB bE rfl (oX ?_) (fy (i:=1) gG.nd) ?_;refine bu fz fA (jy ?_) (tq (ο (pv 0)) (rh aC) (rh aC));refine χ (bR ((UA T).mono (by decide)) hr T.Kz T.DP.kp T.K5 (χ (ο (pv 0)) (χ aC au))) (au);refine bx ?_ ?_;refine cw (i:=2) gG.nd (bR ((Ux T).mono (by decide)) hr T.Ky T.DO.kp T.K4 (χ (ο (pv 1)) au));refine bx (cw (i:=3) gG.nd ?_) ?_;refine bR ((U3 T).mono (by decide)) hr T.W4 T.J8.kp T.Xp (χ (ο (pv 2)) (χ aC au));refine bx ?_ ?_;refine ik ?_ (bO (cw (i:=3) gG.nd (tq (ο (pv 3)) uG (rh aC)))) iZ;refine fb uS uM (bR ((UZ T).mono (by decide)) hr T.Kt T.DJ.kp T.KW (χ (ο (pv 3)) au)) aC (bG _);refine bx (cw (i:=4) gG.nd (bR ((EB T).mono (by decide)) hr T.Df T.zX.kp T.Dv (χ (ο (pv 3)) au))) ?_;refine bx (ik (fb JK Jc (ο (pv 4)) aC (bG _)) ?_ iZ) ?_;refine bx (cw (i:=5) gG.nd (bR ((UC T).mono (by decide)) hr T.Ks T.DI.kp T.KU (χ (ο (pv 3)) au))) ?_;refine bx ?_ (bO (ik (lD ?_) (bO (dt oY)) iZ));refine ya (i:=6) rfl gG.nd (show dM AW (ai vQ) _ ["one"] [] from⟨rfl,by decide +kernel,by decide +kernel,by decide +kernel,by decide +kernel,by decide +kernel⟩) ?_ ?_;refine oX (ο (pv 5));intro s0 H0 fp0;refine⟨(fy (i:=0) (show (["one"]:List ψ).Nodup by decide +kernel)),oW,(bu jN jO aC (ο (pv 0)))⟩;refine rj (fb i5 (mh hr.units) ?_ (ο (pv 5)) (bG _)) (rk (fb i5 (mh hr.units) ?_ (ο (pv 6)) (bG _)));refine bR ((uo T).mono (by decide)) hr T.sg T.qA.kp T.sk (χ (ο (pv 3)) (χ (ο (pv 4)) au));refine bR ((uo T).mono (by decide)) hr T.sg T.qA.kp T.sk ?_;refine χ (ο (pv 3)) (χ (bu jN jO aC (ο (pv 4))) au);refine bx ?_ ?_;refine kB bE rfl (oX (jy (χ aC ?_))) (fy (i:=7) gG.nd) ?_;refine χ (bR ((jF T).mono (by decide)) hr T.gS T.gJ.kp T.gW (χ (ο (pv 2)) (χ aC au))) ?_;refine χ ?_ au;refine bR ((jF T).mono (by decide)) hr T.gS T.gJ.kp T.gW ?_;refine χ (ο (pv 2)) (χ (bu uJ uC aC aC) au);refine bO (ik (yc (tw ?_)) (bO (dt oY)) iZ);refine bR ((UX T).mono (by decide)) hr T.W7 T.Kb.kp T.Xs ?_;refine χ (ο (pv 3)) (χ (ο (pv 7)) au);refine bx (cw (i:=8) gG.nd (tx JL Jb ?_ tz (bG _))) ?_;refine bR ((xF T).mono (by decide)) hr T.vz T.uc.kp T.vF (χ (ο (pv 3)) (χ aC au));refine bx (cw (i:=9) gG.nd ?_) ?_;refine bu lE lG ?_ ?_;refine bR ((jF T).mono (by decide)) hr T.gS T.gJ.kp T.gW ?_;refine χ (ο (pv 2)) (χ (bu uJ uC aC aC) au);refine bR ((jF T).mono (by decide)) hr T.gS T.gJ.kp T.gW ?_;refine χ (ο (pv 2)) (χ (bu uJ uC aC aC) au);refine bx (cw (i:=10) gG.nd (bu V9 T6 aC (jH hr.units T.gT (χ (ο (pv 3)) au)))) ?_;refine bx ?_ ?_;refine ya (i:=11) rfl gG.nd (show dM AW (ai vQ) _ ["turn"] [3,9] from⟨rfl,by decide +kernel,by decide +kernel,by decide +kernel,by decide +kernel,by decide +kernel⟩) ?_ ?_;refine wL T.jq (χ (ο (pv 10)) au);intro s0 H0 fp0;refine⟨(fy (i:=0) (show (["turn","clocks","start"]:List ψ).Nodup by decide +kernel)),oW,?_⟩;refine tx i5 (mh hr.units) ?_ (jy au) (bG _);refine bR ((sY T).mono (by decide)) hr T.qk T.oG.kp T.qv ?_;refine χ (ο (pv 1)) (χ (bu fz fA (ο (pv 2)) (ο (pv 0))) au)
 refine bx ?_ ?_;refine ik (fb i5 (mh hr.units) (HR hr.units T.Dp (χ (ο (pv 11)) au)) (ο (pv 8)) (bG _)) (bO (dt oY)) iZ;refine bx ?_ ?_;refine ik (lD (wN (tw (ο (pv 8))) (wd (lD ?_)))) (bO (dt oY)) iZ;refine rj (fb Ih Ja ?_ tz (bG _)) (rk (fb i5 (mh hr.units) (ij ?_ aC) aC (bG _)));refine bR ((Ew T).mono (by decide)) hr T.Di T.Aa.kp T.Dy (χ (ο (pv 3)) (χ (ο (pv 9)) au));refine bR ((uo T).mono (by decide)) hr T.sg T.qA.kp T.sk (χ (ο (pv 3)) (χ (ο (pv 4)) au));refine bx (cw (i:=12) gG.nd ?_) (bO (ik ?_ (bO (dt oY)) iZ));refine bR ((jF T).mono (by decide)) hr T.gS T.gJ.kp T.gW ?_;refine χ (ο (pv 2)) (χ (bu uJ uC aC aC) au);refine lD (wN (yc (tw (ο (pv 8)))) (wd (yc (lD ?_))));refine wN (tw ?_) (wd (tw ?_));refine bR ((Es T).mono (by decide)) hr T.JD T.CV.kp T.JW ?_;refine χ (ο (pv 3)) (χ aC au);refine bR ((Es T).mono (by decide)) hr T.JD T.CV.kp T.JW ?_;refine χ (ο (pv 3)) (χ (ο (pv 12)) au)
end
def fh(K:ζ)(nm:ψ)(st:aS):Prop:=∃f d,dJ K nm nm st f d/\cv K bt nm=some (some (.ref f))
theorem b9{K:ζ}{nm:ψ}{st:aS}{f:ε}{od an:Option ε}{sl:Array (Option δ)}{oc kV dc pm cd ct:δ}(a:cv K bt nm=some (some (.ref f)))(l:K.lookup f=some ⟨oc,od,.func (hX nm nm (pJ st) (km st) (ai st) .none kV dc pm an cd ct),sl⟩)(c:lM K cd nm=true)(k:hV K (.ref f)=true):fh K nm st:=⟨f,_,Sd l c k,a⟩
theorem vI{K:ζ}{h:ay}{mg:ψ->Option δ}(X:K.In h)(G:h.Ns bt mg)
  (h0:fh K "whole_good" Bc)
  (h1:fh K "refuse_above" Bb)
  (h2:fh K "doubled" Ba)
  (h3:fh K "common_divisor" A9)
  (h4:fh K "common_multiple" A8)
  (h5:fh K "inverse_of" A7)
  (h6:fh K "counts_within" A6)
  (h7:fh K "rings" A5)
  (h8:fh K "rings_at" xP)
  (h9:fh K "round_of" xO)
  (X8:fh K "meet_of" A4)
  (X7:fh K "miss_good" A3)
  (X6:fh K "rung_below" xN)
  (X5:fh K "weights_of" xM)
  (X4:fh K "put_weight" xK)
  (X3:fh K "rings_below" A2)
  (X2:fh K "missed_below" xJ)
  (X1:fh K "nth_missed" A1)
  (X0:fh K "missed_ahead" BB)
  (XZ:fh K "window_of" BA)
  (XY:fh K "next_missed" Bz)
  (XX:fh K "last_missed" By)
  (XW:fh K "times_at" Bx)
  (XU:fh K "tally_of" Bw)
  (XT:fh K "_law_cell_at" Bv)
  (XS:fh K "_law_next" Bu)
  (XR:fh K "_law_pen_of" Bt)
  (XQ:fh K "_law_draw" Bs)
  (XO:fh K "_law_clock_by" A0)
  (XN:fh K "_law_parts_by" xI)
  (XM:fh K "_law_clocks_by" xH)
  (XJ:fh K "_law_common" AZ)
  (XI:fh K "_law_round" AY)
  (XH:fh K "_law_bounds_right" AX)
  (XG:fh K "_law_missed_right" xG)
  (XF:fh K "law" vQ)
  {t0:Tok} (gint0:cv K bt "MOST_FAR_CLOCKS" = some (some (.int 10 t0)))
  {t1:Tok} (gint1:cv K bt "MOST_NUMBERS" = some (some (.int 10000 t1)))
  (z0:cv K bt "all" = some none)
  (z1:cv K bt "bool" = some none)
  (z2:cv K bt "int" = some none)
  (z3:cv K bt "isinstance" = some none)
  (z4:cv K bt "len" = some none)
  (z5:cv K bt "max" = some none)
  (z6:cv K bt "min" = some none)
  (z7:cv K bt "range" = some none)
  (z8:cv K bt "set" = some none)
  (z9:cv K bt "sorted" = some none)
  (Ea:cv K bt "sum" = some none)
  (D9:cv K bt "tuple" = some none)
  (D8:cv K bt "zip" = some none)
  : ∃t:DT,Txt K mg t/\∀(s:η) (v:δ),pZ s t.t6 ⟨[v],[]⟩ [("script",v)]:=by
 obtain⟨f0,d0,F0,a0⟩:=h0;obtain⟨f1,d1,F1,a1⟩:=h1;obtain⟨f2,d2,F2,a2⟩:=h2;obtain⟨f3,d3,F3,a3⟩:=h3;obtain⟨f4,d4,F4,a4⟩:=h4;obtain⟨f5,d5,F5,a5⟩:=h5;obtain⟨f6,d6,F6,a6⟩:=h6;obtain⟨f7,d7,F7,a7⟩:=h7;obtain⟨f8,d8,F8,a8⟩:=h8;obtain⟨f9,d9,F9,a9⟩:=h9;obtain⟨f10,d10,F10,a10⟩:=X8;obtain⟨f11,d11,F11,a11⟩:=X7;obtain⟨f12,d12,F12,a12⟩:=X6;obtain⟨f13,d13,F13,a13⟩:=X5;obtain⟨f14,d14,F14,a14⟩:=X4;obtain⟨f15,d15,F15,a15⟩:=X3;obtain⟨f16,d16,F16,a16⟩:=X2;obtain⟨f17,d17,F17,a17⟩:=X1;obtain⟨f18,d18,F18,a18⟩:=X0;obtain⟨f19,d19,F19,a19⟩:=XZ;obtain⟨f20,d20,F20,a20⟩:=XY;obtain⟨f21,d21,F21,a21⟩:=XX;obtain⟨f22,d22,F22,a22⟩:=XW;obtain⟨f23,d23,F23,a23⟩:=XU;obtain⟨f24,d24,F24,a24⟩:=XT;obtain⟨f25,d25,F25,a25⟩:=XS;obtain⟨f26,d26,F26,a26⟩:=XR;obtain⟨f27,d27,F27,a27⟩:=XQ;obtain⟨f28,d28,F28,a28⟩:=XO;obtain⟨f29,d29,F29,a29⟩:=XN;obtain⟨f30,d30,F30,a30⟩:=XM;obtain⟨f31,d31,F31,a31⟩:=XJ;obtain⟨f32,d32,F32,a32⟩:=XI;obtain⟨f33,d33,F33,a33⟩:=XH;obtain⟨f34,d34,F34,a34⟩:=XG;obtain⟨f35,d35,F35,a35⟩:=XF;exact⟨⟨f0,d0,f1,d1,f2,d2,f3,d3,f4,d4,f5,d5,f6,d6,f7,d7,f8,d8,f9,d9,f10,d10,f11,d11,f12,d12,f13,d13,f14,d14,f15,d15,f16,d16,f17,d17,f18,d18,f19,d19,f20,d20,f21,d21,f22,d22,f23,d23,f24,d24,f25,d25,f26,d26,f27,d27,f28,d28,f29,d29,f30,d30,f31,d31,f32,d32,f33,d33,f34,d34,f35,d35,t0,t1⟩,⟨F0,
  ah X G a0,
  F0.binds (ps:=["thing"]) fun _ _ _ _ _ _ us hl=>by obtain⟨_,rfl⟩:=mI hl;rfl,
  F1,
  ah X G a1,
  F1.binds (ps:=["many","most"]) fun _ _ _ _ _ _ us hl=>by obtain⟨_,_,rfl⟩:=fV hl;rfl,
  F2,
  ah X G a2,
  F2.binds (ps:=["times"]) fun _ _ _ _ _ _ us hl=>by obtain⟨_,rfl⟩:=mI hl;rfl,
  F3,
  ah X G a3,
  F3.binds (ps:=["one","other"]) fun _ _ _ _ _ _ us hl=>by obtain⟨_,_,rfl⟩:=fV hl;rfl,
  F4,
  ah X G a4,
  F4.binds (ps:=["numbers"]) fun _ _ _ _ _ _ us hl=>by obtain⟨_,rfl⟩:=mI hl;rfl,
  F5,
  ah X G a5,
  F5.binds (ps:=["number","bound"]) fun _ _ _ _ _ _ us hl=>by obtain⟨_,_,rfl⟩:=fV hl;rfl,
  F6,
  ah X G a6,
  F6.binds (ps:=["clocks","many"]) fun _ _ _ _ _ _ us hl=>by obtain⟨_,_,rfl⟩:=fV hl;rfl,
  F7,
  ah X G a7,
  F7.binds (ps:=["clock","number"]) fun _ _ _ _ _ _ us hl=>by obtain⟨_,_,rfl⟩:=fV hl;rfl,
  F8,
  ah X G a8,
  F8.binds (ps:=["clocks","number"]) fun _ _ _ _ _ _ us hl=>by obtain⟨_,_,rfl⟩:=fV hl;rfl,
  F9,
  ah X G a9,
  F9.binds (ps:=["clocks"]) fun _ _ _ _ _ _ us hl=>by obtain⟨_,rfl⟩:=mI hl;rfl,
  F10,
  ah X G a10,
  F10.binds (ps:=["one","other"]) fun _ _ _ _ _ _ us hl=>by obtain⟨_,_,rfl⟩:=fV hl;rfl,
  F11,
  ah X G a11,
  F11.binds (ps:=["clocks","thing"]) fun _ _ _ _ _ _ us hl=>by obtain⟨_,_,rfl⟩:=fV hl;rfl,
  F12,
  ah X G a12,
  F12.binds (ps:=["clocks","bound"]) fun _ _ _ _ _ _ us hl=>by obtain⟨_,_,rfl⟩:=fV hl;rfl,
  F13,
  ah X G a13,
  F13.binds (ps:=["clocks"]) fun _ _ _ _ _ _ us hl=>by obtain⟨_,rfl⟩:=mI hl;rfl,
  F14,
  ah X G a14,
  F14.binds (ps:=["weights","met","weight"]) fun _ _ _ _ _ _ us hl=>by obtain⟨_,_,_,rfl⟩:=JJ hl;rfl,
  F15,
  ah X G a15,
  F15.binds (ps:=["clock","bound"]) fun _ _ _ _ _ _ us hl=>by obtain⟨_,_,rfl⟩:=fV hl;rfl,
  F16,
  ah X G a16,
  F16.binds (ps:=["weights","bound"]) fun _ _ _ _ _ _ us hl=>by obtain⟨_,_,rfl⟩:=fV hl;rfl,
  F17,
  ah X G a17,
  F17.binds (ps:=["clocks","n"]) fun _ _ _ _ _ _ us hl=>by obtain⟨_,_,rfl⟩:=fV hl;rfl,
  F18,
  ah X G a18,
  F18.binds (ps:=["clocks","number"]) fun _ _ _ _ _ _ us hl=>by obtain⟨_,_,rfl⟩:=fV hl;rfl,
  F19,
  ah X G a19,
  F19.binds (ps:=["clocks"]) fun _ _ _ _ _ _ us hl=>by obtain⟨_,rfl⟩:=mI hl;rfl,
  F20,
  ah X G a20,
  F20.binds (ps:=["clocks","number"]) fun _ _ _ _ _ _ us hl=>by obtain⟨_,_,rfl⟩:=fV hl;rfl,
  F21,
  ah X G a21,
  F21.binds (ps:=["clocks","number"]) fun _ _ _ _ _ _ us hl=>by obtain⟨_,_,rfl⟩:=fV hl;rfl,
  F22,
  ah X G a22,
  F22.binds (ps:=["clocks","number"]) fun _ _ _ _ _ _ us hl=>by obtain⟨_,_,rfl⟩:=fV hl;rfl,
  F23,
  ah X G a23,
  F23.binds (ps:=["clocks"]) fun _ _ _ _ _ _ us hl=>by obtain⟨_,rfl⟩:=mI hl;rfl,
  F24,
  ah X G a24,
  F24.binds (ps:=["script","k"]) fun _ _ _ _ _ _ us hl=>by obtain⟨_,_,rfl⟩:=fV hl;rfl,
  F25,
  ah X G a25,
  F25.binds (ps:=["seed"]) fun _ _ _ _ _ _ us hl=>by obtain⟨_,rfl⟩:=mI hl;rfl,
  F26,
  ah X G a26,
  F26.binds (ps:=["cell"]) fun _ _ _ _ _ _ us hl=>by obtain⟨_,rfl⟩:=mI hl;rfl,
  F27,
  ah X G a27,
  F27.binds (ps:=["pen","many"]) fun _ _ _ _ _ _ us hl=>by obtain⟨_,_,rfl⟩:=fV hl;rfl,
  F28,
  ah X G a28,
  F28.binds (ps:=["pen","most"]) fun _ _ _ _ _ _ us hl=>by obtain⟨_,_,rfl⟩:=fV hl;rfl,
  F29,
  ah X G a29,
  F29.binds (ps:=["pen","least","most"]) fun _ _ _ _ _ _ us hl=>by obtain⟨_,_,_,rfl⟩:=JJ hl;rfl,
  F30,
  ah X G a30,
  F30.binds (ps:=["pen","most"]) fun _ _ _ _ _ _ us hl=>by obtain⟨_,_,rfl⟩:=fV hl;rfl,
  F31,
  ah X G a31,
  F31.binds (ps:=["one","other"]) fun _ _ _ _ _ _ us hl=>by obtain⟨_,_,rfl⟩:=fV hl;rfl,
  F32,
  ah X G a32,
  F32.binds (ps:=["clocks"]) fun _ _ _ _ _ _ us hl=>by obtain⟨_,rfl⟩:=mI hl;rfl,
  F33,
  ah X G a33,
  F33.binds (ps:=["clocks","bound"]) fun _ _ _ _ _ _ us hl=>by obtain⟨_,_,rfl⟩:=fV hl;rfl,
  F34,
  ah X G a34,
  F34.binds (ps:=["clocks","n"]) fun _ _ _ _ _ _ us hl=>by obtain⟨_,_,rfl⟩:=fV hl;rfl,
  F35,
  ah X G a35,
  F35.binds (ps:=["script"]) fun _ _ _ _ _ _ us hl=>by obtain⟨_,rfl⟩:=mI hl;rfl,
  ah X G gint0,
  ah X G gint1,
  bX X G z0,
  bX X G z1,
  bX X G z2,
  bX X G z3,
  bX X G z4,
  bX X G z5,
  bX X G z6,
  bX X G z7,
  bX X G z8,
  bX X G z9,
  bX X G Ea,
  bX X G D9,
  bX X G D8⟩,fun s v=>by
  obtain⟨_,_,_,_,_,_,_,_,_,rfl,_⟩:=F35.ex;exact .of_eq rfl⟩
theorem Us(K:ζ)(H:Hp)(a:ε)(ns:List Int)(hl:ns.length≤63)(ho:zV H)(hS:eA K H a (ns.map V.int)):nk K me [.ref a] H (fun v _=>v=.bl true) fun _ _ _=>False:=by
 refine⟨[.fo (ns.map .int)],fun _=>none,fun d _=>d=.bl true,.cons ?_ .nil,(fun _ _ e=>nomatch e),⟨ns,rfl,hl,rfl⟩,fun v H' d G' hv _ _ q=>?_⟩
 ·unfold Hv;refine⟨a,ns.map V.int,rfl,?_,aO.ints ns⟩;rcases hS with (h|h)|h
  ·rcases ho a with z|⟨o,xs,z⟩
   ·rw[z] at h;cases h
   ·rw[z] at h;cases h
  ·exact .inl h
  ·exact .inr h
 ·subst q;exact wy hv
theorem walk{l:uf}{q:aG}{loose:List ψ}{XP:(ψ->Option δ)->ay->Prop}{YP:aQ->ay->Prop}{d:DefRec}{K:Params->ζ}(hn:l.most=some 63)(hdf:d.params.defaults=[])
  (hY:∀(w:aQ) (h:ay),YP w h->(K w.params).In h)
  (F:∀(w:aQ) (mg:ψ->Option δ) (fa:ε) (h:ay),(K w.params).In h->h.Ns bt mg->mg d.name=some (.ref fa) ->
   ∃fd:aE,(∀(s:η) (u:δ),pZ s fd ⟨[u],[]⟩ [("script",u)])/\∀base:ay,(K w.params).In base->base.Ns bt mg->jJ l.prog w (K w.params) mg base vk 6 fa fd ["script"] (nk (K w.params) me)):
  PySem.W.WalkO q loose XP YP l.row.toRowW d [] (fun f vs=>ue f vs):=
 L2.xk (n:=63) (k:=6) (x:="script") (CX:=fun _=>vk) (sp:=fun w=>nk (K w.params) me) hn (by decide) hdf ⟨rfl,by decide,by decide⟩ hY F (fun w H a ns hl ho hS=>Us (K w.params) H a ns hl ho hS) fun _ _ _ _ _ z=>z
end My
open PySem PySem.W PyProof.Rows
set_option maxRecDepth 100000 in
set_option maxHeartbeats 0 in
theorem PySem.Challenge.cw_coverclocks_k52_whole_far_counts_holds : PySem.Challenge.rw_coverclocks_k52_whole_far_counts.Holds := by
 w_on;o_law;k_head;(case hw=>w_witness2)
 k_fill
 refine My.walk (l:=PySem.Challenge.rw_coverclocks_k52_whole_far_counts) rfl rfl (fun w h Y=>PySem.W.kIn_of Y) ?F
 case F=>
  intro w mg fa h KX G hmg
  refine' Exists.elim (My.vI KX G (My.b9 ?a0 ?l0 ?c0 ?k0) (My.b9 ?a1 ?l1 ?c1 ?k1) (My.b9 ?a2 ?l2 ?c2 ?k2) (My.b9 ?a3 ?l3 ?c3 ?k3) (My.b9 ?a4 ?l4 ?c4 ?k4) (My.b9 ?a5 ?l5 ?c5 ?k5) (My.b9 ?a6 ?l6 ?c6 ?k6) (My.b9 ?a7 ?l7 ?c7 ?k7) (My.b9 ?a8 ?l8 ?c8 ?k8) (My.b9 ?a9 ?l9 ?c9 ?k9) (My.b9 ?a10 ?l10 ?c10 ?k10) (My.b9 ?a11 ?l11 ?c11 ?k11) (My.b9 ?a12 ?l12 ?c12 ?k12) (My.b9 ?a13 ?l13 ?c13 ?k13) (My.b9 ?a14 ?l14 ?c14 ?k14) (My.b9 ?a15 ?l15 ?c15 ?k15) (My.b9 ?a16 ?l16 ?c16 ?k16) (My.b9 ?a17 ?l17 ?c17 ?k17) (My.b9 ?a18 ?l18 ?c18 ?k18) (My.b9 ?a19 ?l19 ?c19 ?k19) (My.b9 ?a20 ?l20 ?c20 ?k20) (My.b9 ?a21 ?l21 ?c21 ?k21) (My.b9 ?a22 ?l22 ?c22 ?k22) (My.b9 ?a23 ?l23 ?c23 ?k23) (My.b9 ?a24 ?l24 ?c24 ?k24) (My.b9 ?a25 ?l25 ?c25 ?k25) (My.b9 ?a26 ?l26 ?c26 ?k26) (My.b9 ?a27 ?l27 ?c27 ?k27) (My.b9 ?a28 ?l28 ?c28 ?k28) (My.b9 ?a29 ?l29 ?c29 ?k29) (My.b9 ?a30 ?l30 ?c30 ?k30) (My.b9 ?a31 ?l31 ?c31 ?k31) (My.b9 ?a32 ?l32 ?c32 ?k32) (My.b9 ?a33 ?l33 ?c33 ?k33) (My.b9 ?a34 ?l34 ?c34 ?k34) (My.b9 ?a35 ?l35 ?c35 ?k35) ?gint0 ?gint1 ?z0 ?z1 ?z2 ?z3 ?z4 ?z5 ?z6 ?z7 ?z8 ?z9 ?Ea ?D9 ?D8) ?fin
  case a0|l0|c0|k0|a1|l1|c1|k1|a2|l2|c2|k2|a3|l3|c3|k3|a4|l4|c4|k4|a5|l5|c5|k5|a6|l6|c6|k6|a7|l7|c7|k7|a8|l8|c8|k8|a9|l9|c9|k9=>k_is
  case a10|l10|c10|k10|a11|l11|c11|k11|a12|l12|c12|k12|a13|l13|c13|k13|a14|l14|c14|k14|a15|l15|c15|k15|a16|l16|c16|k16|a17|l17|c17|k17|a18|l18|c18|k18|a19|l19|c19|k19=>k_is
  case a20|l20|c20|k20|a21|l21|c21|k21|a22|l22|c22|k22|a23|l23|c23|k23|a24|l24|c24|k24|a25|l25|c25|k25|a26|l26|c26|k26|a27|l27|c27|k27|a28|l28|c28|k28|a29|l29|c29|k29=>k_is
  case a30|l30|c30|k30|a31|l31|c31|k31|a32|l32|c32|k32|a33|l33|c33|k33|a34|l34|c34|k34|a35|l35|c35|k35|gint0|gint1|z0|z1|z2|z3|z4|z5|z6|z7|z8|z9|Ea|D9|D8=>k_is
  case fin=>
   rintro t ⟨T,b⟩
   have e2:=hmg.symm.trans T.KE
   cases e2
   exact⟨t.t6,b,fun base _ _=>My.Jx T⟩
