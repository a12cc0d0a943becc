import PyProof.Rows.All
import Wide.All
import OpenK.AllK
import Wide.FinOn
import Lean
import PyProof.EqAt
import PyProof.EqKinds
import PyProof.TupleCall
import PyProof.NeKinds
import KE.KSortAsk
import PySem.SetTable
import PyProof.SetKind
import PyProof.TupleKey
import PyProof.IsRules
import PyProof.DictKinds
import PyProof.FactsAll.set
import PyProof.RangeIter
import PyProof.Seq
import PyProof.ForAny
import PyProof.WalksMore
import PyProof.CollectWalk
import PyProof.CollectIter
import PyProof.WalksS
import PyProof.Rows.SetFrom
import KE.KSortTup
import PyProof.Draws
import PyProof.Rows.Range3
import PyProof.StrBlockL
import PyProof.StrWalks
import PyProof.EnumMake
import PyProof.Rows.StrItems
import PyProof.StrLawsTight
import PyProof.StrLawsChain
import KE.KIntText
import PyProof.StrLawsIn
import PyProof.SetRoads
import PyProof.Rows.StrSplitAre
import PyProof.StrCalls6
import PyProof.Rows.StrLen
import PyProof.StrLawsReplace
import PyProof.ExcClass2
import PyProof.InstSpecial
import PyProof.RaisesMany
import PyProof.Rows.Own
import KE.KTryDeep
import PyProof.InstStoreFacts
import PyProof.ExcArgs
import PySem.Challenge.RW_coverclocks_k71_texts_that_write_none
set_option Elab.async false
set_option linter.all false
set_option maxRecDepth 100000
set_option maxHeartbeats 6400000
namespace PySem.W.Fast
def tw1012461038724948681:=0
def tw10427598712402625270:=0
def tw10548625677651290650:=0
def tw10740186076891998963:=0
def tw10752288629427239208:=0
def tw10864633944698293884:=0
def tw10922255791303851772:=0
def tw11138868913705741454:=0
def tw11176951041477458286:=0
def tw11289666438435896064:=0
def tw11515881943397230606:=0
def tw11563218759411795271:=0
def tw11696059891354512338:=0
def tw12046728890050378728:=0
def tw12083412446055385222:=0
def tw12098976221234172261:=0
def tw12100804215341006911:=0
def tw12177752781947614639:=0
def tw12313569134201746901:=0
def tw12321204761748127482:=0
def tw12336257542873468401:=0
def tw12430356990736198017:=0
def tw12850163484489256299:=0
def tw12927315041319271049:=0
def tw13059039678867363097:=0
def tw1322490550434468611:=0
def tw13247586024798620136:=0
def tw13354060666861539557:=0
def tw13480272907204692694:=0
def tw13741891166398702618:=0
def tw13887870534032691628:=0
def tw14010121209030458555:=0
def tw14190324823211339533:=0
def tw14588367645054403208:=0
def tw14610311436217890247:=0
def tw14888633008237935630:=0
def tw14949560096156055535:=0
def tw14991383645376552159:=0
def tw15498164690666310567:=0
def tw15549952484776949945:=0
def tw15754895934540599974:=0
def tw16332892188881756004:=0
def tw16788552630115105067:=0
def tw16803592360098058896:=0
def tw16875432549117985275:=0
def tw17322577453593691384:=0
def tw17851050877650789475:=0
def tw17900416362474184846:=0
def tw18136900230019825898:=0
def tw18302252718482437752:=0
def tw2102908577550379715:=0
def tw2456896326981752317:=0
def tw2708295096658987247:=0
def tw2759818464513351406:=0
def tw3198368080043801073:=0
def tw3477171172693210158:=0
def tw4242594956364664660:=0
def tw4266863556057391092:=0
def tw451527835235342570:=0
def tw5214714991600914886:=0
def tw5405966106534209685:=0
def tw5452220797434219632:=0
def tw5463416915252238144:=0
def tw5800955757461855537:=0
def tw5946229374182746811:=0
def tw5958970221510652224:=0
def tw6202926777203115294:=0
def tw674888848102960379:=0
def tw6764642485561778851:=0
def tw6892645167174025082:=0
def tw6937473371132897968:=0
def tw7052112077041335957:=0
def tw7091946526456725261:=0
def tw7146574585051996436:=0
def tw7495357525824673523:=0
def tw7725382948952236775:=0
def tw7983645497652564406:=0
def tw7998029185526231200:=0
def tw8079436305438029894:=0
def tw8178080521784549152:=0
def tw8507676572178230280:=0
def tw8617999961658137943:=0
def tw8641421476312468975:=0
def tw9423117715640377785:=0
def tw9518074179578733767:=0
def tw9698051043742351866:=0
def tw9779573740651949068:=0
def tw9939934781807203865:=0
def tw10407998520064104389:=0
def tw11075896637681941766:=0
def tw12423307700016792466:=0
def tw13246671176752909626:=0
def tw1333021198504367988:=0
def tw14495446428787991537:=0
def tw14948612419212074716:=0
def tw15226282262504002985:=0
def tw16196371181950945966:=0
def tw16826748394641368192:=0
def tw17039132818050585836:=0
def tw17215497655787215094:=0
def tw17320150435316093834:=0
def tw17805271011944542940:=0
def tw2674151972288266999:=0
def tw272151384522039089:=0
def tw2733765833946230123:=0
def tw2927557667402441367:=0
def tw2966831910308157229:=0
def tw3506709945782970169:=0
def tw3878492664931452713:=0
def tw3931708480249322241:=0
def tw4051791189913985491:=0
def tw442338865297943393:=0
def tw4694396406898097788:=0
def tw5226104045936716727:=0
def tw5965264558373572733:=0
def tw6884852622072090094:=0
def tw757192566946127700:=0
def tw7594478883521588119:=0
def tw8113508624318257972:=0
def tw8285296765659936026:=0
def tw8634471488052932261:=0
def tw9028936393220750506:=0
def tw10186937943009389197:=0
def tw11506673338412548351:=0
def tw12601072567906468049:=0
def tw12726737616090681376:=0
def tw13211390403914735238:=0
def tw13887629782100331793:=0
def tw16272838468817193807:=0
def tw164892684165306854:=0
def tw17088403658928756965:=0
def tw17183667711538870300:=0
def tw3528990020119834743:=0
def tw4102016472943442198:=0
def tw4648649622323416933:=0
def tw4808594269147976972:=0
def tw4813900061393189703:=0
def tw5475756992745856451:=0
def tw6548978356993849838:=0
def tw6753151584487233259:=0
def tw7121714717669283156:=0
def tw7818957330110893655:=0
def tw8131409448870175601:=0
def tw8271750492245491694:=0
def tw854895019706185212:=0
def tw8626097767079547785:=0
def tw9847322121122415535:=0
def tw11580915600316318627:=0
def tw1299381693479437263:=0
def tw1349536633283091630:=0
def tw1379015243793212417:=0
def tw14811057644315303471:=0
def tw15560641607502595561:=0
def tw16259658145437747277:=0
def tw16343702643861264589:=0
def tw17013724634401793518:=0
def tw17954777577406445936:=0
def tw1820029740404971384:=0
def tw1909626805963908851:=0
def tw4512636036963726640:=0
def tw6408287317557607727:=0
def tw6481780243193451317:=0
def tw921994788954941118:=0
def tw11338567190888781350:=0
def tw11373694436684340840:=0
def tw13530521410571504163:=0
def tw13731076703186085107:=0
def tw14426840736193057870:=0
def tw3503352348055953997:=0
def tw458462880056224395:=0
def tw7731865512337405281:=0
def tw8243875132249484581:=0
def tw10083448785104651079:=0
def tw11760718843589819957:=0
def tw12640873428146264833:=0
def tw13616040958850968092:=0
def tw1416059953889492101:=0
def tw15032363356956613662:=0
def tw1843815814589391639:=0
def tw4723482448312406470:=0
end PySem.W.Fast
open Array renaming getElem?_eq_some_iff->aG,getElem?_toList->aR,length_toList->fk,mem_toList_iff->gb,getElem?_eq_none_iff->iR,getD->ly,getElem?_eq_getElem->nF,toList->oW,toList_filterMap->pQ,toList_extract->rh,forIn_toList->tj,append_empty->tm
open Bool renaming false_ne_true->au,false_and->bo,and_eq_true->bA,and_false->dR,true_and->fg,false_eq_true->gV,eq_false_iff->jZ,not_eq_false'->mF,not_eq_true'->nh,and_true->rK,or_true->tf
open Classical renaming byContradiction->aZ
open False renaming elim->bR
open ForInStep renaming yield->gS
open Int renaming emod_lt_of_pos->fK,emod_nonneg->gR,toNat_of_nonneg->lJ,natAbs_natCast->mC,toNat_natCast->ng
open List renaming length_map->ο,size_toArray->χ,mem_cons_self->ψ,mem_cons_of_mem->ω,mem_cons->aa,length_cons->ak,length_append->ar,not_mem_nil->aF,getElem?_eq_some_iff->aN,range->aO,getElem?_map->aS,mem_map->aX,replicate->aY,mem_append_right->bq,getElem?_eq_getElem->bu,mem_append->bM,map_append->bN,append_nil->bO,all_eq_true->bT,mem_of_getElem?->bW,mem_range->cg,lookup_cons->cq,map_cons->cN,mem_singleton->cR,drop_eq_getElem_cons->cU,filterMap_cons->dy,getElem?_eq_none_iff->dD,length_take->dN,nil_append->ey,length_nil->eA,replicate_succ->eB,getElem?_append_right->eF,getElem?_append_left->eR,nodup_cons->eZ,length_range->fe,length_drop->fu,drop_eq_nil_of_le->fz,zip_cons_cons->fH,map_map->fI,lookup_append->fJ,of_mem_zip->fR,pairwise_iff_getElem->fX,getElem?_of_mem->fY,take_of_length_le->gX,length->gY,flatten_cons->hJ,length_singleton->ir,mem_of_mem_take->iF,mem_append_left->iG,getElem_mem->iH,map_congr_left->iV,toArray->jm,filterMap_map->jn,filterMap_cons_some->jo,getElem?_replicate->jI,getElem?_cons_succ->jJ,reverse_cons->jW,pairwise_map->jX,append_assoc->jY,range_succ_eq_map->ka,getElem?_set_self->kc,length_replicate->kD,pairwise_append->lh,length_zip->lj,head?_cons->ll,getElem?_set_ne->lp,eq_nil_of_length_eq_zero->lB,length_reverse->lI,pairwise_cons->mx,mem_filterMap->my,getD->mz,contains_cons->mB,take_sublist->m8,getElem?_take_of_lt->oN,drop_length->oO,cons_append->oP,all_map->oQ,pairwise_singleton->oX,length_eq_zero_iff->oY,lookup_nil->pf,length_set->pg,forIn_cons->pj,foldl_cons->pk,length_eq_one_iff->pN,filter_eq_nil_iff->pO,take_append_drop->qk,getElem?_toArray->ql,mem_of_mem_drop->ra,getElem_toArray->rb,map_take->rG,map_drop->rH,all_cons->rJ,length_zipWith->rM,getElem?_range->rN,filter_eq_self->rO,zip_nil_right->sW,map_filterMap->sX,getElem_range->sY,getElem?_drop->sZ,foldl->vk
open List.Pairwise renaming nil->m9,map->tX
open List.cons renaming inj->iQ,injEq->vm
open Nat renaming le_refl->Δ,zero_le->ax,le_trans->aK,ne_of_lt->bt,lt_of_lt_of_le->bz,lt_irrefl->cm,le_add_right->fq,add_sub_cancel->gQ,lt_succ_of_lt->g9,ne_of_gt->iq,lt_succ_self->kx,toDigits->lb,mod_lt->lg,succ_pos->oF,succ_le_succ->oG,min_self->oH,lt_trans->oI,le_of_not_lt->oJ,le_of_lt->oM,le_succ->pM,mul_le_mul_right->qZ
open Ne renaming symm->du
open Option renaming bind_some->iE,isSome_iff_exists->jk,map->qY,getD_none->uG
open Option.some renaming inj->ao
open Or renaming inr->qj,inl->sV
open PyProof.Rows renaming callWith_type1->cI,slot_tuple_getitem->cK,IntsAre->dv,split_pos->eD,split_le->ip,AllBare->jE,get?_update_seq->kZ,IsTup->lq,listUpdate_at->mS,SortKind->oB,seqEpoch_at->pK,boot_range->qU
open PyProof.Rows.F renaming plain_set_update_loop->fG,entry_set_update_loop->jj
open PySem renaming wpAny_bind->δ,Value->ε,Addr->ζ,Shared->θ,Str->ι,wpAny_pure->ν,wpAny->π,Expr->ρ,Program->Ω,Heap->af,sizeLine->ag,Spec->ah,World->aj,FuncData->ay,Around->aB,mainGlobals->aH,Pos->aJ,Obj->aL,Stmt->aV,wpAny_field->bp,starEach->br,SetTable->bC,wpAny_holding->bU,wpAny_call_entry->ck,wpAny_callSpecial?_slot->cy,wpAny_truthy_bool->cz,wpAny_newObj_type->cA,wpAny_mono->cH,Builtin->cO,sizeLine_eq->cS,Env->cV,wpAny_setState_of->da,wpAny_setField_rec->dk,wpAny_pyIter_tuple->dM,wpAny_seqItems->dO,wpAny_Call_Name_kw->eN,codeAny_mono->eV,codeAny_builtin->eW,call_meets->eX,Scope->eY,wpAny_pyIter_list->fb,wpAny_loadPart_at->fc,mem_of_lookup->fj,NameKind->ft,Tok->fE,wpAny_setField->gi,bootBuiltins->gp,IsPair->gs,wpAny_attempt->gD,wpAny_execs_nil->gN,wpAny_call->gO,CmpOp->gT,Sem->gZ,codeAny->ij,wpAny_forIn_list->iC,wpAny_execs_cons->iD,wpAny_newFunctionEnv_cells->iM,plainId_quiet->iN,wpAny_isSubtype_exc->iU,wpAny_passesOwn->iZ,wpAny_typeOf->jh,typeIs_str->jB,IsZip->ki,wpAny_isInstance->kv,codeAny_call_function->kC,wpAny_updateSeq_pair->kW,wpAny_rule->kX,wpAny_loadName_local->kY,codeAny_call_builtin->la,IsPart->ls,wpAny_of_eq->md,Model->me,wpAny_standAt->mQ,wpAny_onRaise->mR,slot_list_getitem->m3,wpAny_Name->nB,BindsTo->nM,wpAny_getItem_list_slice->oq,wpAny_askSetting->ou,noFill_tuple_add->oz,JoinOk->oR,codeAny_of_tree->pe,wpAny_newTuple->qc,isSubtype_type->qd,isSubtype_stop->qe,intText?->qf,SetTable->qi,Keyword->qm,wpAny_newList->rB,seq_tuple_add->rC,evalPart_none->rD,Fin->sT,PassesOwn->sU,call->vf
open PySem.Around renaming under_plainId->dS,frames_deeper->rj
open PySem.AutoSeq1 renaming sub_tuple_tuple->oV
open PySem.Builtin.Frozenset renaming slot0->o9
open PySem.Builtin.Int renaming intBits->iW
open PySem.Builtin.List renaming listTooLong->gw,listExtendWith->mE,listSameRef->oU
open PySem.Builtin.Range renaming rangeFields->dE,rangePlace?->i4,rangeSize->oZ
open PySem.Builtin.Slice renaming slicePlaces->fZ,sliceAdjust->i3,sliceApplied->mW
open PySem.Builtin.SmallTypes renaming nextOf->cC,ownedTupleIsFree->dQ,ownedTupleHandOut->jr
open PySem.Builtin.Str renaming occurrences->ba,partsBetween->gv,tooLong->rR,strKind->rS
open PySem.Builtin.Tuple renaming tupleExact->gu,tupleCompareSizes->kE,tupleItemsOf->mV
open PySem.Calls renaming spliced_cons->gU,Constant_str->jq,callWith_builtin->kf,Name_function_global->mU,evalArgs_plain->rg,spliced_nil->tZ
open PySem.Code renaming quiet_builtin->mD
open PySem.Data renaming cell->pq,fields->ub
open PySem.EntryCells renaming newEntry->rQ
open PySem.F renaming type_str_split->cE,slot_str_split->cF,type_str_join->eO,slot_str_join->eP,slot_range_contains->fF,args_tuple_add_2->ji,entry_tuple_add->jH,slot_tuple_add->j9,args_range_contains_2->lA,entry_range_contains->lW,type_list_append->oC,slot_list_append->oE
open PySem.Heap renaming get?_push_of_some->μ,lt_size->Φ,get?_push_size->Ψ,get?_update_other->bF,get?_update_self->bQ,size_push->dw,SameBut->eE,get?_none_of_le->e6,IsTuple->lu,IsList->pP,get?_push_cases->rf,get?_update_ne->rP,ExtBut->ua
open PySem.Heap.IsList renaming push->uH
open PySem.Heap.IsSliceOf renaming new->td
open PySem.Heap.IsTuple renaming push->tY
open PySem.Heap.SameBut renaming update->dz
open PySem.NameKind renaming free->cM,cell->rF
open PySem.Obj renaming mapSeq->bw,data_mapFields->dm,isFreed_of_fields->eQ,mapFields->fU,putSet->nE
open PySem.PassesOwn renaming never->ee
open PySem.SeqAt.EqAt renaming bool_bool->qX
open PySem.SeqAt.RcAt renaming lists_lengths->sS
open PySem.SetTable renaming insertAt->bI,grown->ik,below->il,sizeAbove->mv
open PySem.Shared renaming heap->gh,TypeIs->rE
open PySem.Str renaming ofString->aI,length_append->bH,join->fS,empty->gg,empty_append->gq,append_assoc->oA
open PySem.StrLaws renaming sumLen_le->m4,join_length_le->pL
open PySem.Value renaming ref->aQ,none->bf,bool->cB,isInt_shape->g8,builtin->iO,int->mr,type->nC,notImplemented->qV,str->sR,isInt->t9
open PySem.W renaming Frag->η,kitOne->aq,mg_of->aC,nsIn->aW,mg_none_of->bE,keepIn->bS,kia_one->dg,findIn->dP,fnOf->gr,callWith_K->gP,clsIn->iP,notCls->jC,codeIn->jD,cellsFrom_some->j8,kas_ask->lU,InstAt->lV,codeRec_of->mw,mroIn->mT,methodObj->m5,kitx_list->m6,typeIn->qg,lookIn->qh,looks_clsIn->rL,specialIn->tU,kitx_dict->tV,hasDictIn->tW,takesIn->vg,findObj->vh,OpenLaw->vj
open PySem.W.KasT renaming kasWp_bind->i0
open PySem.Within renaming cons->t8
open Sum renaming inr->nK,inl->nL
open True renaming intro->qW
namespace L2
open PySem PySem.Spec PyProof.Rows
abbrev Key:=Sum Int ι
def DT:Key->ε->Bool
 |.inl k,v=>t9 k v
 |.inr x,v=>ε.isStrOf x v
def WV(w:aj):Key->Int
 |.inl k=>hashInt k
 |.inr x=>hashStr w x
theorem qJ:∀{k:Key} {v:ε},DT k v=true->(∃i t,k=nL i/\v=mr i t)∨(∃x t,k=nK x/\v=sR x t)
 |.inl i,v,h=>by
  obtain⟨t,e⟩:=g8 (k:=i) (v:=v) h;exact .inl ⟨i,t,rfl,e⟩
 |.inr x,v,h=>by
  obtain⟨t,e⟩:=ε.isStrOf_shape (x:=x) (v:=v) h;exact .inr ⟨x,t,rfl,e⟩
theorem UY(a b:Int):decide ((nL a:Key)=nL b)=(a==b):=by
 by_cases e:a=b
 ·subst e;simp
 ·have h:¬(nL a:Key)=nL b:=fun q=>e (nL.inj q);rw[decide_eq_false h];exact (beq_eq_false_iff_ne.mpr e).symm
theorem UX(a b:ι):decide ((nK a:Key)=nK b)=decide (a=b):=by
 by_cases e:a=b
 ·subst e;simp
 ·have h:¬(nK a:Key)=nK b:=fun q=>e (nK.inj q);rw[decide_eq_false h,decide_eq_false e]
theorem UW(a:Int)(b:ι):decide ((nL a:Key)=nK b)=false:=decide_eq_false (fun q=>nomatch q)
theorem UU(a:ι)(b:Int):decide ((nK a:Key)=nL b)=false:=decide_eq_false (fun q=>nomatch q)
def vU(prog:Ω)(w:aj):PySem.KeyKind prog w Key where
 is:=DT
 hash:=WV w
 inj:=fun v a b ha hb=>by
  rcases qJ ha with⟨i,t,rfl,rfl⟩|⟨x,t,rfl,rfl⟩
  ·rcases qJ hb with⟨j,u,rfl,e⟩|⟨y,u,rfl,e⟩
   ·injection e with e1 _;rw[e1]
   ·exact nomatch e
  ·rcases qJ hb with⟨j,u,rfl,e⟩|⟨y,u,rfl,e⟩
   ·exact nomatch e
   ·injection e with e1 _;rw[e1]
 byValue:=fun k v h=>by
  rcases qJ h with⟨i,t,rfl,rfl⟩|⟨x,t,rfl,rfl⟩<;>rfl
 pyHash:=fun hv h=>by
  rcases qJ hv with⟨i,t,rfl,rfl⟩|⟨x,t,rfl,rfl⟩
  ·exact wpAny_pyHash_int h
  ·exact wpAny_pyHash_str h
 eqBool:=fun hu hv h=>by
  rcases qJ hu with⟨i,t,rfl,rfl⟩|⟨x,t,rfl,rfl⟩
  ·rcases qJ hv with⟨j,u,rfl,rfl⟩|⟨y,u,rfl,rfl⟩
   ·rw[UY] at h;exact wpAny_eqBool_int h
   ·rw[UW] at h;exact SeqAt.EqAt.int_str i t y u _ _ _ _ h
  ·rcases qJ hv with⟨j,u,rfl,rfl⟩|⟨y,u,rfl,rfl⟩
   ·rw[UU] at h;exact SeqAt.EqAt.str_int x t j u _ _ _ _ h
   ·rw[UX] at h;exact wpAny_eqBool_str h
 «strs»:=fun k x t v h=>by
  rcases qJ h with⟨i,u,rfl,e⟩|⟨y,u,rfl,e⟩
  ·exact nomatch e
  ·injection e with e1 _;subst e1;cases v<;>rfl
end L2
namespace L2
open PySem PySem.Spec PyProof.Rows
inductive V where
 |av|bl (b:Bool)|int (i:Int)|str (x:ι)|Bk (b:Array UInt8)|JQ (b:UInt64)|ref (a:ζ)|ty (n:String)
 deriving DecidableEq
def RelV:V->ε->Prop
 |.av,u=>u=bf
 |.bl b,u=>u=cB b
 |.int i,u=>∃t,u=mr i t
 |.str x,u=>∃t,u=sR x t
 |.Bk b,u=>∃t,u=ε.bytes b t
 |.JQ b,u=>∃t,u=ε.float b t
 |.ref a,u=>u=aQ a
 |.ty n,u=>u=nC n
abbrev aU:List V->List ε->Prop:=Paired RelV
theorem aU.length{xs:List V}{us:List ε}(r:aU xs us):xs.length=us.length:=Paired.length r
theorem aU.get:∀{xs:List V} {us:List ε} {i:Nat} {x:V},aU xs us->xs[i]?=some x->∃u,us[i]?=some u/\RelV x u
 |_,_,_,_,.nil,e=>by simp at e
 |_,_,0,_,.cons r _,e=>by simp at e;subst e;exact⟨_,rfl,r⟩
 |_,_,i+1,x,.cons _ t,e=>by
  obtain⟨u,h1,h2⟩:=aU.get (i:=i) (x:=x) t (by simpa using e);exact⟨u,by simpa using h1,h2⟩
theorem aU.set{x:V}{u:ε}(r:RelV x u):∀{xs:List V} {us:List ε} (i:Nat),aU xs us->aU (xs.set i x) (us.set i u)
 |_,_,_,.nil=>.nil
 |_,_,0,.cons _ t=>.cons r t
 |_,_,i+1,.cons q t=>.cons q (aU.set r i t)
theorem aU.append:∀{xs ys:List V} {us ws:List ε},aU xs us->aU ys ws->aU (xs++ys) (us++ws)
 |_,_,_,_,.nil,s=>s
 |_,_,_,_,.cons r t,s=>.cons r (aU.append t s)
theorem aU.take:∀{xs:List V} {us:List ε} (n:Nat),aU xs us->aU (xs.take n) (us.take n)
 |_,_,0,_=>.nil
 |_,_,_+1,.nil=>.nil
 |_,_,n+1,.cons r t=>.cons r (aU.take n t)
theorem aU.drop:∀{xs:List V} {us:List ε} (n:Nat),aU xs us->aU (xs.drop n) (us.drop n)
 |_,_,0,r=>r
 |_,_,_+1,.nil=>.nil
 |_,_,n+1,.cons _ t=>aU.drop n t
def qR:Option V->Option ε->Prop
 |some v,some u=>RelV v u
 |none,none=>True
 |_,_=>False
def KV{κ:Type}:List (κ×V)->List (κ×ε)->Prop:=Paired fun (p:κ×V) (q:κ×ε)=>p.1=q.1/\RelV p.2 q.2
def kV:Key->V
 |.inl i=>.int i
 |.inr x=>.str x
inductive HO where
 |lst (xs:List V)
 |tup (xs:List V)
 |dK (kvs:List (Key×V))|dT (kvs:List (List Key×V))
 |set (S:Int->Bool) (n:Nat)
 |ins (C dx:ζ) (fs:List (ι×V))
 |own (x:ζ)
 |xd (fs:List (ι×V))
 |met (f x:ζ)
 |AY (lo hi:Int)
 |cP (o:aL) (u:HO)
 |uI (ps:Array ε)
 |ext (φ:af->Prop)
abbrev Hp:=ζ->Option HO
def upd(H:Hp)(a:ζ)(o:HO):Hp:=fun b=>if b=a then some o else H b
theorem iJ{H:Hp}{a:ζ}{o:HO}:upd H a o a=some o:=by unfold upd;rw[if_pos rfl]
theorem dH{H:Hp}{a b:ζ}{o:HO}(h:b≠a):upd H a o b=H b:=by unfold upd;rw[if_neg h]
theorem lP{H:Hp}{a b:ζ}{o:HO}(h:H a=some o)(h':H b=none):a≠b:=by
 intro e;subst e;rw[h] at h';cases h'
def j7(h:af)(a:ζ)(items:Array ε):Prop:=∃o,h.get? a=some o/\o.cls=.type "tuple"/\(∃n,o.data=.seq items n)/\o.dict=none
theorem j7.tup{h:af}{a:ζ}{items:Array ε}(x:j7 h a items):lq h a items:=let ⟨o,h1,h2,h3,_⟩:=x;⟨o,h1,h2,h3⟩
theorem j7.new(h:af)(items:Array ε):j7 (h.push { cls:=.type "tuple",data:=.seq items }) h.objs.size items:=⟨_,Ψ _ rfl,rfl,⟨_,rfl⟩,rfl⟩
theorem j7.lt{h:af}{a:ζ}{items:Array ε}(x:j7 h a items):a<h.objs.size:=let ⟨_,ho,_⟩:=x;Φ ho
section
variable (P:Ω) (w:aj)
def bV(H:Hp)(h:af)(a:ζ):HO->Prop
 |.lst xs=>xs.length≤ag/\∃(its:List ε) (n:Nat),aU xs its/\h.get? a=some { cls:=.type "list",data:=.seq its.toArray n }
 |.tup xs=>xs.length≤ag/\∃its:List ε,aU xs its/\j7 h a its.toArray
 |.dK kvs=>kvs.length≤ag/\(a==sysModules)=false/\∃vs,KV kvs vs/\h.DictOf (vU P w) a vs
 |.dT kvs=>kvs.length≤ag/\(a==sysModules)=false/\∃xs:List (List Key×ζ×ε),
   Paired (fun (p:List Key×V) (q:List Key×ζ×ε)=>p.1=q.1/\H q.2.1=some (.tup (p.1.map kV))/\RelV p.2 q.2.2) kvs xs ∧
   ∃o es ep,h.get? a=some o/\o.ExactDict/\o.data=.dict es ep/\es.toList=xs.map (entryOfKey (tupleKind (vU P w)))/\(xs.map (·.1)).Nodup
 |.set S n=>h.SetOf (intKind P w) a S n
 |.ins C dx fs=>H dx=some (.own a)/\fs.length≤1000/\dx≠a/\h.get? a=some (PySem.W.instObj C dx) ∧
   ∃mA,h.Ns1 dx mA/\(∀f,qR (fs.lookup f) (mA f))/\PySem.Within mA (fs.map (·.1))
 |.own _=>∃o,h.get? a=some o
 |.xd fs=>∃mA,h.Ns1 a mA/\∀f,qR (fs.lookup f) (mA f)
 |.AY lo hi=>∃t u v,h.get? a=some { cls:=.type "range",data:=.fields #[.int lo t,.int hi u,.int 1 v]}
 |.cP o u=>h.get? a=some o/\bV H h a u
 |.uI ps=>h.get? a=some { cls:=.none,data:=.fields ps }
 |.met f x=>h.get? a=some (m5 (.ref f) (.ref x))
 |.ext φ=>φ h/\(∃o,h.get? a=some o)/\∀h1 h2:af,φ h1->(∀o,h1.get? a=some o->h2.get? a=some o)->φ h2
def dJ(H:Hp)(h:af):Prop:=∀a o,H a=some o->bV P w H h a o
end
section
variable {P:Ω} {w:aj} {H H':Hp} {h h':af} {a:ζ} {o:HO}
theorem bV.lt(x:bV P w H h a o):a<h.objs.size:=by
 cases o with
 |lst xs=>obtain⟨_,_,_,_,e⟩:=x;exact Φ e
 |tup xs=>obtain⟨_,_,_,p⟩:=x;exact p.lt
 |dK kvs=>obtain⟨_,_,_,_,o,_,_,e,_⟩:=x;exact Φ e
 |dT kvs=>obtain⟨_,_,_,_,o,_,_,e,_⟩:=x;exact Φ e
 |set S n=>obtain⟨o,_,_,_,e,_⟩:=x;exact Φ e
 |ins C dx fs=>obtain⟨_,_,_,e,_⟩:=x;exact Φ e
 |own y=>obtain⟨_,e⟩:=x;exact Φ e
 |xd fs=>obtain⟨_,⟨_,_,_,e,_⟩,_⟩:=x;exact Φ e
 |AY lo hi=>obtain⟨_,_,_,e⟩:=x;exact Φ e
 |cP ob u=>obtain⟨e,_⟩:=x;exact Φ e
 |uI ps=>exact Φ (show h.get? a=some _ from x)
 |met f y=>exact Φ (show h.get? a=some _ from x)
 |ext φ=>obtain⟨_,⟨_,e⟩,_⟩:=x;exact Φ e
theorem Paired.JE{α β:Type}{F G:α->β->Prop}:∀{l₁:List α} {l₂:List β},Paired F l₁ l₂->(∀a b,F a b->G a b)->Paired G l₁ l₂
 |_,_,.nil,_=>.nil
 |_,_,.cons r t,f=>.cons (f _ _ r) (Paired.JE t f)
theorem bV.km(x:bV P w H h a o)(k:∀b u,(b=a∨H b=some (.own a))->h.get? b=some u->h'.get? b=some u)
  (ho:∀b,H b=some (.own a)->H' b=some (.own a)) (ht:∀b xs,H b=some (.tup xs)->H' b=some (.tup xs)):bV P w H' h' a o:=by
 induction o with
 |lst xs=>obtain⟨z,its,n,r,e⟩:=x;exact⟨z,its,n,r,k _ _ (.inl rfl) e⟩
 |tup xs=>obtain⟨z,its,r,ob,e,c⟩:=x;exact⟨z,its,r,ob,k _ _ (.inl rfl) e,c⟩
 |dK kvs=>obtain⟨z,y,vs,r,ob,es,ep,e,c⟩:=x;exact⟨z,y,vs,r,ob,es,ep,k _ _ (.inl rfl) e,c⟩
 |dT kvs=>
  obtain⟨z,y,xs,r,ob,es,ep,e,c⟩:=x;exact⟨z,y,xs,Paired.JE r fun p q z=>⟨z.1,ht _ _ z.2.1,z.2.2⟩,ob,es,ep,k _ _ (.inl rfl) e,c⟩
 |set S n=>obtain⟨ob,es,ep,t,e,c⟩:=x;exact⟨ob,es,ep,t,k _ _ (.inl rfl) e,c⟩
 |ins C dx fs=>
  obtain⟨d,z,ne,e,mA,⟨od,es,ep,e2,c⟩,r⟩:=x;exact⟨ho _ d,z,ne,k _ _ (.inl rfl) e,mA,⟨od,es,ep,k _ _ (.inr d) e2,c⟩,r⟩
 |own y=>obtain⟨ob,e⟩:=x;exact⟨ob,k _ _ (.inl rfl) e⟩
 |xd fs=>obtain⟨mA,⟨od,es,ep,e,c⟩,r⟩:=x;exact⟨mA,⟨od,es,ep,k _ _ (.inl rfl) e,c⟩,r⟩
 |AY lo hi=>obtain⟨t,u,v,e⟩:=x;exact⟨t,u,v,k _ _ (.inl rfl) e⟩
 |cP ob u ih=>obtain⟨e,q⟩:=x;exact⟨k _ _ (.inl rfl) e,ih q⟩
 |uI ps=>
  have e:h.get? a=some { cls:=.none,data:=.fields ps }:=x;show h'.get? a=some { cls:=.none,data:=.fields ps };exact k a _ (.inl rfl) e
 |met f y=>
  have e:h.get? a=some (m5 (.ref f) (.ref y)):=x;show h'.get? a=some (m5 (.ref f) (.ref y));exact k a _ (.inl rfl) e
 |ext φ=>obtain⟨p,⟨o,e⟩,st⟩:=x;exact⟨st _ _ p fun o q=>k _ _ (.inl rfl) q,⟨o,k _ _ (.inl rfl) e⟩,st⟩
theorem dJ.lt(x:dJ P w H h)(e:H a=some o):a<h.objs.size:=(x a o e).lt
theorem dJ.fresh(x:dJ P w H h)(e:h.objs.size≤a):H a=none:=by
 cases q:H a with
 |none=>rfl
 |some u=>exact absurd (bz (x.lt q) e) (cm _)
theorem dJ.kept(x:dJ P w H h)(k:∀b u,h.get? b=some u->h'.get? b=some u):dJ P w H h':=fun a o e=>
 (x a o e).km (fun b u _ q=>k b u q) (fun _ q=>q) fun _ _ q=>q
theorem dJ.laid(x:dJ P w H h)(k:∀b u,h.get? b=some u->h'.get? b=some u)(hp:h.objs.size≤a)(new:bV P w (upd H a o) h' a o):dJ P w (upd H a o) h':=fun b u e=>by
 have hn:=x.fresh hp;by_cases hb:b=a
 ·subst hb;rw[iJ] at e;cases e;exact new
 ·rw[dH hb] at e;exact (x b u e).km (fun c v _ q=>k c v q) (fun c q=>by rw[dH (lP q hn)];exact q) fun c xs q=>by rw[dH (lP q hn)];exact q
end
def Rd(H:Hp)(a:ζ)(u:HO):Prop:=H a=some u∨∃o,H a=some (.cP o u)
theorem Rd.ok{P:Ω}{w:aj}{H:Hp}{h:af}{a:ζ}{u:HO}(r:Rd H a u)(x:dJ P w H h):bV P w H h a u:=by
 rcases r with r|⟨o,r⟩
 ·exact x a u r
 ·obtain⟨_,q⟩:=x a _ r;exact q
def D7:Option HO->Prop
 |some (.lst _)=>True
 |some (.dK _)=>True
 |some (.dT _)=>True
 |some (.set _ _)=>True
 |some (.ins _ _ _)=>True
 |some (.ext _)=>True
 |_=>False
section
variable {P:Ω} {w:aj} {H:Hp} {h h':af} {x e:ζ} {o':HO}
theorem dJ.write(ok:dJ P w H h)(mu:D7 (H x))(he:e=x∨H e=some (.own x))(k:∀b u,b≠e->h.get? b=some u->h'.get? b=some u)(heo:∃u,h'.get? e=some u)
  (new:bV P w (upd H x o') h' x o'):dJ P w (upd H x o') h':=fun b u q=>by
 have nown:∀c y,H c=some (.own y)->c≠x:=fun c y r z=>by subst z;rw[r] at mu;exact mu
 have ntup:∀c xs,H c=some (.tup xs)->c≠x:=fun c xs r z=>by subst z;rw[r] at mu;exact mu
 by_cases hb:b=x
 ·subst hb;rw[iJ] at q;cases q;exact new
 ·rw[dH hb] at q;by_cases hbe:b=e
  ·have q':H b=some (.own x):=by
    rcases he with z|z
    ·exact absurd (hbe.trans z) hb
    ·rw[hbe];exact z
   rw[q] at q';cases q';obtain⟨v,hv⟩:=heo;exact⟨v,by rw[hbe];exact hv⟩
  ·refine (ok b u q).km (fun c v hc r=>k c v ?_ r) (fun c r=>by rw[dH (nown c b r)];exact r) fun c xs r=>by rw[dH (ntup c xs r)];exact r
   rcases hc with rfl|hc
   ·exact hbe
   ·rintro rfl;rcases he with z|z
    ·exact nown c b hc z
    ·rw[hc] at z;cases z;exact hb rfl
end
structure Un(fs ex:List ζ)(H H':Hp)(h h':af):Prop where
 keep:∀b o,h.get? b=some o->H b=none->b∉fs->b∉ex->h'.get? b=some o
 slot:∀b o,h.get? b=some o->H b=none->b∈fs->b∉ex->∃sl,h'.get? b=some { o with slots:=sl }
 free:∀b o,h.get? b=some o->H b=none->b∉ex->H' b=none
 there:∀b o,h.get? b=some o->b∉ex->∃o',h'.get? b=some o'
 hV:∀b xs,H b=some (.tup xs)->H' b=some (.tup xs)
 hZ:∀b o u,H b=some (.cP o u)->H' b=some (.cP o u)
 mG:∀b ps,H b=some (.uI ps)->∃more,H' b=some (.uI (ps++more))
section
variable {fs fs' ex ex':List ζ} {H H1 H2:Hp} {h h1 h2 h':af} {a x e:ζ} {o:HO}
theorem Un.any(u:Un fs ex H H1 h h1){b:ζ}{ob:aL}(q:h.get? b=some ob)(n:H b=none)(hx:b∉ex):∃sl,h1.get? b=some { ob with slots:=sl }:=by
 by_cases hb:b∈fs
 ·exact u.slot b ob q n hb hx
 ·exact⟨ob.slots,u.keep b ob q n hb hx⟩
theorem Un.kept(k:∀b u,h.get? b=some u->h'.get? b=some u):Un fs ex H H h h':=
 ⟨fun b ob q _ _ _=>k b ob q,fun b ob q _ _ _=>⟨ob.slots,k b ob q⟩,fun _ _ _ n _=>n,fun b ob q _=>⟨ob,k b ob q⟩,fun _ _ q=>q,fun _ _ _ q=>q,fun _ ps q=>⟨#[],by rw[q];simp⟩⟩
theorem Un.refl:Un fs ex H H h h:=Un.kept fun _ _ q=>q
theorem Un.laid(k:∀b u,h.get? b=some u->h'.get? b=some u)(hp:h.objs.size≤a)(hn:H a=none):Un fs ex H (upd H a o) h h' where
 keep:=fun b u q _ _ _=>k b u q
 slot:=fun b u q _ _ _=>⟨u.slots,k b u q⟩
 free:=fun b u q n _=>by rw[dH (bt (bz (Φ q) hp))];exact n
 there:=fun b u q _=>⟨u,k b u q⟩
 hV:=fun b xs q=>by rw[dH (lP q hn)];exact q
 hZ:=fun b u xs q=>by rw[dH (lP q hn)];exact q
 mG:=fun b ps q=>⟨#[],by rw[dH (lP q hn),q];simp⟩
theorem Un.write(mu:D7 (H x))(he:e=x∨H e=some (.own x))(k:∀b u,b≠e->h.get? b=some u->h'.get? b=some u)(heo:∃u,h'.get? e=some u):Un fs ex H (upd H x o) h h':=by
 have hx:∀b,H b=none->b≠x:=fun b n z=>by subst z;rw[n] at mu;exact mu
 have hb:∀b,H b=none->b≠e:=fun b n z=>by
  subst z;rcases he with r|r
  ·exact hx b n r
  ·rw[n] at r;cases r
 have hm:∀b u,H b=some u->¬D7 (some u)->b≠x:=fun b u q nm z=>by subst z;rw[q] at mu;exact nm mu
 refine⟨fun b u q n _ _=>k b u (hb b n) q,fun b u q n _ _=>⟨u.slots,k b u (hb b n) q⟩,fun b u q n _=>by rw[dH (hx b n)];exact n,fun b u q _=>?_,
  fun b xs q=>by rw[dH (hm b _ q fun z=>z)];exact q,fun b u xs q=>by rw[dH (hm b _ q fun z=>z)];exact q,fun b ps q=>⟨#[],by rw[dH (hm b _ q fun z=>z),q];simp⟩⟩
 by_cases hbe:b=e
 ·subst hbe;exact heo
 ·exact⟨u,k b u hbe q⟩
end
def mX(h:af)(H:Hp):List ζ:=(aO h.objs.size).filter fun a=>(H a).isSome
def qM(h:af)(H:Hp):af:=PySem.W.hideAll h (mX h H)
theorem UT(h:af)(H:Hp):(qM h H).objs.size=h.objs.size:=PySem.W.hideAll_size _ _
theorem US{h:af}{H:Hp}{b:ζ}{o:aL}(e:h.get? b=some o)(n:H b=none):(qM h H).get? b=some o:=
 PySem.W.hideAll_get _ e fun hm=>by
  have q:(H b).isSome=true:=(List.mem_filter.mp hm).2;rw[n] at q;simp at q
theorem UR{h:af}{H:Hp}{b:ζ}{o:aL}(e:(qM h H).get? b=some o):h.get? b=some o/\H b=none:=by
 have e':h.get? b=some o:=PySem.W.of_hideAll (mX h H) e;refine⟨e',?_⟩;cases q:H b with
 |none=>rfl
 |some x=>
  have hm:b∈mX h H:=List.mem_filter.mpr ⟨cg.mpr (Φ e'),by simp[q]⟩;have z:(qM h H).get? b=none:=PySem.W.hideAll_none (mX h H) hm;rw[z] at e;cases e
end L2
namespace L2
open PySem PySem.Spec PyProof.Rows
structure Mod(K:η)(mg:ι->Option ε)(base:af):Prop where
 sx:K.In base
 glob:base.Ns aH mg
 blt:∃mb,base.Ns builtinsNs mb/\∀x:ι,x≠"__name__"->mb x=gp x
 nolimit:base.NoLimit
structure Cx where
 prog:Ω
 w:aj
 K:η
 mg:ι->Option ε
 base:af
 A:aB
 N:List ι
 s₀:θ
 H₀:Hp
 env:cV
 outer:List cV
 stack:List cV
 ex:List ζ
 fn:ι->Bool
 calm:Bool
 pn:List (ζ×aL)
 xe:ε->θ->Prop
def fx(l:List cV):List ζ:=l.filterMap (·.frame)
abbrev Cx.fs(X:Cx):List ζ:=fx X.outer
def JX(sc:eY)(x:ι):Prop:=sc.names.lookup x=some .local∨sc.names.lookup x=some .cell∨sc.names.lookup x=some .free
def Loc(sc:eY)(x:ι):Prop:=sc.names.lookup x=some .local∨sc.names.lookup x=some .cell
def Look(env:cV)(h:af)(m:ι->Option ε)(x:ι)(u:ε):Prop:=
 (env.kindOf x=some .local/\m x=some u)∨((env.kindOf x=some .cell∨env.kindOf x=some .free)/\∃c,env.cells.lookup x=some c/\h.IsCell c (some u))
structure Cx.Ok(X:Cx):Prop where
 mod:Mod X.K X.mg X.base
 kind:X.env.scope.kind=.function
 glob:X.env.globals=aH
 blt:X.env.builtins=builtinsNs
 above:X.s₀.heap.objs.size≤X.env.locals
 inj:∀x y c,X.env.cells.lookup x=some c->X.env.cells.lookup y=some c->x=y
 has:∀x,(X.env.kindOf x=some .cell∨X.env.kindOf x=some .free)->∃c,X.env.cells.lookup x=some c
 yx:∀x c,X.fn x=true->X.env.cells.lookup x=some c->X.s₀.heap.objs.size≤c
 hd:X.calm=true->X.A.handled=none
 frames:X.A.frames=some X.stack
 AQ:X.stack=X.outer∨(X.stack=X.env::X.outer/\X.env.frame=some X.env.locals)
 Be:∀b∈X.ex,b≠X.env.locals/\∀x c,X.env.cells.lookup x=some c->c≠b
 bs:∀b o,X.base.get? b=some o->X.s₀.heap.get? b=some o/\X.H₀ b=none
 rA:X.base.objs.size≤X.s₀.heap.objs.size
 uz:∀b o,X.base.get? b=some o->b∉X.ex
 vY:∀b∈X.ex,b∉X.fs
 kO:X.s₀.heap.FunFrames X.base X.outer
 wa:∀b∈X.fs,X.H₀ b=none
structure Inv(X:Cx)(pins:List (ζ×aL))(σ:List (Option V))(H:Hp)(s:θ):Prop where
 ok:X.Ok
 os:s.os=X.s₀.os
 bare:jE s.gens
 base:Un X.fs X.ex X.H₀ H X.s₀.heap s.heap
 loc:∃m,s.heap.Ns X.env.locals m/\∀(i:Nat) (x:ι) (v:V),X.N[i]?=some x->σ[i]?=some (some v)->JX X.env.scope x->∃u,RelV v u/\Look X.env s.heap m x u
 cell:∀x c,X.env.cells.lookup x=some c->∃v,s.heap.IsCell c v
 free:H X.env.locals=none
 jx:∀x c,X.env.cells.lookup x=some c->H c=none
 pin:∀p∈X.pn++pins,s.heap.get? p.1=some p.2/\H p.1=none/\p.1≠X.env.locals/\p.1∉X.fs/\∀v,p.2.data≠.cell v
 bx:dJ X.prog X.w H s.heap
 len:σ.length=X.N.length
section
variable {X:Cx} {pins:List (ζ×aL)} {σ:List (Option V)} {H H':Hp} {s:θ} {h':af}
theorem Cx.Ok.WG(ok:X.Ok){b:ζ}{o:aL}(e:X.base.get? b=some o):b∉X.fs:=fun hb=>by
 have:=(ok.kO.mem hb).1;rw[e] at this;cases this
theorem Inv.bs(I:Inv X pins σ H s):∀b o,X.base.get? b=some o->s.heap.get? b=some o/\H b=none:=fun b o e=>
 ⟨I.base.keep b o (I.ok.bs b o e).1 (I.ok.bs b o e).2 (I.ok.WG e) (I.ok.uz b o e),I.base.free b o (I.ok.bs b o e).1 (I.ok.bs b o e).2 (I.ok.uz b o e)⟩
theorem Inv.bk(I:Inv X pins σ H s):∀b o,X.base.get? b=some o->s.heap.get? b=some o:=fun b o e=>(I.bs b o e).1
theorem Inv.mod(I:Inv X pins σ H s):Mod X.K X.mg X.base:=I.ok.mod
theorem Inv.gI(I:Inv X pins σ H s):X.K.In s.heap:=I.ok.mod.sx.keeps I.bk
theorem Inv.nolimit(I:Inv X pins σ H s):s.heap.NoLimit:=I.ok.mod.nolimit.keeps I.bk
theorem Inv.lt(I:Inv X pins σ H s):X.env.locals<s.heap.objs.size:=let ⟨_,hn,_⟩:=I.loc;hn.lt
theorem Inv.sz(I:Inv X pins σ H s):X.s₀.heap.objs.size≤s.heap.objs.size:=aK I.ok.above (oM I.lt)
theorem Inv.WE(I:Inv X pins σ H s){a:ζ}(h:s.heap.objs.size≤a):a∉X.fs:=fun hb=>by
 obtain⟨_,o,ho,_⟩:=I.ok.kO.mem hb;exact absurd (bz (Φ ho) (aK I.sz h)) (cm _)
theorem Inv.wb(I:Inv X pins σ H s):∀x c,X.env.cells.lookup x=some c->c≠X.env.locals:=fun x c e z=>by
 obtain⟨v,o,ho,hd⟩:=I.cell x c e;obtain⟨m,⟨o',es,ep,ho',hd',_⟩,_⟩:=I.loc;rw[z,ho'] at ho;cases ho;rw[hd'] at hd;cases hd
theorem Inv.kO(I:Inv X pins σ H s):s.heap.FunFrames X.base X.outer:=by
 have all:∀(l:List cV),(∀b∈fx l,b∈X.fs)->X.s₀.heap.FunFrames X.base l->s.heap.FunFrames X.base l:=by
  intro l
  induction l with
  |nil=>intro _ _;trivial
  |cons env r ih=>
   intro hs hl;obtain⟨hk,⟨L,o,hf,hn,ho,hd⟩,hr⟩:=hl;have hL:L∈X.fs:=hs L (by unfold fx;rw[dy,hf];exact ψ);obtain⟨sl,e⟩:=I.base.slot L o ho (I.ok.wa L hL) hL fun z=>I.ok.vY L z hL;exact⟨hk,⟨L,_,hf,hn,e,hd⟩,ih (fun b hb=>hs b (by unfold fx;rw[dy,hf];exact ω _ hb)) hr⟩
 exact all X.outer (fun _ hb=>hb) I.ok.kO
theorem Inv.stack(I:Inv X pins σ H s):s.heap.FunFrames X.base X.stack:=by
 rcases I.ok.AQ with e|⟨e,hf⟩
 ·rw[e];exact I.kO
 ·rw[e];obtain⟨m,hn,_⟩:=I.loc;refine .cons (by rw[I.ok.kind];decide) hf hn ?_ I.kO;exact e6 (aK I.ok.rA I.ok.above)
theorem Inv.rX(I:Inv X pins σ H s):∀b∈fx X.stack,b∈X.env.locals::X.fs:=fun b hb=>by
 rcases I.ok.AQ with e|⟨e,hf⟩
 ·rw[e] at hb;exact ω _ hb
 ·rw[e] at hb;unfold fx at hb;rw[dy,hf] at hb;exact hb
theorem Inv.gB(I:Inv X pins σ H s):∀b∈fx X.stack,H b=none:=fun b hb=>by
 rcases aa.mp (I.rX b hb) with e|hb
 ·rw[e];exact I.free
 ·obtain⟨_,o,ho,_⟩:=I.ok.kO.mem hb;exact I.base.free b o ho (I.ok.wa b hb) fun z=>I.ok.vY b z hb
theorem Inv.step{g':Array GenState}{t':Nat}{d':Drawn}{ch:List ζ}(I:Inv X pins σ H s)
  (rq:∀b∈ch,(b∈X.ex∨X.s₀.heap.objs.size≤b)/\b≠X.env.locals/\(∀x c,X.env.cells.lookup x=some c->c≠b)/\∀p∈X.pn++pins,p.1≠b)
  (keep:∀b o,b≠X.env.locals->b∉X.fs->b∉ch->s.heap.get? b=some o->H b=none->h'.get? b=some o)
  (slot:∀b o,b≠X.env.locals->b∈X.fs->b∉ch->s.heap.get? b=some o->H b=none->∃sl,h'.get? b=some { o with slots:=sl }) (free:∀b o,b∉ch->s.heap.get? b=some o->H b=none->H' b=none)
  (there:∀b o,b∉ch->s.heap.get? b=some o->∃o',h'.get? b=some o')
  (hV:∀b xs,H b=some (.tup xs)->H' b=some (.tup xs)) (hZ:∀b o u,H b=some (.cP o u)->H' b=some (.cP o u)) (mG:∀b ps,H b=some (.uI ps)->∃more,H' b=some (.uI (ps++more)))
  (ns:∀m,s.heap.Ns X.env.locals m->h'.Ns X.env.locals m) (bx:dJ X.prog X.w H' h') (hg:jE g'):
  Inv X pins σ H' { s with heap:=h',gens:=g',drawn:=d',toks:=t' }:=by
 have neL:∀b o,X.s₀.heap.get? b=some o->b≠X.env.locals:=fun b o e=>bt (bz (Φ e) I.ok.above);have neC:∀b o,X.s₀.heap.get? b=some o->b∉X.ex->b∉ch:=fun b o e hx hb=>by
  rcases (rq b hb).1 with z|z
  ·exact hx z
  ·exact absurd (bz (Φ e) z) (cm _)
 have cellK:∀x c,X.env.cells.lookup x=some c->∀v,s.heap.IsCell c v->h'.IsCell c v:=fun x c e v ⟨o,ho,hd⟩=>by
  have nch:c∉ch:=fun z=>(rq c z).2.2.1 x c e rfl;by_cases hc:c∈X.fs
  ·obtain⟨sl,q⟩:=slot c o (I.wb x c e) hc nch ho (I.jx x c e);exact⟨_,q,hd⟩
  ·exact⟨o,keep c o (I.wb x c e) hc nch ho (I.jx x c e),hd⟩
 refine⟨I.ok,I.os,hg,⟨fun b o e n hb hx=>?_,fun b o e n hb hx=>?_,fun b o e n hx=>?_,fun b o e hx=>?_,fun b xs e=>hV b xs (I.base.hV b xs e),fun b o xs e=>hZ b o xs (I.base.hZ b o xs e),fun b ps e=>?_⟩,?_,fun x c e=>?_,?_,fun x c e=>?_,fun p hp=>?_,bx,I.len⟩
 ·exact keep b o (neL b o e) hb (neC b o e hx) (I.base.keep b o e n hb hx) (I.base.free b o e n hx)
 ·obtain⟨sl,e1⟩:=I.base.slot b o e n hb hx;obtain⟨sl',e2⟩:=slot b _ (neL b o e) hb (neC b o e hx) e1 (I.base.free b o e n hx);exact⟨sl',e2⟩
 ·obtain⟨o',e1⟩:=I.base.there b o e hx;exact free b o' (neC b o e hx) e1 (I.base.free b o e n hx)
 ·obtain⟨o',e1⟩:=I.base.there b o e hx;exact there b o' (neC b o e hx) e1
 ·obtain⟨m1,e1⟩:=I.base.mG b ps e;obtain⟨m2,e2⟩:=mG b _ e1;exact⟨m1++m2,by rw[e2,Array.append_assoc]⟩
 ·obtain⟨m,hn,hl⟩:=I.loc;refine⟨m,ns m hn,fun i x v e1 e2 e3=>?_⟩;obtain⟨u,r,l⟩:=hl i x v e1 e2 e3;refine⟨u,r,?_⟩;rcases l with l|⟨k,c,e,z⟩
  ·exact .inl l
  ·exact .inr ⟨k,c,e,cellK x c e _ z⟩
 ·obtain⟨v,z⟩:=I.cell x c e;exact⟨v,cellK x c e v z⟩
 ·obtain⟨m,⟨o,_,_,ho,_⟩,_⟩:=I.loc;exact free _ o (fun z=>(rq _ z).2.1 rfl) ho I.free
 ·obtain⟨v,o,ho,hd⟩:=I.cell x c e;exact free c o (fun z=>(rq c z).2.2.1 x c e rfl) ho (I.jx x c e)
 ·obtain⟨e,n,ne,nf,d⟩:=I.pin p hp;have nch:p.1∉ch:=fun z=>(rq p.1 z).2.2.2 p hp rfl;exact⟨keep p.1 p.2 ne nf nch e n,free p.1 p.2 nch e n,ne,nf,d⟩
theorem Inv.un{t':Nat}(I:Inv X pins σ H s)(u:Un X.fs [] H H' s.heap h')(bx:dJ X.prog X.w H' h'):Inv X pins σ H' { s with heap:=h',toks:=t' }:=by
 obtain⟨m,⟨o,es,ep,ho,r⟩,_⟩:=id I.loc;obtain⟨sl,hL⟩:=u.any ho I.free (by simp);exact I.step (g':=s.gens) (d':=s.drawn) (ch:=[]) (fun _ z=>nomatch z) (fun b o _ hb _ e n=>u.keep b o e n hb (by simp)) (fun b o _ hb _ e n=>u.slot b o e n hb (by simp)) (fun b o _ e n=>u.free b o e n (by simp)) (fun b o _ e=>u.there b o e (by simp)) u.hV u.hZ u.mG (fun m' hm=>by
  obtain⟨o',es',ep',ho',r'⟩:=hm;rw[ho] at ho';cases ho';exact⟨_,es',ep',hL,r'⟩) bx I.bare
theorem Inv.call{g':Array GenState}{t':Nat}{d':Drawn}{ch:List ζ}(I:Inv X pins σ H s)(u:Un (fx X.stack) ch H H' s.heap h')(bx:dJ X.prog X.w H' h')(hg:jE g')
  (rq:∀b∈ch,(b∈X.ex∨X.s₀.heap.objs.size≤b)/\b≠X.env.locals/\(∀x c,X.env.cells.lookup x=some c->c≠b)/\∀p∈X.pn++pins,p.1≠b):
  Inv X pins σ H' { s with heap:=h',gens:=g',drawn:=d',toks:=t' }:=by
 obtain⟨m,⟨o,es,ep,ho,r⟩,_⟩:=id I.loc;obtain⟨sl,hL⟩:=u.any ho I.free fun z=>(rq _ z).2.1 rfl;exact I.step (ch:=ch) rq (fun b o hL hb hc e n=>u.keep b o e n (fun z=>(aa.mp (I.rX b z)).elim hL hb) hc) (fun b o _ _ hc e n=>u.any e n hc) (fun b o hc e n=>u.free b o e n hc) (fun b o hc e=>u.there b o e hc) u.hV u.hZ u.mG (fun m' hm=>by
  obtain⟨o',es',ep',ho',r'⟩:=hm;rw[ho] at ho';cases ho';exact⟨_,es',ep',hL,r'⟩) bx hg
theorem Inv.turned{t':Nat}{it:ζ}(I:Inv X pins σ H s)(k:∀b o,b≠it->s.heap.get? b=some o->h'.get? b=some o)(hn:H it=none)(hL:it≠X.env.locals)
  (h1:it∈X.ex∨X.s₀.heap.objs.size≤it) (h2:∀x c,X.env.cells.lookup x=some c->c≠it) (h3:∀p∈X.pn++pins,p.1≠it):Inv X pins σ H { s with heap:=h',toks:=t' }:=by
 have nit:∀b u,H b=some u->b≠it:=fun b u e z=>by rw[z,hn] at e;cases e
 refine I.step (g':=s.gens) (d':=s.drawn) (ch:=[it]) (fun b hb=>?_) (fun b o _ _ hc e _=>k b o (fun z=>hc (by simp[z])) e) (fun b o _ _ hc e _=>⟨o.slots,k b o (fun z=>hc (by simp[z])) e⟩) (fun _ _ _ _ n=>n)
  (fun b o hc e=>⟨o,k b o (fun z=>hc (by simp[z])) e⟩) (fun _ _ e=>e) (fun _ _ _ e=>e) (fun b ps e=>⟨#[],by rw[e];simp⟩) (fun m hm=>?_) (fun b u e=>?_) I.bare
 ·have e:b=it:=by simpa using hb
  subst e;exact⟨h1,hL,h2,h3⟩
 ·obtain⟨o,es,ep,ho,r⟩:=hm;exact⟨o,es,ep,k _ o (du hL) ho,r⟩
 ·refine (I.bx b u e).km (fun c v hc q=>k c v ?_ q) (fun _ q=>q) fun _ _ q=>q;rcases hc with z|z
  ·rw[z];exact nit b u e
  ·exact nit c _ z
theorem Inv.tok(I:Inv X pins σ H s)(t:Nat):Inv X pins σ H { s with toks:=t }:=I.un (h':=s.heap) (t':=t) Un.refl I.bx
theorem Inv.kept{t':Nat}(I:Inv X pins σ H s)(k:∀b u,s.heap.get? b=some u->h'.get? b=some u):Inv X pins σ H { s with heap:=h',toks:=t' }:=I.un (Un.kept k) (I.bx.kept k)
theorem Inv.laid{a:ζ}{o:HO}{t':Nat}(I:Inv X pins σ H s)(k:∀b u,s.heap.get? b=some u->h'.get? b=some u)(hp:s.heap.objs.size≤a)(new:bV X.prog X.w (upd H a o) h' a o):
  Inv X pins σ (upd H a o) { s with heap:=h',toks:=t' }:=I.un (Un.laid k hp (I.bx.fresh hp)) (I.bx.laid k hp new)
theorem Inv.write{x e:ζ}{o:HO}{t':Nat}(I:Inv X pins σ H s)(mu:D7 (H x))(he:e=x∨H e=some (.own x))(k:∀b u,b≠e->s.heap.get? b=some u->h'.get? b=some u)(heo:∃u,h'.get? e=some u)
  (new:bV X.prog X.w (upd H x o) h' x o):Inv X pins σ (upd H x o) { s with heap:=h',toks:=t' }:=I.un (Un.write mu he k heo) (I.bx.write mu he k heo new)
theorem Inv.yq{pins':List (ζ×aL)}(I:Inv X pins σ H s)(h:∀p∈pins',s.heap.get? p.1=some p.2/\H p.1=none/\p.1≠X.env.locals/\p.1∉X.fs/\∀v,p.2.data≠.cell v):Inv X pins' σ H s:=
 ⟨I.ok,I.os,I.bare,I.base,I.loc,I.cell,I.free,I.jx,fun p hp=>(bM.mp hp).elim (fun z=>I.pin p (iG _ z)) (h p),I.bx,I.len⟩
theorem Ji{N:List ι}(hN:N.Nodup){i j:Nat}{x:ι}(a:N[i]?=some x)(b:N[j]?=some x):i=j:=by
 obtain⟨h1,e1⟩:=aN.mp a;obtain⟨h2,e2⟩:=aN.mp b;exact (List.getElem_inj hN).mp (e1.trans e2.symm)
theorem Jh{M:me}{A:aB}{E:ε->θ->Prop}{i:Nat}{x:ι}{v:V}{u:ε}{Q:Unit->θ->Prop}(I:Inv X pins σ H s)(hN:X.N.Nodup)(hi:X.N[i]?=some x)(hx:Loc X.env.scope x)(r:RelV v u)
  (h:∀s',Inv X pins (σ.set i (some v)) H s'->(∃a,eE a s.heap s'.heap/\(a=X.env.locals∨X.env.cells.lookup x=some a))->Q () s') (hf:X.fn x=true∨X.env.scope.names.lookup x=some .local:=by first|exact .inl rfl|exact .inr rfl|assumption):π M A (storeName X.env x u) Q E s:=by
 obtain⟨m,hn,hl⟩:=id I.loc;have hcls:(X.env.scope.kind==.class||(X.env.scope.kind==.module&&X.env.locals != X.env.globals))=false:=by rw[I.ok.kind];rfl
 have hiσ:i<σ.length:=by rw[I.len];exact (aN.mp hi).1
 have wb:=I.wb;have tracked:∀{a:ζ} {h':af},(∃o,s.heap.get? a=some o/\H a=none)->eE a s.heap h'->dJ X.prog X.w H h':=fun {a h'} ha hs b ob e=>by
  obtain⟨_,_,hfree⟩:=ha;refine (I.bx b ob e).km (fun c w' hc q=>(hs.2 c ?_).trans q) (fun _ q=>q) fun _ _ q=>q;rintro rfl;rcases hc with rfl|hc
  ·rw[hfree] at e;cases e
  ·rw[hfree] at hc;cases hc
 rcases hx with hk|hk
 ·refine wpAny_storeName_local hk hn (fun h' hn' hs=>?_) hcls;obtain⟨oL,_,_,hoL,_⟩:=id hn;refine h _ ⟨I.ok,I.os,I.bare,⟨fun b o e n hb hx=>?_,fun b o e n hb hx=>?_,I.base.free,fun b o e hx=>?_,I.base.hV,I.base.hZ,I.base.mG⟩,⟨_,hn',fun j y v' e1 e2 e3=>?_⟩,fun y c e=>?_,I.free,I.jx,fun p hp=>?_,tracked ⟨oL,hoL,I.free⟩ hs,by simpa using I.len⟩ ⟨_,hs,.inl rfl⟩
  ·exact (hs.2 b (bt (bz (Φ e) I.ok.above))).trans (I.base.keep b o e n hb hx)
  ·obtain⟨sl,e1⟩:=I.base.slot b o e n hb hx;exact⟨sl,(hs.2 b (bt (bz (Φ e) I.ok.above))).trans e1⟩
  ·obtain⟨o',e1⟩:=I.base.there b o e hx;exact⟨o',(hs.2 b (bt (bz (Φ e) I.ok.above))).trans e1⟩
  ·by_cases hj:j=i
   ·subst hj;rw[hi] at e1;cases e1;rw[kc hiσ] at e2;cases e2;exact⟨u,r,.inl ⟨hk,by simp⟩⟩
   ·rw[lp (du hj)] at e2;obtain⟨u',r',q⟩:=hl j y v' e1 e2 e3;refine⟨u',r',?_⟩;rcases q with⟨k,e⟩|⟨k,c,e,z⟩
    ·refine .inl ⟨k,?_⟩;have:y≠x:=fun e=>hj (Ji hN e1 (e▸hi));simp[this,e]
    ·exact .inr ⟨k,c,e,z.sameBut hs (wb y c e)⟩
  ·obtain⟨w',z⟩:=I.cell y c e;exact⟨w',z.sameBut hs (wb y c e)⟩
  ·obtain⟨e,n,ne,nf,d⟩:=I.pin p hp;exact⟨(hs.2 p.1 ne).trans e,n,ne,nf,d⟩
 ·have hfn:X.fn x=true:=by
   rcases hf with z|z
   ·exact z
   ·rw[z] at hk;cases hk
  obtain⟨c,hc⟩:=I.ok.has x (.inl hk);obtain⟨w',z⟩:=I.cell x c hc;refine wpAny_storeName_cell I.ok.kind hk hc z (fun h' hc' hs=>?_);obtain⟨oc,hoc,hocd⟩:=id z;refine h { s with heap:=h' } ⟨I.ok,I.os,I.bare,⟨fun b o e n hb hx=>?_,fun b o e n hb hx=>?_,I.base.free,fun b o e hx=>?_,I.base.hV,I.base.hZ,I.base.mG⟩,⟨m,hn.sameBut hs (du (wb x c hc)),fun j y v' e1 e2 e3=>?_⟩,fun y c' e=>?_,I.free,I.jx,fun p hp=>?_,tracked ⟨oc,hoc,I.jx x c hc⟩ hs,by simpa using I.len⟩ ⟨c,hs,.inr hc⟩
  ·exact (hs.2 b (bt (bz (Φ e) (I.ok.yx x c hfn hc)))).trans (I.base.keep b o e n hb hx)
  ·obtain⟨sl,e1⟩:=I.base.slot b o e n hb hx;exact⟨sl,(hs.2 b (bt (bz (Φ e) (I.ok.yx x c hfn hc)))).trans e1⟩
  ·obtain⟨o',e1⟩:=I.base.there b o e hx;exact⟨o',(hs.2 b (bt (bz (Φ e) (I.ok.yx x c hfn hc)))).trans e1⟩
  ·by_cases hj:j=i
   ·subst hj;rw[hi] at e1;cases e1;rw[kc hiσ] at e2;cases e2;exact⟨u,r,.inr ⟨.inl hk,c,hc,hc'⟩⟩
   ·rw[lp (du hj)] at e2;obtain⟨u',r',q⟩:=hl j y v' e1 e2 e3;refine⟨u',r',?_⟩;rcases q with q|⟨k,c',e,z'⟩
    ·exact .inl q
    ·refine .inr ⟨k,c',e,z'.sameBut hs ?_⟩;rintro rfl;exact hj (Ji hN e1 (I.ok.inj _ _ _ e hc▸hi))
  ·by_cases hcc:c'=c
   ·subst hcc;exact⟨_,hc'⟩
   ·obtain⟨w2,z2⟩:=I.cell y c' e;exact⟨w2,z2.sameBut hs hcc⟩
  ·obtain⟨e,n,ne,nf,d⟩:=I.pin p hp;refine⟨(hs.2 p.1 ?_).trans e,n,ne,nf,d⟩;intro q;rw[q,hoc] at e;have q':oc=p.2:=ao e;exact d w' (by rw[←q'];exact hocd)
theorem Jg{M:me}{A:aB}{E:ε->θ->Prop}{i:Nat}{x:ι}{v:V}{u:ε}{Q:Unit->θ->Prop}(I:Inv X pins σ H s)(hN:X.N.Nodup)(hi:X.N[i]?=some x)(hx:Loc X.env.scope x)(r:RelV v u)
  (h:∀s',Inv X pins (σ.set i (some v)) H s'->Q () s') (hf:X.fn x=true∨X.env.scope.names.lookup x=some .local:=by first|exact .inl rfl|exact .inr rfl|assumption):π M A (storeName X.env x u) Q E s:=
 Jh I hN hi hx r (fun s' I' _=>h s' I') hf
theorem Inv.Ay{s':θ}{ch:List ζ}(I:Inv X pins σ H s)(ho:s'.os=s.os)(u:Un (fx X.stack) ch H H' s.heap s'.heap)(bx:dJ X.prog X.w H' s'.heap)(hg:jE s'.gens)
  (rq:∀b∈ch,(b∈X.ex∨X.s₀.heap.objs.size≤b)/\b≠X.env.locals/\(∀x c,X.env.cells.lookup x=some c->c≠b)/\∀p∈X.pn++pins,p.1≠b):Inv X pins σ H' s':=by
 obtain⟨h',g',d',t',o'⟩:=s';have e:o'=s.os:=ho;subst e;exact I.call (g':=g') (t':=t') (d':=d') u bx hg rq
end
abbrev XK:=ε->Option ζ->Hp->Prop
abbrev St:=List (Option V)
abbrev VK:=V->Hp->Prop
abbrev TE:=St->Hp->VK->Prop
abbrev TT:=St->Hp->(Bool->Hp->Prop)->Prop
abbrev TA:=St->Hp->(List V->Hp->Prop)->Prop
structure Ends where
 nx:St->Hp->Prop
 rt:VK
 bk:St->Hp->Prop:=fun _ _=>False
 ct:St->Hp->Prop:=fun _ _=>False
abbrev TS:=Ends->St->Hp->Prop
def EP(X:Cx)(pins:List (ζ×aL))(σ:St)(Q:VK)(u:ε)(s':θ):Prop:=∃v H',Inv X pins σ H' s'/\RelV v u/\Q v H'
def TP(X:Cx)(pins:List (ζ×aL))(σ:St)(Q:Bool->Hp->Prop)(b:Bool)(s':θ):Prop:=∃H',Inv X pins σ H' s'/\Q b H'
def AP(X:Cx)(pins:List (ζ×aL))(σ:St)(Q:List V->Hp->Prop)(us:List ε)(s':θ):Prop:=∃vs H',Inv X pins σ H' s'/\aU vs us/\Q vs H'
def SP(X:Cx)(pins:List (ζ×aL))(D:Ends)(f:Flow)(s':θ):Prop:=
 match f with
 |.next=>∃σ' H',Inv X pins σ' H' s'/\D.nx σ' H'
 |.brk=>∃σ' H',Inv X pins σ' H' s'/\D.bk σ' H'
 |.cont=>∃σ' H',Inv X pins σ' H' s'/\D.ct σ' H'
 |.ret u=>∃v σ' H',Inv X pins σ' H' s'/\RelV v u/\D.rt v H'
def PE(X:Cx)(e:ρ)(t:TE):Prop:=
 ∀(pins:List (ζ×aL)) (s:θ) (σ:St) (H:Hp) (Q:VK),Inv X pins σ H s->t σ H Q->π (model X.prog X.w) X.A (eval e X.env) (EP X pins σ Q) X.xe s
def PT(X:Cx)(e:ρ)(t:TT):Prop:=
 ∀(pins:List (ζ×aL)) (s:θ) (σ:St) (H:Hp) (Q:Bool->Hp->Prop),Inv X pins σ H s->t σ H Q->π (model X.prog X.w) X.A (isTrue e X.env (eval e X.env)) (TP X pins σ Q) X.xe s
def PW(X:Cx)(e:ρ)(t:TT):Prop:=
 ∀(whole:gZ ε) (pins:List (ζ×aL)) (s:θ) (σ:St) (H:Hp) (Q:Bool->Hp->Prop),Inv X pins σ H s->t σ H Q->π (model X.prog X.w) X.A (isTrue e X.env whole) (TP X pins σ Q) X.xe s
theorem PW.pt{X:Cx}{e:ρ}{t:TT}(h:PW X e t):PT X e t:=h _
def PA(X:Cx)(es:List ρ)(t:TA):Prop:=
 ∀(pos:aJ) (pins:List (ζ×aL)) (s:θ) (σ:St) (H:Hp) (Q:List V->Hp->Prop),Inv X pins σ H s->t σ H Q->π (model X.prog X.w) X.A (spliced (backTo pos (br es X.env))) (AP X pins σ Q) X.xe s
def PS(X:Cx)(st:aV)(t:TS):Prop:=
 ∀(pins:List (ζ×aL)) (s:θ) (σ:St) (H:Hp) (D:Ends),Inv X pins σ H s->t D σ H->π (model X.prog X.w) X.A (exec st X.env) (SP X pins D) X.xe s
def mZ(X:Cx)(st:List aV)(t:TS):Prop:=
 ∀(pins:List (ζ×aL)) (s:θ) (σ:St) (H:Hp) (D:Ends),Inv X pins σ H s->t D σ H->π (model X.prog X.w) X.A (execs st X.env) (SP X pins D) X.xe s
theorem bB{α:Type}{t:gZ α}{Q Q':α->θ->Prop}{M:me}{A:aB}{E:ε->θ->Prop}{s:θ}(h:π M A t Q E s)(hQ:∀a s,Q a s->Q' a s):π M A t Q' E s:=cH h hQ fun _ _ x=>x
end L2
namespace L2
open PySem PySem.Spec PyProof.Rows
section
variable {X:Cx}
theorem bin{a b:ρ}{ta tb:TE}(ha:PE X a ta)(hb:PE X b tb){pins:List (ζ×aL)}{s:θ}{σ:St}{H:Hp}{R:V->V->Hp->Prop}(I:Inv X pins σ H s)(h:ta σ H fun x H1=>tb σ H1 fun y H2=>R x y H2)
  {α:Type} {Q:α->θ->Prop} {f:ε->ε->gZ α}
  (hf:∀v u s2 x y H2,Inv X pins σ H2 s2->RelV x v->RelV y u->R x y H2->π (model X.prog X.w) X.A (f v u) Q X.xe s2):
  π (model X.prog X.w) X.A (eval a X.env) (fun v s₁=>π (model X.prog X.w) X.A (eval b X.env) (fun u s₂=>π (model X.prog X.w) X.A (f v u) Q X.xe s₂) X.xe s₁) X.xe s:=by
 refine bB (ha pins s σ H _ I h) fun v s1 ⟨x,H1,I1,r1,q1⟩=>?_;refine bB (hb pins s1 σ H1 _ I1 q1) fun u s2 ⟨y,H2,I2,r2,q2⟩=>?_;exact hf v u s2 x y H2 I2 r1 r2 q2
def yD(i:Nat):TE:=fun σ H Q=>∃v,σ[i]?=some (some v)/\Q v H
def tC(v:V):TE:=fun _ H Q=>Q v H
theorem UQ{i:Nat}{x:ι}{pos:aJ}(hN:X.N[i]?=some x)(hv:JX X.env.scope x)(hd:(x==("__debug__":ι))=false:=by decide)(iu:(x==("__classdict__":ι))=false:=by decide):PE X (.Name x pos) (yD i):=by
 intro pins s σ H Q I h;obtain⟨v,e,h⟩:=h;obtain⟨m,hn,hl⟩:=I.loc;obtain⟨u,r,l⟩:=hl i x v hN e hv;have fin:EP X pins σ Q u s:=⟨v,H,I,r,h⟩;rcases l with⟨hk,hm⟩|⟨hk,c,hc,hcell⟩
 ·exact nB (kY I.ok.kind hk hn hm fin) hd
 ·rcases hk with hk|hk
  ·exact nB (wpAny_loadName_cell I.ok.kind hk hc hcell fin) hd
  ·exact nB (wpAny_loadName_free I.ok.kind hk hc hcell fin iu) hd
theorem Jf{i j pos}:PE X (.Constant (.int i) j pos) (tC (.int i)):=fun _ _ _ H _ I h=>wpAny_Constant_int ⟨.int i,H,I.tok _,⟨_,rfl⟩,h⟩
theorem UP{b j pos}:PE X (.Constant (.bool b) j pos) (tC (.bl b)):=fun _ _ _ H _ I h=>Constant_bool ⟨.bl b,H,I,rfl,h⟩
theorem UD{j pos}:PE X (.Constant .none j pos) (tC .av):=fun _ _ _ H _ I h=>Constant_none ⟨.av,H,I,rfl,h⟩
theorem UC{x j pos}:PE X (.Constant (.str x) j pos) (tC (.str x)):=fun _ _ _ H _ I h=>jq ⟨.str x,H,I.tok _,⟨_,rfl⟩,h⟩
def Gl(X:Cx)(x:ι):Prop:=X.env.kindOf x=some .globalImplicit
theorem um{E:ε->θ->Prop}{pins:List (ζ×aL)}{s:θ}{σ:St}{H:Hp}{x:ι}{u:ε}{pos:aJ}{Q:ε->θ->Prop}(I:Inv X pins σ H s)(hg:Gl X x)(hm:X.mg x=some u)(h:Q u s)
  (hd:(x==("__debug__":ι))=false:=by decide):π (model X.prog X.w) X.A (eval (.Name x pos) X.env) Q E s:=
 mU I.ok.kind hg (Calls.loadGlobal_global (by rw[I.ok.glob];exact I.mod.glob.keeps I.bk) hm h) hd
theorem qI{E:ε->θ->Prop}{pins:List (ζ×aL)}{s:θ}{σ:St}{H:Hp}{x:ι}{u:ε}{pos:aJ}{Q:ε->θ->Prop}(I:Inv X pins σ H s)(hg:Gl X x)(hm:X.mg x=none)(hv:gp x=some u)(h:Q u s)
  (hn:x≠"__name__":=by decide) (hd:(x==("__debug__":ι))=false:=by decide):π (model X.prog X.w) X.A (eval (.Name x pos) X.env) Q E s:=by
 obtain⟨mb,h1,h2⟩:=I.mod.blt;exact mU I.ok.kind hg (Calls.loadGlobal_builtin (by rw[I.ok.glob];exact I.mod.glob.keeps I.bk) hm (by rw[I.ok.blt];exact h1.keeps I.bk) ((h2 x hn).trans hv) h) hd
theorem CK{x:ι}{v:V}{u:ε}{pos:aJ}(hg:Gl X x)(hm:X.mg x=some u)(r:RelV v u)(hd:(x==("__debug__":ι))=false:=by decide):PE X (.Name x pos) (tC v):=
 fun _ _ _ H _ I h=>um I hg hm ⟨v,H,I,r,h⟩ hd
theorem Je{x:ι}{v:V}{u:ε}{pos:aJ}(hg:Gl X x)(hm:X.mg x=none)(hv:gp x=some u)(r:RelV v u)(hn:x≠"__name__":=by decide)(hd:(x==("__debug__":ι))=false:=by decide):PE X (.Name x pos) (tC v):=
 fun _ _ _ H _ I h=>qI I hg hm hv ⟨v,H,I,r,h⟩ hn hd
variable {a b:ρ} {ta tb:TE} {pos:aJ}
def PC(X:Cx)(op:gT)(a b:ρ)(t:TE):Prop:=
 ∀(pins:List (ζ×aL)) (s:θ) (σ:St) (H:Hp) (Q:VK),Inv X pins σ H s->t σ H Q ->
  π (model X.prog X.w) X.A (eval a X.env) (fun v s₁=>π (model X.prog X.w) X.A (eval b X.env) (fun u s₂=>π (model X.prog X.w) X.A (compareOp op v u) (EP X pins σ Q) X.xe s₂) X.xe s₁) X.xe s
def tB(t:TE):TT:=fun σ H Q=>t σ H fun x H1=>∃c,x=.bl c/\Q c H1
theorem Jd{op:gT}{t:TE}(h:PC X op a b t)(h1:behindInMarks op b=false:=by first|exact nobehind _ (by decide) (by decide)|rfl):PT X (.Compare a [op] [b] pos) (tB t):=by
 intro pins s σ H Q I hw;refine wpAny_isTrue_Compare1 (bB (h pins s σ H _ I hw) fun v s1 h1=>bB h1 fun u s2 h2=>bB h2 fun c s3 ⟨x,H1,I1,r1,q1⟩=>?_) h1;obtain⟨d,rfl,q⟩:=q1;cases r1;exact cz ⟨H1,I1,q⟩
variable {tA tB':TT} {rest:List ρ}
def LB(t u:TT):TT:=fun σ H Q=>t σ H fun c H1=>if c=true then u σ H1 Q else Q false H1
def Xn(t u:TT):TT:=fun σ H Q=>t σ H fun c H1=>if c=true then Q true H1 else u σ H1 Q
def Lx(t:TT):TT:=fun σ H Q=>t σ H fun c H1=>Q (!c) H1
theorem pw_and1(ha:PT X a tA):PW X (.BoolOp .And [a] pos) tA:=by
 intro wh pins s σ H Q I h;refine isTrue_and (bB (ha pins s σ H Q I h) fun c s1 e=>?_);cases c with
 |true=>exact isTrue_and_nil e
 |false=>exact e
theorem pw_or1(ha:PT X a tA):PW X (.BoolOp .Or [a] pos) tA:=by
 intro wh pins s σ H Q I h;refine isTrue_or (bB (ha pins s σ H Q I h) fun c s1 e=>?_);cases c with
 |false=>exact isTrue_or_nil e
 |true=>exact e
theorem pw_and(ha:PT X a tA)(hb:PW X (.BoolOp .And (b::rest) pos) tB'):PW X (.BoolOp .And (a::b::rest) pos) (LB tA tB'):=by
 intro wh pins s σ H Q I h;refine isTrue_and (bB (ha pins s σ H _ I h) fun c s1 ⟨H1,I1,q1⟩=>?_);cases c with
 |true=>exact hb wh pins s1 σ H1 Q I1 q1
 |false=>exact⟨H1,I1,q1⟩
theorem pw_or(ha:PT X a tA)(hb:PW X (.BoolOp .Or (b::rest) pos) tB'):PW X (.BoolOp .Or (a::b::rest) pos) (Xn tA tB'):=by
 intro wh pins s σ H Q I h;refine isTrue_or (bB (ha pins s σ H _ I h) fun c s1 ⟨H1,I1,q1⟩=>?_);cases c with
 |true=>exact⟨H1,I1,q1⟩
 |false=>exact hb wh pins s1 σ H1 Q I1 q1
theorem UB(ha:PT X a tA):PT X (.UnaryOp .Not a pos) (Lx tA):=by
 intro pins s σ H Q I h;exact isTrue_not (ha pins s σ H (fun c H1=>Q (!c) H1) I h)
def Ku(ta tb:TE):TE:=fun σ H Q=>ta σ H fun x H1=>∃c,x=.bl c/\if c=true then tb σ H1 Q else Q (.bl false) H1
def Lw(ta tb:TE):TE:=fun σ H Q=>ta σ H fun x H1=>∃c,x=.bl c/\if c=true then Q (.bl true) H1 else tb σ H1 Q
def Kr(ta:TE):TE:=fun σ H Q=>ta σ H fun x H1=>∃c,x=.bl c/\Q (.bl (!c)) H1
theorem UA{op}{t:TE}(h:PE X a t):PE X (.BoolOp op [a] pos) t:=fun pins s σ H Q I hw=>BoolOp_one (h pins s σ H Q I hw)
theorem Uz(ha:PE X a ta)(hb:PE X (.BoolOp .And (b::rest) pos) tb):PE X (.BoolOp .And (a::b::rest) pos) (Ku ta tb):=by
 intro pins s σ H Q I h;refine BoolOp_and (bB (ha pins s σ H _ I h) fun v s1 ⟨x,H1,I1,r1,q1⟩=>?_);obtain⟨c,rfl,q1⟩:=q1;cases r1;refine cz ?_;cases c with
 |true=>exact hb pins s1 σ H1 Q I1 q1
 |false=>exact⟨.bl false,H1,I1,rfl,q1⟩
theorem Uy(ha:PE X a ta)(hb:PE X (.BoolOp .Or (b::rest) pos) tb):PE X (.BoolOp .Or (a::b::rest) pos) (Lw ta tb):=by
 intro pins s σ H Q I h;refine BoolOp_or (bB (ha pins s σ H _ I h) fun v s1 ⟨x,H1,I1,r1,q1⟩=>?_);obtain⟨c,rfl,q1⟩:=q1;cases r1;refine cz ?_;cases c with
 |false=>exact hb pins s1 σ H1 Q I1 q1
 |true=>exact⟨.bl true,H1,I1,rfl,q1⟩
theorem Ux(ha:PE X a ta):PE X (.UnaryOp .Not a pos) (Kr ta):=by
 intro pins s σ H Q I h;refine UnaryOp_ (bB (ha pins s σ H _ I h) fun v s1 ⟨x,H1,I1,r1,q1⟩=>?_);obtain⟨c,rfl,q1⟩:=q1;cases r1;exact not_of (cz ⟨.bl (!c),H1,I1,rfl,q1⟩)
end
end L2
namespace L2
open PySem PySem.Spec PyProof.Rows
def ff(K:η)(H:Hp)(a:ζ)(xs:List V):Prop:=
 Rd H a (.lst xs) ∨
  ∃(o:aL) (its:Array ε) (n:Nat),K.lookup a=some o/\o.cls=.type "list"/\o.dict=none/\o.data=.seq its n/\its.size≤ag/\aU xs its.toList
def cY(K:η)(H:Hp)(a:ζ)(xs:List V):Prop:=
 Rd H a (.tup xs) ∨
  ∃(o:aL) (its:Array ε) (n:Nat),K.lookup a=some o/\o.cls=.type "tuple"/\o.dict=none/\o.data=.seq its n/\its.size≤ag/\aU xs its.toList
def Xi:ε->Option V
 |.none=>some .av
 |.bool b=>some (.bl b)
 |.int i _=>some (.int i)
 |.str x _=>some (.str x)
 |.bytes b _=>some (.Bk b)
 |.float b _=>some (.JQ b)
 |.ref a=>some (.ref a)
 |.type n=>some (.ty n)
 |_=>none
theorem RelV.abs{x:V}{u:ε}(r:RelV x u):Xi u=some x:=by
 cases x with
 |av=>cases r;rfl
 |bl _=>cases r;rfl
 |int _=>obtain⟨t,rfl⟩:=r;rfl
 |str _=>obtain⟨t,rfl⟩:=r;rfl
 |Bk _=>obtain⟨t,rfl⟩:=r;rfl
 |JQ _=>obtain⟨t,rfl⟩:=r;rfl
 |ref _=>cases r;rfl
 |ty _=>cases r;rfl
theorem RelV.inj{x y:V}{u:ε}(r:RelV x u)(q:RelV y u):x=y:=ao (r.abs.symm.trans q.abs)
theorem aU.inj:∀{xs ys:List V} {us:List ε},aU xs us->aU ys us->xs=ys
 |_,_,_,.nil,.nil=>rfl
 |_,_,_,.cons r t,.cons r' t'=>by rw[r.inj r',aU.inj t t']
section
variable {X:Cx} {pins:List (ζ×aL)} {σ:St} {H:Hp} {s:θ} {a:ζ} {xs ys:List V}
theorem ff.of{K:η}(h:H a=some (.lst xs)):ff K H a xs:=.inl (.inl h)
theorem cY.of{K:η}(h:H a=some (.tup xs)):cY K H a xs:=.inl (.inl h)
theorem Inv.list(I:Inv X pins σ H s)(h:ff X.K H a xs):∃its:List ε,aU xs its/\PlainL s.heap a its.toArray/\xs.length≤ag:=by
 rcases h with h|⟨o,its,n,hk,hc,hd,hs,hz,r⟩
 ·obtain⟨z,its,n,r,e⟩:=h.ok I.bx;exact⟨its,r,⟨_,n,e,rfl,rfl,rfl⟩,z⟩
 ·refine⟨its.toList,r,⟨o,n,I.gI a o hk,hc,hd,by simpa using hs⟩,?_⟩;have e:=r.length;simp only[fk] at e;lia
theorem Inv.tuple(I:Inv X pins σ H s)(h:cY X.K H a xs):∃its:List ε,aU xs its/\lq s.heap a its.toArray/\xs.length≤ag:=by
 rcases h with h|⟨o,its,n,hk,hc,_,hs,hz,r⟩
 ·obtain⟨z,its,r,p⟩:=h.ok I.bx;exact⟨its,r,p.tup,z⟩
 ·refine⟨its.toList,r,⟨o,I.gI a o hk,hc,n,by simpa using hs⟩,?_⟩;have e:=r.length;simp only[fk] at e;lia
theorem Inv.xN(I:Inv X pins σ H s)(h:ff X.K H a xs)(h':ff X.K H a ys):xs=ys:=by
 obtain⟨its,r,⟨o,n,e,_,_,d⟩,_⟩:=I.list h;obtain⟨its',r',⟨o',n',e',_,_,d'⟩,_⟩:=I.list h';rw[e] at e';cases e';rw[d] at d';injection d' with d1 _
 have:its=its':=by simpa using congrArg oW d1
 subst this;exact r.inj r'
theorem Inv.v9(I:Inv X pins σ H s)(h:cY X.K H a xs)(h':cY X.K H a ys):xs=ys:=by
 obtain⟨its,r,⟨o,e,_,n,d⟩,_⟩:=I.tuple h;obtain⟨its',r',⟨o',e',_,n',d'⟩,_⟩:=I.tuple h';rw[e] at e';cases e';rw[d] at d';injection d' with d1 _
 have:its=its':=by simpa using congrArg oW d1
 subst this;exact r.inj r'
end
abbrev Cx.nO(X:Cx)(E:ε->θ->Prop):Cx:={ X with xe:=E }
abbrev Cx.lG(X:Cx):Cx:=X.nO fun _ _=>False
theorem Cx.Ok.nO{X:Cx}(ok:X.Ok)(E:ε->θ->Prop):(X.nO E).Ok:=
 ⟨ok.mod,ok.kind,ok.glob,ok.blt,ok.above,ok.inj,ok.has,ok.yx,ok.hd,ok.frames,ok.AQ,ok.Be,ok.bs,ok.rA,ok.uz,ok.vY,ok.kO,ok.wa⟩
theorem Cx.Ok.j0{X:Cx}{E:ε->θ->Prop}(ok:(X.nO E).Ok):X.Ok:=
 ⟨ok.mod,ok.kind,ok.glob,ok.blt,ok.above,ok.inj,ok.has,ok.yx,ok.hd,ok.frames,ok.AQ,ok.Be,ok.bs,ok.rA,ok.uz,ok.vY,ok.kO,ok.wa⟩
section
variable {X:Cx} {pins:List (ζ×aL)} {σ:St} {H:Hp} {s:θ} {E:ε->θ->Prop}
theorem Inv.nO(I:Inv X pins σ H s)(E:ε->θ->Prop):Inv (X.nO E) pins σ H s:=⟨I.ok.nO E,I.os,I.bare,I.base,I.loc,I.cell,I.free,I.jx,I.pin,I.bx,I.len⟩
theorem Inv.j0(I:Inv (X.nO E) pins σ H s):Inv X pins σ H s:=⟨I.ok.j0,I.os,I.bare,I.base,I.loc,I.cell,I.free,I.jx,I.pin,I.bx,I.len⟩
theorem SP.j0{D:Ends}{f:Flow}{s':θ}(h:SP (X.nO E) pins D f s'):SP X pins D f s':=by
 cases f with
 |next=>obtain⟨σ',H',I,q⟩:=h;exact⟨σ',H',I.j0,q⟩
 |brk=>obtain⟨σ',H',I,q⟩:=h;exact⟨σ',H',I.j0,q⟩
 |cont=>obtain⟨σ',H',I,q⟩:=h;exact⟨σ',H',I.j0,q⟩
 |ret u=>obtain⟨v,σ',H',I,r,q⟩:=h;exact⟨v,σ',H',I.j0,r,q⟩
theorem mZ.lG{st:List aV}{t:TS}(h:mZ X.lG st t):mZ X st t:=fun pins s σ H D I hw=>
 cH (h pins s σ H D (I.nO _) hw) (fun _ _ q=>q.j0) fun _ _ z=>bR z
end
section
variable {X:Cx} {st:aV} {rest:List aV} {t u:TS} {e:ρ} {te:TE} {pos:aJ}
def Ks:TS:=fun D σ H=>D.nx σ H
def Lu(t u:TS):TS:=fun D σ H=>t { D with nx:=u D } σ H
theorem Uw:mZ X [] Ks:=fun _ _ σ H _ I h=>gN ⟨σ,H,I,h⟩
theorem Uv(h1:PS X st t)(h2:mZ X rest u):mZ X (st::rest) (Lu t u):=by
 intro pins s σ H D I h;refine iD (bB (h1 pins s σ H { D with nx:=u D } I h) fun f s1 q=>?_);cases f with
 |next=>
  obtain⟨σ',H',I',q⟩:=q;exact h2 pins s1 σ' H' D I' q
 |ret v=>exact q
 |brk=>exact q
 |cont=>exact q
theorem Uu(h1:PS X st t):mZ X [st] t:=by
 intro pins s σ H D I h;refine iD (bB (h1 pins s σ H D I h) fun f s1 q=>?_);cases f with
 |next=>exact gN q
 |ret v=>exact q
 |brk=>exact q
 |cont=>exact q
theorem Inv.quiet{pins:List (ζ×aL)}{σ:St}{H:Hp}{s:θ}(I:Inv X pins σ H s):interactive X.env=false:=by simp[interactive,I.ok.kind]
def Kt(te:TE):TS:=fun D σ H=>te σ H fun _ H1=>D.nx σ H1
theorem Ut(he:PE X e te)(hs:swapsWith e none pos.line X.env=pure false:=by rfl):PS X (.Expr e pos) (Kt te):=by
 intro pins s σ H D I h;exact wpAny_Expr_any (bB (he pins s σ H _ I h) fun v s1 ⟨x,H1,I1,r1,q1⟩=>⟨σ,H1,I1,q1⟩) I.quiet hs
def Lv(te:TE):TS:=fun D σ H=>te σ H D.rt
theorem Us(he:PE X e te):PS X (.Return (some e) pos) (Lv te):=by
 intro pins s σ H D I h;exact wpAny_Return_some (bB (he pins s σ H _ I h) fun v s1 ⟨x,H1,I1,r1,q1⟩=>⟨x,σ,H1,I1,r1,q1⟩)
def Lz(c:TT)(t u:TS):TS:=fun D σ H=>c σ H fun b H1=>if b=true then t D σ H1 else u D σ H1
theorem Ur{c:ρ}{a b:List aV}{tc:TT}(hc:PT X c tc)(ha:mZ X a t)(hb:mZ X b u):PS X (.If c a b pos) (Lz tc t u):=by
 intro pins s σ H D I h;refine wpAny_If (bB (hc pins s σ H _ I h) fun d s1 ⟨H1,I1,q1⟩=>?_);cases d with
 |true=>exact ha pins s1 σ H1 D I1 q1
 |false=>exact hb pins s1 σ H1 D I1 q1
end
abbrev TG:=V->St->Hp->(St->Hp->Prop)->Prop
abbrev uY:=List V->St->Hp->(St->Hp->Prop)->Prop
def PG(X:Cx)(target:ρ)(t:TG):Prop:=
 ∀(pins:List (ζ×aL)) (s:θ) (σ:St) (H:Hp) (v:V) (u:ε) (Q:St->Hp->Prop),Inv X pins σ H s->RelV v u->t v σ H Q ->
  π (model X.prog X.w) X.A (assign target X.env u) (fun _ s'=>∃σ' H',Inv X pins σ' H' s'/\Q σ' H') X.xe s
def xZ(X:Cx)(ts:List ρ)(t:uY):Prop:=
 ∀(pins:List (ζ×aL)) (s:θ) (σ:St) (H:Hp) (vs:List V) (us:List ε) (Q:St->Hp->Prop),Inv X pins σ H s->aU vs us->t vs σ H Q ->
  π (model X.prog X.w) X.A (assignInOrder ((assignEach ts X.env).map (·.2)) us) (fun _ s'=>∃σ' H',Inv X pins σ' H' s'/\Q σ' H') X.xe s
abbrev Dx:=V->V->V->Hp->(Hp->Prop)->Prop
def J3(X:Cx)(t:Dx):Prop:=
 ∀(pins:List (ζ×aL)) (s:θ) (σ:St) (H:Hp) (o i v:V) (ov iv u:ε) (Q:Hp->Prop),Inv X pins σ H s->RelV o ov->RelV i iv->RelV v u->t o i v H Q ->
  π (model X.prog X.w) X.A (setItem ov iv u) (fun _ s'=>∃H',Inv X pins σ H' s'/\Q H') X.xe s
section
variable {X:Cx} {pos:aJ}
def DV(i:Nat):TG:=fun v σ H Q=>Q (σ.set i (some v)) H
theorem Uq{i:Nat}{x:ι}(hN:X.N.Nodup)(hi:X.N[i]?=some x)(hx:Loc X.env.scope x)(hf:X.fn x=true∨X.env.scope.names.lookup x=some .local:=by first|exact .inl rfl|exact .inr rfl|assumption):PG X (.Name x pos) (DV i):=by
 intro pins s σ H v u Q I r h;exact wpAny_assign_Name (Jg I hN hi hx r (fun s' I'=>⟨_,H,I',h⟩) hf)
def WZ:uY:=fun vs σ H Q=>vs=[]/\Q σ H
def KY(t:TG)(u:uY):uY:=fun vs σ H Q=>∃v r,vs=v::r/\t v σ H fun σ' H'=>u r σ' H' Q
theorem Up:xZ X [] WZ:=by
 intro pins s σ H vs us Q I r h;obtain⟨e,h⟩:=h;subst e;cases r;exact assignInOrder_nil ⟨σ,H,I,h⟩
theorem Uo{e:ρ}{es:List ρ}{t:TG}{u:uY}(h1:PG X e t)(h2:xZ X es u)
  (hs:(assignEach (e::es) X.env).map (·.2)=assign e X.env::(assignEach es X.env).map (·.2):=by rfl):xZ X (e::es) (KY t u):=by
 intro pins s σ H vs us Q I r h;obtain⟨v,vr,e1,h⟩:=h;subst e1;cases r with
 |cons r rr=>
  rw[hs];refine assignInOrder_cons (bB (h1 pins s σ H _ _ _ I r h) fun _ s1 ⟨σ1,H1,I1,q1⟩=>?_);exact h2 pins s1 σ1 H1 _ _ Q I1 rr q1
def WX(K:η)(n:Nat)(t:uY):TG:=fun v σ H Q=>∃a xs,v=.ref a/\cY K H a xs/\xs.length=n/\t xs σ H Q
theorem Um{es:List ρ}{k:Nat}{t:uY}{n:Nat}(hc:X.calm=true)(h:xZ X es t)
  (hn:(assignEach es X.env).length=n:=by rfl) (hst:(assignEach es X.env).findIdx? (·.1)=none:=by rfl):PG X (.Tuple es k pos) (WX X.K n t):=by
 intro pins s σ H v u Q I r hw;obtain⟨a,xs,e1,hq,hl,hw⟩:=hw;subst e1;cases r;obtain⟨its,rv,ht,hz⟩:=I.tuple hq;refine assign_Tuple_tuple (I.ok.hd hc) ht (by simp[hn,←hl,rv.length]) hst fun h' hx=>?_;have I1:Inv X pins σ H { s with heap:=h' }:=I.kept (t':=s.toks) fun b o e=>hx b o (bt (Φ e)) e
 exact h pins _ σ H xs _ Q I1 (by simpa using rv) hw
def WY(to ti:TE)(t:Dx):TG:=fun v σ H Q=>to σ H fun o H1=>ti σ H1 fun i H2=>t o i v H2 fun H3=>Q σ H3
theorem Ul{o i:ρ}{to ti:TE}{t:Dx}(ho:PE X o to)(hi:PE X i ti)(hs:J3 X t)
  (ha:∀v,assign (.Subscript o i pos) X.env v=(do
   let ov ←holding [v] (eval o X.env)
   let iv ←holding [v,ov] (eval i X.env)
   standAt pos
   holding [v,ov,iv] (setItem ov iv v)
   release [v,ov,iv] []):=by intro _;rfl):PG X (.Subscript o i pos) (WY to ti t):=by
 intro pins s σ H v u Q I r h
 rw[ha]
 refine δ (bU (bB (ho pins s σ H _ I h) fun ov s1 ⟨x,H1,I1,r1,q1⟩=>?_))
 refine δ (bU (bB (hi pins s1 σ H1 _ I1 q1) fun iv s2 ⟨y,H2,I2,r2,q2⟩=>?_))
 refine δ (mQ (δ (bU (bB (hs pins s2 σ H2 x y v ov iv u _ I2 r1 r2 r q2) fun _ s3 ⟨H3,I3,q3⟩=>?_))))
 exact wpAny_release ⟨σ,H3,I3,q3⟩
def ED(te:TE)(g:TG):TS:=fun D σ H=>te σ H fun x H1=>g x σ H1 D.nx
theorem Uk{tg e:ρ}{te:TE}{g:TG}(he:PE X e te)(hg:PG X tg g)(hs:swapsWithSole [tg] e pos.line X.env=pure false:=by rfl)(hw:swappedStores [tg] e X.env=pure none:=by rfl)
  (h1:(assignEach [tg] X.env).map (·.2)=[assign tg X.env]:=by rfl):PS X (.Assign [tg] e pos) (ED te g):=by
 intro pins s σ H D I h;refine wpAny_Assign_stores (bB (he pins s σ H _ I h) fun v s1 ⟨x,H1,I1,r1,q1⟩=>?_) hs hw;rw[h1];exact bB (hg pins s1 σ H1 x v _ I1 r1 q1) fun _ s2 q=>q
theorem Uj{i:Nat}{x:ι}{e:ρ}{te:TE}{pos':aJ}(hN:X.N.Nodup)(hi:X.N[i]?=some x)(hx:Loc X.env.scope x)(he:PE X e te)(hs:swapsWith e (some (.Name x pos')) pos.line X.env=pure false:=by rfl)(hf:X.fn x=true∨X.env.scope.names.lookup x=some .local:=by first|exact .inl rfl|exact .inr rfl|assumption):
  PS X (.Assign [.Name x pos'] e pos) (ED te (DV i)):=by
 intro pins s σ H D I h;refine wpAny_Assign_Name (bB (he pins s σ H _ I h) fun v s1 ⟨y,H1,I1,r1,q1⟩=>?_) hs;exact Jg I1 hN hi hx r1 (fun s2 I2=>⟨_,H1,I2,q1⟩) hf
end
structure It where
 go:Nat->Hp->Prop
 AK:Nat->Hp->V->Hp->Prop
 stop:Nat->Hp->Prop
def jU(X:Cx)(pins:List (ζ×aL))(H:Hp)(b:ζ):Prop:=
 H b=none/\b≠X.env.locals/\b∉X.fs/\(b∈X.ex∨X.s₀.heap.objs.size≤b)/\(∀x c,X.env.cells.lookup x=some c->c≠b)/\∀p∈X.pn++pins,p.1≠b
theorem Inv.uC{X:Cx}{pins:List (ζ×aL)}{σ:St}{H H':Hp}{s:θ}{b:ζ}(I:Inv X pins σ H s)(hb:s.heap.objs.size≤b)(hn:H' b=none):jU X pins H' b:=by
 refine⟨hn,iq (bz I.lt hb),I.WE hb,.inr (aK I.sz hb),fun x c e z=>?_,fun p hp z=>?_⟩
 ·obtain⟨v,q⟩:=I.cell x c e;exact absurd (bz q.lt (by rw[z];exact hb)) (cm _)
 ·exact absurd (bz (Φ (I.pin p hp).1) (by rw[z];exact hb)) (cm _)
structure Turn(P:Ω)(w:aj)(K:η)(tg:ρ)(J:It)(fp:List ζ)(it:ζ)(tn:Nat->af->Prop):Prop where
 mem:it∈fp
 obj:∀i h,tn i h->∀b∈fp,∃o,h.get? b=some o/\∀v,o.data≠.cell v
 keep:∀i h h',tn i h->(∀b∈fp,∀o,h.get? b=some o->h'.get? b=some o)->tn i h'
 item:∀(X:Cx),X.prog=P->X.w=w->X.K=K->X.calm=true->∀(i:Nat) (pins:List (ζ×aL)) (s:θ) (σ:St) (H:Hp) (E:ε->θ->Prop),Inv X pins σ H s->(∀b∈fp,jU X pins H b)->tn i s.heap->J.go i H ->
  π (model P w) X.A (pyNext (.ref it)) (fun r s1=>∃u,r=some u ∧
   π (model P w) X.A (letOwnedTupleGo tg (.ref it) u) (fun _ s2=>∃x H',Inv X pins σ H' s2/\RelV x u/\J.AK i H x H'/\tn (i+1) s2.heap/\∀b∈fp,H' b=none) E s1) E s
 done:∀(X:Cx),X.prog=P->X.w=w->X.K=K->X.calm=true->∀(i:Nat) (pins:List (ζ×aL)) (s:θ) (σ:St) (H:Hp) (E:ε->θ->Prop),Inv X pins σ H s->(∀b∈fp,jU X pins H b)->tn i s.heap->J.stop i H ->
  π (model P w) X.A (pyNext (.ref it)) (fun r s1=>r=none/\Inv X pins σ H s1) E s
 self:∀(A:aB) (i:Nat) (s:θ) (Q:ε->θ->Prop) (E:ε->θ->Prop),tn i s.heap->Q (.ref it) s->π (model P w) A (pyIter (.ref it)) Q E s
abbrev TI:=St->Hp->(It->Hp->Prop)->Prop
def J4(X:Cx)(pins:List (ζ×aL))(σ:St)(tg:ρ)(R:It->Hp->Prop)(itv:ε)(s2:θ):Prop:=
 ∃(it:ζ) (fp:List ζ) (tn:Nat->af->Prop) (J:It) (H':Hp),itv=.ref it/\Inv X pins σ H' s2/\Turn X.prog X.w X.K tg J fp it tn/\tn 0 s2.heap/\(∀b∈fp,jU X pins H' b)/\R J H'
def PI(X:Cx)(tg iter:ρ)(wi:TI):Prop:=
 ∀(pins:List (ζ×aL)) (s:θ) (σ:St) (H:Hp) (R:It->Hp->Prop),Inv X pins σ H s->wi σ H R ->
  π (model X.prog X.w) X.A (eval iter X.env) (fun v s1=>π (model X.prog X.w) X.A (pyIter v) (J4 X pins σ tg R) X.xe s1) X.xe s
theorem zv{M:me}{A:aB}{E:ε->θ->Prop}{s:θ}{tg:ρ}{it:ζ}{u:ε}{o:aL}{n:String}{vs:Array ε}{Q:Unit->θ->Prop}(ho:s.heap.get? it=some o)(hc:o.cls=.type n)(hd:o.data=.fields vs)
    (hn:["enumerate","zip","dict_itemiterator","dict_reverseitemiterator","odict_iterator","itertools.zip_longest","itertools.pairwise"].contains n=false) (hQ:Q () s):π M A (letOwnedTupleGo tg (.ref it) u) Q E s:=by
  unfold letOwnedTupleGo;cases tg<;>first
    |exact ν hQ
    | (cases u<;>first
        |exact ν hQ
        | (refine δ (wpAny_load ho ?_)
           rw[hc,hd];show π M A (if (["enumerate","zip","dict_itemiterator","dict_reverseitemiterator","odict_iterator","itertools.zip_longest","itertools.pairwise"].contains n&&vs[0]?==some (rawInt _))=true then _ else _) Q E s;rw[if_neg (by intro h;rw[hn,bo] at h;cases h)];exact ν hQ))
def Lo(K:η)(a:ζ):It:=
 ⟨fun i H=>∃xs x,ff K H a xs/\xs[i]?=some x,fun i H x H'=>H'=H/\∀xs,ff K H a xs->xs[i]?=some x,fun i H=>∃xs,ff K H a xs/\xs.length≤i⟩
def Lm(K:η)(a:ζ):It:=
 ⟨fun i H=>∃xs x,cY K H a xs/\xs[i]?=some x,fun i H x H'=>H'=H/\∀xs,cY K H a xs->xs[i]?=some x,fun i H=>∃xs,cY K H a xs/\xs.length≤i⟩
def Bp(lo:Int)(n:Nat):It:=⟨fun i _=>i<n,fun i H x H'=>H'=H/\x=.int (lo+i),fun i _=>n≤i⟩
theorem Ui{P:Ω}{w:aj}{K:η}{tg:ρ}(a it:ζ):Turn P w K tg (Lo K a) [it] it (fun i h=>h.IsListIter it a i) where
 mem:=by simp
 obj:=fun i h st b hb=>by
  have e:b=it:=by simpa using hb
  subst e;obtain⟨o,e,c,d⟩:=st;exact⟨o,e,fun v z=>by rw[d] at z;cases z⟩
 keep:=fun i h h' st k=>st.at fun o e=>k it (by simp) o e
 item:=by
  intro X hP hw hK hc i pins s σ H E I hf st hg;subst hP hw hK;obtain⟨xs,x,hq,hx⟩:=hg;obtain⟨its,rv,p,hz⟩:=I.list hq;obtain⟨u,hu,ru⟩:=rv.get hx;obtain⟨f0,f1,f2,f3,f4,f5⟩:=hf it (by simp);refine wpAny_pyNext_list_item st p.isList (x:=u) (by simpa using hu) fun h' st' sb=>?_;have I1:Inv X pins σ H { s with heap:=h' }:=I.turned (t':=s.toks) (fun b o hb e=>(sb.2 b hb).trans e) f0 f1 f3 f4 f5;obtain⟨o,e,c,d⟩:=id st';exact⟨u,rfl,zv (s:={ s with heap:=h' }) e c d (by decide) ⟨x,H,I1,ru,⟨rfl,fun ys hy=>by rw[I.xN hy hq];exact hx⟩,st',fun b hb=>(hf b hb).1⟩⟩
 done:=by
  intro X hP hw hK hc i pins s σ H E I hf st hg;subst hP hw hK;obtain⟨xs,hq,hx⟩:=hg;obtain⟨its,rv,p,hz⟩:=I.list hq;obtain⟨f0,f1,f2,f3,f4,f5⟩:=hf it (by simp);have hl:=rv.length;exact wpAny_pyNext_list_end (I.ok.hd hc) st p.isList (by simp;lia) fun h' eb=>⟨rfl,I.turned (t':=s.toks) (fun b o hb e=>eb b o hb e) f0 f1 f3 f4 f5⟩
 self:=fun _ _ _ _ _ st h=>wpAny_pyIter_listiter st h
theorem Uh{P:Ω}{w:aj}{K:η}{tg:ρ}(a it:ζ):Turn P w K tg (Lm K a) [it] it (fun i h=>h.IsTupleIter it a i) where
 mem:=by simp
 obj:=fun i h st b hb=>by
  have e:b=it:=by simpa using hb
  subst e;obtain⟨o,e,c,d⟩:=st;exact⟨o,e,fun v z=>by rw[d] at z;cases z⟩
 keep:=fun i h h' st k=>st.at fun o e=>k it (by simp) o e
 item:=by
  intro X hP hw hK hc i pins s σ H E I hf st hg;subst hP hw hK;obtain⟨xs,x,hq,hx⟩:=hg;obtain⟨its,rv,p,hz⟩:=I.tuple hq;obtain⟨u,hu,ru⟩:=rv.get hx;obtain⟨f0,f1,f2,f3,f4,f5⟩:=hf it (by simp);refine wpAny_pyNext_tuple_item st (show s.heap.IsTuple a its.toArray from p) (x:=u) (by simpa using hu) fun h' st' sb=>?_;have I1:Inv X pins σ H { s with heap:=h' }:=I.turned (t':=s.toks) (fun b o hb e=>(sb.2 b hb).trans e) f0 f1 f3 f4 f5;obtain⟨o,e,c,d⟩:=id st';exact⟨u,rfl,zv (s:={ s with heap:=h' }) e c d (by decide) ⟨x,H,I1,ru,⟨rfl,fun ys hy=>by rw[I.v9 hy hq];exact hx⟩,st',fun b hb=>(hf b hb).1⟩⟩
 done:=by
  intro X hP hw hK hc i pins s σ H E I hf st hg;subst hP hw hK;obtain⟨xs,hq,hx⟩:=hg;obtain⟨its,rv,p,hz⟩:=I.tuple hq;obtain⟨f0,f1,f2,f3,f4,f5⟩:=hf it (by simp);have hl:=rv.length;exact wpAny_pyNext_tuple_end (I.ok.hd hc) st (show s.heap.IsTuple a its.toArray from p) (by simp;lia) fun h' eb=>⟨rfl,I.turned (t':=s.toks) (fun b o hb e=>eb b o hb e) f0 f1 f3 f4 f5⟩
 self:=fun _ _ _ _ _ st h=>wpAny_pyIter_tupleiter st h
theorem Ug{P:Ω}{w:aj}{K:η}{tg:ρ}(it:ζ)(lo:Int)(n:Nat):Turn P w K tg (Bp lo n) [it] it (fun i h=>IsRangeIter h it (lo+(i:Nat)*1) ((n:Int)-(i:Nat)) 1) where
 mem:=by simp
 obj:=fun i h st b hb=>by
  have e:b=it:=by simpa using hb
  subst e;exact⟨_,st,fun v z=>by
   have z':ub _=pq v:=z;cases z'⟩
 keep:=fun i h h' st k=>k it (by simp) _ st
 item:=by
  intro X hP hw hK hc i pins s σ H E I hf st hg;subst hP hw hK;obtain⟨f0,f1,f2,f3,f4,f5⟩:=hf it (by simp);have W:=Walks.range (prog:=X.prog) (w:=X.w) (I.ok.hd hc) it lo 1 n;refine W.item i s _ _ hg st fun v h' tk hv st' kk=>?_;obtain⟨t,rfl⟩:=hv;have I1:Inv X pins σ H { s with heap:=h',toks:=tk }:=I.turned (fun b o hb e=>kk b o (by simpa using hb) e) f0 f1 f3 f4 f5;refine⟨_,rfl,zv (s:={ s with heap:=h',toks:=tk }) (n:="range_iterator") st' rfl rfl (by decide) ⟨.int (lo+i),H,I1,⟨t,?_⟩,⟨rfl,rfl⟩,st',fun b hb=>(hf b hb).1⟩⟩;rw[Int.mul_one]
 done:=by
  intro X hP hw hK hc i pins s σ H E I hf st hg;subst hP hw hK;obtain⟨f0,f1,f2,f3,f4,f5⟩:=hf it (by simp);exact wpAny_pyNext_range_end (I.ok.hd hc) st (by have:n≤i:=hg;lia) fun h' eb=>⟨rfl,I.turned (t':=s.toks) (fun b o hb e=>eb b o hb e) f0 f1 f3 f4 f5⟩
 self:=fun _ _ _ _ _ st h=>wpAny_pyIter_rangeiter st h
end L2
namespace L2
open PySem PySem.Spec PyProof.Rows
section
variable {X:Cx} {tg:ρ}
theorem Jc{pins:List (ζ×aL)}{σ:St}{H:Hp}{s:θ}{R:It->Hp->Prop}{E:ε->θ->Prop}{lo hi:Int}{t u v:fE}{tk:Nat}(I:Inv X pins σ H s)(h1:-(2^62)≤lo)(h2:lo<2^62)(h3:-(2^62)≤hi)(h4:hi<2^62)
  (q:R (Bp lo (hi-lo).toNat) H):π (model X.prog X.w) X.A (pyIter (.ref s.heap.objs.size)) (J4 X pins σ tg R) E { s with heap:=s.heap.push { cls:=.type "range",data:=.fields #[.int lo t,.int hi u,.int 1 v]},toks:=tk }:=by
 refine wpAny_pyIter_range (IsRange.new ..) (small_one h1 h2 h3 h4) ?_;have I1:Inv X pins σ H { s with heap:=s.heap.push { cls:=.type "range",data:=.fields #[.int lo t,.int hi u,.int 1 v]},toks:=tk }:=I.kept fun b o e=>μ _ e;refine⟨(s.heap.push { cls:=.type "range",data:=.fields #[.int lo t,.int hi u,.int 1 v]}).objs.size,[(s.heap.push { cls:=.type "range",data:=.fields #[.int lo t,.int hi u,.int 1 v]}).objs.size],_,_,H,rfl,
  I1.kept (t':=tk) fun b o e=>μ _ e,Ug _ lo (hi-lo).toNat,?_,fun b hb=>?_,q⟩
 ·have e1:lo+((0:Nat):Int)*1=lo:=by simp
  have e2:(((hi-lo).toNat:Nat):Int)-((0:Nat):Int)=oZ lo hi 1:=by rw[rangeSize_one];split<;>lia
  show IsRangeIter _ _ (lo+((0:Nat):Int)*1) ((((hi-lo).toNat:Nat):Int)-((0:Nat):Int)) 1;rw[e1,e2];exact Ψ _ rfl
 ·have e:b=(s.heap.push { cls:=.type "range",data:=.fields #[.int lo t,.int hi u,.int 1 v]}).objs.size:=by simpa using hb
  subst e;exact I1.uC (Δ _) (I1.bx.fresh (Δ _))
def nu(ta:TA):TI:=fun σ H R=>ta σ H fun vs H1=>∃j:Int,vs=[.int j]/\-(2^62)≤j/\j<2^62/\R (Bp 0 j.toNat) H1
def uS(ta:TA):TI:=fun σ H R=>ta σ H fun vs H1=>∃i j:Int,vs=[.int i,.int j]/\(-(2^62)≤i/\i<2^62/\-(2^62)≤j/\j<2^62)/\R (Bp i (j-i).toNat) H1
theorem Ue{a:ρ}{ta:TA}{p pos:aJ}(hg:Gl X "range")(hm:X.mg "range" = none)(ha:PA X [a] ta)(hs:br [a] X.env=[(false,eval a X.env)]:=by rfl):PI X tg (.Call (.Name "range" p) [a] [] pos) (nu ta):=by
 intro pins s σ H R I h;refine Call_ (qI I hg hm qU (cI (bB (ha pos pins s σ H _ I h) fun us s1 ⟨vs,H1,I1,r1,q1⟩=>?_) hs rfl));obtain⟨j,e,q1,q2,q⟩:=q1;subst e;cases r1 with
 |cons r rr=>
  cases rr;obtain⟨t,rfl⟩:=r;exact call_range_1 (Jc I1 (by lia) (by lia) q1 q2 (by simpa using q))
theorem Ud{a b:ρ}{ta:TA}{p pos:aJ}(hg:Gl X "range")(hm:X.mg "range" = none)(ha:PA X [a,b] ta)(hs:br [a,b] X.env=[(false,eval a X.env),(false,eval b X.env)]:=by rfl)(hs2:br [b] X.env=[(false,eval b X.env)]:=by rfl):
  PI X tg (.Call (.Name "range" p) [a,b] [] pos) (uS ta):=by
 intro pins s σ H R I h;refine Call_ (qI I hg hm qU (cI (bB (ha pos pins s σ H _ I h) fun us s1 ⟨vs,H1,I1,r1,q1⟩=>?_) (by rw[hs,hs2]) (by rw[hs2];rfl)));obtain⟨i,j,e,⟨q1,q2,q3,q4⟩,q⟩:=q1;subst e;cases r1 with
 |cons r rr=>
  cases rr with
  |cons r' rr=>
   cases rr;obtain⟨t,rfl⟩:=r;obtain⟨t',rfl⟩:=r';exact call_range_2 (Jc I1 q1 q2 q3 q4 q)
def LA(wi:TI)(g:TG)(tb:TS):TS:=fun D σ H=>wi σ H fun J H1=>∃W:Nat->Nat->St->Hp->Prop,(∃m,W 0 m σ H1)/\∀i m σ H,W i m σ H ->
 (J.stop i H/\D.nx σ H)∨(J.go i H/\∃N:St->Hp->Prop,(∀σ' H',N σ' H'->∃m',m' < m/\W (i+1) m' σ' H')/\∀x H',J.AK i H x H'->g x σ H' fun σ2 H2=>tb { D with nx:=N,ct:=N,bk:=D.nx } σ2 H2)
def sm(fp:List ζ)(h:af):List (ζ×aL):=fp.filterMap fun b=>(h.get? b).map fun o=>(b,o)
theorem zu{fp:List ζ}{h:af}{b:ζ}{o:aL}(hb:b∈fp)(e:h.get? b=some o):(b,o)∈sm fp h:=my.mpr ⟨b,hb,by rw[e];rfl⟩
theorem Uc{fp:List ζ}{h:af}{p:ζ×aL}(hp:p∈sm fp h):p.1∈fp/\h.get? p.1=some p.2:=by
 obtain⟨b,hb,e⟩:=my.mp hp;cases q:h.get? b with
 |none=>rw[q] at e;cases e
 |some o=>
  rw[q] at e;have e':(b,o)=p:=ao e;subst e';exact⟨hb,q⟩
theorem Inv.pinned{pins:List (ζ×aL)}{σ:St}{H:Hp}{s:θ}{fp:List ζ}(I:Inv X pins σ H s)(hf:∀b∈fp,jU X pins H b)(ho:∀b∈fp,∃o,s.heap.get? b=some o/\∀v,o.data≠.cell v):Inv X (pins++sm fp s.heap) σ H s:=
 I.yq fun p hp=>(bM.mp hp).elim (fun z=>I.pin p (bq _ z)) fun z=>by
  obtain⟨hb,e⟩:=Uc z;obtain⟨f0,f1,f2,_⟩:=hf p.1 hb;obtain⟨o,e',d⟩:=ho p.1 hb;rw[e] at e';cases e';exact⟨e,f0,f1,f2,d⟩
theorem Inv.qo{pins pl:List (ζ×aL)}{σ:St}{H:Hp}{s:θ}(I:Inv X (pins++pl) σ H s):Inv X pins σ H s:=I.yq fun p hp=>I.pin p (bq _ (iG _ hp))
theorem UO{iter:ρ}{body:List aV}{wi:TI}{g:TG}{tb:TS}{pos:aJ}(hp:sU (model X.prog X.w) X.A X.env X.xe)(hc:X.calm=true)(hi:PI X tg iter wi)(hg:PG X tg g)(hb:mZ X body tb)
  (hs:∀x,foldedSetIterable iter X.env x=pure x:=by intro _;rfl):PS X (.For tg iter body [] pos) (LA wi g tb):=by
 intro pins s σ H D I h;refine wpAny_For (bB (hi pins s σ H _ I h) fun v s1 h1=>bB h1 fun itv s2 h2=>?_) hs;obtain⟨it,fp,tn,J,H2,e,I2,T,st2,f2,W,⟨m0,w0⟩,turn⟩:=h2;subst e
 -- what stays true of the iterator's objects through the loop
 have stat:∀{H':Hp},(∀b∈fp,H' b=none)->∀b∈fp,jU X pins H' b:=fun hn b hb=>⟨hn b hb,(f2 b hb).2⟩;refine codeAny_forLoop_any (fun n s'=>∃i σ' H',Inv X pins σ' H' s'/\tn i s'.heap/\(∀b∈fp,H' b=none)/\W i n σ' H') ?_ m0 ⟨0,σ,H2,I2,st2,fun b hb=>(f2 b hb).1,w0⟩;rintro n s3 ⟨i,σ3,H3,I3,st3,fr3,w3⟩;rcases turn i n σ3 H3 w3 with⟨stop,qn⟩|⟨go,N,hN,step⟩
 ·refine iZ hp (bB (T.done X rfl rfl rfl hc i pins s3 σ3 H3 X.xe I3 (stat fr3) st3 stop) fun r s4 ⟨hr,I4⟩=>?_);subst hr;exact gN ⟨σ3,H3,I4,qn⟩
 ·refine iZ hp (bB (T.item X rfl rfl rfl hc i pins s3 σ3 H3 X.xe I3 (stat fr3) st3 go) fun r s4 ⟨u,hr,h4⟩=>?_);subst hr;refine iZ hp (bB h4 fun _ s5 ⟨x,H5,I5,r5,y5,st5,fr5⟩=>?_);have I5':=I5.pinned (stat fr5) (T.obj _ _ st5);refine iZ hp (bB (hg _ s5 σ3 H5 x u _ I5' r5 (step x H5 y5)) fun _ s6 ⟨σ6,H6,I6,q6⟩=>?_);refine iZ hp (bB (hb _ s6 σ6 H6 _ I6 q6) fun f s7 q7=>?_);have again:∀{σ7:St} {H7:Hp},Inv X (pins++sm fp s5.heap) σ7 H7 s7->N σ7 H7->∃m,m<n/\∃i σ' H',Inv X pins σ' H' s7/\tn i s7.heap/\(∀b∈fp,H' b=none)/\W i m σ' H':=fun {σ7 H7} I7 n7=>by
   obtain⟨m',hm,w7⟩:=hN σ7 H7 n7;refine⟨m',hm,i+1,σ7,H7,I7.qo,T.keep _ _ _ st5 fun b hb o e=>(I7.pin (b,o) (bq _ (bq _ (zu hb e)))).1,fun b hb=>?_,w7⟩;obtain⟨o,e,d⟩:=T.obj _ _ st5 b hb;exact (I7.pin (b,o) (bq _ (bq _ (zu hb e)))).2.1
  cases f with
  |next=>obtain⟨σ7,H7,I7,n7⟩:=q7;exact again I7 n7
  |cont=>obtain⟨σ7,H7,I7,n7⟩:=q7;exact again I7 n7
  |brk=>obtain⟨σ7,H7,I7,q7⟩:=q7;exact⟨σ7,H7,I7.qo,q7⟩
  |ret v=>obtain⟨x7,σ7,H7,I7,r7,q7⟩:=q7;exact⟨x7,σ7,H7,I7.qo,r7,q7⟩
end
end L2
namespace L2
open PySem PySem.Spec PyProof.Rows
abbrev R2:=V->V->Hp->VK->Prop
def dq(X:Cx)(f:ε->ε->gZ ε)(r:R2):Prop:=
 ∀(pins:List (ζ×aL)) (s:θ) (σ:St) (H:Hp) (x y:V) (v u:ε) (Q:VK),Inv X pins σ H s->RelV x v->RelV y u->r x y H Q ->
  π (model X.prog X.w) X.A (f v u) (EP X pins σ Q) X.xe s
def JY(X:Cx)(f:ε->gZ ε)(r:V->Hp->VK->Prop):Prop:=
 ∀(pins:List (ζ×aL)) (s:θ) (σ:St) (H:Hp) (x:V) (v:ε) (Q:VK),Inv X pins σ H s->RelV x v->r x H Q ->
  π (model X.prog X.w) X.A (f v) (EP X pins σ Q) X.xe s
def iB(X:Cx)(f:ε)(r:List V->Hp->VK->Prop):Prop:=
 ∀(pins:List (ζ×aL)) (s:θ) (σ:St) (H:Hp) (xs:List V) (us:List ε) (Q:VK),Inv X pins σ H s->aU xs us->r xs H Q ->
  π (model X.prog X.w) X.A (call f us) (EP X pins σ Q) X.xe s
def Xj(X:Cx)(r:V->Hp->(Bool->Hp->Prop)->Prop):Prop:=
 ∀(pins:List (ζ×aL)) (s:θ) (σ:St) (H:Hp) (x:V) (v:ε) (Q:Bool->Hp->Prop),Inv X pins σ H s->RelV x v->r x H Q ->
  π (model X.prog X.w) X.A (truthy v) (TP X pins σ Q) X.xe s
def AN(r:R2)(ta tb:TE):TE:=fun σ H Q=>ta σ H fun x H1=>tb σ H1 fun y H2=>r x y H2 Q
def Xl(r:V->Hp->VK->Prop)(ta:TE):TE:=fun σ H Q=>ta σ H fun x H1=>r x H1 Q
def rI(C:Int->Int->Prop)(g:Int->Int->V):R2:=fun x y H Q=>∃i j,x=.int i/\y=.int j/\C i j/\Q (g i j) H
def nR(g:Int->Int->V):R2:=fun x y H Q=>∃i j,x=.int i/\y=.int j/\Q (g i j) H
def rU(g:Int->V):V->Hp->VK->Prop:=fun x H Q=>∃i,x=.int i/\Q (g i) H
section
variable {X:Cx} {a b c:ρ} {ta tb tc:TE} {pos:aJ}
theorem Dw(ha:PE X a ta)(hb:PE X b tb){pins:List (ζ×aL)}{s:θ}{σ:St}{H:Hp}{R:V->V->Hp->Prop}(I:Inv X pins σ H s)
  (h:ta σ H fun x H1=>tb σ H1 fun y H2=>R x y H2) {Q:ε->θ->Prop} {f:ε->ε->gZ ε}
  (hf:∀v u s2 x y H2,Inv X pins σ H2 s2->RelV x v->RelV y u->R x y H2->π (model X.prog X.w) X.A (f v u) Q X.xe s2):
  π (model X.prog X.w) X.A (eval a X.env) (fun v s₁=>π (model X.prog X.w) X.A (eval b X.env) (fun u s₂=>π (model X.prog X.w) X.A (f v u) Q X.xe s₂) X.xe s₁) X.xe s:=by
 refine bB (ha pins s σ H _ I h) fun v s1 ⟨x,H1,I1,r1,q1⟩=>?_;refine bB (hb pins s1 σ H1 _ I1 q1) fun u s2 ⟨y,H2,I2,r2,q2⟩=>?_;exact hf v u s2 x y H2 I2 r1 r2 q2
theorem UN{op:Operator}{r:R2}(ho:dq X (binaryOp op) r)(ha:PE X a ta)(hb:PE X b tb):PE X (.BinOp a op b pos) (AN r ta tb):=by
 intro pins s σ H Q I h;exact wpAny_BinOp (Dw ha hb I h fun v u s2 x y H2 I2 rx ry q=>ho pins s2 σ H2 x y v u Q I2 rx ry q)
theorem Jb{op:UnaryOp}{r:V->Hp->VK->Prop}(ho:JY X (unaryOp op) r)(ha:PE X a ta):PE X (.UnaryOp op a pos) (Xl r ta):=by
 intro pins s σ H Q I h;exact UnaryOp_ (bB (ha pins s σ H _ I h) fun v s1 ⟨x,H1,I1,r1,q1⟩=>ho pins s1 σ H1 x v Q I1 r1 q1)
theorem DQ{f:ε->ε->gZ ε}{C:Int->Int->Prop}{g:Int->Int->Int}
  (rule:∀(i j:Int) (t u:fE) (s:θ) (Q:ε->θ->Prop) (E:ε->θ->Prop),C i j->Q (.int (g i j) s.toks) { s with toks:=s.toks+1 }->π (model X.prog X.w) X.A (f (.int i t) (.int j u)) Q E s):
  dq X f (rI C fun i j=>.int (g i j)):=by
 intro pins s σ H x y v u Q I rx ry h;obtain⟨i,j,rfl,rfl,hc,q⟩:=h;obtain⟨t,rfl⟩:=rx;obtain⟨t',rfl⟩:=ry;exact rule i j t t' s _ _ hc ⟨.int (g i j),H,I.tok _,⟨_,rfl⟩,q⟩
theorem Jy{f:ε->ε->gZ ε}{g:Int->Int->Int}
  (rule:∀(i j:Int) (t u:fE) (s:θ) (Q:ε->θ->Prop) (E:ε->θ->Prop),Q (.int (g i j) s.toks) { s with toks:=s.toks+1 }->π (model X.prog X.w) X.A (f (.int i t) (.int j u)) Q E s):
  dq X f (nR fun i j=>.int (g i j)):=by
 intro pins s σ H x y v u Q I rx ry h;obtain⟨i,j,rfl,rfl,q⟩:=h;obtain⟨t,rfl⟩:=rx;obtain⟨t',rfl⟩:=ry;exact rule i j t t' s _ _ ⟨.int (g i j),H,I.tok _,⟨_,rfl⟩,q⟩
theorem zH{f:ε->ε->gZ ε}{g:Int->Int->Bool}
  (rule:∀(i j:Int) (t u:fE) (s:θ) (Q:ε->θ->Prop) (E:ε->θ->Prop),Q (.bool (g i j)) s->π (model X.prog X.w) X.A (f (.int i t) (.int j u)) Q E s):
  dq X f (nR fun i j=>.bl (g i j)):=by
 intro pins s σ H x y v u Q I rx ry h;obtain⟨i,j,rfl,rfl,q⟩:=h;obtain⟨t,rfl⟩:=rx;obtain⟨t',rfl⟩:=ry;exact rule i j t t' s _ _ ⟨.bl (g i j),H,I,rfl,q⟩
def Dz(i j:Int):Prop:=0≤j/\j≤1000000/\i.natAbs<2^64
theorem Jx:dq X (binaryOp .Add) (nR fun i j=>.int (i+j)):=Jy fun _ _ _ _ _ _ _ q=>add_int q
theorem UM:dq X (binaryOp .Sub) (nR fun i j=>.int (i-j)):=Jy fun _ _ _ _ _ _ _ q=>sub_int q
theorem xu:dq X (binaryOp .Mod) (rI (fun _ j=>0<j) fun i j=>.int (i%j)):=DQ fun i j _ _ _ _ _ hc q=>by
 have h1:(0:Int)<j:=hc;exact mod_int' (by lia) (by rw[Int.fmod_eq_emod_of_nonneg i (by lia)];exact q)
theorem UL:dq X (binaryOp .Pow) (rI Dz fun i j=>.int (i^j.toNat)):=DQ fun _ _ _ _ _ _ _ hc q=>pow_int_small hc.1 hc.2.1 hc.2.2 q
theorem Xk{f:ε->gZ ε}{g:Int->Int}
  (rule:∀(i:Int) (t:fE) (s:θ) (Q:ε->θ->Prop) (E:ε->θ->Prop),Q (.int (g i) s.toks) { s with toks:=s.toks+1 }->π (model X.prog X.w) X.A (f (.int i t)) Q E s):
  JY X f (rU fun i=>.int (g i)):=by
 intro pins s σ H x v Q I rx h;obtain⟨i,rfl,q⟩:=h;obtain⟨t,rfl⟩:=rx;exact rule i t s _ _ ⟨.int (g i),H,I.tok _,⟨_,rfl⟩,q⟩
theorem Ja:JY X (unaryOp .USub) (rU fun i=>.int (-i)):=Xk fun _ _ _ _ _ q=>neg_int q
end
section
variable {X:Cx} {a b c:ρ} {ta tb tc:TE} {pos:aJ}
theorem IZ{pins:List (ζ×aL)}{σ:St}{H:Hp}{s:θ}{Q:VK}{k k':Bool}(I:Inv X pins σ H s)(q:Q (.bl k) H)(e:k=k'):EP X pins σ Q (.bool k') s:=by
 subst e;exact⟨.bl k,H,I,rfl,q⟩
theorem KE:dq X (compareOp .Lt) (nR fun i j=>.bl (decide (i<j))):=zH fun _ _ _ _ _ _ _ q=>lt_int q
theorem vS:dq X (compareOp .LtE) (nR fun i j=>.bl (decide (i≤j))):=zH fun _ _ _ _ _ _ _ q=>le_int q
theorem CV:dq X (compareOp .Gt) (nR fun i j=>.bl (decide (j<i))):=zH fun _ _ _ _ _ _ _ q=>gt_int q
theorem UK:dq X (compareOp .GtE) (nR fun i j=>.bl (decide (j≤i))):=zH fun _ _ _ _ _ _ _ q=>ge_int q
theorem UJ:dq X (compareOp .In) (fun x y H Q=>∃i j,x=.str i/\y=.str j/\Q (.bl (!(ba j i 0 j.length 1).isEmpty)) H):=by
 intro pins s σ H x y v u Q I rx ry h;obtain⟨i,j,rfl,rfl,q⟩:=h;obtain⟨t,rfl⟩:=rx;obtain⟨t',rfl⟩:=ry;exact in_str (IZ I q rfl)
theorem UI:dq X (compareOp .IsNot) (fun x y H Q=>y=.av/\Q (.bl (!decide (x=.av))) H):=by
 intro pins s σ H x y v u Q I rx ry h;obtain⟨rfl,q⟩:=h;cases ry;refine isnot_none_gen (IZ I q ?_);cases x<;>first
  | (cases rx;rfl)
  | (obtain⟨t,rfl⟩:=rx;rfl)
theorem dq.or{f:ε->ε->gZ ε}{r r':R2}(h:dq X f r)(h':dq X f r'):dq X f (fun x y H Q=>r x y H Q∨r' x y H Q):=by
 intro pins s σ H x y v u Q I rx ry q;rcases q with q|q
 ·exact h pins s σ H x y v u Q I rx ry q
 ·exact h' pins s σ H x y v u Q I rx ry q
theorem bJ(b:ρ){op:gT}(h:op≠.In:=by decide)(h2:op≠.NotIn:=by decide):behindInMarks op b=false:=by
 have e1:(op==gT.In)=false:=by cases op<;>first|rfl|exact absurd rfl h
 have e2:(op==gT.NotIn)=false:=by cases op<;>first|rfl|exact absurd rfl h2
 cases b<;>simp[behindInMarks,e1,e2]
theorem UH{op:gT}{r:R2}(ho:dq X (compareOp op) r)(ha:PE X a ta)(hb:PE X b tb)(hm:behindInMarks op b=false):PE X (.Compare a [op] [b] pos) (AN r ta tb):=by
 intro pins s σ H Q I h;exact wpAny_Compare1 (Dw ha hb I h fun v u s2 x y H2 I2 rx ry q=>ho pins s2 σ H2 x y v u Q I2 rx ry q) hm
def wu(t:TE):TT:=fun σ H Q=>t σ H fun x H'=>∃k,x=.bl k/\Q k H'
theorem UG{op:gT}{r:R2}(ho:dq X (compareOp op) r)(ha:PE X a ta)(hb:PE X b tb)(hm:behindInMarks op b=false):PT X (.Compare a [op] [b] pos) (wu (AN r ta tb)):=by
 intro pins s σ H Q I h;refine wpAny_isTrue_Compare1 (bB (ha pins s σ H _ I h) fun v s1 ⟨x,H1,I1,r1,q1⟩=>bB (hb pins s1 σ H1 _ I1 q1) fun u s2 ⟨y,H2,I2,r2,q2⟩=>
  bB (ho pins s2 σ H2 x y v u _ I2 r1 r2 q2) fun c s3 ⟨z,H3,I3,r3,k,e,q3⟩=>?_) hm
 subst e;cases r3;exact cz ⟨H3,I3,q3⟩
def rW(r r':R2)(ta tb tc:TE):TE:=fun σ H Q=>ta σ H fun x H1=>tb σ H1 fun y H2=>r x y H2 fun z H3=>∃k,z=.bl k ∧
 (if k=true then tc σ H3 fun w' H4=>r' y w' H4 Q else Q (.bl false) H3)
theorem UE{op op':gT}{r r':R2}(ho:dq X (compareOp op) r)(ho':dq X (compareOp op') r')(ha:PE X a ta)(hb:PE X b tb)(hc:PE X c tc)
  (hm:lastMarks [op,op'] [b,c]=false:=by with_unfolding_all rfl):PE X (.Compare a [op,op'] [b,c] pos) (rW r r' ta tb tc):=by
 intro pins s σ H Q I h;refine Compare_chain (bB (ha pins s σ H _ I h) fun v s1 ⟨x,H1,I1,r1,q1⟩=>chain_link (bB (hb pins s1 σ H1 _ I1 q1) fun u s2 ⟨y,H2,I2,r2,q2⟩=>
  bB (ho pins s2 σ H2 x y v u _ I2 r1 r2 q2) fun d s3 ⟨z,H3,I3,r3,k,e,q3⟩=>?_)) hm
 subst e;cases r3;refine cz ?_;cases k with
 |false=>exact ite_ff ⟨.bl false,H3,I3,rfl,q3⟩
 |true=>exact ite_tt (chain_last (bB (hc pins s3 σ H3 _ I3 q3) fun w' s4 ⟨z',H4,I4,r4,q4⟩=>ho' pins s4 σ H4 y z' u w' Q I4 r2 r4 q4))
theorem TX{op op':gT}{r r':R2}(ho:dq X (compareOp op) r)(ho':dq X (compareOp op') r')(ha:PE X a ta)(hb:PE X b tb)(hc:PE X c tc)
  (hm:lastMarks [op,op'] [b,c]=false:=by with_unfolding_all rfl):PT X (.Compare a [op,op'] [b,c] pos) (wu (rW r r' ta tb tc)):=by
 intro pins s σ H Q I h;refine isTrue_chain (bB (ha pins s σ H _ I h) fun v s1 ⟨x,H1,I1,r1,q1⟩=>test_link (bB (hb pins s1 σ H1 _ I1 q1) fun u s2 ⟨y,H2,I2,r2,q2⟩=>
  bB (ho pins s2 σ H2 x y v u _ I2 r1 r2 q2) fun d s3 ⟨z,H3,I3,r3,k,e,q3⟩=>?_)) hm
 subst e;cases r3;refine cz ?_;cases k with
 |false=>
  obtain⟨k',e',q'⟩:=q3;cases e';exact ite_ff ⟨H3,I3,q'⟩
 |true=>
  refine ite_tt (test_last (bB (hc pins s3 σ H3 _ I3 q3) fun w' s4 ⟨z',H4,I4,r4,q4⟩=>bB (ho' pins s4 σ H4 y z' u w' _ I4 r2 r4 q4) fun d' s5 ⟨z2,H5,I5,r5,k2,e2,q5⟩=>?_));subst e2;cases r5;exact cz ⟨H5,I5,q5⟩
def JZ(K:η)(x:V)(H:Hp)(k:Bool):Prop:=
 match x with
 |.av=>k=false
 |.bl b=>k=b
 |.int i=>k=(i != 0)
 |.str y=>y.length≤ag/\k=((y.length:Int) != 0)
 |.Bk y=>y.size≤ag/\k=((y.size:Int) != 0)
 |.ref p=>(∃xs,ff K H p xs/\k = !xs.isEmpty)∨(∃xs,cY K H p xs/\k = !xs.isEmpty)∨∃kvs,H p=some (.dK kvs)/\k = !kvs.isEmpty
 |_=>False
theorem TV{κ:Type}{kvs:List (κ×V)}{vs:List (κ×ε)}(r:KV kvs vs):(!vs.isEmpty) = !kvs.isEmpty:=by
 cases r<;>rfl
theorem IY{xs:List V}{its:List ε}(r:aU xs its):(!its.toArray.isEmpty) = !xs.isEmpty:=by
 cases r<;>simp
theorem nZ:(ag:Nat)<2^63:=by rw[cS];decide
theorem TU:Xj X (fun x H Q=>∃k,JZ X.K x H k/\Q k H):=by
 intro pins s σ H x v Q I rx h;obtain⟨k,e,q⟩:=h;have hl:=nZ;have hs:ag=16777216:=cS;cases x with
 |av=>
  cases rx;have e':k=false:=e;subst e';exact truthy_none ⟨H,I,q⟩
 |bl b=>
  cases rx;have e':k=b:=e;subst e';exact cz ⟨H,I,q⟩
 |int i=>
  obtain⟨t,rfl⟩:=rx;have e':k=(i != 0):=e;subst e';exact PySem.P.truthy_int ⟨H,I,q⟩
 |str y=>
  obtain⟨t,rfl⟩:=rx;obtain⟨hy,e'⟩:y.length≤ag/\k=((y.length:Int) != 0):=e;subst e';exact PySem.P.truthy_str (by lia) ⟨H,I.tok _,q⟩
 |Bk y=>
  obtain⟨t,rfl⟩:=rx;obtain⟨hy,e'⟩:y.size≤ag/\k=((y.size:Int) != 0):=e;subst e';exact PySem.W.truthy_bytes (by lia) ⟨H,I.tok _,q⟩
 |ref p=>
  cases rx;have e':(∃xs,ff X.K H p xs/\k = !xs.isEmpty)∨(∃xs,cY X.K H p xs/\k = !xs.isEmpty)∨∃kvs,H p=some (.dK kvs)/\k = !kvs.isEmpty:=e;rcases e' with⟨xs,hx,e'⟩|⟨xs,hx,e'⟩|⟨kvs,hx,e'⟩
  ·subst e';obtain⟨its,r,pl,hz⟩:=I.list hx;have hlen:=r.length;exact wpAny_truthy_list pl.isList (by simp only[χ];lia) ⟨H,I.tok _,by rw[IY r];exact q⟩
  ·subst e';obtain⟨its,r,pl,hz⟩:=I.tuple hx;have hlen:=r.length;exact truthy_tuple pl (by simp only[χ];lia) ⟨H,I.tok _,by rw[IY r];exact q⟩
  ·subst e';obtain⟨hz,hS,vs,r,m⟩:kvs.length≤ag/\(p==sysModules)=false/\∃vs,KV kvs vs/\s.heap.DictOf (vU X.prog X.w) p vs:=I.bx p _ hx;have hlen:kvs.length=vs.length:=Paired.length r;exact wpAny_truthy_dict hS m (by lia) ⟨H,I.tok _,by rw[TV r];exact q⟩
 |_=>exact (show False from e).elim
theorem TQ(ha:PE X a ta)(he:∀whole,isTrue a X.env whole=(do let v ←whole;standAt a.pos;holding [v] (truthy v))):
  PT X a (fun σ H Q=>ta σ H fun x H'=>∃k,JZ X.K x H' k/\Q k H'):=by
 intro pins s σ H Q I h;exact isTrue_plain (bB (ha pins s σ H _ I h) fun v s1 ⟨x,H1,I1,r1,q1⟩=>TU pins s1 σ H1 x v Q I1 r1 q1) (he _)
theorem qH:dq X (binaryOp .Add) (fun x y H Q=>∃i j,x=.str i/\y=.str j/\i.length+j.length≤ag/\Q (.str (i++j)) H):=by
 intro pins s σ H x y v u Q I rx ry h;obtain⟨i,j,rfl,rfl,hz,q⟩:=h;obtain⟨t,rfl⟩:=rx;obtain⟨t',rfl⟩:=ry;exact add_str (fun t' tk=>⟨.str (i++j),H,I.tok _,⟨_,rfl⟩,q⟩) hz
theorem vals1{x:V}{us:List ε}(r:aU [x] us):∃u,us=[u]/\RelV x u:=by
 cases r with
 |cons r1 r2=>cases r2;exact⟨_,rfl,r1⟩
theorem vals2{x y:V}{us:List ε}(r:aU [x,y] us):∃u w',us=[u,w']/\RelV x u/\RelV y w':=by
 cases r with
 |cons r1 r2=>
  cases r2 with
  |cons r3 r4=>cases r4;exact⟨_,_,rfl,r1,r3⟩
theorem TN(hc:X.calm=true):iB X (.builtin "max") (fun xs H Q=>∃i j,xs=[.int i,.int j]/\Q (.int (if j > i then j else i)) H):=by
 intro pins s σ H xs us Q I r h;obtain⟨i,j,rfl,q⟩:=h;obtain⟨u,w',rfl,⟨t,rfl⟩,⟨t',rfl⟩⟩:=vals2 r;refine max_two_ints (I.ok.hd hc) fun h' tk k=>⟨_,H,I.kept k,?_,q⟩;by_cases hj:j > i
 ·rw[if_pos hj,if_pos hj];exact⟨_,rfl⟩
 ·rw[if_neg hj,if_neg hj];exact⟨_,rfl⟩
theorem TM:iB X (.type "int") (fun xs H Q=>(∃i,xs=[.int i]/\Q (.int i) H)∨∃k,xs=[.bl k]/\Q (.int (if k then 1 else 0)) H):=by
 intro pins s σ H xs us Q I r h;rcases h with⟨i,rfl,q⟩|⟨k,rfl,q⟩
 ·obtain⟨u,rfl,t,rfl⟩:=vals1 r;exact call_int_int ⟨.int i,H,I,⟨_,rfl⟩,q⟩
 ·obtain⟨u,rfl,r1⟩:=vals1 r;cases r1;exact call_int_bool ⟨.int (if k then 1 else 0),H,I.tok _,⟨_,rfl⟩,q⟩
theorem TL:iB X (.type "str") (fun xs H Q=>∃i,xs=[.int i]/\i.natAbs.log2<1920/\Q (.str (toString i)) H):=by
 intro pins s σ H xs us Q I r h;obtain⟨i,rfl,hz,q⟩:=h;obtain⟨u,rfl,t,rfl⟩:=vals1 r;exact PySem.P.str_of_int hz ⟨.str _,H,I.tok _,⟨_,rfl⟩,q⟩
end
end L2
namespace L2
open PySem PySem.Spec PyProof.Rows
theorem TK{h:af}{dx:ζ}{mA:ι->Option ε}(n:h.Ns1 dx mA):∃od,h.get? dx=some od/\∀name,qh name od=some (mA name):=by
 obtain⟨o,es,ep,ho,hd,hk,_,hm⟩:=n;refine⟨o,ho,fun name=>?_⟩;have e:=hm name;unfold nsFind findBy at e;rw[←Array.find?_toList] at e;unfold qh;rw[hd];dsimp only;split
 ·rename_i y q;rw[q] at e;exact congrArg some e
 ·rename_i q;rw[q] at e;have a:es.toList.any (·.refKey)=false:=by
   rw[List.any_eq_false];intro y hy;obtain⟨z,t,hkey⟩:=hk y (gb.mp hy);simp[DictEntry.refKey,hkey]
  have a':¬es.toList.any (·.refKey)=true:=by rw[a];exact au
  rw[if_neg a'];exact congrArg some e
theorem qR.some_of{v:V}{o:Option ε}(r:qR (some v) o):∃u,o=some u/\RelV v u:=by
 cases o with
 |none=>exact (show False from r).elim
 |some u=>exact⟨u,rfl,r⟩
section
variable {X:Cx} {pins:List (ζ×aL)} {σ:St} {H:Hp} {s:θ} {a C dx:ζ} {fs:List (ι×V)} {f:ι} {v:V} {A:aB} {E:ε->θ->Prop}
theorem TJ{prog:Ω}{w:aj}{env:cV}{e:ρ}{f:ι}{pos:aJ}{s:θ}{Q:ε->θ->Prop}(hb:attributeBase e f env (eval e env)=eval e env)
  (h:π (model prog w) A (eval e env) (fun o s₁=>π (model prog w) A (getAttr o f true) Q E s₁) E s):π (model prog w) A (eval (.Attribute e f pos) env) Q E s:=
 Attribute_any_ h (by rw[arm_eval_Attribute,hb])
end
end L2
namespace L2
open PySem PySem.Spec PyProof.Rows
structure dI(k:Nat)(A:aB):Prop where
 hd:A.handled=none
 dp:A.depth+3*k+5<recursionLimit
 un:A.units+16*k+200<cLine
theorem dI.mono{j k:Nat}{A:aB}(r:dI k A)(h:j≤k):dI j A:=⟨r.hd,by have:=r.dp;lia,by have:=r.un;lia⟩
theorem dI.deeper{k:Nat}{A:aB}(r:dI (k+1) A)(env:cV):dI k (A.deeper env):=
 ⟨r.hd,by have:=r.dp;show A.depth+1+3*k+5<_;lia,by have:=r.un;show A.units+3+16*k+200<_;lia⟩
theorem TH{A:aB}{C:ζ}{us:List ε}{kw:List (ι×ε)}:(A.under (.builtin "type.__call__" ⟨.ref C::us,kw⟩)).depth=A.depth+1:=by
 first|rfl|simp[aB.under,Code.weight,Code.isCreation,Code.isGuard,Code.isCaller,Code.frames,Code.isFrame,guardIds]
theorem dI.depth{k:Nat}{A:aB}(r:dI k A):A.depth<recursionLimit:=by have:=r.dp;lia
theorem dI.units{k:Nat}{A:aB}(r:dI k A):A.units+64<cLine:=by have:=r.un;lia
theorem dI.kI{k:Nat}{A:aB}(r:dI k A):A.units<cLine:=by have:=r.un;lia
def EB:TA:=fun _ H Q=>Q [] H
def yE(ta:TE)(tr:TA):TA:=fun σ H Q=>ta σ H fun x H1=>tr σ H1 fun xs H2=>Q (x::xs) H2
section
variable {X:Cx} {e:ρ} {es:List ρ} {te:TE} {t:TA} {pos:aJ}
theorem vR:PA X [] EB:=fun _ _ _ _ H Q I h=>tZ ⟨[],H,I,.nil,h⟩
theorem qG(ha:PE X e te)(hr:PA X es t)(hs:br (e::es) X.env=(false,eval e X.env)::br es X.env:=by rfl):PA X (e::es) (yE te t):=by
 intro pos pins s σ H Q I h;rw[hs];show π _ _ (spliced ((false,eval e X.env)::backTo pos (br es X.env))) _ _ s;refine gU (bB (ha pins s σ H _ I h) fun u s1 ⟨x,H1,I1,r1,q1⟩=>?_);exact bB (hr pos pins s1 σ H1 _ I1 q1) fun us s2 ⟨xs,H2,I2,r2,q2⟩=>⟨x::xs,H2,I2,.cons r1 r2,q2⟩
def Ls(t:TA):TE:=fun σ H Q=>t σ H fun xs H1=>xs.length≤ag/\∀p,H1 p=none->Q (.ref p) (upd H1 p (.tup xs))
def Ly(t:TA):TE:=fun σ H Q=>t σ H fun xs H1=>xs.length≤ag/\∀p,H1 p=none->Q (.ref p) (upd H1 p (.lst xs))
theorem TF{x1}(h:PA X es t):PE X (.Tuple es x1 pos) (Ls t):=by
 intro pins s σ H Q I hq;refine wpAny_Tuple_spliced (bB (h pos pins s σ H _ I hq) fun us s1 ⟨xs,H1,I1,r,z,q⟩=>⟨by rw[←r.length];exact z,?_⟩);have hf:H1 s1.heap.objs.size=none:=I1.bx.fresh (Δ _);refine⟨.ref s1.heap.objs.size,upd H1 s1.heap.objs.size (.tup xs),I1.laid (t':=s1.toks) (fun b u e=>μ _ e) (Δ _) ?_,rfl,q _ hf⟩;exact⟨z,us,r,⟨_,Ψ _ rfl,rfl,⟨_,rfl⟩,rfl⟩⟩
theorem IX(h:PA X es t):PE X (.List es pos) (Ly t):=by
 intro pins s σ H Q I hq;refine wpAny_List_spliced (bB (h pos pins s σ H _ I hq) fun us s1 ⟨xs,H1,I1,r,z,q⟩=>⟨by rw[←r.length];exact z,?_⟩);have hf:H1 s1.heap.objs.size=none:=I1.bx.fresh (Δ _);refine⟨.ref s1.heap.objs.size,upd H1 s1.heap.objs.size (.lst xs),I1.laid (t':=s1.toks) (fun b u e=>μ _ e) (Δ _) ?_,rfl,q _ hf⟩;exact⟨z,us,0,r,Ψ _ rfl⟩
end
abbrev Sp:=List V->Hp->VK->XK->Prop
abbrev pZ:=List cV->Hp->θ->XK->ε->θ->Prop
structure sP(P:Ω)(w:aj)(K:η)(mg:ι->Option ε)(base:af)(A:aB)(outer:List cV)(s:θ)(H:Hp):Prop where
 frames:A.frames=some outer
 mod:Mod K mg base
 bs:∀b o,base.get? b=some o->s.heap.get? b=some o/\H b=none
 rA:base.objs.size≤s.heap.objs.size
 kO:s.heap.FunFrames base outer
 wa:∀b∈fx outer,H b=none
 bx:dJ P w H s.heap
 bare:jE s.gens
def CE(outer:List cV)(P:Ω)(w:aj)(H:Hp)(s:θ)(Q:VK)(u:ε)(s':θ):Prop:=
 ∃v H',s'.os=s.os/\jE s'.gens/\Un (fx outer) [] H H' s.heap s'.heap/\dJ P w H' s'.heap/\RelV v u/\Q v H'
def CR(CX:pZ)(outer:List cV)(P:Ω)(w:aj)(H:Hp)(s:θ)(Q:VK)(E:XK)(r:Result)(s':θ):Prop:=
 match r with
 |.ok (.ret u)=>CE outer P w H s Q u s'
 |.ok _=>False
 |.error e=>CX outer H s E e s'
structure jg(P:Ω)(w:aj)(K:η)(mg:ι->Option ε)(base:af)(CX:pZ)(k:Nat)(f:ζ)(fd:ay)(ps:List ι)(sp:Sp):Prop where
 len:∀vs H Q E,sp vs H Q E->vs.length=ps.length
 run:∀(A:aB) (outer:List cV) (s:θ) (H:Hp) (args:Args) (us:List ε) (vs:List V) (Q:VK) (E:XK),dI k A->sP P w K mg base A outer s H->nM s fd args (ps.zip us)->aU vs us->sp vs H Q E ->
  ij (model P w) A (.call (.ref f) args) (CR CX outer P w H s Q E) s
theorem jg.mono{P:Ω}{w:aj}{K:η}{mg:ι->Option ε}{base:af}{CX:pZ}{j k:Nat}{f:ζ}{fd:ay}{ps:List ι}{sp:Sp}(F:jg P w K mg base CX j f fd ps sp)(h:j≤k):
  jg P w K mg base CX k f fd ps sp:=⟨F.len,fun A outer s H args us vs Q E hr=>F.run A outer s H args us vs Q E (hr.mono h)⟩
theorem jg.imp{P:Ω}{w:aj}{K:η}{mg:ι->Option ε}{base:af}{CX:pZ}{k:Nat}{f:ζ}{fd:ay}{ps:List ι}{sp sp':Sp}(F:jg P w K mg base CX k f fd ps sp)
  (h:∀vs H Q E,sp' vs H Q E->sp vs H Q E):jg P w K mg base CX k f fd ps sp':=
 ⟨fun vs H Q E q=>F.len vs H Q E (h _ _ _ _ q),fun A outer s H args us vs Q E hr he hb hv hs=>F.run A outer s H args us vs Q E hr he hb hv (h _ _ _ _ hs)⟩
section
variable {X:Cx} {pins:List (ζ×aL)} {σ:St} {H:Hp} {s s':θ}
theorem Inv.JS(I:Inv X pins σ H s):sP X.prog X.w X.K X.mg X.base X.A X.stack s H:=
 ⟨I.ok.frames,I.ok.mod,I.bs,aK I.ok.rA I.sz,I.stack,I.gB,I.bx,I.bare⟩
theorem Inv.after{Q:VK}{u:ε}(I:Inv X pins σ H s)(h:CE X.stack X.prog X.w H s Q u s'):EP X pins σ Q u s':=by
 obtain⟨v,H',os,bare,un,bx,r,q⟩:=h;obtain⟨hh,g,d,t,os'⟩:=s';obtain rfl:os'=s.os:=os;exact⟨v,H',I.call (h':=hh) (g':=g) (d':=d) (t':=t) (ch:=[]) un bx bare (fun b z=>absurd z (by simp)),r,q⟩
end
def yF(sp:Sp)(dvs:List V)(E:XK)(t:TA):TE:=fun σ H Q=>t σ H fun vs H1=>sp (vs++dvs) H1 Q E
def Binds(K:η)(fd:ay)(ps:List ι)(ds:List ε):Prop:=
 ∀(s:θ) (us:List ε),K.In s.heap->(us++ds).length=ps.length->nM s fd ⟨us,[]⟩ (ps.zip (us++ds))
theorem Binds.all{K:η}{fd:ay}{ps:List ι}(h:∀us:List ε,us.length=ps.length->bindArgs fd ⟨us,[]⟩=pure (ps.zip us)):Binds K fd ps []:=fun s us _ hl=>by
 rw[bO] at hl ⊢;exact .of_eq (h us hl)
def mq(CX:pZ)(X:Cx)(E:XK):Prop:=∀(pins:List (ζ×aL)) (σ:St) (H:Hp) (s:θ) (e:ε) (s':θ),Inv X pins σ H s->CX X.stack H s E e s'->X.xe e s'
section
variable {X:Cx} {CX:pZ} {k:Nat} {f C:ζ} {fd:ay} {ps:List ι} {sp:Sp} {dvs:List V} {ds:List ε} {E:XK} {x m:ι} {p pos apos:aJ} {e o:ρ} {es:List ρ} {ta:TE} {t:TA}
theorem TC{pins:List (ζ×aL)}{σ:St}{H:Hp}{s:θ}{Q:VK}{us:List ε}{vs:List V}(F:jg X.prog X.w X.K X.mg X.base CX k f fd ps sp)(hr:dI k X.A)(hb:Binds X.K fd ps ds)(hd:aU dvs ds)(hx:mq CX X E)
  (I:Inv X pins σ H s) (r:aU vs us) (h:sp (vs++dvs) H Q E):π (model X.prog X.w) X.A (call (.ref f) us) (EP X pins σ Q) X.xe s:=by
 have r2:aU (vs++dvs) (us++ds):=r.append hd;have hl:(us++ds).length=ps.length:=by rw[←r2.length];exact F.len _ _ _ _ h
 refine gO (eV (F.run X.A X.stack s H ⟨us,[]⟩ (us++ds) (vs++dvs) Q E hr I.JS (hb s us I.gI hl) r2 h) fun r s' hq=>?_);cases r with
 |error e=>exact hx pins σ H s e s' I hq
 |ok fl=>
  cases fl with
  |ret u=>exact I.after hq
  |next=>exact bR hq
  |brk=>exact bR hq
  |cont=>exact bR hq
theorem TB(F:jg X.prog X.w X.K X.mg X.base CX k f fd ps sp)(hr:dI k X.A)(hg:Gl X x)(hm:X.mg x=some (.ref f))(hk:bS X.K (.ref f)=true)(hb:Binds X.K fd ps ds)(hd:aU dvs ds)(hx:mq CX X E)
  (ha:PA X (e::es) t) (hdb:(x==("__debug__":ι))=false:=by decide) (he:br (e::es) X.env=(false,eval e X.env)::br es X.env:=by rfl) (hpl:(backTo pos (br es X.env)).any (·.1)=false:=by rfl):
  PE X (.Call (.Name x p) (e::es) [] pos) (yF sp dvs E t):=by
 intro pins s σ H Q I h;refine eN (um I hg hm ?_ hdb);refine gP (h₀:=X.base) I.ok.mod.sx hk (bB (ha pos pins s σ H _ I h) fun us s1 ⟨vs,H1,I1,r,q⟩=>⟨I1.gI,?_⟩) he hpl;exact TC F hr hb hd hx I1 r q
end
structure bK(N P:List ι)(sc:eY):Prop where
 kind:sc.kind=.function
 co:sc.isCoroutine=false
 gen:sc.isGenerator=false
 nd:N.Nodup
 pre:N.take P.length=P
 par:∀x∈P,sc.names.lookup x=some .local∨sc.names.lookup x=some .cell
 JB:∀y∈sc.names,y.2≠.free
theorem IW{kindOf:ι->Option ft}{x:ι}:∀{binds:List (ι×ε)} {m:ι->Option ε},(∀v,(x,v)∉binds)->bindL kindOf binds m x=m x
 |[],_,_=>rfl
 | (n,v)::r,m,h=>by
  unfold bindL;rw[IW fun w hw=>h w (ω _ hw)];split
  ·have:x≠n:=by rintro rfl;exact h v ψ
   simp[this]
  ·rfl
theorem IV{kindOf:ι->Option ft}{x:ι}:∀{binds:List (ι×ε)} {m:ι->Option ε},(∀v,(x,v)∉binds)->bindC kindOf binds m x=m x
 |[],_,_=>rfl
 | (n,v)::r,m,h=>by
  unfold bindC;rw[IV fun w hw=>h w (ω _ hw)];split
  ·rfl
  ·have:x≠n:=by rintro rfl;exact h v ψ
   simp[this]
theorem zt{kindOf:ι->Option ft}{x:ι}{v:ε}:∀{P:List ι} {vs:List ε} {i:Nat} {m:ι->Option ε},P.Nodup->P[i]?=some x->vs[i]?=some v->kindOf x=some .local ->
  bindL kindOf (P.zip vs) m x=some v
 |[],_,_,_,_,h,_,_=>by simp at h
 |_::_,[],_,_,_,_,h,_=>by simp at h
 |p::P,w::vs,0,m,nd,h1,h2,hk=>by
  simp at h1 h2;subst h1;subst h2;show bindL kindOf ((p,w)::P.zip vs) m p=_;unfold bindL;rw[IW fun v hv=>(eZ.mp nd).1 (fR hv).1,if_pos hk];simp
 |p::P,w::vs,i+1,m,nd,h1,h2,hk=>by
  show bindL kindOf ((p,w)::P.zip vs) m x=_;unfold bindL;exact zt (i:=i) (eZ.mp nd).2 (by simpa using h1) (by simpa using h2) hk
theorem IU{kindOf:ι->Option ft}{x:ι}{v:ε}:∀{P:List ι} {vs:List ε} {i:Nat} {m:ι->Option ε},P.Nodup->P[i]?=some x->vs[i]?=some v->kindOf x≠some .local ->
  bindC kindOf (P.zip vs) m x=some v
 |[],_,_,_,_,h,_,_=>by simp at h
 |_::_,[],_,_,_,_,h,_=>by simp at h
 |p::P,w::vs,0,m,nd,h1,h2,hk=>by
  simp at h1 h2;subst h1;subst h2;show bindC kindOf ((p,w)::P.zip vs) m p=_;unfold bindC;rw[IV fun v hv=>(eZ.mp nd).1 (fR hv).1,if_neg hk];simp
 |p::P,w::vs,i+1,m,nd,h1,h2,hk=>by
  show bindC kindOf ((p,w)::P.zip vs) m x=_;unfold bindC;exact IU (i:=i) (eZ.mp nd).2 (by simpa using h1) (by simpa using h2) hk
def start(N:List ι)(vs:List V):St:=vs.map some++aY (N.length-vs.length) none
def ia(CX:pZ)(P:Ω)(w:aj)(K:η)(mg:ι->Option ε)(base:af)(N:List ι)(qual:ι)(scope:eY)(f:ζ)(cd:ε)(A:aB)(outer:List cV)(s:θ)(H:Hp)(E:XK):Cx where
 prog:=P
 w:=w
 K:=K
 mg:=mg
 base:=base
 A:=A.deeper (envOfC qual scope s.heap.objs.size f cd)
 N:=N
 s₀:=s
 H₀:=H
 env:=envOfC qual scope s.heap.objs.size f cd
 outer:=outer
 stack:=envOfC qual scope s.heap.objs.size f cd::outer
 ex:=[]
 calm:=true
 fn:=fun _=>true
 pn:=[]
 xe:=fun e s'=>π (model P w) (A.deeper (envOfC qual scope s.heap.objs.size f cd)) (leaving (envOfC qual scope s.heap.objs.size f cd) e) (fun _ s''=>CX outer H s E e s'') (fun e' s''=>CX outer H s E e' s'') s'
theorem IT{sc:eY}{n:Nat}{x:ι}(h:sc.names.lookup x=some .cell):∃c,(cellsFrom n sc.names []).lookup x=some c:=by
 have q:=j8 sc.names n [] (.inl h);exact jk.mp q
theorem IS{CX:pZ}{P:Ω}{w:aj}{K:η}{mg:ι->Option ε}{base:af}{N ps:List ι}{qual:ι}{scope:eY}{f:ζ}{cd:ε}{A:aB}{outer:List cV}{s s1:θ}{H:Hp}{E:XK}{us:List ε}{vs:List V}
  (S:bK N ps scope) (hd:A.handled=none) (e0:sP P w K mg base A outer s H) (hl:vs.length=ps.length) (r:aU vs us)
  (x:InCallC s s.heap.objs.size (bindL (envOfC qual scope s.heap.objs.size f cd).kindOf (ps.zip us) fun _=>none) (cellsFrom (s.heap.objs.size+1) scope.names []) (bindC (envOfC qual scope s.heap.objs.size f cd).kindOf (ps.zip us) fun _=>none) s1):
  Inv (ia CX P w K mg base N qual scope f cd A outer s H E) [] (start N vs) H s1:=by
 have hpl:ps.length≤N.length:=by have:=congrArg gY S.pre;rw[dN] at this;lia
 obtain⟨h1,tk,rfl,hk⟩:=x.done;have noA:∀b:ζ,b∉(ia CX P w K mg base N qual scope f cd A outer s H E).ex:=fun b z=>absurd (show b∈([]:List ζ) from z) (by simp);refine⟨⟨e0.mod,S.kind,rfl,rfl,Δ _,fun y z c h1 h2=>?_,fun y hy=>?_,fun y c _ h=>?_,fun _=>hd,rj e0.frames,.inr ⟨rfl,rfl⟩,fun b z=>absurd z (noA b),e0.bs,e0.rA,fun b _ _=>noA b,fun b z=>absurd z (noA b),e0.kO,e0.wa⟩,
  rfl,e0.bare,Un.kept hk,⟨_,x.toInCall.ns,fun i y v h1 h2 h3=>?_⟩,fun y c h=>⟨_,x.cell y c h⟩,e0.bx.fresh (Δ _),fun y c h=>?_,fun p hp=>absurd (show p∈([]:List (ζ×aL)) from hp) (by simp),e0.bx.kept hk,?_⟩
 ·exact name_of_addr x.apart (fj h1) (fj h2)
 ·have hy:scope.names.lookup y=some .cell∨scope.names.lookup y=some .free:=hy;rcases hy with hy|hy
  ·exact IT hy
  ·exact absurd rfl (S.JB _ (fj hy))
 ·exact oM (x.above y c (fj h))
 ·have hi:i<vs.length:=by
   unfold start at h2;by_cases hi:i<vs.length
   ·exact hi
   ·rw[eF (by simpa using hi)] at h2;rw[jI] at h2;split at h2<;>cases h2
  have ha:vs[i]?=some v:=by
   unfold start at h2;rw[eR (by simpa using hi),aS] at h2;cases e:vs[i]? with
   |none=>rw[e] at h2;cases h2
   |some a=>rw[e] at h2;cases h2;rfl
  obtain⟨u,hu,rv⟩:=r.get ha;have hp:ps[i]?=some y:=by
   rw[←S.pre,oN (by lia)];exact h1
  have ndP:ps.Nodup:=by rw[←S.pre];exact S.nd.sublist (m8 _ _)
  refine⟨u,rv,?_⟩;rcases S.par y (bW hp) with k|k
  ·exact .inl ⟨k,zt ndP hp hu k⟩
  ·obtain⟨c,e⟩:=IT (n:=s.heap.objs.size+1) k;refine .inr ⟨.inl k,c,e,?_⟩;have q:=x.cell y c e;rw[IU ndP hp hu (by show scope.names.lookup y≠_;rw[k];decide)] at q;exact q
 ·exact e0.bx.fresh (oM (x.above y c (fj h)))
 ·unfold start;show _=N.length;rw[ar,ο,kD];lia
theorem IQ{CX:pZ}{P:Ω}{w:aj}{K:η}{mg:ι->Option ε}{base:af}{k:Nat}{f:ζ}{name qual:ι}{params:Arguments}{body:List aV}{scope:eY}{dV kV doc pm cdv ct oc:ε}{an od:Option ζ}
  {osl:Array (Option ε)} {N ps:List ι} {sp:Sp} (lk:K.lookup f=some ⟨oc,od,.func (gr name qual params body scope dV kV doc pm an cdv ct),osl⟩) (iu:jD K cdv qual=true) (S:bK N ps scope)
  (len:∀vs H Q E,sp vs H Q E->vs.length=ps.length)
  (gK:∀(A:aB) (outer:List cV) (s:θ) (H:Hp) (vs:List V) (Q:VK) (E:XK),dI k (A.deeper (envOfC qual scope s.heap.objs.size f cdv))->sp vs H Q E ->
   ∃t,mZ (ia CX P w K mg base N qual scope f cdv A outer s H E) body t/\t { nx:=fun _ H'=>Q .av H',rt:=Q } (start N vs) H):
  jg P w K mg base CX (k+1) f (gr name qual params body scope dV kV doc pm an cdv ct) ps sp:=by
 refine⟨len,fun A outer s H args us vs Q E hr e0 hb r sD=>?_⟩;have hl:=len _ _ _ _ sD;have KX:K.In s.heap:=e0.mod.sx.keeps fun b o e=>(e0.bs b o e).1;have lim:s.heap.NoLimit:=e0.mod.nolimit.keeps fun b o e=>(e0.bs b o e).1;have hkind:∀y∈ps.zip us,scope.names.lookup y.1=some .local∨(scope.names.lookup y.1=some .cell/\((cellsFrom (s.heap.objs.size+1) scope.names []).lookup y.1).isSome=true):=fun⟨n,v⟩ hy=>by
  rcases S.par n (fR hy).1 with q|q
  ·exact .inl q
  ·exact .inr ⟨q,j8 _ _ _ (.inl q)⟩
 refine kC hr.depth (KX _ _ lk) rfl S.co S.gen rfl (mw KX iu) (hb _ _ _ _ ?_);refine iM S.kind hkind fun env he s1 x=>?_;subst he;refine⟨lim.keeps x.toInCall.keep,codeAny_func ?_⟩;obtain⟨t,ht,hq⟩:=gK A outer s H vs Q E (hr.deeper _) sD;have I:Inv (ia CX P w K mg base N qual scope f cdv A outer s H E) [] (start N vs) H s1:=IS S hr.hd e0 hl r x;refine cH (ht [] s1 (start N vs) H _ I hq) (fun fl s' hs=>?_) fun e s' hs=>hs;have fin:∀{σ':St} {H':Hp} {v:V} {u:ε},Inv (ia CX P w K mg base N qual scope f cdv A outer s H E) [] σ' H' s'->RelV v u->Q v H'->CE outer P w H s Q u s':=
  fun {σ' H' v u} J rv q=>⟨v,H',J.os,J.bare,J.base,J.bx,rv,q⟩
 cases fl with
 |ret u=>
  obtain⟨v,σ',H',J,rv,q⟩:=hs;exact fin J rv q
 |next=>
  obtain⟨σ',H',J,q⟩:=hs;exact fin (v:=V.av) (u:=bf) J rfl q
 |brk=>
  obtain⟨_,_,_,q⟩:=hs;exact bR q
 |cont=>
  obtain⟨_,_,_,q⟩:=hs;exact bR q
end L2
namespace L2
open PySem PySem.Spec PyProof.Rows
section
variable {X:Cx} {x:ι} {p pos:aJ} {e:ρ} {es:List ρ} {t:TA} {id T:String} {r:List V->Hp->VK->Prop}
def AO(r:List V->Hp->VK->Prop)(t:TA):TE:=fun σ H Q=>t σ H fun vs H1=>r vs H1 Q
theorem sk(hc:iB X (.builtin id) r)(hg:Gl X x)(hm:X.mg x=none)(hv:gp x=some (.builtin id))(ha:PA X (e::es) t)(hn:x≠"__name__":=by decide)(hdb:(x==("__debug__":ι))=false:=by decide)
  (he:br (e::es) X.env=(false,eval e X.env)::br es X.env:=by rfl) (hpl:(backTo pos (br es X.env)).any (·.1)=false:=by rfl):PE X (.Call (.Name x p) (e::es) [] pos) (AO r t):=by
 intro pins s σ H Q I h;refine eN (qI I hg hm hv ?_ hn hdb);exact PyProof.Rows.callWith_builtin1 (bB (ha pos pins s σ H _ I h) fun us s1 ⟨vs,H1,I1,r1,q1⟩=>hc pins s1 σ H1 vs us Q I1 r1 q1) he hpl
theorem vQ(hc:iB X (.type T) r)(hg:Gl X x)(hm:X.mg x=none)(hv:gp x=some (.type T))(ha:PA X (e::es) t)(hn:x≠"__name__":=by decide)(hdb:(x==("__debug__":ι))=false:=by decide)
  (he:br (e::es) X.env=(false,eval e X.env)::br es X.env:=by rfl) (hpl:(backTo pos (br es X.env)).any (·.1)=false:=by rfl):PE X (.Call (.Name x p) (e::es) [] pos) (AO r t):=by
 intro pins s σ H Q I h;refine eN (qI I hg hm hv ?_ hn hdb);exact cI (bB (ha pos pins s σ H _ I h) fun us s1 ⟨vs,H1,I1,r1,q1⟩=>hc pins s1 σ H1 vs us Q I1 r1 q1) he hpl
end
end L2
namespace HT
open PySem PyProof.Rows
def lexLt:List Int->List Int->Bool
 |[],[]=>false
 |[],_::_=>true
 |_::_,[]=>false
 |x::xs,y::ys=>if x=y then lexLt xs ys else decide (x<y)
theorem Tz(x y:Int)(xs ys:List Int):lexLt (x::xs) (y::ys)=if x=y then lexLt xs ys else decide (x<y):=rfl
theorem Tw:lexLt [] []=false:=rfl
theorem Tv(y:Int)(ys:List Int):lexLt [] (y::ys)=true:=rfl
theorem Tu(x:Int)(xs:List Int):lexLt (x::xs) []=false:=rfl
theorem IP(A:aB)(s:θ)(a:Int)(t:fE)(c:Int)(u:fE):∃e,SeqAt.EqAt A s (.int a t) (.int c u) e/\(e=true↔a=c):=
 ⟨(a==c),SeqAt.EqAt.int_int a t c u,by simp⟩
theorem Tt(A:aB)(s:θ)(a:Int)(t:fE)(c:Int)(u:fE)(prog:Ω)(w:aj)(E:ε->θ->Prop)(Q:ε->θ->Prop)(h:Q (.bool (decide (a<c))) s):
  π (model prog w) A (richCompare .Lt (.int a t) (.int c u)) Q E s:=
 (PyProof.Rows.lt_int h:π (model prog w) A (compareOp .Lt (.int a t) (.int c u)) Q E s)
section
open PySem.SeqAt
open PySem.AutoSeq1 (wpAny_loadPart')
open PySem.MeetsSeq PySem.MeetsSeq2 PySem.MeetsSeq3
theorem Ts(l b:ζ)(items items2:Array ε)(n n2:Nat)(dd dd2:Option ζ)(sl sl2:Array (Option ε))(ns ms:List Int)(hi:dv items.toList ns)(hj:dv items2.toList ms):
  Meets (cO.«tuple.__lt__» ⟨[.ref l,.ref b],[]⟩)
   (fun _ R s=>s.heap.get? l=some { cls:=.type "tuple",dict:=dd,data:=.seq items n,slots:=sl }/\s.heap.get? b=some { cls:=.type "tuple",dict:=dd2,data:=.seq items2 n2,slots:=sl2 } ∧
    R (.ok (.ret (.bool (lexLt ns ms)))) s):=
 .of_wp fun prog w A R s h=>by
  obtain⟨hp,g,d,tk,os⟩:=s;obtain⟨hl,hb,h⟩:=h;have f2:=oV;have z1:items.size=ns.length:=by rw[←hi.length];simp
  have z2:items2.size=ms.length:=by rw[←hj.length];simp
  wp_walk using wpAny_loadPart' hl,wpAny_loadPart' hb,iC _ (fun rest b s'=>b.1=none/\s'=⟨hp,g,d,tk,os⟩/\∃(vs ws:List ε) (ns' ms':List Int),rest=vs.zip ws ∧
   dv vs ns'/\dv ws ms'/\ns'.length+items2.size=ms'.length+items.size/\R (.ok (.ret (.bool (lexLt ns' ms')))) ⟨hp,g,d,tk,os⟩) _
  case turn=>
   rintro⟨y,x⟩ rest b s' ⟨hb',rfl,vs,ws,ns',ms',hz,hvi,hwi,hlen,hR⟩;cases hvi with
   |nil=>rw[List.zip_nil_left] at hz;cases hz
   |cons a t hvi'=>
    cases hwi with
    |nil=>rw[sW] at hz;cases hz
    |cons c u hwi'=>
     rw[fH] at hz;injection hz with hyx hrest;injection hyx with hy hx;subst hy hx;rw[Tz] at hR;simp only[ak] at hlen;obtain⟨e,he,hiff⟩:=IP A.in1 ⟨hp,g,d,tk,os⟩ a t c u;refine δ (he prog w _ _ ?_);cases e with
     |true=>
      rw[if_pos (hiff.mp rfl)] at hR;wp_walk;exact⟨rfl,rfl,_,_,_,_,hrest,hvi',hwi',by lia,hR⟩
     |false=>
      rw[if_neg (fun q=>absurd (hiff.mpr q) au)] at hR;have hri:=Tt A.in1 ⟨hp,g,d,tk,os⟩ a t c u prog w;wp_walk using hri;exact⟨_,rfl,by simpa using hR⟩
  case fin=>
   rintro⟨b1,b2⟩ s' ⟨hb',rfl,vs,ws,ns',ms',hz,hvi,hwi,hlen,hR⟩;simp only at hb';subst hb';have hv:lexLt ns' ms'=decide (items.size<items2.size):=by
    cases hvi with
    |nil=>
     cases hwi with
     |nil=>
      simp only[eA] at hlen;rw[Tw];exact (decide_eq_false (by lia)).symm
     |cons c u hw=>
      simp only[eA,ak] at hlen;rw[Tv];exact (decide_eq_true (by lia)).symm
    |cons a t hv=>
     cases hwi with
     |nil=>
      simp only[eA,ak] at hlen;rw[Tu];exact (decide_eq_false (by lia)).symm
     |cons c u hw=>
      rw[fH] at hz;cases hz
   rw[hv] at hR;wp_walk;exact⟨_,rfl,by simpa [kE] using hR⟩
  case h=>
   exact⟨rfl,rfl,items.toList,items2.toList,ns,ms,rfl,hi,hj,by lia,h⟩
end
section
variable {prog:Ω} {w:aj} {A:aB} {E:ε->θ->Prop} {s:θ}
theorem zO{l b:ζ}{items items2:Array ε}{ns ms:List Int}{Q:ε->θ->Prop}(hl:lq s.heap l items)(hb:lq s.heap b items2)(hi:dv items.toList ns)(hj:dv items2.toList ms)
  (hu:A.units<cLine) (h:Q (.bool (lexLt ns ms)) s):π (model prog w) A (compareOp .Lt (.ref l) (.ref b)) Q E s:=by
 obtain⟨⟨cls,dd,data,sl⟩,ho,hc,n,hd⟩:=id hl;obtain⟨⟨cls2,dd2,data2,sl2⟩,ho2,hc2,n2,hd2⟩:=id hb;simp only at hc hd hc2 hd2;subst hc hd hc2 hd2;exact richCompare_meets_room (op:=.Lt) ⟨_,ho,rfl⟩ ⟨_,ho2,rfl⟩ PySem.F.slot_tuple_lt PySem.F.entry_tuple_lt (PySem.F.args_tuple_lt_2 _ _) (Ts l b items items2 n n2 dd dd2 sl sl2 ns ms hi hj)
  ⟨ho,ho2,show cB (lexLt ns ms)≠qV/\Q (.bool (lexLt ns ms)) s from⟨(fun x=>nomatch x),h⟩⟩ hu
theorem Eo{t b:ζ}{vs ws:List ε}{Q:ε->θ->Prop}(ht:lq s.heap t vs.toArray)(hb:lq s.heap b ws.toArray)(hv:vs≠[])
  (h1:ws=[]->Q (.ref t) s) (h2:ws≠[]->Q (.ref s.heap.objs.size) { s with heap:=s.heap.push { cls:=.type "tuple",data:=.seq (vs++ws).toArray }})
  (gy:vs.length+ws.length≤ag):π (model prog w) A (binaryOp .Add (.ref t) (.ref b)) Q E s:=by
 obtain⟨⟨cls,dd,data,sl⟩,ho,hc,n,hd⟩:=id ht;obtain⟨⟨cls2,dd2,data2,sl2⟩,ho2,hc2,n2,hd2⟩:=id hb;simp only at hc hd hc2 hd2;subst hc hd hc2 hd2;have e:vs.toArray++ws.toArray=(vs++ws).toArray:=by simp
 by_cases hw:ws=[]
 ·exact concat_meets ⟨_,ho,rfl⟩ ⟨_,ho2,rfl⟩ oz rC j9 jH (ji _ _)
   (tuple_addW1 t b vs.toArray ws.toArray n n2 dd dd2 sl sl2 (by simpa using hv) (by simp[hw])) ⟨ho,ho2,h1 hw⟩
 ·refine concat_meets ⟨_,ho,rfl⟩ ⟨_,ho2,rfl⟩ oz rC j9 jH (ji _ _)
   (tuple_addW2 t b vs.toArray ws.toArray n n2 dd dd2 sl sl2 (by simpa using hv) (by simpa using hw) (by rw[χ,χ];exact gy)) ⟨ho,ho2,?_⟩
  rw[e];exact h2 hw
def bX(n d:Nat):Option Int->Nat
 |none=>d
 |some v=>if v<0 then (v+(n:Int)).toNat else min v.toNat n
theorem wQ(n d:Nat):bX n d none=d:=rfl
theorem tw(n d k:Nat):bX n d (some (k:Int))=min k n:=by
 show (if (k:Int)<0 then ((k:Int)+(n:Int)).toNat else min (k:Int).toNat n)=min k n;rw[if_neg (by lia),ng]
theorem Tr(n d:Nat)(hd:d≤n)(o:Option Int):bX n d o≤n:=by
 cases o with
 |none=>exact hd
 |some v=>
  show (if v<0 then (v+(n:Int)).toNat else min v.toNat n)≤n;by_cases hv:v<0
  ·rw[if_pos hv];lia
  ·rw[if_neg hv];exact Nat.min_le_right _ _
theorem IM(v:Int)(n d:Nat):(if v<0 then max (v+(n:Int)) 0 else min v (n:Int))=((bX n d (some v):Nat):Int):=by
 show (if v<0 then max (v+(n:Int)) 0 else min v (n:Int))=(((if v<0 then (v+(n:Int)).toNat else min v.toNat n):Nat):Int);by_cases hv:v<0
 ·simp only[if_pos hv];lia
 ·simp only[if_neg hv];lia
theorem Tq(lo hi:Option Int)(n:Nat):i3 lo hi 1 (n:Int)=(((bX n 0 lo:Nat):Int),((bX n n hi:Nat):Int)):=by
 have h1:¬((1:Int)<0):=by lia
 unfold i3;simp only[h1,if_false];refine Prod.ext ?_ ?_
 ·cases lo with
  |none=>rfl
  |some v=>exact IM v n 0
 ·cases hi with
  |none=>rfl
  |some v=>exact IM v n n
theorem Tp(i j:Nat):fZ (i:Int) (j:Int) 1=j-i:=by
 unfold fZ;have h1:(1:Int) > 0:=by lia
 simp only[h1,if_true,Int.ediv_one];split<;>lia
theorem IL{v:ε}{o:Option Int}{Q:Option Int->θ->Prop}(p:ls v o)(h:Q o s):π (model prog w) A (cO.Slice.slicePartIndex v) Q E s:=by
 cases p with
 |none=>exact slicePart_none h
 |int i t=>exact slicePart_int h
theorem nQ{sl:ζ}{vl vu:ε}{lo hi:Option Int}{n:Nat}{Q:Int×Int×Nat->θ->Prop}(hs:s.heap.IsSliceOf sl vl vu .none)(pl:ls vl lo)(pu:ls vu hi)
  (h:Q (((bX n 0 lo:Nat):Int),1,bX n n hi-bX n 0 lo) s):π (model prog w) A (mW (.ref sl) (pure (n:Int))) Q E s:=by
 obtain⟨os,hos,hcs,hds⟩:=id hs;unfold mW cO.Slice.sliceFields;refine δ (δ (bp hos hds (x:=vl) rfl (δ (bp hos hds (x:=vu) rfl (δ (bp hos hds (x:=.none) rfl (ν ?_)))))));refine δ (slicePart_none ?_);show π _ _ (if ((1:Int)==0)=true then _ else _) _ _ s;rw[if_neg (by decide)];refine δ (IL pl (δ (IL pu (δ (ν ?_)))));show π _ _ (match i3 lo hi 1 (n:Int) with|(lo,hi)=>pure (lo,(1:Int),fZ lo hi 1)) _ _ s
 rw[Tq lo hi n];show π _ _ (pure (((bX n 0 lo:Nat):Int),(1:Int),fZ ((bX n 0 lo:Nat):Int) ((bX n n hi:Nat):Int) 1)) _ _ s;rw[Tp];exact ν h
theorem Tn(xs:Array ε)(i k:Nat):((aO k).filterMap fun (m:Nat)=>xs[((i:Int)+(m:Int)*1).toNat]?).toArray=((xs.toList.drop i).take k).toArray:=by
 have e:(fun (m:Nat)=>xs[((i:Int)+(m:Int)*1).toNat]?)=fun m=>xs[i+m]?:=by
  funext m;have:((i:Int)+(m:Int)*1).toNat=i+m:=by lia
  rw[this]
 rw[e];have:=pick_run xs i k;rw[jn] at this;have e2:((fun x=>xs[x]?) ∘ fun x=>i+x)=fun m=>xs[i+m]?:=rfl;rw[e2] at this;rw[this]
theorem tT{t sl:ζ}{items:Array ε}{vl vu:ε}{lo hi:Option Int}{Q:ε->θ->Prop}(ht:lq s.heap t items)(hs:s.heap.IsSliceOf sl vl vu .none)(pl:ls vl lo)(pu:ls vu hi)
  (hw:¬(bX items.size 0 lo=0/\bX items.size items.size hi=items.size))
  (h:Q (.ref s.heap.objs.size) { s with heap:=s.heap.push { cls:=.type "tuple",data:=.seq ((items.toList.drop (bX items.size 0 lo)).take (bX items.size items.size hi-bX items.size 0 lo)).toArray }})
  (gy:items.size≤ag):π (model prog w) A (getItem (.ref t) (.ref sl)) Q E s:=by
 have htake:sizeOk (.seq ((items.toList.drop (bX items.size 0 lo)).take (bX items.size items.size hi-bX items.size 0 lo)).toArray):=by
  show ((items.toList.drop (bX items.size 0 lo)).take (bX items.size items.size hi-bX items.size 0 lo)).toArray.size≤ag;rw[χ,dN,fu,fk];lia
 have hj:bX items.size items.size hi≤items.size:=Tr _ _ (Δ _) hi;obtain⟨os,hos,hcs,hds⟩:=id hs;have hTs:s.TypeIs (.ref sl) "slice":=⟨os,hos,hcs⟩;unfold getItem
 try with_reducible refine bU ?_
 first|refine δ (ν ?_)|skip
 refine δ (wpAny_sequenceKey ht.typeIs (by decide) ?_);refine δ (cy (name:=aI "__getitem__") ht.typeIs cK
  (ck cK ht.typeIs entry_tuple_getitem ?_ (args_tuple_getitem _ _)))
 show π _ _ (mV (.ref t) >>= _) _ _ s;refine δ (tupleItemsOf_ ht ?_);refine δ (jh hTs ?_);rw[if_pos (by decide)];refine δ (nQ hs pl pu ?_);have hno:¬((((bX items.size 0 lo:Nat):Int)==0&&(1:Int)==1&&(bX items.size items.size hi-bX items.size 0 lo)==items.size)=true):=by
  intro q;rw[bA,bA] at q;have q1:((bX items.size 0 lo:Nat):Int)=0:=eq_of_beq q.1.1;have q2:bX items.size items.size hi-bX items.size 0 lo=items.size:=eq_of_beq q.2;exact hw ⟨by lia,by lia⟩
 show π _ _ (if (((bX items.size 0 lo:Nat):Int)==0&&(1:Int)==1&&(bX items.size items.size hi-bX items.size 0 lo)==items.size)=true then _ else _) _ _ s;rw[if_neg hno,Tn]
 first
  |exact δ (m:=gu _) (cA (ν ⟨_,rfl,ν h⟩) htake)
  |exact δ (m:=gu _) (cA (δ (ν (ν ⟨_,rfl,ν h⟩))) htake)
  |exact δ (δ (m:=gu _) (cA (ν (ν ⟨_,rfl,ν h⟩)) htake))
  |exact δ (δ (m:=gu _) (cA (ν ⟨_,rfl,ν h⟩) htake))
end
end HT
namespace L2
open PySem PySem.Spec PyProof.Rows
abbrev TO:=St->Hp->(Option Int->Hp->Prop)->Prop
def PO(X:Cx)(e:Option ρ)(t:TO):Prop:=
 ∀(pins:List (ζ×aL)) (s:θ) (σ:St) (H:Hp) (Q:Option Int->Hp->Prop),Inv X pins σ H s->t σ H Q ->
  π (model X.prog X.w) X.A (evalPart e X.env) (fun u s'=>∃o H',Inv X pins σ H' s'/\ls u o/\Q o H') X.xe s
def Ef:TO:=fun _ H Q=>Q none H
def Kq(t:TE):TO:=fun σ H Q=>t σ H fun x H1=>∃i,x=.int i/\Q (some i) H1
theorem intsAre_of{ns:List Int}:∀{us:List ε},aU (ns.map V.int) us->dv us ns:=by
 induction ns with
 |nil=>intro us r;rw[List.map_nil] at r;cases r;exact .nil
 |cons n ns ih=>
  intro us r;rw[cN] at r;cases r with
  |cons r1 r2=>
   obtain⟨t,e⟩:=r1;subst e;exact .cons n t (ih r2)
section
variable {X:Cx} {e:ρ} {te:TE} {lo hi:Option ρ} {tl th:TO} {pos p2:aJ}
theorem Tj:PO X none Ef:=by
 intro pins s σ H Q I h;rw[rD];exact ν ⟨none,H,I,.none,h⟩
theorem Th(h:PE X e te):PO X (some e) (Kq te):=by
 intro pins s σ H Q I hw;rw[evalPart_some];refine bB (h pins s σ H _ I hw) fun u s1 ⟨x,H1,I1,r1,q1⟩=>?_;obtain⟨i,rfl,q⟩:=q1;obtain⟨t,rfl⟩:=r1;exact⟨some i,H1,I1,.int i t,q⟩
def wd(X:Cx)(r:V->Option Int->Option Int->Hp->VK->Prop):Prop:=
 ∀(pins:List (ζ×aL)) (s:θ) (σ:St) (H:Hp) (x:V) (v vl vu:ε) (lo hi:Option Int) (sl:ζ) (Q:VK),Inv X pins σ H s->RelV x v->s.heap.IsSliceOf sl vl vu .none->ls vl lo->ls vu hi->r x lo hi H Q ->
  ∃T id,typeLookup (.type T) "__getitem__" = pure (some (.builtin id))/\s.TypeIs v T/\π (model X.prog X.w) X.A (getItem v (.ref sl)) (EP X pins σ Q) X.xe s
theorem wd.or{r r':V->Option Int->Option Int->Hp->VK->Prop}(h:wd X r)(h':wd X r'):wd X (fun x lo hi H Q=>r x lo hi H Q∨r' x lo hi H Q):=by
 intro pins s σ H x v vl vu lo hi sl Q I rx hs pl pu q;rcases q with q|q
 ·exact h pins s σ H x v vl vu lo hi sl Q I rx hs pl pu q
 ·exact h' pins s σ H x v vl vu lo hi sl Q I rx hs pl pu q
def Xm(r:V->Option Int->Option Int->Hp->VK->Prop)(te:TE)(tl th:TO):TE:=fun σ H Q=>te σ H fun x H1=>tl σ H1 fun l H2=>th σ H2 fun u H3=>r x l u H3 Q
theorem Tg{r:V->Option Int->Option Int->Hp->VK->Prop}(hr:wd X r)(he:PE X e te)(hl:PO X lo tl)(hu:PO X hi th):PE X (.Subscript e (.Slice lo hi none p2) pos) (Xm r te tl th):=by
 intro pins s σ H Q I h;refine Subscript_ (bB (he pins s σ H _ I h) fun v s1 ⟨x,H1,I1,r1,q1⟩=>?_);refine wpAny_Slice (bB (hl pins s1 σ H1 _ I1 q1) fun vl s2 ⟨l,H2,I2,pl,q2⟩=>bB (hu pins s2 σ H2 _ I2 q2) fun vu s3 ⟨u,H3,I3,pu,q3⟩=>?_);rw[rD];refine ν ?_;have I4:Inv X pins σ H3 { s3 with heap:=s3.heap.push { cls:=.type "slice",data:=.fields #[vl,vu,.none]}}:=I3.kept (t':=s3.toks) fun b ob q=>μ _ q;obtain⟨T,id,hT,ht,hg⟩:=hr pins { s3 with heap:=s3.heap.push { cls:=.type "slice",data:=.fields #[vl,vu,.none]}} σ H3 x v vl vu l u s3.heap.objs.size Q I4 r1 (td ..) pl pu q3;show π (model X.prog X.w) X.A (subscriptTail e (.Slice lo hi none p2) v (.ref s3.heap.objs.size)) (EP X pins σ Q) X.xe { s3 with heap:=s3.heap.push { cls:=.type "slice",data:=.fields #[vl,vu,.none]}};exact tail_any (ops:=[.ref s3.heap.objs.size,v]) ht hT hg (by with_unfolding_all rfl)
def sH(xs:List V)(lo hi:Option Int):List V:=(xs.drop (HT.bX xs.length 0 lo)).take (HT.bX xs.length xs.length hi-HT.bX xs.length 0 lo)
theorem IK(xs:List V)(lo hi:Option Int):(sH xs lo hi).length≤xs.length:=by
 unfold sH;rw[dN,fu];lia
def LJ(K:η):V->Option Int->Option Int->Hp->VK->Prop:=fun x lo hi H Q=>∃a xs,x=.ref a/\cY K H a xs ∧
 ¬(HT.bX xs.length 0 lo=0/\HT.bX xs.length xs.length hi=xs.length)/\∀p,H p=none->Q (.ref p) (upd H p (.tup (sH xs lo hi)))
theorem EE:wd X (LJ X.K):=by
 intro pins s σ H x v vl vu lo hi sl Q I rx hs pl pu h;obtain⟨a,xs,rfl,hx,hw,q⟩:=h;cases rx;obtain⟨its,r,ht,hz⟩:=I.tuple hx;have hlen:its.toArray.size=xs.length:=by rw[χ];exact r.length.symm
 refine⟨"tuple",_,cK.lookup,ht.typeIs,?_⟩;refine HT.tT ht hs pl pu (by rw[hlen];exact hw) ?_ (by rw[hlen];exact hz);rw[hlen];refine⟨.ref s.heap.objs.size,_,I.laid (t':=s.toks) (o:=.tup (sH xs lo hi)) (fun b ob q=>μ _ q) (Δ _) ?_,rfl,q _ (I.bx.fresh (Δ _))⟩;exact⟨aK (IK xs lo hi) hz,_,(r.drop (HT.bX xs.length 0 lo)).take (HT.bX xs.length xs.length hi-HT.bX xs.length 0 lo),j7.new _ _⟩
def EG(K:η):R2:=fun x y H Q=>∃a b ns ms,x=.ref a/\y=.ref b/\cY K H a (ns.map V.int)/\cY K H b (ms.map V.int)/\Q (.bl (HT.lexLt ns ms)) H
theorem Ub(hu:X.A.units<cLine):dq X (compareOp .Lt) (EG X.K):=by
 intro pins s σ H x y v u Q I rx ry h;obtain⟨a,b,ns,ms,rfl,rfl,ha,hb,q⟩:=h;cases rx;cases ry;obtain⟨its,r1,p1,_⟩:=I.tuple ha;obtain⟨its2,r2,p2,_⟩:=I.tuple hb;have i1:dv its.toArray.toList ns:=intsAre_of r1;have i2:dv its2.toArray.toList ms:=intsAre_of r2;exact HT.zO p1 p2 i1 i2 hu ⟨.bl (HT.lexLt ns ms),H,I,rfl,q⟩
def DM(K:η):R2:=fun x y H Q=>∃a b xs ys,x=.ref a/\y=.ref b/\cY K H a xs/\cY K H b ys/\xs≠[]/\xs.length+ys.length≤ag ∧
 (ys=[]->Q (.ref a) H)/\(ys≠[]->∀p,H p=none->Q (.ref p) (upd H p (.tup (xs++ys))))
theorem aU.vT{xs:List V}{us:List ε}(r:aU xs us):us=[]↔xs=[]:=by
 cases r with
 |nil=>simp
 |cons _ _=>simp
theorem Ek:dq X (binaryOp .Add) (DM X.K):=by
 intro pins s σ H x y v u Q I rx ry h;obtain⟨a,b,xs,ys,rfl,rfl,ha,hb,hx,hz,q1,q2⟩:=h;cases rx;cases ry;obtain⟨its,r1,p1,_⟩:=I.tuple ha;obtain⟨its2,r2,p2,_⟩:=I.tuple hb;refine HT.Eo p1 p2 (fun z=>hx (r1.vT.mp z)) (fun z=>⟨.ref a,H,I,rfl,q1 (r2.vT.mp z)⟩) (fun z=>?_) (by rw[←r1.length,←r2.length];exact hz);refine⟨.ref s.heap.objs.size,_,I.laid (t':=s.toks) (o:=.tup (xs++ys)) (fun b ob q=>μ _ q) (Δ _) ?_,rfl,q2 (fun w=>z (r2.vT.mpr w)) _ (I.bx.fresh (Δ _))⟩;exact⟨by rw[ar];exact hz,_,r1.append r2,j7.new _ _⟩
end
end L2
namespace L2
open PySem PySem.Spec PyProof.Rows
def rm(n:Nat)(i:Int):Option Nat:=if 0≤i then (if i<n then some i.toNat else none) else if -(n:Int)≤i then some (i+n).toNat else none
def kA{α:Type}(xs:List α)(i:Int):Option α:=(rm xs.length i).bind fun j=>xs[j]?
theorem IJ{n:Nat}{i:Int}{j:Nat}(h:rm n i=some j):seqIndex? i n=some j/\j<n/\-(n:Int)≤i/\i<n:=by
 unfold rm at h;by_cases h0:0≤i
 ·rw[if_pos h0] at h;by_cases h1:i<n
  ·rw[if_pos h1] at h;have e:i.toNat=j:=ao h;exact⟨by rw[seqIndex_of h0 h1,e],by lia,by lia,h1⟩
  ·rw[if_neg h1] at h;cases h
 ·rw[if_neg h0] at h;by_cases h1:-(n:Int)≤i
  ·rw[if_pos h1] at h;have e:(i+n).toNat=j:=ao h;exact⟨by rw[seqIndex_neg (by lia) h1,e],by lia,h1,by lia⟩
  ·rw[if_neg h1] at h;cases h
theorem CU{α:Type}{xs:List α}{i:Int}{v:α}(h:kA xs i=some v):∃j,seqIndex? i xs.length=some j/\xs[j]?=some v/\j<xs.length/\-(xs.length:Int)≤i/\i<xs.length:=by
 unfold kA at h;cases e:rm xs.length i with
 |none=>rw[e] at h;cases h
 |some j=>
  rw[e] at h;obtain⟨h1,h2,h3,h4⟩:=IJ e;exact⟨j,h1,h,h2,h3,h4⟩
theorem qF{α:Type}{xs:List α}{j:Nat}{v:α}(h:xs[j]?=some v):kA xs (j:Int)=some v:=by
 have hj:j<xs.length:=(aN.mp h).1;have e:rm xs.length (j:Int)=some j:=by
  unfold rm;rw[if_pos (by lia),if_pos (by lia)];simp
 unfold kA;rw[e];exact h
def nI(b:ρ):Prop:=∀o i,subscripted b false o i=operate [o,i] (getItem o i)
def u7(X:Cx)(r:R2):Prop:=
 ∀(value slice:ρ) (pins:List (ζ×aL)) (s:θ) (σ:St) (H:Hp) (x y:V) (v u:ε) (Q:VK),Inv X pins σ H s->RelV x v->RelV y u->r x y H Q ->
  subscripted slice false v u=operate [v,u] (getItem v u)->π (model X.prog X.w) X.A (subscriptTail value slice v u) (EP X pins σ Q) X.xe s
def sN(X:Cx)(id:String)(r:V->List V->Hp->VK->Prop):Prop:=
 ∀(pins:List (ζ×aL)) (s:θ) (σ:St) (H:Hp) (x:V) (xs:List V) (v:ε) (us:List ε) (Q:VK),Inv X pins σ H s->RelV x v->aU xs us->r x xs H Q ->
  π (model X.prog X.w) X.A (call (.builtin id) (v::us)) (EP X pins σ Q) X.xe s
section
variable {X:Cx} {a b:ρ} {ta tb:TE} {pos:aJ}
theorem u7.or{r r':R2}(h:u7 X r)(h':u7 X r'):u7 X (fun x y H Q=>r x y H Q∨r' x y H Q):=by
 intro value slice pins s σ H x y v u Q I rx ry q hs;rcases q with q|q
 ·exact h value slice pins s σ H x y v u Q I rx ry q hs
 ·exact h' value slice pins s σ H x y v u Q I rx ry q hs
theorem CT{r:R2}(hr:u7 X r)(ha:PE X a ta)(hb:PE X b tb)(hs:nI b):PE X (.Subscript a b pos) (AN r ta tb):=by
 intro pins s σ H Q I h;exact Subscript_ (Dw ha hb I h fun v u s2 x y H2 I2 rx ry q=>hr a b pins s2 σ H2 x y v u Q I2 rx ry q (hs _ _))
def EK(K:η):R2:=fun x y H Q=>∃p xs i v,x=.ref p/\y=.int i/\ff K H p xs/\kA xs i=some v/\Q v H
def EJ(K:η):R2:=fun x y H Q=>∃p xs i v,x=.ref p/\y=.int i/\cY K H p xs/\kA xs i=some v/\Q v H
def Bu:R2:=fun x y H Q=>∃z i c,x=.str z/\y=.int i/\z.length≤ag/\kA z.cps.toList i=some c/\Q (.str ⟨#[c]⟩) H
theorem Em:u7 X (EK X.K):=by
 intro value slice pins s σ H x y v u Q I rx ry h hs;obtain⟨p,xs,i,z,rfl,rfl,hq,he,q⟩:=h;cases rx;obtain⟨t,rfl⟩:=ry;obtain⟨its,r,pl,hz⟩:=I.list hq;obtain⟨j,h1,h2,h3,h4,h5⟩:=CU he;obtain⟨w,ew,rw'⟩:=r.get h2;have hl:=r.length;have hn:=nZ;have fin:EP X pins σ Q w s:=⟨z,H,I,rw',q⟩;by_cases h0:0≤i
 ·have hj:i.toNat=j:=by
   rw[seqIndex_of h0 h5] at h1;exact ao h1
  exact item_listR pl.isList h0 (by lia) (by rw[hj];simpa using ew) fin hs
 ·have hj:(i+(its.toArray.size:Int)).toNat=j:=by
   rw[seqIndex_neg (by lia) h4] at h1;rw[χ,←hl];exact ao h1
  exact subscriptTail_builtinR (x:=w) pl.isList.typeIs m3.lookup
   (wpAny_getItem_list_neg (Q:=fun r s'=>r=w/\EP X pins σ Q r s') pl.isList (by lia) (by rw[χ]<;>lia) (by lia) (by rw[hj];simpa using ew) ⟨rfl,fin⟩) hs
theorem JL:u7 X (EJ X.K):=by
 intro value slice pins s σ H x y v u Q I rx ry h hs;obtain⟨p,xs,i,z,rfl,rfl,hq,he,q⟩:=h;cases rx;obtain⟨t,rfl⟩:=ry;obtain⟨its,r,pl,hz⟩:=I.tuple hq;obtain⟨j,h1,h2,h3,h4,h5⟩:=CU he;obtain⟨w,ew,rw'⟩:=r.get h2;have hl:=r.length;have hn:=nZ;have fin:EP X pins σ Q w s:=⟨z,H,I,rw',q⟩;exact subscriptTail_builtinR (x:=w) pl.typeIs slot_tuple_getitem.lookup
  (getItem_tuple (j:=j) (Q:=fun r s'=>r=w/\EP X pins σ Q r s') pl (by lia) (by lia) (by rw[χ,←hl];exact h1) (by simpa using ew) ⟨rfl,fin⟩) hs
theorem II:u7 X Bu:=by
 intro value slice pins s σ H x y v u Q I rx ry h hs;obtain⟨z,i,c,rfl,rfl,hz,he,q⟩:=h;obtain⟨t,rfl⟩:=rx;obtain⟨t',rfl⟩:=ry;obtain⟨j,h1,h2,h3,h4,h5⟩:=CU he;have hl:z.cps.toList.length=z.length:=by simp[ι.length]
 rw[hl] at h1 h4 h5;have hn:=nZ;exact tail_any (jB s z t) slot_str_getitem.lookup (getItem_str (c:=c) (by
  have e1:decide (i < -(2^63:Int))=false:=decide_eq_false (by lia);have e2:decide (i≥2^63)=false:=decide_eq_false (by lia);rw[e1,e2,Bool.or_false]) (by rw[h1];simpa using h2) ⟨.str ⟨#[c]⟩,H,I.tok _,⟨_,rfl⟩,q⟩) hs
def Le(K:η):R2:=fun x y H Q=>EK K x y H Q∨EJ K x y H Q∨Bu x y H Q
theorem IH:u7 X (Le X.K):=Em.or (JL.or II)
theorem Ua(its:List ε)(n j:Nat)(u:ε):bw (·.setIfInBounds j u) { cls:=.type "list",data:=.seq its.toArray n }={ cls:=.type "list",data:=.seq (its.set j u).toArray n }:=by
 simp[bw]
theorem Inv.lst{pins:List (ζ×aL)}{σ:St}{H:Hp}{s:θ}{p:ζ}{xs:List V}(I:Inv X pins σ H s)(h:H p=some (.lst xs)):
  ∃(its:List ε) (n:Nat),aU xs its/\s.heap.get? p=some { cls:=.type "list",data:=.seq its.toArray n }/\xs.length≤ag:=by
 obtain⟨z,its,n,r,e⟩:=I.bx p _ h;exact⟨its,n,r,e,z⟩
theorem Inv.JI{pins:List (ζ×aL)}{σ:St}{H:Hp}{s:θ}{p:ζ}{xs ys:List V}{its its':List ε}{n n':Nat}{f:aL->aL}(I:Inv X pins σ H s)(h:H p=some (.lst xs))
  (ho:s.heap.get? p=some { cls:=.type "list",data:=.seq its.toArray n }) (hf:f { cls:=.type "list",data:=.seq its.toArray n }={ cls:=.type "list",data:=.seq its'.toArray n' }) (r:aU ys its') (hz:ys.length≤ag) (t:Nat):
  Inv X pins σ (upd H p (.lst ys)) { s with heap:=s.heap.update p f,toks:=t }:=by
 have e:(s.heap.update p f).get? p=some { cls:=.type "list",data:=.seq its'.toArray n' }:=by
  rw[bQ f ho (by rw[hf]<;>rfl),hf]
 refine I.write (x:=p) (e:=p) (by rw[h];trivial) (.inl rfl) (fun b u hb q=>(bF _ _ (du hb)).trans q) ⟨_,e⟩ ?_;exact⟨hz,its',n',r,e⟩
def DI:V->V->V->Hp->(Hp->Prop)->Prop:=fun o i v H Q=>∃p xs k j,o=.ref p/\i=.int k/\H p=some (.lst xs)/\rm xs.length k=some j/\Q (upd H p (.lst (xs.set j v)))
theorem set_list:J3 X DI:=by
 intro pins s σ H o i v ov iv u Q I ro ri rv h;obtain⟨p,xs,k,j,rfl,rfl,hp,hj,q⟩:=h;cases ro;obtain⟨t,rfl⟩:=ri;obtain⟨its,n,r,ho,hz⟩:=I.lst hp;obtain⟨h1,h2,h3,h4⟩:=IJ hj;have hl:=r.length;have hn:=nZ;have I':Inv X pins σ (upd H p (.lst (xs.set j v))) { s with heap:=s.heap.update p (bw (·.setIfInBounds j u))}:=
  I.JI hp ho (Ua its n j u) (r.set rv j) (by rw[pg];exact hz) s.toks
 by_cases h0:0≤k
 ·have hk:k.toNat=j:=by
   rw[seqIndex_of h0 h4] at h1;exact ao h1
  exact PySem.W.ki_setAt ho h0 (by lia) (by rw[χ,←hl];exact h4) (by rw[hk];exact⟨_,I',q⟩)
 ·have hk:(k+(its.toArray.size:Int)).toNat=j:=by
   rw[seqIndex_neg (by lia) h3] at h1;rw[χ,←hl];exact ao h1
  exact PySem.W.ki_setBack ho (by lia) (by rw[χ,←hl];exact h3) (by lia) (by rw[hk];exact⟨_,I',q⟩)
theorem T9(lo hi:Option Int)(n:Nat):(sliceBounds lo hi none n).1=((HT.bX n 0 lo:Nat):Int)/\(sliceBounds lo hi none n).2.1=((HT.bX n n hi:Nat):Int)/\(sliceBounds lo hi none n).2.2=1:=by
 refine⟨?_,?_,rfl⟩
 ·cases lo with
  |none=>simp[sliceBounds,HT.bX]
  |some i=>
   simp only[sliceBounds,HT.bX,uG,show (1:Int) > 0 by decide,if_true];by_cases h:i<0
   ·simp only[h,if_true]<;>lia
   ·simp only[h,if_false]<;>lia
 ·cases hi with
  |none=>simp[sliceBounds,HT.bX]
  |some i=>
   simp only[sliceBounds,HT.bX,uG,show (1:Int) > 0 by decide,if_true];by_cases h:i<0
   ·simp only[h,if_true]<;>lia
   ·simp only[h,if_false]<;>lia
theorem T6(its:List ε)(lo hi:Option Int):slicePick its.toArray lo hi none=((its.drop (HT.bX its.length 0 lo)).take (HT.bX its.length its.length hi-HT.bX its.length 0 lo)).toArray:=by
 obtain⟨h1,h2,h3⟩:=T9 lo hi its.toArray.size;unfold slicePick;rw[h1,h2,h3];simp only[sliceRange_one,pick_run,χ]<;>rfl
def LK(K:η):V->Option Int->Option Int->Hp->VK->Prop:=fun x lo hi H Q=>∃a xs,x=.ref a/\ff K H a xs/\∀p,H p=none->Q (.ref p) (upd H p (.lst (sH xs lo hi)))
theorem T5:wd X (LK X.K):=by
 intro pins s σ H x v vl vu lo hi sl Q I rx hs pl pu h;obtain⟨a,xs,rfl,hx,q⟩:=h;cases rx;obtain⟨its,r,ht,hz⟩:=I.list hx;have hlen:=r.length;refine⟨"list",_,m3.lookup,ht.isList.typeIs,?_⟩;refine oq ht.isList hs pl pu .none (by simp) ?_ (by rw[χ]<;>lia)
 rw[T6,←hlen];refine⟨.ref s.heap.objs.size,_,I.laid (t':=s.toks) (o:=.lst (sH xs lo hi)) (fun b ob q=>μ _ q) (Δ _) ?_,rfl,q _ (I.bx.fresh (Δ _))⟩;exact⟨aK (IK xs lo hi) hz,_,0,(r.drop (HT.bX xs.length 0 lo)).take (HT.bX xs.length xs.length hi-HT.bX xs.length 0 lo),Ψ _ rfl⟩
theorem T4:dq X (compareOp .NotIn) (fun x y H Q=>∃i j,x=.str i/\y=.str j/\Q (.bl (!(!(ba j i 0 j.length 1).isEmpty))) H):=by
 intro pins s σ H x y v u Q I rx ry h;obtain⟨i,j,rfl,rfl,q⟩:=h;obtain⟨t,rfl⟩:=rx;obtain⟨t',rfl⟩:=ry;exact notIn_str ⟨.bl _,H,I,rfl,q⟩
theorem T3:iB X (.builtin "len") (fun xs H Q=>∃p ys,xs=[.ref p]/\(ff X.K H p ys∨cY X.K H p ys)/\Q (.int ys.length) H):=by
 intro pins s σ H xs us Q I r h;obtain⟨p,ys,rfl,hq,q⟩:=h;obtain⟨u,rfl,rx⟩:=vals1 r;cases rx;have hn:=nZ;rcases hq with hq|hq
 ·obtain⟨its,r',pl,hz⟩:=I.list hq;have hlen:=r'.length;exact Calls.call_len_list pl.isList (by simp only[χ]<;>lia) ⟨.int ys.length,H,I.tok _,⟨s.toks+1,by rw[χ,hlen]⟩,q⟩
 ·obtain⟨its,r',pl,hz⟩:=I.tuple hq;have hlen:=r'.length;exact len_tuple pl (by simp only[χ]<;>lia) ⟨.int ys.length,H,I.tok _,⟨s.toks+1,by rw[χ,hlen]⟩,q⟩
theorem T1:iB X (.builtin "len") (fun xs H Q=>∃z,xs=[.str z]/\z.length≤ag/\Q (.int z.length) H):=by
 intro pins s σ H xs us Q I r h;obtain⟨z,rfl,hz,q⟩:=h;obtain⟨u,rfl,t,rfl⟩:=vals1 r;have hn:=nZ;exact len_str (by lia) ⟨.int z.length,H,I.tok _,⟨_,rfl⟩,q⟩
theorem TZ:iB X (.type "list") (fun xs H Q=>∃p ys,xs=[.ref p]/\(ff X.K H p ys∨cY X.K H p ys)/\∀l,H l=none->Q (.ref l) (upd H l (.lst ys))):=by
 intro pins s σ H xs us Q I r h;obtain⟨p,ys,rfl,hq,q⟩:=h;obtain⟨u,rfl,rx⟩:=vals1 r;cases rx;have fin:∀(its:List ε),aU ys its->ys.length≤ag->∀(h':af) (c':Nat),(∀b o',s.heap.get? b=some o'->h'.get? b=some o') ->
   h'.get? s.heap.objs.size=some { cls:=.type "list",dict:=none,data:=.seq its.toArray c',slots:=#[]}->EP X pins σ Q (.ref s.heap.objs.size) { s with heap:=h' }:=fun its r' hz h' c' kp e=>
  ⟨.ref s.heap.objs.size,_,I.laid (t':=s.toks) kp (Δ _) (show bV X.prog X.w _ h' _ (.lst ys) from⟨hz,its,c',r',e⟩),rfl,q _ (I.bx.fresh (Δ _))⟩
 rcases hq with hq|hq
 ·obtain⟨its,r',pl,hz⟩:=I.list hq;have hlen:=r'.length;obtain⟨o,ho,hc,n,hd⟩:=pl.isList;exact call_list_seq p (.inl rfl) ho hc hd (fun h' c' kp e=>fin its r' hz h' c' kp e) (by simp only[χ]<;>lia)
 ·obtain⟨its,r',pl,hz⟩:=I.tuple hq;have hlen:=r'.length;obtain⟨o,ho,hc,n,hd⟩:=pl;exact call_list_seq p (.inr rfl) ho hc hd (fun h' c' kp e=>fin its r' hz h' c' kp e) (by simp only[χ]<;>lia)
theorem TY:iB X (.type "tuple") (fun xs H Q=>∃p ys,xs=[.ref p]/\((ff X.K H p ys/\∀l,H l=none->Q (.ref l) (upd H l (.tup ys)))∨(cY X.K H p ys/\Q (.ref p) H))):=by
 intro pins s σ H xs us Q I r h;obtain⟨p,ys,rfl,h⟩:=h;obtain⟨u,rfl,rx⟩:=vals1 r;cases rx;rcases h with⟨hq,q⟩|⟨hq,q⟩
 ·obtain⟨its,r',pl,hz⟩:=I.list hq;have hlen:=r'.length;refine call_tuple_list pl.isList (fun h' kp=>?_) (by simp only[χ]<;>lia)
  have I1:Inv X pins σ H { s with heap:=h' }:=I.kept (t':=s.toks) kp;have I2:Inv X pins σ (upd H h'.objs.size (.tup ys)) { s with heap:=h'.push { cls:=.type "tuple",data:=.seq its.toArray }}:=
   I1.laid (t':=s.toks) (fun b o e=>μ _ e) (Δ _) (show bV X.prog X.w _ _ _ (.tup ys) from⟨hz,its,r',j7.new _ _⟩)
  exact⟨.ref h'.objs.size,_,I2,rfl,q _ (I1.bx.fresh (Δ _))⟩
 ·obtain⟨its,r',pl,hz⟩:=I.tuple hq;exact call_tuple_same pl ⟨.ref p,H,I,rfl,q⟩
def EA(K:η)(T:String)(x:V)(H:Hp):Prop:=match x with
 |.str _=>T="str"
 |.int _=>T="int"
 |.ref p=>(T="list"/\∃xs,ff K H p xs)∨(T="tuple"/\∃o,K.lookup p=some o/\o.cls=.type "tuple"/\o.dict=none) ∨
   (T="dict"/\((∃kvs,H p=some (.dK kvs))∨∃kvs,H p=some (.dT kvs)))∨(T="set"/\∃S n,H p=some (.set S n))
 |_=>False
theorem IG{pins:List (ζ×aL)}{σ:St}{H:Hp}{s:θ}{T:String}{x:V}{v:ε}(I:Inv X pins σ H s)(r:RelV x v)(ty:EA X.K T x H):
  s.TypeIs v T/\∀a,v=.ref a->∃ob,s.heap.get? a=some ob/\ob.dict=none:=by
 cases x with
 |str z=>
  obtain⟨t,rfl⟩:=r;cases (show T="str" from ty);exact⟨jB s z t,fun _ e=>nomatch e⟩
 |int i=>
  obtain⟨t,rfl⟩:=r;cases (show T="int" from ty);exact⟨typeIs_int s i t,fun _ e=>nomatch e⟩
 |ref p=>
  cases r;rcases ty with⟨rfl,xs,hq⟩|⟨rfl,o,hk,hc,hd⟩|⟨rfl,hk⟩|⟨rfl,S,n,hk⟩
  ·obtain⟨its,_,pl,_⟩:=I.list hq;refine⟨pl.isList.typeIs,fun a e=>?_⟩;cases e;obtain⟨o,n,e,c,hd,_⟩:=pl;exact⟨o,e,hd⟩
  ·refine⟨⟨o,I.gI p o hk,hc⟩,fun a e=>?_⟩;cases e;exact⟨o,I.gI _ o hk,hd⟩
  ·have z:∃o,s.heap.get? p=some o/\o.ExactDict:=by
    rcases hk with⟨kvs,hk⟩|⟨kvs,hk⟩
    ·obtain⟨_,_,_,_,o,_,_,e,ex,_⟩:=I.bx p _ hk;exact⟨o,e,ex⟩
    ·obtain⟨_,_,_,_,o,_,_,e,ex,_⟩:=I.bx p _ hk;exact⟨o,e,ex⟩
   obtain⟨o,e,ex⟩:=z;refine⟨⟨o,e,ex.1⟩,fun a e2=>?_⟩;cases e2;exact⟨o,e,ex.2.1⟩
  ·obtain⟨o,_,_,_,e,ex,_⟩:=I.bx p _ hk;refine⟨⟨o,e,ex.1⟩,fun a e2=>?_⟩;cases e2;exact⟨o,e,ex.2.1⟩
 |_=>exact bR ty
def EC(K:η)(T:String)(r:V->List V->Hp->VK->Prop)(to:TE):TE:=fun σ H Q=>to σ H fun x H1=>EA K T x H1/\r x [] H1 Q
def DF(K:η)(T:String)(r:V->List V->Hp->VK->Prop)(to:TE)(t:TA):TE:=fun σ H Q=>to σ H fun x H1=>EA K T x H1/\t σ H1 fun xs H2=>r x xs H2 Q
variable {o e:ρ} {es:List ρ} {to:TE} {t:TA} {name:ι} {apos cpos:aJ} {T id:String} {r:V->List V->Hp->VK->Prop}
theorem S0(pa:PlainAttrs T)(slot:Slot T name id)(hty:typeOf (.builtin id)=pure (.type "method_descriptor"))(hm:sN X id r)(ho:PE X o to)
  (gL:attributeBase o name X.env (eval o X.env)=eval o X.env:=by rfl) (jw:(apos.endLine==cpos.line)=true:=by rfl):PE X (.Call (.Attribute o name apos) [] [] cpos) (EC X.K T r to):=by
 intro pins s σ H Q I h;refine wpAny_Call_method0_late gL jw (bB (ho pins s σ H _ I h) fun v s1 ⟨x,H1,I1,r1,ty,q1⟩=>?_);obtain⟨h1,h2⟩:=IG I1 r1 ty;exact⟨T,id,pa,slot,hty,h1,h2,kf rfl (PySem.evalArgs_none (hm pins s1 σ H1 x [] v [] Q I1 r1 .nil q1))⟩
theorem Js(pa:PlainAttrs T)(slot:Slot T name id)(hty:typeOf (.builtin id)=pure (.type "method_descriptor"))(hm:sN X id r)(ho:PE X o to)(ha:PA X (e::es) t)
  (gL:attributeBase o name X.env (eval o X.env)=eval o X.env:=by rfl)
  (xT:((backTo cpos (br (e::es) X.env)).all (fun x=>!x.1)&&(backToKw cpos (keywordEach [] X.env)).all (fun x=>x.1.isSome)
   && decide ((e::es).length+([]:List qm).length+(if ([]:List qm).isEmpty then 0 else 1)<30))=true:=by rfl)
  (jw:(apos.endLine==cpos.line)=true:=by rfl) (hs:br (e::es) X.env=(false,eval e X.env)::br es X.env:=by rfl) (hplain:(backTo cpos (br es X.env)).any (·.1)=false:=by rfl):
  PE X (.Call (.Attribute o name apos) (e::es) [] cpos) (DF X.K T r to t):=by
 intro pins s σ H Q I h;refine wpAny_Call_method_late gL xT jw rfl (bB (ho pins s σ H _ I h) fun v s1 ⟨x,H1,I1,r1,ty,q1⟩=>?_);obtain⟨h1,h2⟩:=IG I1 r1 ty;refine⟨T,id,pa,slot,hty,h1,h2,?_⟩;have hA:=ha cpos pins s1 σ H1 _ I1 q1;rw[hs] at hA ⊢;refine kf (by show (false||(backTo cpos (br es X.env)).any (·.1))=false;rw[hplain]<;>rfl) (rg ?_)
 exact bB hA fun us s2 ⟨vs,H2,I2,r2,q2⟩=>hm pins s2 σ H2 x vs v us Q I2 r1 r2 q2
/- xs.append(e),list.index on a module's tuple .. are sN facts of 06m -/
end
end L2
namespace L2
open PySem PySem.Spec PyProof.Rows
def J6(X:Cx)(id:String)(r:V->List V->Hp->VK->Prop):Prop:=
 ∀(pins:List (ζ×aL)) (s:θ) (σ:St) (H:Hp) (x:V) (xs:List V) (v:ε) (us:List ε) (Q:VK),Inv X pins σ H s->RelV x v->aU xs us->r x xs H Q ->
  π (model X.prog X.w) X.A (call (.builtin id) (v::us)) (EP X pins σ Q) X.xe s
theorem aU.one:∀{x:V} {us:List ε},aU [x] us->∃u,us=[u]/\RelV x u
 |_,_,.cons r .nil=>⟨_,rfl,r⟩
theorem aU.zero:∀{us:List ε},aU [] us->us=[]
 |_,.nil=>rfl
theorem aU.eraseIdx:∀{xs:List V} {us:List ε} (i:Nat),aU xs us->aU (xs.eraseIdx i) (us.eraseIdx i)
 |_,_,_,.nil=>.nil
 |_,_,0,.cons _ t=>t
 |_,_,i+1,.cons r t=>.cons r (aU.eraseIdx i t)
theorem aU.reverse{xs:List V}{us:List ε}(h:aU xs us):aU xs.reverse us.reverse:=by
 induction h with
 |nil=>exact .nil
 |cons r t ih=>rw[jW,jW];exact aU.append ih (.cons r .nil)
theorem aU.rep{xs:List V}{us:List ε}(h:aU xs us):∀k:Nat,aU (aY k xs).flatten (aY k us).flatten
 |0=>.nil
 |k+1=>by
  rw[eB,eB,hJ,hJ];exact aU.append h (aU.rep h k)
theorem CS{α:Type}:∀(l:List α) (i:Nat),(l.eraseIdx i).length≤l.length
 |[],_=>Δ _
 |_::_,0=>pM _
 |_::r,i+1=>oG (CS r i)
theorem foldl_rep(its:List ε):∀(k:Nat) (acc:List ε),
  vk (fun x1 x2=>x1++x2) acc.toArray (aY k its.toArray)=(acc++(aY k its).flatten).toArray
 |0,acc=>by simp
 |k+1,acc=>by
  have e:acc.toArray++its.toArray=(acc++its).toArray:=by simp
  have e2:(acc++its)++(aY k its).flatten=acc++(aY (k+1) its).flatten:=by
   rw[eB,hJ,jY]
  rw[←e2,←foldl_rep its k (acc++its),←e,eB,pk]
section
variable {X:Cx} {pins:List (ζ×aL)} {σ:St} {H:Hp} {s:θ} {l b:ζ} {xs ys zs:List V}
theorem Inv.CY{its its':List ε}{n:Nat}{f:Array ε->Array ε}{t':Nat}(I:Inv X pins σ H s)(hH:H l=some (.lst xs))
  (e:s.heap.get? l=some { cls:=.type "list",data:=.seq its.toArray n }) (hf:f its.toArray=its'.toArray) (hv:aU ys its') (hz:ys.length≤ag):
  Inv X pins σ (upd H l (.lst ys)) { s with heap:=s.heap.update l (bw f),toks:=t' }:=by
 have q:=PySem.IsL.update e f;rw[hf] at q;refine I.write (x:=l) (e:=l) (by rw[hH];exact trivial) (.inl rfl) (fun b' u hb hu=>(bF s.heap (bw f) (du hb)).trans hu) ⟨_,q⟩ ?_;exact⟨hz,its',_,hv,q⟩
theorem Inv.zP{its:List ε}{t':Nat}(I:Inv X pins σ H s)(hv:aU ys its)(hz:ys.length≤ag):
  Inv X pins σ (upd H s.heap.objs.size (.lst ys)) { s with heap:=s.heap.push { cls:=.type "list",data:=.seq its.toArray },toks:=t' }:=
 I.laid (fun _ _ q=>μ _ q) (Δ _) ⟨hz,its,0,hv,Ψ _ rfl⟩
theorem Inv.fresh(I:Inv X pins σ H s):H s.heap.objs.size=none:=I.bx.fresh (Δ _)
theorem Inv.qK(I:Inv X pins σ H s)(hH:H l=some (.lst xs)):xs.length≤ag/\∃(its:List ε) (n:Nat),aU xs its/\xs.length=its.length/\s.heap.get? l=some { cls:=.type "list",data:=.seq its.toArray n }:=by
 obtain⟨z,its,n,r,e⟩:=I.bx l _ hH;exact⟨z,its,n,r,r.length,e⟩
theorem xI{n:Nat}(h:n≤ag):gw n=false:=by
 unfold gw;exact decide_eq_false (by lia)
end
section
variable {X:Cx}
def yp:V->List V->Hp->VK->Prop:=fun x vs H Q=>∃l xs y,x=.ref l/\vs=[y]/\H l=some (.lst xs)/\xs.length<ag/\Q .av (upd H l (.lst (xs++[y])))
theorem CQ:J6 X "list.append" yp:=by
 intro pins s σ H x vs v us Q I rx rv h;obtain⟨l,xs,y,rfl,rfl,hH,hz,q⟩:=h;cases rx;obtain⟨u,rfl,ru⟩:=rv.one;obtain⟨z,its,n,r,hl,e⟩:=I.qK hH;refine eX F.slot_list_append ⟨_,e,rfl⟩ F.entry_list_append (F.args_list_append_2 _ _) (PySem.list_append l its.toArray n u (by rw[χ];lia)) ⟨e,?_⟩;refine⟨.av,_,I.CY (its':=its++[u]) hH e (by simp) (r.append (.cons ru .nil)) ?_,rfl,q⟩;rw[ar,ir];lia
def Ei:V->List V->Hp->VK->Prop:=fun x vs H Q=>∃l b xs zs,x=.ref l/\vs=[.ref b]/\H l=some (.lst xs)/\H b=some (.lst zs)/\xs.length+zs.length≤ag/\Q .av (upd H l (.lst (xs++zs)))
theorem XJ:J6 X "list.extend" Ei:=by
 intro pins s σ H x vs v us Q I rx rv h;obtain⟨l,b,xs,zs,rfl,rfl,hH,hB,hz,q⟩:=h;cases rx;obtain⟨u,rfl,ru⟩:=rv.one;cases ru;obtain⟨z,its,n,r,hl,e⟩:=I.qK hH;obtain⟨z2,its2,n2,r2,hl2,e2⟩:=I.qK hB;have gy:its.toArray.size+its2.toArray.size≤ag:=by rw[χ,χ];lia
 have hlong:¬(!its.toArray.isEmpty&&gw (its.toArray.size+its2.toArray.size))=true:=by
  rw[xI gy,dR];exact au
 refine eX F.slot_list_extend ⟨_,e,rfl⟩ F.entry_list_extend (F.args_list_extend_2 _ _)
  (AutoSeq1.list_extend_list_list_0 l its.toArray n b its2.toArray n2 hlong (by rw[χ];lia) (by lia)) ⟨e,e2,?_⟩
 refine⟨.av,_,I.CY (its':=its++its2) hH e (by simp) (r.append r2) ?_,rfl,q⟩;rw[ar];lia
def AZ:V->List V->Hp->VK->Prop:=fun x vs H Q=>∃l xs i k y,x=.ref l/\vs=[.int i]/\H l=some (.lst xs)/\-(2^63)≤i/\i<2^63/\seqIndex? i xs.length=some k/\xs[k]?=some y/\Q y (upd H l (.lst (xs.eraseIdx k)))
theorem SY:J6 X "list.pop" AZ:=by
 intro pins s σ H x vs v us Q I rx rv h;obtain⟨l,xs,i,k,y,rfl,rfl,hH,h1,h2,hk,hy,q⟩:=h;cases rx;obtain⟨u,rfl,ru⟩:=rv.one;obtain⟨t,rfl⟩:=ru;obtain⟨z,its,n,r,hl,e⟩:=I.qK hH;obtain⟨w,hw,rw'⟩:=r.get hy;refine eX F.slot_list_pop ⟨_,e,rfl⟩ F.entry_list_pop (F.args_list_pop_2 _ _)
  (MeetsSeq.list_pop_at l its.toArray n i t k w (fitsIndex_both h1 h2) (by rw[χ,←hl];exact hk) (by rw[←aR];exact hw) (by rw[χ];lia)) ⟨e,?_⟩
 refine⟨y,_,I.CY (its':=its.eraseIdx k) hH e ?_ (r.eraseIdx k) ?_,rw',q⟩
 ·show its.toArray.eraseIdxIfInBounds k=(its.eraseIdx k).toArray;rw[List.eraseIdxIfInBounds_toArray]
 ·have:=CS xs k;lia
def EO:R2:=fun x y H Q=>∃l b xs zs,x=.ref l/\y=.ref b/\H l=some (.lst xs)/\H b=some (.lst zs)/\xs.length+zs.length≤ag/\∀p,H p=none->Q (.ref p) (upd H p (.lst (xs++zs)))
theorem Jw:dq X (binaryOp .Add) EO:=by
 intro pins s σ H x y v u Q I rx ry h;obtain⟨l,b,xs,zs,rfl,rfl,hH,hB,hz,q⟩:=h;cases rx;cases ry;obtain⟨z,its,n,r,hl,e⟩:=I.qK hH;obtain⟨z2,its2,n2,r2,hl2,e2⟩:=I.qK hB;refine PySem.P.add_list e e2 ?_ (by rw[χ,χ];lia);have ea:its.toArray++its2.toArray=(its++its2).toArray:=by simp
 rw[ea];exact⟨.ref _,_,I.zP (t':=s.toks) (r.append r2) (by rw[ar];lia),rfl,q _ I.fresh⟩
def EF:R2:=fun x y H Q=>∃l k xs,x=.ref l/\y=.int k/\H l=some (.lst xs)/\-(2^63)≤k/\k<2^63/\xs.length*k.toNat≤ag ∧
 ∀p,H p=none->Q (.ref p) (upd H p (.lst (aY k.toNat xs).flatten))
theorem len_rep{α:Type}(xs:List α)(k:Nat):(aY k xs).flatten.length=k*xs.length:=by
 induction k with
 |zero=>simp
 |succ k ih=>rw[eB,hJ,ar,ih,Nat.succ_mul,Nat.add_comm]
theorem SX:dq X (binaryOp .Mult) EF:=by
 intro pins s σ H x y v u Q I rx ry h;obtain⟨l,k,xs,rfl,rfl,hH,h1,h2,hz,q⟩:=h;cases rx;obtain⟨t,rfl⟩:=ry;obtain⟨z,its,n,r,hl,e⟩:=I.qK hH;have hlen:its.toArray.size*k.toNat≤ag:=by rw[χ,←hl];exact hz
 have hcap:¬its.toArray.size*k.toNat > (2^63-1) / 8:=by
  have:(ag:Nat)≤(2^63-1) / 8:=by decide
  lia
 have hfit:¬(!cO.List.listFitsIndex k)=true:=by
  rw[fitsIndex_both h1 h2];exact au
 have hlong:¬gw (its.toArray.size*k.toNat)=true:=by
  rw[xI hlen];exact au
 have hnew:vk (fun x1 x2=>x1++x2) #[] (aY (if its.toArray.isEmpty=true then 0 else k.toNat) its.toArray)=(aY k.toNat its).flatten.toArray:=by
  have f0:∀m:Nat,vk (fun x1 x2=>x1++x2) #[] (aY m its.toArray)=(aY m its).flatten.toArray:=fun m=>by
   have:=foldl_rep its m [];rw[ey] at this;exact this
  rw[f0];cases its with
  |nil=>simp
  |cons a r'=>rw[if_neg (by simp)]
 refine wpAny_binaryOp_repeat_ref (T:="list") (U:="int") (by decide) ⟨_,e,rfl⟩ (fun s'=>typeIs_int s' k t) noFill_list_mul F.fills_int_mul F.slot_int_rmul repeat_list F.slot_int_index.lookup
  (eX F.slot_int_rmul (typeIs_int s k t) F.entry_int_rmul (F.args_int_rmul_2 _ _) (int___rmul___int_list k t l its.toArray n)
   ⟨e,rfl,⟨_,e,rfl⟩,eX F.slot_list_mul ⟨_,e,rfl⟩ F.entry_list_mul (F.args_list_mul_2 _ _) (AutoListH.list___mul___list_int_3 l its.toArray n k t hfit hcap hlong) ⟨e,?_⟩⟩)
 rw[hnew];exact⟨.ref _,_,I.zP (t':=s.toks) (r.rep k.toNat) (by rw[len_rep,Nat.mul_comm];exact hz),rfl,q _ I.fresh⟩
end
end L2
namespace Lp
open PySem PySem.W PySem.Calls PyProof.Rows
theorem SW{P:Params}{h:af}:∀(ns:List Int) (vs:List ε),WellAll P h vs (ns.map WData.int)->dv vs ns:=by
 intro ns
 induction ns with
 |nil=>
  intro vs w;rw[List.map_nil] at w;cases w;exact .nil
 |cons n ns ih=>
  intro vs w;rw[cN] at w;cases w with
  |cons a b=>
   cases a;exact .cons _ _ (ih _ b)
theorem SV{l:OpenLaw}{n:Nat}(hn:l.most=some n){P:Params}{h:af}{args:List WData}{vals:List ε}
  (zV:l.row.toRowW.claim.pre args=true) (hwl:WellAll P h vals args):
  ∃a vs ns,vals=[aQ a]/\args=[WData.list (ns.map WData.int)]/\h.get? a=some { cls:=.type "list",data:=.seq vs.toArray }/\dv vs ns/\ns.length≤n:=by
 have hsh:WShape.hasAll [] args [.list .int]=true:=(pre_splitW zV).1;have hc:l.pre.holds [] { args:=args }=true:=(pre_splitW zV).2;obtain⟨d,r,rfl,h1,h2⟩:=hasAllW_cons hsh;obtain rfl:=hasAllW_nil h2;obtain⟨xs,rfl,h3⟩:=hasW_list h1;obtain⟨ns,rfl⟩:=items_int h3;have hlen:ns.length≤n:=by
  unfold OpenLaw.pre at hc;have h4:(WTm.not (.lt (.lit (.int (n:Int))) (.len (.arg 0)))).holds [] { args:=[.list (ns.map .int)]}=true:=by
   have h4:=(holds_andW hc).1;rw[hn] at h4;exact h4
  have h5:=condW_of h4 (w_not (w_lt w_lit (w_len_list (w_arg rfl))));rw[ο] at h5;refine oJ fun q=>?_;have q':(n:Int)<((ns.length:Nat):Int):=by lia
  first
   | (rw[decide_eq_true q'] at h5;exact absurd h5 (by decide))
   | (simp at h5;lia)
 cases hwl with
 |cons w1 w2=>
  cases w2;cases w1 with
  |list ho hall=>exact⟨_,_,ns,rfl,rfl,ho,SW ns _ hall,hlen⟩
theorem SU(l:OpenLaw)(args:List WData):l.row.toRowW.claim.post args (.bool true) args=true:=
 postW_of (r:=l.row.toRowW) (X:=(true==true))
  (show WShape.has [] (.bool true) .bool=true by first|rfl|decide|simp[WShape.has,WShape.arms,WShape.armsAll])
  (show (WTm.eq .res (.lit (.bool true))).value [] { args:=args,res:=some (.bool true),after:=args }=some (.bool (true==true)) from w_eq_bool (w_res rfl) w_lit) rfl
theorem yg{l:OpenLaw}{n:Nat}{q:Ω}{loose:List ι}{XP:(ι->Option ε)->af->Prop}{YP:aj->af->Prop}{d:DefRec}
  (hn:l.most=some n) (hdf:d.params.defaults=[])
  (call:∀(w:aj) (s₀ s₁:θ) (mg mb:ι->Option ε) (fa:ζ) (o:aL) (pm cd doc:ε) (a:ζ) (vs:List ε) (ns:List Int),
   Ground q loose [] XP w s₀ mg mb s₁.heap->YP w s₁.heap ->
   s₁.heap.get? fa=some o->o.data=.func (docDef d.name d.params d.body d.scope pm cd doc)->s₁.heap.CodeRec cd d.name->mg d.name=some (.ref fa) ->
   s₁.heap.get? a=some { cls:=.type "list",data:=.seq vs.toArray }->dv vs ns->ns.length≤n->s₁.gens = #[] ->
   ij (model l.prog w) callerA (.call (.ref fa) ⟨[.ref a],[]⟩) (fun r s'=>r=.ok (.ret (.bool true))/\OldK s₁.heap s'.heap/\s'.os=s₁.os/\jE s'.gens) s₁):
  WalkO q loose XP YP l.row.toRowW d [] (fun f vs=>vf f vs):=by
 intro w s₀ s₁ mg mb G Y fa o pm cd doc dV kV ho hd iu hD hmg hg args vals as zV hlay rp hwl hlo;obtain rfl:dV=.none:=Dflts.none hD hdf;obtain rfl:kV=.none:=Dflts.noKw hD;obtain⟨a,vs,ns,rfl,rfl,hobj,hints,hlen⟩:=SV hn zV hwl;refine enter_call (eV (call w s₀ s₁ mg mb fa o pm cd doc a vs ns G Y ho (fd_plain hd) iu hmg hobj hints hlen hg) fun r s' hq=>?_);obtain⟨rfl,h2,h3,h4⟩:=hq;exact⟨.inl ⟨.bool true,.bool true,[],rfl,fun _=>rfl,.bool true,SU l _,fun _=>⟨m9,fun _ hm=>(nomatch hm)⟩⟩,h2,h3,h4⟩
end Lp
namespace L2
open PySem PySem.Spec PyProof.Rows
theorem Jr:∀{vs:List ε} {ns:List Int},dv vs ns->aU (ns.map V.int) vs
 |_,_,.nil=>.nil
 |_,_,.cons n t h=>.cons ⟨t,rfl⟩ (Jr h)
def AD(H:Hp):Prop:=∀b,H b=none∨∃o xs,H b=some (.cP o (.lst xs))
theorem SR{P:Ω}{w:aj}{K:η}{mg mb:ι->Option ε}{CX:pZ}{k:Nat}{fa a:ζ}{fd:ay}{x:ι}{sp:Sp}{s₁:θ}{vs:List ε}{ns:List Int}
  (KX:K.In s₁.heap) (hns:s₁.heap.Ns aH mg) (hb:s₁.heap.Ns builtinsNs mb) (hbb:∀x:ι,x≠"__name__"->mb x=gp x) (hlim:s₁.heap.NoLimit) (hg:s₁.gens = #[])
  (ha:s₁.heap.get? a=some { cls:=.type "list",data:=.seq vs.toArray }) (hi:dv vs ns) (hl:ns.length≤ag) (hr:dI k callerA)
  (F:∀base:af,K.In base->base.Ns aH mg->jg P w K mg base CX k fa fd [x] sp) (hbind:∀(s:θ) (u:ε),nM s fd ⟨[u],[]⟩ [(x,u)])
  (sD:∀H:Hp,AD H->ff K H a (ns.map V.int)->sp [.ref a] H (fun v _=>v=.bl true) fun _ _ _=>False)
  (JO:∀H e s',CX [] H s₁ (fun _ _ _=>False) e s'->False):
  ij (model P w) callerA (.call (.ref fa) ⟨[.ref a],[]⟩) (fun r s'=>r=.ok (.ret (.bool true))/\OldK s₁.heap s'.heap/\s'.os=s₁.os/\jE s'.gens) s₁:=by
 have rv:=Jr hi;have lenV:=hi.length
 -- from an abstract heap in which nothing but the script may be tracked
 have core:∀H:Hp,AD H->ff K H a (ns.map V.int)->dJ P w H s₁.heap->(∀b,H b≠none->b=a)->(H a≠none->K.lookup a=none) ->
   ij (model P w) callerA (.call (.ref fa) ⟨[.ref a],[]⟩) (fun r s'=>r=.ok (.ret (.bool true))/\OldK s₁.heap s'.heap/\s'.os=s₁.os/\jE s'.gens) s₁:=by
  intro H hO hS bx hA hK;have base_of:∀{b:ζ} {o:aL},s₁.heap.get? b=some o->H b=none->(qM s₁.heap H).get? b=some o:=fun e n=>US e n;have noA:∀{b:ζ} {o:aL} {es:Array DictEntry} {ep:Nat},s₁.heap.get? b=some o->o.data=.dict es ep->H b=none:=fun {b o es ep} e d=>by
   cases q:H b with
   |none=>rfl
   |some u=>
    have e':b=a:=hA b (by rw[q];simp);subst e';rw[ha] at e;cases e;have d':Data.seq vs.toArray _=Data.dict es ep:=d;cases d'
  have nsK:∀{b:ζ} {m:ι->Option ε},s₁.heap.Ns b m->(qM s₁.heap H).Ns b m:=fun {b m} ⟨o,es,ep,e,d,r⟩=>⟨o,es,ep,base_of e (noA e d),d,r⟩;have hKb:K.In (qM s₁.heap H):=fun b o e=>base_of (KX b o e) (by
   cases q:H b with
   |none=>rfl
   |some u=>
    have e':b=a:=hA b (by rw[q];simp);subst e';rw[hK (by rw[q];simp)] at e;cases e)
  have hM:Mod K mg (qM s₁.heap H):=⟨hKb,nsK hns,⟨mb,nsK hb,hbb⟩,let ⟨mc,h1,h2⟩:=hlim;⟨mc,nsK h1,h2⟩⟩
  have e0:sP P w K mg (qM s₁.heap H) callerA [] s₁ H:=⟨rfl,hM,fun b o e=>UR e,Nat.le_of_eq (UT _ _),trivial,fun b hb=>absurd (show b∈([]:List ζ) from hb) (by simp),bx,.of_eq hg⟩;refine eV ((F _ hKb (nsK hns)).run callerA [] s₁ H ⟨[.ref a],[]⟩ [.ref a] [.ref a] _ _ hr e0 (hbind s₁ (.ref a)) (.cons rfl .nil) (sD H hO hS)) fun r s' h=>?_;cases r with
  |error e=>exact (JO H e s' h).elim
  |ok fl=>
   cases fl with
   |next=>exact bR h
   |brk=>exact bR h
   |cont=>exact bR h
   |ret u=>
    obtain⟨v,H',os,bare,un,hok',r',q⟩:=h;have q':v=.bl true:=q;subst q';obtain rfl:u=cB true:=r';refine⟨rfl,OldK.of_keep fun b o e=>?_,os,bare⟩;cases q:H b with
    |none=>exact un.keep b o e q (by intro z;exact absurd (show b∈([]:List ζ) from z) (by simp)) (by simp)
    |some u=>
     rcases hO b with z|⟨ob,xs,z⟩
     ·rw[q] at z;cases z
     ·have z2:=un.hZ b ob _ z;obtain⟨e1,_⟩:=bx b _ z;obtain⟨e2,_⟩:=hok' b _ z2;rw[e] at e1;cases e1;exact e2
 cases hk:K.lookup a with
 |some o=>
  -- the script is one of the module's own objects
  have e:=KX a o hk;rw[ha] at e;cases e;refine core (fun _=>none) (fun _=>.inl rfl) (.inr ⟨_,vs.toArray,_,hk,rfl,rfl,rfl,by rw[χ,lenV];exact hl,by simpa using rv⟩) (fun b u z=>by have z':(none:Option HO)=some u:=z;cases z') (fun b z=>absurd rfl z) fun z=>absurd rfl z
 |none=>
  refine core (fun b=>if b=a then some (.cP { cls:=.type "list",data:=.seq vs.toArray } (.lst (ns.map V.int))) else none) (fun b=>?_) (.inl (.inr ⟨{ cls:=.type "list",data:=.seq vs.toArray },if_pos rfl⟩)) (fun b u z=>?_) (fun b z=>?_) fun _=>hk
  ·by_cases hb:b=a
   ·exact .inr ⟨_,_,if_pos hb⟩
   ·exact .inl (if_neg hb)
  ·by_cases hb:b=a
   ·have z':=(if_pos hb).symm.trans z;cases z';subst hb;exact⟨ha,by rw[ο];exact hl,vs,_,rv,ha⟩
   ·have z':=(if_neg hb).symm.trans z;cases z'
  ·by_cases hb:b=a
   ·exact hb
   ·exact absurd (if_neg hb) z
end L2
namespace L2
open PySem PySem.Spec PyProof.Rows
theorem yi{l:vj}{n k:Nat}{q:Ω}{loose:List ι}{XP:(ι->Option ε)->af->Prop}{YP:aj->af->Prop}{d:DefRec}{K:Params->η}{CX:aj->pZ}{sp:aj->Sp}{x:ι}
  (hn:l.most=some n) (hn2:n≤ag) (hdf:d.params.defaults=[]) (hr:dI k callerA)
  (hY:∀(w:aj) (h:af),YP w h->(K w.params).In h)
  (F:∀(w:aj) (mg:ι->Option ε) (fa:ζ) (h:af),(K w.params).In h->h.Ns aH mg->mg d.name=some (.ref fa) ->
   ∃fd:ay,(∀(s:θ) (u:ε),nM s fd ⟨[u],[]⟩ [(x,u)]) ∧
    ∀base:af,(K w.params).In base->base.Ns aH mg->jg l.prog w (K w.params) mg base (CX w) k fa fd [x] (sp w))
  (sD:∀(w:aj) (H:Hp) (a:ζ) (ns:List Int),ns.length≤n->AD H->ff (K w.params) H a (ns.map V.int)->sp w [.ref a] H (fun v _=>v=.bl true) fun _ _ _=>False)
  (JO:∀(w:aj) (H:Hp) (s:θ) (e:ε) (s':θ),CX w [] H s (fun _ _ _=>False) e s'->False):
  PySem.W.WalkO q loose XP YP l.row.toRowW d [] (fun f vs=>vf f vs):=by
 refine Lp.yg hn hdf fun w s₀ s₁ mg mb fa o pm cd doc a vs ns G Y ho hd iu hmg hobj hints hlen hg=>?_;have KX:=hY w _ Y;obtain⟨fd,hb,hF⟩:=F w mg fa _ KX G.T.g hmg;exact SR KX G.T.g G.T.b G.T.builtins G.T.nolimit hg hobj hints (aK hlen hn2) hr hF hb (fun H hO hS=>sD w H a ns hlen hO hS) fun H e s'=>JO w H s₁ e s'
end L2
/- THE LAST THEOREM (shape;LID,My.* are yours):
  My.Ed: a structure of the addresses that your layer names (classes,functions);My.Txt K t: a structure (Prop) of the equations over K;
  My.wJ:{K} {implicit addresses ..} (e1:nsIn K aH "law" = some (some (.ref f))) (e2:K.lookup f=some ⟨oc,od,.func (fnOf "law" "law" params body scope dV kV doc pm an cdv ct),sl⟩) (e3:codeIn K cdv "law" = true) ..:∃t,My.Txt K t
set_option maxRecDepth 100000 in
set_option maxHeartbeats 0 in
theorem PySem.Challenge.cw_LID_holds : PySem.Challenge.rw_LID.Holds := by
 w_on;o_law;k_head;(case hw=>w_witness2)
 k_fill
 refine L2.yi (l:=PySem.Challenge.rw_LID) (n:=63) (k:=40) (x:="script") (CX:=fun w=>..) (sp:=fun _=>My.mf) rfl (by decide) rfl ⟨rfl,by decide,by decide⟩ (fun w h Y=>PySem.W.kIn_of Y) ?F ?S ?C
 case F=>
  intro w mg fa h KX G hmg
  have T:∃t,My.Txt (L2.KOf KX) t:=by
   dsimp only[L2.KOf]                          -- K must stand as «<heap const> w.params» for k_is
   refine' My.wJ ?e1 ?e2 ?e3 ..
   (case e1=>PySem.W.k_is)                    -- in the order: a name -> its address -> its object -> its parts
   (case e2=>PySem.W.k_is)
   ..
  obtain⟨t,T⟩:=T
  have e0:=hmg.symm.trans (aC KX G T.law)
  cases e0                                       -- fa is the law's own address
  exact⟨_,fun s u=>.of_eq rfl,fun base kb nb=>My.law_fn T kb nb⟩     -- if «.of_eq rfl» comes too early: refine' ⟨_,?b,fun base kb nb=>My.law_fn T kb nb⟩;exact fun s u=>.of_eq rfl
 case S=>exact fun w H a ns hl hO hS=>..
 case C=>exact ..
(the tactic k_is has no namespace: write k_is) -/
namespace L2
open PySem PySem.Spec PyProof.Rows
def nG(s:aV):Arguments:=match s with
 |.FunctionDef _ a _ _ _ _ _ _ _ _=>a
 |_=>{ posonlyargs:=[],args:=[],vararg:=none,kwonlyargs:=[],kw_defaults:=[],kwarg:=none,defaults:=[]}
def e8(s:aV):List aV:=match s with
 |.FunctionDef _ _ b _ _ _ _ _ _ _=>b
 |_=>[]
def ai(s:aV):eY:=match s with
 |.FunctionDef _ _ _ _ _ _ sc _ _ _=>sc
 |_=>{ kind:=.function,names:=[],isGenerator:=false,isCoroutine:=false }
abbrev qb:pZ:=fun _ _ _ _ _ _=>False
abbrev E0:XK:=fun _ _ _=>False
theorem KC{X:Cx}:mq qb X E0:=fun _ _ _ _ _ _ _ h=>h.elim
structure fy(K:η)(x qual:ι)(st:aV)(f:ζ)(fd:ay):Prop where
 ex:∃(oc:ε) (od:Option ζ) (kV doc pm:ε) (an:Option ζ) (cdv ct:ε) (osl:Array (Option ε)),
  fd=gr x qual (nG st) (e8 st) (ai st) .none kV doc pm an cdv ct/\K.lookup f=some ⟨oc,od,.func fd,osl⟩/\jD K cdv qual=true
 kp:bS K (.ref f)=true
section
variable {P:Ω} {w:aj} {K:η} {mg:ι->Option ε} {base:af}
theorem fy.ok{x qual:ι}{st:aV}{f:ζ}{fd:ay}{N ps:List ι}{k:Nat}{sp:Sp}(F:fy K x qual st f fd)(S:bK N ps (ai st))(len:∀vs H Q E,sp vs H Q E->vs.length=ps.length)
  (gK:∀(cdv:ε) (A:aB) (outer:List cV) (s:θ) (H:Hp) (vs:List V) (Q:VK) (E:XK),dI k (A.deeper (envOfC qual (ai st) s.heap.objs.size f cdv))->sp vs H Q E ->
   ∃t,mZ (ia qb P w K mg base N qual (ai st) f cdv A outer s H E).lG (e8 st) t/\t { nx:=fun _ H'=>Q .av H',rt:=Q } (start N vs) H):jg P w K mg base qb (k+1) f fd ps sp:=by
 obtain⟨oc,od,kV,doc,pm,an,cdv,ct,osl,rfl,lk,iu⟩:=F.ex;refine IQ lk iu S len fun A outer s H vs Q E hr sD=>?_;obtain⟨t,h,q⟩:=gK cdv A outer s H vs Q E hr sD;exact⟨t,h.lG,q⟩
theorem fy.binds{x qual:ι}{st:aV}{f:ζ}{fd:ay}{ps:List ι}(F:fy K x qual st f fd)
  (h:∀(kV doc pm:ε) (an:Option ζ) (cdv ct:ε) (us:List ε),us.length=ps.length->bindArgs (gr x qual (nG st) (e8 st) (ai st) .none kV doc pm an cdv ct) ⟨us,[]⟩=pure (ps.zip us)):Binds K fd ps []:=by
 obtain⟨oc,od,kV,doc,pm,an,cdv,ct,osl,rfl,lk,iu⟩:=F.ex;exact .all (h kV doc pm an cdv ct)
theorem Jq{x qual:ι}{st:aV}{f:ζ}{oc:ε}{od an:Option ζ}{osl:Array (Option ε)}{kV doc pm cdv ct:ε}(l:K.lookup f=some ⟨oc,od,.func (gr x qual (nG st) (e8 st) (ai st) .none kV doc pm an cdv ct),osl⟩)
  (c:jD K cdv qual=true) (k:bS K (.ref f)=true):fy K x qual st f (gr x qual (nG st) (e8 st) (ai st) .none kV doc pm an cdv ct):=⟨⟨oc,od,kV,doc,pm,an,cdv,ct,osl,rfl,l,c⟩,k⟩
end
section
variable {X:Cx}
theorem pv(i:Nat){x:ι}{pos:aJ}(hN:X.N[i]?=some x:=by rfl)(hv:JX X.env.scope x:=by first|exact sV rfl|exact qj (sV rfl)|exact qj (qj rfl))(hd:(x==("__debug__":ι))=false:=by decide)
  (iu:(x==("__classdict__":ι))=false:=by decide):PE X (.Name x pos) (yD i):=UQ hN hv hd iu
end
end L2
namespace L3
open PySem PySem.Spec PyProof.Rows L2
inductive D where
 |av|bl (b:Bool)|int (i:Int)|str (x:ι)|tup (xs:List D)|dA (xs:List D)|obj (a:ζ)|dc (a:ζ)
def kB(K:η)(H:Hp)(a:ζ)(xs:List V):Prop:=
 (∃o,H a=some (.cP o (.lst xs))) ∨
  ∃(o:aL) (its:Array ε) (n:Nat),K.lookup a=some o/\o.cls=.type "list"/\o.dict=none/\o.data=.seq its n/\its.size≤ag/\aU xs its.toList
theorem kB.l{K:η}{H:Hp}{a:ζ}{xs:List V}(h:kB K H a xs):ff K H a xs:=by
 rcases h with h|h
 ·exact .inl (.inr h)
 ·exact .inr h
mutual
def Hv(K:η)(H:Hp):D->V->Prop
 |.av,v=>v=.av
 |.bl b,v=>v=.bl b
 |.int i,v=>v=.int i
 |.str x,v=>v=.str x
 |.tup ds,v=>∃a vs,v=.ref a/\cY K H a vs/\aD K H ds vs
 |.dA ds,v=>∃a vs,v=.ref a/\kB K H a vs/\aD K H ds vs
 |.obj a,v=>v=.ref a
 |.dc a,v=>v=.ref a/\∃ob φ,H a=some (.cP ob (.ext φ))/\ob.cls=.type "dict"
def aD(K:η)(H:Hp):List D->List V->Prop
 |[],vs=>vs=[]
 |d::ds,vs=>∃v r,vs=v::r/\Hv K H d v/\aD K H ds r
end
inductive GO where
 |lst (ds:List D)|mm|eL
 |gen (R:η->ζ->Hp->Prop)
def GO.plain:GO->Prop
 |.gen _=>False
 |_=>True
abbrev Gp:=ζ->Option GO
def eH(G:Gp)(a:ζ)(o:GO):Gp:=fun b=>if b=a then some o else G b
theorem kM{G:Gp}{a:ζ}{o:GO}:eH G a o a=some o:=by simp[eH]
theorem kL{G:Gp}{a b:ζ}{o:GO}(h:b≠a):eH G a o b=G b:=by simp[eH,h]
theorem SQ{G:Gp}{a b:ζ}{o u:GO}(hn:G a=none)(h:G b=some u):eH G a o b=some u:=by
 rw[kL]
 ·exact h
 ·intro e;rw[e,hn] at h;cases h
theorem SO{G:Gp}{a:ζ}{o u:GO}:eH (eH G a o) a u=eH G a u:=by
 funext b;unfold eH;by_cases h:b=a
 ·rw[if_pos h,if_pos h]
 ·rw[if_neg h,if_neg h,if_neg h]
def tM(a b c:Int):Prop:=0≤a/\0≤c/\c<2147483647
def u9(K:η)(H:Hp)(a:ζ):GO->Prop
 |.lst ds=>∃vs,H a=some (.lst vs)/\aD K H ds vs
 |.mm=>∃i j k,H a=some (.lst [.int i,.int j,.int k])/\tM i j k
 |.eL=>H a=some (.ext fun h=>∃o,h.get? a=some o/\o.cls=.type "dict")
 |.gen R=>R K a H/\(∃o,H a=some o/\(∀xs,o≠.tup xs)/\∀ob u,o≠.cP ob u)/\∀H1 H2:Hp,(∀b xs,H1 b=some (.tup xs)->H2 b=some (.tup xs))->(∀b o u,H1 b=some (.cP o u)->H2 b=some (.cP o u))->H2 a=H1 a->R K a H1->R K a H2
def aM(K:η)(G:Gp)(H:Hp):Prop:=∀a o,G a=some o->u9 K H a o
structure Ext(H H':Hp):Prop where
 tup:∀b xs,H b=some (.tup xs)->H' b=some (.tup xs)
 cP:∀b o u,H b=some (.cP o u)->H' b=some (.cP o u)
theorem Ext.refl(H:Hp):Ext H H:=⟨fun _ _ h=>h,fun _ _ _ h=>h⟩
theorem Ext.trans{H H1 H2:Hp}(a:Ext H H1)(b:Ext H1 H2):Ext H H2:=⟨fun c x h=>b.tup c x (a.tup c x h),fun c o u h=>b.cP c o u (a.cP c o u h)⟩
structure Step(H:Hp)(G:Gp)(H':Hp)(G':Gp):Prop where
 fr:∀a o,H a=some o->G a=none->H' a=some o
 mX:∀a,H a≠none->H' a≠none
 new:∀a,G a=none->G' a≠none->H a=none
theorem Step.refl(H:Hp)(G:Gp):Step H G H G:=⟨fun _ _ h _=>h,fun _ h=>h,fun _ h1 h2=>absurd h1 h2⟩
theorem Step.trans{H H1 H2:Hp}{G G1 G2:Gp}(a:Step H G H1 G1)(b:Step H1 G1 H2 G2):Step H G H2 G2 where
 fr:=fun c o h n=>b.fr c o (a.fr c o h n) (by
  refine aZ fun q=>?_;rw[a.new c n q] at h;cases h)
 mX:=fun c h=>b.mX c (a.mX c h)
 new:=fun c n q=>by
  by_cases h1:G1 c=none
  ·have h2:=b.new c h1 q;refine aZ fun z=>?_;exact a.mX c z h2
  ·exact a.new c n h1
def Sub(G' G:Gp):Prop:=∀a o,G' a=some o->G a=some o
theorem Sub.refl(G:Gp):Sub G G:=fun _ _ h=>h
theorem Sub.trans{A B C:Gp}(a:Sub A B)(b:Sub B C):Sub A C:=fun x o h=>b x o (a x o h)
theorem Sub.upd{G:Gp}{a:ζ}{o:GO}(h:G a=none):Sub G (eH G a o):=fun _ _ e=>SQ h e
theorem Sub.of_none{G' G:Gp}(s:Sub G' G){a:ζ}(h:G a=none):G' a=none:=by
 cases e:G' a with
 |none=>rfl
 |some o=>
  rw[s a o e] at h;cases h
structure dC(G:Gp)(p:ζ)(o:GO)(G':Gp):Prop where
 av:G p=none
 sub:Sub G G'
 at_:G' p=some o
theorem dC.mk'{G:Gp}{p:ζ}{o:GO}(h:G p=none):dC G p o (eH G p o):=⟨h,Sub.upd h,kM⟩
theorem Step.sub{H:Hp}{G G':Gp}(s:Sub G' G):Step H G H G':=⟨fun _ _ h _=>h,fun _ h=>h,fun a n q=>by
 exact absurd (s.of_none n) q⟩
section
variable {K:η} {H H':Hp} {G G':Gp}
theorem aM.sub(R:aM K G H)(s:Sub G' G):aM K G' H:=fun a o e=>R a o (s a o e)
theorem u9.mut{a:ζ}{o:GO}(h:u9 K H a o):∃o,H a=some o/\(∀xs,o≠.tup xs)/\∀ob u,o≠.cP ob u:=by
 cases o with
 |lst ds=>obtain⟨vs,e,_⟩:=h;exact⟨_,e,fun _=>nofun,fun _ _=>nofun⟩
 |mm=>obtain⟨i,j,k,e,_⟩:=h;exact⟨_,e,fun _=>nofun,fun _ _=>nofun⟩
 |eL=>exact⟨_,h,fun _=>nofun,fun _ _=>nofun⟩
 |gen R=>exact h.2.1
theorem aM.WB(R:aM K G H){a:ζ}{xs:List V}(e:H a=some (.tup xs)):G a=none:=by
 cases q:G a with
 |none=>rfl
 |some u=>
  obtain⟨o,z,h1,_⟩:=(R a u q).mut;rw[e] at z;exact absurd (ao z).symm (h1 xs)
theorem aM.outF(R:aM K G H){a:ζ}{ob:aL}{u:HO}(e:H a=some (.cP ob u)):G a=none:=by
 cases q:G a with
 |none=>rfl
 |some g=>
  obtain⟨o,z,_,h1⟩:=(R a g q).mut;rw[e] at z;exact absurd (ao z).symm (h1 ob u)
theorem aM.free(R:aM K G H){a:ζ}(e:H a=none):G a=none:=by
 cases q:G a with
 |none=>rfl
 |some u=>
  obtain⟨o,z,_⟩:=(R a u q).mut;rw[e] at z;cases z
theorem Step.ext(S:Step H G H' G')(R:aM K G H):Ext H H':=⟨fun b xs h=>S.fr b _ h (R.WB h),fun b o u h=>S.fr b _ h (R.outF h)⟩
theorem cY.ext{a:ζ}{xs:List V}(E:Ext H H')(h:cY K H a xs):cY K H' a xs:=by
 rcases h with (h|⟨o,h⟩)|h
 ·exact .inl (.inl (E.tup _ _ h))
 ·exact .inl (.inr ⟨o,E.cP _ _ _ h⟩)
 ·exact .inr h
theorem kB.ext{a:ζ}{xs:List V}(E:Ext H H')(h:kB K H a xs):kB K H' a xs:=by
 rcases h with⟨o,h⟩|h
 ·exact .inl ⟨o,E.cP _ _ _ h⟩
 ·exact .inr h
mutual
theorem Hv.ext(E:Ext H H'):∀{d:D} {v:V},Hv K H d v->Hv K H' d v
 |.av,_,h=>by simpa [Hv] using h
 |.bl _,_,h=>by simpa [Hv] using h
 |.int _,_,h=>by simpa [Hv] using h
 |.str _,_,h=>by simpa [Hv] using h
 |.obj _,_,h=>by simpa [Hv] using h
 |.dc a,v,h=>by
  unfold Hv at h ⊢;obtain⟨e,ob,φ,q,c⟩:=h;exact⟨e,ob,φ,E.cP _ _ _ q,c⟩
 |.tup ds,v,h=>by
  unfold Hv at h ⊢;obtain⟨a,vs,e,q,r⟩:=h;exact⟨a,vs,e,cY.ext E q,aD.ext E r⟩
 |.dA ds,v,h=>by
  unfold Hv at h ⊢;obtain⟨a,vs,e,q,r⟩:=h;exact⟨a,vs,e,kB.ext E q,aD.ext E r⟩
theorem aD.ext(E:Ext H H'):∀{ds:List D} {vs:List V},aD K H ds vs->aD K H' ds vs
 |[],_,h=>by simpa [aD] using h
 |d::ds,vs,h=>by
  unfold aD at h ⊢;obtain⟨v,r,e,q,z⟩:=h;exact⟨v,r,e,Hv.ext E q,aD.ext E z⟩
end
theorem aD.nil:aD K H [] []:=by simp[aD]
theorem aD.cons{d:D}{v:V}{ds:List D}{vs:List V}(h:Hv K H d v)(r:aD K H ds vs):aD K H (d::ds) (v::vs):=by
 unfold aD;exact⟨v,vs,rfl,h,r⟩
theorem aD.inv{d:D}{ds:List D}{vs:List V}(h:aD K H (d::ds) vs):∃v r,vs=v::r/\Hv K H d v/\aD K H ds r:=by
 unfold aD at h;exact h
theorem aD.gz{vs:List V}(h:aD K H [] vs):vs=[]:=by
 unfold aD at h;exact h
theorem aD.length:∀{ds:List D} {vs:List V},aD K H ds vs->ds.length=vs.length
 |[],_,h=>by rw[h.gz];rfl
 |d::ds,vs,h=>by
  obtain⟨v,r,rfl,_,q⟩:=h.inv;simp[q.length]
theorem aD.get:∀{ds:List D} {vs:List V} {i:Nat} {d:D},aD K H ds vs->ds[i]?=some d->∃v,vs[i]?=some v/\Hv K H d v
 |[],_,_,_,_,e=>by simp at e
 |x::ds,vs,0,d,h,e=>by
  obtain⟨v,r,rfl,q,_⟩:=h.inv;simp at e;subst e;exact⟨v,rfl,q⟩
 |x::ds,vs,i+1,d,h,e=>by
  obtain⟨v,r,rfl,_,q⟩:=h.inv;simp at e;obtain⟨u,e2,q2⟩:=q.get e;exact⟨u,by simpa using e2,q2⟩
theorem aD.append:∀{ds es:List D} {vs us:List V},aD K H ds vs->aD K H es us->aD K H (ds++es) (vs++us)
 |[],es,_,_,h,q=>by rw[h.gz];exact q
 |d::ds,es,vs,us,h,q=>by
  obtain⟨v,r,rfl,z,w⟩:=h.inv;exact .cons z (w.append q)
theorem aD.drop:∀{ds:List D} {vs:List V} (n:Nat),aD K H ds vs->aD K H (ds.drop n) (vs.drop n)
 |ds,vs,0,h=>h
 |[],_,n+1,h=>by rw[h.gz];exact .nil
 |d::ds,vs,n+1,h=>by
  obtain⟨v,r,rfl,_,q⟩:=h.inv;exact q.drop n
theorem aD.take:∀{ds:List D} {vs:List V} (n:Nat),aD K H ds vs->aD K H (ds.take n) (vs.take n)
 |ds,vs,0,h=>by simpa using aD.nil
 |[],_,n+1,h=>by rw[h.gz];exact .nil
 |d::ds,vs,n+1,h=>by
  obtain⟨v,r,rfl,q,z⟩:=h.inv;exact .cons q (z.take n)
theorem aD.set:∀{ds:List D} {vs:List V} (i:Nat) {d:D} {v:V},aD K H ds vs->Hv K H d v->aD K H (ds.set i d) (vs.set i v)
 |[],_,i,d,v,h,_=>by rw[h.gz];exact .nil
 |x::ds,vs,0,d,v,h,q=>by
  obtain⟨u,r,rfl,_,z⟩:=h.inv;exact .cons q z
 |x::ds,vs,i+1,d,v,h,q=>by
  obtain⟨u,r,rfl,y,z⟩:=h.inv;exact .cons y (z.set i q)
theorem aD.erase:∀{ds:List D} {vs:List V} (i:Nat),aD K H ds vs->aD K H (ds.eraseIdx i) (vs.eraseIdx i)
 |[],_,i,h=>by rw[h.gz];exact .nil
 |x::ds,vs,0,h=>by
  obtain⟨u,r,rfl,_,z⟩:=h.inv;exact z
 |x::ds,vs,i+1,h=>by
  obtain⟨u,r,rfl,y,z⟩:=h.inv;exact .cons y (z.erase i)
theorem aD.rev:∀{ds:List D} {vs:List V},aD K H ds vs->aD K H ds.reverse vs.reverse
 |[],_,h=>by rw[h.gz];exact .nil
 |x::ds,vs,h=>by
  obtain⟨u,r,rfl,y,z⟩:=h.inv;rw[jW,jW];exact z.rev.append (.cons y .nil)
theorem aD.rep{ds:List D}{vs:List V}(h:aD K H ds vs):∀k:Nat,aD K H (aY k ds).flatten (aY k vs).flatten
 |0=>.nil
 |k+1=>by
  simp only[eB,hJ];exact h.append (h.rep k)
theorem aD.ints:∀(ns:List Int),aD K H (ns.map D.int) (ns.map V.int)
 |[]=>.nil
 |n::ns=>.cons (by simp[Hv]) (aD.ints ns)
theorem Ext.laid{p:ζ}{o:HO}(h:H p=none):Ext H (upd H p o):=⟨fun b xs e=>by rw[dH (lP e h)];exact e,fun b x u e=>by rw[dH (lP e h)];exact e⟩
theorem u9.ext{a:ζ}{o:GO}(h:u9 K H a o)(E:Ext H H')(e:H' a=H a):u9 K H' a o:=by
 cases o with
 |lst ds=>
  obtain⟨vs,z,q⟩:=h;exact⟨vs,e.trans z,q.ext E⟩
 |mm=>
  obtain⟨i,j,k,z,q⟩:=h;exact⟨i,j,k,e.trans z,q⟩
 |eL=>exact e.trans h
 |gen R=>
  obtain⟨h1,h2,h3⟩:=h;exact⟨h3 H H' E.tup E.cP e h1,by rw[e];exact h2,h3⟩
theorem aM.laid{p:ζ}{o:HO}(R:aM K G H)(h:H p=none):aM K G (upd H p o):=fun a u e=>by
 have cu:a≠p:=fun z=>by
  rw[z,R.free h] at e;cases e
 exact (R a u e).ext (Ext.laid h) (dH cu)
theorem aM.g0{p:ζ}{o:HO}{g:GO}(R:aM K G H)(h:H p=none)(new:u9 K (upd H p o) p g):aM K (eH G p g) (upd H p o):=fun a u e=>by
 by_cases z:a=p
 ·subst z;rw[kM] at e;cases e;exact new
 ·rw[kL z] at e;exact (R.laid h) a u e
theorem Step.laid{p:ζ}{o:HO}(h:H p=none):Step H G (upd H p o) G:=⟨fun a u e _=>by rw[dH (lP e h)];exact e,fun a q=>by
 by_cases z:a=p
 ·rw[z,iJ];simp
 ·rw[dH z];exact q,fun a n q=>absurd n q⟩
theorem Step.g0{p:ζ}{o:HO}{g:GO}(h:H p=none):Step H G (upd H p o) (eH G p g):=⟨(Step.laid (G:=G) h).fr,(Step.laid (G:=G) h).mX,fun a n q=>by
 by_cases z:a=p
 ·rw[z];exact h
 ·rw[kL z] at q;exact absurd n q⟩
theorem SN{p b:ζ}{xs ys:List V}(h:H p=some (.lst xs))(e:H b=some (.tup ys)):b≠p:=fun z=>by
 rw[z,h] at e;cases e
theorem SM{p b:ζ}{xs:List V}{o:aL}{u:HO}(h:H p=some (.lst xs))(e:H b=some (.cP o u)):b≠p:=fun z=>by
 rw[z,h] at e;cases e
theorem Ext.wrote{p:ζ}{xs:List V}{o:HO}(h:H p=some (.lst xs)):Ext H (upd H p o):=
 ⟨fun b ys e=>by rw[dH (SN h e)];exact e,fun b x u e=>by rw[dH (SM h e)];exact e⟩
theorem aM.wrote{p:ζ}{xs:List V}{o:HO}{g:GO}(R:aM K G H)(h:H p=some (.lst xs))(new:u9 K (upd H p o) p g):aM K (eH G p g) (upd H p o):=fun a u e=>by
 by_cases z:a=p
 ·subst z;rw[kM] at e;cases e;exact new
 ·rw[kL z] at e;exact (R a u e).ext (Ext.wrote h) (dH z)
theorem aM.sr{p:ζ}{xs:List V}{ds:List D}(R:aM K G H)(h:H p=none)(hv:aD K H ds xs):aM K (eH G p (.lst ds)) (upd H p (.lst xs)):=R.g0 h ⟨xs,iJ,hv.ext (.laid h)⟩
theorem aM.AL{p:ζ}{xs ys:List V}{ds:List D}(R:aM K G H)(e:H p=some (.lst xs))(hv:aD K H ds ys):aM K (eH G p (.lst ds)) (upd H p (.lst ys)):=R.wrote e ⟨ys,iJ,hv.ext (.wrote e)⟩
theorem Step.wrote{p:ζ}{o:HO}{g u:GO}(h:G p=some u):Step H G (upd H p o) (eH G p g):=⟨fun a x e n=>by
 have cu:a≠p:=fun z=>by
  rw[z,h] at n;cases n
 rw[dH cu];exact e,fun a q=>by
 by_cases z:a=p
 ·rw[z,iJ];simp
 ·rw[dH z];exact q,fun a n q=>by
 have cu:a≠p:=fun z=>by
  rw[z,h] at n;cases n
 rw[kL cu] at q;exact absurd n q⟩
end
abbrev S3:=List (Option D)
def ie:S3->Nat->Option D
 |[],_=>none
 |x::_,0=>x
 |_::r,n+1=>ie r n
def kn:S3->Nat->D->S3
 |[],_,_=>[]
 |_::r,0,d=>some d::r
 |x::r,n+1,d=>x::kn r n d
structure eJ(K:η)(τ:S3)(σ:L2.St)(H:Hp):Prop where
 len:τ.length=σ.length
 at_:∀(i:Nat) d,ie τ i=some d->∃v,σ[i]?=some (some v)/\Hv K H d v
theorem Jp:∀(τ:S3) (i:Nat) (d:D),(kn τ i d).length=τ.length
 |[],_,_=>rfl
 |_::r,0,d=>rfl
 |x::r,n+1,d=>by simp[kn,Jp r n d]
theorem Jo:∀(τ:S3) (i j:Nat) (d:D),ie (kn τ i d) j=if j=i/\i<τ.length then some d else ie τ j
 |[],i,j,d=>by simp[kn,ie]
 |x::r,0,0,d=>by simp[kn,ie]
 |x::r,0,j+1,d=>by simp[kn,ie]
 |x::r,i+1,0,d=>by simp[kn,ie]
 |x::r,i+1,j+1,d=>by
  simp only[kn,ie,Jo r i j d,ak];by_cases h:j=i/\i<r.length
  ·rw[if_pos h,if_pos (by lia)]
  ·rw[if_neg h,if_neg (by lia)]
section
variable {K:η} {τ:S3} {σ:L2.St} {H H':Hp}
theorem eJ.ext(R:eJ K τ σ H)(E:Ext H H'):eJ K τ σ H':=⟨R.len,fun i d h=>by
 obtain⟨v,e,q⟩:=R.at_ i d h;exact⟨v,e,q.ext E⟩⟩
theorem eJ.set(R:eJ K τ σ H){i:Nat}{d:D}{v:V}(h:Hv K H d v):eJ K (kn τ i d) (σ.set i (some v)) H:=⟨by rw[Jp,pg];exact R.len,fun j e q=>by
 rw[Jo] at q;by_cases c:j=i/\i<τ.length
 ·rw[if_pos c] at q;cases q;refine⟨v,?_,h⟩;rw[c.1,kc (by rw[←R.len];exact c.2)]
 ·rw[if_neg c] at q;obtain⟨u,e1,e2⟩:=R.at_ j e q;refine⟨u,?_,e2⟩;by_cases hij:i=j
  ·subst hij;have:σ.length≤i:=by
    have:=R.len;have:¬i<τ.length:=fun z=>c ⟨rfl,z⟩;lia
   rw[dD.mpr this] at e1;cases e1
  ·rw[lp hij];exact e1⟩
end
def bD:List ι->List D->S3
 |[],_=>[]
 |_::N,[]=>none::bD N []
 |_::N,d::ds=>some d::bD N ds
theorem CP:∀(N:List ι) (ds:List D),(bD N ds).length=N.length
 |[],_=>rfl
 |_::N,[]=>by simp[bD,CP N []]
 |_::N,d::ds=>by simp[bD,CP N ds]
theorem Jn:∀(N:List ι) (i:Nat),ie (bD N []) i=none
 |[],i=>rfl
 |_::N,0=>rfl
 |_::N,i+1=>Jn N i
theorem Jm:∀(N:List ι) (ds:List D) (i:Nat) (d:D),ie (bD N ds) i=some d->ds[i]?=some d
 |[],_,_,_,h=>by cases h
 |_::N,[],i,d,h=>by
  rw[Jn] at h;cases h
 |_::N,x::ds,0,d,h=>by
  simp only[bD,ie] at h;simpa using h
 |_::N,x::ds,i+1,d,h=>by
  simp only[bD,ie] at h;simpa using Jm N ds i d h
theorem eJ.start{K:η}{N:List ι}{ds:List D}{vs:List V}{H:Hp}(h:aD K H ds vs)(hl:vs.length≤N.length):eJ K (bD N ds) (L2.start N vs) H:=⟨by
 rw[CP];simp[L2.start];lia,fun i d e=>by
 obtain⟨v,e1,q⟩:=h.get (Jm N ds i d e);refine⟨v,?_,q⟩;unfold L2.start;have hi:i<vs.length:=(aN.mp e1).1;rw[eR (by simpa using hi),aS,e1];rfl⟩
abbrev V3:=D->Gp->Prop
abbrev aw:=S3->Gp->V3->Prop
abbrev cQ:=S3->Gp->(Bool->Gp->Prop)->Prop
abbrev cw:=S3->Gp->(List D->Gp->Prop)->Prop
structure jA where
 nx:S3->Gp->Prop
 rt:V3
 bk:S3->Gp->Prop:=fun _ _=>False
 ct:S3->Gp->Prop:=fun _ _=>False
abbrev aA:=jA->S3->Gp->Prop
def low(K:η)(t:aw):TE:=fun σ H Q=>∃τ G Q3,eJ K τ σ H/\aM K G H/\t τ G Q3/\∀v H' d G',Hv K H' d v->Step H G H' G'->aM K G' H'->Q3 d G'->Q v H'
def sv(K:η)(t:cQ):TT:=fun σ H Q=>∃τ G Q3,eJ K τ σ H/\aM K G H/\t τ G Q3/\∀b H' G',Step H G H' G'->aM K G' H'->Q3 b G'->Q b H'
def pG(K:η)(t:cw):TA:=fun σ H Q=>∃τ G Q3,eJ K τ σ H/\aM K G H/\t τ G Q3/\∀vs H' ds G',aD K H' ds vs->Step H G H' G'->aM K G' H'->Q3 ds G'->Q vs H'
structure nJ(K:η)(H:Hp)(G:Gp)(D3:jA)(D2:Ends):Prop where
 nx:∀τ σ G' H',eJ K τ σ H'->Step H G H' G'->aM K G' H'->D3.nx τ G'->D2.nx σ H'
 bk:∀τ σ G' H',eJ K τ σ H'->Step H G H' G'->aM K G' H'->D3.bk τ G'->D2.bk σ H'
 ct:∀τ σ G' H',eJ K τ σ H'->Step H G H' G'->aM K G' H'->D3.ct τ G'->D2.ct σ H'
 rt:∀d v G' H',Hv K H' d v->Step H G H' G'->aM K G' H'->D3.rt d G'->D2.rt v H'
theorem nJ.step{K:η}{H H1:Hp}{G G1:Gp}{D3:jA}{D2:Ends}(E:nJ K H G D3 D2)(S:Step H G H1 G1):nJ K H1 G1 D3 D2:=
 ⟨fun τ σ G' H' a b c q=>E.nx τ σ G' H' a (S.trans b) c q,fun τ σ G' H' a b c q=>E.bk τ σ G' H' a (S.trans b) c q,fun τ σ G' H' a b c q=>E.ct τ σ G' H' a (S.trans b) c q,fun d v G' H' a b c q=>E.rt d v G' H' a (S.trans b) c q⟩
def C0(K:η)(t:aA):TS:=fun D2 σ H=>∃τ G D3,eJ K τ σ H/\aM K G H/\t D3 τ G/\nJ K H G D3 D2
abbrev bL(X:Cx)(e:ρ)(t:aw):Prop:=PE X e (low X.K t)
abbrev pW(X:Cx)(e:ρ)(t:cQ):Prop:=PT X e (sv X.K t)
abbrev we(X:Cx)(e:ρ)(t:cQ):Prop:=PW X e (sv X.K t)
abbrev ig(X:Cx)(es:List ρ)(t:cw):Prop:=PA X es (pG X.K t)
abbrev t5(X:Cx)(st:aV)(t:aA):Prop:=PS X st (C0 X.K t)
abbrev jd(X:Cx)(st:List aV)(t:aA):Prop:=mZ X st (C0 X.K t)
section
variable {X:Cx} {e:ρ}
theorem hX{t t':TE}(h:PE X e t)(f:∀σ H Q,t' σ H Q->t σ H Q):PE X e t':=fun pins s σ H Q I q=>h pins s σ H Q I (f σ H Q q)
theorem vP{t t':TT}(h:PT X e t)(f:∀σ H Q,t' σ H Q->t σ H Q):PT X e t':=fun pins s σ H Q I q=>h pins s σ H Q I (f σ H Q q)
theorem pw_of{t t':TT}(h:PW X e t)(f:∀σ H Q,t' σ H Q->t σ H Q):PW X e t':=fun w pins s σ H Q I q=>h w pins s σ H Q I (f σ H Q q)
theorem Jl{es:List ρ}{t t':TA}(h:PA X es t)(f:∀σ H Q,t' σ H Q->t σ H Q):PA X es t':=fun p pins s σ H Q I q=>h p pins s σ H Q I (f σ H Q q)
theorem vO{st:aV}{t t':TS}(h:PS X st t)(f:∀D σ H,t' D σ H->t D σ H):PS X st t':=fun pins s σ H Q I q=>h pins s σ H Q I (f Q σ H q)
theorem Jk{st:List aV}{t t':TS}(h:mZ X st t)(f:∀D σ H,t' D σ H->t D σ H):mZ X st t':=fun pins s σ H Q I q=>h pins s σ H Q I (f Q σ H q)
end
def Br(b:Bool)(A B:Prop):Prop:=(b=true->A)/\(b=false->B)
theorem Br.ite{b:Bool}{A B A' B':Prop}(h:Br b A B)(f:A->A')(g:B->B'):if b=true then A' else B':=by
 cases b with
 |true=>rw[if_pos rfl];exact f (h.1 rfl)
 |false=>rw[if_neg au];exact g (h.2 rfl)
section
variable {X:Cx} {a b e c:ρ} {ta tb te:aw} {tA tB:cQ} {pos:aJ} {es rest:List ρ}
def eC(d:D):aw:=fun _ G Q=>Q d G
def υ(i:Nat):aw:=fun τ G Q=>match ie τ i with
 |some d=>Q d G
 |none=>False
theorem SK{i:Nat}{x:ι}(h:PE X (.Name x pos) (yD i)):bL X (.Name x pos) (υ i):=hX h fun σ H Q ⟨τ,G,Q3,RS,RG,h,k⟩=>by
 unfold υ at h;cases hd:ie τ i with
 |none=>rw[hd] at h;exact h.elim
 |some d=>
  rw[hd] at h;obtain⟨v,e1,e2⟩:=RS.at_ i d hd;exact⟨v,e1,k v H d G e2 (.refl H G) RG h⟩
theorem vN{v:V}{d:D}(h:PE X e (tC v))(r:∀H,Hv X.K H d v):bL X e (eC d):=hX h fun σ H Q ⟨τ,G,Q3,RS,RG,h,k⟩=>k v H d G (r H) (.refl H G) RG h
theorem SJ{i:Int}{j}:bL X (.Constant (.int i) j pos) (eC (.int i)):=vN Jf fun H=>by simp[Hv]
theorem W5{i:Bool}{j}:bL X (.Constant (.bool i) j pos) (eC (.bl i)):=vN UP fun H=>by simp[Hv]
theorem SI{j}:bL X (.Constant .none j pos) (eC .av):=vN UD fun H=>by simp[Hv]
theorem SH{x:ι}{j}:bL X (.Constant (.str x) j pos) (eC (.str x)):=vN UC fun H=>by simp[Hv]
theorem SG{x:ι}{i:Int}{u:fE}(hm:X.mg x=some (.int i u))(hg:Gl X x:=by rfl)(hd:(x==("__debug__":ι))=false:=by decide):bL X (.Name x pos) (eC (.int i)):=vN (v:=.int i) (CK hg hm ⟨u,rfl⟩ hd) fun H=>by simp[Hv]
abbrev R3:=D->D->Gp->V3->Prop
def aE(r:R3)(ta tb:aw):aw:=fun τ G Q=>ta τ G fun x G1=>tb τ G1 fun y G2=>r x y G2 Q
def di(K:η)(r:R3)(r2:R2):Prop:=∀x y vx vy G H Q3 Q,Hv K H x vx->Hv K H y vy->aM K G H->r x y G Q3->(∀v H' d G',Hv K H' d v->Step H G H' G'->aM K G' H'->Q3 d G'->Q v H')->r2 vx vy H Q
theorem xt{K:η}{r:R3}{r2:R2}(L:di K r r2){σ:L2.St}{H:Hp}{Q:VK}(h:low K (aE r ta tb) σ H Q):AN r2 (low K ta) (low K tb) σ H Q:=by
 obtain⟨τ,G,Q3,RS,RG,h,k⟩:=h;refine⟨τ,G,_,RS,RG,h,fun v1 H1 d1 G1 h1 S1 R1 q1=>?_⟩;refine⟨τ,G1,_,RS.ext (S1.ext RG),R1,q1,fun v2 H2 d2 G2 h2 S2 R2 q2=>?_⟩;exact L _ _ _ _ _ _ _ _ (h1.ext (S2.ext R1)) h2 R2 q2 fun v H' d G' z1 z2 z3 z4=>k v H' d G' z1 ((S1.trans S2).trans z2) z3 z4
theorem W3{op:Operator}{r:R3}{r2:R2}(L:di X.K r r2)(ho:dq X (binaryOp op) r2)(ha:bL X a ta)(hb:bL X b tb):bL X (.BinOp a op b pos) (aE r ta tb):=
 hX (UN ho ha hb) fun _ _ _ h=>xt L h
theorem SE{op:gT}{r:R3}{r2:R2}(L:di X.K r r2)(ho:dq X (compareOp op) r2)(ha:bL X a ta)(hb:bL X b tb)(hm:behindInMarks op b=false):bL X (.Compare a [op] [b] pos) (aE r ta tb):=
 hX (UH ho ha hb hm) fun _ _ _ h=>xt L h
def bj(t:aw):cQ:=fun τ G Q=>t τ G fun x G1=>match x with
 |.bl k=>Q k G1
 |_=>False
theorem xq{K:η}{t:aw}{σ:L2.St}{H:Hp}{Q:Bool->Hp->Prop}(h:sv K (bj t) σ H Q):wu (low K t) σ H Q:=by
 obtain⟨τ,G,Q3,RS,RG,h,k⟩:=h;refine⟨τ,G,_,RS,RG,h,fun v H' d G' h1 h2 h3 h4=>?_⟩;cases d with
 |bl c=>
  unfold Hv at h1;exact⟨c,h1,k c H' G' h2 h3 h4⟩
 |_=>exact h4.elim
theorem SD{op:gT}{r:R3}{r2:R2}(L:di X.K r r2)(ho:dq X (compareOp op) r2)(ha:bL X a ta)(hb:bL X b tb)(hm:behindInMarks op b=false):pW X (.Compare a [op] [b] pos) (bj (aE r ta tb)):=
 vP (UG ho ha hb hm) fun σ H Q h=>by
  obtain⟨τ,G,Q3,RS,RG,h,k⟩:=xq h;exact xt L ⟨τ,G,Q3,RS,RG,h,k⟩
theorem SA(h:bL X a ta)(he:∀whole,isTrue a X.env whole=(do let v ←whole;standAt a.pos;holding [v] (truthy v)):=by intro _;rfl):pW X a (bj ta):=
 vP (TQ h he) fun σ H Q h=>by
  obtain⟨τ,G,Q3,RS,RG,h,k⟩:=xq h;refine⟨τ,G,Q3,RS,RG,h,fun v H' d G' h1 h2 h3 h4=>?_⟩;obtain⟨c,rfl,q⟩:=k v H' d G' h1 h2 h3 h4;exact⟨c,rfl,q⟩
def mo(r r':R3)(ta tb tc:aw):aw:=fun τ G Q=>ta τ G fun x G1=>tb τ G1 fun y G2=>r x y G2 fun z G3=>match z with
 |.bl k=>Br k (tc τ G3 fun w G4=>r' y w G4 Q) (Q (.bl false) G3)
 |_=>False
theorem Jj{K:η}{r r':R3}{r2 r2':R2}(L:di K r r2)(L':di K r' r2'){tc:aw}{σ:L2.St}{H:Hp}{Q:VK}(h:low K (mo r r' ta tb tc) σ H Q):rW r2 r2' (low K ta) (low K tb) (low K tc) σ H Q:=by
 obtain⟨τ,G,Q3,RS,RG,h,k⟩:=h;refine⟨τ,G,_,RS,RG,h,fun v1 H1 d1 G1 h1 S1 R1 q1=>?_⟩;refine⟨τ,G1,_,RS.ext (S1.ext RG),R1,q1,fun v2 H2 d2 G2 h2 S2 R2 q2=>?_⟩;refine L _ _ _ _ _ _ _ _ (h1.ext (S2.ext R1)) h2 R2 q2 fun v H3 d G3 z1 S3 R3 z4=>?_;cases d with
 |bl c=>
  unfold Hv at z1;refine⟨c,z1,Br.ite z4 (fun q=>?_) fun q=>?_⟩
  ·refine⟨τ,G3,_,((RS.ext (S1.ext RG)).ext (S2.ext R1)).ext (S3.ext R2),R3,q,fun v4 H4 d4 G4 h4 S4 R4 q4=>?_⟩;exact L' _ _ _ _ _ _ _ _ ((h2.ext (S3.ext R2)).ext (S4.ext R3)) h4 R4 q4 fun v H' d G' y1 y2 y3 y4=>k v H' d G' y1 ((((S1.trans S2).trans S3).trans S4).trans y2) y3 y4
  ·exact k _ H3 (.bl false) G3 (by simp[Hv]) ((S1.trans S2).trans S3) R3 q
 |_=>exact z4.elim
theorem Sz{op op':gT}{r r':R3}{r2 r2':R2}{tc:aw}(L:di X.K r r2)(L':di X.K r' r2')(h:PE X e (rW r2 r2' (low X.K ta) (low X.K tb) (low X.K tc))):bL X e (mo r r' ta tb tc):=
 hX h fun _ _ _ h=>Jj L L' h
theorem Sy{op op':gT}{r r':R3}{r2 r2':R2}{tc:aw}(L:di X.K r r2)(L':di X.K r' r2')(h:PT X e (wu (rW r2 r2' (low X.K ta) (low X.K tb) (low X.K tc)))):pW X e (bj (mo r r' ta tb tc)):=
 vP h fun σ H Q h=>by
  obtain⟨τ,G,Q3,RS,RG,h,k⟩:=xq h;exact Jj L L' ⟨τ,G,Q3,RS,RG,h,k⟩
def Bf(r:D->Gp->V3->Prop)(ta:aw):aw:=fun τ G Q=>ta τ G fun x G1=>r x G1 Q
def uK:D->Gp->V3->Prop:=fun x G Q=>match x with
 |.int i=>Q (.int (-i)) G
 |_=>False
theorem Sx(ha:bL X a ta):bL X (.UnaryOp .USub a pos) (Bf uK ta):=hX (Jb Ja ha) fun σ H Q h=>by
 obtain⟨τ,G,Q3,RS,RG,h,k⟩:=h;refine⟨τ,G,_,RS,RG,h,fun v H' d G' h1 h2 h3 h4=>?_⟩;cases d with
 |int i=>
  unfold Hv at h1;exact⟨i,h1,k _ H' (.int (-i)) G' (by simp[Hv]) h2 h3 h4⟩
 |_=>exact h4.elim
def xW(t u:cQ):cQ:=fun τ G Q=>t τ G fun c G1=>Br c (u τ G1 Q) (Q false G1)
def kQ(t u:cQ):cQ:=fun τ G Q=>t τ G fun c G1=>Br c (Q true G1) (u τ G1 Q)
def kR(t:cQ):cQ:=fun τ G Q=>t τ G fun c G1=>Q (!c) G1
theorem Sw(ha:pW X a tA):we X (.BoolOp .And [a] pos) tA:=pw_and1 ha
theorem Sv(ha:pW X a tA):we X (.BoolOp .Or [a] pos) tA:=pw_or1 ha
theorem Su(ha:pW X a tA)(hb:we X (.BoolOp .And (b::rest) pos) tB):we X (.BoolOp .And (a::b::rest) pos) (xW tA tB):=pw_of (pw_and ha hb) fun σ H Q h=>by
 obtain⟨τ,G,Q3,RS,RG,h,k⟩:=h;refine⟨τ,G,_,RS,RG,h,fun c H1 G1 S1 R1 q1=>?_⟩;exact Br.ite q1 (fun q=>⟨τ,G1,Q3,RS.ext (S1.ext RG),R1,q,fun b' H' G' y1 y2 y3=>k b' H' G' (S1.trans y1) y2 y3⟩) fun q=>k false H1 G1 S1 R1 q
theorem Ss(ha:pW X a tA)(hb:we X (.BoolOp .Or (b::rest) pos) tB):we X (.BoolOp .Or (a::b::rest) pos) (kQ tA tB):=pw_of (pw_or ha hb) fun σ H Q h=>by
 obtain⟨τ,G,Q3,RS,RG,h,k⟩:=h;refine⟨τ,G,_,RS,RG,h,fun c H1 G1 S1 R1 q1=>?_⟩;exact Br.ite q1 (fun q=>k true H1 G1 S1 R1 q) fun q=>⟨τ,G1,Q3,RS.ext (S1.ext RG),R1,q,fun b' H' G' y1 y2 y3=>k b' H' G' (S1.trans y1) y2 y3⟩
theorem Lr(h:we X a tA):pW X a tA:=h.pt
theorem Tf(ha:pW X a tA):pW X (.UnaryOp .Not a pos) (kR tA):=vP (UB ha) fun σ H Q h=>by
 obtain⟨τ,G,Q3,RS,RG,h,k⟩:=h;exact⟨τ,G,_,RS,RG,h,fun c H1 G1 S1 R1 q1=>k _ H1 G1 S1 R1 q1⟩
def wF(ta tb:aw):aw:=fun τ G Q=>ta τ G fun x G1=>match x with
 |.bl c=>Br c (tb τ G1 Q) (Q (.bl false) G1)
 |_=>False
def Dh(ta tb:aw):aw:=fun τ G Q=>ta τ G fun x G1=>match x with
 |.bl c=>Br c (Q (.bl true) G1) (tb τ G1 Q)
 |_=>False
def wA(ta:aw):aw:=fun τ G Q=>ta τ G fun x G1=>match x with
 |.bl c=>Q (.bl (!c)) G1
 |_=>False
theorem Te{op}(h:bL X a ta):bL X (.BoolOp op [a] pos) ta:=UA h
theorem Td(ha:bL X a ta)(hb:bL X (.BoolOp .And (b::rest) pos) tb):bL X (.BoolOp .And (a::b::rest) pos) (wF ta tb):=hX (Uz ha hb) fun σ H Q h=>by
 obtain⟨τ,G,Q3,RS,RG,h,k⟩:=h;refine⟨τ,G,_,RS,RG,h,fun v H1 d G1 h1 S1 R1 q1=>?_⟩;cases d with
 |bl c=>
  unfold Hv at h1;exact⟨c,h1,Br.ite q1 (fun q=>⟨τ,G1,Q3,RS.ext (S1.ext RG),R1,q,fun b' H' d' G' y0 y1 y2 y3=>k b' H' d' G' y0 (S1.trans y1) y2 y3⟩) fun q=>k _ H1 (.bl false) G1 (by simp[Hv]) S1 R1 q⟩
 |_=>exact q1.elim
theorem W2(ha:bL X a ta)(hb:bL X (.BoolOp .Or (b::rest) pos) tb):bL X (.BoolOp .Or (a::b::rest) pos) (Dh ta tb):=hX (Uy ha hb) fun σ H Q h=>by
 obtain⟨τ,G,Q3,RS,RG,h,k⟩:=h;refine⟨τ,G,_,RS,RG,h,fun v H1 d G1 h1 S1 R1 q1=>?_⟩;cases d with
 |bl c=>
  unfold Hv at h1;exact⟨c,h1,Br.ite q1 (fun q=>k _ H1 (.bl true) G1 (by simp[Hv]) S1 R1 q) fun q=>⟨τ,G1,Q3,RS.ext (S1.ext RG),R1,q,fun b' H' d' G' y0 y1 y2 y3=>k b' H' d' G' y0 (S1.trans y1) y2 y3⟩⟩
 |_=>exact q1.elim
theorem Tc(ha:bL X a ta):bL X (.UnaryOp .Not a pos) (wA ta):=hX (Ux ha) fun σ H Q h=>by
 obtain⟨τ,G,Q3,RS,RG,h,k⟩:=h;refine⟨τ,G,_,RS,RG,h,fun v H1 d G1 h1 S1 R1 q1=>?_⟩;cases d with
 |bl c=>
  unfold Hv at h1;exact⟨c,h1,k _ H1 (.bl (!c)) G1 (by simp[Hv]) S1 R1 q1⟩
 |_=>exact q1.elim
def notStar:ρ->Bool
 |.Starred ..=>false
 |_=>true
theorem dY{e:ρ}{es:List ρ}{env:cV}(h:notStar e=true):br (e::es) env=(false,eval e env)::br es env:=by
 cases e<;>first|rfl|(simp[notStar] at h)
theorem jG{pos:aJ}{env:cV}:∀{es:List ρ},es.all notStar=true->(backTo pos (br es env)).any (·.1)=false
 |[],_=>rfl
 |e::es,h=>by
  rw[rJ,bA] at h;rw[dY h.1];show (false||(backTo pos (br es env)).any (·.1))=false;rw[jG h.2];rfl
def ae:cw:=fun _ G Q=>Q [] G
def ξ(ta:aw)(tr:cw):cw:=fun τ G Q=>ta τ G fun x G1=>tr τ G1 fun xs G2=>Q (x::xs) G2
theorem Tb:ig X [] ae:=Jl vR fun σ H Q ⟨τ,G,Q3,RS,RG,h,k⟩=>k [] H [] G .nil (.refl H G) RG h
theorem Ta{tr:cw}(ha:bL X a ta)(hr:ig X es tr)(hs:notStar a=true:=by rfl):ig X (a::es) (ξ ta tr):=Jl (qG ha hr (dY hs)) fun σ H Q h=>by
 obtain⟨τ,G,Q3,RS,RG,h,k⟩:=h;refine⟨τ,G,_,RS,RG,h,fun v1 H1 d1 G1 h1 S1 R1 q1=>?_⟩;refine⟨τ,G1,_,RS.ext (S1.ext RG),R1,q1,fun vs H2 ds G2 h2 S2 R2 q2=>?_⟩;exact k _ H2 _ G2 (.cons (h1.ext (S2.ext R1)) h2) (S1.trans S2) R2 q2
def rY{α:Type}(P:Prop):List α->Nat->Prop
 |[],_=>P
 |_::_,0=>False
 |_::xs,n+1=>rY P xs n
theorem zr{α:Type}{P:Prop}:∀{xs:List α} {n:Nat},rY P xs n->xs.length≤n/\P
 |[],n,h=>⟨ax _,h⟩
 |_::_,0,h=>h.elim
 |_::xs,n+1,h=>by
  obtain⟨h1,h2⟩:=zr (xs:=xs) (n:=n) h;exact⟨oG h1,h2⟩
theorem xO{n:Nat}(h:n≤64):n≤ag:=aK h (by decide)
def pH(t:cw):aw:=fun τ G Q=>t τ G fun ds G1=>rY (Q (.tup ds) G1) ds 64
def fo(t:cw):aw:=fun τ G Q=>t τ G fun ds G1=>rY (∀p G2,dC G1 p (.lst ds) G2->Q (.obj p) G2) ds 64
theorem S9{t:cw}{x1}(h:ig X es t):bL X (.Tuple es x1 pos) (pH t):=hX (TF h) fun σ H Q h=>by
 obtain⟨τ,G,Q3,RS,RG,h,k⟩:=h;refine⟨τ,G,_,RS,RG,h,fun vs H1 ds G1 h1 S1 R1 q1=>?_⟩;obtain⟨z,q1⟩:=zr q1;refine⟨by rw[←h1.length];exact xO z,fun p hp=>?_⟩;refine k _ _ (.tup ds) G1 ?_ (S1.trans (.laid hp)) (R1.laid hp) q1;unfold Hv;exact⟨p,vs,rfl,.of iJ,h1.ext (.laid hp)⟩
theorem S8{t:cw}(h:ig X es t):bL X (.List es pos) (fo t):=hX (IX h) fun σ H Q h=>by
 obtain⟨τ,G,Q3,RS,RG,h,k⟩:=h;refine⟨τ,G,_,RS,RG,h,fun vs H1 ds G1 h1 S1 R1 q1=>?_⟩;obtain⟨z,q1⟩:=zr q1;refine⟨by rw[←h1.length];exact xO z,fun p hp=>?_⟩;exact k _ _ (.obj p) (eH G1 p (.lst ds)) (by simp[Hv]) (S1.trans (.g0 hp)) (R1.g0 hp ⟨vs,iJ,h1.ext (.laid hp)⟩) (q1 p _ (.mk' (R1.free hp)))
end
end L3
namespace L2
open PySem PySem.Spec PyProof.Rows
def lS(env:cV):List (ι×ft)->List (ι×ζ)->List (ι×ζ)
 |[],acc=>acc
 | (n,k)::r,acc=>lS env r (if k=.free then (n,(env.cells.lookup n).getD 0)::acc else acc)
theorem S7{scope:eY}{env:cV}(h:∀y∈scope.names,y.2=.free->∃c,env.cells.lookup y.1=some c):closureFor scope env=pure (lS env scope.names []):=by
 have key:∀(l:List (ι×ft)) (acc:List (ι×ζ)),(∀y∈l,y.2=.free->∃c,env.cells.lookup y.1=some c) ->
   (forIn l acc fun (x:ι×ft) (r:List (ι×ζ))=>(do
    if (x.2==cM)=true then do
     let a ←cellOf env x.1
     pure (gS ((x.1,a)::r))
    else pure (gS r):gZ (ForInStep (List (ι×ζ)))))=pure (lS env l acc):=by
  intro l
  induction l with
  |nil=>intro acc _;rfl
  |cons y r ih=>
   intro acc hy;obtain⟨n,k⟩:=y;rw[pj];by_cases hk:k=.free
   ·obtain⟨c,hc⟩:=hy (n,k) ψ hk;have e1:cellOf env n=pure c:=by unfold cellOf;rw[show env.cells.lookup n=some c from hc]
    subst hk;simp only[beq_self_eq_true,if_true,e1,pure_bind];rw[ih _ fun y hy'=>hy y (ω _ hy')];show _=pure (lS env r (if cM=cM then (n,(env.cells.lookup n).getD 0)::acc else acc));rw[if_pos rfl,show env.cells.lookup n=some c from hc];rfl
   ·have hb:(k==cM)=false:=by simpa using hk
    simp only[hb,gV,if_false,pure_bind];rw[ih _ fun y hy'=>hy y (ω _ hy')];show _=pure (lS env r (if k=cM then (n,(env.cells.lookup n).getD 0)::acc else acc));rw[if_neg hk]
 have:=key scope.names [] h;unfold closureFor
 first
  |exact (by simpa using this)
  | (simp only[bind_pure];exact this)
theorem Ir{env:cV}{x:ι}{c:ζ}:∀(l:List (ι×ft)) (acc:List (ι×ζ)),(lS env l acc).lookup x=some c ->
  acc.lookup x=some c∨((x,cM)∈l/\c=(env.cells.lookup x).getD 0)
 |[],_,h=>.inl h
 | (n,k)::r,acc,h=>by
  rcases Ir r _ h with q|⟨q1,q2⟩
  ·by_cases hk:k=.free
   ·rw[if_pos hk,cq] at q;by_cases hx:(x==n)=true
    ·rw[hx] at q;have hx':x=n:=by simpa using hx
     subst hx' hk;exact .inr ⟨ψ,(ao q).symm⟩
    ·have hx2:(x==n)=false:=by simpa using hx
     rw[hx2] at q;exact .inl q
   ·rw[if_neg hk] at q;exact .inl q
  ·exact .inr ⟨ω _ q1,q2⟩
theorem Iq{env:cV}{x:ι}:∀(l:List (ι×ft)) (acc:List (ι×ζ)),acc.lookup x=some ((env.cells.lookup x).getD 0)->(lS env l acc).lookup x=some ((env.cells.lookup x).getD 0)
 |[],_,h=>h
 | (n,k)::r,acc,h=>by
  refine Iq r _ ?_;by_cases hk:k=.free
  ·rw[if_pos hk,cq];by_cases hx:(x==n)=true
   ·rw[hx];have hx':x=n:=by simpa using hx
    rw[hx']
   ·have hx2:(x==n)=false:=by simpa using hx
    rw[hx2];exact h
  ·rw[if_neg hk];exact h
theorem Ip{env:cV}{x:ι}:∀(l:List (ι×ft)) (acc:List (ι×ζ)),(x,cM)∈l->(lS env l acc).lookup x=some ((env.cells.lookup x).getD 0)
 |[],_,h=>by cases h
 | (n,k)::r,acc,h=>by
  rcases aa.mp h with e|e
  ·cases e;refine Iq r _ ?_;rw[if_pos rfl,cq,beq_self_eq_true]
  ·exact Ip r _ e
structure fQ(N:List ι)(sc scope:eY)(own:List ι)(js:List Nat):Prop where
 kind:scope.kind=.function
 A6:∀y∈scope.names,y.2≠.cell
 names:∀y∈scope.names,y.2=.local->scope.names.lookup y.1=some .local
 free:∀y∈scope.names,y.2=.free->sc.names.lookup y.1=some .cell/\own.contains y.1=false
 only:∀y∈scope.names,y.2=.free->scope.names.lookup y.1=some .free
 js:∀j∈js,j<N.length/\(N.getD j gg,cM)∈scope.names
def W8(N own:List ι)(js:List Nat):List ι:=own++js.map fun j=>N.getD j gg
def tH(own:List ι)(js:List Nat)(σ:St):St:=aY own.length none++js.map fun j=>(σ[j]?).getD none
def Cx.cmp(X:Cx)(scope:eY)(own:List ι)(js:List Nat)(s:θ)(H:Hp)(fp:List ζ):Cx:=
 { X with N:=W8 X.N own js,s₀:=s,H₀:=H,env:=compEnvC scope (lS X.env scope.names []) s.heap.objs.size X.env,outer:=X.stack,ex:=fp,fn:=fun x=>own.contains x,pn:=[],xe:=fun _ _=>False }
theorem zq{sc:eY}{env:cV}{x:ι}{k:ft}:∀(names:List (ι×ft)),
  (names.map fun (n,k)=>if (k==cM&&env.scope.kind==.function&&env.kindOf n==some .cell) then (n,rF) else (n,k)).lookup x=some k ->
  (names.lookup x=some k/\(k≠.free∨k=.free))∨(k=.cell/\names.lookup x=some .free)
 |[],h=>by simp at h
 | (n,k')::r,h=>by
  have ih:=@zq sc env x k r;have h':List.lookup x ((if (k'==cM&&env.scope.kind==.function&&env.kindOf n==some .cell)=true then (n,rF) else (n,k'))::_)=some k:=h;rw[cq];by_cases hc:(k'==cM&&env.scope.kind==.function&&env.kindOf n==some .cell)=true
  ·rw[if_pos hc,cq] at h';cases hx:x==n with
   |true=>
    rw[hx] at h';have e:rF=k:=ao h';have hk':k'=.free:=by
     rw[bA,bA] at hc;simpa using hc.1.1
    exact .inr ⟨e.symm,by rw[hk']⟩
   |false=>
    rw[hx] at h';exact ih h'
  ·rw[if_neg hc,cq] at h';cases hx:x==n with
   |true=>
    rw[hx] at h';have e:k'=k:=ao h';subst e;exact .inl ⟨rfl,by by_cases z:k'=.free;exact .inr z;exact .inl z⟩
   |false=>
    rw[hx] at h';exact ih h'
theorem CO{x:ι}{k:ft}{l:List (ι×ft)}(h:l.lookup x=some k):(x,k)∈l:=fj h
section
variable {X:Cx} {pins:List (ζ×aL)} {σ:St} {H:Hp} {s:θ} {scope:eY} {own:List ι} {js:List Nat} {fp:List ζ}
theorem fQ.cells(C:fQ X.N X.env.scope scope own js)(ok:X.Ok):∀y∈scope.names,y.2=.free->∃c,X.env.cells.lookup y.1=some c:=fun y hy e=>
 ok.has y.1 (.inl (C.free y hy e).1)
theorem fQ.tJ(C:fQ X.N X.env.scope scope own js)(ok:X.Ok){x:ι}{c:ζ}(h:(lS X.env scope.names []).lookup x=some c):(x,cM)∈scope.names/\X.env.cells.lookup x=some c:=by
 rcases Ir scope.names [] h with q|⟨q1,q2⟩
 ·cases q
 ·obtain⟨c',e⟩:=C.cells ok _ q1 rfl;refine⟨q1,?_⟩;rw[q2,show X.env.cells.lookup x=some c' from e];rfl
theorem fQ.Bi(C:fQ X.N X.env.scope scope own js)(ok:X.Ok){x:ι}(h:(x,cM)∈scope.names):∃c,(lS X.env scope.names []).lookup x=some c/\X.env.cells.lookup x=some c:=by
 obtain⟨c,e⟩:=C.cells ok _ h rfl;refine⟨c,?_,e⟩;rw[Ip scope.names [] h,show X.env.cells.lookup x=some c from e];rfl
theorem Inv.K3(I:Inv X pins σ H s)(C:fQ X.N X.env.scope scope own js)(hf:∀b∈fp,jU X pins H b/\b<s.heap.objs.size):(X.cmp scope own js s H fp).Ok where
 mod:=I.ok.mod
 kind:=C.kind
 glob:=I.ok.glob
 blt:=I.ok.blt
 above:=Δ _
 inj:=fun x y c h1 h2=>I.ok.inj x y c (C.tJ I.ok h1).2 (C.tJ I.ok h2).2
 has:=fun x h=>by
  have hfree:(x,cM)∈scope.names:=by
   rcases h with h|h
   ·rcases zq (sc:=scope) (env:=X.env) scope.names h with⟨q,_⟩|⟨_,q⟩
    ·exact absurd rfl (C.A6 _ (CO q))
    ·exact CO q
   ·rcases zq (sc:=scope) (env:=X.env) scope.names h with⟨q,_⟩|⟨q,_⟩
    ·exact CO q
    ·cases q
  obtain⟨c,e,_⟩:=C.Bi I.ok hfree;exact⟨c,e⟩
 yx:=fun x c h1 h2=>by
  have q:=(C.free _ (C.tJ I.ok h2).1 rfl).2;have h1':own.contains x=true:=h1;rw[q] at h1';cases h1'
 hd:=I.ok.hd
 frames:=I.ok.frames
 AQ:=.inl rfl
 Be:=fun b hb=>⟨bt (hf b hb).2,fun x c e=>(hf b hb).1.2.2.2.2.1 x c (C.tJ I.ok e).2⟩
 bs:=I.bs
 rA:=aK I.ok.rA I.sz
 uz:=fun b o e hb=>by
  rcases (hf b hb).1.2.2.2.1 with z|z
  ·exact I.ok.uz b o e z
  ·exact absurd (bz (Φ e) (aK I.ok.rA z)) (cm _)
 vY:=fun b hb z=>by
  rcases aa.mp (I.rX b z) with e|e
  ·exact (hf b hb).1.2.1 e
  ·exact (hf b hb).1.2.2.1 e
 kO:=I.stack
 wa:=I.gB
theorem S6{N:List ι}{js:List Nat}{i:Nat}{x:ι}(h:(js.map fun j=>N.getD j gg)[i]?=some x):∃j,js[i]?=some j/\x=N.getD j gg:=by
 rw[aS] at h;cases e:js[i]? with
 |none=>rw[e] at h;cases h
 |some j=>rw[e] at h;exact⟨j,rfl,(ao h).symm⟩
theorem Inv.cmp(I:Inv X pins σ H s)(C:fQ X.N X.env.scope scope own js)(hf:∀b∈fp,jU X pins H b/\b<s.heap.objs.size){h':af}{tk:Nat}(hn:h'.Ns s.heap.objs.size fun _=>none)
  (kept:∀b o,s.heap.get? b=some o->h'.get? b=some o):Inv (X.cmp scope own js s H fp) [] (tH own js σ) H { s with heap:=h',toks:=tk }:=by
 have ok:=I.K3 C hf;refine⟨ok,rfl,I.bare,Un.kept kept,⟨_,hn,fun i x v h1 h2 h3=>?_⟩,fun x c e=>?_,I.bx.fresh (Δ _),fun x c e=>I.jx x c (C.tJ I.ok e).2,fun p hp=>?_,I.bx.kept kept,?_⟩
 ·have h1':(own++js.map fun j=>X.N.getD j gg)[i]?=some x:=h1;have h2':(aY own.length none++js.map fun j=>(σ[j]?).getD none)[i]?=some (some v):=h2;by_cases hi:i<own.length
  ·rw[eR (by simpa using hi),jI,if_pos hi] at h2';cases h2'
  ·rw[eF (by lia)] at h1';rw[eF (by simp;lia),kD] at h2';obtain⟨j,hj,rfl⟩:=S6 h1';rw[aS,hj] at h2';have h2'':(σ[j]?).getD none=some v:=ao h2';have hσ:σ[j]?=some (some v):=by
    cases e:σ[j]? with
    |none=>rw[e] at h2'';cases h2''
    |some o=>
     rw[e] at h2'';have:o=some v:=h2'';rw[this]
   obtain⟨jl,jf⟩:=C.js j (bW hj);have hN:X.N[j]?=some (X.N.getD j gg):=by
    rw[List.getD_eq_getElem?_getD,bu jl];rfl
   have hcell:=(C.free _ jf rfl).1;obtain⟨m,hm,hl⟩:=I.loc;obtain⟨u,ru,lk⟩:=hl j _ v hN hσ (.inr (.inl hcell));refine⟨u,ru,?_⟩;obtain⟨c,e1,e2⟩:=C.Bi I.ok jf;rcases lk with⟨z,_⟩|⟨_,c',z1,z2⟩
   ·have z':X.env.scope.names.lookup (X.N.getD j gg)=some .local:=z;rw[show X.env.scope.names.lookup (X.N.getD j gg)=some .cell from hcell] at z';cases z'
   ·rw[e2] at z1;cases z1;have ic:h'.IsCell c (some u):=by
     obtain⟨o,q1,q2⟩:=z2;exact⟨o,kept _ _ q1,q2⟩
    rcases h3 with h3|h3|h3
    ·exfalso;rcases zq (sc:=scope) (env:=X.env) scope.names h3 with⟨q,_⟩|⟨q,_⟩
     ·have z:=C.only _ jf rfl;rw[q] at z;cases z
     ·cases q
    ·exact .inr ⟨.inl h3,c,e1,ic⟩
    ·exact .inr ⟨.inr h3,c,e1,ic⟩
 ·obtain⟨v,o,q1,q2⟩:=I.cell x c (C.tJ I.ok e).2;exact⟨v,o,kept _ _ q1,q2⟩
 ·exact absurd (show p∈([]:List (ζ×aL)) from hp) (by simp)
 ·show (aY own.length none++js.map fun j=>(σ[j]?).getD none).length=(own++js.map fun j=>X.N.getD j gg).length;simp
theorem Inv.Km{σ':St}{H':Hp}{s':θ}{pl:List (ζ×aL)}(I:Inv X pins σ H s)(hf:∀b∈fp,jU X pins H b/\b<s.heap.objs.size)(J:Inv (X.cmp scope own js s H fp) pl σ' H' s'):Inv X pins σ H' s':=by
 refine I.Ay (ch:=fp) J.os J.base J.bx J.bare fun b hb=>?_;obtain⟨f0,f1,f2,f3,f4,f5⟩:=(hf b hb).1;exact⟨f3,f1,f4,f5⟩
theorem Inv.other{H':Hp}{s':θ}{h':af}{b:ζ}(I0:Inv X pins σ H s)(I:Inv X pins σ H' s')(hb:s.heap.objs.size≤b)(hn:H' b=none)(sb:eE b s'.heap h'):Inv X pins σ H' { s' with heap:=h' }:=by
 obtain⟨f0,f1,f2,f3,f4,f5⟩:=I0.uC hb hn;exact I.turned (t':=s'.toks) (fun c o hc e=>(sb.2 c hc).trans e) f0 f1 f3 f4 f5
end
def wj(X:Cx)(ifs:List ρ)(t:TT):Prop:=
 ∀(pins:List (ζ×aL)) (s:θ) (σ:St) (H:Hp) (Q:Bool->Hp->Prop),Inv X pins σ H s->t σ H Q ->
  π (model X.prog X.w) X.A (forIn ifs true fun c r=>if r=true then do let ok ←isTrue c X.env (eval c X.env);pure (gS ok) else pure (gS r)) (TP X pins σ Q) X.xe s
def Ee:TT:=fun _ H Q=>Q true H
theorem Se{X:Cx}:wj X [] Ee:=fun _ _ _ H _ I h=>wpAny_tests_nil ⟨H,I,h⟩
theorem Sd{X:Cx}{c:ρ}{t:TT}(h:PT X c t):wj X [c] t:=fun pins s σ H Q I hq=>wpAny_tests_one (h pins s σ H Q I hq)
section
variable {prog:Ω} {w:aj} {A:aB} {R:Result->θ->Prop} {s:θ}
theorem Sb{elt target iter:ρ}{ifs:List ρ}{scope:eY}{pos:aJ}{it acc:ε}{env:cV}(I:Nat->θ->Prop)
  (turn:∀n s,I n s->π (model prog w) A (pyNext it) (fun r s₁=>match r with
   |none=>R (.ok .next) s₁
   | some v=>π (model prog w) A (letOwnedTupleGo target it v) (fun _ s₁'=>π (model prog w) A (assign target env v) (fun _ s₂=>
     π (model prog w) A (forIn ifs true fun c r=>if r=true then do let ok ←isTrue c env (eval c env);pure (gS ok) else pure (gS r)) (fun ok s₃=>
      if ok=true then π (model prog w) A (eval elt env) (fun x s₄=>
       π (model prog w) A (call (.builtin "list.append") [acc,x]) (fun _ s₅=>∃m,m<n/\I m s₅) (fun _ _=>False) s₄) (fun _ _=>False) s₃
      else ∃m,m<n/\I m s₃) (fun _ _=>False) s₂) (fun _ _=>False) s₁') (fun _ _=>False) s₁) (fun _ _=>False) s)
  (n:Nat) (h:I n s):
  ij (model prog w) A (.compLoop (.ListComp elt [⟨target,iter,ifs,0⟩] scope pos) 0 it acc env) R s:=by
 refine codeAny_loop rfl I (fun n s hI=>?_) n h;show π _ A ((compTurn (.ListComp elt [⟨target,iter,ifs,0⟩] scope pos) 0 it acc env).onRaise (fun x=>do noteFrame x env;theTreesLotGoes x)) _ _ s
 refine wpAny_noted ?_;rw[compTurn_list];refine δ (mQ (δ (cH (turn n s hI) (fun r s₁ h₁=>?_) fun _ _ h'=>h'.elim)));cases r with
 |none=>exact ν h₁
 |some v=>
  refine δ (cH h₁ (fun _ s₁' h₁'=>?_) fun _ _ h'=>h'.elim);refine δ (cH h₁' (fun _ s₂ h₂=>δ (cH h₂ (fun ok s₃ h₃=>?_) fun _ _ h'=>h'.elim)) fun _ _ h'=>h'.elim);cases ok with
  |false=>exact ν ⟨rfl,h₃⟩
  |true=>
   exact δ (δ (cH h₃ (fun x s₄ h₄=>δ (cH h₄ (fun _ s₅ h₅=>ν (ν ⟨rfl,h₅⟩)) fun _ _ h'=>h'.elim)) fun _ _ h'=>h'.elim))
end
def J7(own:List ι)(js:List Nat)(g:TG)(tc:TT)(te:TE)(J:It)(σ:St)(H:Hp)(Q:VK):Prop:=
 ∀D,H D=none->∃W:Nat->Nat->List V->St->Hp->Prop,(∃m,W 0 m [] (tH own js σ) (upd H D (.lst [])))/\∀i m ys σ' H',W i m ys σ' H'->H' D=some (.lst ys) ∧
  ((J.stop i H'/\Q (.ref D) H')∨(J.go i H'/\ys.length<ag/\∀x H2,J.AK i H' x H2->g x σ' H2 fun σ2 H3=>tc σ2 H3 fun b H4=>
   if b=true then te σ2 H4 fun v H5=>H5 D=some (.lst ys)/\∃m',m' < m/\W (i+1) m' (ys++[v]) σ2 (upd H5 D (.lst (ys++[v]))) else ∃m',m' < m/\W (i+1) m' ys σ2 H4))
def Ld(own:List ι)(js:List Nat)(wi:TI)(g:TG)(tc:TT)(te:TE):TE:=fun σ H Q=>wi σ H fun J H1=>J7 own js g tc te J σ H1 Q
section
variable {X:Cx} {tg iter elt:ρ} {ifs:List ρ} {scope:eY} {pos:aJ} {own:List ι} {js:List Nat} {g:TG} {tc:TT} {te:TE}
theorem Sa{pins:List (ζ×aL)}{σ:St}{H:Hp}{s:θ}{Q:VK}{it:ζ}{fp:List ζ}{tn:Nat->af->Prop}{J:It}{E:ε->θ->Prop}{RR:ε->ζ->Result->θ->Prop}
  (hc:X.calm=true) (C:fQ X.N X.env.scope scope own js)
  (hb:∀s H fp,PG (X.cmp scope own js s H fp) tg g/\wj (X.cmp scope own js s H fp) ifs tc/\PE (X.cmp scope own js s H fp) elt te)
  (I:Inv X pins σ H s) (T:Turn X.prog X.w X.K tg J fp it tn) (st:tn 0 s.heap) (hf:∀b∈fp,jU X pins H b) (rd:J7 own js g tc te J σ H Q)
  (Xs:∀D N s' H',Inv X pins σ H' s'->Q (.ref D) H'->s.heap.objs.size≤N->H' N=none->(∃m,s'.heap.Ns N m)->RR (.ref D) N (.ok .next) s'):
  π (model X.prog X.w) X.A (newList []) (fun acc s₃=>π (model X.prog X.w) X.A (newFunctionEnv scope X.env.globals (lS X.env scope.names []) [] X.env.qual none .none (some X.env)) (fun cenv s₄=>
   ij (model X.prog X.w) X.A (.compStart (.ListComp elt [⟨tg,iter,ifs,0⟩] scope pos) 0 (.ref it) acc { cenv with scope:=relabel scope X.env }) (RR acc cenv.locals) s₄) E s₃) E s:=by
 have hD:H s.heap.objs.size=none:=I.fresh;obtain⟨W,⟨m0,w0⟩,turn⟩:=rd s.heap.objs.size hD;refine cA ?_;have hI3:Inv X pins σ (upd H s.heap.objs.size (.lst [])) { s with heap:=s.heap.push { cls:=.type "list",data:=.seq ([]:List ε).toArray }}:=
  I.zP (t':=s.toks) (its:=[]) (ys:=[]) .nil (ax _)
 have hlt:∀b∈fp,b<s.heap.objs.size:=fun b hb=>by
  obtain⟨o,e,_⟩:=T.obj 0 _ st b hb;exact Φ e
 have st3:tn 0 (s.heap.push { cls:=.type "list",data:=.seq ([]:List ε).toArray }):=T.keep 0 _ _ st fun b _ o e=>μ _ e;generalize hs3:({ s with heap:=s.heap.push { cls:=.type "list",data:=.seq ([]:List ε).toArray }}:θ)=s3 at hI3 ⊢;have hsz3:s3.heap.objs.size=s.heap.objs.size+1:=by rw[←hs3];exact dw ..
 have st3':tn 0 s3.heap:=by rw[←hs3];exact st3
 have hf3:∀b∈fp,jU X pins (upd H s.heap.objs.size (.lst [])) b/\b<s3.heap.objs.size:=fun b hb=>by
  obtain⟨f0,f1⟩:=hf b hb;refine⟨⟨?_,f1⟩,by rw[hsz3];exact g9 (hlt b hb)⟩;rw[dH (bt (hlt b hb))];exact f0
 refine wpAny_newFunctionEnv C.A6 (by intro y hy;simp at hy) (fun h₁ hns₁ hsb₁=>?_) C.kind;have kept1:∀b o,s3.heap.get? b=some o->h₁.get? b=some o:=fun b o e=>(hsb₁.2 b (bt (Φ e))).trans (μ _ e);have I4:Inv (X.cmp scope own js s3 (upd H s.heap.objs.size (.lst [])) fp) [] (tH own js σ) (upd H s.heap.objs.size (.lst [])) { s3 with heap:=h₁,toks:=s3.toks+([]:List (ι×ε)).length }:=
  hI3.cmp C hf3 hns₁ kept1
 have st4:tn 0 h₁:=T.keep 0 _ _ st3' fun b _ o e=>kept1 b o e;obtain⟨hg,ht,he⟩:=hb s3 (upd H s.heap.objs.size (.lst [])) fp
 -- the iterator's objects in the block's context
 have stat:∀{H':Hp},(∀b∈fp,H' b=none)->∀b∈fp,jU (X.cmp scope own js s3 (upd H s.heap.objs.size (.lst [])) fp) [] H' b:=fun {H'} hn b hb=>by
  have q:=I4.ok;exact⟨hn b hb,(q.Be b hb).1,q.vY b hb,.inl hb,(q.Be b hb).2,fun p hp=>absurd (show p∈([]:List (ζ×aL)) from hp) (by simp)⟩
 have loop:ij (model X.prog X.w) X.A (.compLoop (.ListComp elt [⟨tg,iter,ifs,0⟩] scope pos) 0 (.ref it) (.ref s.heap.objs.size) (compEnvC scope (lS X.env scope.names []) s3.heap.objs.size X.env))
   (RR (.ref s.heap.objs.size) s3.heap.objs.size) { s3 with heap:=h₁,toks:=s3.toks+([]:List (ι×ε)).length }:=by
  refine Sb (fun n s'=>∃i ys σ' H',Inv (X.cmp scope own js s3 (upd H s.heap.objs.size (.lst [])) fp) [] σ' H' s'/\tn i s'.heap/\(∀b∈fp,H' b=none)/\W i n ys σ' H') ?_ m0
   ⟨0,[],_,_,I4,st4,fun b hb=>(hf3 b hb).1.1,w0⟩
  rintro n s5 ⟨i,ys,σ5,H5,I5,st5,fr5,w5⟩;obtain⟨hacc,hcase⟩:=turn i n ys σ5 H5 w5;rcases hcase with⟨stop,qn⟩|⟨go,hys,step⟩
  ·refine bB (T.done (X.cmp scope own js s3 (upd H s.heap.objs.size (.lst [])) fp) rfl rfl rfl hc i [] s5 σ5 H5 (fun _ _=>False) I5 (stat fr5) st5 stop) fun r s6 ⟨hr,I6⟩=>?_;subst hr;have I7:=hI3.Km hf3 I6;obtain⟨m,hm,_⟩:=I6.loc;exact Xs _ _ _ _ I7 qn (by rw[hsz3];exact pM _) I6.free ⟨m,hm⟩
  ·refine bB (T.item (X.cmp scope own js s3 (upd H s.heap.objs.size (.lst [])) fp) rfl rfl rfl hc i [] s5 σ5 H5 (fun _ _=>False) I5 (stat fr5) st5 go) fun r s6 ⟨u,hr,h6⟩=>?_;subst hr;refine bB h6 fun _ s7 ⟨x,H7,I7,r7,y7,st7,fr7⟩=>?_;have I7':=I7.pinned (stat fr7) (T.obj _ _ st7);refine bB (hg _ s7 σ5 H7 x u _ I7' r7 (step x H7 y7)) fun _ s8 ⟨σ8,H8,I8,q8⟩=>?_;refine bB (ht _ s8 σ8 H8 _ I8 q8) fun ok s9 ⟨H9,I9,q9⟩=>?_;have back:∀{σ':St} {H':Hp} {s':θ} {ys':List V},Inv (X.cmp scope own js s3 (upd H s.heap.objs.size (.lst [])) fp) ([]++sm fp s7.heap) σ' H' s'->(∃m',m' < n/\W (i+1) m' ys' σ' H') ->
     ∃m',m' < n/\∃i ys σ' H',Inv (X.cmp scope own js s3 (upd H s.heap.objs.size (.lst [])) fp) [] σ' H' s'/\tn i s'.heap/\(∀b∈fp,H' b=none)/\W i m' ys σ' H':=fun {σ' H' s' ys'} I' ⟨m',hm,w'⟩=>by
    refine⟨m',hm,i+1,ys',σ',H',I'.qo,T.keep _ _ _ st7 fun b hb o e=>(I'.pin (b,o) (bq _ (bq _ (zu hb e)))).1,fun b hb=>?_,w'⟩;obtain⟨o,e,d⟩:=T.obj _ _ st7 b hb;exact (I'.pin (b,o) (bq _ (bq _ (zu hb e)))).2.1
   cases ok with
   |false=>
    rw[if_neg au] at q9 ⊢;exact back I9 q9
   |true=>
    rw[if_pos rfl] at q9 ⊢;refine bB (he _ s9 σ8 H9 _ I9 q9) fun xv s10 ⟨v,H10,I10,r10,hD10,q10⟩=>?_;refine bB (CQ (X:=X.cmp scope own js s3 (upd H s.heap.objs.size (.lst [])) fp) _ s10 σ8 H10 (.ref s.heap.objs.size) [v] (.ref s.heap.objs.size) [xv] (fun _ H'=>H'=upd H10 s.heap.objs.size (.lst (ys++[v]))) I10 rfl (.cons r10 .nil)
     ⟨_,ys,v,rfl,rfl,hD10,hys,rfl⟩) fun _ s11 ⟨_,H11,I11,_,e11⟩=>?_
    subst e11;exact back I11 q10
 exact codeAny_compStart_list loop (T.self _ 0 _ _ _ st4 loop)
theorem R9{wi:TI}(hc:X.calm=true)(C:fQ X.N X.env.scope scope own js)(hi:PI X tg iter wi)
  (hb:∀s H fp,PG (X.cmp scope own js s H fp) tg g/\wj (X.cmp scope own js s H fp) ifs tc/\PE (X.cmp scope own js s H fp) elt te)
  (hs:∀x,foldedSetIterable iter X.env x=pure x:=by intro _;rfl):PE X (.ListComp elt [⟨tg,iter,ifs,0⟩] scope pos) (Ld own js wi g tc te):=by
 intro pins s σ H Q I h;rw[eval_ListComp];refine wpAny_comprehension_free (use:=none) rfl hs (S7 (C.cells I.ok)) C.kind C.names (bB (hi pins s σ H _ I h) fun xv s₁ h₁=>bB h₁ fun itv s₂ h₂=>?_);obtain⟨it,fp,tn,J,H2,e,I2,T,st2,f2,rd⟩:=h₂;subst e;refine Sa (RR:=fun acc C'=>compPost (model X.prog X.w) X.A X.xe none (EP X pins σ Q) acc C') hc C hb I2 T st2 f2 rd fun D N s' H' I' q hN hHN ⟨m,hm⟩=>?_;exact⟨m,hm,fun h' sb=>⟨.ref D,H',I2.other I' hN hHN sb,rfl,q⟩⟩
end
end L2
namespace L3
open PySem PySem.Spec PyProof.Rows L2
section
variable {X:Cx} {st:aV} {rest:List aV} {t u:aA} {e c:ρ} {te:aw} {tc:cQ} {pos:aJ}
def cT:aA:=fun D τ G=>D.nx τ G
def bh(t u:aA):aA:=fun D τ G=>t { D with nx:=u D } τ G
theorem R8:jd X [] cT:=Jk Uw fun D σ H ⟨τ,G,D3,RS,RG,h,k⟩=>k.nx τ σ G H RS (.refl H G) RG h
theorem R7(h1:t5 X st t)(h2:jd X rest u):jd X (st::rest) (bh t u):=Jk (Uv h1 h2) fun D σ H ⟨τ,G,D3,RS,RG,h,k⟩=>
 ⟨τ,G,{ D3 with nx:=u D3 },RS,RG,h,⟨fun τ' σ' G' H' a b c q=>⟨τ',G',D3,a,c,q,k.step b⟩,k.bk,k.ct,k.rt⟩⟩
theorem R6(h1:t5 X st t):jd X [st] t:=Uu h1
def tz(te:aw):aA:=fun D τ G=>te τ G fun _ G1=>D.nx τ G1
theorem R5(he:bL X e te)(hs:swapsWith e none pos.line X.env=pure false:=by rfl):t5 X (.Expr e pos) (tz te):=vO (Ut he hs) fun D σ H ⟨τ,G,D3,RS,RG,h,k⟩=>
 ⟨τ,G,_,RS,RG,h,fun v H1 d G1 h1 S1 R1 q1=>k.nx τ σ G1 H1 (RS.ext (S1.ext RG)) S1 R1 q1⟩
def bZ(te:aw):aA:=fun D τ G=>te τ G D.rt
theorem R0(he:bL X e te):t5 X (.Return (some e) pos) (bZ te):=vO (Us he) fun D σ H ⟨τ,G,D3,RS,RG,h,k⟩=>
 ⟨τ,G,D3.rt,RS,RG,h,fun v H1 d G1 h1 S1 R1 q1=>k.rt d v G1 H1 h1 S1 R1 q1⟩
def fv(c:cQ)(t u:aA):aA:=fun D τ G=>c τ G fun b G1=>Br b (t D τ G1) (u D τ G1)
theorem LD{a b:List aV}(hc:pW X c tc)(ha:jd X a t)(hb:jd X b u):t5 X (.If c a b pos) (fv tc t u):=vO (Ur hc ha hb) fun D σ H ⟨τ,G,D3,RS,RG,h,k⟩=>
 ⟨τ,G,_,RS,RG,h,fun b H1 G1 S1 R1 q1=>Br.ite q1 (fun q=>⟨τ,G1,D3,RS.ext (S1.ext RG),R1,q,k.step S1⟩) fun q=>⟨τ,G1,D3,RS.ext (S1.ext RG),R1,q,k.step S1⟩⟩
end
abbrev iK:=D->S3->Gp->(S3->Gp->Prop)->Prop
abbrev oj:=List D->S3->Gp->(S3->Gp->Prop)->Prop
def lowG(K:η)(t:iK):TG:=fun v σ H Q=>∃d τ G Q3,Hv K H d v/\eJ K τ σ H/\aM K G H/\t d τ G Q3/\∀τ' σ' G' H',eJ K τ' σ' H'->Step H G H' G'->aM K G' H'->Q3 τ' G'->Q σ' H'
def KR(K:η)(t:oj):uY:=fun vs σ H Q=>∃ds τ G Q3,aD K H ds vs/\eJ K τ σ H/\aM K G H/\t ds τ G Q3/\∀τ' σ' G' H',eJ K τ' σ' H'->Step H G H' G'->aM K G' H'->Q3 τ' G'->Q σ' H'
abbrev wg(X:Cx)(tg:ρ)(t:iK):Prop:=PG X tg (lowG X.K t)
abbrev xY(X:Cx)(tgs:List ρ)(t:oj):Prop:=xZ X tgs (KR X.K t)
section
variable {X:Cx} {pos:aJ} {e:ρ} {es:List ρ}
theorem CN{t t':TG}(h:PG X e t)(f:∀v σ H Q,t' v σ H Q->t v σ H Q):PG X e t':=fun pins s σ H v u Q I r q=>h pins s σ H v u Q I r (f v σ H Q q)
theorem Io{t t':uY}(h:xZ X es t)(f:∀v σ H Q,t' v σ H Q->t v σ H Q):xZ X es t':=fun pins s σ H v u Q I r q=>h pins s σ H v u Q I r (f v σ H Q q)
def hName(i:Nat):iK:=fun d τ G Q=>Q (kn τ i d) G
theorem RZ{i:Nat}{x:ι}(hN:X.N.Nodup)(hi:X.N[i]?=some x:=by rfl)(hx:Loc X.env.scope x:=by first|exact sV rfl|exact qj rfl)(hf:X.fn x=true∨X.env.scope.names.lookup x=some .local:=by first|exact .inl rfl|exact .inr rfl|assumption):wg X (.Name x pos) (hName i):=
 CN (Uq hN hi hx hf) fun v σ H Q ⟨d,τ,G,Q3,hd,RS,RG,h,k⟩=>k _ _ G H (RS.set hd) (.refl H G) RG h
def sF:oj:=fun ds τ G Q=>match ds with
 |[]=>Q τ G
 |_::_=>False
def iX(t:iK)(u:oj):oj:=fun ds τ G Q=>match ds with
 |[]=>False
 |d::r=>t d τ G fun τ' G'=>u r τ' G' Q
theorem RY:xY X [] sF:=Io Up fun vs σ H Q ⟨ds,τ,G,Q3,hd,RS,RG,h,k⟩=>by
 cases ds with
 |nil=>exact⟨hd.gz,k _ _ G H RS (.refl H G) RG h⟩
 |cons d r=>exact h.elim
theorem RX{t:iK}{u:oj}(h1:wg X e t)(h2:xY X es u)(hs:(assignEach (e::es) X.env).map (·.2)=assign e X.env::(assignEach es X.env).map (·.2):=by rfl):xY X (e::es) (iX t u):=
 Io (Uo h1 h2 hs) fun vs σ H Q ⟨ds,τ,G,Q3,hd,RS,RG,h,k⟩=>by
  cases ds with
  |nil=>exact h.elim
  |cons d r=>
   obtain⟨v,vr,rfl,q1,q2⟩:=hd.inv;refine⟨v,vr,rfl,d,τ,G,_,q1,RS,RG,h,fun τ' σ' G' H' a b c q=>?_⟩;exact⟨r,τ',G',Q3,q2.ext (b.ext RG),a,c,q,fun τ2 σ2 G2 H2 a2 b2 c2=>k τ2 σ2 G2 H2 a2 (b.trans b2) c2⟩
def sE(n:Nat)(t:oj):iK:=fun d τ G Q=>match d with
 |.tup ds=>ds.length=n/\t ds τ G Q
 |_=>False
theorem RW{k:Nat}{t:oj}{n:Nat}(hc:X.calm=true)(h:xY X es t)(hn:(assignEach es X.env).length=n:=by rfl)(hst:(assignEach es X.env).findIdx? (·.1)=none:=by rfl):wg X (.Tuple es k pos) (sE n t):=
 CN (Um hc h hn hst) fun v σ H Q ⟨d,τ,G,Q3,hd,RS,RG,h,k⟩=>by
  cases d with
  |tup ds=>
   unfold Hv at hd;obtain⟨a,vs,e1,e2,e3⟩:=hd;exact⟨a,vs,e1,e2,by rw[←e3.length];exact h.1,ds,τ,G,Q3,e3,RS,RG,h.2,k⟩
  |_=>exact h.elim
def b9(te:aw)(g:iK):aA:=fun D τ G=>te τ G fun x G1=>g x τ G1 D.nx
theorem RV{tg:ρ}{te:aw}{g:iK}(he:bL X e te)(hg:wg X tg g)(hs:swapsWithSole [tg] e pos.line X.env=pure false:=by rfl)(hw:swappedStores [tg] e X.env=pure none:=by rfl)
  (h1:(assignEach [tg] X.env).map (·.2)=[assign tg X.env]:=by rfl):t5 X (.Assign [tg] e pos) (b9 te g):=vO (Uk he hg hs hw h1) fun D σ H ⟨τ,G,D3,RS,RG,h,k⟩=>
 ⟨τ,G,_,RS,RG,h,fun v H1 d G1 h1 S1 R1 q1=>⟨d,τ,G1,D3.nx,h1,RS.ext (S1.ext RG),R1,q1,fun τ' σ' G' H' a b c q=>k.nx τ' σ' G' H' a (S1.trans b) c q⟩⟩
theorem RU{i:Nat}{x:ι}{te:aw}{pos':aJ}(hN:X.N.Nodup)(he:bL X e te)(hi:X.N[i]?=some x:=by rfl)(hx:Loc X.env.scope x:=by first|exact sV rfl|exact qj rfl)(hs:swapsWith e (some (.Name x pos')) pos.line X.env=pure false:=by rfl)
  (hf:X.fn x=true∨X.env.scope.names.lookup x=some .local:=by first|exact .inl rfl|exact .inr rfl|assumption):t5 X (.Assign [.Name x pos'] e pos) (b9 te (hName i)):=vO (Uj hN hi hx he hs hf) fun D σ H ⟨τ,G,D3,RS,RG,h,k⟩=>
 ⟨τ,G,_,RS,RG,h,fun v H1 d G1 h1 S1 R1 q1=>k.nx _ _ G1 H1 ((RS.ext (S1.ext RG)).set h1) S1 R1 q1⟩
def DJ:D->D->D->Gp->(Gp->Prop)->Prop:=fun o i v G Q=>match o,i with
 |.obj p,.int k=>∃ds j,G p=some (.lst ds)/\rm ds.length k=some j/\Q (eH G p (.lst (ds.set j v)))
 |_,_=>False
def hSub(to ti:aw):iK:=fun v τ G Q=>to τ G fun o G1=>ti τ G1 fun i G2=>DJ o i v G2 fun G3=>Q τ G3
theorem RT{K:η}{o i v:D}{vo vi vv:V}{G:Gp}{H:Hp}{Q3:Gp->Prop}{Q:Hp->Prop}(ho:Hv K H o vo)(hi:Hv K H i vi)(hv:Hv K H v vv)(RG:aM K G H)(h:DJ o i v G Q3)
  (k:∀H' G',Step H G H' G'->aM K G' H'->Q3 G'->Q H'):DI vo vi vv H Q:=by
 match o,i,ho,hi,h with
 |.obj p,.int j,ho,hi,h=>
  unfold Hv at ho hi;obtain⟨ds,n,e1,e2,q⟩:=h;obtain⟨vs,e3,e4⟩:=RG p _ e1;refine⟨p,vs,j,n,ho,hi,e3,by rw[←e4.length];exact e2,k _ _ (Step.wrote (g:=.lst (ds.set n v)) e1) (RG.wrote e3 ⟨_,iJ,?_⟩) q⟩;exact (e4.ext (Ext.wrote e3)).set n (hv.ext (Ext.wrote e3))
 |.obj _,.av,_,_,h=>exact h.elim
 |.obj _,.bl _,_,_,h=>exact h.elim
 |.obj _,.str _,_,_,h=>exact h.elim
 |.obj _,.tup _,_,_,h=>exact h.elim
 |.obj _,.dA _,_,_,h=>exact h.elim
 |.obj _,.obj _,_,_,h=>exact h.elim
 |.obj _,.dc _,_,_,h=>exact h.elim
 |.dc _,_,_,_,h=>exact h.elim
 |.av,_,_,_,h=>exact h.elim
 |.bl _,_,_,_,h=>exact h.elim
 |.int _,_,_,_,h=>exact h.elim
 |.str _,_,_,_,h=>exact h.elim
 |.tup _,_,_,_,h=>exact h.elim
 |.dA _,_,_,_,h=>exact h.elim
theorem RQ{o i:ρ}{to ti:aw}(ho:bL X o to)(hi:bL X i ti)
  (ha:∀v,assign (.Subscript o i pos) X.env v=(do
   let ov ←holding [v] (eval o X.env)
   let iv ←holding [v,ov] (eval i X.env)
   standAt pos
   holding [v,ov,iv] (setItem ov iv v)
   release [v,ov,iv] []):=by intro _;rfl):wg X (.Subscript o i pos) (hSub to ti):=CN (Ul ho hi set_list ha) fun v σ H Q ⟨d,τ,G,Q3,hd,RS,RG,h,k⟩=>
 ⟨τ,G,_,RS,RG,h,fun v1 H1 d1 G1 h1 S1 R1 q1=>⟨τ,G1,_,RS.ext (S1.ext RG),R1,q1,fun v2 H2 d2 G2 h2 S2 R2 q2=>
  RT (h1.ext (S2.ext R1)) h2 ((hd.ext (S1.ext RG)).ext (S2.ext R1)) R2 q2 fun H' G' y1 y2 y3=>k _ _ G' H' (((RS.ext (S1.ext RG)).ext (S2.ext R1)).ext (y1.ext R2)) ((S1.trans S2).trans y1) y2 y3⟩⟩
end
abbrev fC:=List D->Gp->V3->Prop
def lX(K:η)(sp:fC):Sp:=fun vs H Q _=>∃ds G Q3,aD K H ds vs/\aM K G H/\sp ds G Q3/\∀v H' d G',Hv K H' d v->Step H G H' G'->aM K G' H'->Q3 d G'->Q v H'
abbrev fi(P:Ω)(w:aj)(K:η)(mg:ι->Option ε)(base:af)(k:Nat)(f:ζ)(fd:ay)(ps:List ι)(sp:fC):Prop:=jg P w K mg base qb k f fd ps (lX K sp)
def bG(sp:fC)(t:cw):aw:=fun τ G Q=>t τ G fun ds G1=>sp ds G1 Q
section
variable {X:Cx} {k:Nat} {f:ζ} {fd:ay} {ps:List ι} {sp:fC} {x:ι} {p pos:aJ} {e:ρ} {es:List ρ} {t:cw}
theorem Im{K:η}{σ:L2.St}{H:Hp}{Q:VK}{E:XK}(h:low K (bG sp t) σ H Q):yF (lX K sp) [] E (pG K t) σ H Q:=by
 obtain⟨τ,G,Q3,RS,RG,h,k⟩:=h;refine⟨τ,G,_,RS,RG,h,fun vs H1 ds G1 h1 S1 R1 q1=>?_⟩;refine⟨ds,G1,Q3,by rw[bO];exact h1,R1,q1,fun v H' d G' z1 z2 z3 z4=>k v H' d G' z1 (S1.trans z2) z3 z4⟩
theorem RP(F:fi X.prog X.w X.K X.mg X.base k f fd ps sp)(hr:dI k X.A)(hm:X.mg x=some (.ref f))(hk:bS X.K (.ref f)=true)(hb:Binds X.K fd ps [])(ha:ig X (e::es) t)(hg:Gl X x:=by rfl)
  (hdb:(x==("__debug__":ι))=false:=by decide) (he:notStar e=true:=by rfl) (hpl:es.all notStar=true:=by rfl):
  bL X (.Call (.Name x p) (e::es) [] pos) (bG sp t):=hX (TB (E:=E0) F hr hg hm hk hb .nil KC ha hdb (dY he) (jG hpl)) fun σ H Q h=>Im h
end
section
variable {P:Ω} {w:aj} {K:η} {mg:ι->Option ε} {base:af}
def aT(Q:V3):jA:={ nx:=fun _ G'=>∃G0,Sub G0 G'/\Q .av G0,rt:=fun d G'=>∃G0,Sub G0 G'/\Q d G0 }
theorem XF{x qual:ι}{st:aV}{f:ζ}{fd:ay}{N ps:List ι}{k:Nat}{sp:fC}(F:fy K x qual st f fd)(S:bK N ps (ai st))(hN:ps.length≤N.length)(len:∀ds G Q,sp ds G Q->ds.length=ps.length)(tb:aA)
  (gK:∀(cdv:ε) (A:aB) (outer:List cV) (s:θ) (H:Hp) (E:XK),dI k (A.deeper (envOfC qual (ai st) s.heap.objs.size f cdv)) ->
   jd (ia qb P w K mg base N qual (ai st) f cdv A outer s H E).lG (e8 st) tb)
  (rp:∀ds G Q,sp ds G Q->tb (aT Q) (bD N ds) G):fi P w K mg base (k+1) f fd ps sp:=by
 refine F.ok S (fun vs H Q E h=>?_) (fun cdv A outer s H vs Q E hr h=>?_)
 ·obtain⟨ds,G,Q3,h1,h2,h3,h4⟩:=h;rw[←h1.length];exact len _ _ _ h3
 ·obtain⟨ds,G,Q3,h1,h2,h3,h4⟩:=h;refine⟨_,gK cdv A outer s H E hr,bD N ds,G,aT Q3,.start h1 ?_,h2,rp _ _ _ h3,⟨?_,?_,?_,?_⟩⟩
  ·rw[←h1.length,len _ _ _ h3];exact hN
  ·exact fun τ σ G' H' a b c ⟨G0,s0,q⟩=>h4 _ H' .av G0 (by simp[Hv]) (b.trans (.sub s0)) (c.sub s0) q
  ·exact fun τ σ G' H' a b c q=>q.elim
  ·exact fun τ σ G' H' a b c q=>q.elim
  ·exact fun d v G' H' a b c ⟨G0,s0,q⟩=>h4 _ H' d G0 a (b.trans (.sub s0)) (c.sub s0) q
end
end L3
namespace L3
open PySem PySem.Spec PyProof.Rows L2
structure Src where
 items:List D
 guard:Gp->Prop
structure AA(K:η)(H0:Hp)(J:It)(S:Src):Prop where
 go:∀(i:Nat) d H G,Ext H0 H->aM K G H->S.guard G->S.items[i]?=some d->J.go i H/\∀x H',J.AK i H x H'->Hv K H' d x/\Step H G H' G/\aM K G H'
 stop:∀(i:Nat) H G,Ext H0 H->aM K G H->S.guard G->S.items.length≤i->J.stop i H
abbrev mY:=S3->Gp->(Src->Gp->Prop)->Prop
def JK(K:η)(ti:mY):TI:=fun σ H R=>∃τ G R3,eJ K τ σ H/\aM K G H/\ti τ G R3/\∀J H' S G',AA K H' J S->Step H G H' G'->aM K G' H'->R3 S G'->R J H'
abbrev u6(X:Cx)(tg iter:ρ)(ti:mY):Prop:=PI X tg iter (JK X.K ti)
section
variable {X:Cx} {tg iter:ρ} {pos p:aJ}
theorem zp{t t':TI}(h:PI X tg iter t)(f:∀σ H R,t' σ H R->t σ H R):PI X tg iter t':=fun pins s σ H R I q=>h pins s σ H R I (f σ H R q)
def mL(te:aw):mY:=fun τ G R=>te τ G fun x G1=>match x with
 |.obj p=>∃ds,G1 p=some (.lst ds)/\R ⟨ds,fun G=>G p=some (.lst ds)⟩ G1
 |.tup ds=>R ⟨ds,fun _=>True⟩ G1
 |.dA ds=>R ⟨ds,fun _=>True⟩ G1
 |_=>False
theorem RO{l:ρ}{te:aw}(hl:bL X l te):u6 X tg l (mL te):=by
 intro pins s σ H R I h;obtain⟨τ,G,R3,RS,RG,h,k⟩:=h
 -- the state carries what a list of the heap is
 refine bB (hl pins s σ H (fun v H'=>∃d G',Hv X.K H' d v/\Step H G H' G'/\aM X.K G' H'/\(match d with
  |.obj p=>∃ds,G' p=some (.lst ds)/\R3 ⟨ds,fun G=>G p=some (.lst ds)⟩ G'
  |.tup ds=>R3 ⟨ds,fun _=>True⟩ G'
  |.dA ds=>R3 ⟨ds,fun _=>True⟩ G'
  | _=>False)) I ⟨τ,G,_,RS,RG,h,fun v H' d G' a b c q=>⟨d,G',a,b,c,q⟩⟩) fun v s1 ⟨x,H1,I1,r1,d,G1,hv,S1,R1,q⟩=>?_
 have hlist:∀(a:ζ) (its:List ε) (xs:List V),aU xs its->PlainL s1.heap a its.toArray->R (Lo X.K a) H1->π (model X.prog X.w) X.A (pyIter (.ref a)) (J4 X pins σ tg R) X.xe s1:=by
  intro a its xs rv p q;refine fb p.isList ?_;refine⟨s1.heap.objs.size,[s1.heap.objs.size],_,_,H1,rfl,I1.kept (t':=s1.toks) fun b o e=>μ _ e,Ui a _,⟨_,Ψ _ rfl,rfl,rfl⟩,fun b hb=>?_,q⟩;have e:b=s1.heap.objs.size:=by simpa using hb
  subst e;exact I1.uC (Δ _) (I1.bx.fresh (Δ _))
 cases d with
 |obj a=>
  unfold Hv at hv;subst hv;cases r1;obtain⟨ds,e1,q⟩:=q;obtain⟨vs,e2,e3⟩:=R1 a _ e1;obtain⟨its,rv,p,hz⟩:=I1.list (ff.of e2);refine hlist a its vs rv p (k _ _ _ _ ⟨?_,?_⟩ S1 R1 q)
  ·intro i d H' G' E' RG' hg hi;obtain⟨vs',z1,z2⟩:=RG' a _ hg;obtain⟨v',y1,y2⟩:=z2.get hi;refine⟨⟨vs',v',.of z1,y1⟩,fun x H'' hy=>?_⟩;obtain⟨rfl,hy⟩:=hy;have:=hy vs' (.of z1);rw[y1] at this;cases this;exact⟨y2,.refl _ _,RG'⟩
  ·intro i H' G' E' RG' hg hi;obtain⟨vs',z1,z2⟩:=RG' a _ hg;exact⟨vs',.of z1,by rw[←z2.length];exact hi⟩
 |tup ds=>
  unfold Hv at hv;obtain⟨a,vs,rfl,e2,e3⟩:=hv;cases r1;obtain⟨its,rv,p,hz⟩:=I1.tuple e2;have hq:R (Lm X.K a) H1:=by
   refine k _ _ _ _ ⟨?_,?_⟩ S1 R1 q
   ·intro i d H' G' E' RG' hg hi;obtain⟨v',y1,y2⟩:=e3.get hi;refine⟨⟨vs,v',cY.ext E' e2,y1⟩,fun x H'' hy=>?_⟩;obtain⟨rfl,hy⟩:=hy;have:=hy vs (cY.ext E' e2);rw[y1] at this;cases this;exact⟨y2.ext E',.refl _ _,RG'⟩
   ·intro i H' G' E' RG' hg hi;exact⟨vs,cY.ext E' e2,by rw[←e3.length];exact hi⟩
  refine dM (show s1.heap.IsTuple a its.toArray from p) ?_;refine⟨s1.heap.objs.size,[s1.heap.objs.size],_,_,H1,rfl,I1.kept (t':=s1.toks) fun b o e=>μ _ e,Uh a _,⟨_,Ψ _ rfl,rfl,rfl⟩,fun b hb=>?_,hq⟩;have e:b=s1.heap.objs.size:=by simpa using hb
  subst e;exact I1.uC (Δ _) (I1.bx.fresh (Δ _))
 |dA ds=>
  unfold Hv at hv;obtain⟨a,vs,rfl,e2,e3⟩:=hv;cases r1;obtain⟨its,rv,p,hz⟩:=I1.list e2.l;refine hlist a its vs rv p (k _ _ _ _ ⟨?_,?_⟩ S1 R1 q)
  ·intro i d H' G' E' RG' hg hi;obtain⟨v',y1,y2⟩:=e3.get hi;refine⟨⟨vs,v',(kB.ext E' e2).l,y1⟩,fun x H'' hy=>?_⟩;obtain⟨rfl,hy⟩:=hy;have:=hy vs (kB.ext E' e2).l;rw[y1] at this;cases this;exact⟨y2.ext E',.refl _ _,RG'⟩
  ·intro i H' G' E' RG' hg hi;exact⟨vs,(kB.ext E' e2).l,by rw[←e3.length];exact hi⟩
 |av=>exact q.elim
 |bl _=>exact q.elim
 |int _=>exact q.elim
 |str _=>exact q.elim
 |dc _=>exact q.elim
def i5(lo:Int)(n:Nat):List D:=(aO n).map fun i:Nat=>.int (lo+(i:Int))
theorem Il{lo:Int}{n i:Nat}{d:D}(h:(i5 lo n)[i]?=some d):i<n/\d=.int (lo+(i:Int)):=by
 unfold i5 at h;rw[aS] at h;by_cases hi:i<n
 ·rw[rN hi] at h;simp at h;exact⟨hi,h.symm⟩
 ·rw[dD.mpr (by simpa using hi)] at h;cases h
theorem zo(lo:Int)(n:Nat):(i5 lo n).length=n:=by simp[i5]
theorem Ij{K:η}{H:Hp}(lo:Int)(n:Nat):AA K H (Bp lo n) ⟨i5 lo n,fun _=>True⟩:=⟨by
 intro i d H' G' _ RG _ hi;obtain⟨h1,h2⟩:=Il hi;refine⟨h1,fun x H'' hy=>?_⟩;obtain⟨rfl,rfl⟩:=hy;exact⟨by rw[h2];simp[Hv],.refl _ _,RG⟩,by
 intro i H' G' _ RG _ hi;rw[zo] at hi;exact hi⟩
def nu(ta:cw):mY:=fun τ G R=>ta τ G fun ds G1=>match ds with
 |[.int j]=>(-(2^62)≤j/\j<2^62)/\R ⟨i5 0 j.toNat,fun _=>True⟩ G1
 |_=>False
def uS(ta:cw):mY:=fun τ G R=>ta τ G fun ds G1=>match ds with
 |[.int i,.int j]=>(-(2^62)≤i/\i<2^62/\-(2^62)≤j/\j<2^62)/\R ⟨i5 i (j-i).toNat,fun _=>True⟩ G1
 |_=>False
theorem RN{a:ρ}{ta:cw}(hm:X.mg "range" = none)(ha:ig X [a] ta)(hg:Gl X "range":=by rfl)(hs:notStar a=true:=by rfl):u6 X tg (.Call (.Name "range" p) [a] [] pos) (nu ta):=
 zp (Ue hg hm ha (dY hs)) fun σ H R ⟨τ,G,R3,RS,RG,h,k⟩=>⟨τ,G,_,RS,RG,h,fun vs H1 ds G1 h1 S1 R1 q1=>by
  rcases ds with _|⟨d,_|⟨d2,ds⟩⟩
  ·exact q1.elim
  ·cases d with
   |int j=>
    obtain⟨v,r,rfl,z1,z2⟩:=h1.inv;cases z2.gz;unfold Hv at z1;exact⟨j,by rw[z1],q1.1.1,q1.1.2,k _ _ _ _ (Ij 0 _) S1 R1 q1.2⟩
   |_=>exact q1.elim
  ·cases d<;>exact q1.elim⟩
theorem RM{a b:ρ}{ta:cw}(hm:X.mg "range" = none)(ha:ig X [a,b] ta)(hg:Gl X "range":=by rfl)(hs:notStar a=true:=by rfl)(hs2:notStar b=true:=by rfl):
  u6 X tg (.Call (.Name "range" p) [a,b] [] pos) (uS ta):=
 zp (Ud hg hm ha (by rw[dY hs,dY hs2];rfl) (dY hs2)) fun σ H R ⟨τ,G,R3,RS,RG,h,k⟩=>⟨τ,G,_,RS,RG,h,fun vs H1 ds G1 h1 S1 R1 q1=>by
  rcases ds with _|⟨d,_|⟨d2,_|⟨d3,ds⟩⟩⟩
  ·exact q1.elim
  ·cases d<;>exact q1.elim
  ·cases d with
   |int i=>
    cases d2 with
    |int j=>
     obtain⟨v,r,rfl,z1,z2⟩:=h1.inv;obtain⟨v',r',rfl,z3,z4⟩:=z2.inv;cases z4.gz;unfold Hv at z1 z3;exact⟨i,j,by rw[z1,z3],q1.1,k _ _ _ _ (Ij i _) S1 R1 q1.2⟩
    |_=>exact q1.elim
   |_=>exact q1.elim
  ·cases d with
   |int i=>cases d2<;>exact q1.elim
   |_=>exact q1.elim⟩
def qN(guard:Gp->Prop)(g:iK)(tb:aA)(D3:jA):List D->S3->Gp->Prop
 |[],τ,G=>guard G/\D3.nx τ G
 |d::ds,τ,G=>guard G/\g d τ G fun τ2 G2=>tb { D3 with nx:=qN guard g tb D3 ds,ct:=qN guard g tb D3 ds,bk:=D3.nx } τ2 G2
def lL(ti:mY)(g:iK)(tb:aA):aA:=fun D3 τ G=>ti τ G fun S G1=>qN S.guard g tb D3 S.items τ G1
theorem RL{body:List aV}{ti:mY}{g:iK}{tb:aA}(hp:sU (model X.prog X.w) X.A X.env X.xe)(hc:X.calm=true)(hi:u6 X tg iter ti)(hg:wg X tg g)(hb:jd X body tb)
  (hs:∀x,foldedSetIterable iter X.env x=pure x:=by intro _;rfl):t5 X (.For tg iter body [] pos) (lL ti g tb):=vO (UO hp hc hi hg hb hs) fun D2 σ H ⟨τ,G,D3,RS,RG,h,k⟩=>by
 refine⟨τ,G,_,RS,RG,h,fun J H1 S G1 ok S1 R1 q1=>?_⟩;refine⟨fun i m σ' H'=>∃τ' G',eJ X.K τ' σ' H'/\aM X.K G' H'/\Step H G H' G'/\Ext H1 H'/\qN S.guard g tb D3 (S.items.drop i) τ' G'/\m+i=S.items.length,⟨S.items.length,τ,G1,RS.ext (S1.ext RG),R1,S1,.refl H1,by simpa using q1,by lia⟩,?_⟩;rintro i m σ' H' ⟨τ',G',RS',RG',S',E',q,hm⟩;by_cases hlt:i<S.items.length
 ·have hd:S.items.drop i=S.items[i]::S.items.drop (i+1):=cU hlt;have hget:S.items[i]?=some S.items[i]:=bu hlt;rw[hd] at q;obtain⟨hgd,q⟩:=q;obtain⟨z1,z2⟩:=ok.go i _ H' G' E' RG' hgd hget;refine .inr ⟨z1,fun σ2 H2=>∃τ2 G2,eJ X.K τ2 σ2 H2/\aM X.K G2 H2/\Step H G H2 G2/\Ext H1 H2/\qN S.guard g tb D3 (S.items.drop (i+1)) τ2 G2,fun σ2 H2 ⟨τ2,G2,a1,a2,a3,a4,a5⟩=>⟨m-1,by lia,τ2,G2,a1,a2,a3,a4,a5,by lia⟩,fun x H2 hy=>?_⟩;obtain⟨y1,y2,y3⟩:=z2 x H2 hy;refine⟨S.items[i],τ',G',_,y1,RS'.ext (y2.ext RG'),y3,q,fun τ3 σ3 G3 H3 b1 b2 b3 b4=>?_⟩;refine⟨τ3,G3,_,b1,b3,b4,⟨?_,?_,?_,?_⟩⟩
  ·exact fun τ4 σ4 G4 H4 c1 c2 c3 c4=>⟨τ4,G4,c1,c3,((S'.trans y2).trans b2).trans c2,((E'.trans (y2.ext RG')).trans (b2.ext y3)).trans (c2.ext b3),c4⟩
  ·exact fun τ4 σ4 G4 H4 c1 c2 c3 c4=>k.nx τ4 σ4 G4 H4 c1 (((S'.trans y2).trans b2).trans c2) c3 c4
  ·exact fun τ4 σ4 G4 H4 c1 c2 c3 c4=>⟨τ4,G4,c1,c3,((S'.trans y2).trans b2).trans c2,((E'.trans (y2.ext RG')).trans (b2.ext y3)).trans (c2.ext b3),c4⟩
  ·exact fun d v G4 H4 c1 c2 c3 c4=>k.rt d v G4 H4 c1 (((S'.trans y2).trans b2).trans c2) c3 c4
 ·have hd:S.items.drop i=[]:=fz (by lia);rw[hd] at q;exact .inl ⟨ok.stop i H' G' E' RG' q.1 (by lia),k.nx τ' σ' G' H' RS' S' RG' q.2⟩
def ib(guard:Gp->Prop)(g:iK)(tc:cQ)(te:aw)(Q:List D->Gp->Prop):List D->List D->S3->Gp->Prop
 |[],acc,τ,G=>guard G/\Q acc G
 |d::ds,acc,τ,G=>guard G/\g d τ G fun τ2 G2=>tc τ2 G2 fun b G3=>Br b (te τ2 G3 fun v G4=>ib guard g tc te Q ds (acc++[v]) τ2 G4) (ib guard g tc te Q ds acc τ2 G3)
def xX(own:List ι)(js:List Nat)(τ:S3):S3:=(own.map fun _=>none)++js.map fun j=>ie τ j
def kh(own:List ι)(js:List Nat)(ti:mY)(g:iK)(tc:cQ)(te:aw):aw:=fun τ G Q=>ti τ G fun S G1=>S.items.length≤ag ∧
 ib S.guard g tc te (fun ds G2=>∀p G3,dC G2 p (.lst ds) G3->Q (.obj p) G3) S.items [] (xX own js τ) G1
theorem Ii:∀(τ:S3) (i:Nat),ie τ i=(τ[i]?).getD none
 |[],i=>by simp[ie]
 |x::r,0=>by simp[ie]
 |x::r,i+1=>by simp[ie,Ii r i]
theorem eJ.cmp{K:η}{τ:S3}{σ:L2.St}{H:Hp}(own:List ι)(js:List Nat)(R:eJ K τ σ H):eJ K (xX own js τ) (tH own js σ) H:=⟨by simp[xX,tH],fun i d h=>by
 rw[Ii] at h;unfold xX at h;by_cases hi:i<own.length
 ·rw[eR (by simpa using hi)] at h;rw[aS,bu hi] at h;cases h
 ·rw[eF (by simpa using hi),aS] at h;simp only[ο] at h;cases hj:js[i-own.length]? with
  |none=>rw[hj] at h;cases h
  |some j=>
   rw[hj] at h;have h':ie τ j=some d:=h;obtain⟨v,e1,e2⟩:=R.at_ j d h';refine⟨v,?_,e2⟩;unfold tH;rw[eF (by simpa using hi),aS];simp only[kD,hj,Option.map_some,e1,Option.getD_some]⟩
def fm:cQ:=fun _ G Q=>Q true G
theorem RK:wj X [] (sv X.K fm):=fun pins s σ H Q I ⟨τ,G,Q3,RS,RG,h,k⟩=>Se pins s σ H Q I (k true H G (.refl H G) RG h)
theorem RJ{c:ρ}{t:cQ}(h:pW X c t):wj X [c] (sv X.K t):=Sd h
theorem RI{K:η}{own:List ι}{js:List Nat}{ti:mY}{g:iK}{tc:cQ}{te:aw}{σ:L2.St}{H:Hp}{Q:VK}(h:low K (kh own js ti g tc te) σ H Q):Ld own js (JK K ti) (lowG K g) (sv K tc) (low K te) σ H Q:=by
 obtain⟨τ,G,Q3,RS,RG,h,k⟩:=h;refine⟨τ,G,_,RS,RG,h,fun J H1 S G1 ok S1 R1 q1=>?_⟩;obtain⟨hz,q1⟩:=q1;intro p hp;have hGp:G1 p=none:=R1.free hp;refine⟨fun i m ys σ' H'=>∃τ' G' acc,eJ K τ' σ' H'/\aM K G' H'/\Step H G H' G'/\Ext H1 H'/\H' p=some (.lst ys)/\G' p=none/\aD K H' acc ys ∧
  ib S.guard g tc te (fun ds G2=>∀p G3,dC G2 p (.lst ds) G3->Q3 (.obj p) G3) (S.items.drop i) acc τ' G'/\m+i=S.items.length/\ys.length≤i,?_,?_⟩
 ·have E1:Ext H1 (upd H1 p (.lst [])):=.laid hp;exact⟨S.items.length,xX own js τ,G1,[],((RS.ext (S1.ext RG)).cmp own js).ext E1,R1.laid hp,S1.trans (.laid hp),E1,iJ,hGp,.nil,by simpa using q1,by lia,ax _⟩
 rintro i m ys σ' H' ⟨τ',G',acc,RS',RG',S',E',hpl,hG',hacc,q,hm,hy⟩;refine⟨hpl,?_⟩;by_cases hlt:i<S.items.length
 ·have hd:S.items.drop i=S.items[i]::S.items.drop (i+1):=cU hlt;have hget:S.items[i]?=some S.items[i]:=bu hlt;rw[hd] at q;obtain⟨hgd,q⟩:=q;obtain⟨z1,z2⟩:=ok.go i _ H' G' E' RG' hgd hget;refine .inr ⟨z1,by lia,fun x H2 hyl=>?_⟩;obtain⟨y1,y2,y3⟩:=z2 x H2 hyl
  -- what is not in G stays
  have keep:∀{Ha Hb:Hp} {Ga Gb:Gp},Step Ha Ga Hb Gb->Ha p=some (.lst ys)->Ga p=none->Hb p=some (.lst ys)/\Gb p=none:=fun {Ha Hb Ga Gb} st e n=>by
   refine⟨st.fr p _ e n,?_⟩;refine aZ fun z=>?_;rw[st.new p n z] at e;cases e
  obtain⟨p2,n2⟩:=keep y2 hpl hG';refine⟨S.items[i],τ',G',_,y1,RS'.ext (y2.ext RG'),y3,q,fun τ3 σ3 G3 H3 b1 b2 b3 b4=>?_⟩;obtain⟨p3,n3⟩:=keep b2 p2 n2;refine⟨τ3,G3,_,b1,b3,b4,fun bb H4 G4 c1 c2 c3=>?_⟩;obtain⟨p4,n4⟩:=keep c1 p3 n3;have E4:Ext H' H4:=((y2.ext RG').trans (b2.ext y3)).trans (c1.ext b3);have S4:Step H G H4 G4:=((S'.trans y2).trans b2).trans c1;have RS4:=b1.ext (c1.ext b3);refine Br.ite c3 (fun c3=>?_) fun c3=>?_
  ·refine⟨τ3,G4,_,RS4,c2,c3,fun v H5 d G5 e1 e2 e3 e4=>?_⟩;obtain⟨p5,n5⟩:=keep e2 p4 n4;refine⟨p5,m-1,by lia,τ3,G5,acc++[d],?_,?_,?_,?_,iJ,n5,?_,e4,by lia,by rw[ar];simp;lia⟩
   ·exact (RS4.ext (e2.ext c2)).ext (.wrote p5)
   ·intro a o e;have cu:a≠p:=fun z=>by
     rw[z,n5] at e;cases e
    exact (e3 a o e).ext (.wrote p5) (dH cu)
   ·refine⟨fun a o e n=>?_,fun a q=>?_,fun a n q=>((S4.trans e2).new a n q)⟩
    ·by_cases cu:a=p
     ·exfalso;rw[cu] at e n;have hh:=S1.fr p o e n;rw[hp] at hh;cases hh
     ·rw[dH cu];exact (S4.trans e2).fr a o e n
    ·by_cases cu:a=p
     ·rw[cu,iJ];simp
     ·rw[dH cu];exact (S4.trans e2).mX a q
   ·exact ((E'.trans E4).trans (e2.ext c2)).trans (.wrote p5)
   ·have E5:Ext H' (upd H5 p (.lst (ys++[v]))):=(E4.trans (e2.ext c2)).trans (.wrote p5);exact (hacc.ext E5).append (.cons (e1.ext (.wrote p5)) .nil)
  ·exact⟨m-1,by lia,τ3,G4,acc,RS4,c2,S4,E'.trans E4,p4,n4,hacc.ext E4,c3,by lia,by lia⟩
 ·have hd:S.items.drop i=[]:=fz (by lia);rw[hd] at q;refine .inl ⟨ok.stop i H' G' E' RG' q.1 (by lia),?_⟩;refine k _ H' (.obj p) (eH G' p (.lst acc)) (by simp[Hv]) ?_ ?_ (q.2 p _ (.mk' hG'))
  ·refine⟨S'.fr,S'.mX,fun a n z=>?_⟩;by_cases cu:a=p
   ·rw[cu];cases hh:H p with
    |none=>rfl
    |some o=>
     exfalso;rw[cu] at n;have:=S1.fr p o hh n;rw[hp] at this;cases this
   ·rw[kL cu] at z;exact S'.new a n z
  ·intro a o e;by_cases cu:a=p
   ·rw[cu,kM] at e;cases e;rw[cu];exact⟨ys,hpl,hacc⟩
   ·rw[kL cu] at e;exact RG' a o e
theorem Sr{elt:ρ}{ifs:List ρ}{scope:eY}{own:List ι}{js:List Nat}{ti:mY}{g:iK}{tc:cQ}{te:aw}(hc:X.calm=true)(C:fQ X.N X.env.scope scope own js)(hi:u6 X tg iter ti)
  (hb:∀s H fp,wg (X.cmp scope own js s H fp) tg g/\wj (X.cmp scope own js s H fp) ifs (sv X.K tc)/\bL (X.cmp scope own js s H fp) elt te)
  (hs:∀x,foldedSetIterable iter X.env x=pure x:=by intro _;rfl):bL X (.ListComp elt [⟨tg,iter,ifs,0⟩] scope pos) (kh own js ti g tc te):=
 hX (R9 hc C hi hb hs) fun σ H Q h=>RI h
theorem Sq{guard:Gp->Prop}{g:iK}{tb:aA}{D3:jA}(I:List D->S3->Gp->Prop)(hg:∀ds τ G,I ds τ G->guard G)
  (step:∀d ds τ G,I (d::ds) τ G->g d τ G fun τ2 G2=>tb { D3 with nx:=I ds,ct:=I ds,bk:=D3.nx } τ2 G2) (lR:∀τ G,I [] τ G->D3.nx τ G)
  (mono:∀(N N':S3->Gp->Prop),(∀τ G,N τ G->N' τ G)->∀d τ G,(g d τ G fun τ2 G2=>tb { D3 with nx:=N,ct:=N,bk:=D3.nx } τ2 G2)->g d τ G fun τ2 G2=>tb { D3 with nx:=N',ct:=N',bk:=D3.nx } τ2 G2):
  ∀ds τ G,I ds τ G->qN guard g tb D3 ds τ G
 |[],τ,G,h=>⟨hg _ _ _ h,lR _ _ h⟩
 |d::ds,τ,G,h=>⟨hg _ _ _ h,mono (I ds) _ (fun τ G q=>Sq I hg step lR mono ds τ G q) d τ G (step d ds τ G h)⟩
theorem nW{guard:Gp->Prop}{g:iK}{tb:aA}{D3:jA}(I:List D->S3->Gp->Prop)(hg:∀ds τ G,I ds τ G->guard G)
  (step:∀d ds τ G (N:S3->Gp->Prop),I (d::ds) τ G->(∀τ' G',I ds τ' G'->N τ' G')->g d τ G fun τ2 G2=>tb { D3 with nx:=N,ct:=N,bk:=D3.nx } τ2 G2) (lR:∀τ G,I [] τ G->D3.nx τ G):
  ∀ds τ G,I ds τ G->qN guard g tb D3 ds τ G
 |[],τ,G,h=>⟨hg _ _ _ h,lR _ _ h⟩
 |d::ds,τ,G,h=>⟨hg _ _ _ h,step d ds τ G _ h fun τ' G' q=>nW I hg step lR ds τ' G' q⟩
end
end L3
namespace Dat
open PySem PySem.SeqAt
inductive D where
 |av|bl (b:Bool)|int (i:Int)|str (x:ι)|tup (xs:List D)|lst (xs:List D)|eL
mutual
def D.gf:D->D->Bool
 |.av,.av=>true
 |.bl a,.bl b=>a==b
 |.bl a,.int b=>(if a then 1 else 0)==b
 |.int a,.bl b=>a==(if b then 1 else 0)
 |.int a,.int b=>a==b
 |.str a,.str b=>a==b
 |.tup xs,.tup ys=>mM xs ys
 |.lst xs,.lst ys=>mM xs ys
 |_,_=>false
def mM:List D->List D->Bool
 |[],[]=>true
 |x::xs,y::ys=>x.gf y&&mM xs ys
 |_,_=>false
end
mutual
def D.jb:D->Nat
 |.tup xs=>gm xs+1
 |.lst xs=>gm xs+1
 |_=>0
def gm:List D->Nat
 |[]=>0
 |x::xs=>max x.jb (gm xs)
end
theorem uk{d:D}:∀{xs:List D},d∈xs->d.jb≤gm xs
 |x::xs,h=>by
  unfold gm;rcases aa.mp h with e|e
  ·rw[e];exact Nat.le_max_left _ _
  ·exact aK (uk e) (Nat.le_max_right _ _)
mutual
def Hv(h:af):D->ε->Prop
 |.av,u=>u=.none
 |.bl b,u=>u=.bool b
 |.int i,u=>∃t,u=.int i t
 |.str x,u=>∃t,u=.str x t
 |.tup ds,u=>∃(a:ζ) (its:List ε),u=.ref a/\h.IsTuple a its.toArray/\aD h ds its
 |.lst ds,u=>∃(a:ζ) (its:List ε),u=.ref a/\h.IsList a its.toArray/\aD h ds its
 |.eL,_=>False
def aD(h:af):List D->List ε->Prop
 |[],us=>us=[]
 |d::ds,us=>∃u r,us=u::r/\Hv h d u/\aD h ds r
end
theorem aD.length{h:af}:∀{ds:List D} {us:List ε},aD h ds us->us.length=ds.length
 |[],us,e=>by
  unfold aD at e;rw[e];rfl
 |d::ds,us,e=>by
  unfold aD at e;obtain⟨u,r,rfl,_,e2⟩:=e;rw[ak,ak,e2.length]
theorem aD.get{h:af}:∀{ds:List D} {us:List ε} {j:Nat} {d:D} {u:ε},aD h ds us->ds[j]?=some d->us[j]?=some u->Hv h d u
 |[],_,_,_,_,_,e,_=>by simp at e
 |d::ds,us,0,_,_,q,e1,e2=>by
  unfold aD at q;obtain⟨u,r,rfl,q1,_⟩:=q;simp at e1 e2;rw[←e1,←e2];exact q1
 |d::ds,us,j+1,_,_,q,e1,e2=>by
  unfold aD at q;obtain⟨u,r,rfl,_,q2⟩:=q;exact q2.get (j:=j) (by simpa using e1) (by simpa using e2)
theorem Ih{h:af}{a:ζ}{xs ys:Array ε}(hl:h.IsList a xs)(ht:h.IsTuple a ys):False:=by
 obtain⟨o,ho,hc,_⟩:=hl;obtain⟨o',ho',hc',_⟩:=ht;rw[ho] at ho';cases ho';rw[hc] at hc';exact absurd hc' (by decide)
mutual
theorem Hv.inj{h:af}:∀{d e:D} {u:ε},Hv h d u->Hv h e u->d=e
 |d,e,u,p,q=>by
  cases d with
  |av=>unfold Hv at p;subst p;cases e<;>unfold Hv at q<;>first|rfl|(simp at q)
  |bl b=>unfold Hv at p;subst p;cases e<;>unfold Hv at q<;>first|(simp at q;rw[q])|(simp at q)
  |int b=>unfold Hv at p;obtain⟨t,rfl⟩:=p;cases e<;>unfold Hv at q<;>first|(simp at q;rw[q])|(simp at q)
  |str b=>unfold Hv at p;obtain⟨t,rfl⟩:=p;cases e<;>unfold Hv at q<;>first|(simp at q;rw[q])|(simp at q)
  |eL=>unfold Hv at p;exact p.elim
  |tup ds=>
   unfold Hv at p;obtain⟨a,its,rfl,ha,p⟩:=p;cases e with
   |tup es=>
    unfold Hv at q;obtain⟨a',its',e1,ha',q⟩:=q;cases e1;have e2:its=its':=by
     obtain⟨o,ho,_,n,hd⟩:=ha;obtain⟨o',ho',_,n',hd'⟩:=ha';rw[ho] at ho';cases ho';rw[hd] at hd';injection hd' with e3 _
     simpa using congrArg oW e3
    subst e2;rw[aD.inj p q]
   |lst es=>
    unfold Hv at q;obtain⟨a',its',e1,ha',q⟩:=q;cases e1;exact (Ih ha' ha).elim
   |_=>unfold Hv at q<;>simp at q
  |lst ds=>
   unfold Hv at p;obtain⟨a,its,rfl,ha,p⟩:=p;cases e with
   |lst es=>
    unfold Hv at q;obtain⟨a',its',e1,ha',q⟩:=q;cases e1;have e2:its=its':=by
     obtain⟨o,ho,_,n,hd⟩:=ha;obtain⟨o',ho',_,n',hd'⟩:=ha';rw[ho] at ho';cases ho';rw[hd] at hd';injection hd' with e3 _
     simpa using congrArg oW e3
    subst e2;rw[aD.inj p q]
   |tup es=>
    unfold Hv at q;obtain⟨a',its',e1,ha',q⟩:=q;cases e1;exact (Ih ha ha').elim
   |_=>unfold Hv at q<;>simp at q
theorem aD.inj{h:af}:∀{ds es:List D} {us:List ε},aD h ds us->aD h es us->ds=es
 |[],[],_,_,_=>rfl
 |[],e::es,us,p,q=>by
  unfold aD at p q;subst p;obtain⟨_,_,e1,_⟩:=q;cases e1
 |d::ds,[],us,p,q=>by
  unfold aD at p q;subst q;obtain⟨_,_,e1,_⟩:=p;cases e1
 |d::ds,e::es,us,p,q=>by
  unfold aD at p q;obtain⟨u,r,rfl,p1,p2⟩:=p;obtain⟨u',r',e1,q1,q2⟩:=q;cases e1;rw[Hv.inj p1 q1,aD.inj p2 q2]
end
theorem uj:∀(ds es:List D),((aO (min ds.length es.length)).all (fun j=>(ds.getD j .av).gf (es.getD j .av))&&ds.length==es.length)=mM ds es
 |[],[]=>by simp[mM]
 |[],e::es=>by simp[mM]
 |d::ds,[]=>by simp[mM]
 |d::ds,e::es=>by
  have ih:=uj ds es;unfold mM;rw[←ih];rw[ak,ak,show min (ds.length+1) (es.length+1)=min ds.length es.length+1 by lia,ka,rJ,oQ];have e1:((ds.length+1==es.length+1):Bool)=(ds.length==es.length):=by simp
  rw[e1,Bool.and_assoc];rfl
theorem zm:∀(ds es:List D),ds.length≠es.length->mM ds es=false
 |[],[],h=>absurd rfl h
 |[],e::es,_=>rfl
 |d::ds,[],_=>rfl
 |d::ds,e::es,h=>by
  unfold mM;rw[zm ds es (by simpa using h),dR]
mutual
theorem Hv.refl{h:af}:∀{d:D} {u:ε},Hv h d u->d.gf d=true
 |.av,_,_=>rfl
 |.bl b,_,_=>by unfold D.gf;simp
 |.int b,_,_=>by unfold D.gf;simp
 |.str b,_,_=>by unfold D.gf;simp
 |.eL,_,p=>by unfold Hv at p;exact p.elim
 |.tup ds,_,p=>by
  unfold Hv at p;obtain⟨_,_,_,_,p⟩:=p;unfold D.gf;exact aD.refl p
 |.lst ds,_,p=>by
  unfold Hv at p;obtain⟨_,_,_,_,p⟩:=p;unfold D.gf;exact aD.refl p
theorem aD.refl{h:af}:∀{ds:List D} {us:List ε},aD h ds us->mM ds ds=true
 |[],_,_=>rfl
 |d::ds,us,p=>by
  unfold aD at p;obtain⟨u,r,_,p1,p2⟩:=p;unfold mM;rw[Hv.refl p1,aD.refl p2];rfl
end
theorem lF{h:af}{ds:List D}{us:List ε}(p:aD h ds us){j:Nat}(hj:j<us.toArray.size):Hv h (ds.getD j .av) (us.toArray[j])/\ds.getD j .av∈ds:=by
 have hl:=p.length;have hj':j<ds.length:=by simp at hj;lia
 have e1:ds[j]?=some (ds.getD j .av):=by simp[hj']
 exact⟨p.get e1 (by simp at hj;simp[hj]),bW e1⟩
theorem v3{s:θ}:∀(d e:D) (u v:ε) (A:aB),Hv s.heap d u->Hv s.heap e v->A.units+d.jb+1<cLine->EqAt A s u v (d.gf e)
 |.av,.av,u,v,A,p1,p2,hu=>by
  unfold Hv at p1;subst p1;unfold Hv at p2;subst p2;exact EqAt.same _
 |.av,.bl b2,u,v,A,p1,p2,hu=>by
  unfold Hv at p1;subst p1;unfold Hv at p2;subst p2;exact EqAt.none_bool  b2
 |.av,.int b2,u,v,A,p1,p2,hu=>by
  unfold Hv at p1;subst p1;unfold Hv at p2;obtain⟨t2,rfl⟩:=p2;exact EqAt.none_int  b2 t2
 |.av,.str b2,u,v,A,p1,p2,hu=>by
  unfold Hv at p1;subst p1;unfold Hv at p2;obtain⟨t2,rfl⟩:=p2;exact EqAt.none_str  b2 t2
 |.av,.tup ds2,u,v,A,p1,p2,hu=>by
  unfold Hv at p1;subst p1;unfold Hv at p2;obtain⟨a2,its2,rfl,l2,p2⟩:=p2;exact EqAt.none_tuple  l2 (by lia)
 |.av,.lst ds2,u,v,A,p1,p2,hu=>by
  unfold Hv at p1;subst p1;unfold Hv at p2;obtain⟨a2,its2,rfl,l2,p2⟩:=p2;exact EqAt.none_list  l2 (by lia)
 |.bl b1,.av,u,v,A,p1,p2,hu=>by
  unfold Hv at p1;subst p1;unfold Hv at p2;subst p2;exact EqAt.bool_none b1
 |.bl b1,.bl b2,u,v,A,p1,p2,hu=>by
  unfold Hv at p1;subst p1;unfold Hv at p2;subst p2;exact EqAt.bool_bool b1 b2
 |.bl b1,.int b2,u,v,A,p1,p2,hu=>by
  unfold Hv at p1;subst p1;unfold Hv at p2;obtain⟨t2,rfl⟩:=p2;exact EqAt.bool_int b1 b2 t2
 |.bl b1,.str b2,u,v,A,p1,p2,hu=>by
  unfold Hv at p1;subst p1;unfold Hv at p2;obtain⟨t2,rfl⟩:=p2;exact EqAt.bool_str b1 b2 t2
 |.bl b1,.tup ds2,u,v,A,p1,p2,hu=>by
  unfold Hv at p1;subst p1;unfold Hv at p2;obtain⟨a2,its2,rfl,l2,p2⟩:=p2;exact EqAt.bool_tuple b1 l2 (by lia)
 |.bl b1,.lst ds2,u,v,A,p1,p2,hu=>by
  unfold Hv at p1;subst p1;unfold Hv at p2;obtain⟨a2,its2,rfl,l2,p2⟩:=p2;exact EqAt.bool_list b1 l2 (by lia)
 |.int b1,.av,u,v,A,p1,p2,hu=>by
  unfold Hv at p1;obtain⟨t1,rfl⟩:=p1;unfold Hv at p2;subst p2;exact EqAt.int_none b1 t1
 |.int b1,.bl b2,u,v,A,p1,p2,hu=>by
  unfold Hv at p1;obtain⟨t1,rfl⟩:=p1;unfold Hv at p2;subst p2;exact EqAt.int_bool b1 t1 b2
 |.int b1,.int b2,u,v,A,p1,p2,hu=>by
  unfold Hv at p1;obtain⟨t1,rfl⟩:=p1;unfold Hv at p2;obtain⟨t2,rfl⟩:=p2;exact EqAt.int_int b1 t1 b2 t2
 |.int b1,.str b2,u,v,A,p1,p2,hu=>by
  unfold Hv at p1;obtain⟨t1,rfl⟩:=p1;unfold Hv at p2;obtain⟨t2,rfl⟩:=p2;exact EqAt.int_str b1 t1 b2 t2
 |.int b1,.tup ds2,u,v,A,p1,p2,hu=>by
  unfold Hv at p1;obtain⟨t1,rfl⟩:=p1;unfold Hv at p2;obtain⟨a2,its2,rfl,l2,p2⟩:=p2;exact EqAt.int_tuple b1 t1 l2 (by lia)
 |.int b1,.lst ds2,u,v,A,p1,p2,hu=>by
  unfold Hv at p1;obtain⟨t1,rfl⟩:=p1;unfold Hv at p2;obtain⟨a2,its2,rfl,l2,p2⟩:=p2;exact EqAt.int_list b1 t1 l2 (by lia)
 |.str b1,.av,u,v,A,p1,p2,hu=>by
  unfold Hv at p1;obtain⟨t1,rfl⟩:=p1;unfold Hv at p2;subst p2;exact EqAt.str_none b1 t1
 |.str b1,.bl b2,u,v,A,p1,p2,hu=>by
  unfold Hv at p1;obtain⟨t1,rfl⟩:=p1;unfold Hv at p2;subst p2;exact EqAt.str_bool b1 t1 b2
 |.str b1,.int b2,u,v,A,p1,p2,hu=>by
  unfold Hv at p1;obtain⟨t1,rfl⟩:=p1;unfold Hv at p2;obtain⟨t2,rfl⟩:=p2;exact EqAt.str_int b1 t1 b2 t2
 |.str b1,.str b2,u,v,A,p1,p2,hu=>by
  unfold Hv at p1;obtain⟨t1,rfl⟩:=p1;unfold Hv at p2;obtain⟨t2,rfl⟩:=p2;exact EqAt.str_str b1 t1 b2 t2
 |.str b1,.tup ds2,u,v,A,p1,p2,hu=>by
  unfold Hv at p1;obtain⟨t1,rfl⟩:=p1;unfold Hv at p2;obtain⟨a2,its2,rfl,l2,p2⟩:=p2;exact EqAt.str_tuple b1 t1 l2 (by lia)
 |.str b1,.lst ds2,u,v,A,p1,p2,hu=>by
  unfold Hv at p1;obtain⟨t1,rfl⟩:=p1;unfold Hv at p2;obtain⟨a2,its2,rfl,l2,p2⟩:=p2;exact EqAt.str_list b1 t1 l2 (by lia)
 |.tup ds1,.av,u,v,A,p1,p2,hu=>by
  unfold Hv at p1;obtain⟨a1,its1,rfl,l1,p1⟩:=p1;unfold Hv at p2;subst p2;exact EqAt.tuple_none  l1 (by lia)
 |.tup ds1,.bl b2,u,v,A,p1,p2,hu=>by
  unfold Hv at p1;obtain⟨a1,its1,rfl,l1,p1⟩:=p1;unfold Hv at p2;subst p2;exact EqAt.tuple_bool b2 l1 (by lia)
 |.tup ds1,.int b2,u,v,A,p1,p2,hu=>by
  unfold Hv at p1;obtain⟨a1,its1,rfl,l1,p1⟩:=p1;unfold Hv at p2;obtain⟨t2,rfl⟩:=p2;exact EqAt.tuple_int b2 t2 l1 (by lia)
 |.tup ds1,.str b2,u,v,A,p1,p2,hu=>by
  unfold Hv at p1;obtain⟨a1,its1,rfl,l1,p1⟩:=p1;unfold Hv at p2;obtain⟨t2,rfl⟩:=p2;exact EqAt.tuple_str b2 t2 l1 (by lia)
 |.tup ds1,.tup ds2,u,v,A,p1,p2,hu=>by
  unfold Hv at p1;obtain⟨a1,its1,rfl,l1,p1⟩:=p1;unfold Hv at p2;obtain⟨a2,its2,rfl,l2,p2⟩:=p2;unfold D.gf;by_cases ha:a1=a2
  ·subst ha;have e0:(.tup ds1:D)=.tup ds2:=Hv.inj (h:=s.heap) (u:=.ref a1) (by unfold Hv;exact⟨a1,its1,rfl,l1,p1⟩) (by unfold Hv;exact⟨a1,its2,rfl,l2,p2⟩);injection e0 with e0;subst e0;rw[p1.refl];exact EqAt.same _
  ·refine EqAt.of_refs ha ?_;have hdep:A.units+gm ds1+1+1<cLine:=by
    have e9:(.tup ds1:D).jb=gm ds1+1:=by first|rfl|(unfold D.jb;rfl)
    lia
   have q:=RcAt.tuples (e:=fun j=>(ds1.getD j .av).gf (ds2.getD j .av)) l1 l2 (by lia) fun j h1 h2=>
    have m:=(lF p1 h1).2
    v3 (ds1.getD j .av) (ds2.getD j .av) _ _ A.in1 (lF p1 h1).1 (lF p2 h2).1 (by
     have:=uk m;show A.units+1+_+1<cLine;lia)
   rw[χ,χ,p1.length,p2.length,uj] at q;exact q
 |.tup ds1,.lst ds2,u,v,A,p1,p2,hu=>by
  unfold Hv at p1;obtain⟨a1,its1,rfl,l1,p1⟩:=p1;unfold Hv at p2;obtain⟨a2,its2,rfl,l2,p2⟩:=p2;exact EqAt.tuple_list l1 l2 (by lia)
 |.lst ds1,.av,u,v,A,p1,p2,hu=>by
  unfold Hv at p1;obtain⟨a1,its1,rfl,l1,p1⟩:=p1;unfold Hv at p2;subst p2;exact EqAt.list_none  l1 (by lia)
 |.lst ds1,.bl b2,u,v,A,p1,p2,hu=>by
  unfold Hv at p1;obtain⟨a1,its1,rfl,l1,p1⟩:=p1;unfold Hv at p2;subst p2;exact EqAt.list_bool b2 l1 (by lia)
 |.lst ds1,.int b2,u,v,A,p1,p2,hu=>by
  unfold Hv at p1;obtain⟨a1,its1,rfl,l1,p1⟩:=p1;unfold Hv at p2;obtain⟨t2,rfl⟩:=p2;exact EqAt.list_int b2 t2 l1 (by lia)
 |.lst ds1,.str b2,u,v,A,p1,p2,hu=>by
  unfold Hv at p1;obtain⟨a1,its1,rfl,l1,p1⟩:=p1;unfold Hv at p2;obtain⟨t2,rfl⟩:=p2;exact EqAt.list_str b2 t2 l1 (by lia)
 |.lst ds1,.tup ds2,u,v,A,p1,p2,hu=>by
  unfold Hv at p1;obtain⟨a1,its1,rfl,l1,p1⟩:=p1;unfold Hv at p2;obtain⟨a2,its2,rfl,l2,p2⟩:=p2;exact EqAt.list_tuple l1 l2 (by lia)
 |.lst ds1,.lst ds2,u,v,A,p1,p2,hu=>by
  unfold Hv at p1;obtain⟨a1,its1,rfl,l1,p1⟩:=p1;unfold Hv at p2;obtain⟨a2,its2,rfl,l2,p2⟩:=p2;unfold D.gf;by_cases ha:a1=a2
  ·subst ha;have e0:(.lst ds1:D)=.lst ds2:=Hv.inj (h:=s.heap) (u:=.ref a1) (by unfold Hv;exact⟨a1,its1,rfl,l1,p1⟩) (by unfold Hv;exact⟨a1,its2,rfl,l2,p2⟩);injection e0 with e0;subst e0;rw[p1.refl];exact EqAt.same _
  ·refine EqAt.of_refs ha ?_;have hdep:A.units+gm ds1+1+1<cLine:=by
    have e9:(.lst ds1:D).jb=gm ds1+1:=by first|rfl|(unfold D.jb;rfl)
    lia
   by_cases hn:ds1.length=ds2.length
   ·have q:=RcAt.lists (e:=fun j=>(ds1.getD j .av).gf (ds2.getD j .av)) l1 l2 (by simp[p1.length,p2.length,hn]) (by lia) fun j h1 h2=>
     have m:=(lF p1 h1).2
     v3 (ds1.getD j .av) (ds2.getD j .av) _ _ A.in1 (lF p1 h1).1 (lF p2 h2).1 (by
      have:=uk m;show A.units+1+_+1<cLine;lia)
    have q2:=uj ds1 ds2;rw[hn,oH,beq_self_eq_true,rK] at q2;rw[χ,p1.length,hn,q2] at q;exact q
   ·rw[zm _ _ hn];exact sS l1 l2 (by simp[p1.length,p2.length,hn]) (by lia)
 |.av,.eL,u,v,A,p1,p2,hu=>by
  unfold Hv at p2;exact p2.elim
 |.bl b1,.eL,u,v,A,p1,p2,hu=>by
  unfold Hv at p2;exact p2.elim
 |.int b1,.eL,u,v,A,p1,p2,hu=>by
  unfold Hv at p2;exact p2.elim
 |.str b1,.eL,u,v,A,p1,p2,hu=>by
  unfold Hv at p2;exact p2.elim
 |.tup ds1,.eL,u,v,A,p1,p2,hu=>by
  unfold Hv at p2;exact p2.elim
 |.lst ds1,.eL,u,v,A,p1,p2,hu=>by
  unfold Hv at p2;exact p2.elim
 |.eL,e,u,v,A,p1,p2,hu=>by
  unfold Hv at p1;exact p1.elim
termination_by d=>sizeOf d
decreasing_by
 all_goals (have:=List.sizeOf_lt_of_mem m;first|(rw[D.tup.sizeOf_spec];lia)|(rw[D.lst.sizeOf_spec];lia))
theorem LI{s:θ}(d e:D)(u v:ε)(A:aB)(p1:Hv s.heap d u)(p2:Hv s.heap e v)(hu:A.units+d.jb+1<cLine):RcAt A s u v (d.gf e):=
 match d,e,p1,p2,hu with
 |.av,.av,p1,p2,hu=>by
  unfold Hv at p1;subst p1;unfold Hv at p2;subst p2;exact RcAt.none_none
 |.av,.bl b2,p1,p2,hu=>by
  unfold Hv at p1;subst p1;unfold Hv at p2;subst p2;exact RcAt.none_bool  b2
 |.av,.int b2,p1,p2,hu=>by
  unfold Hv at p1;subst p1;unfold Hv at p2;obtain⟨t2,rfl⟩:=p2;exact RcAt.none_int  b2 t2
 |.av,.str b2,p1,p2,hu=>by
  unfold Hv at p1;subst p1;unfold Hv at p2;obtain⟨t2,rfl⟩:=p2;exact RcAt.none_str  b2 t2
 |.av,.tup ds2,p1,p2,hu=>by
  unfold Hv at p1;subst p1;unfold Hv at p2;obtain⟨a2,its2,rfl,l2,p2⟩:=p2;exact RcAt.none_tuple  l2 (by lia)
 |.av,.lst ds2,p1,p2,hu=>by
  unfold Hv at p1;subst p1;unfold Hv at p2;obtain⟨a2,its2,rfl,l2,p2⟩:=p2;exact RcAt.none_list  l2 (by lia)
 |.bl b1,.av,p1,p2,hu=>by
  unfold Hv at p1;subst p1;unfold Hv at p2;subst p2;exact RcAt.bool_none b1
 |.bl b1,.bl b2,p1,p2,hu=>by
  unfold Hv at p1;subst p1;unfold Hv at p2;subst p2;exact RcAt.bool_bool b1 b2
 |.bl b1,.int b2,p1,p2,hu=>by
  unfold Hv at p1;subst p1;unfold Hv at p2;obtain⟨t2,rfl⟩:=p2;exact RcAt.bool_int b1 b2 t2
 |.bl b1,.str b2,p1,p2,hu=>by
  unfold Hv at p1;subst p1;unfold Hv at p2;obtain⟨t2,rfl⟩:=p2;exact RcAt.bool_str b1 b2 t2
 |.bl b1,.tup ds2,p1,p2,hu=>by
  unfold Hv at p1;subst p1;unfold Hv at p2;obtain⟨a2,its2,rfl,l2,p2⟩:=p2;exact RcAt.bool_tuple b1 l2 (by lia)
 |.bl b1,.lst ds2,p1,p2,hu=>by
  unfold Hv at p1;subst p1;unfold Hv at p2;obtain⟨a2,its2,rfl,l2,p2⟩:=p2;exact RcAt.bool_list b1 l2 (by lia)
 |.int b1,.av,p1,p2,hu=>by
  unfold Hv at p1;obtain⟨t1,rfl⟩:=p1;unfold Hv at p2;subst p2;exact RcAt.int_none b1 t1
 |.int b1,.bl b2,p1,p2,hu=>by
  unfold Hv at p1;obtain⟨t1,rfl⟩:=p1;unfold Hv at p2;subst p2;exact RcAt.int_bool b1 t1 b2
 |.int b1,.int b2,p1,p2,hu=>by
  unfold Hv at p1;obtain⟨t1,rfl⟩:=p1;unfold Hv at p2;obtain⟨t2,rfl⟩:=p2;exact RcAt.int_int b1 t1 b2 t2
 |.int b1,.str b2,p1,p2,hu=>by
  unfold Hv at p1;obtain⟨t1,rfl⟩:=p1;unfold Hv at p2;obtain⟨t2,rfl⟩:=p2;exact RcAt.int_str b1 t1 b2 t2
 |.int b1,.tup ds2,p1,p2,hu=>by
  unfold Hv at p1;obtain⟨t1,rfl⟩:=p1;unfold Hv at p2;obtain⟨a2,its2,rfl,l2,p2⟩:=p2;exact RcAt.int_tuple b1 t1 l2 (by lia)
 |.int b1,.lst ds2,p1,p2,hu=>by
  unfold Hv at p1;obtain⟨t1,rfl⟩:=p1;unfold Hv at p2;obtain⟨a2,its2,rfl,l2,p2⟩:=p2;exact RcAt.int_list b1 t1 l2 (by lia)
 |.str b1,.av,p1,p2,hu=>by
  unfold Hv at p1;obtain⟨t1,rfl⟩:=p1;unfold Hv at p2;subst p2;exact RcAt.str_none b1 t1
 |.str b1,.bl b2,p1,p2,hu=>by
  unfold Hv at p1;obtain⟨t1,rfl⟩:=p1;unfold Hv at p2;subst p2;exact RcAt.str_bool b1 t1 b2
 |.str b1,.int b2,p1,p2,hu=>by
  unfold Hv at p1;obtain⟨t1,rfl⟩:=p1;unfold Hv at p2;obtain⟨t2,rfl⟩:=p2;exact RcAt.str_int b1 t1 b2 t2
 |.str b1,.str b2,p1,p2,hu=>by
  unfold Hv at p1;obtain⟨t1,rfl⟩:=p1;unfold Hv at p2;obtain⟨t2,rfl⟩:=p2;exact RcAt.str_str b1 t1 b2 t2
 |.str b1,.tup ds2,p1,p2,hu=>by
  unfold Hv at p1;obtain⟨t1,rfl⟩:=p1;unfold Hv at p2;obtain⟨a2,its2,rfl,l2,p2⟩:=p2;exact RcAt.str_tuple b1 t1 l2 (by lia)
 |.str b1,.lst ds2,p1,p2,hu=>by
  unfold Hv at p1;obtain⟨t1,rfl⟩:=p1;unfold Hv at p2;obtain⟨a2,its2,rfl,l2,p2⟩:=p2;exact RcAt.str_list b1 t1 l2 (by lia)
 |.tup ds1,.av,p1,p2,hu=>by
  unfold Hv at p1;obtain⟨a1,its1,rfl,l1,p1⟩:=p1;unfold Hv at p2;subst p2;exact RcAt.tuple_none  l1 (by lia)
 |.tup ds1,.bl b2,p1,p2,hu=>by
  unfold Hv at p1;obtain⟨a1,its1,rfl,l1,p1⟩:=p1;unfold Hv at p2;subst p2;exact RcAt.tuple_bool b2 l1 (by lia)
 |.tup ds1,.int b2,p1,p2,hu=>by
  unfold Hv at p1;obtain⟨a1,its1,rfl,l1,p1⟩:=p1;unfold Hv at p2;obtain⟨t2,rfl⟩:=p2;exact RcAt.tuple_int b2 t2 l1 (by lia)
 |.tup ds1,.str b2,p1,p2,hu=>by
  unfold Hv at p1;obtain⟨a1,its1,rfl,l1,p1⟩:=p1;unfold Hv at p2;obtain⟨t2,rfl⟩:=p2;exact RcAt.tuple_str b2 t2 l1 (by lia)
 |.tup ds1,.tup ds2,p1,p2,hu=>by
  unfold Hv at p1;obtain⟨a1,its1,rfl,l1,p1⟩:=p1;unfold Hv at p2;obtain⟨a2,its2,rfl,l2,p2⟩:=p2;unfold D.gf;have hdep:A.units+gm ds1+1+1<cLine:=by
   have e9:(.tup ds1:D).jb=gm ds1+1:=by first|rfl|(unfold D.jb;rfl)
   lia
  have q:=RcAt.tuples (e:=fun j=>(ds1.getD j .av).gf (ds2.getD j .av)) l1 l2 (by lia) fun j h1 h2=>
   v3 (ds1.getD j .av) (ds2.getD j .av) _ _ A.in1 (lF p1 h1).1 (lF p2 h2).1 (by
    have:=uk (lF p1 h1).2;show A.units+1+_+1<cLine;lia)
  rw[χ,χ,p1.length,p2.length,uj] at q;exact q
 |.tup ds1,.lst ds2,p1,p2,hu=>by
  unfold Hv at p1;obtain⟨a1,its1,rfl,l1,p1⟩:=p1;unfold Hv at p2;obtain⟨a2,its2,rfl,l2,p2⟩:=p2;exact RcAt.tuple_list l1 l2 (by lia)
 |.lst ds1,.av,p1,p2,hu=>by
  unfold Hv at p1;obtain⟨a1,its1,rfl,l1,p1⟩:=p1;unfold Hv at p2;subst p2;exact RcAt.list_none  l1 (by lia)
 |.lst ds1,.bl b2,p1,p2,hu=>by
  unfold Hv at p1;obtain⟨a1,its1,rfl,l1,p1⟩:=p1;unfold Hv at p2;subst p2;exact RcAt.list_bool b2 l1 (by lia)
 |.lst ds1,.int b2,p1,p2,hu=>by
  unfold Hv at p1;obtain⟨a1,its1,rfl,l1,p1⟩:=p1;unfold Hv at p2;obtain⟨t2,rfl⟩:=p2;exact RcAt.list_int b2 t2 l1 (by lia)
 |.lst ds1,.str b2,p1,p2,hu=>by
  unfold Hv at p1;obtain⟨a1,its1,rfl,l1,p1⟩:=p1;unfold Hv at p2;obtain⟨t2,rfl⟩:=p2;exact RcAt.list_str b2 t2 l1 (by lia)
 |.lst ds1,.tup ds2,p1,p2,hu=>by
  unfold Hv at p1;obtain⟨a1,its1,rfl,l1,p1⟩:=p1;unfold Hv at p2;obtain⟨a2,its2,rfl,l2,p2⟩:=p2;exact RcAt.list_tuple l1 l2 (by lia)
 |.lst ds1,.lst ds2,p1,p2,hu=>by
  unfold Hv at p1;obtain⟨a1,its1,rfl,l1,p1⟩:=p1;unfold Hv at p2;obtain⟨a2,its2,rfl,l2,p2⟩:=p2;unfold D.gf;have hdep:A.units+gm ds1+1+1<cLine:=by
   have e9:(.lst ds1:D).jb=gm ds1+1:=by first|rfl|(unfold D.jb;rfl)
   lia
  by_cases hn:ds1.length=ds2.length
  ·have q:=RcAt.lists (e:=fun j=>(ds1.getD j .av).gf (ds2.getD j .av)) l1 l2 (by simp[p1.length,p2.length,hn]) (by lia) fun j h1 h2=>
    v3 (ds1.getD j .av) (ds2.getD j .av) _ _ A.in1 (lF p1 h1).1 (lF p2 h2).1 (by
     have:=uk (lF p1 h1).2;show A.units+1+_+1<cLine;lia)
   have q2:=uj ds1 ds2;rw[hn,oH,beq_self_eq_true,rK] at q2;rw[χ,p1.length,hn,q2] at q;exact q
  ·rw[zm _ _ hn];exact sS l1 l2 (by simp[p1.length,p2.length,hn]) (by lia)
 |d,.eL,p1,p2,hu=>by
  unfold Hv at p2;exact p2.elim
 |.eL,e,p1,p2,hu=>by
  unfold Hv at p1;exact p1.elim
theorem LH{s:θ}(d e:D)(u v:ε)(A:aB)(p1:Hv s.heap d u)(p2:Hv s.heap e v)(hu:A.units+d.jb+1<cLine):RcNeAt A s u v (!d.gf e):=
 match d,e,p1,p2,hu with
 |.av,.av,p1,p2,hu=>by
  unfold Hv at p1;subst p1;unfold Hv at p2;subst p2;exact RcNeAt.none_none
 |.av,.bl b2,p1,p2,hu=>by
  unfold Hv at p1;subst p1;unfold Hv at p2;subst p2;exact RcNeAt.none_bool  b2
 |.av,.int b2,p1,p2,hu=>by
  unfold Hv at p1;subst p1;unfold Hv at p2;obtain⟨t2,rfl⟩:=p2;exact RcNeAt.none_int  b2 t2
 |.av,.str b2,p1,p2,hu=>by
  unfold Hv at p1;subst p1;unfold Hv at p2;obtain⟨t2,rfl⟩:=p2;exact RcNeAt.none_str  b2 t2
 |.av,.tup ds2,p1,p2,hu=>by
  unfold Hv at p1;subst p1;unfold Hv at p2;obtain⟨a2,its2,rfl,l2,p2⟩:=p2;exact RcNeAt.none_tuple  l2 (by lia)
 |.av,.lst ds2,p1,p2,hu=>by
  unfold Hv at p1;subst p1;unfold Hv at p2;obtain⟨a2,its2,rfl,l2,p2⟩:=p2;exact RcNeAt.none_list  l2 (by lia)
 |.bl b1,.av,p1,p2,hu=>by
  unfold Hv at p1;subst p1;unfold Hv at p2;subst p2;exact RcNeAt.bool_none b1
 |.bl b1,.bl b2,p1,p2,hu=>by
  unfold Hv at p1;subst p1;unfold Hv at p2;subst p2;exact RcNeAt.bool_bool b1 b2
 |.bl b1,.int b2,p1,p2,hu=>by
  unfold Hv at p1;subst p1;unfold Hv at p2;obtain⟨t2,rfl⟩:=p2;exact RcNeAt.bool_int b1 b2 t2
 |.bl b1,.str b2,p1,p2,hu=>by
  unfold Hv at p1;subst p1;unfold Hv at p2;obtain⟨t2,rfl⟩:=p2;exact RcNeAt.bool_str b1 b2 t2
 |.bl b1,.tup ds2,p1,p2,hu=>by
  unfold Hv at p1;subst p1;unfold Hv at p2;obtain⟨a2,its2,rfl,l2,p2⟩:=p2;exact RcNeAt.bool_tuple b1 l2 (by lia)
 |.bl b1,.lst ds2,p1,p2,hu=>by
  unfold Hv at p1;subst p1;unfold Hv at p2;obtain⟨a2,its2,rfl,l2,p2⟩:=p2;exact RcNeAt.bool_list b1 l2 (by lia)
 |.int b1,.av,p1,p2,hu=>by
  unfold Hv at p1;obtain⟨t1,rfl⟩:=p1;unfold Hv at p2;subst p2;exact RcNeAt.int_none b1 t1
 |.int b1,.bl b2,p1,p2,hu=>by
  unfold Hv at p1;obtain⟨t1,rfl⟩:=p1;unfold Hv at p2;subst p2;exact RcNeAt.int_bool b1 t1 b2
 |.int b1,.int b2,p1,p2,hu=>by
  unfold Hv at p1;obtain⟨t1,rfl⟩:=p1;unfold Hv at p2;obtain⟨t2,rfl⟩:=p2;exact RcNeAt.int_int b1 t1 b2 t2
 |.int b1,.str b2,p1,p2,hu=>by
  unfold Hv at p1;obtain⟨t1,rfl⟩:=p1;unfold Hv at p2;obtain⟨t2,rfl⟩:=p2;exact RcNeAt.int_str b1 t1 b2 t2
 |.int b1,.tup ds2,p1,p2,hu=>by
  unfold Hv at p1;obtain⟨t1,rfl⟩:=p1;unfold Hv at p2;obtain⟨a2,its2,rfl,l2,p2⟩:=p2;exact RcNeAt.int_tuple b1 t1 l2 (by lia)
 |.int b1,.lst ds2,p1,p2,hu=>by
  unfold Hv at p1;obtain⟨t1,rfl⟩:=p1;unfold Hv at p2;obtain⟨a2,its2,rfl,l2,p2⟩:=p2;exact RcNeAt.int_list b1 t1 l2 (by lia)
 |.str b1,.av,p1,p2,hu=>by
  unfold Hv at p1;obtain⟨t1,rfl⟩:=p1;unfold Hv at p2;subst p2;exact RcNeAt.str_none b1 t1
 |.str b1,.bl b2,p1,p2,hu=>by
  unfold Hv at p1;obtain⟨t1,rfl⟩:=p1;unfold Hv at p2;subst p2;exact RcNeAt.str_bool b1 t1 b2
 |.str b1,.int b2,p1,p2,hu=>by
  unfold Hv at p1;obtain⟨t1,rfl⟩:=p1;unfold Hv at p2;obtain⟨t2,rfl⟩:=p2;exact RcNeAt.str_int b1 t1 b2 t2
 |.str b1,.str b2,p1,p2,hu=>by
  unfold Hv at p1;obtain⟨t1,rfl⟩:=p1;unfold Hv at p2;obtain⟨t2,rfl⟩:=p2;exact RcNeAt.str_str b1 t1 b2 t2
 |.str b1,.tup ds2,p1,p2,hu=>by
  unfold Hv at p1;obtain⟨t1,rfl⟩:=p1;unfold Hv at p2;obtain⟨a2,its2,rfl,l2,p2⟩:=p2;exact RcNeAt.str_tuple b1 t1 l2 (by lia)
 |.str b1,.lst ds2,p1,p2,hu=>by
  unfold Hv at p1;obtain⟨t1,rfl⟩:=p1;unfold Hv at p2;obtain⟨a2,its2,rfl,l2,p2⟩:=p2;exact RcNeAt.str_list b1 t1 l2 (by lia)
 |.tup ds1,.av,p1,p2,hu=>by
  unfold Hv at p1;obtain⟨a1,its1,rfl,l1,p1⟩:=p1;unfold Hv at p2;subst p2;exact RcNeAt.tuple_none  l1 (by lia)
 |.tup ds1,.bl b2,p1,p2,hu=>by
  unfold Hv at p1;obtain⟨a1,its1,rfl,l1,p1⟩:=p1;unfold Hv at p2;subst p2;exact RcNeAt.tuple_bool b2 l1 (by lia)
 |.tup ds1,.int b2,p1,p2,hu=>by
  unfold Hv at p1;obtain⟨a1,its1,rfl,l1,p1⟩:=p1;unfold Hv at p2;obtain⟨t2,rfl⟩:=p2;exact RcNeAt.tuple_int b2 t2 l1 (by lia)
 |.tup ds1,.str b2,p1,p2,hu=>by
  unfold Hv at p1;obtain⟨a1,its1,rfl,l1,p1⟩:=p1;unfold Hv at p2;obtain⟨t2,rfl⟩:=p2;exact RcNeAt.tuple_str b2 t2 l1 (by lia)
 |.tup ds1,.tup ds2,p1,p2,hu=>by
  unfold Hv at p1;obtain⟨a1,its1,rfl,l1,p1⟩:=p1;unfold Hv at p2;obtain⟨a2,its2,rfl,l2,p2⟩:=p2;unfold D.gf;have hdep:A.units+gm ds1+1+1<cLine:=by
   have e9:(.tup ds1:D).jb=gm ds1+1:=by first|rfl|(unfold D.jb;rfl)
   lia
  have q:=RcNeAt.tuples (e:=fun j=>(ds1.getD j .av).gf (ds2.getD j .av)) l1 l2 (by lia) fun j h1 h2=>
   v3 (ds1.getD j .av) (ds2.getD j .av) _ _ A.in1 (lF p1 h1).1 (lF p2 h2).1 (by
    have:=uk (lF p1 h1).2;show A.units+1+_+1<cLine;lia)
  rw[χ,χ,p1.length,p2.length,uj] at q;exact q
 |.tup ds1,.lst ds2,p1,p2,hu=>by
  unfold Hv at p1;obtain⟨a1,its1,rfl,l1,p1⟩:=p1;unfold Hv at p2;obtain⟨a2,its2,rfl,l2,p2⟩:=p2;exact RcNeAt.tuple_list l1 l2 (by lia)
 |.lst ds1,.av,p1,p2,hu=>by
  unfold Hv at p1;obtain⟨a1,its1,rfl,l1,p1⟩:=p1;unfold Hv at p2;subst p2;exact RcNeAt.list_none  l1 (by lia)
 |.lst ds1,.bl b2,p1,p2,hu=>by
  unfold Hv at p1;obtain⟨a1,its1,rfl,l1,p1⟩:=p1;unfold Hv at p2;subst p2;exact RcNeAt.list_bool b2 l1 (by lia)
 |.lst ds1,.int b2,p1,p2,hu=>by
  unfold Hv at p1;obtain⟨a1,its1,rfl,l1,p1⟩:=p1;unfold Hv at p2;obtain⟨t2,rfl⟩:=p2;exact RcNeAt.list_int b2 t2 l1 (by lia)
 |.lst ds1,.str b2,p1,p2,hu=>by
  unfold Hv at p1;obtain⟨a1,its1,rfl,l1,p1⟩:=p1;unfold Hv at p2;obtain⟨t2,rfl⟩:=p2;exact RcNeAt.list_str b2 t2 l1 (by lia)
 |.lst ds1,.tup ds2,p1,p2,hu=>by
  unfold Hv at p1;obtain⟨a1,its1,rfl,l1,p1⟩:=p1;unfold Hv at p2;obtain⟨a2,its2,rfl,l2,p2⟩:=p2;exact RcNeAt.list_tuple l1 l2 (by lia)
 |.lst ds1,.lst ds2,p1,p2,hu=>by
  unfold Hv at p1;obtain⟨a1,its1,rfl,l1,p1⟩:=p1;unfold Hv at p2;obtain⟨a2,its2,rfl,l2,p2⟩:=p2;unfold D.gf;have hdep:A.units+gm ds1+1+1<cLine:=by
   have e9:(.lst ds1:D).jb=gm ds1+1:=by first|rfl|(unfold D.jb;rfl)
   lia
  by_cases hn:ds1.length=ds2.length
  ·have q:=RcNeAt.lists (e:=fun j=>(ds1.getD j .av).gf (ds2.getD j .av)) l1 l2 (by simp[p1.length,p2.length,hn]) (by lia) fun j h1 h2=>
    v3 (ds1.getD j .av) (ds2.getD j .av) _ _ A.in1 (lF p1 h1).1 (lF p2 h2).1 (by
     have:=uk (lF p1 h1).2;show A.units+1+_+1<cLine;lia)
   have q2:=uj ds1 ds2;rw[hn,oH,beq_self_eq_true,rK] at q2;rw[χ,p1.length,hn,q2] at q;exact q
  ·rw[zm _ _ hn];exact RcNeAt.lists_lengths l1 l2 (by simp[p1.length,p2.length,hn]) (by lia)
 |d,.eL,p1,p2,hu=>by
  unfold Hv at p2;exact p2.elim
 |.eL,e,p1,p2,hu=>by
  unfold Hv at p1;exact p1.elim
end Dat
namespace L3
open PySem PySem.Spec PyProof.Rows L2
section
variable {X:Cx} {K:η}
def A2(f:Int->Int->D):R3:=fun x y G Q=>match x,y with
 |.int i,.int j=>Q (f i j) G
 |_,_=>False
theorem gG{H:Hp}{i:Int}{v:V}(h:Hv K H (.int i) v):v=.int i:=by unfold Hv at h;exact h
theorem ui{H:Hp}{i:Bool}{v:V}(h:Hv K H (.bl i) v):v=.bl i:=by unfold Hv at h;exact h
theorem iI{H:Hp}{a:ζ}{v:V}(h:Hv K H (.obj a) v):v=.ref a:=by unfold Hv at h;exact h
theorem kr{H:Hp}{ds:List D}{v:V}(h:Hv K H (.tup ds) v):∃a vs,v=.ref a/\cY K H a vs/\aD K H ds vs:=by unfold Hv at h;exact h
theorem qE{H:Hp}{ds:List D}{v:V}(h:Hv K H (.dA ds) v):∃a vs,v=.ref a/\kB K H a vs/\aD K H ds vs:=by unfold Hv at h;exact h
theorem ml{H:Hp}{i:Int}:Hv K H (.int i) (.int i):=by simp[Hv]
theorem lE{H:Hp}{i:Bool}:Hv K H (.bl i) (.bl i):=by simp[Hv]
theorem qD{H:Hp}{a:ζ}:Hv K H (.obj a) (.ref a):=by simp[Hv]
theorem qC{H:Hp}{ds:List D}{a:ζ}{vs:List V}(h:cY K H a vs)(q:aD K H ds vs):Hv K H (.tup ds) (.ref a):=by
 unfold Hv;exact⟨a,vs,rfl,h,q⟩
theorem low_ints{f:Int->Int->D}{g:Int->Int->V}(hf:∀i j H,Hv K H (f i j) (g i j)):di K (A2 f) (nR g):=fun x y vx vy G H Q3 Q hx hy RG h k=>by
 cases x with
 |int i=>
  cases y with
  |int j=>
   rw[gG hx,gG hy];exact⟨i,j,rfl,rfl,k _ H _ G (hf i j H) (.refl H G) RG h⟩
  |_=>exact h.elim
 |_=>exact h.elim
abbrev DH:R3:=A2 fun i j=>.int (i-j)
theorem Sn:di K DH (nR fun i j=>.int (i-j)):=low_ints fun _ _ _=>ml
abbrev ue:R3:=A2 fun i j=>.bl (decide (i≤j))
theorem vW:di K ue (nR fun i j=>.bl (decide (i≤j))):=low_ints fun _ _ _=>lE
abbrev yK:R3:=A2 fun i j=>.bl (decide (j<i))
theorem C1:di K yK (nR fun i j=>.bl (decide (j<i))):=low_ints fun _ _ _=>lE
abbrev EN:R3:=A2 fun i j=>.bl (decide (j≤i))
theorem WU:di K EN (nR fun i j=>.bl (decide (j≤i))):=low_ints fun _ _ _=>lE
def kU(i:Int):Prop:=i.natAbs<2^4000
theorem Ig{i:Int}(h:kU i):i.natAbs.log2<4000:=by
 by_cases h0:i.natAbs=0
 ·rw[h0];decide
 ·exact (Nat.log2_lt h0).mpr h
theorem Ie{i:Int}(h:kU i):iW i≤4000:=by
 unfold iW;split
 ·exact ax _
 ·exact Ig h
theorem Sm{i j:Int}(h1:kU i)(h2:kU j):IntMulOk i j:=by
 unfold IntMulOk cO.Int.intTooBig;have b1:=Ie h1;have b2:=Ie h2;have:¬((iW i:Int)+(iW j:Int) > (bitsLine:Int)):=by
  have:(bitsLine:Int)=134217728:=by decide
  lia
 rw[decide_eq_false this];simp
theorem Ib:dq X (binaryOp .FloorDiv) (rI (fun _ j=>0<j/\kU j) fun i j=>.int (i / j)):=DQ fun i j _ _ _ _ _ hc q=>by
 have h1:(0:Int)<j:=hc.1;exact floordiv_int (by lia) (by rw[Int.fdiv_eq_ediv_of_nonneg i (by lia)];exact q) (.inl (PyProof.noPylong_of_log2 (oI (Ig hc.2) (by decide))))
theorem Ej:dq X (binaryOp .Mult) (rI (fun i j=>kU i/\kU j) fun i j=>.int (i*j)):=DQ fun _ _ _ _ _ _ _ hc q=>mul_int q (Sm hc.1 hc.2)
def yJ(C:Int->Int->Prop)(f:Int->Int->D):R3:=fun x y G Q=>match x,y with
 |.int i,.int j=>C i j/\Q (f i j) G
 |_,_=>False
theorem CM{C:Int->Int->Prop}{f:Int->Int->D}{g:Int->Int->V}(hf:∀i j H,Hv K H (f i j) (g i j)):di K (yJ C f) (rI C g):=fun x y vx vy G H Q3 Q hx hy RG h k=>by
 cases x with
 |int i=>
  cases y with
  |int j=>
   rw[gG hx,gG hy];exact⟨i,j,rfl,rfl,h.1,k _ H _ G (hf i j H) (.refl H G) RG h.2⟩
  |_=>exact h.elim
 |_=>exact h.elim
abbrev yL:R3:=yJ (fun _ j=>0<j/\kU j) fun i j=>.int (i / j)
theorem Ia:di K yL (rI (fun _ j=>0<j/\kU j) fun i j=>.int (i / j)):=CM fun _ _ _=>ml
abbrev tE:R3:=yJ (fun _ j=>0<j) fun i j=>.int (i%j)
theorem xp:di K tE (rI (fun _ j=>0<j) fun i j=>.int (i%j)):=CM fun _ _ _=>ml
abbrev DK:R3:=yJ Dz fun i j=>.int (i^j.toNat)
theorem Sl:di K DK (rI Dz fun i j=>.int (i^j.toNat)):=CM fun _ _ _=>ml
theorem Sj{prog:Ω}{w:aj}{A:aB}{E:ε->θ->Prop}{s:θ}{t b:ζ}{ws:List ε}{Q:ε->θ->Prop}(ht:lq s.heap t #[])(hb:lq s.heap b ws.toArray)(h1:Q (.ref b) s):
  π (model prog w) A (binaryOp .Add (.ref t) (.ref b)) Q E s:=by
 obtain⟨⟨cls,dd,data,sl⟩,ho,hc,n,hd⟩:=id ht;obtain⟨⟨cls2,dd2,data2,sl2⟩,ho2,hc2,n2,hd2⟩:=id hb;simp only at hc hd hc2 hd2;subst hc hd hc2 hd2;exact concat_meets ⟨_,ho,rfl⟩ ⟨_,ho2,rfl⟩ oz rC j9 jH (ji _ _)
   (tuple_addW0 t b #[] ws.toArray n n2 dd dd2 sl sl2 rfl) ⟨ho,ho2,h1⟩
def A3(K:η):R2:=fun x y H Q=>∃a b ys,x=.ref a/\y=.ref b/\cY K H a []/\cY K H b ys/\Q (.ref b) H
theorem Si:dq X (binaryOp .Add) (A3 X.K):=by
 intro pins s σ H x y v u Q I rx ry h;obtain⟨a,b,ys,rfl,rfl,ha,hb,q⟩:=h;cases rx;cases ry;obtain⟨its,r1,p1,_⟩:=I.tuple ha;obtain⟨its2,r2,p2,_⟩:=I.tuple hb;cases r1;exact Sj p1 p2 ⟨.ref b,H,I,rfl,q⟩
def df:R3:=fun x y G Q=>match x,y with
 |.int i,.int j=>Q (.int (i+j)) G
 |.obj a,.obj b=>∃ds es,G a=some (.lst ds)/\G b=some (.lst es)/\ds.length+es.length≤ag/\∀p G',dC G p (.lst (ds++es)) G'->Q (.obj p) G'
 |.tup ds,.tup es=>ds.length+es.length≤ag/\Q (.tup (ds++es)) G
 |_,_=>False
abbrev DN(K:η):R2:=fun x y H Q=>nR (fun i j=>.int (i+j)) x y H Q∨(EO x y H Q∨(DM K x y H Q∨A3 K x y H Q))
theorem gF:dq X (binaryOp .Add) (DN X.K):=Jx.or (Jw.or (Ek.or Si))
theorem gE:di K df (DN K):=fun x y vx vy G H Q3 Q hx hy RG h k=>by
 cases x with
 |int i=>
  cases y with
  |int j=>
   rw[gG hx,gG hy];exact .inl ⟨i,j,rfl,rfl,k _ H _ G ml (.refl H G) RG h⟩
  |_=>exact h.elim
 |obj a=>
  cases y with
  |obj b=>
   rw[iI hx,iI hy];obtain⟨ds,es,e1,e2,hz,q⟩:=h;obtain⟨vs,z1,z2⟩:=RG a _ e1;obtain⟨us,y1,y2⟩:=RG b _ e2;refine .inr (.inl ⟨a,b,vs,us,rfl,rfl,z1,y1,by rw[←z2.length,←y2.length];exact hz,fun p hp=>?_⟩);exact k _ _ (.obj p) _ qD (.g0 hp) (RG.sr hp (z2.append y2)) (q p _ (.mk' (RG.free hp)))
  |_=>exact h.elim
 |tup ds=>
  cases y with
  |tup es=>
   obtain⟨a,vs,rfl,e1,e2⟩:=kr hx;obtain⟨b,us,rfl,y1,y2⟩:=kr hy;by_cases h0:vs=[]
   ·subst h0;have:ds=[]:=by
     have:=e2.length;exact lB (by simpa using this)
    subst this;exact .inr (.inr (.inr ⟨a,b,us,rfl,rfl,e1,y1,k _ H (.tup es) G (qC y1 y2) (.refl H G) RG h.2⟩))
   ·refine .inr (.inr (.inl ⟨a,b,vs,us,rfl,rfl,e1,y1,h0,by rw[←e2.length,←y2.length];exact h.1,fun z=>?_,fun z p hp=>?_⟩))
    ·subst z;have:es=[]:=lB (by simpa using y2.length);subst this;refine k _ H (.tup ds) G (qC e1 e2) (.refl H G) RG ?_;have:=h.2;rwa [bO] at this
    ·exact k _ _ (.tup (ds++es)) G (qC (.of iJ) ((e2.append y2).ext (.laid hp))) (.laid hp) (RG.laid hp) h.2
  |_=>exact h.elim
 |_=>exact h.elim
def tD:R3:=fun x y G Q=>match x,y with
 |.int i,.int j=>(kU i/\kU j)/\Q (.int (i*j)) G
 |.obj a,.int k=>∃ds,G a=some (.lst ds)/\(-(2^63)≤k/\k<2^63)/\ds.length*k.toNat≤ag/\∀p G',dC G p (.lst (aY k.toNat ds).flatten) G'->Q (.obj p) G'
 |_,_=>False
abbrev DL:R2:=fun x y H Q=>rI (fun i j=>kU i/\kU j) (fun i j=>.int (i*j)) x y H Q∨EF x y H Q
theorem xo:dq X (binaryOp .Mult) DL:=Ej.or SX
theorem xn:di K tD DL:=fun x y vx vy G H Q3 Q hx hy RG h k=>by
 cases x with
 |int i=>
  cases y with
  |int j=>
   rw[gG hx,gG hy];exact .inl ⟨i,j,rfl,rfl,h.1,k _ H _ G ml (.refl H G) RG h.2⟩
  |_=>exact h.elim
 |obj a=>
  cases y with
  |int j=>
   rw[iI hx,gG hy];obtain⟨ds,e1,hk,hz,q⟩:=h;obtain⟨vs,z1,z2⟩:=RG a _ e1;refine .inr ⟨a,j,vs,rfl,rfl,z1,hk.1,hk.2,by rw[←z2.length];exact hz,fun p hp=>?_⟩;exact k _ _ (.obj p) _ qD (.g0 hp) (RG.sr hp (z2.rep _)) (q p _ (.mk' (RG.free hp)))
  |_=>exact h.elim
 |_=>exact h.elim
def zS:D->Bool
 |.av=>true
 |_=>false
def EM(neg:Bool):R3:=fun x y G Q=>match y with
 |.av=>Q (.bl (if neg then !zS x else zS x)) G
 |_=>False
theorem Sh{H:Hp}{x:D}{v:V}(h:Hv K H x v):decide (v=.av)=zS x:=by
 cases x with
 |av=>unfold Hv at h;subst h;rfl
 |bl b=>rw[ui h];rfl
 |int b=>rw[gG h];rfl
 |str b=>unfold Hv at h;subst h;rfl
 |obj b=>rw[iI h];rfl
 |tup ds=>obtain⟨a,vs,rfl,_⟩:=kr h;rfl
 |dA ds=>obtain⟨a,vs,rfl,_⟩:=qE h;rfl
 |dc a=>unfold Hv at h;rw[h.1];rfl
theorem Sg:di K (EM true) (fun x y H Q=>y=.av/\Q (.bl (!decide (x=.av))) H):=fun x y vx vy G H Q3 Q hx hy RG h k=>by
 cases y with
 |av=>
  refine⟨by unfold Hv at hy;exact hy,?_⟩;rw[Sh hx];exact k _ H _ G lE (.refl H G) RG h
 |_=>exact h.elim
def intsOf:List D->Option (List Int)
 |[]=>some []
 |.int i::r=>(intsOf r).map (i::·)
 |_::_=>none
theorem sj{H:Hp}:∀{ds:List D} {vs:List V} {ns:List Int},aD K H ds vs->intsOf ds=some ns->vs=ns.map V.int
 |[],vs,ns,h,e=>by
  cases e;exact h.gz
 |d::ds,vs,ns,h,e=>by
  cases d with
  |int i=>
   obtain⟨v,r,rfl,z1,z2⟩:=h.inv;unfold intsOf at e;cases hm:intsOf ds with
   |none=>rw[hm] at e;cases e
   |some ms=>
    rw[hm] at e;cases e;rw[gG z1,sj z2 hm];rfl
  |_=>cases e
def nk:R3:=fun x y G Q=>match x,y with
 |.int i,.int j=>Q (.bl (decide (i<j))) G
 |.tup ds,.tup es=>∃ns ms,intsOf ds=some ns/\intsOf es=some ms/\Q (.bl (HT.lexLt ns ms)) G
 |_,_=>False
abbrev EH(K:η):R2:=fun x y H Q=>nR (fun i j=>.bl (decide (i<j))) x y H Q∨EG K x y H Q
theorem si(hu:X.A.units<cLine):dq X (compareOp .Lt) (EH X.K):=KE.or (Ub hu)
theorem sh:di K nk (EH K):=fun x y vx vy G H Q3 Q hx hy RG h k=>by
 cases x with
 |int i=>
  cases y with
  |int j=>
   rw[gG hx,gG hy];exact .inl ⟨i,j,rfl,rfl,k _ H _ G lE (.refl H G) RG h⟩
  |_=>exact h.elim
 |tup ds=>
  cases y with
  |tup es=>
   obtain⟨a,vs,rfl,e1,e2⟩:=kr hx;obtain⟨b,us,rfl,y1,y2⟩:=kr hy;obtain⟨ns,ms,z1,z2,q⟩:=h;have q1:=sj e2 z1;have q2:=sj y2 z2;subst q1 q2;exact .inr ⟨a,b,ns,ms,rfl,rfl,e1,y1,k _ H _ G lE (.refl H G) RG q⟩
  |_=>exact h.elim
 |_=>exact h.elim
def dh:R3:=fun x y G Q=>match x,y with
 |.tup ds,.int i=>∃d,kA ds i=some d/\Q d G
 |.dA ds,.int i=>∃d,kA ds i=some d/\Q d G
 |.obj p,.int i=>∃ds d,G p=some (.lst ds)/\kA ds i=some d/\Q d G
 |_,_=>False
theorem zl{H:Hp}{ds:List D}{vs:List V}{i:Int}{d:D}(h:aD K H ds vs)(e:kA ds i=some d):∃v,kA vs i=some v/\Hv K H d v:=by
 unfold kA at e ⊢;rw[←h.length];cases hx:rm ds.length i with
 |none=>rw[hx] at e;cases e
 |some j=>
  rw[hx] at e;exact h.get e
theorem WT:di K dh (Le K):=fun x y vx vy G H Q3 Q hx hy RG h k=>by
 cases y with
 |int i=>
  rw[gG hy];cases x with
  |tup ds=>
   obtain⟨d,e,q⟩:=h;obtain⟨a,vs,rfl,e1,e2⟩:=kr hx;obtain⟨v,z1,z2⟩:=zl e2 e;exact .inr (.inl ⟨a,vs,i,v,rfl,rfl,e1,z1,k _ H d G z2 (.refl H G) RG q⟩)
  |dA ds=>
   obtain⟨d,e,q⟩:=h;obtain⟨a,vs,rfl,e1,e2⟩:=qE hx;obtain⟨v,z1,z2⟩:=zl e2 e;exact .inl ⟨a,vs,i,v,rfl,rfl,e1.l,z1,k _ H d G z2 (.refl H G) RG q⟩
  |obj p=>
   obtain⟨ds,d,e0,e,q⟩:=h;rw[iI hx];obtain⟨vs,e1,e2⟩:=RG p _ e0;obtain⟨v,z1,z2⟩:=zl e2 e;exact .inl ⟨p,vs,i,v,rfl,rfl,.of e1,z1,k _ H d G z2 (.refl H G) RG q⟩
  |_=>exact h.elim
 |_=>cases x<;>exact h.elim
theorem W4{a b:ρ}{ta tb:aw}{pos:aJ}(ha:bL X a ta)(hb:bL X b tb)(hs:nI b:=by intro _ _;rfl):bL X (.Subscript a b pos) (aE dh ta tb):=hX (CT IH ha hb hs) fun _ _ _ h=>xt WT h
def sG(ta:cw)(tb:aw):aw:=fun τ G Q=>ta τ G fun ds G1=>rY (tb τ G1 fun y G2=>match y with
 |.int i=>∃d,kA ds i=some d/\Q d G2
 | _=>False) ds 64
theorem Sf{es:List ρ}{b:ρ}{ta:cw}{tb:aw}{pos pos':aJ}(ha:ig X es ta)(hb:bL X b tb)(hs:nI b:=by intro _ _;rfl):bL X (.Subscript (.List es pos') b pos) (sG ta tb):=
 hX (CT IH (IX ha) hb hs) fun σ H Q ⟨τ,G,Q3,RS,RG,h,k⟩=>by
  refine⟨τ,G,_,RS,RG,h,fun vs H1 ds G1 h1 S1 R1 q1=>?_⟩;obtain⟨z,q1⟩:=zr q1;refine⟨by rw[←h1.length];exact xO z,fun p hp=>?_⟩;refine⟨τ,G1,_,(RS.ext (S1.ext RG)).ext (.laid hp),R1.laid hp,q1,fun v2 H2 d2 G2 h2 S2 R2 q2=>?_⟩;have e2:H2 p=some (.lst vs):=S2.fr p _ iJ (R1.free hp);cases d2 with
  |int i=>
   obtain⟨d,e,q⟩:=q2;obtain⟨v,z1,z2⟩:=zl ((h1.ext (.laid hp)).ext (S2.ext (R1.laid hp))) e;rw[gG h2];exact .inl ⟨p,vs,i,v,rfl,rfl,.of e2,z1,k _ H2 d G2 z2 ((S1.trans (.laid hp)).trans S2) R2 q⟩
  |_=>exact q2.elim
end
end L3
namespace L3
open PySem PySem.Spec PyProof.Rows L2
mutual
def nP:D->Option Dat.D
 |.av=>some .av
 |.bl b=>some (.bl b)
 |.int i=>some (.int i)
 |.str x=>some (.str x)
 |.tup ds=>match e7 ds with
  |some xs=>some (.tup xs)
  |none=>none
 |.dA ds=>match e7 ds with
  |some xs=>some (.lst xs)
  |none=>none
 |.obj _=>none
 |.dc _=>none
def e7:List D->Option (List Dat.D)
 |[]=>some []
 |d::ds=>match nP d with
  |some x=>match e7 ds with
   |some xs=>some (x::xs)
   |none=>none
  |none=>none
end
def tv(G:Gp):D->Option Dat.D
 |.obj a=>match G a with
  |some (.lst ds)=>match e7 ds with
   |some xs=>some (.lst xs)
   |none=>none
  |_=>none
 |d=>nP d
section
variable {X:Cx} {pins:List (ζ×aL)} {σ:L2.St} {H:Hp} {s:θ}
mutual
theorem sg(I:Inv X pins σ H s):∀{d:D} {v:V} {u:ε} {x:Dat.D},Hv X.K H d v->RelV v u->nP d=some x->Dat.Hv s.heap x u
 |.av,v,u,x,h,r,e=>by
  unfold Hv at h;subst h;cases e;unfold Dat.Hv;exact r
 |.bl b,v,u,x,h,r,e=>by
  unfold Hv at h;subst h;cases e;unfold Dat.Hv;exact r
 |.int b,v,u,x,h,r,e=>by
  unfold Hv at h;subst h;cases e;unfold Dat.Hv;exact r
 |.str b,v,u,x,h,r,e=>by
  unfold Hv at h;subst h;cases e;unfold Dat.Hv;exact r
 |.obj a,v,u,x,h,r,e=>by cases e
 |.dc a,v,u,x,h,r,e=>by cases e
 |.tup ds,v,u,x,h,r,e=>by
  obtain⟨a,vs,rfl,q1,q2⟩:=kr h;cases r;unfold nP at e;cases hd:e7 ds with
  |none=>rw[hd] at e;cases e
  |some xs=>
   rw[hd] at e;cases e;obtain⟨its,rv,p,_⟩:=I.tuple q1;unfold Dat.Hv;exact⟨a,its,rfl,p,zk I q2 rv hd⟩
 |.dA ds,v,u,x,h,r,e=>by
  obtain⟨a,vs,rfl,q1,q2⟩:=qE h;cases r;unfold nP at e;cases hd:e7 ds with
  |none=>rw[hd] at e;cases e
  |some xs=>
   rw[hd] at e;cases e;obtain⟨its,rv,p,_⟩:=I.list q1.l;unfold Dat.Hv;exact⟨a,its,rfl,p.isList,zk I q2 rv hd⟩
theorem zk(I:Inv X pins σ H s):∀{ds:List D} {vs:List V} {us:List ε} {xs:List Dat.D},aD X.K H ds vs->aU vs us->e7 ds=some xs->Dat.aD s.heap xs us
 |[],vs,us,xs,h,r,e=>by
  cases h.gz;cases r;cases e;unfold Dat.aD;rfl
 |d::ds,vs,us,xs,h,r,e=>by
  obtain⟨v,vr,rfl,q1,q2⟩:=h.inv;unfold e7 at e;cases hd:nP d with
  |none=>rw[hd] at e;cases e
  |some x=>
   rw[hd] at e;cases hr:e7 ds with
   |none=>rw[hr] at e;cases e
   |some xr=>
    rw[hr] at e;cases e;cases r with
    |cons r1 r2=>
     unfold Dat.aD;exact⟨_,_,rfl,sg I q1 r1 hd,zk I q2 r2 hr⟩
end
theorem zG{G:Gp}(I:Inv X pins σ H s)(RG:aM X.K G H){d:D}{v:V}{u:ε}{x:Dat.D}(h:Hv X.K H d v)(r:RelV v u)(e:tv G d=some x):Dat.Hv s.heap x u:=by
 cases d with
 |obj a=>
  rw[iI h] at r;cases r;unfold tv at e;cases hG:G a with
  |none=>simp[hG] at e
  |some o=>
   cases o with
   |lst ds=>
    simp only[hG] at e;cases hr:e7 ds with
    |none=>rw[hr] at e;cases e
    |some xs=>
     rw[hr] at e;cases e;obtain⟨vs,e1,e2⟩:=RG a _ hG;obtain⟨its,rv,p,_⟩:=I.list (ff.of e1);unfold Dat.Hv;exact⟨a,its,rfl,p.isList,zk I e2 rv hr⟩
   |mm=>simp[hG] at e
   |eL=>simp[hG] at e
   |gen R=>simp[hG] at e
 |av=>exact sg I h r e
 |bl _=>exact sg I h r e
 |int _=>exact sg I h r e
 |str _=>exact sg I h r e
 |tup _=>exact sg I h r e
 |dA _=>exact sg I h r e
 |dc _=>exact sg I h r e
end
section
variable {X:Cx} {a b e:ρ} {ta tb:aw} {pos:aJ}
def dF(neg:Bool):R3:=fun x y G Q=>∃u v,tv G x=some u/\tv G y=some v/\u.jb≤50/\Q (.bl (if neg then !u.gf v else u.gf v)) G
def AG(X:Cx)(f:ε->ε->gZ ε)(r:R3):Prop:=
 ∀(pins:List (ζ×aL)) (s:θ) (σ:L2.St) (H:Hp) (G:Gp) (x y:D) (vx vy:V) (u v:ε) (Q3:V3),Inv X pins σ H s->aM X.K G H->Hv X.K H x vx->Hv X.K H y vy->RelV vx u->RelV vy v->r x y G Q3 ->
  π (model X.prog X.w) X.A (f u v) (EP X pins σ fun w H'=>∃d G',Hv X.K H' d w/\Step H G H' G'/\aM X.K G' H'/\Q3 d G') X.xe s
theorem XH(hu:X.A.units+64<cLine):AG X (compareOp .Eq) (dF false):=by
 intro pins s σ H G x y vx vy u v Q3 I RG hx hy rx ry ⟨p,q,e1,e2,hd,h⟩;have:=Dat.LI p q u v X.A (zG I RG hx rx e1) (zG I RG hy ry e2) (by lia);exact this _ _ _ _ ⟨.bl (p.gf q),H,I,rfl,.bl (p.gf q),G,lE,.refl H G,RG,h⟩
theorem Xp(hu:X.A.units+64<cLine):AG X (compareOp .NotEq) (dF true):=by
 intro pins s σ H G x y vx vy u v Q3 I RG hx hy rx ry ⟨p,q,e1,e2,hd,h⟩;have:=Dat.LH p q u v X.A (zG I RG hx rx e1) (zG I RG hy ry e2) (by lia);exact this _ _ _ _ ⟨.bl (!p.gf q),H,I,rfl,.bl (!p.gf q),G,lE,.refl H G,RG,h⟩
def tI(K:η)(r:R3):R2:=fun vx vy H Q=>∃x y G Q3,aM K G H/\Hv K H x vx/\Hv K H y vy/\r x y G Q3/\∀v H' d G',Hv K H' d v->Step H G H' G'->aM K G' H'->Q3 d G'->Q v H'
theorem AG.op{f:ε->ε->gZ ε}{r:R3}(h:AG X f r):dq X f (tI X.K r):=by
 intro pins s σ H vx vy u v Q I rx ry ⟨x,y,G,Q3,RG,hx,hy,q,k⟩;refine bB (h pins s σ H G x y vx vy u v Q3 I RG hx hy rx ry q) fun w s' ⟨v',H',I',r',d,G',z1,z2,z3,z4⟩=>⟨v',H',I',r',k v' H' d G' z1 z2 z3 z4⟩
theorem HZ{K:η}{r:R3}:di K r (tI K r):=fun x y vx vy G H Q3 Q hx hy RG h k=>⟨x,y,G,Q3,RG,hx,hy,h,k⟩
theorem nV(hu:X.A.units+64<cLine):dq X (compareOp .Eq) (tI X.K (dF false)):=(XH hu).op
theorem jQ(hu:X.A.units+64<cLine):dq X (compareOp .NotEq) (tI X.K (dF true)):=(Xp hu).op
theorem og{K:η}:di K (dF false) (tI K (dF false)):=HZ
theorem jS{K:η}:di K (dF true) (tI K (dF true)):=HZ
abbrev wc:=S3->Gp->(Option Int->Gp->Prop)->Prop
def WR(K:η)(t:wc):TO:=fun σ H Q=>∃τ G Q3,eJ K τ σ H/\aM K G H/\t τ G Q3/\∀o H' G',Step H G H' G'->aM K G' H'->Q3 o G'->Q o H'
abbrev Bl(X:Cx)(e:Option ρ)(t:wc):Prop:=PO X e (WR X.K t)
theorem HY{o:Option ρ}{t t':TO}(h:PO X o t)(f:∀σ H Q,t' σ H Q->t σ H Q):PO X o t':=fun pins s σ H Q I q=>h pins s σ H Q I (f σ H Q q)
def gx:wc:=fun _ G Q=>Q none G
def fM(t:aw):wc:=fun τ G Q=>t τ G fun x G1=>match x with
 |.int i=>Q (some i) G1
 |_=>False
theorem Rw:Bl X none gx:=HY Tj fun σ H Q ⟨τ,G,Q3,RS,RG,h,k⟩=>k none H G (.refl H G) RG h
theorem Rv(h:bL X e ta):Bl X (some e) (fM ta):=HY (Th h) fun σ H Q ⟨τ,G,Q3,RS,RG,h,k⟩=>
 ⟨τ,G,_,RS,RG,h,fun v H1 d G1 h1 S1 R1 q1=>by
  cases d with
  |int i=>exact⟨i,gG h1,k (some i) H1 G1 S1 R1 q1⟩
  |_=>exact q1.elim⟩
def gA(ds:List D)(lo hi:Option Int):List D:=(ds.drop (HT.bX ds.length 0 lo)).take (HT.bX ds.length ds.length hi-HT.bX ds.length 0 lo)
def kP(ta:aw)(tl th:wc):aw:=fun τ G Q=>ta τ G fun x G1=>tl τ G1 fun lo G2=>th τ G2 fun hi G3=>match x with
 |.tup ds=>Q (.tup (gA ds lo hi)) G3
 |.dA ds=>∀p G4,dC G3 p (.lst (gA ds lo hi)) G4->Q (.obj p) G4
 |.obj a=>∃ds,G3 a=some (.lst ds)/\∀p G4,dC G3 p (.lst (gA ds lo hi)) G4->Q (.obj p) G4
 |_=>False
theorem CL{K:η}{H:Hp}{ds:List D}{vs:List V}(h:aD K H ds vs)(lo hi:Option Int):aD K H (gA ds lo hi) (sH vs lo hi):=by
 unfold gA sH;rw[h.length];exact (h.drop _).take _
theorem Ru{prog:Ω}{w:aj}{A:aB}{E:ε->θ->Prop}{s:θ}{t sl:ζ}{items:Array ε}{vl vu:ε}{lo hi:Option Int}{Q:ε->θ->Prop}(ht:lq s.heap t items)(hs:s.heap.IsSliceOf sl vl vu .none)(pl:ls vl lo)(pu:ls vu hi)
  (hw:HT.bX items.size 0 lo=0/\HT.bX items.size items.size hi=items.size) (h:Q (.ref t) s):π (model prog w) A (getItem (.ref t) (.ref sl)) Q E s:=by
 obtain⟨os,hos,hcs,hds⟩:=id hs;have hTs:s.TypeIs (.ref sl) "slice":=⟨os,hos,hcs⟩;unfold getItem
 try with_reducible refine bU ?_
 first|refine δ (ν ?_)|skip
 refine δ (wpAny_sequenceKey ht.typeIs (by decide) ?_);refine δ (cy (name:=aI "__getitem__") ht.typeIs cK
  (ck cK ht.typeIs entry_tuple_getitem ?_ (args_tuple_getitem _ _)))
 show π _ _ (mV (.ref t) >>= _) _ _ s;refine δ (tupleItemsOf_ ht ?_);refine δ (jh hTs ?_);rw[if_pos (by decide)];refine δ (HT.nQ hs pl pu ?_);have hyes:(((HT.bX items.size 0 lo:Nat):Int)==0&&(1:Int)==1&&(HT.bX items.size items.size hi-HT.bX items.size 0 lo)==items.size)=true:=by
  rw[hw.1,hw.2];simp
 show π _ _ (if (((HT.bX items.size 0 lo:Nat):Int)==0&&(1:Int)==1&&(HT.bX items.size items.size hi-HT.bX items.size 0 lo)==items.size)=true then _ else _) _ _ s;rw[if_pos hyes];unfold cO.Tuple.tupleIsExact;refine δ (δ (jh ht.typeIs (ν ?_)));rw[if_pos (by decide)];exact δ (kX (ν ⟨_,rfl,ν h⟩))
def Kz(K:η):V->Option Int->Option Int->Hp->VK->Prop:=fun x lo hi H Q=>∃a xs,x=.ref a/\cY K H a xs ∧
 (HT.bX xs.length 0 lo=0/\HT.bX xs.length xs.length hi=xs.length)/\Q (.ref a) H
theorem Eh:wd X (Kz X.K):=by
 intro pins s σ H x v vl vu lo hi sl Q I rx hs pl pu h;obtain⟨a,xs,rfl,hx,hw,q⟩:=h;cases rx;obtain⟨its,r,ht,hz⟩:=I.tuple hx;have hlen:its.toArray.size=xs.length:=by rw[χ];exact r.length.symm
 refine⟨"tuple",_,cK.lookup,ht.typeIs,?_⟩;exact Ru ht hs pl pu (by rw[hlen];exact hw) ⟨.ref a,H,I,rfl,q⟩
theorem W1{lo hi:Option ρ}{tl th:wc}{p2:aJ}(ha:bL X a ta)(hl:Bl X lo tl)(hh:Bl X hi th):bL X (.Subscript a (.Slice lo hi none p2) pos) (kP ta tl th):=
 hX (Tg (EE.or (Eh.or T5)) ha hl hh) fun σ H Q ⟨τ,G,Q3,RS,RG,h,k⟩=>by
  refine⟨τ,G,_,RS,RG,h,fun v1 H1 d1 G1 h1 S1 R1 q1=>?_⟩;have RS1:=RS.ext (S1.ext RG);refine⟨τ,G1,_,RS1,R1,q1,fun l H2 G2 S2 R2 q2=>?_⟩;have RS2:=RS1.ext (S2.ext R1);refine⟨τ,G2,_,RS2,R2,q2,fun u H3 G3 S3 R3 q3=>?_⟩;have S13:Step H G H3 G3:=(S1.trans S2).trans S3;have hv:=(h1.ext (S2.ext R1)).ext (S3.ext R2);cases d1 with
  |tup ds=>
   obtain⟨a',vs,rfl,e1,e2⟩:=kr hv;by_cases hw:HT.bX vs.length 0 l=0/\HT.bX vs.length vs.length u=vs.length
   ·refine .inr (.inl ⟨a',vs,rfl,e1,hw,k _ H3 (.tup (gA ds l u)) G3 (qC e1 ?_) S13 R3 q3⟩);have:gA ds l u=ds:=by
     unfold gA;rw[e2.length,hw.1,hw.2];simp[←e2.length]
    rw[this];exact e2
   ·refine .inl ⟨a',vs,rfl,e1,hw,fun p hp=>?_⟩;exact k _ _ (.tup (gA ds l u)) G3 (qC (.of iJ) ((CL e2 l u).ext (.laid hp))) (S13.trans (.laid hp)) (R3.laid hp) q3
  |dA ds=>
   obtain⟨a',vs,rfl,e1,e2⟩:=qE hv;refine .inr (.inr ⟨a',vs,rfl,e1.l,fun p hp=>?_⟩);exact k _ _ (.obj p) _ qD (S13.trans (.g0 hp)) (R3.sr hp (CL e2 l u)) (q3 p _ (.mk' (R3.free hp)))
  |obj a'=>
   rw[iI hv];obtain⟨ds,e0,q3⟩:=q3;obtain⟨vs,e1,e2⟩:=R3 a' _ e0;refine .inr (.inr ⟨a',vs,rfl,.of e1,fun p hp=>?_⟩);exact k _ _ (.obj p) _ qD (S13.trans (.g0 hp)) (R3.sr hp (CL e2 l u)) (q3 p _ (.mk' (R3.free hp)))
  |_=>exact q3.elim
end
end L3
namespace L3
open PySem PySem.Spec PyProof.Rows L2
abbrev C3:=List D->Gp->V3->Prop
def cL(r:C3)(t:cw):aw:=fun τ G Q=>t τ G fun ds G1=>r ds G1 Q
def oo(K:η)(r:C3)(r2:List V->Hp->VK->Prop):Prop:=∀ds vs G H Q3 Q,aD K H ds vs->aM K G H->r ds G Q3->(∀v H' d G',Hv K H' d v->Step H G H' G'->aM K G' H'->Q3 d G'->Q v H')->r2 vs H Q
section
variable {X:Cx} {K:η} {e:ρ} {es:List ρ} {t:cw} {ta:aw} {pos p:aJ}
theorem Rt{r:C3}{r2:List V->Hp->VK->Prop}(L:oo K r r2){σ:L2.St}{H:Hp}{Q:VK}(h:low K (cL r t) σ H Q):AO r2 (pG K t) σ H Q:=by
 obtain⟨τ,G,Q3,RS,RG,h,k⟩:=h;refine⟨τ,G,_,RS,RG,h,fun vs H1 ds G1 h1 S1 R1 q1=>?_⟩;exact L _ _ _ _ _ _ h1 R1 q1 fun v H' d G' z1 z2 z3 z4=>k v H' d G' z1 (S1.trans z2) z3 z4
theorem qO{r:C3}{r2:List V->Hp->VK->Prop}(L:oo X.K r r2)(h:PE X e (AO r2 (pG X.K t))):bL X e (cL r t):=hX h fun _ _ _ h=>Rt L h
theorem ku{H:Hp}{d:D}{vs:List V}(h:aD K H [d] vs):∃v,vs=[v]/\Hv K H d v:=by
 obtain⟨v,r,rfl,z1,z2⟩:=h.inv;cases z2.gz;exact⟨v,rfl,z1⟩
theorem JM{H:Hp}{d d':D}{vs:List V}(h:aD K H [d,d'] vs):∃v v',vs=[v,v']/\Hv K H d v/\Hv K H d' v':=by
 obtain⟨v,r,rfl,z1,z2⟩:=h.inv;obtain⟨v',rfl,z3⟩:=ku z2;exact⟨v,v',rfl,z1,z3⟩
def i7:C3:=fun ds G Q=>match ds with
 |[.obj a]=>∃xs,G a=some (.lst xs)/\Q (.int xs.length) G
 |[.tup xs]=>Q (.int xs.length) G
 |[.dA xs]=>Q (.int xs.length) G
 |_=>False
theorem Rr:oo K i7 (fun xs H Q=>∃p ys,xs=[.ref p]/\(ff K H p ys∨cY K H p ys)/\Q (.int ys.length) H):=fun ds vs G H Q3 Q h RG q k=>by
 rcases ds with _|⟨d,_|⟨d2,ds⟩⟩
 ·exact q.elim
 ·obtain⟨v,rfl,hv⟩:=ku h;cases d with
  |obj a=>
   obtain⟨xs,e,q⟩:=q;obtain⟨us,e1,e2⟩:=RG a _ e;rw[iI hv];exact⟨a,us,rfl,.inl (.of e1),by rw[←e2.length];exact k _ H _ G ml (.refl H G) RG q⟩
  |tup xs=>
   obtain⟨a,us,rfl,e1,e2⟩:=kr hv;exact⟨a,us,rfl,.inr e1,by rw[←e2.length];exact k _ H _ G ml (.refl H G) RG q⟩
  |dA xs=>
   obtain⟨a,us,rfl,e1,e2⟩:=qE hv;exact⟨a,us,rfl,.inl e1.l,by rw[←e2.length];exact k _ H _ G ml (.refl H G) RG q⟩
  |_=>exact q.elim
 ·cases d<;>exact q.elim
theorem Rq(hu:X.A.units+64<cLine)(hm:X.mg "len" = none)(ha:ig X (e::es) t)(hg:Gl X "len":=by rfl)(he:notStar e=true:=by rfl)(hpl:es.all notStar=true:=by rfl):
  bL X (.Call (.Name "len" p) (e::es) [] pos) (cL i7 t):=qO Rr (sk T3 hg hm PySem.boot_len ha (he:=dY he) (hpl:=jG hpl))
def zF:C3:=fun ds G Q=>match ds with
 |[.bl b]=>Q (.int (if b then 1 else 0)) G
 |[.int i]=>Q (.int i) G
 |_=>False
theorem Rp:oo K zF (fun xs H Q=>(∃i,xs=[.int i]/\Q (.int i) H)∨∃k,xs=[.bl k]/\Q (.int (if k then 1 else 0)) H):=fun ds vs G H Q3 Q h RG q k=>by
 rcases ds with _|⟨d,_|⟨d2,ds⟩⟩
 ·exact q.elim
 ·obtain⟨v,rfl,hv⟩:=ku h;cases d with
  |bl b=>
   rw[ui hv];exact .inr ⟨b,rfl,k _ H _ G ml (.refl H G) RG q⟩
  |int b=>
   rw[gG hv];exact .inl ⟨b,rfl,k _ H _ G ml (.refl H G) RG q⟩
  |_=>exact q.elim
 ·cases d<;>exact q.elim
theorem Ro(hu:X.A.units+64<cLine)(hm:X.mg "int" = none)(ha:ig X (e::es) t)(hg:Gl X "int":=by rfl)(he:notStar e=true:=by rfl)(hpl:es.all notStar=true:=by rfl):
  bL X (.Call (.Name "int" p) (e::es) [] pos) (cL zF t):=qO Rp (vQ TM hg hm rfl ha (he:=dY he) (hpl:=jG hpl))
def Cy:C3:=fun ds G Q=>match ds with
 |[.int i,.int j]=>Q (.int (if j > i then j else i)) G
 |_=>False
theorem Rn{f:Int->Int->Int}:oo K (fun ds G Q=>match ds with
 |[.int i,.int j]=>Q (.int (f i j)) G
 | _=>False) (fun xs H Q=>∃i j,xs=[.int i,.int j]/\Q (.int (f i j)) H):=fun ds vs G H Q3 Q h RG q k=>by
 rcases ds with _|⟨d,_|⟨d2,_|⟨d3,ds⟩⟩⟩
 ·exact q.elim
 ·cases d<;>exact q.elim
 ·obtain⟨v,v',rfl,h1,h2⟩:=JM h;cases d with
  |int i=>
   cases d2 with
   |int j=>
    rw[gG h1,gG h2];exact⟨i,j,rfl,k _ H _ G ml (.refl H G) RG q⟩
   |_=>exact q.elim
  |_=>exact q.elim
 ·cases d with
  |int i=>cases d2<;>exact q.elim
  |_=>exact q.elim
theorem Rm(hu:X.A.units+64<cLine)(hm:X.mg "max" = none)(ha:ig X (e::es) t)(hc:X.calm=true:=by rfl)(hg:Gl X "max":=by rfl)(he:notStar e=true:=by rfl)(hpl:es.all notStar=true:=by rfl):
  bL X (.Call (.Name "max" p) (e::es) [] pos) (cL Cy t):=qO (Rn (f:=fun i j=>if j > i then j else i)) (sk (TN hc) hg hm rfl ha (he:=dY he) (hpl:=jG hpl))
def xm:C3:=fun ds G Q=>match ds with
 |[.obj a]=>∃xs,G a=some (.lst xs)/\Q (.tup xs) G
 |[.tup xs]=>Q (.tup xs) G
 |[.dA xs]=>Q (.tup xs) G
 |_=>False
theorem Rl:oo K xm (fun xs H Q=>∃p ys,xs=[.ref p]/\((ff K H p ys/\∀l,H l=none->Q (.ref l) (upd H l (.tup ys)))∨(cY K H p ys/\Q (.ref p) H))):=fun ds vs G H Q3 Q h RG q k=>by
 rcases ds with _|⟨d,_|⟨d2,ds⟩⟩
 ·exact q.elim
 ·obtain⟨v,rfl,hv⟩:=ku h;cases d with
  |obj a=>
   obtain⟨xs,e,q⟩:=q;obtain⟨us,e1,e2⟩:=RG a _ e;rw[iI hv];exact⟨a,us,rfl,.inl ⟨.of e1,fun l hl=>k _ _ (.tup xs) G (qC (.of iJ) (e2.ext (.laid hl))) (.laid hl) (RG.laid hl) q⟩⟩
  |tup xs=>
   obtain⟨a,us,rfl,e1,e2⟩:=kr hv;exact⟨a,us,rfl,.inr ⟨e1,k _ H _ G (qC e1 e2) (.refl H G) RG q⟩⟩
  |dA xs=>
   obtain⟨a,us,rfl,e1,e2⟩:=qE hv;exact⟨a,us,rfl,.inl ⟨e1.l,fun l hl=>k _ _ (.tup xs) G (qC (.of iJ) (e2.ext (.laid hl))) (.laid hl) (RG.laid hl) q⟩⟩
  |_=>exact q.elim
 ·cases d<;>exact q.elim
theorem Rk(hu:X.A.units+64<cLine)(hm:X.mg "tuple" = none)(ha:ig X (e::es) t)(hg:Gl X "tuple":=by rfl)(he:notStar e=true:=by rfl)(hpl:es.all notStar=true:=by rfl):
  bL X (.Call (.Name "tuple" p) (e::es) [] pos) (cL xm t):=qO Rl (vQ TY hg hm rfl ha (he:=dY he) (hpl:=jG hpl))
def zE:C3:=fun ds G Q=>match ds with
 |[.obj a]=>∃xs,G a=some (.lst xs)/\∀p G',dC G p (.lst xs) G'->Q (.obj p) G'
 |[.tup xs]=>∀p G',dC G p (.lst xs) G'->Q (.obj p) G'
 |[.dA xs]=>∀p G',dC G p (.lst xs) G'->Q (.obj p) G'
 |_=>False
theorem Rj:oo K zE (fun xs H Q=>∃p ys,xs=[.ref p]/\(ff K H p ys∨cY K H p ys)/\∀l,H l=none->Q (.ref l) (upd H l (.lst ys))):=fun ds vs G H Q3 Q h RG q k=>by
 have fin:∀(xs:List D) (us:List V),aD K H xs us->(∀p G',dC G p (.lst xs) G'->Q3 (.obj p) G')->∀l,H l=none->Q (.ref l) (upd H l (.lst us)):=fun xs us e2 q l hl=>
  k _ _ (.obj l) _ qD (.g0 hl) (RG.sr hl e2) (q l _ (.mk' (RG.free hl)))
 rcases ds with _|⟨d,_|⟨d2,ds⟩⟩
 ·exact q.elim
 ·obtain⟨v,rfl,hv⟩:=ku h;cases d with
  |obj a=>
   obtain⟨xs,e,q⟩:=q;obtain⟨us,e1,e2⟩:=RG a _ e;rw[iI hv];exact⟨a,us,rfl,.inl (.of e1),fin xs us e2 q⟩
  |tup xs=>
   obtain⟨a,us,rfl,e1,e2⟩:=kr hv;exact⟨a,us,rfl,.inr e1,fin xs us e2 q⟩
  |dA xs=>
   obtain⟨a,us,rfl,e1,e2⟩:=qE hv;exact⟨a,us,rfl,.inl e1.l,fin xs us e2 q⟩
  |_=>exact q.elim
 ·cases d<;>exact q.elim
theorem Ri(hu:X.A.units+64<cLine)(hm:X.mg "list" = none)(ha:ig X (e::es) t)(hg:Gl X "list":=by rfl)(he:notStar e=true:=by rfl)(hpl:es.all notStar=true:=by rfl):
  bL X (.Call (.Name "list" p) (e::es) [] pos) (cL zE t):=qO Rj (vQ TZ hg hm rfl ha (he:=dY he) (hpl:=jG hpl))
def eM(r:D->List D->Gp->V3->Prop)(to:aw)(t:cw):aw:=fun τ G Q=>to τ G fun x G1=>(∃a xs,x=.obj a/\G1 a=some (.lst xs))/\t τ G1 fun ds G2=>r x ds G2 Q
def mP(K:η)(r:D->List D->Gp->V3->Prop)(r2:V->List V->Hp->VK->Prop):Prop:=∀x vx ds vs G H Q3 Q,Hv K H x vx->aD K H ds vs->aM K G H->r x ds G Q3->(∀v H' d G',Hv K H' d v->Step H G H' G'->aM K G' H'->Q3 d G'->Q v H')->r2 vx vs H Q
theorem Rh{r:D->List D->Gp->V3->Prop}{r2:V->List V->Hp->VK->Prop}{to:aw}(L:mP K r r2){σ:L2.St}{H:Hp}{Q:VK}(h:low K (eM r to t) σ H Q):DF K "list" r2 (low K to) (pG K t) σ H Q:=by
 obtain⟨τ,G,Q3,RS,RG,h,k⟩:=h;refine⟨τ,G,_,RS,RG,h,fun v1 H1 d1 G1 h1 S1 R1 q1=>?_⟩;obtain⟨⟨a,xs,rfl,e1⟩,q1⟩:=q1;obtain⟨us,e2,e3⟩:=R1 a _ e1;refine⟨?_,τ,G1,_,RS.ext (S1.ext RG),R1,q1,fun vs H2 ds G2 h2 S2 R2 q2=>?_⟩
 ·rw[iI h1];exact .inl ⟨rfl,us,.of e2⟩
 ·exact L _ _ _ _ _ _ _ _ (h1.ext (S2.ext R1)) h2 R2 q2 fun v H' d G' z1 z2 z3 z4=>k v H' d G' z1 ((S1.trans S2).trans z2) z3 z4
def zD:D->List D->Gp->V3->Prop:=fun x ds G Q=>match x,ds with
 |.obj a,[d]=>∃xs,G a=some (.lst xs)/\xs.length<ag/\Q .av (eH G a (.lst (xs++[d])))
 |_,_=>False
theorem HX:mP K zD yp:=fun x vx ds vs G H Q3 Q hx hs RG q k=>by
 rcases ds with _|⟨d,_|⟨d2,ds⟩⟩
 ·cases x<;>exact q.elim
 ·cases x with
  |obj a=>
   obtain⟨xs,e1,hz,q⟩:=q;obtain⟨us,e2,e3⟩:=RG a _ e1;obtain⟨v,rfl,hv⟩:=ku hs;rw[iI hx];refine⟨a,us,v,rfl,rfl,e2,by rw[←e3.length];exact hz,?_⟩;exact k _ _ .av _ (by simp[Hv]) (.wrote e1) (RG.AL e2 (e3.append (.cons hv .nil))) q
  |_=>exact q.elim
 ·cases x<;>exact q.elim
theorem Rg{r:D->List D->Gp->V3->Prop}{r2:V->List V->Hp->VK->Prop}{to:aw}(L:mP X.K r r2)(h:PE X e (DF X.K "list" r2 (low X.K to) (pG X.K t))):bL X e (eM r to t):=hX h fun _ _ _ z=>Rh L z
def HW:D->List D->Gp->V3->Prop:=fun x ds G Q=>match x,ds with
 |.obj a,[.int i]=>∃xs k d,G a=some (.lst xs)/\(-(2^63)≤i/\i<2^63)/\seqIndex? i xs.length=some k/\xs[k]?=some d/\Q d (eH G a (.lst (xs.eraseIdx k)))
 |_,_=>False
theorem Rf:mP K HW AZ:=fun x vx ds vs G H Q3 Q hx hs RG q k=>by
 rcases ds with _|⟨d,_|⟨d2,ds⟩⟩
 ·cases x<;>exact q.elim
 ·cases x with
  |obj a=>
   cases d with
   |int i=>
    obtain⟨xs,j,y,e1,hb,hk,hy,q⟩:=q;obtain⟨us,e2,e3⟩:=RG a _ e1;obtain⟨v,rfl,hv⟩:=ku hs;obtain⟨w,e4,e5⟩:=e3.get hy;rw[iI hx,gG hv];refine⟨a,us,i,j,w,rfl,rfl,e2,hb.1,hb.2,by rw[←e3.length];exact hk,e4,?_⟩;exact k _ _ y _ (e5.ext (.wrote e2)) (.wrote e1) (RG.AL e2 (e3.erase j)) q
   |_=>exact q.elim
  |_=>exact q.elim
 ·cases x with
  |obj a=>cases d<;>exact q.elim
  |_=>exact q.elim
def Dk:aw:=fun _ G Q=>∀p G',dC G p .eL G'->Q (.obj p) G'
theorem Rc:bL X (.Dict [] [] pos) Dk:=fun pins s σ H Q I ⟨τ,G,Q3,RS,RG,h,k⟩=>by
 have hf:H s.heap.objs.size=none:=I.bx.fresh (Δ _);refine wpAny_Dict_empty ⟨.ref s.heap.objs.size,_,I.laid (a:=s.heap.objs.size) (o:=.ext fun h=>∃o,h.get? s.heap.objs.size=some o/\o.cls=.type "dict") (t':=s.toks) (fun _ _ q=>μ _ q) (Δ _) ?_,rfl,?_⟩
 ·refine⟨⟨_,Ψ _ rfl,rfl⟩,⟨_,Ψ _ rfl⟩,fun h1 h2 ⟨o,e1,e2⟩ kk=>⟨o,kk o e1,e2⟩⟩
 ·exact k _ _ (.obj s.heap.objs.size) (eH G s.heap.objs.size .eL) qD (.g0 hf) (RG.g0 (g:=.eL) hf iJ) (h _ _ (.mk' (RG.free hf)))
def gJ(T:String)(G:Gp):D->Option Bool
 |.av=>some false
 |.bl _=>some (T=="bool" || T=="int")
 |.int _=>some (T=="int")
 |.str _=>some (T=="str")
 |.tup _=>some (T=="tuple")
 |.dA _=>some (T=="list")
 |.dc _=>some (T=="dict")
 |.obj a=>match G a with
  |some (.lst _)=>some (T=="list")
  |some .mm=>some (T=="list")
  |some .eL=>some (T=="dict")
  |some (.gen _)=>none
  |none=>none
def qP(T:String)(ta:aw):aw:=fun τ G Q=>ta τ G fun x G1=>match gJ T G1 x with
 |some b=>Q (.bl b) G1
 |none=>False
end
end L3
namespace J8
open PySem PySem.W PyProof.Rows
structure Ord(n:Nat)(lt:Nat->Nat->Bool):Prop where
 yy:∀a b,a<n->b<n->lt a b=true->lt b a=false
 t4:∀a b c,a<n->b<n->c<n->lt b a=false->lt c b=false->lt c a=false
abbrev g(p:Array Nat)(i:Nat):Nat:=p.getD i 0
structure Va(n:Nat)(p:Array Nat):Prop where
 perm:p.toList.Perm (aO n)
section
variable {n:Nat} {lt:Nat->Nat->Bool} {cmp:Nat->Nat->(Bool->θ->Prop)->θ->Prop} {s:θ}
theorem Va.size{p:Array Nat}(v:Va n p):p.size=n:=by
 have:=v.perm.length_eq;simpa using this
theorem Va.get{p:Array Nat}(v:Va n p){i:Nat}(hi:i<n):p[i]?=some (g p i):=by
 have h:=v.size;simp[g,ly,h,hi]
theorem Va.inr{p:Array Nat}(v:Va n p){i:Nat}(hi:i<n):g p i<n:=by
 have h:=v.get hi;have hm:g p i∈p.toList:=bW (by rw[aR];exact h);have:=v.perm.mem_iff.mp hm;simpa using this
theorem Ord.refl(O:Ord n lt){a:Nat}(ha:a<n):lt a a=false:=by
 cases h:lt a a with
 |false=>rfl
 |true=>
  have:=O.yy a a ha ha h;rw[h] at this;exact this
def So(lt:Nat->Nat->Bool)(p:Array Nat)(k:Nat):Prop:=∀i j,i≤j->j<k->lt (g p j) (g p i)=false
def Ni(lt:Nat->Nat->Bool)(p:Array Nat)(k:Nat):Prop:=∀i j,i≤j->j<k->lt (g p i) (g p j)=false
def Bq(lt:Nat->Nat->Bool)(p:Array Nat)(lo hi:Nat):Prop:=∀i j,lo≤i->i<hi->lo≤j->j<hi->lt (g p i) (g p j)=false
theorem So.one(O:Ord n lt){p:Array Nat}(v:Va n p)(hn:1≤n):So lt p 1:=fun i j h1 h2=>by
 have e1:i=0:=by lia
 have e2:j=0:=by lia
 rw[e1,e2];exact O.refl (v.inr (by lia))
theorem So.next(O:Ord n lt){p:Array Nat}(v:Va n p){a:Nat}(h1:1≤a)(ha:a<n)(S:So lt p a)(h:lt (g p a) (g p (a-1))=false):So lt p (a+1):=fun i j hij hj=>by
 by_cases hja:j<a
 ·exact S i j hij hja
 ·have e:j=a:=by lia
  subst e;by_cases hij':i=j
  ·rw[hij'];exact O.refl (v.inr ha)
  ·exact O.t4 (g p i) (g p (j-1)) (g p j) (v.inr (by lia)) (v.inr (by lia)) (v.inr ha) (S i (j-1) (by lia) (by lia)) h
theorem Ni.next(O:Ord n lt){p:Array Nat}(v:Va n p){a:Nat}(h1:1≤a)(ha:a<n)(S:Ni lt p a)(h:lt (g p (a-1)) (g p a)=false):Ni lt p (a+1):=fun i j hij hj=>by
 by_cases hja:j<a
 ·exact S i j hij hja
 ·have e:j=a:=by lia
  subst e;by_cases hij':i=j
  ·rw[hij'];exact O.refl (v.inr ha)
  ·exact O.t4 (g p j) (g p (j-1)) (g p i) (v.inr ha) (v.inr (by lia)) (v.inr (by lia)) h (S i (j-1) (by lia) (by lia))
theorem uh{p:Array Nat}(v:Va n p)(i j:Nat):Va n (kas_rev p i j):=⟨(mirror_perm p i j _).toList.trans v.perm⟩
theorem zC{p:Array Nat}(v:Va n p){lo hi k:Nat}(hh:hi≤n)(hk:k<n):g (kas_rev p lo hi) k=if lo≤k/\k<hi then g p (lo+hi-1-k) else g p k:=by
 have h1:=getElem?_mirror_all (xs:=p) (i:=lo) (j:=hi) (by rw[v.size];exact hh) k;have h2:=(uh v lo hi).get hk;have h3:(kas_rev p lo hi)[k]?=_:=h1;rw[h2] at h3;by_cases hc:lo≤k/\k<hi
 ·rw[if_pos hc] at h3 ⊢;rw[v.get (by lia)] at h3;exact ao h3
 ·rw[if_neg hc] at h3 ⊢;rw[v.get hk] at h3;exact ao h3
theorem Cw{p:Array Nat}(v:Va n p){lo hi k:Nat}(hh:hi≤k)(hk:k≤n)(S:Ni lt p k)(e:Bq lt p lo hi):Ni lt (kas_rev p lo hi) k:=fun i j hij hj=>by
 rw[zC v (by lia) (show i<n by lia),zC v (by lia) (show j<n by lia)];by_cases hi':lo≤i/\i<hi
 ·rw[if_pos hi'];by_cases hj':lo≤j/\j<hi
  ·rw[if_pos hj'];exact e _ _ (by lia) (by lia) (by lia) (by lia)
  ·rw[if_neg hj'];exact S _ _ (by lia) hj
 ·rw[if_neg hi'];by_cases hj':lo≤j/\j<hi
  ·rw[if_pos hj'];exact S _ _ (by lia) (by lia)
  ·rw[if_neg hj'];exact S _ _ hij hj
theorem Rb{p:Array Nat}(v:Va n p){k:Nat}(hk:k≤n)(S:Ni lt p k):So lt (kas_rev p 0 k) k:=fun i j hij hj=>by
 rw[zC v hk (show i<n by lia),zC v hk (show j<n by lia),if_pos (by lia),if_pos (by lia)];exact S _ _ (by lia) (by lia)
variable (O:Ord n lt) (hc:∀i j,i<n->j<n->∀(C:Bool->θ->Prop) (s:θ),C (lt i j) s->cmp i j C s)
include O hc
theorem Cv{p:Array Nat}(v:Va n p){G:Nat->θ->Prop}:∀(f a:Nat),1≤a->a+f≤n->So lt p a->(∀m,a≤m->m≤a+f->So lt p m->(m=a+f∨lt (g p m) (g p (m-1))=true)->G m s)->(kas_asc p f a).kasWp cmp G s
 |0,a,_,_,S,h=>h a (Δ _) (by lia) S (.inl (by lia))
 |f+1,a,h1,h2,S,h=>by
  show cmp _ _ _ s;refine hc _ _ (v.inr (by lia)) (v.inr (by lia)) _ s ?_;cases hb:lt (g p a) (g p (a-1)) with
  |true=>
   ((try dsimp only);rw[if_pos rfl])
   exact h a (Δ _) (by lia) S (.inr hb)
  |false=>
   ((try dsimp only);rw[if_neg au])
   exact Cv v f (a+1) (by lia) (by lia) (S.next O v h1 (by lia) hb) fun m q1 q2 q3 q4=>h m (by lia) (by lia) q3 (by
    rcases q4 with q4|q4
    ·exact .inl (by lia)
    ·exact .inr q4)
theorem zB{G:Array Nat×Nat×Nat->θ->Prop}:∀(f:Nat) (p:Array Nat) (a q:Nat),Va n p->q+1≤a->a+f≤n->Ni lt p a->Bq lt p (a-(q+1)) a ->
  (∀p' m q',Va n p'->a≤m->m≤a+f->q'+1≤m->Ni lt p' m->Bq lt p' (m-(q'+1)) m->G (p',m,q') s)->(kas_desc f p a q).kasWp cmp G s
 |0,p,a,q,v,h1,h2,S,e,h=>h p a q v (Δ _) (by lia) h1 S e
 |f+1,p,a,q,v,h1,h2,S,e,h=>by
  show cmp _ _ _ s;refine hc _ _ (v.inr (by lia)) (v.inr (by lia)) _ s ?_;have one:∀{p':Array Nat},Va n p'->Bq lt p' (a+1-(0+1)) (a+1):=fun {p'} v' i j i1 i2 j1 j2=>by
   have e1:i=a:=by lia
   have e2:j=a:=by lia
   rw[e1,e2];exact O.refl (v'.inr (by lia))
  cases hb:lt (g p a) (g p (a-1)) with
  |true=>
   ((try dsimp only);rw[if_pos rfl])
   have S':=S.next O v (by lia) (by lia) (O.yy _ _ (v.inr (by lia)) (v.inr (by lia)) hb)
   by_cases hq:q > 0
   ·rw[if_pos hq];exact zB f _ (a+1) 0 (uh v _ _) (by lia) (by lia) (Cw v (by lia) (by lia) S' e) (one (uh v _ _)) fun p' m q' r1 r2 r3 r4 r5 r6=>h p' m q' r1 (by lia) (by lia) r4 r5 r6
   ·rw[if_neg hq];exact zB f _ (a+1) 0 v (by lia) (by lia) S' (one v) fun p' m q' r1 r2 r3 r4 r5 r6=>h p' m q' r1 (by lia) (by lia) r4 r5 r6
  |false=>
   ((try dsimp only);rw[if_neg au])
   show cmp _ _ _ s;refine hc _ _ (v.inr (by lia)) (v.inr (by lia)) _ s ?_;cases hd:lt (g p (a-1)) (g p a) with
   |true=>
    ((try dsimp only);rw[if_pos rfl])
    exact h p a q v (Δ _) (by lia) h1 S e
   |false=>
    ((try dsimp only);rw[if_neg au])
    refine zB f _ (a+1) (q+1) v (by lia) (by lia) (S.next O v (by lia) (by lia) hd) (fun i j i1 i2 j1 j2=>?_) fun p' m q' r1 r2 r3 r4 r5 r6=>h p' m q' r1 (by lia) (by lia) r4 r5 r6
    have L:∀k,k<n->g p k<n:=fun k hk=>v.inr hk;by_cases hi:i=a
    ·by_cases hj:j=a
     ·rw[hi,hj];exact O.refl (L _ (by lia))
     ·rw[hi];exact O.t4 (g p j) (g p (a-1)) (g p a) (L _ (by lia)) (L _ (by lia)) (L _ (by lia)) (e (a-1) j (by lia) (by lia) (by lia) (by lia)) hb
    ·by_cases hj:j=a
     ·rw[hj];exact O.t4 (g p a) (g p (a-1)) (g p i) (L _ (by lia)) (L _ (by lia)) (L _ (by lia)) hd (e i (a-1) (by lia) (by lia) (by lia) (by lia))
     ·exact e i j (by lia) (by lia) (by lia) (by lia)
theorem HV{p:Array Nat}(v:Va n p){a:Nat}{G:Nat×Array Nat->θ->Prop}(h1:1≤a)(h2:a≤n)(S:Ni lt p a)(h:∀m p',Va n p'->1≤m->m≤n->So lt p' m->G (m,p') s):(kas_tail3 a n p).kasWp cmp G s:=by
 unfold kas_tail3;rw[i0];exact Cv O hc (uh v 0 a) (n-a) a h1 (by lia) (Rb v h2 S) fun m q1 q2 q3 _=>h m _ (uh v 0 a) (by lia) (by lia) q3
theorem HU{p:Array Nat}(v:Va n p){a:Nat}{G:Nat×Array Nat->θ->Prop}(h1:1≤a)(h2:a+1≤n)(S:Ni lt p (a+1))(h:∀m p',Va n p'->1≤m->m≤n->So lt p' m->G (m,p') s):(kas_descPart a n p).kasWp cmp G s:=by
 unfold kas_descPart;rw[i0];refine zB O hc (n-(a+1)) p (a+1) 0 v (by lia) (by lia) S (fun i j i1 i2 j1 j2=>?_) fun p' m q' r1 r2 r3 r4 r5 r6=>?_
 ·have e1:i=a:=by lia
  have e2:j=a:=by lia
  rw[e1,e2];exact O.refl (v.inr (by lia))
 ·dsimp only;by_cases hq:q' > 0
  ·rw[if_pos hq];exact HV O hc (uh r1 _ _) (by lia) (by lia) (Cw r1 (Δ _) (by lia) r5 r6) h
  ·rw[if_neg hq];exact HV O hc r1 (by lia) (by lia) r5 h
theorem Ra{p:Array Nat}(v:Va n p){G:Nat×Array Nat->θ->Prop}(hn:1≤n)(h:∀m p',Va n p'->1≤m->m≤n->So lt p' m->G (m,p') s):(kas_count n p).kasWp cmp G s:=by
 unfold kas_count;rw[i0];refine Cv O hc v (n-1) 1 (Δ _) (by lia) (So.one O v hn) fun a q1 q2 q3 q4=>?_;have L:∀k,k<n->g p k<n:=fun k hk=>v.inr hk;by_cases e1:(a==n)=true
 ·rw[if_pos e1];exact h a p v q1 (by lia) q3
 ·rw[if_neg e1];have cu:a≠n:=fun z=>e1 (by rw[z];exact beq_self_eq_true _);have hlt:lt (g p a) (g p (a-1))=true:=by
   rcases q4 with q4|q4
   ·lia
   ·exact q4
  have hle:=O.yy _ _ (L a (by lia)) (L (a-1) (by lia)) hlt;by_cases e2:a > 1
  ·rw[if_pos e2];show cmp _ _ _ s;refine hc _ _ (v.inr (by lia)) (v.inr (by lia)) _ s ?_;cases hb:lt (g p 0) (g p (a-1)) with
   |true=>
    ((try dsimp only);rw[if_pos rfl])
    exact h a p v q1 (by lia) q3
   |false=>
    ((try dsimp only);rw[if_neg au])
    -- all of the run are alike
    have eqv:Bq lt p 0 a:=fun i j i1 i2 j1 j2=>by
     have h1:lt (g p i) (g p 0)=false:=q3 0 i (by lia) i2;have h2:lt (g p (a-1)) (g p j)=false:=q3 j (a-1) (by lia) (by lia);have h3:lt (g p 0) (g p j)=false:=O.t4 _ _ _ (L j (by lia)) (L (a-1) (by lia)) (L 0 (by lia)) h2 hb;have h4:lt (g p (a-1)) (g p i)=false:=q3 i (a-1) (by lia) (by lia);exact O.t4 _ _ _ (L j (by lia)) (L 0 (by lia)) (L i (by lia)) h3 h1
    have ni:Ni lt p (a+1):=Ni.next O v (by lia) (by lia) (fun i j hij hj=>eqv i j (by lia) (by lia) (by lia) hj) hle
    exact HU O hc (uh v _ _) (by lia) (by lia) (Cw v (by lia) (by lia) ni eqv) h
  ·rw[if_neg e2];have ea:a=1:=by lia
   subst ea;refine HU O hc v (Δ _) (by lia) (Ni.next O v (by lia) (by lia) (fun i j hij hj=>?_) hle) h
   have e3:i=0:=by lia
   have e4:j=0:=by lia
   rw[e3,e4];exact O.refl (L 0 (by lia))
theorem Cu{p:Array Nat}(v:Va n p){k:Nat}(hk:k<n)(S:So lt p k){G:Nat->θ->Prop}:∀(f l r:Nat),l≤r->r≤k->r-l≤f->(∀i,i<l->lt (g p k) (g p i)=false)->(∀i,r≤i->i<k->lt (g p k) (g p i)=true) ->
  (∀l,l≤k->(∀i,i<l->lt (g p k) (g p i)=false)->(∀i,l≤i->i<k->lt (g p k) (g p i)=true)->G l s)->(kas_place p k f l r).kasWp cmp G s
 |0,l,r,h1,h2,h3,h4,h5,h=>by
  have e:l=r:=by lia
  subst e;exact h l h2 h4 h5
 |f+1,l,r,h1,h2,h3,h4,h5,h=>by
  unfold kas_place;by_cases hlr:l≥r
  ·rw[if_pos hlr];have e:l=r:=by lia
   subst e;exact h l h2 h4 h5
  ·rw[if_neg hlr];show cmp _ _ _ s;refine hc _ _ (v.inr hk) (v.inr (by lia)) _ s ?_;have L:∀k,k<n->g p k<n:=fun k hk=>v.inr hk;cases hb:lt (g p k) (g p ((l+r) / 2)) with
   |true=>
    ((try dsimp only);rw[if_pos rfl])
    refine Cu v hk S f l ((l+r) / 2) (by lia) (by lia) (by lia) h4 (fun i i1 i2=>?_) h;by_cases hri:r≤i
    ·exact h5 i hri i2
    ·cases hx:lt (g p k) (g p i) with
     |true=>rfl
     |false=>
      have h6:lt (g p i) (g p ((l+r) / 2))=false:=S _ _ i1 i2;have:=O.t4 _ _ _ (L ((l+r) / 2) (by lia)) (L i (by lia)) (L k hk) h6 hx;rw[hb] at this;exact this.symm
   |false=>
    ((try dsimp only);rw[if_neg au])
    refine Cu v hk S f ((l+r) / 2+1) r (by lia) h2 (by lia) (fun i hi=>?_) h5 h;exact O.t4 _ _ _ (L i (by lia)) (L ((l+r) / 2) (by lia)) (L k hk) (S i ((l+r) / 2) (by lia) (by lia)) hb
theorem HS{G:Array Nat->θ->Prop}:∀(f:Nat) (p:Array Nat) (k:Nat),Va n p->k+f=n->So lt p k->(∀p',Va n p'->So lt p' n->G p' s)->(kas_bin f p k).kasWp cmp G s
 | 0,p,k,v,hk,S,h=>h p v (by
  have e:k=n:=by lia
  rw[←e];exact S)
 |f+1,p,k,v,hk,S,h=>by
  show ((kas_place p k k 0 k).bind fun l=>kas_bin f (bubble p k (k-l)) (k+1)).kasWp cmp G s;rw[i0];refine Cu O hc v (by lia) S k 0 k (by lia) (Δ _) (by lia) (fun i hi=>by lia) (fun i i1 i2=>by lia) fun l hl q1 q2=>?_;have v':Va n (bubble p k (k-l)):=⟨(bubble_perm p k (k-l)).toList.trans v.perm⟩;have L:∀k,k<n->g p k<n:=fun k hk=>v.inr hk;have bg:∀i,i<n->g (bubble p k (k-l)) i=if i=l then g p k else if l<i/\i≤k then g p (i-1) else g p i:=fun i hi=>by
   have h1:=getElem?_bubble (xs:=p) (src:=k) (by rw[v.size];lia) (k-l) (by lia) i;rw[v'.get hi,show k-(k-l)=l by lia] at h1;by_cases c1:i=l
   ·rw[if_pos c1] at h1 ⊢;rw[v.get (by lia)] at h1;exact ao h1
   ·rw[if_neg c1] at h1 ⊢;by_cases c2:l<i/\i≤k
    ·rw[if_pos c2] at h1 ⊢;rw[v.get (by lia)] at h1;exact ao h1
    ·rw[if_neg c2] at h1 ⊢;rw[v.get hi] at h1;exact ao h1
  refine HS f _ (k+1) v' (by lia) (fun i j hij hj=>?_) h;rw[bg i (by lia),bg j (by lia)];by_cases ci:i=l
  ·rw[if_pos ci];by_cases cj:j=l
   ·rw[if_pos cj];exact O.refl (L k (by lia))
   ·rw[if_neg cj,if_pos (by lia)];exact O.yy _ _ (L k (by lia)) (L _ (by lia)) (q2 (j-1) (by lia) (by lia))
  ·rw[if_neg ci];by_cases cj:j=l
   ·rw[if_pos cj,if_neg (by lia)];exact q1 i (by lia)
   ·rw[if_neg cj];by_cases c3:l<i/\i≤k
    ·rw[if_pos c3,if_pos (by lia)];exact S (i-1) (j-1) (by lia) (by lia)
    ·rw[if_neg c3];by_cases c4:l<j/\j≤k
     ·rw[if_pos c4];exact S i (j-1) (by lia) (by lia)
     ·rw[if_neg c4];exact S i j hij (by lia)
theorem Q9{G:Array Nat->θ->Prop}(hn:1≤n)(h:∀p,Va n p->So lt p n->G p s):(kas_sort n).kasWp cmp G s:=by
 unfold kas_sort;rw[i0];have v0:Va n (jm (aO n)):=⟨by simp⟩;refine Ra O hc v0 hn fun m p' v m1 m2 S=>?_;dsimp only;by_cases hm:m<n
 ·rw[if_pos hm];have e:max m 1=m:=by lia
  rw[e];exact HS O hc (n-m) p' m v (by lia) S h
 ·rw[if_neg hm];have e:m=n:=by lia
  subst e;exact h p' v S
end
end J8
namespace om
open PySem PySem.SetTable
def jz(m:Nat):Prop:=m=7∨m=31∨m=127
def sJ(m:Nat)(p:Probe):Probe:=
 if p.more > 0 then { p with j:=p.j+1,more:=p.more-1 } else
 { p with j:=(leap m p.i p.perturb).1,more:=runEnd m (leap m p.i p.perturb).1-(leap m p.i p.perturb).1,i:=(leap m p.i p.perturb).1,perturb:=(leap m p.i p.perturb).2 }
def rs(m:Nat)(q:Nat×Nat):Probe:={ j:=q.1,more:=runEnd m q.1-q.1,i:=q.1,perturb:=q.2,dummy:=none }
def Xo(m:Nat)(h:Int):Probe:=rs m (bits h%(m+1),bits h)
def sq(m:Nat)(h:Int):Nat->Probe
 |0=>Xo m h
 |k+1=>sJ m (sq m h k)
def rn(m:Nat)(h:Int):Nat->Nat×Nat
 |0=>(bits h%(m+1),bits h)
 |r+1=>leap m (rn m h r).1 (rn m h r).2
theorem HR(m:Nat)(h:Int):∀k,(sq m h k).dummy=none
 |0=>rfl
 |k+1=>by
  show (sJ m (sq m h k)).dummy=none;have ih:=HR m h k;unfold sJ;split<;>simpa using ih
theorem Q8(m i:Nat):runEnd m i-i≤9:=by
 unfold runEnd;split<;>lia
theorem Ct(m:Nat)(h:Int)(n:Nat)(q:Nat×Nat)(e:sq m h n=rs m q):∀d,d≤runEnd m q.1-q.1->sq m h (n+d)={ j:=q.1+d,more:=runEnd m q.1-q.1-d,i:=q.1,perturb:=q.2,dummy:=none }
 |0,_=>by rw[Nat.add_zero,e];rfl
 |d+1,hd=>by
  have ih:=Ct m h n q e d (by lia);show sJ m (sq m h (n+d))=_;rw[ih];unfold sJ;rw[if_pos (show runEnd m q.1-q.1-d > 0 by lia)];simp only[Probe.mk.injEq,and_true,true_and];lia
theorem HQ(m:Nat)(h:Int)(n:Nat)(q:Nat×Nat)(e:sq m h n=rs m q):sq m h (n+(runEnd m q.1-q.1)+1)=rs m (leap m q.1 q.2):=by
 show sJ m (sq m h (n+(runEnd m q.1-q.1)))=_;rw[Ct m h n q e _ (Δ _)];unfold sJ;rw[if_neg (by simp)];rfl
theorem HP(m:Nat)(h:Int):∀r,∃n,n≤10*r/\sq m h n=rs m (rn m h r)
 |0=>⟨0,by lia,rfl⟩
 |r+1=>by
  obtain⟨n,hn,e⟩:=HP m h r;have:=Q8 m (rn m h r).1;exact⟨n+(runEnd m (rn m h r).1-(rn m h r).1)+1,by lia,HQ m h n _ e⟩
theorem Q7(h:Int):bits h<2^64:=by
 unfold bits;have h1:h%(2^64:Int)<2^64:=fK _ (by decide);have h2:0≤h%(2^64:Int):=gR _ (by decide);lia
theorem HN(m:Nat)(h:Int):∀r,(rn m h r).2=bits h / 32^r
 |0=>by simp[rn]
 |r+1=>by
  show (rn m h r).2 / 32=_;rw[HN m h r,Nat.div_div_eq_div_mul,Nat.pow_succ]
theorem Q6(m:Nat)(h:Int)(r:Nat)(hr:13≤r):(rn m h r).2=0:=by
 rw[HN];have h1:=Q7 h;have h2:(32:Nat)^13≤32^r:=Nat.pow_le_pow_right (by decide) hr;have h3:(2:Nat)^64<32^13:=by decide
 exact Nat.div_eq_of_lt (by lia)
def fl(m x:Nat):Nat:=(x*5+1)%(m+1)
def it(m:Nat):Nat->Nat->Nat
 |0,x=>x
 |n+1,x=>fl m (it m n x)
theorem xH(m:Nat)(a:Nat):∀b x,it m (b+a) x=it m b (it m a x)
 |0,x=>by rw[Nat.zero_add];rfl
 |b+1,x=>by
  rw[show b+1+a=(b+a)+1 by lia];show fl m (it m (b+a) x)=fl m (it m b (it m a x));rw[xH m a b x]
theorem Cs(m:Nat)(h:Int):∀n,(rn m h (13+n)).1=it m n (rn m h 13).1
 |0=>rfl
 |n+1=>by
  show ((rn m h (13+n)).1*5+1+(rn m h (13+n)).2 / 32)%(m+1)=fl m (it m n (rn m h 13).1);rw[Q6 m h (13+n) (by lia),Cs m h n];rfl
theorem Cr(m:Nat)(h:Int):∀r,(rn m h r).1<m+1
 |0=>lg _ (oF _)
 |r+1=>lg _ (oF _)
def A5(m:Nat):Nat->Nat->List Nat
 |0,_=>[]
 |n+1,x=>x::A5 m n (fl m x)
theorem zA(m:Nat):∀(n x y:Nat),y∈A5 m n x->∃k,k<n/\y=it m k x
 |0,_,_,h=>by cases h
 |n+1,x,y,h=>by
  rcases aa.mp h with e|e
  ·exact⟨0,by lia,e⟩
  ·obtain⟨k,hk,e⟩:=zA m n (fl m x) y e;refine⟨k+1,by lia,?_⟩;rw[xH m 1 k x];exact e
theorem WD:((aO 8).all fun x=>(A5 7 8 0).contains x)=true:=by decide +kernel
theorem KD:((aO 32).all fun x=>(A5 31 32 0).contains x)=true:=by decide +kernel
theorem Jv:((aO 128).all fun x=>(A5 127 128 0).contains x)=true:=by decide +kernel
theorem K4:it 7 8 0=0:=by decide +kernel
theorem JV:it 31 32 0=0:=by decide +kernel
theorem Ep:it 127 128 0=0:=by decide +kernel
theorem DO{m:Nat}(hm:jz m){x:Nat}(hx:x<m+1):∃k,k<m+1/\x=it m k 0:=by
 rcases hm with rfl|rfl|rfl
 ·have:=bT.mp WD x (cg.mpr hx);exact zA 7 8 0 x (by simpa using this)
 ·have:=bT.mp KD x (cg.mpr hx);exact zA 31 32 0 x (by simpa using this)
 ·have:=bT.mp Jv x (cg.mpr hx);exact zA 127 128 0 x (by simpa using this)
theorem back{m:Nat}(hm:jz m):it m (m+1) 0=0:=by
 rcases hm with rfl|rfl|rfl
 ·exact K4
 ·exact JV
 ·exact Ep
theorem A4{m:Nat}(hm:jz m){x y:Nat}(hx:x<m+1)(hy:y<m+1):∃n,n≤m/\it m n x=y:=by
 obtain⟨a,ha,ea⟩:=DO hm hx;obtain⟨b,hb,eb⟩:=DO hm hy;by_cases hab:a≤b
 ·refine⟨b-a,by lia,?_⟩;rw[ea,←xH,eb];congr 1;lia
 ·refine⟨m+1-a+b,by lia,?_⟩;rw[ea,←xH,eb,show m+1-a+b+a=b+(m+1) by lia,xH,back hm]
theorem comes{m:Nat}(hm:jz m)(h:Int){e:Nat}(he:e≤m):∃k,k≤10*m+130/\(sq m h k).j=e:=by
 obtain⟨n,hn,en⟩:=A4 hm (Cr m h 13) (show e<m+1 by lia);obtain⟨k,hk,ek⟩:=HP m h (13+n);refine⟨k,by lia,?_⟩;rw[ek];show (rn m h (13+n)).1=e;rw[Cs,en]
theorem Cq{xs:Array Nat}{j:Nat}(hr:xs.toList.Pairwise (· < ·)):∀(fuel lo hi:Nat),hi-lo≤fuel->lo≤hi->hi≤xs.size->(∀i x,i<lo->xs[i]?=some x->x<j)->(∀i x,hi≤i->xs[i]?=some x->j≤x) ->
  below.go xs j fuel lo hi≤xs.size/\(∀i x,i<below.go xs j fuel lo hi->xs[i]?=some x->x<j)/\(∀i x,below.go xs j fuel lo hi≤i->xs[i]?=some x->j≤x)
 |0,lo,hi,hf,hl,hs,h1,h2=>by
  have e:lo=hi:=by lia
  subst e;exact⟨hs,h1,h2⟩
 |fuel+1,lo,hi,hf,hl,hs,h1,h2=>by
  unfold below.go;by_cases hlt:lo<hi
  ·rw[if_pos hlt];dsimp only;have hmid:(lo+hi) / 2<xs.size:=by lia
   have hg:xs.getD ((lo+hi) / 2) j=xs[(lo+hi) / 2]:=by simp[ly,hmid]
   rw[hg];have pw:∀a b x y,a<b->xs[a]?=some x->xs[b]?=some y->x<y:=fun a b x y hab ea eb=>by
    have ha':a<xs.toList.length:=by
     have:=(aG.mp ea).1;simpa using this
    have hb':b<xs.toList.length:=by
     have:=(aG.mp eb).1;simpa using this
    have:=fX.mp hr a b ha' hb' hab;obtain⟨_,e1⟩:=aG.mp ea;obtain⟨_,e2⟩:=aG.mp eb;simpa [e1,e2] using this
   have em:xs[(lo+hi) / 2]?=some xs[(lo+hi) / 2]:=by simp[hmid]
   by_cases hc:xs[(lo+hi) / 2]<j
   ·rw[if_pos hc];refine Cq hr fuel _ hi (by lia) (by lia) hs (fun i x hi' e=>?_) h2;by_cases hi2:i=(lo+hi) / 2
    ·subst hi2;rw[em] at e;cases e;exact hc
    ·exact oI (pw i _ x _ (by lia) e em) hc
   ·rw[if_neg hc];refine Cq hr fuel lo _ (by lia) (by lia) (by lia) h1 (fun i x hi' e=>?_);by_cases hi2:i=(lo+hi) / 2
    ·subst hi2;rw[em] at e;cases e;lia
    ·have:=pw _ i _ x (by lia) em e;lia
  ·rw[if_neg hlt];have e:lo=hi:=by lia
   subst e;exact⟨hs,h1,h2⟩
theorem zy{xs:Array Nat}{j:Nat}(hr:xs.toList.Pairwise (· < ·)):below xs j≤xs.size/\(∀i x,i<below xs j->xs[i]?=some x->x<j)/\(∀i x,below xs j≤i->xs[i]?=some x->j≤x):=
 Cq hr xs.size 0 xs.size (by lia) (by lia) (by lia) (fun i _ h=>by lia) fun i x h e=>by
  have:=(aG.mp e).1;lia
theorem below_at{xs:Array Nat}{j i:Nat}(hr:xs.toList.Pairwise (· < ·))(e:xs[i]?=some j):below xs j=i:=by
 obtain⟨h0,h1,h2⟩:=zy (j:=j) hr;have hi:=(aG.mp e).1;by_cases hlt:i<below xs j
 ·exact absurd (h1 i j hlt e) (cm _)
 ·by_cases hgt:below xs j<i
  ·have hb:below xs j<xs.size:=by lia
   have eb:xs[below xs j]?=some xs[below xs j]:=by simp[hb]
   have q1:=h2 _ _ (Δ _) eb;have pw:=fX.mp hr (below xs j) i (by simpa using hb) (by simpa using hi) hgt;obtain⟨_,e1⟩:=aG.mp e;simp[e1] at pw;lia
  ·lia
end om
namespace om
open PySem PySem.SetTable
structure Tab(t:bC)(hs:List Int):Prop where
 mask:jz t.mask
 size:t.place.size=hs.length
 rise:t.place.toList.Pairwise (· < ·)
 bound:∀j∈t.place.toList,j≤t.mask
 nq:t.dummies = #[]
 room:hs.length*5<t.mask*3
 reach:∀j h,(j,h)∈t.place.toList.zip hs->∃k,(sq t.mask h k).j=j/\∀k',k' < k->(sq t.mask h k').j∈t.place.toList
theorem HM{t:bC}{j i:Nat}(hr:t.place.toList.Pairwise (· < ·))(e:t.place[i]?=some j):t.slot j=.live i:=by
 unfold slot;dsimp only;rw[below_at hr e,e];simp
theorem Q5{t:bC}{j:Nat}(hd:t.dummies = #[])(e:j∉t.place.toList):t.slot j=.empty:=by
 unfold slot;dsimp only;have h1:¬(t.place[below t.place j]?==some j)=true:=by
  intro h;have h':t.place[below t.place j]?=some j:=by simpa using h
  exact e (by
   rw[←aR] at h';exact bW h')
 rw[if_neg h1];have h2:has t.dummies j=false:=by
  rw[hd];rfl
 rw[h2];rfl
theorem Cp:∀(n:Nat) (L:List Nat),(∀e,e<n->e∈L)->n≤L.length
 |0,_,_=>ax _
 |n+1,L,h=>by
  have h1:=h n (kx n);have h2:=Cp n (L.erase n) fun e he=>(List.mem_erase_of_ne (by lia)).mpr (h e (by lia));have h3:=List.length_erase_of_mem h1;have h4:=List.length_pos_of_mem h1;lia
theorem Q4{t:bC}{hs:List Int}(T:Tab t hs)(h:Int):∃ke,ke≤10*t.mask+130/\(sq t.mask h ke).j∉t.place.toList/\∀k,k<ke->(sq t.mask h k).j∈t.place.toList:=by
 -- some slot is empty
 have hex:∃e,e≤t.mask/\e∉t.place.toList:=by
  refine aZ fun hn=>?_;have hall:∀e,e≤t.mask->e∈t.place.toList:=fun e he=>aZ fun q=>hn ⟨e,he,q⟩;have hl:=Cp (t.mask+1) t.place.toList fun e he=>hall e (by lia);have e1:t.place.toList.length=t.place.size:=by simp
  have:=T.size;have:=T.room;lia
 obtain⟨e,he,ne⟩:=hex;obtain⟨k,hk,ek⟩:=comes T.mask h he;have hP:∃k,(sq t.mask h k).j∉t.place.toList:=⟨k,by rw[ek];exact ne⟩
 -- the least one
 have least:∀n,(∃k,k≤n/\(sq t.mask h k).j∉t.place.toList)->∃ke,ke≤n/\(sq t.mask h ke).j∉t.place.toList/\∀k,k<ke->(sq t.mask h k).j∈t.place.toList:=by
  intro n
  induction n with
  |zero=>
   rintro⟨k,hk,q⟩;have:k=0:=by lia
   subst this;exact⟨0,Δ _,q,fun k hk=>by lia⟩
  |succ n ih=>
   rintro⟨k,hk,q⟩;by_cases hp:∃k,k≤n/\(sq t.mask h k).j∉t.place.toList
   ·obtain⟨ke,h1,h2,h3⟩:=ih hp;exact⟨ke,by lia,h2,h3⟩
   ·have hk':k=n+1:=by
     refine aZ fun z=>hp ⟨k,by lia,q⟩
    subst hk';exact⟨n+1,Δ _,q,fun k' hk'=>aZ fun z=>hp ⟨k',by lia,z⟩⟩
 obtain⟨ke,h1,h2,h3⟩:=least k ⟨k,Δ _,by rw[ek];exact ne⟩;exact⟨ke,by lia,h2,h3⟩
inductive Meets(t:bC)(hashAt:Nat->Int)(h:Int)(n ke:Nat):Met->Prop where
 |Ax {k i:Nat} (h1:n≤k) (h2:k<ke) (h3:t.place[i]?=some (sq t.mask h k).j) (h4:hashAt i=h) (h5:∀k' i',n≤k'->k' < k->t.place[i']?=some (sq t.mask h k').j->hashAt i'≠h):
   Meets t hashAt h n ke (.candidate (sq t.mask h k).j i (sq t.mask h (k+1)))
 |free (h1:n≤ke) (h5:∀k' i',n≤k'->k' < ke->t.place[i']?=some (sq t.mask h k').j->hashAt i'≠h):Meets t hashAt h n ke (.empty (sq t.mask h ke).j none)
theorem HL{t:bC}{hashAt:Nat->Int}{h:Int}{ke:Nat}(hr:t.place.toList.Pairwise (· < ·))(hd:t.dummies = #[])(he:(sq t.mask h ke).j∉t.place.toList)(hl:∀k,k<ke->(sq t.mask h k).j∈t.place.toList):
  ∀(fuel n:Nat),n≤ke->ke-n<fuel->∃met,probe.go t hashAt h fuel (sq t.mask h n)=some met/\Meets t hashAt h n ke met
 |0,n,_,hf=>by lia
 |fuel+1,n,hn,hf=>by
  unfold probe.go;by_cases hlast:n=ke
  ·subst hlast;rw[Q5 hd he,HR];exact⟨_,rfl,.free (Δ _) fun k' i' h1 h2=>by lia⟩
  ·have hmem:=hl n (by lia);obtain⟨i,hi⟩:=fY hmem;have hi':t.place[i]?=some (sq t.mask h n).j:=by rw[←aR];exact hi
   rw[HM hr hi'];dsimp only;by_cases hh:hashAt i=h
   ·rw[if_pos (by simpa using hh)];exact⟨_,rfl,.Ax (Δ _) (by lia) hi' hh fun k' i' h1 h2=>by lia⟩
   ·rw[if_neg (by simpa using hh)];obtain⟨met,e,m⟩:=HL (hashAt:=hashAt) hr hd he hl fuel (n+1) (by lia) (by lia);refine⟨met,e,?_⟩;have one:∀i',t.place[i']?=some (sq t.mask h n).j->hashAt i'≠h:=fun i' e'=>by
     have e1:=below_at hr hi';have e2:=below_at hr e';have:i'=i:=by lia
     rw[this];exact hh
    cases m with
    |Ax h1 h2 h3 h4 h5=>
     refine .Ax (by lia) h2 h3 h4 fun k' i' q1 q2 q3=>?_;by_cases hk:k'=n
     ·subst hk;exact one i' q3
     ·exact h5 k' i' (by lia) q2 q3
    |free h1 h5=>
     refine .free (by lia) fun k' i' q1 q2 q3=>?_;by_cases hk:k'=n
     ·subst hk;exact one i' q3
     ·exact h5 k' i' (by lia) q2 q3
theorem RH{t:bC}{hs:List Int}(T:Tab t hs){hashAt:Nat->Int}{h:Int}{ke n:Nat}(hk:ke≤10*t.mask+130)(he:(sq t.mask h ke).j∉t.place.toList)(hl:∀k,k<ke->(sq t.mask h k).j∈t.place.toList)(hn:n≤ke):
  ∃met,t.probe hashAt h (sq t.mask h n)=some met/\Meets t hashAt h n ke met:=by
 unfold probe;exact HL T.rise T.nq he hl _ n hn (by unfold turns;lia)
theorem ug{α:Type}(xs:Array α)(p:Nat)(x:α):(insertAt xs p x).toList=xs.toList.take p++x::xs.toList.drop p:=by
 unfold insertAt;have e:(xs.extract p xs.size).toList=xs.toList.drop p:=by
  rw[rh];simp[List.extract];exact gX (by simp)
 simp[rh,List.extract];exact gX (by simp)
theorem IF{α β:Type}:∀(p:Nat) (xs:List α) (ys:List β) (x:α) (y:β),xs.length=ys.length->((xs.take p++x::xs.drop p).zip (ys.take p++y::ys.drop p)).Perm ((x,y)::xs.zip ys)
 |0,xs,ys,x,y,_=>by simp
 |p+1,[],ys,x,y,h=>by
  have:ys=[]:=oY.mp (by simpa using h.symm);subst this;simp
 |p+1,a::xs,[],x,y,h=>by simp at h
 |p+1,a::xs,b::ys,x,y,h=>by
  have ih:=IF p xs ys x y (by simpa using h);simp only[List.take_succ_cons,List.drop_succ_cons,oP,fH];exact (List.Perm.cons (a,b) ih).trans (List.Perm.swap _ _ _)
theorem vM{α:Type}(p:Nat)(xs:List α)(x:α):(xs.take p++x::xs.drop p).Perm (x::xs):=by
 have:=List.perm_middle (a:=x) (l₁:=xs.take p) (l₂:=xs.drop p);rw[qk] at this;exact this
theorem RF{t:bC}{j:Nat}(hd:t.dummies = #[]):t.put j=({ t with place:=insertAt t.place (below t.place j) j,dummies:=#[]},below t.place j):=by
 unfold put;dsimp only;have h2:has t.dummies j=false:=by
  rw[hd];rfl
 rw[h2];simp[hd]
structure sL(t:bC)(hs:List Int):Prop where
 mask:jz t.mask
 size:t.place.size=hs.length
 rise:t.place.toList.Pairwise (· < ·)
 bound:∀j∈t.place.toList,j≤t.mask
 nq:t.dummies = #[]
 JR:hs.length≤t.mask
 reach:∀j h,(j,h)∈t.place.toList.zip hs->∃k,(sq t.mask h k).j=j/\∀k',k' < k->(sq t.mask h k').j∈t.place.toList
theorem IE{m:Nat}(hm:jz m)(h:Int):∀k,(sq m h k).j≤m/\(sq m h k).j+(sq m h k).more≤m:=by
 have hrun:∀i,i≤m->runEnd m i≤m:=fun i hi=>by
  unfold runEnd;split<;>lia
 have hrs:∀q:Nat×Nat,q.1≤m->(rs m q).j≤m/\(rs m q).j+(rs m q).more≤m:=fun q hq=>by
  have:=hrun q.1 hq;have h2:q.1≤runEnd m q.1:=by unfold runEnd;split<;>lia
  show q.1≤m/\q.1+(runEnd m q.1-q.1)≤m;lia
 intro k
 induction k with
 |zero=>exact hrs _ (by show bits h%(m+1)≤m;have:bits h%(m+1)<m+1:=lg (bits h) (oF m);lia)
 |succ k ih=>
  show (sJ m (sq m h k)).j≤m/\(sJ m (sq m h k)).j+(sJ m (sq m h k)).more≤m;unfold sJ;by_cases hc:(sq m h k).more > 0
  ·rw[if_pos hc];show (sq m h k).j+1≤m/\(sq m h k).j+1+((sq m h k).more-1)≤m;lia
  ·rw[if_neg hc];have hlt:(leap m (sq m h k).i (sq m h k).perturb).1≤m:=by
    show ((sq m h k).i*5+1+(sq m h k).perturb / 32)%(m+1)≤m;have:((sq m h k).i*5+1+(sq m h k).perturb / 32)%(m+1)<m+1:=lg _ (oF m);lia
   exact hrs (leap m (sq m h k).i (sq m h k).perturb) hlt
theorem Tab.put{t:bC}{hs:List Int}(T:Tab t hs){h:Int}{ke:Nat}(he:(sq t.mask h ke).j∉t.place.toList)(hl:∀k,k<ke->(sq t.mask h k).j∈t.place.toList):
  sL { t with place:=insertAt t.place (below t.place (sq t.mask h ke).j) (sq t.mask h ke).j,dummies:=#[]} (hs.take (below t.place (sq t.mask h ke).j)++h::hs.drop (below t.place (sq t.mask h ke).j)):=by
 obtain⟨b0,b1,b2⟩:=zy (j:=(sq t.mask h ke).j) T.rise;have hlen:t.place.toList.length=hs.length:=by simpa using T.size
 have hmem:∀x,x∈(insertAt t.place (below t.place (sq t.mask h ke).j) (sq t.mask h ke).j).toList↔x=(sq t.mask h ke).j∨x∈t.place.toList:=fun x=>by
  rw[ug,(vM _ t.place.toList _).mem_iff,aa]
 refine⟨T.mask,?_,?_,fun j hj=>?_,rfl,?_,fun j h' hj=>?_⟩
 ·show (insertAt t.place (below t.place (sq t.mask h ke).j) (sq t.mask h ke).j).size=_;have e1:(insertAt t.place (below t.place (sq t.mask h ke).j) (sq t.mask h ke).j).size=(insertAt t.place (below t.place (sq t.mask h ke).j) (sq t.mask h ke).j).toList.length:=by simp
  rw[e1,ug,(vM _ t.place.toList _).length_eq,(vM _ hs _).length_eq];simp only[ak];lia
 ·show (insertAt t.place (below t.place (sq t.mask h ke).j) (sq t.mask h ke).j).toList.Pairwise (· < ·);rw[ug];refine lh.mpr ⟨T.rise.sublist (m8 _ _),mx.mpr ⟨fun x hx=>?_,T.rise.sublist (List.drop_sublist _ _)⟩,fun a ha b hb=>?_⟩
  ·obtain⟨i,hi⟩:=fY hx;rw[sZ] at hi;have q:=b2 (below t.place (sq t.mask h ke).j+i) x (by lia) (by rw[←aR];exact hi);have ne:x≠(sq t.mask h ke).j:=fun e=>he (e▸bW hi);lia
  ·obtain⟨i,hi⟩:=fY ha;have hil:i<below t.place (sq t.mask h ke).j:=by
    have:=(aN.mp hi).1;rw[dN] at this;lia
   rw[oN hil] at hi;have qa:=b1 i a hil (by rw[←aR];exact hi);rcases aa.mp hb with e|hb
   ·rw[e];exact qa
   ·obtain⟨i2,hi2⟩:=fY hb;rw[sZ] at hi2;have q:=b2 (below t.place (sq t.mask h ke).j+i2) b (by lia) (by rw[←aR];exact hi2);lia
 ·rcases (hmem j).mp hj with e|e
  ·rw[e];exact (IE T.mask h ke).1
  ·exact T.bound j e
 ·rw[(vM _ hs _).length_eq];have:=T.room;rcases T.mask with e|e|e<;>(simp only[ak];show _≤t.mask;lia)
 ·have hp:(j,h')∈(t.place.toList.take (below t.place (sq t.mask h ke).j)++(sq t.mask h ke).j::t.place.toList.drop (below t.place (sq t.mask h ke).j)).zip
    (hs.take (below t.place (sq t.mask h ke).j)++h::hs.drop (below t.place (sq t.mask h ke).j)):=by
   rw[←ug];exact hj
  rw[(IF _ _ _ _ _ hlen).mem_iff] at hp;rcases aa.mp hp with e|e
  ·cases e;exact⟨ke,rfl,fun k' hk'=>(hmem _).mpr (.inr (hl k' hk'))⟩
  ·obtain⟨k,e1,e2⟩:=T.reach j h' e;exact⟨k,e1,fun k' hk'=>(hmem _).mpr (.inr (e2 k' hk'))⟩
theorem sL.tab{t:bC}{hs:List Int}(T:sL t hs)(h:t.tooFull=false):Tab t hs:=by
 refine⟨T.mask,T.size,T.rise,T.bound,T.nq,?_,T.reach⟩;have h':¬(t.fill*5≥t.mask*3):=by simpa [tooFull] using h
 have e:t.fill=hs.length:=by
  unfold fill;rw[T.size,T.nq];rfl
 rw[e] at h';lia
end om
namespace om
open PySem PySem.SetTable
def Taken(ow:Array (Option Nat))(j:Nat):Prop:=∃k,ow[j]?=some (some k)
theorem Co{ow:Array (Option Nat)}{j:Nat}(hj:j<ow.size):(ow.getD j (some 0)).isNone=true↔¬Taken ow j:=by
 have e:ow.getD j (some 0)=ow[j]:=by simp[ly,hj]
 rw[e];unfold Taken;rw[nF hj];cases ow[j] with
 |none=>simp
 |some k=>simp
theorem ID{m:Nat}(hm:jz m){h:Int}{ow:Array (Option Nat)}(hs:ow.size=m+1):∀(fuel r n:Nat),sq m h n=rs m (rn m h r)->(∀k,k<n->Taken ow (sq m h k).j) ->
  (∃r',r≤r'/\r' < r+fuel/\¬Taken ow (rn m h r').1)->∃ke,layClean.free m ow fuel (rn m h r).1 (rn m h r).2=some (sq m h ke).j/\¬Taken ow (sq m h ke).j/\∀k,k<ke->Taken ow (sq m h k).j
 |0,r,n,_,_,hx=>by
  obtain⟨r',h1,h2,_⟩:=hx;lia
 |fuel+1,r,n,hn,hk,hx=>by
  have hi:=Cr m h r;have hre:runEnd m (rn m h r).1≤m:=by unfold runEnd;split<;>lia
  have hre2:(rn m h r).1≤runEnd m (rn m h r).1:=by unfold runEnd;split<;>lia
  have at_d:∀d,d≤runEnd m (rn m h r).1-(rn m h r).1->(sq m h (n+d)).j=(rn m h r).1+d:=fun d hd=>by
   rw[Ct m h n _ hn d hd]
  unfold layClean.free;cases hf:(aO (runEnd m (rn m h r).1+1-(rn m h r).1)).find? (fun k=>(ow.getD ((rn m h r).1+k) (some 0)).isNone) with
  |some k=>
   obtain⟨p1,p2,p3⟩:=List.find?_range_eq_some.mp hf;have hkr:=cg.mp p2;refine⟨n+k,?_,?_,fun k' hk'=>?_⟩
   ·rw[at_d k (by lia)]
   ·rw[at_d k (by lia)];exact (Co (by lia)).mp p1
   ·by_cases hlt:k' < n
    ·exact hk k' hlt
    ·obtain⟨d,rfl⟩:∃d,k'=n+d:=⟨k' - n,by lia⟩;rw[at_d d (by lia)];have q:=p3 d (by lia);refine aZ fun z=>?_;rw[(Co (by lia)).mpr z] at q;cases q
  |none=>
   have hnone:=List.find?_eq_none.mp hf;have occ:∀d,d≤runEnd m (rn m h r).1-(rn m h r).1->Taken ow ((rn m h r).1+d):=fun d hd=>
    aZ fun z=>hnone d (cg.mpr (by lia)) ((Co (by lia)).mpr z)
   refine ID hm hs fuel (r+1) (n+(runEnd m (rn m h r).1-(rn m h r).1)+1) (HQ m h n _ hn) (fun k hk'=>?_) ?_
   ·by_cases hlt:k<n
    ·exact hk k hlt
    ·obtain⟨d,rfl⟩:∃d,k=n+d:=⟨k-n,by lia⟩;rw[at_d d (by lia)];exact occ d (by lia)
   ·obtain⟨r',h1,h2,h3⟩:=hx;refine⟨r',?_,by lia,h3⟩;have:r'≠r:=fun e=>h3 (by
     rw[e];have:=occ 0 (ax _);simpa using this)
    lia
structure t6(m:Nat)(ow:Array (Option Nat))(l:List Int):Prop where
 size:ow.size=m+1
 all:∀(k:Nat),k<l.length->∃j:Nat,ow[j]?=some (some k)
 one:∀(j j' k:Nat),ow[j]?=some (some k)->ow[j']?=some (some k)->j=j'
 reach:∀(j k:Nat),ow[j]?=some (some k)->∃h,l[k]?=some h/\∃n,(sq m h n).j=j/\∀n',n' < n->Taken ow (sq m h n').j
theorem t6.nil(m:Nat):t6 m (Array.replicate (m+1) none) []:=by
 have hno:∀(j k:Nat),¬(Array.replicate (m+1) (none:Option Nat))[j]?=some (some k):=fun j k e=>by
  rw[Array.getElem?_replicate] at e;split at e<;>simp at e
 exact⟨by simp,fun k hk=>by simp at hk,fun j j' k e=>absurd e (hno j k),fun j k e=>absurd e (hno j k)⟩
theorem t6.room{m:Nat}{ow:Array (Option Nat)}{l:List Int}(O:t6 m ow l)(hl:l.length≤m):∃e,e≤m/\¬Taken ow e:=by
 refine aZ fun hn=>?_;have hall:∀e,e≤m->Taken ow e:=fun e he=>aZ fun q=>hn ⟨e,he,q⟩;obtain⟨g,hg⟩:∃g:Nat->Nat,∀k,k<l.length->ow[g k]?=some (some k):=by
  refine⟨fun k=>if q:k<l.length then (O.all k q).choose else 0,fun k hk=>?_⟩;dsimp only;rw[dif_pos hk];exact (O.all k hk).choose_spec
 have hlen:=Cp (m+1) ((aO l.length).map g) fun e he=>by
  obtain⟨k,hk⟩:=hall e (by lia);obtain⟨h,e1,_⟩:=O.reach e k hk;have hkl:=(aN.mp e1).1;exact aX.mpr ⟨k,cg.mpr hkl,O.one _ _ k (hg k hkl) hk⟩
 simp at hlen;lia
theorem t6.add{m:Nat}(hm:jz m){ow:Array (Option Nat)}{l:List Int}{h:Int}(O:t6 m ow l)(hl:l.length≤m):
  ∃j,layClean.free m ow (turns m) (bits h%(m+1)) (bits h)=some j/\t6 m (ow.setIfInBounds j (some l.length)) (l++[h]):=by
 obtain⟨e,he,ne⟩:=O.room hl;obtain⟨n0,hn0,en0⟩:=A4 hm (Cr m h 13) (show e<m+1 by lia);obtain⟨ke,h1,h2,h3⟩:=ID hm (h:=h) O.size (turns m) 0 0 rfl (fun k hk=>by lia) ⟨13+n0,by lia,by unfold turns;lia,by rw[Cs,en0];exact ne⟩;refine⟨(sq m h ke).j,h1,?_⟩;have hj:(sq m h ke).j<ow.size:=by
  have:=(IE hm h ke).1;rw[O.size];lia
 have hget:∀j:Nat,(ow.setIfInBounds (sq m h ke).j (some l.length))[j]?=if (sq m h ke).j=j then some (some l.length) else ow[j]?:=fun j=>by
  rw[Array.getElem?_setIfInBounds];by_cases e:(sq m h ke).j=j
  ·rw[if_pos e,if_pos e,if_pos (by lia)]
  ·rw[if_neg e,if_neg e]
 have tk:∀j,Taken ow j->Taken (ow.setIfInBounds (sq m h ke).j (some l.length)) j:=fun j ⟨k,hk⟩=>by
  unfold Taken;rw[hget];by_cases e:(sq m h ke).j=j
  ·exact⟨_,if_pos e⟩
  ·exact⟨k,by rw[if_neg e];exact hk⟩
 have lt_of:∀j k:Nat,ow[j]?=some (some k)->k<l.length:=fun j k e=>by
  obtain⟨h',e1,_⟩:=O.reach j k e;exact (aN.mp e1).1
 refine⟨by rw[Array.size_setIfInBounds];exact O.size,fun k hk=>?_,fun j j' k q q'=>?_,fun j k q=>?_⟩
 ·rw[ar,ir] at hk;by_cases hkl:k<l.length
  ·obtain⟨j,hj'⟩:=O.all k hkl;refine⟨j,?_⟩;rw[hget,if_neg (fun e=>h2 ⟨k,by rw[e];exact hj'⟩)];exact hj'
  ·have:k=l.length:=by lia
   exact⟨(sq m h ke).j,by rw[hget,if_pos rfl,this]⟩
 ·rw[hget] at q q';by_cases e:(sq m h ke).j=j
  ·rw[if_pos e] at q;by_cases e':(sq m h ke).j=j'
   ·lia
   ·rw[if_neg e'] at q';cases q;exact absurd (lt_of _ _ q') (cm _)
  ·rw[if_neg e] at q;by_cases e':(sq m h ke).j=j'
   ·rw[if_pos e'] at q';cases q';exact absurd (lt_of _ _ q) (cm _)
   ·rw[if_neg e'] at q';exact O.one j j' k q q'
 ·rw[hget] at q;by_cases e:(sq m h ke).j=j
  ·rw[if_pos e] at q;cases q;exact⟨h,by simp,ke,e,fun n' hn'=>tk _ (h3 n' hn')⟩
  ·rw[if_neg e] at q;obtain⟨h',e1,n,e2,e3⟩:=O.reach j k q;exact⟨h',by rw[eR (lt_of j k q)];exact e1,n,e2,fun n' hn'=>tk _ (e3 n' hn')⟩
theorem IC{m:Nat}(hm:jz m):∀(l' l:List Int) (ow:Array (Option Nat)),t6 m ow l->l.length+l'.length≤m+1 ->
  ∃ow',(l'.foldl (fun (acc:Option (Array (Option Nat)×Nat)) h=>do
   let (owner,k) ←acc
   let j ←layClean.free m owner (turns m) (bits h%(m+1)) (bits h)
   pure (owner.setIfInBounds j (some k),k+1)) (some (ow,l.length)))=some (ow',(l++l').length)/\t6 m ow' (l++l')
 |[],l,ow,O,_=>⟨ow,by simp,by simpa using O⟩
 |h::l',l,ow,O,hl=>by
  rw[ak] at hl
  obtain⟨j,e,O'⟩:=O.add hm (h:=h) (by lia)
  obtain⟨ow',e2,O2⟩:=IC hm l' (l++[h]) _ O' (by simp;lia)
  refine⟨ow',?_,by simpa using O2⟩
  rw[pk]
  have hs:(do
   let (owner,k) ←(some (ow,l.length):Option (Array (Option Nat)×Nat))
   let j ←layClean.free m owner (turns m) (bits h%(m+1)) (bits h)
   pure (owner.setIfInBounds j (some k),k+1))=some (ow.setIfInBounds j (some l.length),(l++[h]).length):=by
   show (do
    let j ←layClean.free m ow (turns m) (bits h%(m+1)) (bits h)
    pure (ow.setIfInBounds j (some l.length),l.length+1))=_
   rw[e]
   simp
  rw[hs,e2]
  simp
theorem Cn{α:Type}:∀l:List α,((aO l.length).filterMap fun k=>l[k]?)=l
 |[]=>rfl
 |a::l=>by
  rw[ak,ka,jo (b:=a) (by simp),jn];have ih:=Cn l;congr 1
theorem RE{α:Type}(xs:Array α):((aO xs.size).filterMap fun k=>xs[k]?)=xs.toList:=by
 have:=Cn xs.toList;simpa using this
theorem RD{m finger moves:Nat}{led plain:Bool}(hm:jz m)(hs:Array Int)(hl:hs.size*5<m*3):
  ∃t order,laid m finger moves led plain hs=some (t,order)/\t.mask=m/\t.led=led/\t.plain=plain/\t.finger=finger/\order.toList.Perm (aO hs.size)/\Tab t (order.toList.filterMap fun k=>hs[k]?):=by
 obtain⟨ow,e,O⟩:=IC hm hs.toList [] _ (t6.nil m) (by simp;lia);rw[ey] at e O;have hlc:layClean m hs=some ow:=by
  unfold layClean;rw[←Array.foldl_toList];have e':=congrArg (qY fun x:Array (Option Nat)×Nat=>x.1) e;exact e'
 have hmem:∀j k,(j,k)∈((aO (m+1)).filterMap fun j=>(ow.getD j none).map (j,·))↔ow[j]?=some (some k):=fun j k=>by
  rw[my];constructor
  ·rintro⟨a,ha,q⟩;have ha':=cg.mp ha;cases ho:ow.getD a none with
   |none=>rw[ho] at q;cases q
   |some k'=>
    rw[ho] at q;cases q;have:ow.getD j none=ow[j]'(by rw[O.size];exact ha'):=by simp[ly,O.size,ha']
    rw[this] at ho;rw[nF (by rw[O.size];exact ha'),ho]
  ·intro q;have hj:=(aG.mp q).1;rw[O.size] at hj;refine⟨j,cg.mpr hj,?_⟩;have:ow.getD j none=some k:=by
    rw[Array.getD_eq_getD_getElem?,q];rfl
   rw[this];rfl
 generalize hL:((aO (m+1)).filterMap fun j=>(ow.getD j none).map (j,·))=L at hmem;have rise:L.Pairwise fun a b=>a.1<b.1:=by
  rw[←hL];refine List.Pairwise.filterMap _ (fun a a' hlt b hb b' hb'=>?_) (List.pairwise_lt_range (n:=m+1));cases ho:ow.getD a none with
  |none=>rw[ho] at hb;cases hb
  |some k=>
   rw[ho] at hb;cases hb;cases ho':ow.getD a' none with
   |none=>rw[ho'] at hb';cases hb'
   |some k'=>
    rw[ho'] at hb';cases hb';exact hlt
 have nd:(L.map (·.2)).Nodup:=by
  refine tX _ (R:=fun a b=>a.2≠b.2) (fun _ _ z=>z) ?_;refine List.Pairwise.imp_of_mem (fun {a b} ha hb hab=>?_) rise;intro q;obtain⟨j,k⟩:=a;obtain⟨j',k'⟩:=b;have ea:=(hmem j k).mp ha;have eb:=(hmem j' k').mp hb;have hab':j<j':=hab;have q':k=k':=q;subst q';have:=O.one j j' k ea eb;lia
 have hperm:(L.map (·.2)).Perm (aO hs.size):=by
  refine (List.perm_ext_iff_of_nodup nd List.nodup_range).mpr fun k=>?_;rw[aX,cg];constructor
  ·rintro⟨⟨j,k'⟩,hjk,rfl⟩;obtain⟨h,e1,_⟩:=O.reach j k' ((hmem j k').mp hjk);have:=(aN.mp e1).1;simpa using this
  ·intro hk;obtain⟨j,ej⟩:=O.all k (by simpa using hk);exact⟨(j,k),(hmem j k).mpr ej,rfl⟩
 -- the hashes in the slots' order
 have hzip:∀j h,(j,h)∈(L.map (·.1)).zip ((L.map (·.2)).filterMap fun k=>hs[k]?)->∃k,(j,k)∈L/\hs[k]?=some h:=by
  have hall:∀p∈L,∃h,hs[p.2]?=some h:=fun p hp=>by
   obtain⟨h,e1,_⟩:=O.reach p.1 p.2 ((hmem p.1 p.2).mp hp);exact⟨h,by rw[←aR];exact e1⟩
  clear hmem rise nd hperm hL
  induction L with
  |nil=>intro j h q;cases q
  |cons p L ih=>
   intro j h q;obtain⟨h0,e0⟩:=hall p ψ;rw[cN,cN,jo e0,fH] at q;rcases aa.mp q with q|q
   ·cases q;exact⟨p.2,ψ,e0⟩
   ·obtain⟨k,q1,q2⟩:=ih (fun p hp=>hall p (ω _ hp)) j h q;exact⟨k,ω _ q1,q2⟩
 have hlenL:((L.map (·.2)).filterMap fun k=>hs[k]?).length=L.length:=by
  have h1:=(hperm.filterMap fun k=>hs[k]?).length_eq;rw[RE] at h1;have h3:=hperm.length_eq;rw[ο,fe] at h3;rw[h1,h3];simp
 refine⟨_,_,by unfold laid;rw[hlc];rfl,rfl,rfl,rfl,rfl,?_,?_⟩
 ·rw[hL];exact hperm
 ·rw[hL];have hlen:L.length=hs.size:=by
   have:=hperm.length_eq;simpa using this
  refine⟨hm,?_,?_,fun j hj=>?_,rfl,?_,fun j h hj=>?_⟩
  ·rw[hlenL];simp
  ·exact tX _ (fun _ _ z=>z) rise
  ·obtain⟨⟨j',k⟩,hp,rfl⟩:=aX.mp hj;have:=(aG.mp ((hmem j' k).mp hp)).1;rw[O.size] at this;show j'≤m;lia
  ·rw[hlenL,hlen];exact hl
  ·obtain⟨k,q1,q2⟩:=hzip j h hj;obtain⟨h',e1,n,e2,e3⟩:=O.reach j k ((hmem j k).mp q1);have eh:h'=h:=by
    rw[aR,q2] at e1;exact (ao e1).symm
   subst eh;refine⟨n,e2,fun n' hn'=>?_⟩;obtain⟨k',hk'⟩:=e3 n' hn';exact aX.mpr ⟨(_,k'),(hmem _ k').mpr hk',rfl⟩
end om
namespace jc
open PySem om
section
variable {prog:Ω} {w:aj} {A:aB} {E:ε->θ->Prop} {s:θ}
abbrev hk(prog:Ω)(w:aj)(ks:List Int):Int:=tupleKeyHash (intKind prog w) ks
abbrev iL(prog:Ω)(w:aj)(h:af)(ks:List Int)(a:ζ):Prop:=IsTupleKey (intKind prog w) h ks a
def ent(prog:Ω)(w:aj)(p:List Int×ζ):Int×ε:=(hk prog w p.1,.ref p.2)
structure lZ(prog:Ω)(w:aj)(h:af)(a:ζ)(o:aL)(es:Array (Int×ε))(ep:Nat)(t:bC)(xs:List (List Int×ζ)):Prop where
 at_:h.get? a=some o
 ex:o.ExactSet
 dat:o.data=.set es ep t
 ents:es.toList=xs.map (ent prog w)
 keys:∀p∈xs,iL prog w h p.1 p.2
 nd:(xs.map (·.1)).Nodup
 plain:t.plain=true
 led:t.led = !(w.params.followText "set-order")
structure kT(w:aj)(h:af)(a:ζ)(o:aL)(es:Array (Int×ε))(ep:Nat)(t:bC):Prop where
 at_:h.get? a=some o
 ex:o.ExactSet
 dat:o.data=.set es ep t
 plain:t.plain=true
 led:t.led = !(w.params.followText "set-order")
theorem lZ.wk{prog:Ω}{w:aj}{h:af}{a:ζ}{o:aL}{es:Array (Int×ε)}{ep:Nat}{t:bC}{xs:List (List Int×ζ)}(S:lZ prog w h a o es ep t xs):kT w h a o es ep t:=⟨S.at_,S.ex,S.dat,S.plain,S.led⟩
theorem xG{es:Array (Int×ε)}:(es.toList.map (·.1)).length=es.size:=by simp
theorem uf{es:Array (Int×ε)}{t:bC}(T:sL t (es.toList.map (·.1))):t.fits es.size=true:=by
 unfold bC.fits;have h1:=T.size;rw[xG] at h1;have h2:=T.JR;rw[xG] at h2;have h3:t.fill=es.size:=by
  unfold bC.fill;rw[h1,T.nq];rfl
 rw[h3,h1];simp;exact h2
theorem Tab.r{t:bC}{hs:List Int}(T:Tab t hs):sL t hs:=by
 refine⟨T.mask,T.size,T.rise,T.bound,T.nq,?_,T.reach⟩;have:=T.room;lia
theorem RC{t:bC}(h:jz t.mask):t.gaveWay=false:=by
 unfold bC.gaveWay;rcases h with e|e|e<;>rw[e]<;>rfl
theorem RB(n:Nat){v:ε}(h:carriedByValue v=true):ofAClassStatement n v=pure false:=by
 cases v with
 |ref a=>simp[carriedByValue] at h
 |_=>first|rfl|(cases n<;>rfl)
theorem IB{ks:List Int}{a:ζ}{Q:Bool->θ->Prop}(hx:iL prog w s.heap ks a)(h:Q false s):π (model prog w) A (ofAClassStatement 8 (.ref a)) Q E s:=by
 have hT:=hx.typeIs;obtain⟨o,items,n,ho,hc,hd,hi⟩:=hx;unfold ofAClassStatement;refine δ (jh hT ?_);dsimp only;rw[if_pos (by decide)];refine δ (ν ?_);rw[if_neg (by decide)];refine δ (dO ho hd ?_);dsimp only;refine δ ?_;rw[←tj];refine iC _ (fun rest r s'=>r.1=none/\s'=s/\∀v∈rest,carriedByValue v=true) _ ?_ ?_ _ _ ⟨rfl,rfl,hi.byValue⟩
 ·rintro v rest r s' ⟨hr,rfl,hall⟩;rw[RB _ (hall v ψ)];refine δ (ν ?_);rw[if_neg au];exact ν ⟨rfl,rfl,fun u hu'=>hall u (ω _ hu')⟩
 ·rintro⟨r1,r2⟩ s' ⟨hr,rfl,_⟩;simp only at hr;subst hr;exact ν h
theorem RA{ks:List Int}{a:ζ}{Q:Bool->θ->Prop}(hx:iL prog w s.heap ks a)(l:List ε)(hl:∀v∈l,∃k y,v=.ref y/\iL prog w s.heap k y)(h:Q false s):
  π (model prog w) A (searchCouldBeSeen (.ref a) l) Q E s:=by
 unfold searchCouldBeSeen;refine δ ?_;refine iC _ (fun rest r s'=>r.1=none/\s'=s/\∀v∈rest,∃k y,v=.ref y/\iL prog w s.heap k y) _ ?_ ?_ _ _ ⟨rfl,rfl,hl⟩
 ·rintro v rest r s' ⟨hr,rfl,hall⟩;obtain⟨k,y,rfl,hy⟩:=hall v ψ;have hrest:∀v∈rest,∃k y,v=aQ y/\iL prog w s'.heap k y:=fun v hv=>hall v (ω _ hv);dsimp only;by_cases hc:((a==y)||(carriedByValue (.ref a)&&carriedByValue (.ref y)))=true
  ·rw[if_pos hc];exact ν ⟨rfl,rfl,hrest⟩
  ·rw[if_neg hc];refine δ (wpAny_eqIsQuiet_tuple hx ?_);rw[if_neg (by decide)];refine δ (wpAny_eqIsQuiet_tuple hy ?_);rw[if_neg (by decide)];refine δ (IB hx ?_);rw[if_neg au];refine δ (IB hy ?_);rw[if_neg au];exact ν ⟨rfl,rfl,hrest⟩
 ·rintro⟨r1,r2⟩ s' ⟨hr,rfl,_⟩;simp only at hr;subst hr;exact ν h
theorem Rz{ks:List Int}{a:ζ}{Q:Bool->θ->Prop}(hx:iL prog w s.heap ks a)(h:Q true s):π (model prog w) A (hashByValue 8 (.ref a)) Q E s:=by
 have hT:=hx.typeIs;obtain⟨o,items,n,ho,hc,hd,hi⟩:=hx;unfold hashByValue;refine δ (wpAny_specialOf hT F.slot_tuple_hash.lookup ?_);dsimp only;refine δ (dO ho hd ?_);refine δ ?_;show π _ _ (forIn items _ _) _ _ s;rw[←tj];refine iC _ (fun rest r s'=>r.1=none/\s'=s/\∃l,ItemsAre (intKind prog w) l rest) _ ?_ ?_ _ _ ⟨rfl,rfl,ks,hi⟩
 ·rintro v rest r s' ⟨hr,rfl,l,hl⟩;cases hl with
  |@cons k v' _ _ h1 h2=>
   obtain⟨tk,rfl⟩:=g8 (k:=k) h1;have e:hashByValue 7 (.int k tk)=pure true:=by rfl
   rw[e];refine δ (ν ?_);rw[if_neg (by decide)];exact ν ⟨rfl,rfl,_,h2⟩
 ·rintro⟨r1,r2⟩ s' ⟨hr,rfl,_⟩;simp only at hr;subst hr;exact ν h
theorem Ry{es:Array (Int×ε)}{xs:List (List Int×ζ)}(he:es.toList=xs.map (ent prog w)){i:Nat}(hi:i<es.size):∃p,xs[i]?=some p/\es[i]?=some (ent prog w p):=by
 have hl:xs.length=es.size:=by
  have:=congrArg gY he;simpa using this.symm
 obtain⟨p,hp⟩:∃p,xs[i]?=some p:=⟨xs[i]'(by lia),bu (by lia)⟩;refine⟨p,hp,?_⟩;rw[←aR,he,aS,hp];rfl
theorem Iz{a:ζ}{o:aL}{es:Array (Int×ε)}{ep:Nat}{t:bC}{xs:List (List Int×ζ)}(S:lZ prog w s.heap a o es ep t xs)(T:Tab t (es.toList.map (·.1)))(hu:A.units<cLine)
  {ks:List Int} {x:ζ} (hx:iL prog w s.heap ks x) {ke:Nat} (hke:ke≤10*t.mask+130) (hemp:(sq t.mask (hk prog w ks) ke).j∉t.place.toList) (hliv:∀k,k<ke->(sq t.mask (hk prog w ks) k).j∈t.place.toList)
  {Q:SetFound->θ->Prop} (hin:ks∈xs.map (·.1)->Q (.there none) s) (hout:ks∉xs.map (·.1)->Q (.free (sq t.mask (hk prog w ks) ke).j false) s):
  ∀(fuel n:Nat) (stand:Option bC.Probe),stand.getD (t.probeStart (hk prog w ks))=sq t.mask (hk prog w ks) n->n≤ke->ke-n<fuel ->
   (∀(k' i':Nat) p,k' < n->t.place[i']?=some (sq t.mask (hk prog w ks) k').j->xs[i']?=some p->p.1≠ks) ->
   π (model prog w) A (setSearchFrom a (.ref x) (hk prog w ks) true fuel stand) Q E s
 |0,n,stand,_,_,hf,_=>by lia
 |fuel+1,n,stand,hst,hn,hf,hprev=>by
  have gy:t.place.size=es.size:=by
   have:=T.size
   rw[xG] at this
   exact this
  have hfit:=uf (Tab.r T)
  have hal:∀(i:Nat) (p:List Int×ζ),xs[i]?=some p->((es[i]?).map fun z:Int×ε=>z.1).getD 0=hk prog w p.1:=fun i p hp=>by
   rw[←aR,S.ents,aS,hp]
   rfl
  unfold setSearchFrom
  refine δ (da S.at_ S.dat hfit ?_)
  dsimp only
  rw[RC T.mask,if_neg au,hst]
  obtain⟨met,e,m⟩:=RH T (hashAt:=fun i=>((es[i]?).map fun z:Int×ε=>z.1).getD 0) hke hemp hliv hn
  erw [e]
  dsimp only
  cases m with
  |free h1 h5=>
   dsimp only
   refine ν (hout fun hmem=>?_)
   obtain⟨p,hp,rfl⟩:=aX.mp hmem
   obtain⟨i,hi⟩:=fY hp
   have hil:i<es.size:=by
    have h1:=(aN.mp hi).1
    have h2:=congrArg gY S.ents
    simp at h2
    lia
   have hj:∃j,t.place[i]?=some j:=⟨t.place[i]'(by lia),by simp⟩
   obtain⟨j,hj⟩:=hj
   have hz:(j,hk prog w p.1)∈t.place.toList.zip (es.toList.map (·.1)):=by
    refine bW (i:=i) ?_
    rw[List.getElem?_zip_eq_some]
    refine⟨by rw[aR];exact hj,?_⟩
    rw[S.ents,fI,aS,hi]
    rfl
   obtain⟨k,hk1,hk2⟩:=T.reach _ _ hz
   have hkke:k<ke:=by
    refine aZ fun z=>hemp ?_
    by_cases q:k=ke
    ·rw[←q,hk1]
     exact bW (by rw[aR];exact hj)
    ·exact hk2 ke (by lia)
   rw[←hk1] at hj
   by_cases hkn:k<n
   ·exact hprev k i p hkn hj hi rfl
   ·exact h5 k i (by lia) hkke hj (hal i p hi)
  |@Ax k i h1 h2 h3 h4 h5=>
   dsimp only
   have hil:i<es.size:=by
    have:=(aG.mp h3).1
    lia
   obtain⟨p,hp,hesi⟩:=Ry S.ents hil
   have hyk:=S.keys p (bW hp)
   have hpk:p∈xs:=bW hp
   have go:π (model prog w) A (do
     let some (_,y):=es[i]? | unsupported "internal:set-entry"
     let equal ←holding [y] (eqBool y (.ref x))
     let (es',_,t') ←setState a
     if true&&equal then return .there none
     let some same:=t'.sameMemory t.moves t.mask|unsupported "set.changed-during-lookup:is-the-new-block-at-the-old-address"
     let still ←match (if same then t'.slot (sq t.mask (hk prog w ks) k).j else .empty) with
      |.live i'=>match es'[i']? with
       |some (_,y')=>do pure (if ←isSame y' y then some i' else none)
       |none=>pure none
      |_=>pure none
     match still with
     |none=>rule "set.search.anew";setSearchFrom a (.ref x) (hk prog w ks) true fuel none
     | some i'=>if equal then return .there (some i') else setSearchFrom a (.ref x) (hk prog w ks) true fuel (some (sq t.mask (hk prog w ks) (k+1)))) Q E s:=by
    rw[hesi]
    dsimp only[ent]
    refine δ (bU (wpAny_eqBool_tuple hu hyk hx ?_))
    refine δ (da S.at_ S.dat hfit ?_)
    dsimp only
    by_cases heq:p.1=ks
    ·rw[decide_eq_true heq,if_pos (by decide)]
     exact ν (hin (aX.mpr ⟨p,hpk,heq⟩))
    ·rw[decide_eq_false heq,if_neg (by decide)]
     have hsm:t.sameMemory t.moves t.mask=some true:=by unfold bC.sameMemory;simp
     rw[hsm]
     dsimp only
     rw[if_pos rfl,HM T.rise h3]
     dsimp only
     rw[hesi]
     dsimp only[ent]
     refine δ (wpAny_isSame_ref_self ?_)
     rw[if_pos rfl]
     refine δ (ν ?_)
     dsimp only
     rw[if_neg au]
     refine Iz S T hu hx hke hemp hliv hin hout fuel (k+1) _ rfl (by lia) (by lia) fun k' i' p' hk' hpl hp'=>?_
     by_cases hkn:k' < n
     ·exact hprev k' i' p' hkn hpl hp'
     ·by_cases hkk:k'=k
      ·subst hkk
       have e1:=below_at T.rise h3
       have e2:=below_at T.rise hpl
       have:i'=i:=by lia
       subst this
       rw[hp] at hp'
       cases hp'
       exact heq
      ·intro he
       exact h5 k' i' (by lia) (by lia) hpl (by rw[hal i' p' hp',he])
   by_cases hled:t.led=true
   ·rw[hled]
    rw[if_neg (by decide)]
    exact go
   ·have hled':t.led=false:=by simpa using hled
    rw[hled']
    rw[if_pos (by decide)]
    refine δ (RA hx _ (fun v hv=>?_) ?_)
    ·obtain⟨e0,he0,rfl⟩:=aX.mp hv
     have he1:e0∈es.toList:=by
      have:=gb.mp he0
      exact gb.mpr (Array.mem_filter.mp this).1
     rw[S.ents] at he1
     obtain⟨p0,hp0,rfl⟩:=aX.mp he1
     exact⟨p0.1,p0.2,rfl,S.keys p0 hp0⟩
    ·rw[if_neg au]
     exact go
end
end jc
namespace jc
open PySem om
section
variable {prog:Ω} {w:aj} {A:aB} {E:ε->θ->Prop} {s:θ}
def lY(prog:Ω)(w:aj)(h:af)(a:ζ)(xs:List (List Int×ζ)):Prop:=
 ∃o es ep t,lZ prog w h a o es ep t xs/\Tab t (es.toList.map (·.1))
theorem zx{h h':af}{a y:ζ}{ks:List Int}{o:aL}{es:Array (Int×ε)}{ep:Nat}{t:bC}(ho:h.get? a=some o)(hd:o.data=.set es ep t)(sb:eE a h h')(hy:iL prog w h ks y):iL prog w h' ks y:=by
 obtain⟨oy,items,n,hoy,hc,hdy,hi⟩:=hy;have ne:y≠a:=by
  intro e;subst e;rw[ho] at hoy;cases hoy;rw[hd] at hdy;cases hdy
 exact⟨oy,items,n,(sb.2 y ne).trans hoy,hc,hdy,hi⟩
theorem Iy{h:af}{a:ζ}{o:aL}{es es':Array (Int×ε)}{ep:Nat}{t t':bC}(ho:h.get? a=some o)(hd:o.data=.set es ep t):
  (h.update a (nE es' t')).get? a=some { o with data:=.set es' (ep+1) t' }:=by
 have q:=bQ (nE es' t') ho (by rw[putSet_of es' t' hd];rfl);rw[putSet_of es' t' hd] at q;exact q
theorem Rx:∀n,n<8->5≤n->mv (ik n)=32:=by decide +kernel
theorem QP:∀n,n<32->19≤n->mv (ik n)=128:=by decide +kernel
theorem QN{t:bC}{hs:List Int}(T:sL t hs)(hf:t.tooFull=true)(h64:hs.length≤64):∃m,mv (ik hs.length)=m+1/\jz m/\hs.length*5<m*3/\m+1≤128:=by
 have hfill:t.fill=hs.length:=by
  unfold bC.fill;rw[T.size,T.nq];rfl
 have h':hs.length*5≥t.mask*3:=by
  unfold bC.tooFull at hf;rw[hfill] at hf;simpa using hf
 have hfit:=T.JR;rcases T.mask with e|e|e
 ·rw[e] at h' hfit;exact⟨31,Rx _ (by lia) (by lia),.inr (.inl rfl),by lia,by lia⟩
 ·rw[e] at h' hfit;exact⟨127,QP _ (by lia) (by lia),.inr (.inr rfl),by lia,by lia⟩
 ·rw[e] at h';lia
theorem QM{α β:Type}(f:α->β)(l:List α)(o:List Nat):(o.filterMap fun k=>(l.map f)[k]?)=(o.filterMap fun k=>l[k]?).map f:=by
 rw[sX];congr 1;funext k;rw[aS]
theorem QL{a:ζ}{o:aL}{es:Array (Int×ε)}{ep:Nat}{t:bC}{xs:List (List Int×ζ)}(S:lZ prog w s.heap a o es ep t xs)(T:sL t (es.toList.map (·.1)))(hf:t.tooFull=true)(h64:es.size≤64)
  {Q:Unit->θ->Prop} (h:∀h' xs',eE a s.heap h'->lY prog w h' a xs'->xs'.Perm xs->Q () { s with heap:=h' }):
  π (model prog w) A (setRelay a (ik es.size)) Q E s:=by
 have gy:(es.toList.map (·.1)).length=es.size:=xG
 obtain⟨m,hm1,hm2,hm3,hm4⟩:=QN T hf (by rw[gy];exact h64)
 rw[gy] at hm1 hm3
 unfold setRelay
 refine δ (da S.at_ S.dat (uf T) ?_)
 dsimp only
 rw[hm1,if_neg (by rw[cS];lia)]
 obtain⟨t2,order,e2,em,el,ep2,ef,hperm,T2⟩:=RD (finger:=t.finger) (moves:=t.movedTo m) (led:=t.led) (plain:=t.plain) hm2 (es.map (·.1)) (by simpa using hm3)
 have erel:t.relaid (es.map (·.1)) (ik es.size)=some (t2,order):=by
  unfold bC.relaid
  rw[hm1,gQ]
  exact e2
 have hosz:(es.map (·.1)).size=es.size:=by simp
 rw[hosz] at hperm
 have hes2:(order.filterMap (es[·]?)).toList=(order.toList.filterMap fun k=>xs[k]?).map (ent prog w):=by
  rw[pQ,←QM,←S.ents]
  congr 1
  funext k
  rw[aR]
 have hxl:xs.length=es.size:=by
  have:=congrArg gY S.ents
  simpa using this.symm
 have hxp:(order.toList.filterMap fun k=>xs[k]?).Perm xs:=by
  have:=hperm.filterMap fun k=>xs[k]?
  rw[←hxl,Cn] at this
  exact this
 have hsz2:(order.filterMap (es[·]?)).size=es.size:=by
  have:=congrArg gY hes2
  simp only[ο] at this
  rw[hxp.length_eq,hxl] at this
  rw[←fk]
  exact this
 refine δ ?_
 show π _ _ (do
  let some (t,order):=t.relaid (es.map (·.1)) (ik es.size)|unsupported "internal:set-table-without-room"
  let es':=order.filterMap (es[·]?)
  if es'.size != es.size then unsupported "internal:set-table-lost-an-element"
  pure (es',t)) _ _ _
 rw[erel]
 dsimp only
 rw[hsz2,if_neg (by simp)]
 refine ν ?_
 dsimp only
 refine wpAny_storeSet_of S.at_ S.dat ?_ (by rw[hsz2,cS];lia)
 have sb:=dz s.heap a (nE (order.filterMap (es[·]?)) t2)
 refine h _ _ sb ⟨_,_,_,_,⟨Iy S.at_ S.dat,⟨S.ex.1,S.ex.2.1,S.ex.2.2⟩,rfl,hes2,fun p hp=>zx S.at_ S.dat sb (S.keys p (hxp.mem_iff.mp hp)),?_,ep2.trans S.plain,el.trans S.led⟩,?_⟩ hxp
 ·exact (hxp.map _).nodup_iff.mpr S.nd
 ·have eT:(order.filterMap (es[·]?)).toList.map (·.1)=order.toList.filterMap fun k=>(es.map (·.1))[k]?:=by
   rw[pQ,sX]
   congr 1
   funext k
   simp
  rw[eT]
  exact T2
theorem QK{a:ζ}{xs:List (List Int×ζ)}(S:lY prog w s.heap a xs)(h64:xs.length<64)(hu:A.units<cLine){ks:List Int}{x:ζ}(hx:iL prog w s.heap ks x)
  {Q:Bool->θ->Prop} (h:∀b h' tk xs',s.toks≤tk->eE a s.heap h'->lY prog w h' a xs'->(ks∈xs.map (·.1)->xs'.Perm xs)->(ks∉xs.map (·.1)->xs'.Perm ((ks,x)::xs))->Q b { s with heap:=h',toks:=tk }):
  π (model prog w) A (setAdd a (.ref x)) Q E s:=by
 obtain⟨o,es,ep,t,S,T⟩:=S;have hxl:xs.length=es.size:=by
  have:=congrArg gY S.ents;simpa using this.symm
 unfold setAdd;refine bU (δ (wpAny_pyHash_tuple hu hx ?_));unfold setAddHashed;refine bU ?_;have lR:∀b h' xs',eE a s.heap h'->lY prog w h' a xs'->(ks∈xs.map (·.1)->xs'.Perm xs)->(ks∉xs.map (·.1)->xs'.Perm ((ks,x)::xs))->Q b { s with heap:=h',toks:=s.toks+(ks.length+1)}:=
  fun b h' xs' q1 q2 q3 q4=>h b h' _ xs' (fq _ _) q1 q2 q3 q4
 obtain⟨ke,hke,hemp,hliv⟩:=Q4 T (hk prog w ks);unfold setAddHashedIn;refine δ (da (s:={ s with toks:=s.toks+(ks.length+1)}) S.at_ S.dat (uf (Tab.r T)) ?_);dsimp only;rw[show byScan (.ref x) es=false from rfl,if_neg au];refine δ ?_;unfold setSearch;refine Iz (s:={ s with toks:=s.toks+(ks.length+1)}) S T hu hx hke hemp hliv (fun hin=>?_) (fun hout=>?_) 100000 0 none rfl (ax _) (by rcases T.mask with e|e|e<;>rw[e] at hke<;>lia) fun k' i' p hk'=>absurd hk' (Nat.not_lt_zero _)
 ·dsimp only;exact ν (lR false s.heap xs (.refl _ _) ⟨o,es,ep,t,S,T⟩ (fun _=>.refl _) fun z=>absurd hin z)
 ·dsimp only;refine δ (da (s:={ s with toks:=s.toks+(ks.length+1)}) S.at_ S.dat (uf (Tab.r T)) ?_);dsimp only;rw[RF T.nq];dsimp only;rw[S.plain,if_pos rfl];refine δ (Rz (s:={ s with toks:=s.toks+(ks.length+1)}) hx ?_);rw[if_pos rfl];have TR:=T.put hemp hliv;generalize hp:il t.place (sq t.mask (hk prog w ks) ke).j=p at TR ⊢;have hes1:(bI es p (hk prog w ks,aQ x)).toList=(xs.take p++(ks,x)::xs.drop p).map (ent prog w):=by
   rw[ug,S.ents,bN,cN,rG,rH];rfl
  have hhs:(bI es p (hk prog w ks,aQ x)).toList.map (·.1)=(es.toList.map (·.1)).take p++hk prog w ks::(es.toList.map (·.1)).drop p:=by
   rw[ug,bN,cN,rG,rH]
  have hsz1:(bI es p (hk prog w ks,aQ x)).size=es.size+1:=by
   rw[←fk,ug,(vM p es.toList _).length_eq,ak,fk]
  rw[←hhs] at TR;refine δ (wpAny_storeSet_of (s:={ s with toks:=s.toks+(ks.length+1)}) S.at_ S.dat ?_ (by rw[hsz1,cS];lia));have sb:=dz s.heap a (nE (bI es p (hk prog w ks,aQ x)) { t with place:=bI t.place p (sq t.mask (hk prog w ks) ke).j,dummies:=#[],plain:=true });have hpx:(xs.take p++(ks,x)::xs.drop p).Perm ((ks,x)::xs):=vM p xs _;have S1:lZ prog w (s.heap.update a (nE (bI es p (hk prog w ks,aQ x)) { t with place:=bI t.place p (sq t.mask (hk prog w ks) ke).j,dummies:=#[],plain:=true })) a { o with data:=.set (bI es p (hk prog w ks,aQ x)) (ep+1) { t with place:=bI t.place p (sq t.mask (hk prog w ks) ke).j,dummies:=#[],plain:=true }} (bI es p (hk prog w ks,aQ x)) (ep+1)
    { t with place:=bI t.place p (sq t.mask (hk prog w ks) ke).j,dummies:=#[],plain:=true } (xs.take p++(ks,x)::xs.drop p):=by
   refine⟨Iy S.at_ S.dat,⟨S.ex.1,S.ex.2.1,S.ex.2.2⟩,rfl,hes1,fun q hq=>?_,?_,rfl,S.led⟩
   ·rcases aa.mp (hpx.mem_iff.mp hq) with e|e
    ·rw[e];exact zx S.at_ S.dat sb hx
    ·exact zx S.at_ S.dat sb (S.keys q e)
   ·refine (hpx.map _).nodup_iff.mpr ?_;rw[cN,eZ];exact⟨hout,S.nd⟩
  have TR':sL { t with place:=bI t.place p (sq t.mask (hk prog w ks) ke).j,dummies:=#[],plain:=true } ((bI es p (hk prog w ks,aQ x)).toList.map (·.1)):=
   ⟨TR.mask,TR.size,TR.rise,TR.bound,TR.nq,TR.JR,TR.reach⟩
  by_cases hfull:({ t with place:=bI t.place p (sq t.mask (hk prog w ks) ke).j,dummies:=#[],plain:=true }:bC).tooFull=true
  ·rw[hfull,if_pos (by decide)];refine δ ?_;rw[←hsz1];refine QL (s:={ s with heap:=s.heap.update a _,toks:=s.toks+(ks.length+1)}) S1 TR' hfull (by rw[hsz1];lia) fun h' xs' sb' S2 pm=>?_;exact ν (lR true h' xs' (sb.trans sb') S2 (fun z=>absurd z hout) fun _=>pm.trans hpx)
  ·have hfull':({ t with place:=bI t.place p (sq t.mask (hk prog w ks) ke).j,dummies:=#[],plain:=true }:bC).tooFull=false:=by simpa using hfull
   rw[hfull',if_neg (by decide)];exact ν (lR true _ _ sb ⟨_,_,_,_,S1,TR'.tab hfull'⟩ (fun z=>absurd z hout) fun _=>hpx)
end
end jc
namespace jc
open PySem om
theorem gC:Slot "set_iterator" "__next__" "set_iterator.__next__":=
 .of (owner:="set_iterator") (n:="__next__")
  (by rw[typeLookup_type,builtinLookup_eq_fast];kernel_rfl)
  (by decide +kernel) (by decide +kernel) (by decide +kernel)
  (by first|exact .inl (by decide +kernel)|exact .inr (by decide +kernel))
  (by rw[qd];kernel_rfl)
theorem Iw:Slot "set_iterator" "__iter__" "set_iterator.__iter__":=
 .of (owner:="set_iterator") (n:="__iter__")
  (by rw[typeLookup_type,builtinLookup_eq_fast];kernel_rfl)
  (by decide +kernel) (by decide +kernel) (by decide +kernel)
  (by first|exact .inl (by decide +kernel)|exact .inr (by decide +kernel))
  (by rw[qd];kernel_rfl)
theorem Iv:entryFor table "set_iterator.__next__" = some cO.«set_iterator.__next__»:=entryFor_of_tree (by kernel_rfl)
theorem QJ:entryFor table "set.__iter__" = some cO.«frozenset.__iter__»:=
 entryFor_alias (id':="frozenset.__iter__") (by rw[fastTable_eq_tree];kernel_rfl) (by decide +kernel) (by decide +kernel) (by rw[fastTable_eq_tree];kernel_rfl)
theorem Iu:Manifest.owners.lookup (String.ofList ['r','o','t','a','r','e','t','i','_','t','e','s'].reverse)=some Manifest.sig_set_iterator:=by kernel_rfl
theorem HA(a:ε):argsOk "set_iterator.__next__" ⟨[a],[]⟩:=by
 unfold argsOk;rw[signature?_of (id:="set_iterator.__next__") (n:=['_','_','t','x','e','n','_','_']) (o:=['r','o','t','a','r','e','t','i','_','t','e','s']) (by kernel_rfl) Iu]
 kernel_rfl
theorem Hz{α:Type}(next:Nat->Nat):∀(fuel k:Nat) (left:List α) (out:Array α),left.length≤fuel->(pickOrder.go next fuel k left out).toList.Perm (out.toList++left)
 |0,k,left,out,h=>by
  have:left=[]:=oY.mp (by lia);subst this;show out.toList.Perm (out.toList++[]);rw[bO]
 |fuel+1,k,left,out,h=>by
  unfold pickOrder.go;cases hl:left[next k%left.length]? with
  |none=>
   have:left=[]:=by
    cases left with
    |nil=>rfl
    |cons a l=>
     have:=lg (next k) (show 0<(a::l).length by simp)
     rw[bu this] at hl;cases hl
   subst this;show out.toList.Perm (out.toList++[]);rw[bO]
  |some x=>
   have hlt:=(aN.mp hl).1;have ih:=Hz next fuel (k+1) (left.eraseIdx (next k%left.length)) (out.push x) (by rw[List.length_eraseIdx];split<;>lia)
   refine ih.trans ?_;rw[Array.toList_push,jY];refine List.Perm.append_left _ ?_;obtain⟨_,e⟩:=aN.mp hl;rw[←e,List.eraseIdx_eq_take_drop_succ];have q:=List.perm_middle (a:=left[next k%left.length]) (l₁:=left.take (next k%left.length)) (l₂:=left.drop (next k%left.length+1))
   rw[List.getElem_cons_drop,qk] at q;exact q.symm
theorem QH{α:Type}(next:Nat->Nat)(xs:Array α):(pickOrder next xs).toList.Perm xs.toList:=by
 have:=Hz next xs.size 0 xs.toList #[] (by simp)
 unfold pickOrder;simpa using this
def j6(w:aj):Bool:=w.params.followText "set-order"
def iy(w:aj)(a:ζ)(ep:Nat)(es:Array (Int×ε)):List (Int×ε):=if j6 w then (pickOrder (w.params.setOrder a ep) es).toList else es.toList
theorem nj(w:aj)(a:ζ)(ep:Nat)(es:Array (Int×ε)):(iy w a ep es).Perm es.toList:=by
 unfold iy;split
 ·exact QH _ _
 ·exact .refl _
def ma(h:af)(it a:ζ)(slot i n ep:Nat):Prop:=h.get? it=some { cls:=.type "set_iterator",data:=.fields #[rawInt slot,rawInt i,.ref a,rawInt n,rawInt ep]}
def pU(w:aj)(t:bC)(slot i:Nat):Prop:=j6 w=true∨il t.place slot=i
section
variable {prog:Ω} {w:aj} {A:aB} {E:ε->θ->Prop} {s:θ}
theorem Cm{Q:Bool->θ->Prop}(h:Q (j6 w) s):π (model prog w) A setsByText Q E s:=by
 unfold setsByText;exact δ (ou (ν h))
theorem QF{a:ζ}{o:aL}{es:Array (Int×ε)}{ep:Nat}{t:bC}(S:kT w s.heap a o es ep t)(T:Tab t (es.toList.map (·.1)))
  {Q:ε->θ->Prop} (h:Q (.ref s.heap.objs.size) { s with heap:=s.heap.push { cls:=.type "set_iterator",data:=.fields #[rawInt (0:Nat),rawInt (0:Nat),.ref a,rawInt es.size,rawInt ep]}}):
  π (model prog w) A (pyIter (.ref a)) Q E s:=by
 have hT:s.TypeIs (.ref a) "set":=⟨o,S.at_,S.ex.1⟩;have hfit:=uf (Tab.r T);refine wpAny_pyIter_slot hT F.slot_set_iter (ck F.slot_set_iter hT QJ ?_ (F.args_set_iter_1 _));unfold cO.«frozenset.__iter__»;show π _ _ (o9 "__iter__" ⟨[.ref a],[]⟩ >>= _) _ _ s;refine δ (m:=o9 "__iter__" ⟨[.ref a],[]⟩) (md (a:=a) rfl ?_);unfold cO.Frozenset.sizeOf setEntries;refine δ (δ (δ (da S.at_ S.dat hfit (ν (ν ?_)))));unfold setDrawn;refine δ (δ (da S.at_ S.dat hfit ?_));refine δ (Cm (ν ?_));have hnd:(!j6 w&&(!t.plain&&decide (es.size > 1)))=false:=by rw[S.plain];simp
 show π _ _ (if (!j6 w&&(!t.plain&&decide (es.size > 1)))=true then _ else _) _ _ s;rw[hnd,if_neg au];refine δ (ν ?_);refine δ (wpAny_setEpoch_of S.at_ S.dat hfit ?_);refine δ ?_;unfold newFields;refine cA ?_;refine ν ⟨_,rfl,"set_iterator",_,⟨_,Ψ _ rfl,rfl⟩,gC.lookup,h⟩
theorem Hy{a:ζ}{o:aL}{es:Array (Int×ε)}{ep:Nat}{t:bC}(S:kT w s.heap a o es ep t)(T:Tab t (es.toList.map (·.1))){slot i:Nat}(hsl:pU w t slot i)
  {Q:Option (ε×Nat)->θ->Prop} (h1:∀p slot',(iy w a ep es)[i]?=some p->pU w t slot' (i+1)->Q (some (p.2,slot')) s) (h2:(iy w a ep es)[i]?=none->Q none s):
  π (model prog w) A (setNext a slot i ep) Q E s:=by
 have hfit:=uf (Tab.r T);have gy:t.place.size=es.size:=by
  have:=T.size;rw[xG] at this;exact this
 unfold setNext;refine δ (da S.at_ S.dat hfit ?_);dsimp only;refine δ (Cm ?_);unfold iy at h1 h2;cases hbt:j6 w with
 |true=>
  rw[hbt] at h1 h2;rw[if_pos rfl];simp only[if_true,aR] at h1 h2;rw[if_neg (by simp)];unfold setWalk;refine δ (δ (da S.at_ S.dat hfit ?_));dsimp only;refine δ (Cm ?_);rw[hbt,if_pos rfl];refine δ (ou (ν ?_));refine ν ?_;show Q (qY (fun e=>(e.snd,slot)) (pickOrder (w.params.setOrder a ep) es)[i]?) s;cases hp:(pickOrder (w.params.setOrder a ep) es)[i]? with
  |none=>exact h2 hp
  |some p=>exact h1 p slot hp (.inl hbt)
 |false=>
  rw[hbt] at h1 h2;rw[if_neg au];simp only[gV,if_false,aR] at h1 h2;have hled:t.led=true:=by
   rw[S.led];show (!j6 w)=true;rw[hbt];rfl
  have hb:il t.place slot=i:=by
   rcases hsl with z|z
   ·rw[hbt] at z;cases z
   ·exact z
  have hnd:(!t.plain&&decide (es.size > 1))=false:=by rw[S.plain];simp
  show π _ _ (if (!t.plain&&decide (es.size > 1))=true then _ else _) _ _ s;rw[hnd,if_neg au];refine δ ?_;show π _ _ (if (!t.led && !es.isEmpty)=true then _ else _) _ _ s;rw[hled,if_neg (by simp)];refine ν ?_;rw[hb];cases hp:es[i]? with
  |none=>
   refine ν ?_;have hpl:t.place[i]?=none:=by
    have:=iR.mp hp;exact iR.mpr (by lia)
   exact h2 hp
  |some p=>
   have hil:=(aG.mp hp).1;have hj:t.place[i]?=some (t.place[i]'(by lia)):=by simp[gy,hil]
   rw[hj];obtain⟨ph,pv⟩:=p;refine ν (h1 (ph,pv) _ hp (.inr ?_))
   -- the next place
   obtain⟨b0,b1,b2⟩:=zy (j:=t.place[i]'(by lia)+1) T.rise;refine aZ fun cu=>?_;by_cases hlt:il t.place (t.place[i]'(by lia)+1)≤i
   ·have:=b2 i _ hlt hj;lia
   ·have hgt:i+1<il t.place (t.place[i]'(by lia)+1):=by lia
    have hi1:i+1<t.place.size:=by lia
    have e1:t.place[i+1]?=some (t.place[i+1]):=by simp[hi1]
    have q:=b1 (i+1) _ hgt e1;have pw:=fX.mp T.rise i (i+1) (by simp;lia) (by simpa using hi1) (kx i);simp at pw;lia
theorem Ck{it a:ζ}{slot i n ep:Nat}(hit:ma s.heap it a slot i n ep):s.TypeIs (.ref it) "set_iterator":=⟨_,hit,rfl⟩
theorem Hx{a it:ζ}{o:aL}{es:Array (Int×ε)}{ep:Nat}{t:bC}(S:kT w s.heap a o es ep t)(T:Tab t (es.toList.map (·.1))){slot i:Nat}(hit:ma s.heap it a slot i es.size ep)
  {P:sT->θ->Prop} (h:π (model prog w) A (do
   match ←setNext a slot i ep with
   |some (x,next)=>
    setField (.ref it) 0 (rawInt next)
    setField (.ref it) 1 (rawInt ((i:Int)+1))
    ret x
   | none=>setField (.ref it) 2 .none;raiseNew (←newExc (.type "StopIteration") [])) P E s):
  π (model prog w) A (cO.«set_iterator.__next__» ⟨[.ref it],[]⟩) P E s:=by
 have hfit:=uf (Tab.r T);unfold cO.«set_iterator.__next__»;refine δ (m:=slotArgs "__next__" 0 ⟨[.ref it],[]⟩) (md (a:=(.ref it,[])) rfl ?_);refine δ (wpAny_fieldsOf hit rfl ?_);dsimp only[rawInt];unfold setEntries;refine δ (δ (da S.at_ S.dat hfit (ν ?_)));rw[if_neg (by simp)];exact h
theorem QD{a it:ζ}{o:aL}{es:Array (Int×ε)}{ep:Nat}{t:bC}(S:kT w s.heap a o es ep t)(T:Tab t (es.toList.map (·.1))){slot i:Nat}(hsl:pU w t slot i)(hit:ma s.heap it a slot i es.size ep)
  {p:Int×ε} (hp:(iy w a ep es)[i]?=some p) {Q:Option ε->θ->Prop}
  (h:∀h' slot',ma h' it a slot' (i+1) es.size ep->pU w t slot' (i+1)->eE it s.heap h'->Q (some p.2) { s with heap:=h' }):π (model prog w) A (pyNext (.ref it)) Q E s:=by
 have hT:=Ck hit;unfold pyNext;refine δ (gD (cy (name:=aI "__next__") hT gC
  (ck gC hT Iv (Hx S T hit (δ (Hy S T hsl (fun q slot' hq hs'=>?_) fun hn=>?_))) (HA _))))
 ·rw[hp] at hq;cases hq;dsimp only;refine δ (dk hit (by simp) fun h1 e1 sb1=>?_);refine δ (dk (s:={ s with heap:=h1 }) e1 (by simp) fun h2 e2 sb2=>?_)
  refine ν ⟨_,rfl,ν (h h2 slot' ?_ hs' (sb1.trans sb2))⟩;unfold ma;rw[e2];rfl
 ·rw[hp] at hn;cases hn
theorem QB{a it:ζ}{o:aL}{es:Array (Int×ε)}{ep:Nat}{t:bC}(hh:A.handled=none)(S:kT w s.heap a o es ep t)(T:Tab t (es.toList.map (·.1))){slot i:Nat}(hsl:pU w t slot i)(hit:ma s.heap it a slot i es.size ep)
  (hp:(iy w a ep es)[i]?=none) {Q:Option ε->θ->Prop}
  (h:∀h',ua it s.heap h'->Q none { s with heap:=h' }):π (model prog w) A (pyNext (.ref it)) Q E s:=by
 have hT:=Ck hit;unfold pyNext;refine δ (gD (cy (name:=aI "__next__") hT gC
  (ck gC hT Iv (Hx S T hit (δ (Hy S T hsl (fun q slot' hq hs'=>?_) fun hn=>?_))) (HA _))))
 ·rw[hp] at hq;cases hq
 ·dsimp only;refine δ (dk hit (by simp) fun h1 e1 sb1=>?_);refine δ ?_;simp only[newExc,newTuple];refine δ (cA ?_ (by size_fits));refine δ (m:=firstArgMember _ _) (md (a:=bf) (by first|rfl|(simp only[firstArgMember];rfl)) ?_)
  refine cA ?_ (by size_fits);simp only[raiseNew];refine δ (wpAny_handled ?_);rw[show A.in1.handled=none from hh];refine δ (ν (wpAny_throw ?_));refine δ (kv (T:="StopIteration") (b:=true) ⟨_,Ψ _ rfl,rfl⟩ qe ?_);refine ν (h _ fun b ob hb e=>?_);exact μ _ (μ _ ((sb1.2 b hb).trans e))
end
end jc
namespace jc
open PySem om
section
variable {prog:Ω} {w:aj} {A:aB} {E:ε->θ->Prop} {s:θ}
theorem lZ.kept{h h':af}{a:ζ}{o:aL}{es:Array (Int×ε)}{ep:Nat}{t:bC}{xs:List (List Int×ζ)}(S:lZ prog w h a o es ep t xs)
  (k:∀b∈a::xs.map (·.2),∀ob,h.get? b=some ob->h'.get? b=some ob):lZ prog w h' a o es ep t xs:=by
 refine⟨k a ψ _ S.at_,S.ex,S.dat,S.ents,fun p hp=>?_,S.nd,S.plain,S.led⟩;obtain⟨oy,items,n,ho,r⟩:=S.keys p hp;exact⟨oy,items,n,k _ (ω _ (aX.mpr ⟨p,hp,rfl⟩)) _ ho,r⟩
theorem kT.kept{h h':af}{a:ζ}{o:aL}{es:Array (Int×ε)}{ep:Nat}{t:bC}(S:kT w h a o es ep t)
  (k:∀b∈[a],∀ob,h.get? b=some ob->h'.get? b=some ob):kT w h' a o es ep t:=⟨k a ψ _ S.at_,S.ex,S.dat,S.plain,S.led⟩
theorem kT.JD{h:af}{a it:ζ}{o:aL}{es:Array (Int×ε)}{ep ep':Nat}{t:bC}{slot i n:Nat}{b:ζ}(S:kT w h a o es ep t)(hit:ma h it b slot i n ep'):
  ∀c∈[a],c≠it:=fun c hc e=>by
 subst e;unfold ma at hit;rw[cR.mp hc,S.at_] at hit;cases hit;have:=S.dat;cases this
theorem Qz(hh:A.handled=none){a it:ζ}{o:aL}{es:Array (Int×ε)}{ep:Nat}{t:bC}(T:Tab t (es.toList.map (·.1))):
  Walks prog w A it ([it,a]) [it] es.size (fun i v=>∃p,(iy w a ep es)[i]?=some p/\v=p.2)
   (fun i h=>∃slot,ma h it a slot i es.size ep/\pU w t slot i/\kT w h a o es ep t) where
 sub:=fun b hb=>by
  have:b=it:=by simpa using hb
  simp[this]
 frame:=fun i h h' ⟨slot,h1,h2,h3⟩ k=>⟨slot,k it ψ _ h1,h2,h3.kept fun b hb ob e=>k b (ω _ hb) ob e⟩
 item:=fun i s Q E hi ⟨slot,h1,h2,h3⟩ hQ=>by
  have hlen:(iy w a ep es).length=es.size:=by rw[(nj w a ep es).length_eq];simp
  have hp:(iy w a ep es)[i]?=some ((iy w a ep es)[i]'(by lia)):=bu (by lia);refine QD h3 T h2 h1 hp fun h' slot' q1 q2 sb=>?_;refine hQ _ h' s.toks ⟨_,hp,rfl⟩ ⟨slot',q1,q2,h3.kept fun b hb ob e=>(sb.2 b (h3.JD h1 b hb)).trans e⟩ fun b ob hb e=>?_;exact (sb.2 b (by simpa using hb)).trans e
 done:=fun s Q E ⟨slot,h1,h2,h3⟩ hQ=>by
  have hlen:(iy w a ep es).length=es.size:=by rw[(nj w a ep es).length_eq];simp
  refine QB hh h3 T h2 h1 (dD.mpr (by lia)) fun h' q=>?_;exact hQ h' s.toks fun b ob hb e=>q b ob (by simpa using hb) e
 self:=fun i s Q E ⟨slot,h1,h2,h3⟩ h=>by
  have hT:=Ck h1;refine wpAny_pyIter_slot hT Iw (ck Iw hT (b:=cO.«dict_keyiterator.__iter__») ?_ ?_ ?_)
  ·exact entryFor_alias (id':="dict_keyiterator.__iter__") (by kernel_rfl) (by decide +kernel) (by decide +kernel) (by kernel_rfl)
  ·show π _ _ (ret (.ref it)) _ _ s;exact ν ⟨_,rfl,"set_iterator",_,hT,gC.lookup,h⟩
  ·unfold argsOk;rw[signature?_of (id:="set_iterator.__iter__") (n:=['_','_','r','e','t','i','_','_']) (o:=['r','o','t','a','r','e','t','i','_','t','e','s']) (by kernel_rfl) Iu]
   kernel_rfl
theorem vn(hh:A.handled=none){a:ζ}{o:aL}{es:Array (Int×ε)}{ep:Nat}{t:bC}(S:kT w s.heap a o es ep t)(T:Tab t (es.toList.map (·.1)))(h64:es.size≤64)
  {Q:List ε->θ->Prop} (h:∀s',Moved [] (fun x y=>y=x) s s'->Q ((iy w a ep es).map (·.2)) s'):π (model prog w) A (collect (.ref a)) Q E s:=by
 have hT:s.TypeIs (.ref a) "set":=⟨o,S.at_,S.ex.1⟩;have hal:a<s.heap.objs.size:=Φ S.at_;unfold collect;refine δ (wpAny_runValue (eW F.entry_proto_collect ?_));rw[dS F.plain_proto_collect _];show π _ A.in1 (newList [] >>= fun q=>again (.builtin "list.__iadd__" ⟨[q,.ref a],[]⟩)) _ _ s;refine δ (cA ?_);refine ν ⟨iN F.plain_list_iadd _,eW F.entry_list_iadd ?_⟩;rw[dS F.plain_list_iadd _];show π _ A.in1 (mE (.ref s.heap.objs.size) (.ref a) (.ref s.heap.objs.size)) _ _ _;unfold mE;have S1:kT w (s.heap.push { cls:=.type "list",data:=.seq ([]:List ε).toArray }) a o es ep t:=S.kept fun b _ ob e=>μ _ e;have hT1:rE { s with heap:=s.heap.push { cls:=.type "list",data:=.seq ([]:List ε).toArray }} (.ref a) "set":=⟨o,S1.at_,S.ex.1⟩;refine δ (jh hT1 ?_);have ne:s.heap.objs.size≠a:=iq hal;have e1:oU (.ref s.heap.objs.size) (.ref a)=false:=by simp[oU,ne]
 rw[if_neg (by rw[e1];decide)];refine δ (QF (s:={ s with heap:=s.heap.push { cls:=.type "list",data:=.seq ([]:List ε).toArray }}) S1 T ?_);have S2:=S1.kept (h':=(s.heap.push { cls:=.type "list",data:=.seq ([]:List ε).toArray }).push { cls:=.type "set_iterator",data:=.fields #[rawInt (0:Nat),rawInt (0:Nat),.ref a,rawInt es.size,rawInt ep]}) fun b _ ob e=>μ _ e;have hit:ma ((s.heap.push { cls:=.type "list",data:=.seq ([]:List ε).toArray }).push { cls:=.type "set_iterator",data:=.fields #[rawInt (0:Nat),rawInt (0:Nat),.ref a,rawInt es.size,rawInt ep]})
   (s.heap.push { cls:=.type "list",data:=.seq ([]:List ε).toArray }).objs.size a 0 0 es.size ep:=Ψ _ rfl
 have hS0:((s.heap.push { cls:=.type "list",data:=.seq ([]:List ε).toArray }).push { cls:=.type "set_iterator",data:=.fields #[rawInt (0:Nat),rawInt (0:Nat),.ref a,rawInt es.size,rawInt ep]}).get? s.heap.objs.size
   = some { cls:=.type "list",data:=.seq ([]:List ε).toArray }:=μ _ (Ψ _ rfl)
 have keep0:∀b ob,s.heap.get? b=some ob->((s.heap.push { cls:=.type "list",data:=.seq ([]:List ε).toArray }).push { cls:=.type "set_iterator",data:=.fields #[rawInt (0:Nat),rawInt (0:Nat),.ref a,rawInt es.size,rawInt ep]}).get? b=some ob:=
  fun b ob e=>μ _ (μ _ e)
 have hI:(s.heap.push { cls:=.type "list",data:=.seq ([]:List ε).toArray }).objs.size=s.heap.objs.size+1:=dw ..;generalize (s.heap.push { cls:=.type "list",data:=.seq ([]:List ε).toArray }).objs.size=it at hI hit ⊢;generalize ((s.heap.push { cls:=.type "list",data:=.seq ([]:List ε).toArray }).push { cls:=.type "set_iterator",data:=.fields #[rawInt (0:Nat),rawInt (0:Nat),.ref a,rawInt es.size,rawInt ep]})=hp at S2 hit hS0 keep0 ⊢;refine δ (bU ?_);have hT2:rE { s with heap:=hp } (.ref a) "set":=⟨o,S2.at_,S.ex.1⟩;unfold cO.List.listLengthHint;refine δ (wpAny_specialOf hT2 F.slot_set_len.lookup ?_);generalize oh:("set.__len__":String)=id0;dsimp only;rw[show splitId id0=some ("set","__len__") from by subst oh;decide +kernel];subst oh;dsimp only;refine δ (kv (b:=true) hT2 (by rw[qd];kernel_rfl) ?_)
 rw[if_neg (by decide)];show π _ A.in1 (typeOf (.ref a) >>= _) _ _ _;refine δ (jh hT2 (ν ?_));show π _ A.in1 (rule "list.extend.makes-room" >>= fun _=>cO.List.listTouch (.ref s.heap.objs.size) >>= fun _=>again (.builtin "list.extend.loop" ⟨[.ref s.heap.objs.size,.ref it,.ref s.heap.objs.size],[]⟩)) _ _ _;refine δ (kX (δ ?_));show π _ A.in1 (updateSeq s.heap.objs.size (·.push .none) >>= fun _=>updateSeq s.heap.objs.size (·.pop)) _ _ _;refine δ (wpAny_updateSeq (s:={ s with heap:=hp }) hS0 rfl ?_);have q1:=bQ (bw (·.push bf)) hS0 rfl;refine wpAny_updateSeq (s:={ s with heap:=hp.update s.heap.objs.size (bw (·.push bf))}) q1 rfl ?_;have q2:=bQ (bw (·.pop)) q1 rfl;have oth:∀b ob,b≠s.heap.objs.size->hp.get? b=some ob->((hp.update s.heap.objs.size (bw (·.push bf))).update s.heap.objs.size (bw (·.pop))).get? b=some ob:=
  fun b ob hb e=>(bF _ _ (du hb)).trans ((bF _ _ (du hb)).trans e)
 have q3:∃c,((hp.update s.heap.objs.size (bw (·.push bf))).update s.heap.objs.size (bw (·.pop))).get? s.heap.objs.size=some { cls:=.type "list",dict:=none,data:=.seq #[] c,slots:=#[]}:=⟨_,q2⟩;clear q2;generalize (hp.update s.heap.objs.size (bw (·.push bf))).update s.heap.objs.size (bw (·.pop))=hp2 at q3 oth ⊢;obtain⟨c0,q2⟩:=q3;have hfp:∀b∈[it,a],b≠s.heap.objs.size:=fun b hb e=>by
  rcases aa.mp hb with z|z
  ·lia
  ·have hlt:b<s.heap.objs.size:=by
    rw[cR.mp z];exact hal
   lia
 have W:=(Qz (prog:=prog) (w:=w) (A:=A.in1) (by simpa using hh) (it:=it) (a:=a) (o:=o) (ep:=ep) T).toS;refine ν ⟨iN F.plain_extend_loop _,codeAny_extend_loopS W (by rw[cS];lia) _ (fun hm=>hfp _ hm rfl) _ es.size 0 _ _ _ rfl (ax _) ?_ q2 (ItemsOf.nil _) fun s' acc' c' hm hS' hacc=>?_⟩
 ·refine⟨0,oth _ _ (hfp _ ψ) hit,?_,S2.kept fun b hb ob e=>oth b ob (hfp b (ω _ hb)) e⟩;by_cases hb:j6 w=true
  ·exact .inl hb
  ·refine .inr ?_;obtain⟨b0,b1,b2⟩:=zy (j:=0) T.rise;refine aZ fun cu=>?_;have hpos:0<il t.place 0:=by lia
   have h0:0<t.place.size:=by lia
   have:=b1 0 (t.place[0]) hpos (by simp[h0]);lia
 ·show π _ A (load s.heap.objs.size >>= _) _ _ s';refine δ (wpAny_load hS' ?_);refine ν ?_;have hlen:(iy w a ep es).length=es.size:=by rw[(nj w a ep es).length_eq];simp
  have eacc:acc'.toList=(iy w a ep es).map (·.2):=by
   refine List.ext_getElem? fun i=>?_;rw[aS,aR];cases ha:acc'[i]? with
   |none=>
    have h1:=iR.mp ha;rw[hacc.1] at h1;rw[dD.mpr (by lia)];rfl
   |some v=>
    obtain⟨p,e1,e2⟩:=hacc.2 i v ha;rw[e1,e2];rfl
  show Q acc'.toList s';rw[eacc];refine h s' ⟨fun b ob _ e=>?_,hm.gens,hm.drawn,hm.os,?_⟩
  ·have hlt:=Φ e;refine hm.heap b ob ?_ (oth b ob (bt hlt) (keep0 b ob e));intro z;rcases aa.mp z with z|z
   ·rw[z] at hlt;exact cm _ hlt
   ·have:b=it:=by simpa using z
    rw[this,hI] at hlt;exact cm _ (Nat.lt_of_succ_lt hlt)
  ·exact hm.toks
end
end jc
namespace jc
open PySem om
section
variable {prog:Ω} {w:aj} {A:aB} {E:ε->θ->Prop} {s:θ}
def gk(w:aj):aL:={ cls:=.type "set",dict:=none,data:=.set #[] 0 (.fresh 0 0 (!(j6 w)))}
theorem Qy(a:ε){Q₁:ε->θ->Prop}(h:Q₁ (.ref s.heap.objs.size) { s with heap:=s.heap.push (gk w)}):
  ij (model prog w) A (.call (.builtin "set.__new__") ⟨[.type "set",a],[]⟩) (wants Q₁ E) s:=by
 refine pe ?_;show π _ A.in1 (checkBuiltinCall "set.__new__" ⟨[.type "set",a],[]⟩ >>= fun _=>again (.builtin "set.__new__" ⟨[.type "set",a],[]⟩)) _ _ s;refine δ (md (F.newCall_set_1 a) (ν ⟨iN F.plain_set_new _,eW F.entry_set_new ?_⟩));rw[dS F.plain_set_new _];unfold cO.«set.__new__» cO.Frozenset.newClass;have hsub:=sub_set_self;obtain⟨hp,g,d,tk,os⟩:=s;dsimp only;wp_walk;refine ou (ν ?_);dsimp only;simp only[newObj];refine δ (wpAny_alloc (ν ?_));exact ν h
theorem Qx(led:Bool):Tab (bC.fresh 0 0 led) []:=
 ⟨.inl rfl,rfl,m9,(fun j hj=>(nomatch hj)),rfl,(by show 0*5<7*3;decide),(fun j h hj=>(nomatch hj))⟩
structure ve(ps xs:List (List Int×ζ)):Prop where
 sub:∀p∈xs,p∈ps
 all:∀p∈ps,p.1∈xs.map (·.1)
 len:xs.length≤ps.length
theorem ve.add{ps xs xs':List (List Int×ζ)}{p:List Int×ζ}(d:ve ps xs)(h1:p.1∈xs.map (·.1)->xs'.Perm xs)(h2:p.1∉xs.map (·.1)->xs'.Perm (p::xs)):ve (ps++[p]) xs':=by
 by_cases hm:p.1∈xs.map (·.1)
 ·have pm:=h1 hm;refine⟨fun q hq=>iG _ (d.sub q (pm.mem_iff.mp hq)),fun q hq=>?_,?_⟩
  ·rw[(pm.map _).mem_iff];rcases bM.mp hq with hq|hq
   ·exact d.all q hq
   ·have:q=p:=by simpa using hq
    rw[this];exact hm
  ·rw[pm.length_eq,ar];have:=d.len;lia
 ·have pm:=h2 hm;refine⟨fun q hq=>?_,fun q hq=>?_,?_⟩
  ·rcases aa.mp (pm.mem_iff.mp hq) with e|e
   ·exact bq _ (by simp[e])
   ·exact iG _ (d.sub q e)
  ·rw[(pm.map _).mem_iff,cN];rcases bM.mp hq with hq|hq
   ·exact ω _ (d.all q hq)
   ·have:q=p:=by simpa using hq
    rw[this];exact ψ
  ·rw[pm.length_eq,ar,ak,ir];have:=d.len;lia
theorem Qw{I:ζ}{fp:List ζ}{n:Nat}{P:Nat->ε->Prop}{St:Nat->af->Prop}(W:Walks prog w A.in1 I fp [I] n P St)(S:ζ)(hSf:S∉fp)(ps:List (List Int×ζ))(hps:ps.length=n)(hn:n≤60)
  (hu:A.in1.units<cLine) (hval:∀(i:Nat) v,P i v->∃p,ps[i]?=some p/\v=.ref p.2) (hpf:∀p∈ps,p.2≠I/\p.2≠S) {R:Result->θ->Prop}:
  ∀(k i:Nat) (s:θ) (xs:List (List Int×ζ)),n-i=k->i≤n->St i s.heap->lY prog w s.heap S xs->ve (ps.take i) xs->(∀p∈ps,iL prog w s.heap p.1 p.2) ->
   (∀h' tk xs',(∀b ob,b≠S->b≠I->s.heap.get? b=some ob->h'.get? b=some ob)->lY prog w h' S xs'->ve ps xs'->R (.ok (.ret .none)) { s with heap:=h',toks:=tk }) ->
   ij (model prog w) A (.builtin "set.update.loop" ⟨[.ref S,.ref I],[]⟩) R s:=by
 have hSI:S≠I:=fun e=>hSf (W.sub _ (by rw[e];simp));have on_kept:∀{h h':af} {xs:List (List Int×ζ)},lY prog w h S xs->(∀p∈xs,p∈ps)->(∀b ob,b≠I->h.get? b=some ob->h'.get? b=some ob)->lY prog w h' S xs:=fun {h h' xs} ⟨o,es,ep,t,q,T⟩ sub kp=>
  ⟨o,es,ep,t,q.kept fun b hb ob e=>kp b ob (by
   rcases aa.mp hb with z|z
   ·rw[z];exact hSI
   ·obtain⟨p,hp,rfl⟩:=aX.mp z;exact (hpf p (sub p hp)).1) e,T⟩
 intro k
 induction k with
 |zero=>
  intro i s xs hk hi hst hS hd hkeys hR;have hin:i=n:=by lia
  subst hin;refine eW jj ?_;rw[dS fG _];show π _ A.in1 (pyNext (.ref I) >>= _) _ _ s;refine δ (W.done s _ _ hst fun h' tk kp=>?_);show π _ A.in1 (ret bf) _ _ _;have hd':ve ps xs:=by
   rw[←hps,List.take_length] at hd;exact hd
  exact ν (hR h' tk xs (fun b ob _ hb e=>kp b ob (by simpa using hb) e) (on_kept hS hd'.sub fun b ob hb e=>kp b ob (by simpa using hb) e) hd')
 |succ k ih=>
  intro i s xs hk hi hst hS hd hkeys hR;have hlt:i<n:=by lia
  refine eW jj ?_;rw[dS fG _];show π _ A.in1 (pyNext (.ref I) >>= _) _ _ s;refine δ (W.item i s _ _ hlt hst fun v h1 tk1 hP hst1 kp1=>?_);obtain⟨p,hp,rfl⟩:=hval i v hP;have hpm:p∈ps:=bW hp;have kp1':∀b ob,b≠I->s.heap.get? b=some ob->h1.get? b=some ob:=fun b ob hb e=>kp1 b ob (by simpa using hb) e;have key1:∀q∈ps,iL prog w h1 q.1 q.2:=fun q hq=>by
   obtain⟨oy,items,m,ho,r⟩:=hkeys q hq;exact⟨oy,items,m,kp1' _ _ (hpf q hq).1 ho,r⟩
  have sub0:∀q∈xs,q∈ps:=fun q hq=>iF (hd.sub q hq);have hS1:=on_kept hS sub0 kp1';show π _ A.in1 (holding [aQ p.2] (setAdd S (.ref p.2)) >>= _) _ _ _;have hlen:xs.length<64:=by
   have h1:=hd.len;rw[dN] at h1;lia
  refine δ (bU (QK (s:={ s with heap:=h1,toks:=tk1 }) hS1 hlen hu (key1 p hpm) fun b h2 tk2 xs2 _ sb hS2 q1 q2=>?_));have hd2:ve (ps.take (i+1)) xs2:=by
   rw[List.take_add_one,hp];exact hd.add q1 q2
  obtain⟨oS,_,_,_,SS,_⟩:=hS1;refine ν ⟨iN fG _,ih (i+1) _ xs2 (by lia) hlt (W.frame _ _ _ hst1 fun c hc ob e=>(sb.2 c (fun z=>hSf (z▸hc))).trans e) hS2 hd2 (fun q hq=>zx SS.at_ SS.dat sb (key1 q hq)) fun h' tk xs' kp' a1 a2=>?_⟩;exact hR h' tk xs' (fun c ob c1 c2 e=>kp' c ob c1 c2 ((sb.2 c c1).trans (kp1' c ob c2 e))) a1 a2
set_option maxHeartbeats 6400000 in
theorem wq{l:ζ}{vs:List ε}{ps:List (List Int×ζ)}{Q:ε->θ->Prop}(hh:A.handled=none)(hl:s.heap.IsList l vs.toArray)(hv:vs=ps.map fun p=>aQ p.2)(hk:∀p∈ps,iL prog w s.heap p.1 p.2)(hn:ps.length≤60)
  (hu:A.units+4<cLine)
  (h:∀h' tk xs,(∀b ob,s.heap.get? b=some ob->h'.get? b=some ob)->lY prog w h' s.heap.objs.size xs->ve ps xs->Q (.ref s.heap.objs.size) { s with heap:=h',toks:=tk }):
  π (model prog w) A (call (.type "set") [.ref l]) Q E s:=by
 obtain⟨c,tl,hmro⟩:=F.called_set.mro;have hmade:=F.called_set.made;have hsub:=F.called_set.sub;refine gO (pe ?_);show π _ _ (callAny (.type "set") _) _ _ _;refine ν ⟨mD _ (by decide +kernel),eW F.entry_type_call ?_⟩;rw[aB.under_plain (weight_type_call_type "set" [.ref l] []) rfl];have h1:=F.called_set.notType;have h2:=F.called_set.canCreate;have hct:=F.typeCall_set_1 (.ref l)
 repeat (any_goals (first|assumption|wp_step))
 refine eV (Qy (.ref l) (E:=E) (Q₁:=fun obj s₁=>obj=.ref s.heap.objs.size/\s₁={ s with heap:=s.heap.push (gk w)}) ⟨rfl,rfl⟩) fun r s₁ hr=>?_;cases r with
 |error e=>exact hr
 |ok fl=>
  cases fl with
  |ret obj=>
   obtain⟨rfl,rfl⟩:=hr;have hS:(s.heap.push (gk w)).get? s.heap.objs.size=some (gk w):=Ψ _ rfl;have hT:rE { s with heap:=s.heap.push (gk w)} (.ref s.heap.objs.size) "set":=⟨_,hS,rfl⟩;have hli:=F.called_set.init.lookup;have hbi:=F.called_set.init.bind (.ref s.heap.objs.size)
   repeat (any_goals (first|assumption|wp_step))
   refine eV (la (R:=wants (fun r s₂=>r=.none/\∃h' tk xs,s₂={ s with heap:=h',toks:=tk }/\(∀b ob,s.heap.get? b=some ob->h'.get? b=some ob)/\lY prog w h' s.heap.objs.size xs/\ve ps xs) E)
    F.called_set.init.plain F.entry_set_init (check_set_init_1 hT ?_)) fun r₂ s₂ hr₂=>?_
   ·obtain⟨ol,hol,hcl,nl,hdl⟩:=hl;obtain⟨ocls,odict,odata,oslots⟩:=ol;simp only at hcl hdl;subst hcl;subst hdl;have hol':(s.heap.push (gk w)).get? l=some { cls:=.type "list",dict:=odict,data:=.seq vs.toArray nl,slots:=oslots }:=μ _ hol;have hsls:=F.sub_list_set;have hslf:=F.sub_list_frozenset;have cu:(nC "list" == nC "dict")=false:=by decide
    have hl1:(s.heap.push (gk w)).IsList l vs.toArray:=⟨_,hol',rfl,nl,rfl⟩;have hS2:(s.heap.push (gk w)).get? s.heap.objs.size=some { cls:=.type "set",dict:=none,data:=.set #[] 0 (.fresh 0 0 (!(j6 w)))}:=hS;unfold cO.«set.__init__» noKeywords cO.Frozenset.updateFrom;generalize hPI:pyIter=PI;wp_walk;subst hPI;refine fb hl1 ?_;refine δ (wpAny_runValue ?_);have hlS:l<s.heap.objs.size:=Φ hol;have hh3:A.in1.in1.in1.handled=none:=by simp[hh]
    have hu3:A.in1.in1.in1.units<cLine:=by
     show A.units+1+1+1<cLine;lia
    have gy:(s.heap.push (gk w)).objs.size=s.heap.objs.size+1:=dw ..;have hneI:l≠(s.heap.push (gk w)).objs.size:=by
     rw[gy];exact bt (g9 hlS)
    have hSf:s.heap.objs.size∉[(s.heap.push (gk w)).objs.size,l]:=by
     rw[gy];intro z;rcases aa.mp z with z|z
     ·exact absurd z (bt (kx _))
     ·have:s.heap.objs.size=l:=by simpa using z
      exact absurd this (iq hlS)
    have hlen:vs.toArray.size=ps.length:=by rw[hv];simp
    refine Qw (Walks.list hh3 _ l hneI vs.toArray) s.heap.objs.size hSf ps hlen.symm (by rw[hlen];exact hn) hu3 (fun i v e=>?_) (fun p hp=>?_) (vs.toArray.size-0) 0 _ [] rfl (ax _)
     ⟨⟨_,Ψ _ rfl,rfl,rfl⟩,hl1.push _⟩ ?hS0 ⟨(fun p hp=>(nomatch hp)),(fun p hp=>by rw[List.take_zero] at hp;cases hp),ax _⟩ (fun p hp=>?_) ?hR
    case hS0=>
     refine⟨_,#[],0,_,⟨μ _ hS2,⟨rfl,rfl,rfl⟩,rfl,rfl,(fun p hp=>(nomatch hp)),List.nodup_nil,rfl,rfl⟩,Qx _⟩
    case hR=>
     intro h' tk xs q1 q2 q3;refine ν ?_;show π _ _ (ret bf) _ _ _;refine ν ⟨rfl,h',tk,xs,rfl,fun b ob e=>?_,q2,q3⟩;have hb:=Φ e;refine q1 b ob (bt hb) ?_ (μ _ (μ _ e));rw[gy];exact bt (g9 hb)
    ·rw[hv,ql,aS] at e;cases hp:ps[i]? with
     |none=>rw[hp] at e;cases e
     |some p=>rw[hp] at e;exact⟨p,rfl,(ao e).symm⟩
    ·obtain⟨oy,_,_,ho,_⟩:=hk p hp;have hb:=Φ ho;rw[gy];exact⟨bt (g9 hb),bt hb⟩
    ·obtain⟨oy,items,m,ho,r⟩:=hk p hp;exact⟨oy,items,m,μ _ (μ _ ho),r⟩
   ·cases r₂ with
    |error e=>exact hr₂
    |ok fl₂=>
     cases fl₂ with
     |ret r=>
      obtain⟨rfl,h',tk,xs,rfl,q1,q2,q3⟩:=hr₂
      repeat (any_goals (first|assumption|wp_step))
      exact h _ _ _ q1 q2 q3
     |_=>exact hr₂.elim
  |_=>exact hr.elim
end
end jc
namespace tL
open PySem PySem.W PyProof.Rows jc J8
def lx:List Int->List Int->Bool
 |[],[]=>false
 |[],_::_=>true
 |_::_,[]=>false
 |x::xs,y::ys=>if x=y then lx xs ys else decide (x<y)
theorem Hw:∀{x y:List Int},lx x y=true->lx y x=false
 |[],[],h=>by cases h
 |[],_::_,_=>rfl
 |_::_,[],h=>by cases h
 |x::xs,y::ys,h=>by
  unfold lx at h ⊢;by_cases e:x=y
  ·rw[if_pos e] at h;rw[if_pos e.symm];exact Hw h
  ·rw[if_neg e] at h;rw[if_neg (du e)];have:=of_decide_eq_true h;exact decide_eq_false (by lia)
theorem Hu:∀{a b c:List Int},lx b a=false->lx c b=false->lx c a=false
 |[],b,[],_,_=>rfl
 |[],[],c::cs,_,h=>h
 |[],b::bs,c::cs,h,_=>rfl
 |a::as,[],c,h,_=>by cases h
 |a::as,b::bs,[],_,h=>by cases h
 |a::as,b::bs,c::cs,h1,h2=>by
  unfold lx at h1 h2 ⊢;by_cases e1:b=a
  ·rw[if_pos e1] at h1;by_cases e2:c=b
   ·rw[if_pos e2] at h2;rw[if_pos (e2.trans e1)];exact Hu h1 h2
   ·rw[if_neg e2] at h2;have:=of_decide_eq_false h2;by_cases e3:c=a
    ·lia
    ·rw[if_neg e3];exact decide_eq_false (by lia)
  ·rw[if_neg e1] at h1;have:=of_decide_eq_false h1;by_cases e2:c=b
   ·rw[if_neg (by lia)];exact decide_eq_false (by lia)
   ·rw[if_neg e2] at h2;have:=of_decide_eq_false h2;by_cases e3:c=a
    ·lia
    ·rw[if_neg e3];exact decide_eq_false (by lia)
section
variable {prog:Ω} {w:aj} {A:aB} {E:ε->θ->Prop} {s:θ}
theorem Qv{Q:Bool->θ->Prop}:∀(xs ys:List Int) (us vs:List ε) (i:Nat) (fin:Bool),ItemsAre (intKind prog w) xs us->ItemsAre (intKind prog w) ys vs ->
  (fin=decide (us.length<vs.length)∨∃n m,fin=decide (n+us.length<n+vs.length)/\m=n)->Q (lx xs ys) s->KatLex prog w A true fin Q (us.zip vs) i s:=by
 intro xs
 induction xs with
 |nil=>
  intro ys us vs i fin h1 h2 hf h;cases h1;cases h2 with
  |nil=>
   have:fin=false:=by
    rcases hf with hf|⟨n,m,hf,_⟩<;>simp at hf<;>exact hf
   rw[this];exact kat_nil h
  |cons h3 h4=>
   have:fin=true:=by
    rcases hf with hf|⟨n,m,hf,_⟩<;>rw[hf]<;>simp
   rw[this];exact kat_nil h
 |cons x xs ih=>
  intro ys us vs i fin h1 h2 hf h;cases h1 with
  |cons h1 h1'=>
  cases h2 with
  |nil=>
   have:fin=false:=by
    rcases hf with hf|⟨n,m,hf,_⟩<;>rw[hf]<;>simp
   rw[this];exact kat_nil h
  |cons h3 h4=>
   obtain⟨t,rfl⟩:=g8 h1;obtain⟨t',rfl⟩:=g8 h3;refine kat_cons (wpAny_eqBool_int ?_);unfold lx at h;rename_i _ y ys _;by_cases e:x=y
   ·rw[if_pos e] at h;have:(x==y)=true:=by simpa using e
    rw[this];refine kat_yes (ih ys _ _ (i+1) fin h1' h4 (.inr ?_) h);rcases hf with hf|⟨n,m,hf,_⟩
    ·exact⟨1,1,by rw[hf];simp[Nat.add_comm],rfl⟩
    ·exact⟨n+1,n+1,by rw[hf];congr 1;simp only[ak];apply propext;lia,rfl⟩
   ·rw[if_neg e] at h;have:(x==y)=false:=by simpa using e
    rw[this];refine kat_no ?_;by_cases hi:i=0
    ·subst hi;exact oneLt_int h
    ·have hb:(true&&i==0)=false:=by simp[hi]
     rw[hb];exact kat_one _ _ (lt_int h)
theorem Qu{Q:Bool->θ->Prop}{x y:List Int}{a b:ζ}(hx:iL prog w s.heap x a)(hy:iL prog w s.heap y b)(h:Q (lx x y) s):π (model prog w) A (keyLt' (tuples' true) (.ref a) (.ref b)) Q E s:=by
 obtain⟨o,its,n,ho,_,hd,hi⟩:=hx;obtain⟨o',its',n',ho',_,hd',hi'⟩:=hy;exact kat_lt ho hd ho' hd' (Qv x y its.toList its'.toList 0 _ hi hi' (.inl (by simp)) h)
def uL{α:Type}(lt:α->α->Bool)(d:α)(ps:List α)(i j:Nat):Bool:=lt (ps.getD i d) (ps.getD j d)
structure AB{α:Type}(lt:α->α->Bool):Prop where
 yy:∀x y,lt x y=true->lt y x=false
 t4:∀x y z,lt y x=false->lt z y=false->lt z x=false
theorem Qt{α:Type}{lt:α->α->Bool}(O:AB lt)(d:α)(ps:List α)(n:Nat):Ord n (uL lt d ps):=⟨fun a b _ _ h=>O.yy _ _ h,fun a b c _ _ _ h1 h2=>O.t4 _ _ _ h1 h2⟩
abbrev JH(x y:List Int×ζ):Bool:=lx x.1 y.1
abbrev fT(p:List Int×ζ):ε:=.ref p.2
theorem WC:AB JH:=⟨fun _ _ h=>Hw h,fun _ _ _ h1 h2=>Hu h1 h2⟩
def W7(n:Nat)(lt:Nat->Nat->Bool)(i j:Nat)(C:Bool->θ->Prop)(s:θ):Prop:=i<n/\j<n/\C (lt i j) s
theorem conv{α:Type}{n:Nat}{lt:Nat->Nat->Bool}{κ:oB}{vs:List ε}{Q:α->θ->Prop}(ha:∀i j,i<n->j<n->∀C:Bool->θ->Prop,C (lt i j) s->lU prog w A κ vs i j C s):
  ∀t:KasT α,t.kasWp (W7 n lt) Q s->t.kasWp (lU prog w A κ vs) Q s
 |.ret a,h=>h
 |.ask i j k,h=>by
  obtain⟨h1,h2,h3⟩:=h;exact ha i j h1 h2 _ (conv ha (k (lt i j)) h3)
theorem Cj{α:Type}{f:α->ε}{d:α}{ps:List α}{i:Nat}(hi:i<ps.length):(ps.map f).getD i bf=f (ps.getD i d):=by
 simp[mz,hi]
theorem getD_mem{ps:List (List Int×ζ)}{i:Nat}(hi:i<ps.length):ps.getD i ([],0)∈ps:=by
 simp[mz,hi]
theorem Qs{ps:List (List Int×ζ)}(hk:∀p∈ps,iL prog w s.heap p.1 p.2):∀i j,i<ps.length->j<ps.length->∀C:Bool->θ->Prop,C (uL JH ([],0) ps i j) s->lU prog w A (tuples' true) (ps.map fT) i j C s:=fun i j hi hj C h=>by
 unfold lU;rw[Cj (d:=([],0)) hi,Cj (d:=([],0)) hj];exact Qu (hk _ (getD_mem hi)) (hk _ (getD_mem hj)) h
theorem Ht{h:af}:∀{ps:List (List Int×ζ)},(∀p∈ps,iL prog w h p.1 p.2/\p.1≠[])->∃fs,KatTups h (ps.map fun p=>aQ p.2) fs/\fs.length=ps.length/\∀v∈fs,∃i t,v=.int i t
 |[],_=>⟨[],.nil,rfl,fun v hv=>nomatch hv⟩
 |p::ps,hk=>by
  obtain⟨fs,h1,h2,h3⟩:=Ht (ps:=ps) fun q hq=>hk q (ω _ hq);obtain⟨⟨o,its,n,ho,hc,hd,hi⟩,cu⟩:=hk p ψ;obtain⟨ks,a⟩:=p;cases ks with
  |nil=>exact absurd rfl cu
  |cons k ks=>
   obtain⟨its⟩:=its;cases hi with
   |cons h4 h5=>
    rename_i v vs;obtain⟨t,e⟩:=g8 h4;refine⟨v::fs,KatTups.cons ho hc hd (by simp) h1,by simp[h2],fun u hu=>?_⟩;rcases aa.mp hu with q|q
    ·exact⟨k,t,q.trans e⟩
    ·exact h3 u q
theorem Qr{ps:List (List Int×ζ)}(cu:ps≠[])(hk:∀p∈ps,iL prog w s.heap p.1 p.2/\p.1≠[]){Q:oB->θ->Prop}(h:Q (tuples' true) s):π (model prog w) A (keyKind' (ps.map fT).toArray) Q E s:=by
 obtain⟨fs,h1,h2,h3⟩:=Ht hk;have hl:0<fs.length:=by
  rw[h2];exact List.length_pos_iff.mpr cu
 refine kat_kind (T:=.type "int") h1 hl (fun v hv=>?_) rfl h;obtain⟨i,t,rfl⟩:=h3 v hv;exact .now
structure v7{α:Type}(lt:α->α->Bool)(ps qs:List α):Prop where
 perm:qs.Perm ps
 rise:qs.Pairwise fun x y=>lt y x=false
abbrev Lj(ps qs:List (List Int×ζ)):Prop:=v7 JH ps qs
theorem Qq{α:Type}{lt:α->α->Bool}{d:α}{ps:List α}{p:Array Nat}(v:Va ps.length p)(S:So (uL lt d ps) p ps.length):v7 lt ps (p.toList.map fun i=>ps.getD i d):=by
 refine⟨?_,?_⟩
 ·refine (v.perm.map _).trans ?_;have:(aO ps.length).map (fun i=>ps.getD i d)=ps:=by
   refine List.ext_getElem? fun i=>?_;by_cases hi:i<ps.length
   ·simp[aS,rN hi,mz,hi]
   ·rw[dD.mpr (by simpa using hi),dD.mpr (by lia)]
  rw[this]
 ·rw[jX,fX];intro i j hi hj hij;have hs:=v.size;have h1:i<ps.length:=by rw[←hs];simpa using hi
  have h2:j<ps.length:=by rw[←hs];simpa using hj
  have e1:p.toList[i]=g p i:=by
   have:=v.get h1;simp[g,ly,hs,h1]
  have e2:p.toList[j]=g p j:=by simp[g,ly,hs,h2]
  rw[e1,e2];exact S i j (oM hij) h2
theorem Qp{α:Type}{f:α->ε}{d:α}{ps:List α}{p:Array Nat}(v:Va ps.length p):(p.toList.map fun i=>(ps.map f).getD i bf)=(p.toList.map fun i=>ps.getD i d).map f:=by
 rw[fI];refine iV fun i hi=>?_;have:i<ps.length:=by
  have:=v.perm.mem_iff.mp hi;simpa using this
 exact Cj this
theorem Qo{α:Type}{lt:α->α->Bool}{f:α->ε}{d:α}{κ:oB}(O:AB lt){a:ζ}{n:Nat}{ps:List α}{P:sT->θ->Prop}(ho:s.heap.get? a=some (seqObj "list" (ps.map f).toArray n))
  (hk:∀h',(∀b o,b≠a->s.heap.get? b=some o->h'.get? b=some o)->(∀(Q:oB->θ->Prop) (E':ε->θ->Prop),Q κ { s with heap:=h' }->π (model prog w) A (keyKind' (ps.map f).toArray) Q E' { s with heap:=h' }) ∧
   ∀i j,i<ps.length->j<ps.length->∀C:Bool->θ->Prop,C (uL lt d ps i j) { s with heap:=h' }->lU prog w A κ (ps.map f) i j C { s with heap:=h' }) (h2:2≤ps.length) (h64:ps.length<64)
  (h:∀qs h' c,v7 lt ps qs->h'.get? a=some (seqObj "list" (qs.map f).toArray c)->(∀b o,b≠a->s.heap.get? b=some o->h'.get? b=some o)->P (.done (.ret .none)) { s with heap:=h' }):
  π (model prog w) A (cO.«list.sort» ⟨[.ref a],[]⟩) P E s:=by
 have ha:a<s.heap.objs.size:=Φ ho;have s1:=dz s.heap a (bw fun _=>(#[]:Array ε));obtain⟨e1,ho1⟩:∃e1,(s.heap.update a (bw fun _=>(#[]:Array ε))).get? a=some (seqObj "list" #[] e1):=⟨_,kZ ho fun _=>#[]⟩;generalize hvs:(ps.map f)=vs at ho;have hlen:vs.length=ps.length:=by rw[←hvs,ο]
 have hu3:∀b o,b≠a->s.heap.get? b=some o->(((s.heap.update a (bw fun _=>(#[]:Array ε))).push (seqObj "tuple" vs.toArray 0)).push (seqObj "list" #[] 0)).get? b=some o:=fun b o hb e=>
  μ _ (μ _ ((s1.2 b hb).trans e))
 have ho3:(((s.heap.update a (bw fun _=>(#[]:Array ε))).push (seqObj "tuple" vs.toArray 0)).push (seqObj "list" #[] 0)).get? a=some (seqObj "list" #[] e1):=μ _ (μ _ ho1);rw[list_sort_plain];refine δ (listItems_at ho rfl ?_);refine δ (mS ho rfl ?_ (by rw[χ,cS];lia) (ax _));refine δ (pK ho1 rfl ?_);refine δ (qc ?_ (by show vs.length≤_;rw[cS];lia));refine δ (rB ?_ (ax _));refine bU ?_;show π (model prog w) A _ P E { s with heap:=((s.heap.update a (bw fun _=>(#[]:Array ε))).push (seqObj "tuple" vs.toArray 0)).push (seqObj "list" #[] 0)};generalize ((s.heap.update a (bw fun _=>(#[]:Array ε))).push (seqObj "tuple" vs.toArray 0)).push (seqObj "list" #[] 0)=h3 at hu3 ho3 ⊢;obtain⟨hk1,hk2⟩:=hk h3 hu3;dsimp only;have hn2:¬vs.toArray.size<2:=by rw[χ];lia
 rw[if_neg hn2,if_neg hn2];refine δ ?_;rw[←hvs];refine hk1 _ _ ?_;have hsort:(kas_sort vs.length).kasWp (lU prog w A κ (ps.map f)) (fun p s'=>s'={ s with heap:=h3 }/\Va ps.length p/\So (uL lt d ps) p ps.length) { s with heap:=h3 }:=by
  refine conv (lt:=uL lt d ps) (n:=ps.length) hk2 _ ?_
  rw[hlen];exact Q9 (Qt O d ps ps.length) (fun i j hi hj C s' hC=>⟨hi,hj,hC⟩) (by lia) fun p v S=>⟨rfl,v,S⟩
 have hsort:(kas_sort (ps.map f).length).kasWp (lU prog w A κ (ps.map f)) (fun p s'=>s'={ s with heap:=h3 }/\Va ps.length p/\So (uL lt d ps) p ps.length) { s with heap:=h3 }:=by
  rw[hlen] at hsort;rw[ο];exact hsort
 refine δ (cH (kat_run (Q:=fun st' s'=>∃p:Array Nat,p.size=(ps.map f).length/\arrOf st'=p.map (kas_item ((ps.map f).toArray.zip (ps.map f).toArray))/\failedOf st'=none/\s'={ s with heap:=h3 }/\Va ps.length p/\So (uL lt d ps) p ps.length)
  rfl (by rw[ο];exact h2) (by rw[ο];exact h64) (fun p' st' s' a1 a2 a3 a4=>⟨p',a1,a2,a3,a4⟩) hsort) ?_ fun _ _ e=>e)
 rintro⟨⟨⟩,st'⟩ s' ⟨p,hp,har,hf,rfl,va,so⟩;dsimp only;have hout:=kat_snds rfl har;rw[Qp va] at hout;have hS:=Qq va so;generalize (p.toList.map fun i=>ps.getD i d)=qs at hout hS;have gy:(jm (qs.map f)).size=ps.length:=by rw[χ,ο,hS.perm.length_eq]
 rw[hout];have s2:=dz h3 a (bw fun _=>jm (qs.map f));obtain⟨c2,hc2⟩:∃c2,(h3.update a (bw fun _=>jm (qs.map f))).get? a=some (seqObj "list" (jm (qs.map f)) c2):=⟨_,kZ ho3 fun _=>jm (qs.map f)⟩;refine δ (pK ho3 rfl ?_);refine δ (mS ho3 rfl ?_ (ax _) (aK (Nat.le_of_eq gy) (by rw[cS];lia)));rw[hf];simp only[bne_self_eq_false,gV,if_false];exact ν (h qs _ c2 hS hc2 fun b o hb e=>(s2.2 b hb).trans (hu3 b o hb e))
theorem Qn{a:ζ}{n:Nat}{vs:List ε}{P:sT->θ->Prop}(ho:s.heap.get? a=some (seqObj "list" vs.toArray n))(h2:vs.length<2)
  (h:∀h' c,h'.get? a=some (seqObj "list" vs.toArray c)->(∀b o,b≠a->s.heap.get? b=some o->h'.get? b=some o)->P (.done (.ret .none)) { s with heap:=h' }):
  π (model prog w) A (cO.«list.sort» ⟨[.ref a],[]⟩) P E s:=by
 have s1:=dz s.heap a (bw fun _=>(#[]:Array ε));obtain⟨e1,ho1⟩:∃e1,(s.heap.update a (bw fun _=>(#[]:Array ε))).get? a=some (seqObj "list" #[] e1):=⟨_,kZ ho fun _=>#[]⟩;have hu3:∀b o,b≠a->s.heap.get? b=some o->(((s.heap.update a (bw fun _=>(#[]:Array ε))).push (seqObj "tuple" vs.toArray 0)).push (seqObj "list" #[] 0)).get? b=some o:=fun b o hb e=>
  μ _ (μ _ ((s1.2 b hb).trans e))
 have ho3:(((s.heap.update a (bw fun _=>(#[]:Array ε))).push (seqObj "tuple" vs.toArray 0)).push (seqObj "list" #[] 0)).get? a=some (seqObj "list" #[] e1):=μ _ (μ _ ho1);rw[list_sort_plain];refine δ (listItems_at ho rfl ?_);refine δ (mS ho rfl ?_ (by rw[χ,cS];lia) (ax _));refine δ (pK ho1 rfl ?_);refine δ (qc ?_ (by show vs.length≤_;rw[cS];lia));refine δ (rB ?_ (ax _));refine bU ?_;show π (model prog w) A _ P E { s with heap:=((s.heap.update a (bw fun _=>(#[]:Array ε))).push (seqObj "tuple" vs.toArray 0)).push (seqObj "list" #[] 0)};generalize ((s.heap.update a (bw fun _=>(#[]:Array ε))).push (seqObj "tuple" vs.toArray 0)).push (seqObj "list" #[] 0)=h3 at hu3 ho3 ⊢;dsimp only;have hn2:vs.toArray.size<2:=by rw[χ];lia
 rw[if_pos hn2,if_pos hn2];refine δ (ν ?_);rw[StateT.run_pure];refine δ (ν ?_);dsimp only;have hout:(arrOf (SortSt.mk' general' (vs.toArray.zip vs.toArray) #[] 7 none)).map (·.2)=vs.toArray:=by
  show (vs.toArray.zip vs.toArray).map (·.2)=vs.toArray;refine Array.ext (by simp) fun i h1 h2=>?_;simp
 rw[hout];have s2:=dz h3 a (bw fun _=>vs.toArray);obtain⟨c2,hc2⟩:∃c2,(h3.update a (bw fun _=>vs.toArray)).get? a=some (seqObj "list" vs.toArray c2):=⟨_,kZ ho3 fun _=>vs.toArray⟩;refine δ (pK ho3 rfl ?_);refine δ (mS ho3 rfl ?_ (ax _) (by rw[χ,cS];lia));simp only[bne_self_eq_false,gV,if_false];exact ν (h _ c2 hc2 fun b o hb e=>(s2.2 b hb).trans (hu3 b o hb e))
theorem Qm{h h':af}{ks:List Int}{a:ζ}(keep:∀c o,h.get? c=some o->h'.get? c=some o)(hk:iL prog w h ks a):iL prog w h' ks a:=by
 obtain⟨o,it,m,ho,r⟩:=hk;exact⟨o,it,m,keep a o ho,r⟩
theorem Ql{α:Type}{lt:α->α->Bool}{f:α->ε}{d:α}{κ:oB}(O:AB lt){l:ζ}{ps:List α}{Q:ε->θ->Prop}
  (hk:∀s':θ,2≤ps.length->(∀b o,s.heap.get? b=some o->s'.heap.get? b=some o)->(∀(Q:oB->θ->Prop) (E':ε->θ->Prop),Q κ s'->π (model prog w) A.in1.in1 (keyKind' (ps.map f).toArray) Q E' s') ∧
   ∀i j,i<ps.length->j<ps.length->∀C:Bool->θ->Prop,C (uL lt d ps i j) s'->lU prog w A.in1.in1 κ (ps.map f) i j C s') (h64:ps.length<64)
  (C4:∀(R:List ε->θ->Prop),(∀s',Moved [] (fun x y=>y=x) s s'->R (ps.map f) s')->π (model prog w) A.in1 (collect (.ref l)) R E s)
  (h:∀qs s' c D,v7 lt ps qs->s.heap.get? D=none->s'.heap.get? D=some (seqObj "list" (qs.map f).toArray c)->Moved [] (fun x y=>y=x) s s'->Q (.ref D) s'):
  π (model prog w) A (call (.builtin "sorted") [.ref l]) Q E s:=by
 refine Calls.call_function_entry kind_sorted plain_sorted entry_sorted (args_sorted1 _) ?_;unfold cO.«sorted»;refine δ (m:=checkCount "sorted" 1 1 _) (ν ?_);refine δ (C4 _ fun s1 hm=>?_);refine δ (rB ?_ (by rw[ο,cS];lia));have hoL:(s1.heap.push (seqObj "list" (ps.map f).toArray 0)).get? s1.heap.objs.size=some (seqObj "list" (ps.map f).toArray 0):=Ψ _ rfl;have keep0:∀b o,s.heap.get? b=some o->s1.heap.get? b=some o:=fun b o e=>hm.heap b o (fun z=>nomatch z) e;have kN:s.heap.get? s1.heap.objs.size=none:=by
  cases hz:s.heap.get? s1.heap.objs.size with
  |none=>rfl
  |some o=>exact absurd (Φ (keep0 _ _ hz)) (cm _)
 have keep:∀b o,s.heap.get? b=some o->(s1.heap.push (seqObj "list" (ps.map f).toArray 0)).get? b=some o:=fun b o e=>μ _ (keep0 b o e);show π _ _ _ _ _ { s1 with heap:=s1.heap.push (seqObj "list" (ps.map f).toArray 0)};refine δ (bU (ck slot_list_sort ⟨_,hoL,rfl⟩ entry_list_sort ?body (args_list_sort _)));have fin:∀qs h' c,v7 lt ps qs->h'.get? s1.heap.objs.size=some (seqObj "list" (qs.map f).toArray c)->(∀b o,b≠s1.heap.objs.size->(s1.heap.push (seqObj "list" (ps.map f).toArray 0)).get? b=some o->h'.get? b=some o)->Q (.ref s1.heap.objs.size) { s1 with heap:=h' }:=fun qs h' c hS e kk=>
  h qs _ c _ hS kN e ⟨fun b o _ e1=>kk b o (bt (Φ (keep0 b o e1))) (keep b o e1),hm.gens,hm.drawn,hm.os,hm.toks⟩
 case body=>
  by_cases h2:2≤ps.length
  ·refine Qo O (s:={ s1 with heap:=s1.heap.push (seqObj "list" (ps.map f).toArray 0)}) hoL (fun h' kk=>hk { s1 with heap:=h' } h2 fun b o e=>kk b o (bt (Φ (keep0 b o e))) (keep b o e)) h2 h64 fun qs h' c hS e kk=>?_;exact⟨_,rfl,ν ⟨_,rfl,fin qs h' c hS e kk⟩⟩
  ·refine Qn (s:={ s1 with heap:=s1.heap.push (seqObj "list" (ps.map f).toArray 0)}) hoL (by rw[ο];lia) fun h' c e kk=>?_;have hS:v7 lt ps ps:=⟨.refl _,by
    rcases ps with _|⟨x,_|⟨y,r⟩⟩
    ·exact .nil
    ·exact oX _ _
    ·simp at h2⟩
   exact⟨_,rfl,ν ⟨_,rfl,fin ps h' c hS e kk⟩⟩
theorem AR{l:ζ}{ps:List (List Int×ζ)}{Q:ε->θ->Prop}(hk:∀p∈ps,iL prog w s.heap p.1 p.2/\p.1≠[])(h64:ps.length<64)
  (C4:∀(R:List ε->θ->Prop),(∀s',Moved [] (fun x y=>y=x) s s'->R (ps.map fT) s')->π (model prog w) A.in1 (collect (.ref l)) R E s)
  (h:∀qs s' c D,Lj ps qs->s.heap.get? D=none->s'.heap.get? D=some (seqObj "list" (qs.map fT).toArray c)->Moved [] (fun x y=>y=x) s s'->Q (.ref D) s'):
  π (model prog w) A (call (.builtin "sorted") [.ref l]) Q E s:=by
 refine Ql (κ:=tuples' true) (d:=([],0)) WC (fun s' h2 kk=>?_) h64 C4 h;have hk':∀p∈ps,iL prog w s'.heap p.1 p.2/\p.1≠[]:=fun p hp=>⟨Qm kk (hk p hp).1,(hk p hp).2⟩;exact⟨fun Q E q=>Qr (fun z=>by rw[z] at h2;simp at h2) hk' q,Qs fun p hp=>(hk' p hp).1⟩
end
end tL
namespace L3
open PySem PySem.Spec PyProof.Rows L2
structure x9(T:String):Prop where
 av:∀K,aq K (.type "NoneType") (.type T)=some false
 bl:∀K,aq K (.type "bool") (.type T)=some (T=="bool" || T=="int")
 int:∀K,aq K (.type "int") (.type T)=some (T=="int")
 str:∀K,aq K (.type "str") (.type T)=some (T=="str")
 tup:∀K,aq K (.type "tuple") (.type T)=some (T=="tuple")
 lst:∀K,aq K (.type "list") (.type T)=some (T=="list")
 eL:∀K,aq K (.type "dict") (.type T)=some (T=="dict")
theorem Hs:x9 "int":=⟨fun _=>rfl,fun _=>rfl,fun _=>rfl,fun _=>rfl,fun _=>rfl,fun _=>rfl,fun _=>rfl⟩
theorem Hr:x9 "bool":=⟨fun _=>rfl,fun _=>rfl,fun _=>rfl,fun _=>rfl,fun _=>rfl,fun _=>rfl,fun _=>rfl⟩
theorem kit_tuple:x9 "tuple":=⟨fun _=>rfl,fun _=>rfl,fun _=>rfl,fun _=>rfl,fun _=>rfl,fun _=>rfl,fun _=>rfl⟩
theorem Qk:x9 "str":=⟨fun _=>rfl,fun _=>rfl,fun _=>rfl,fun _=>rfl,fun _=>rfl,fun _=>rfl,fun _=>rfl⟩
section
variable {X:Cx} {a e:ρ} {es:List ρ} {ta:aw} {t:cw} {pos p p2:aJ}
theorem Q2{T:String}(k:x9 T):iB X (.builtin "isinstance") (fun vs H Q=>∃d v G b,vs=[v,.ty T]/\Hv X.K H d v/\aM X.K G H/\gJ T G d=some b/\Q (.bl b) H):=by
 intro pins s σ H vs us Q I r h;obtain⟨d,v,G,b,rfl,hd,RG,hb,q⟩:=h;obtain⟨u,c,rfl,ru,rc⟩:=vals2 r;cases (show c=nC T from rc);have fin:∀tk,EP X pins σ Q (.bool b) { s with toks:=tk }:=fun tk=>⟨.bl b,H,I.tok tk,rfl,q⟩
 cases d with
 |av=>
  unfold Hv at hd;subst hd;cases (show u=bf from ru);cases hb;exact dg PySem.W.kitx_none I.gI qW (k.av _) (fun z=>nomatch z) fin
 |bl y=>
  rw[ui hd] at ru;cases (show u=cB y from ru);cases hb;exact dg PySem.W.kitx_bool I.gI qW (k.bl _) (fun z=>nomatch z) fin
 |int y=>
  rw[gG hd] at ru;obtain⟨t,rfl⟩:=(show ∃t,u=mr y t from ru);cases hb;exact dg PySem.W.kitx_int I.gI qW (k.int _) (fun z=>nomatch z) fin
 |str y=>
  unfold Hv at hd;subst hd;obtain⟨t,rfl⟩:=(show ∃t,u=sR y t from ru);cases hb;exact dg PySem.W.kitx_str I.gI qW (k.str _) (fun z=>nomatch z) fin
 |tup ds=>
  obtain⟨x,xs,rfl,e1,_⟩:=kr hd;cases (show u=aQ x from ru);cases hb;obtain⟨its,_,⟨o,h1,h2,_⟩,_⟩:=I.tuple e1;exact dg PySem.W.kitx_tuple I.gI ⟨o,h1,h2⟩ (k.tup _) (fun z=>nomatch z) fin
 |dA ds=>
  obtain⟨x,xs,rfl,e1,_⟩:=qE hd;cases (show u=aQ x from ru);cases hb;obtain⟨its,_,p1,_⟩:=I.list e1.l;obtain⟨o,h1,h2,_⟩:=p1.isList;exact dg m6 I.gI ⟨o,h1,h2⟩ (k.lst _) (fun z=>nomatch z) fin
 |dc x=>
  unfold Hv at hd;obtain⟨rfl,ob,φ,e1,c⟩:=hd;cases (show u=aQ x from ru);cases hb;obtain⟨h1,_⟩:=I.bx x _ e1;exact dg tV I.gI ⟨ob,h1,c⟩ (k.eL _) (fun z=>nomatch z) fin
 |obj x=>
  rw[iI hd] at ru;cases (show u=aQ x from ru);unfold gJ at hb;cases hG:G x with
  |none=>simp[hG] at hb
  |some o=>
   have hl:∀xs,H x=some (.lst xs)->∃o,s.heap.get? x=some o/\o.cls=.type "list":=fun xs e=>by
    obtain⟨_,_,n,_,h1⟩:=(show bV X.prog X.w H s.heap x (.lst xs) from I.bx x _ e);exact⟨_,h1,rfl⟩
   cases o with
   |lst ds=>
    simp only[hG] at hb;cases hb;obtain⟨vs,e1,_⟩:=RG x _ hG;obtain⟨o,h1,h2⟩:=hl _ e1;exact dg m6 I.gI ⟨o,h1,h2⟩ (k.lst _) (fun z=>nomatch z) fin
   |mm=>
    simp only[hG] at hb;cases hb;obtain⟨_,_,_,e1,_⟩:=RG x _ hG;obtain⟨o,h1,h2⟩:=hl _ e1;exact dg m6 I.gI ⟨o,h1,h2⟩ (k.lst _) (fun z=>nomatch z) fin
   |gen R=>simp[hG] at hb
   |eL=>
    simp only[hG] at hb;cases hb;have e1:H x=some (.ext fun h=>∃o,h.get? x=some o/\o.cls=.type "dict"):=RG x _ hG;obtain⟨⟨o,h1,h2⟩,_⟩:=(show bV X.prog X.w H s.heap x _ from I.bx x _ e1);exact dg tV I.gI ⟨o,h1,h2⟩ (k.eL _) (fun z=>nomatch z) fin
theorem Q1{T:String}{TS:ι}(k:x9 T)(hv:gp TS=some (.type T))(ha:bL X a ta)(hm:X.mg "isinstance" = none)(hm2:X.mg TS=none)(hgT:Gl X TS)(hnT:TS≠"__name__")(hdT:(TS==("__debug__":ι))=false)(hg:Gl X "isinstance":=by rfl)
  (he:notStar a=true:=by rfl):
  bL X (.Call (.Name "isinstance" p) [a,.Name TS p2] [] pos) (qP T ta):=
 hX (sk (Q2 k) hg hm rfl (qG ha (qG (Je (v:=.ty T) hgT hm2 hv rfl hnT hdT) vR (dY rfl)) (dY he)) (he:=dY he) (hpl:=jG rfl)) fun σ H Q ⟨τ,G,Q3,RS,RG,h,k⟩=>by
  refine⟨τ,G,_,RS,RG,h,fun v H1 d G1 h1 S1 R1 q1=>?_⟩;cases hb:gJ T G1 d with
  |none=>rw[hb] at q1;exact q1.elim
  |some b=>
   rw[hb] at q1;exact⟨d,v,G1,b,rfl,h1,R1,hb,k _ H1 (.bl b) G1 lE S1 R1 q1⟩
end
def tupI(ns:List Int):D:=.tup (ns.map D.int)
section
variable {P:Ω} {w:aj} {H:Hp} {h:af} {a:ζ} {o:HO}
theorem Q0(x:bV P w H h a o):∃o,h.get? a=some o:=by
 cases o with
 |lst xs=>obtain⟨_,_,_,_,e⟩:=x;exact⟨_,e⟩
 |tup xs=>obtain⟨_,_,_,o,e,_⟩:=x;exact⟨_,e⟩
 |dK kvs=>obtain⟨_,_,_,_,o,_,_,e,_⟩:=x;exact⟨_,e⟩
 |dT kvs=>obtain⟨_,_,_,_,o,_,_,e,_⟩:=x;exact⟨_,e⟩
 |set S n=>obtain⟨o,_,_,_,e,_⟩:=x;exact⟨_,e⟩
 |ins C dx fs=>obtain⟨_,_,_,e,_⟩:=x;exact⟨_,e⟩
 |own y=>obtain⟨_,e⟩:=x;exact⟨_,e⟩
 |xd fs=>obtain⟨_,⟨_,_,_,e,_⟩,_⟩:=x;exact⟨_,e⟩
 |AY lo hi=>obtain⟨_,_,_,e⟩:=x;exact⟨_,e⟩
 |cP ob u=>obtain⟨e,_⟩:=x;exact⟨_,e⟩
 |uI ps=>exact⟨_,(show h.get? a=some _ from x)⟩
 |met f y=>exact⟨_,(show h.get? a=some _ from x)⟩
 |ext φ=>obtain⟨_,⟨_,e⟩,_⟩:=x;exact⟨_,e⟩
end
section
variable {X:Cx} {pins:List (ζ×aL)} {σ:L2.St} {H:Hp} {s:θ}
theorem Inv.DW(I:Inv X pins σ H s){a:ζ}(hn:s.heap.get? a=none):H a=none:=by
 cases e:H a with
 |none=>rfl
 |some o=>
  obtain⟨ob,h⟩:=Q0 (I.bx a o e);rw[hn] at h;cases h
theorem Inv.KS{a:ζ}{o:HO}{t':Nat}{h':af}(I:Inv X pins σ H s)(k:∀b u,s.heap.get? b=some u->h'.get? b=some u)(hn:s.heap.get? a=none)(new:bV X.prog X.w (upd H a o) h' a o):
  Inv X pins σ (upd H a o) { s with heap:=h',toks:=t' }:=by
 have hH:=Inv.DW I hn;have ne:∀b u,s.heap.get? b=some u->b≠a:=fun b u e z=>by rw[z,hn] at e;cases e
 refine I.un ⟨fun b u q _ _ _=>k b u q,fun b u q _ _ _=>⟨u.slots,k b u q⟩,fun b u q n _=>by rw[dH (ne b u q)];exact n,fun b u q _=>⟨u,k b u q⟩,fun b xs q=>by rw[dH (lP q hH)];exact q,
  fun b u xs q=>by rw[dH (lP q hH)];exact q,fun b ps q=>⟨#[],by rw[dH (lP q hH),q];simp⟩⟩ fun b u e=>?_
 by_cases hb:b=a
 ·subst hb;rw[iJ] at e;cases e;exact new
 ·rw[dH hb] at e;exact (I.bx b u e).km (fun c v _ q=>k c v q) (fun c q=>by rw[dH (lP q hH)];exact q) fun c xs q=>by rw[dH (lP q hH)];exact q
theorem Hq{ns:List Int}:∀{us:List ε},aU (ns.map V.int) us->ItemsAre (intKind X.prog X.w) ns us:=by
 induction ns with
 |nil=>intro us r;cases r;exact .nil
 |cons n ns ih=>
  intro us r;cases r with
  |cons r1 r2=>
   obtain⟨t,rfl⟩:=(show ∃t,_=mr n t from r1);exact .cons (by show t9 n (.int n t)=true;simp[t9]) (ih r2)
theorem Ho(I:Inv X pins σ H s):∀{nss:List (List Int)} {vs:List V} {us:List ε},aD X.K H (nss.map tupI) vs->aU vs us ->
  ∃ps:List (List Int×ζ),ps.map (·.1)=nss/\vs=ps.map (fun p=>.ref p.2)/\us=ps.map (fun p=>aQ p.2)/\∀p∈ps,cY X.K H p.2 (p.1.map V.int)/\jc.iL X.prog X.w s.heap p.1 p.2
 |[],vs,us,h,r=>by
  cases h.gz;cases r;exact⟨[],rfl,rfl,rfl,fun p hp=>nomatch hp⟩
 |ns::nss,vs,us,h,r=>by
  obtain⟨v,vr,rfl,q1,q2⟩:=h.inv;cases r with
  |cons r1 r2=>
   obtain⟨ps,e1,e2,e3,e4⟩:=Ho I q2 r2;obtain⟨a,ws,rfl,z1,z2⟩:=kr q1;have hw:ws=ns.map V.int:=by
    refine sj z2 ?_;clear z2 z1 q1 h e1 e2 e3 e4 q2 r2 r1
    induction ns with
    |nil=>rfl
    |cons n ns ih=>simp[intsOf,ih]
   subst hw;cases (show _=aQ a from r1);obtain⟨its,rv,⟨o,h1,h2,n,h3⟩,_⟩:=I.tuple z1;refine⟨(ns,a)::ps,by simp[e1],by simp[e2],by simp[e3],fun p hp=>?_⟩;rcases aa.mp hp with rfl|hp
   ·exact⟨z1,o,its.toArray,n,h1,h2,h3,Hq rv⟩
   ·exact e4 p hp
theorem Hn{K:η}{H:Hp}:∀{qs:List (List Int×ζ)},(∀p∈qs,cY K H p.2 (p.1.map V.int))->aD K H ((qs.map (·.1)).map tupI) (qs.map fun p=>.ref p.2)
 |[],_=>.nil
 |q::qs,h=>.cons (qC (h q ψ) (aD.ints _)) (Hn fun p hp=>h p (ω _ hp))
theorem Hm:∀(qs:List (List Int×ζ)),aU (qs.map fun p=>V.ref p.2) (qs.map fun p=>aQ p.2)
 |[]=>.nil
 |q::qs=>.cons rfl (Hm qs)
def uZ(nss:List (List Int)):Prop:=nss.Pairwise fun x y=>tL.lx y x=false
theorem QZ{Q:VK}(I:Inv X pins σ H s){ps qs:List (List Int×ζ)}{s':θ}{c:Nat}{D':ζ}(hz:ps.length<64)(hS:tL.Lj ps qs)(hn:s.heap.get? D'=none)(hD:s'.heap.get? D'=some (seqObj "list" (qs.map fun p=>aQ p.2).toArray c))
  (hm:Moved [] (fun x y=>y=x) s s') (q:H D'=none->Q (.ref D') (upd H D' (.lst (qs.map fun p=>.ref p.2)))):EP X pins σ Q (.ref D') s':=by
 have e:s'={ s with heap:=s'.heap,toks:=s'.toks }:=by
  cases s';cases s;have h1:=hm.gens;have h2:=hm.drawn;have h3:=hm.os;simp only at h1 h2 h3;subst h1 h2 h3;rfl
 rw[e];refine⟨.ref D',_,Inv.KS I (o:=.lst (qs.map fun p=>.ref p.2)) (fun b u z=>hm.heap b u (fun y=>nomatch y) z) hn ?_,rfl,q (Inv.DW I hn)⟩;refine⟨?_,_,c,Hm qs,hD⟩;rw[ο,hS.perm.length_eq,cS];lia
end
end L3
namespace L3
open PySem PySem.Spec PyProof.Rows L2
def wO(P:Ω)(w:aj)(b:ζ)(zs:List (List Int×ζ)):af->Prop:=fun h=>∃o es ep t,h.get? b=some o/\o.ExactSet/\o.data=.set es ep t/\es.toList=zs.map (jc.ent P w)/\(zs.map (·.1)).Nodup/\t.plain=true ∧
 t.led=(!(w.params.followText "set-order"))/\om.Tab t (es.toList.map (·.1))
theorem QY{α β:Type}{f:α->β}{l l':List β}(h:l.Perm l'):∀{zs:List α},l'=zs.map f->∃zs':List α,zs'.Perm zs/\l=zs'.map f:=by
 induction h with
 |nil=>
  intro zs e;have:zs=[]:=by simpa using e.symm
  subst this;exact⟨[],.nil,rfl⟩
 |cons x _ ih=>
  intro zs e;cases zs with
  |nil=>cases e
  |cons z zs=>
   simp only[cN,vm] at e;obtain⟨zs',h1,h2⟩:=ih e.2;exact⟨z::zs',h1.cons z,by simp[e.1,h2]⟩
 |swap x y l=>
  intro zs e;rcases zs with _|⟨z,_|⟨z2,zs⟩⟩
  ·cases e
  ·simp at e
  ·simp only[cN,vm] at e;exact⟨z2::z::zs,.swap _ _ _,by simp[e.1,e.2.1,e.2.2]⟩
 |trans _ _ ih1 ih2=>
  intro zs e;obtain⟨z2,h1,h2⟩:=ih2 e;obtain⟨z1,h3,h4⟩:=ih1 h2;exact⟨z1,h3.trans h1,h4⟩
section
variable {X:Cx}
theorem QX(hc:X.calm=true)(hu:X.A.units+64<cLine):iB X (.type "set") (fun vs H Q=>∃(a:ζ) (xs:List V) (nss:List (List Int)),vs=[.ref a]/\ff X.K H a xs/\aD X.K H (nss.map tupI) xs/\nss.length≤60 ∧
  ∀(b:ζ) (zs:List (List Int×ζ)),H b=none->(∀p∈zs,cY X.K H p.2 (p.1.map V.int))->(∀ns,ns∈zs.map (·.1)↔ns∈nss)->(zs.map (·.1)).Nodup->zs.length≤nss.length->Q (.ref b) (upd H b (.ext (wO X.prog X.w b zs)))):=by
 intro pins s σ H vs us Q I r h;obtain⟨a,xs,nss,rfl,hl,hv,hz,q⟩:=h;obtain⟨u,rfl,ru⟩:=vals1 r;cases ru;obtain⟨its,rv,pl,_⟩:=I.list hl;obtain⟨ps,e1,e2,e3,e4⟩:=Ho I hv rv;subst e3;have hlen:ps.length=nss.length:=by rw[←e1,ο]
 refine jc.wq (ps:=ps) (I.ok.hd hc) pl.isList rfl (fun p hp=>(e4 p hp).2) (by lia) (by lia) fun h' tk zs kk hS hD=>?_;obtain⟨o,es,ep,t,S,T⟩:=hS;refine⟨.ref s.heap.objs.size,_,I.laid (o:=.ext (wO X.prog X.w s.heap.objs.size zs)) kk (Δ _) ?_,rfl,q _ zs (I.bx.fresh (Δ _)) (fun p hp=>(e4 p (hD.sub p hp)).1) (fun ns=>?_) S.nd ?_⟩
 ·refine⟨⟨o,es,ep,t,S.at_,S.ex,S.dat,S.ents,S.nd,S.plain,S.led,T⟩,⟨o,S.at_⟩,fun h1 h2 ⟨o',es',ep',t',y1,y⟩ kk2=>⟨o',es',ep',t',kk2 _ y1,y⟩⟩
 ·rw[←e1];constructor
  ·intro hm;obtain⟨p,hp,rfl⟩:=aX.mp hm;exact aX.mpr ⟨p,hD.sub p hp,rfl⟩
  ·intro hm;obtain⟨p,hp,rfl⟩:=aX.mp hm;exact hD.all p hp
 ·rw[←hlen];exact hD.len
theorem QV(hc:X.calm=true)(hu:X.A.units+64<cLine):iB X (.builtin "sorted") (fun vs H Q=>∃(b:ζ) (zs:List (List Int×ζ)),vs=[.ref b]/\H b=some (.ext (wO X.prog X.w b zs))/\(∀p∈zs,cY X.K H p.2 (p.1.map V.int))/\zs.length≤60/\(∀p∈zs,p.1≠[]) ∧
  ∀(p:ζ) (mss:List (List Int)) (ys:List V),H p=none->mss.Perm (zs.map (·.1))->uZ mss->aD X.K H (mss.map tupI) ys->Q (.ref p) (upd H p (.lst ys))):=by
 intro pins s σ H vs us Q I r h;obtain⟨b,zs,rfl,hb,hk,hz,cu,q⟩:=h;obtain⟨u,rfl,ru⟩:=vals1 r;cases ru;obtain⟨⟨o,es,ep,t,y1,y2,y3,y4,y5,y6,y7,T⟩,_⟩:=(show bV X.prog X.w H s.heap b _ from I.bx b _ hb);have hK:∀p∈zs,jc.iL X.prog X.w s.heap p.1 p.2:=fun p hp=>by
  obtain⟨its,rv,⟨o,h1,h2,n,h3⟩,_⟩:=I.tuple (hk p hp);exact⟨o,its.toArray,n,h1,h2,h3,Hq rv⟩
 have S:jc.lZ X.prog X.w s.heap b o es ep t zs:=⟨y1,y2,y3,y4,hK,y5,y6,y7⟩;obtain⟨zs',p1,p2⟩:=QY (jc.nj X.w b ep es) y4;have gy:es.size=zs.length:=by
  have:es.toList.length=zs.length:=by rw[y4,ο]
  simpa using this
 refine tL.AR (ps:=zs') (fun p hp=>⟨hK p (p1.mem_iff.mp hp),cu p (p1.mem_iff.mp hp)⟩) (by rw[p1.length_eq];lia) (fun R hR=>?_) fun qs s' c D' hS hn hD hm=>?_
 ·refine jc.vn (by have:=I.ok.hd hc;simpa using this) S.wk T (by lia) fun s' hm=>?_;have:=hR s' hm;rw[p2,fI];exact this
 ·refine QZ I (by rw[p1.length_eq];lia) hS hn hD hm fun hf=>?_;refine q _ (qs.map (·.1)) _ hf ((hS.perm.map _).trans (p1.map _)) ?_ (Hn fun p hp=>hk p (p1.mem_iff.mp (hS.perm.mem_iff.mp hp)));exact jX.mpr hS.rise
end
section
variable {X:Cx} {K:η} {e:ρ} {es:List ρ} {t:cw} {ta:aw} {pos p p' pos':aJ}
def XN:C3:=fun ds G Q=>match ds with
 |[.obj a]=>∃nss:List (List Int),G a=some (.lst (nss.map tupI))/\nss.length<64/\(∀ns∈nss,ns≠[])/\∀(p:ζ) (mss:List (List Int)) (G':Gp),dC G p (.lst (mss.map tupI)) G'->mss.Perm nss->uZ mss->Q (.obj p) G'
 |_=>False
def uE(ta:aw):aw:=fun τ G Q=>ta τ G fun x G1=>match x with
 |.obj a=>∃nss:List (List Int),G1 a=some (.lst (nss.map tupI))/\nss.length≤60/\(∀ns∈nss,ns≠[])/\∀(p:ζ) (mss:List (List Int)) (G':Gp),dC G1 p (.lst (mss.map tupI)) G'->(∀ns,ns∈mss↔ns∈nss)->mss.Nodup->uZ mss->mss.length≤nss.length->Q (.obj p) G'
 |_=>False
theorem QU(hu:X.A.units+64<cLine)(ha:bL X e ta)(hm:X.mg "sorted" = none)(hm2:X.mg "set" = none)(hc:X.calm=true:=by rfl)(hg:Gl X "sorted":=by rfl)(hg2:Gl X "set":=by rfl)(he2:notStar e=true:=by rfl):
  bL X (.Call (.Name "sorted" p) [.Call (.Name "set" p') [e] [] pos'] [] pos) (uE ta):=
 hX (sk (QV hc hu) hg hm rfl (qG (vQ (QX hc hu) hg2 hm2 rfl (qG ha vR (dY he2)) (he:=dY he2) (hpl:=jG rfl)) vR (dY rfl)) (he:=dY rfl) (hpl:=jG rfl)) fun σ H Q ⟨τ,G,Q3,RS,RG,h,k⟩=>by
  refine⟨τ,G,_,RS,RG,h,fun v H1 d G1 h1 S1 R1 q1=>?_⟩;cases d with
  |obj a=>
   obtain⟨nss,e1,hz,cu,q⟩:=q1;obtain⟨xs,e2,e3⟩:=R1 a _ e1;rw[iI h1];refine⟨a,xs,nss,rfl,.of e2,e3,hz,fun b zs hb hk hmem hnd hlen=>?_⟩;have E2:Ext H1 (upd H1 b (.ext (wO X.prog X.w b zs))):=.laid hb;refine⟨b,zs,rfl,iJ,fun p hp=>cY.ext E2 (hk p hp),by lia,fun p hp=>cu _ ((hmem _).mp (aX.mpr ⟨p,hp,rfl⟩)),fun p mss ys hp hpm hr hv=>?_⟩;have R2:aM X.K G1 (upd H1 b (.ext (wO X.prog X.w b zs))):=R1.laid hb;refine k _ _ (.obj p) _ qD ((S1.trans (.laid hb)).trans (.g0 hp)) (R2.sr hp hv) (q p mss _ (.mk' (R2.free hp)) (fun ns=>?_) ?_ hr ?_)
   ·rw[hpm.mem_iff];exact hmem ns
   ·exact hpm.nodup_iff.mpr hnd
   ·rw[hpm.length_eq,ο];exact hlen
  |_=>exact q1.elim
def nA:List D->Option (List Bool)
 |[]=>some []
 |.bl b::r=>(nA r).map (b::·)
 |_::_=>none
theorem zw{H:Hp}:∀{ds:List D} {vs:List V} {bs:List Bool},aD K H ds vs->nA ds=some bs->vs=bs.map V.bl
 |[],vs,ns,h,e=>by
  cases e;exact h.gz
 |d::ds,vs,ns,h,e=>by
  cases d with
  |bl i=>
   obtain⟨v,r,rfl,z1,z2⟩:=h.inv;unfold nA at e;cases hm:nA ds with
   |none=>rw[hm] at e;cases e
   |some ms=>
    rw[hm] at e;cases e;rw[ui z1,zw z2 hm];rfl
  |_=>cases e
theorem Hl:∀{bs:List Bool} {us:List ε},aU (bs.map V.bl) us->us=bs.map cB
 |[],_,.nil=>rfl
 |b::bs,_,.cons r rr=>by
  rw[(show _=cB b from r),Hl rr];rfl
theorem range_all(bs:List Bool):(aO bs.length).all (fun i=>bs.getD i false)=bs.all id:=by
 rw[Bool.eq_iff_iff];simp only[bT,cg,id_eq];constructor
 ·intro h b hb;obtain⟨i,hi,rfl⟩:=List.mem_iff_getElem.mp hb;have:=h i hi;simpa [mz,hi] using this
 ·intro h i hi;have:=h bs[i] (iH hi);simpa [mz,hi] using this
theorem QR(hc:X.calm=true){pins:List (ζ×aL)}{s:θ}{σ:L2.St}{H:Hp}{a:ζ}{xs:List V}{E:ε->θ->Prop}(I:Inv X pins σ H s)(hl:ff X.K H a xs){Q:ε->θ->Prop}
  (q:∀(its:List ε) (I':ζ),aU xs its->WalksS X.prog X.w X.A.in1 I' [I',a] [I'] (fun x y=>y=x) its.length (fun i v=>its[i]?=some v) (fun i s=>s.heap.IsListIter I' a i/\s.heap.IsList a its.toArray) ->
   (s.heap.push { cls:=.type "list_iterator",data:=.fields #[.ref a,.int 0 0]}).IsListIter I' a 0->(s.heap.push { cls:=.type "list_iterator",data:=.fields #[.ref a,.int 0 0]}).IsList a its.toArray ->
   (∀b∈[I',a],b<(s.heap.push { cls:=.type "list_iterator",data:=.fields #[.ref a,.int 0 0]}).objs.size) ->
   (∀s',Moved [I'] (fun x y=>y=x) { s with heap:=s.heap.push { cls:=.type "list_iterator",data:=.fields #[.ref a,.int 0 0]}} s'->Inv X pins σ H s')->Q (.ref I') { s with heap:=s.heap.push { cls:=.type "list_iterator",data:=.fields #[.ref a,.int 0 0]}}):
  π (model X.prog X.w) X.A.in1 (pyIter (.ref a)) Q E s:=by
 obtain⟨its,rv,pl,_⟩:=I.list hl;have hla:a<s.heap.objs.size:=by
  obtain⟨o,h1,_⟩:=pl.isList;exact Φ h1
 refine fb pl.isList ?_;have hW:=(Walks.list (prog:=X.prog) (w:=X.w) (A:=X.A.in1) (by have:=I.ok.hd hc;simpa using this) s.heap.objs.size a (bt hla) its.toArray).toS;refine q its s.heap.objs.size rv (by simpa using hW) ⟨_,Ψ _ rfl,rfl,rfl⟩ ?_ ?_ fun s' hm=>?_
 ·obtain⟨o,h1,h2⟩:=pl.isList;exact⟨o,μ _ h1,h2⟩
 ·intro b hb;rw[size_push'];rcases aa.mp hb with e|e
  ·rw[e];exact kx _
  ·have:b=a:=by simpa using e
   rw[this];exact g9 hla
 ·have e:s'={ s with heap:=s'.heap,toks:=s'.toks }:=by
   cases s';cases s;have h1:=hm.gens;have h2:=hm.drawn;have h3:=hm.os;simp only at h1 h2 h3;subst h1 h2 h3;rfl
  rw[e];exact I.kept fun b u z=>hm.heap b u (fun y=>by
   have:b=s.heap.objs.size:=by simpa using y
   exact absurd (this▸Φ z) (cm _)) (μ _ z)
theorem QQ(hc:X.calm=true):iB X (.builtin "all") (fun vs H Q=>∃(a:ζ) (bs:List Bool),vs=[.ref a]/\ff X.K H a (bs.map V.bl)/\Q (.bl (bs.all id)) H):=by
 intro pins s σ H vs us Q I r h;obtain⟨a,bs,rfl,hl,q⟩:=h;obtain⟨u,rfl,ru⟩:=vals1 r;cases ru;refine call_all_walkS (QR hc I hl fun its I' rv W h1 h2 h3 back=>⟨I',_,_,_,_,_,_,fun i=>bs.getD i false,rfl,W,⟨h1,h2⟩,?_,fun s' hm=>?_⟩)
 ·intro i v s' Q' E' hv hq;have hx:=Hl rv;subst hx;rw[aS] at hv;cases hb:bs[i]? with
  |none=>rw[hb] at hv;cases hv
  |some b=>
   rw[hb] at hv;cases hv;have:bs.getD i false=b:=by simp[mz,hb]
   dsimp only at hq;rw[this] at hq;exact cz hq
 ·have:its.length=bs.length:=by rw[←rv.length,ο]
  rw[this,range_all];exact⟨.bl (bs.all id),H,back s' hm,rfl,q⟩
def uy:C3:=fun ds G Q=>match ds with
 |[.obj a]=>∃xs bs,G a=some (.lst xs)/\nA xs=some bs/\Q (.bl (bs.all id)) G
 |_=>False
theorem P9:oo K uy (fun vs H Q=>∃(a:ζ) (bs:List Bool),vs=[.ref a]/\ff K H a (bs.map V.bl)/\Q (.bl (bs.all id)) H):=fun ds vs G H Q3 Q h RG q k=>by
 rcases ds with _|⟨d,_|⟨d2,ds⟩⟩
 ·exact q.elim
 ·obtain⟨v,rfl,hv⟩:=ku h;cases d with
  |obj a=>
   obtain⟨xs,bs,e1,e2,q⟩:=q;obtain⟨ys,e3,e4⟩:=RG a _ e1;rw[iI hv];rw[zw e4 e2] at e3;exact⟨a,bs,rfl,.of e3,k _ H _ G lE (.refl H G) RG q⟩
  |_=>exact q.elim
 ·cases d<;>exact q.elim
theorem P8(hu:X.A.units+64<cLine)(hm:X.mg "all" = none)(ha:ig X (e::es) t)(hc:X.calm=true:=by rfl)(hg:Gl X "all":=by rfl)(he:notStar e=true:=by rfl)(hpl:es.all notStar=true:=by rfl):
  bL X (.Call (.Name "all" p) (e::es) [] pos) (cL uy t):=qO P9 (sk (QQ hc) hg hm rfl ha (he:=dY he) (hpl:=jG hpl))
end
end L3
namespace L3
open PySem PySem.Spec PyProof.Rows L2
section
variable {prog:Ω} {w:aj} {A:aB} {E:ε->θ->Prop} {s:θ}
theorem Ci{α β:Type}{f g:α->Option β}:∀{l:List α},(∀x∈l,f x=g x)->l.filterMap f=l.filterMap g
 |[],_=>rfl
 |x::l,h=>by
  rw[dy,dy,h x ψ,Ci fun y hy=>h y (ω _ hy)]
theorem Hk{α:Type}:∀(l:List α),(aO l.length).filterMap (fun i=>l[i]?)=l
 |[]=>rfl
 |a::l=>by
  rw[ak,ka,jo (b:=a) (by simp),jn];congr 1;exact Hk l
theorem P7(xs:List ε):((aO xs.length).filterMap fun (m:Nat)=>xs.toArray[(((xs.length:Int)-1)+(m:Int)*(-1)).toNat]?)=xs.reverse:=by
 have h2:=Hk xs.reverse;rw[lI] at h2;refine Eq.trans (Ci fun m hm=>?_) h2;have hm':=cg.mp hm;rw[List.getElem?_reverse hm',ql];congr 1;lia
end
end L3
namespace L3
open PySem PySem.Spec PyProof.Rows L2
section
variable {prog:Ω} {w:aj} {A:aB} {E:ε->θ->Prop} {s:θ}
theorem P6(lo hi i:Int):(i4 lo hi 1 i).isSome=(decide (lo≤i)&&decide (i<hi)):=by
 unfold i4;dsimp only;rw[if_pos (c:=(1:Int) > 0) (by decide),Int.emod_one];cases (decide (lo≤i)&&decide (i<hi))<;>rfl
theorem Hj{r:ζ}{lo hi i:Int}{t u v tk:fE}{Q:Bool->θ->Prop}(hr:s.heap.get? r=some { cls:=.type "range",data:=.fields #[.int lo t,.int hi u,.int 1 v]})(h:Q (decide (lo≤i)&&decide (i<hi)) s):
  π (model prog w) A (contains (.ref r) (.int i tk)) Q E s:=by
 have hT:s.TypeIs (.ref r) "range":=⟨_,hr,rfl⟩;refine wpAny_contains_slot hT fF (ck fF hT lW ?_ (lA _ _));show π _ _ (dE (.ref r) >>= _) _ _ s;unfold dE;refine δ (δ (bp hr rfl (x:=.int lo t) rfl (δ (ν (δ (bp hr rfl (x:=.int hi u) rfl (δ (ν (δ (bp hr rfl (x:=.int 1 v) rfl (δ (ν (ν ?_)))))))))))));show π _ _ (pure (Fin.done (Flow.ret (cB (i4 lo hi 1 i).isSome)))) _ _ s;rw[P6];exact ν ⟨_,rfl,cz h⟩
end
section
variable {X:Cx} {a b c:ρ} {ta:TE} {tb:TA} {op:gT} {p pos pos':aJ}
def yv(neg:Bool)(lo hi i:Int):Bool:=if neg then !(decide (lo≤i)&&decide (i<hi)) else (decide (lo≤i)&&decide (i<hi))
def DP(neg:Bool):gT:=if neg then .NotIn else .In
theorem P5{pins:List (ζ×aL)}{s:θ}{σ:L2.St}{H:Hp}{Q:VK}{i lo hi:Int}{t u v tk:fE}{tks:Nat}(I:L2.Inv X pins σ H s)(q:Q (.bl (decide (lo≤i)&&decide (i<hi))) H):
  π (model X.prog X.w) X.A (compareOp .In (.int i tk) (.ref s.heap.objs.size)) (EP X pins σ Q) X.xe { s with heap:=s.heap.push { cls:=.type "range",data:=.fields #[.int lo t,.int hi u,.int 1 v]},toks:=tks }:=by
 show π _ _ (contains (.ref s.heap.objs.size) (.int i tk) >>= fun b=>pure (cB b)) _ _ _;refine δ (Hj (Ψ _ rfl) (ν ⟨.bl _,H,I.kept fun b ob q=>μ _ q,rfl,q⟩))
theorem P4{pins:List (ζ×aL)}{s:θ}{σ:L2.St}{H:Hp}{Q:VK}{i lo hi:Int}{t u v tk:fE}{tks:Nat}(I:L2.Inv X pins σ H s)(q:Q (.bl (!(decide (lo≤i)&&decide (i<hi)))) H):
  π (model X.prog X.w) X.A (compareOp .NotIn (.int i tk) (.ref s.heap.objs.size)) (EP X pins σ Q) X.xe { s with heap:=s.heap.push { cls:=.type "range",data:=.fields #[.int lo t,.int hi u,.int 1 v]},toks:=tks }:=by
 show π _ _ (contains (.ref s.heap.objs.size) (.int i tk) >>= fun b=>pure (cB (!b))) _ _ _;refine δ (Hj (Ψ _ rfl) (ν ⟨.bl _,H,I.kept fun b ob q=>μ _ q,rfl,q⟩))
theorem P2{neg:Bool}{pins:List (ζ×aL)}{s:θ}{σ:L2.St}{H:Hp}{Q:VK}{i lo hi:Int}{t u v tk:fE}{tks:Nat}(I:L2.Inv X pins σ H s)(q:Q (.bl (yv neg lo hi i)) H):
  π (model X.prog X.w) X.A (compareOp (DP neg) (.int i tk) (.ref s.heap.objs.size)) (EP X pins σ Q) X.xe { s with heap:=s.heap.push { cls:=.type "range",data:=.fields #[.int lo t,.int hi u,.int 1 v]},toks:=tks }:=by
 cases neg with
 |false=>exact P5 I q
 |true=>exact P4 I q
end
end L3
namespace L3
open PySem PySem.Spec PyProof.Rows L2
open Sem (wp)
def Ik(k:Bool)(h:af)(jt a:ζ)(i:Nat):Prop:=match k with
 |true=>h.IsListIter jt a i
 |false=>h.IsTupleIter jt a i
def Sk(k:Bool)(h:af)(a:ζ)(xs:Array ε):Prop:=match k with
 |true=>h.IsList a xs
 |false=>h.IsTuple a xs
theorem Ik.of{k:Bool}{h h':af}{jt a:ζ}{i:Nat}(x:Ik k h jt a i)(f:∀o,h.get? jt=some o->h'.get? jt=some o):Ik k h' jt a i:=by
 cases k<;>(obtain⟨o,e,r⟩:=x;exact⟨o,f o e,r⟩)
theorem Sk.of{k:Bool}{h h':af}{a:ζ}{xs:Array ε}(x:Sk k h a xs)(f:∀o,h.get? a=some o->h'.get? a=some o):Sk k h' a xs:=by
 cases k<;>(obtain⟨o,e,r⟩:=x;exact⟨o,f o e,r⟩)
theorem Ik.obj{k:Bool}{h:af}{jt a:ζ}{i:Nat}(x:Ik k h jt a i):∃o,h.get? jt=some o/\∀v,o.data≠.cell v:=by
 cases k<;>(obtain⟨o,e,c,d⟩:=x;exact⟨o,e,fun v z=>by rw[d] at z;cases z⟩)
section
variable {P:Ω} {w:aj} {A:aB} {E:ε->θ->Prop} {s:θ}
theorem nextK{k:Bool}{jt a:ζ}{i:Nat}{xs:Array ε}{u:ε}{Q:ε->θ->Prop}(hi:Ik k s.heap jt a i)(ha:Sk k s.heap a xs)(hx:xs[i]?=some u)
  (q:∀h',Ik k h' jt a (i+1)->eE jt s.heap h'->Q u { s with heap:=h' }):π (model P w) A (cC (.ref jt)) Q E s:=by
 cases k with
 |true=>exact wpAny_nextOf_list_item hi ha hx q
 |false=>
  have hi:s.heap.IsTupleIter jt a i:=hi;obtain⟨o,e1,c1,d1⟩:=id hi;obtain⟨oa,e2,c2,n2,d2⟩:=(show s.heap.IsTuple a xs from ha);unfold cC;refine δ (cy (name:=aI "__next__") hi.typeIs F.slot_tuple_iterator_next (ck F.slot_tuple_iterator_next hi.typeIs F.entry_tuple_iterator_next ?_ (F.args_tuple_iterator_next_1 _)));show π _ _ (field (.ref jt) 0 >>= _) _ _ s;refine δ (bp e1 d1 (x:=.ref a) rfl ?_);show π _ _ (if (aQ a==bf)=true then _ else _) _ _ s;rw[if_neg (show ¬((aQ a==bf)=true) from au)];show π _ _ (field (.ref jt) 1 >>= _) _ _ s;refine δ (bp e1 d1 (x:=.int i 0) rfl ?_);show π _ _ (seqItems? (.ref a) >>= _) _ _ s;refine δ (dO e2 d2 ?_);simp only[hx,ng];refine δ (gi e1 d1 (by simp) (ν ⟨u,rfl,ν (q _ ?_ (dz ..))⟩));exact⟨_,bQ _ e1 (eQ (dm d1 _)),(aL.cls_mapFields ..).trans c1,by rw[dm d1];simp[rawInt]⟩
theorem zj{k:Bool}{jt a:ζ}{i:Nat}{xs:Array ε}{Q:ε->θ->Prop}(hh:A.handled=none)(hi:Ik k s.heap jt a i)(ha:Sk k s.heap a xs)(hx:xs[i]?=none)
  (q:∀h' e,ua jt s.heap h'->(∃o,h'.get? e=some o/\o.cls=.type "StopIteration")->E (.ref e) { s with heap:=h' }):π (model P w) A (cC (.ref jt)) Q E s:=by
 cases k with
 |true=>exact wpAny_nextOf_list_end hh hi ha hx q
 |false=>
  have hi:s.heap.IsTupleIter jt a i:=hi;obtain⟨o,e1,c1,d1⟩:=id hi;obtain⟨oa,e2,c2,n2,d2⟩:=(show s.heap.IsTuple a xs from ha);unfold cC;refine δ (cy (name:=aI "__next__") hi.typeIs F.slot_tuple_iterator_next (ck F.slot_tuple_iterator_next hi.typeIs F.entry_tuple_iterator_next ?_ (F.args_tuple_iterator_next_1 _)));show π _ _ (field (.ref jt) 0 >>= _) _ _ s;refine δ (bp e1 d1 (x:=.ref a) rfl ?_);show π _ _ (if (aQ a==bf)=true then _ else _) _ _ s;rw[if_neg (show ¬((aQ a==bf)=true) from au)];show π _ _ (field (.ref jt) 1 >>= _) _ _ s;refine δ (bp e1 d1 (x:=.int i 0) rfl ?_);show π _ _ (seqItems? (.ref a) >>= _) _ _ s;refine δ (dO e2 d2 ?_);simp only[hx,ng];refine δ (kX (δ (gi e1 d1 (by simp) ?_)));show π _ _ (newExc (.type "StopIteration") [] >>= _) _ _ ({ s with heap:=_ }:θ);refine δ ?_;simp only[newTuple,newExc];refine δ (cA ?_ (by size_fits));refine δ (m:=firstArgMember _ _) (md (a:=bf) (by first|(simp only[firstArgMember];rfl)|rfl) ?_)
  refine cA ?_ (by size_fits);simp only[raiseNew];refine δ (wpAny_handled ?_)
  first|rw[hh]|rw[show A.in1.handled=none from hh]
  refine δ (ν (wpAny_throw ?_));exact q _ _ (((dz ..).extBut.push _).push _) ⟨_,Ψ _ rfl,rfl⟩
theorem Lq{k1 k2:Bool}{zz ti ot j1 j2 a1 a2:ζ}{m n:Nat}{xs ys:Array ε}{u v c d:ε}{Q:ε->θ->Prop}(D:ZipApart zz ti ot j1 j2 a1 a2)
  (Z:ki s.heap zz ti ot .none) (Ti:gs s.heap ti (.ref j1) (.ref j2)) (To:gs s.heap ot c d) (g1:Ik k1 s.heap j1 a1 m) (g2:Ik k2 s.heap j2 a2 n) (s1:Sk k1 s.heap a1 xs) (s2:Sk k2 s.heap a2 ys) (hu:xs[m]?=some u) (hv:ys[n]?=some v)
  (q:∀h',ki h' zz ti ot (rawInt s.heap.objs.size)->gs h' ot u v->Ik k1 h' j1 a1 (m+1)->Ik k2 h' j2 a2 (n+1)->gs h' s.heap.objs.size u v ->
   (∀b o,b≠zz->b≠ot->b≠j1->b≠j2->s.heap.get? b=some o->h'.get? b=some o)->Q (.ref s.heap.objs.size) { s with heap:=h' }):
  π (model P w) A (cO.«zip.__next__» ⟨[.ref zz],[]⟩) (fun fin s'=>∃r,fin=.done (.ret r)/\Q r s') E s:=by
 show π _ _ (field (.ref zz) 2 >>= _) _ _ _;refine δ (bp Z rfl (x:=.bool false) rfl ?_);show π _ _ (field (.ref zz) 3 >>= _) _ _ _;refine δ (bp Z rfl (x:=.ref ti) rfl ?_);refine δ (dO Ti rfl ?_);show π _ _ (dQ (.ref zz) >>= _) _ _ _;refine δ ?_;unfold dQ;refine δ (bp Z rfl (x:=.none) rfl (ν ?_));simp only[if_true];refine δ (kX ?_);refine δ (bp Z rfl (x:=.ref ot) rfl ?_);refine δ (dk Z (by simp) fun w1 Z1 b1=>?_)
 replace Z1:ki w1 zz ti ot .ellipsis:=Z1
 refine δ ?_
 (simp only[List.zipIdx_nil,List.zipIdx_cons,List.forIn_nil,pj])
 have k1_:∀b o,b≠zz->s.heap.get? b=some o->w1.get? b=some o:=fun b o h e=>b1.extBut b o h e;refine δ (δ (mR ?_));show π _ _ (cC (.ref j1) >>= _) _ _ _;refine δ (nextK (g1.of fun o e=>k1_ _ o D.i1z e) (s1.of fun o e=>k1_ _ o D.l1z e) hu fun w2 J1 b2=>ν ?_);have k2_:∀b o,b≠zz->b≠j1->s.heap.get? b=some o->w2.get? b=some o:=fun b o h h2 e=>b2.extBut b o h2 (k1_ b o h e);have To2:gs w2 ot c d:=k2_ _ _ D.TOz D.TOi1 To;refine δ (dO To2 rfl ?_);refine δ (kW To2 fun w3 To3 b3=>?_)
 replace To3:gs w3 ot u d:=To3
 have k3_:∀b o,b≠zz->b≠j1->b≠ot->s.heap.get? b=some o->w3.get? b=some o:=fun b o h h2 h3 e=>b3.extBut b o h3 (k2_ b o h h2 e);refine δ (wpAny_letGo (ν ?_));refine δ (δ (mR ?_));show π _ _ (cC (.ref j2) >>= _) _ _ _;refine δ (nextK (g2.of fun o e=>k3_ _ o D.i2z D.i12.symm D.TOi2.symm e) (s2.of fun o e=>k3_ _ o D.l2z D.l2i1 D.l2TO e) hv fun w4 J2 b4=>ν ?_);have To4:gs w4 ot u d:=b4.extBut _ _ D.TOi2 To3;refine δ (dO To4 rfl ?_);refine δ (kW To4 fun w5 To5 b5=>?_)
 replace To5:gs w5 ot u v:=To5
 refine δ (wpAny_letGo (ν (ν ?_)));refine δ (dO To5 rfl ?_);refine δ (qc ?_);have sz:w5.objs.size=s.heap.objs.size:=by rw[b5.1,b4.1,b3.1,b2.1,b1.1]
 have Z5:ki w5 zz ti ot .ellipsis:=b5.extBut _ _ D.TOz.symm (b4.extBut _ _ D.i2z.symm (b3.extBut _ _ D.TOz.symm (b2.extBut _ _ D.i1z.symm Z1)));have k5_:∀b o,b≠zz->b≠ot->b≠j1->b≠j2->s.heap.get? b=some o->w5.get? b=some o:=fun b o c1 c2 c3 c4 e=>b5.extBut _ _ c2 (b4.extBut _ _ c4 (k3_ b o c1 c3 c2 e));have L1:Ik k1 w5 j1 a1 (m+1):=J1.of fun o e=>b5.extBut _ _ D.TOi1.symm (b4.extBut _ _ D.i12 (b3.extBut _ _ D.TOi1.symm e));have L2:Ik k2 w5 j2 a2 (n+1):=J2.of fun o e=>b5.extBut _ _ D.TOi2.symm e;have lz:zz<w5.objs.size:=Φ Z5;show π _ _ (jr (.ref zz) (.ref w5.objs.size) >>= _) _ _ _;refine δ ?_;unfold jr;have Z6:ki (w5.push { cls:=.type "tuple",data:=.seq #[u,v]}) zz ti ot .ellipsis:=μ _ Z5;refine δ (dk Z6 (by simp) fun w7 Z7 b7=>?_)
 replace Z7:ki w7 zz ti ot (rawInt w5.objs.size):=Z7
 refine dk Z7 (by simp) fun w8 Z8 b8=>?_
 replace Z8:ki w8 zz ti ot (rawInt w5.objs.size):=Z8
 have up:∀b o,b≠zz->w5.get? b=some o->w8.get? b=some o:=fun b o c1 e=>b8.extBut _ _ c1 (b7.extBut _ _ c1 (μ _ e));have T8:gs w8 w5.objs.size u v:=b8.extBut _ _ (iq lz) (b7.extBut _ _ (iq lz) (Ψ _ rfl));rw[sz] at Z8 T8;refine ν ⟨_,rfl,?_⟩;show Q (.ref w5.objs.size) _;rw[sz];exact q w8 Z8 (up _ _ D.TOz To5) (L1.of fun o e=>up _ o D.i1z e) (L2.of fun o e=>up _ o D.i2z e) T8 fun b o c1 c2 c3 c4 e=>up b o c1 (k5_ b o c1 c2 c3 c4 e)
theorem P1{k1 k2:Bool}{zz ti ot j1 j2 a1 a2:ζ}{m n:Nat}{xs ys:Array ε}{c d:ε}{Q:Fin->θ->Prop}(hh:A.handled=none)(D:ZipApart zz ti ot j1 j2 a1 a2)
  (Z:ki s.heap zz ti ot .none) (Ti:gs s.heap ti (.ref j1) (.ref j2)) (To:gs s.heap ot c d) (g1:Ik k1 s.heap j1 a1 m) (g2:Ik k2 s.heap j2 a2 n) (s1:Sk k1 s.heap a1 xs) (s2:Sk k2 s.heap a2 ys) (he:xs[m]?=none∨ys[n]?=none)
  (q:∀h' e,(∀b o,b≠zz->b≠ot->b≠j1->b≠j2->s.heap.get? b=some o->h'.get? b=some o)->(∃o,h'.get? e=some o/\o.cls=.type "StopIteration")->E (.ref e) { s with heap:=h' }):
  π (model P w) A (cO.«zip.__next__» ⟨[.ref zz],[]⟩) Q E s:=by
 show π _ _ (field (.ref zz) 2 >>= _) _ _ _;refine δ (bp Z rfl (x:=.bool false) rfl ?_);show π _ _ (field (.ref zz) 3 >>= _) _ _ _;refine δ (bp Z rfl (x:=.ref ti) rfl ?_);refine δ (dO Ti rfl ?_);show π _ _ (dQ (.ref zz) >>= _) _ _ _;refine δ ?_;unfold dQ;refine δ (bp Z rfl (x:=.none) rfl (ν ?_));simp only[if_true];refine δ (kX ?_);refine δ (bp Z rfl (x:=.ref ot) rfl ?_);refine δ (dk Z (by simp) fun w1 Z1 b1=>?_)
 replace Z1:ki w1 zz ti ot .ellipsis:=Z1
 refine δ ?_
 (simp only[List.zipIdx_nil,List.zipIdx_cons,List.forIn_nil,pj])
 have k1_:∀b o,b≠zz->s.heap.get? b=some o->w1.get? b=some o:=fun b o h e=>b1.extBut b o h e;refine δ (δ (mR ?_));show π _ _ (cC (.ref j1) >>= _) _ _ _;cases hx:xs[m]? with
 |none=>
  refine δ (zj hh (g1.of fun o e=>k1_ _ o D.i1z e) (s1.of fun o e=>k1_ _ o D.l1z e) hx fun w2 e b2 hs=>?_);obtain⟨oe,e1,e2⟩:=hs;have Z2:ki w2 zz ti ot .ellipsis:=b2 _ _ D.i1z.symm Z1;have ez:e≠zz:=fun x=>by
   subst x;rw[Z2] at e1;cases e1;simp at e2
  exact dk Z2 (by simp) fun w3 _ b3=>q w3 e (fun b o c1 _ c3 _ x=>b3.extBut _ _ c1 (b2 _ _ c3 (k1_ b o c1 x))) ⟨oe,b3.extBut _ _ ez e1,e2⟩
 |some u=>
  have hy:ys[n]?=none:=by
   rcases he with h|h
   ·rw[hx] at h;cases h
   ·exact h
  refine δ (nextK (g1.of fun o e=>k1_ _ o D.i1z e) (s1.of fun o e=>k1_ _ o D.l1z e) hx fun w2 J1 b2=>ν ?_);have k2_:∀b o,b≠zz->b≠j1->s.heap.get? b=some o->w2.get? b=some o:=fun b o h h2 e=>b2.extBut b o h2 (k1_ b o h e);have To2:gs w2 ot c d:=k2_ _ _ D.TOz D.TOi1 To;refine δ (dO To2 rfl ?_);refine δ (kW To2 fun w3 To3 b3=>?_);have k3_:∀b o,b≠zz->b≠j1->b≠ot->s.heap.get? b=some o->w3.get? b=some o:=fun b o h h2 h3 e=>b3.extBut b o h3 (k2_ b o h h2 e);refine δ (wpAny_letGo (ν ?_));refine δ (δ (mR ?_));show π _ _ (cC (.ref j2) >>= _) _ _ _;refine δ (zj hh (g2.of fun o e=>k3_ _ o D.i2z D.i12.symm D.TOi2.symm e) (s2.of fun o e=>k3_ _ o D.l2z D.l2i1 D.l2TO e) hy fun w4 e b4 hs=>?_);obtain⟨oe,e1,e2⟩:=hs;have Z4:ki w4 zz ti ot .ellipsis:=b4 _ _ D.i2z.symm (b3.extBut _ _ D.TOz.symm (b2.extBut _ _ D.i1z.symm Z1));have ez:e≠zz:=fun x=>by
   subst x;rw[Z4] at e1;cases e1;simp at e2
  exact dk Z4 (by simp) fun w5 _ b5=>q w5 e (fun b o c1 c2 c3 c4 x=>b5.extBut _ _ c1 (b4 _ _ c4 (k3_ b o c1 c3 c2 x))) ⟨oe,b5.extBut _ _ ez e1,e2⟩
end
end L3
namespace L3
open PySem PySem.Spec PyProof.Rows L2
open Sem (wp)
section
variable {X:Cx} {pins:List (ζ×aL)} {σ:L2.St} {H:Hp} {s:θ}
theorem tu{h':af}{t':Nat}{fp:List ζ}(I:L2.Inv X pins σ H s)(k:∀b o,b∉fp->s.heap.get? b=some o->h'.get? b=some o)(hf:∀b∈fp,jU X pins H b):L2.Inv X pins σ H { s with heap:=h',toks:=t' }:=by
 have nit:∀b u,H b=some u->b∉fp:=fun b u e z=>by rw[(hf b z).1] at e;cases e
 refine I.step (g':=s.gens) (d':=s.drawn) (ch:=fp) (fun b hb=>?_) (fun b o _ _ hc e _=>k b o hc e) (fun b o _ _ hc e _=>⟨o.slots,k b o hc e⟩) (fun _ _ _ _ n=>n) (fun b o hc e=>⟨o,k b o hc e⟩) (fun _ _ e=>e) (fun _ _ _ e=>e) (fun b ps e=>⟨#[],by rw[e];simp⟩) (fun m hm=>?_) (fun b u e=>?_) I.bare
 ·obtain⟨f0,f1,f2,f3,f4,f5⟩:=hf b hb;exact⟨f3,f1,f4,f5⟩
 ·obtain⟨o,es,ep,ho,r⟩:=hm;exact⟨o,es,ep,k _ o (fun z=>(hf _ z).2.1 rfl) ho,r⟩
 ·refine (I.bx b u e).km (fun c v hc q=>k c v ?_ q) (fun _ q=>q) fun _ _ q=>q;rcases hc with z|z
  ·rw[z];exact nit b u e
  ·exact nit c _ z
def ix(K:η)(k:Bool)(H:Hp)(a:ζ)(xs:List V):Prop:=match k with
 |true=>ff K H a xs
 |false=>cY K H a xs
theorem ix.heap{k:Bool}{a:ζ}{xs:List V}(I:L2.Inv X pins σ H s)(h:ix X.K k H a xs):∃its,aU xs its/\Sk k s.heap a its.toArray:=by
 cases k with
 |true=>
  obtain⟨its,rv,p,hz⟩:=I.list (show ff X.K H a xs from h);exact⟨its,rv,p.isList⟩
 |false=>
  obtain⟨its,rv,p,hz⟩:=I.tuple (show cY X.K H a xs from h);exact⟨its,rv,p⟩
theorem ix.inj{k:Bool}{a:ζ}{xs ys:List V}(I:L2.Inv X pins σ H s)(h:ix X.K k H a xs)(h':ix X.K k H a ys):xs=ys:=by
 cases k with
 |true=>exact I.xN (show ff X.K H a xs from h) (show ff X.K H a ys from h')
 |false=>exact I.v9 (show cY X.K H a xs from h) (show cY X.K H a ys from h')
theorem ix.apart{k:Bool}{a b:ζ}{xs:List V}(I:L2.Inv X pins σ H s)(h:ix X.K k H a xs)(f:jU X pins H b):a≠b:=by
 intro z;subst z;have hb:(∃u,H a=some u)∨∃o,X.K.lookup a=some o:=by
  cases k <;>
  ·rcases h with (h|⟨o,h⟩)|⟨o,_,_,h,_⟩
   ·exact .inl ⟨_,h⟩
   ·exact .inl ⟨_,h⟩
   ·exact .inr ⟨_,h⟩
 rcases hb with⟨u,e⟩|⟨o,e⟩
 ·rw[f.1] at e;cases e
 ·have e2:=I.mod.sx a o e;rcases f.2.2.2.1 with q|q
  ·exact I.ok.uz a o e2 q
  ·exact absurd (bz (Φ (I.ok.bs a o e2).1) q) (cm _)
end
def Ll(K:η)(k1 k2:Bool)(a1 a2:ζ):It:=
 ⟨fun i H=>∃xs ys x y,(ix K k1 H a1 xs/\xs[i]?=some x)/\ix K k2 H a2 ys/\ys[i]?=some y,
  fun i H x H'=>∃T u v,x=.ref T/\H T=none/\H'=upd H T (.tup [u,v])/\(∀xs,ix K k1 H a1 xs->xs[i]?=some u)/\∀ys,ix K k2 H a2 ys->ys[i]?=some v,
  fun i H=>∃xs ys,ix K k1 H a1 xs/\ix K k2 H a2 ys/\(xs.length≤i∨ys.length≤i)⟩
theorem Lc{zz ti ot j1 j2 a1 a2:ζ}(h:[zz,ti,ot,j1,j2].Nodup)(h1:∀b∈[zz,ti,ot,j1,j2],a1≠b)(h2:∀b∈[zz,ti,ot,j1,j2],a2≠b):ZipApart zz ti ot j1 j2 a1 a2:=by
 simp only[eZ,aa,not_or,aF,not_false_eq_true,List.nodup_nil,and_true] at h;obtain⟨⟨n1,n2,n3,n4⟩,⟨n5,n6,n7⟩,⟨n8,n9⟩,n10⟩:=h;exact⟨du n1,du n2,du n3,du n4,n5,n6,n7,n8,n9,n10,h1 _ (by simp),h1 _ (by simp),h1 _ (by simp),h1 _ (by simp),h2 _ (by simp),h2 _ (by simp),h2 _ (by simp),h2 _ (by simp)⟩
theorem P0{P:Ω}{w:aj}{K:η}{es:List ρ}{n0:Nat}{ps:aJ}(k1 k2:Bool)(a1 a2 zz ti ot j1 j2:ζ)(hd:[zz,ti,ot,j1,j2].Nodup):
  Turn P w K (.Tuple es n0 ps) (Ll K k1 k2 a1 a2) [zz,ti,ot,j1,j2] zz (fun i h=>ki h zz ti ot .none/\gs h ti (.ref j1) (.ref j2)/\(∃c d,gs h ot c d)/\Ik k1 h j1 a1 i/\Ik k2 h j2 a2 i) where
 mem:=by simp
 obj:=fun i h st b hb=>by
  obtain⟨Z,Ti,⟨c,d,To⟩,g1,g2⟩:=st;simp only[aa,aF,or_false] at hb;rcases hb with rfl|rfl|rfl|rfl|rfl
  ·exact⟨_,Z,fun v z=>by cases (show ub _=pq v from z)⟩
  ·exact⟨_,Ti,fun v z=>by cases (show Data.seq _ _=pq v from z)⟩
  ·exact⟨_,To,fun v z=>by cases (show Data.seq _ _=pq v from z)⟩
  ·exact g1.obj
  ·exact g2.obj
 keep:=fun i h h' st k=>by
  obtain⟨Z,Ti,⟨c,d,To⟩,g1,g2⟩:=st;exact⟨k _ (by simp) _ Z,k _ (by simp) _ Ti,⟨c,d,k _ (by simp) _ To⟩,g1.of fun o e=>k _ (by simp) _ e,g2.of fun o e=>k _ (by simp) _ e⟩
 item:=by
  intro X hP hw hK hc i pins s σ H E I hf st hg;subst hP hw hK;obtain⟨Z,Ti,⟨c,d,To⟩,g1,g2⟩:=st;obtain⟨xs,ys,x,y,⟨q1,hx⟩,q2,hy⟩:=hg;obtain⟨its1,rv1,p1⟩:=q1.heap I;obtain⟨its2,rv2,p2⟩:=q2.heap I;obtain⟨u,hu,ru⟩:=rv1.get hx;obtain⟨v,hv,rv⟩:=rv2.get hy;have D:=Lc hd (fun b hb=>q1.apart I (hf b hb)) (fun b hb=>q2.apart I (hf b hb));have hT:s.TypeIs (.ref zz) "zip":=⟨_,Z,rfl⟩;unfold pyNext;refine δ (gD (cy (name:=aI "__next__") hT F.slot_zip_next (ck F.slot_zip_next hT F.entry_zip_next (Lq D Z Ti To g1 g2 p1 p2 (u:=u) (v:=v) (by simpa using hu) (by simpa using hv) fun h' Z' To' g1' g2' T' kp=>?_) (F.args_zip_next_1 _))));refine ν ⟨_,rfl,?_⟩;refine wpAny_letOwnedTupleGo_zip Z' fun h2 Z2 b2=>?_;have hn:H s.heap.objs.size=none:=I.bx.fresh (Δ _);have I1:L2.Inv X pins σ (upd H s.heap.objs.size (.tup [x,y])) { s with heap:=s.heap.push { cls:=.type "tuple",data:=.seq #[u,v]}}:=I.laid (t':=s.toks) (fun b o e=>μ _ e) (Δ _) ⟨by show 2≤ag;decide,[u,v],.cons ru (.cons rv .nil),⟨_,Ψ _ rfl,rfl,⟨_,rfl⟩,rfl⟩⟩;have lt:∀b∈[zz,ti,ot,j1,j2],b<s.heap.objs.size:=fun b hb=>by
   simp only[aa,aF,or_false] at hb;rcases hb with rfl|rfl|rfl|rfl|rfl
   ·exact Φ Z
   ·exact Φ Ti
   ·exact Φ To
   ·obtain⟨o,e,_⟩:=g1.obj;exact Φ e
   ·obtain⟨o,e,_⟩:=g2.obj;exact Φ e
  have hf':∀b∈[zz,ti,ot,j1,j2],jU X pins (upd H s.heap.objs.size (.tup [x,y])) b:=fun b hb=>⟨by rw[dH (bt (lt b hb))];exact (hf b hb).1,(hf b hb).2⟩;have I2:L2.Inv X pins σ (upd H s.heap.objs.size (.tup [x,y])) { s with heap:=h2 }:=tu (s:={ s with heap:=s.heap.push { cls:=.type "tuple",data:=.seq #[u,v]}}) (t':=s.toks) I1 (fun b o hb e=>by
   simp only[aa,aF,or_false,not_or] at hb;refine b2.extBut b o hb.1 ?_;rcases rf e with⟨rfl,rfl⟩|e
   ·exact T'
   ·exact kp b o hb.1 hb.2.2.1 hb.2.2.2.1 hb.2.2.2.2 e) hf'
  refine⟨.ref s.heap.objs.size,_,I2,rfl,⟨_,x,y,rfl,hn,rfl,fun zs hz=>by rw[hz.inj I q1];exact hx,fun zs hz=>by rw[hz.inj I q2];exact hy⟩,⟨Z2,?_,⟨u,v,?_⟩,g1'.of fun o e=>b2.extBut _ _ D.i1z e,g2'.of fun o e=>b2.extBut _ _ D.i2z e⟩,fun b hb=>(hf' b hb).1⟩
  ·exact b2.extBut _ _ D.TIz (kp _ _ D.TIz D.TITO D.TIi1 D.TIi2 Ti)
  ·exact b2.extBut _ _ D.TOz To'
 done:=by
  intro X hP hw hK hc i pins s σ H E I hf st hg;subst hP hw hK;obtain⟨Z,Ti,⟨c,d,To⟩,g1,g2⟩:=st;obtain⟨xs,ys,q1,q2,hl⟩:=hg;obtain⟨its1,rv1,p1⟩:=q1.heap I;obtain⟨its2,rv2,p2⟩:=q2.heap I;have D:=Lc hd (fun b hb=>q1.apart I (hf b hb)) (fun b hb=>q2.apart I (hf b hb));have hT:s.TypeIs (.ref zz) "zip":=⟨_,Z,rfl⟩;have l1:=rv1.length;have l2:=rv2.length;unfold pyNext;refine δ (gD (cy (name:=aI "__next__") hT F.slot_zip_next (ck F.slot_zip_next hT F.entry_zip_next (P1 (I.ok.hd hc) D Z Ti To g1 g2 p1 p2 (by
   rcases hl with h|h
   ·exact .inl (by simp;lia)
   ·exact .inr (by simp;lia)) fun h' e kp hs=>?_) (F.args_zip_next_1 _))))
  obtain⟨o,ho,hcl⟩:=hs;refine δ (kv (T:="StopIteration") (b:=true) ⟨o,ho,hcl⟩ qe ?_);refine ν ⟨rfl,tu (t':=s.toks) I (fun b o hb e=>?_) hf⟩;simp only[aa,aF,or_false,not_or] at hb;exact kp b o hb.1 hb.2.2.1 hb.2.2.2.1 hb.2.2.2.2 e
 self:=fun _ _ _ _ _ st h=>wpAny_pyIter_zip st.1 h
def yu(k:Bool)(a:ζ):aL:=match k with
 |true=>{ cls:=.type "list_iterator",data:=.fields #[.ref a,.int 0 0]}
 |false=>{ cls:=.type "tuple_iterator",data:=.fields #[.ref a,.int 0 0]}
def AJ(k1:Bool)(h:af)(a1:ζ):af:=h.push (yu k1 a1)
def AI(k1 k2:Bool)(h:af)(a1 a2:ζ):af:=(AJ k1 h a1).push (yu k2 a2)
def AH(k1 k2:Bool)(h:af)(a1 a2:ζ):af:=(AI k1 k2 h a1 a2).push { cls:=.type "tuple",data:=.seq #[.ref h.objs.size,.ref (AJ k1 h a1).objs.size]}
def yh(k1 k2:Bool)(h:af)(a1 a2:ζ):af:=(AH k1 k2 h a1 a2).push { cls:=.type "tuple",data:=.seq #[.none,.none]}
def kF(k1 k2:Bool)(h:af)(a1 a2:ζ):af:=(yh k1 k2 h a1 a2).push { cls:=.type "zip",data:=.fields #[.none,.bool false,.bool false,.ref (AI k1 k2 h a1 a2).objs.size,.ref (AH k1 k2 h a1 a2).objs.size]}
theorem Lg{k:Bool}{h:af}{jt a:ζ}(e:h.get? jt=some (yu k a)):Ik k h jt a 0:=by
 cases k<;>exact⟨_,e,rfl,rfl⟩
theorem Hi{k:Bool}{a:ζ}:(yu k a).isFreed=false:=by cases k<;>rfl
theorem PZ(k1 k2:Bool)(a1 a2:ζ)(xs ys:Array ε):Meets (cO.«zip.__new__» ⟨[.type "zip",.ref a1,.ref a2],[]⟩) (fun _ R s=>Sk k1 s.heap a1 xs/\Sk k2 s.heap a2 ys ∧
   R (.ok (.ret (.ref (yh k1 k2 s.heap a1 a2).objs.size))) { s with heap:=kF k1 k2 s.heap a1 a2 }):=
 .of_wp fun prog w A R s h=>by
  obtain⟨hp,g,d,tk,os⟩:=s;obtain⟨h1,h2,h⟩:=h;have hsub:=sub_zip;cases k1<;>cases k2
  ·have q1:lu (gh ⟨hp,g,d,tk,os⟩) a1 xs:=h1;have q2:lu (gh ⟨hp.push { cls:=.type "tuple_iterator",data:=.fields #[.ref a1,.int 0 0]},g,d,tk,os⟩) a2 ys:=tY h2 _;wp_walk using dM q1,dM q2;exact⟨_,rfl,h⟩
  ·have q1:lu (gh ⟨hp,g,d,tk,os⟩) a1 xs:=h1;have q2:pP (gh ⟨hp.push { cls:=.type "tuple_iterator",data:=.fields #[.ref a1,.int 0 0]},g,d,tk,os⟩) a2 ys:=uH h2 _;wp_walk using dM q1,fb q2;exact⟨_,rfl,h⟩
  ·have q1:pP (gh ⟨hp,g,d,tk,os⟩) a1 xs:=h1;have q2:lu (gh ⟨hp.push { cls:=.type "list_iterator",data:=.fields #[.ref a1,.int 0 0]},g,d,tk,os⟩) a2 ys:=tY h2 _;wp_walk using fb q1,dM q2;exact⟨_,rfl,h⟩
  ·have q1:pP (gh ⟨hp,g,d,tk,os⟩) a1 xs:=h1;have q2:pP (gh ⟨hp.push { cls:=.type "list_iterator",data:=.fields #[.ref a1,.int 0 0]},g,d,tk,os⟩) a2 ys:=uH h2 _;wp_walk using fb q1,fb q2;exact⟨_,rfl,h⟩
theorem Hh{k1 k2:Bool}{h:af}{a1 a2:ζ}:ki (kF k1 k2 h a1 a2) (h.objs.size+4) (h.objs.size+2) (h.objs.size+3) .none/\gs (kF k1 k2 h a1 a2) (h.objs.size+2) (.ref h.objs.size) (.ref (h.objs.size+1))/\gs (kF k1 k2 h a1 a2) (h.objs.size+3) .none .none ∧
  Ik k1 (kF k1 k2 h a1 a2) h.objs.size a1 0/\Ik k2 (kF k1 k2 h a1 a2) (h.objs.size+1) a2 0/\(yh k1 k2 h a1 a2).objs.size=h.objs.size+4/\∀c o,h.get? c=some o->(kF k1 k2 h a1 a2).get? c=some o:=by
 have e1:(AJ k1 h a1).objs.size=h.objs.size+1:=dw ..;have e2:(AI k1 k2 h a1 a2).objs.size=h.objs.size+2:=(dw ..).trans (by rw[e1]);have e3:(AH k1 k2 h a1 a2).objs.size=h.objs.size+3:=(dw ..).trans (by rw[e2]);have e4:(yh k1 k2 h a1 a2).objs.size=h.objs.size+4:=(dw ..).trans (by rw[e3]);have u5:∀c o,(yh k1 k2 h a1 a2).get? c=some o->(kF k1 k2 h a1 a2).get? c=some o:=fun c o e=>μ _ e;have u4:∀c o,(AH k1 k2 h a1 a2).get? c=some o->(kF k1 k2 h a1 a2).get? c=some o:=fun c o e=>u5 c o (μ _ e);have u3:∀c o,(AI k1 k2 h a1 a2).get? c=some o->(kF k1 k2 h a1 a2).get? c=some o:=fun c o e=>u4 c o (μ _ e);have u2:∀c o,(AJ k1 h a1).get? c=some o->(kF k1 k2 h a1 a2).get? c=some o:=fun c o e=>u3 c o (μ _ e);have u1:∀c o,h.get? c=some o->(kF k1 k2 h a1 a2).get? c=some o:=fun c o e=>u2 c o (μ _ e);have g5:(kF k1 k2 h a1 a2).get? (yh k1 k2 h a1 a2).objs.size=some _:=Ψ _ rfl;have g4:(kF k1 k2 h a1 a2).get? (AH k1 k2 h a1 a2).objs.size=some _:=u5 _ _ (Ψ _ rfl);have g3:(kF k1 k2 h a1 a2).get? (AI k1 k2 h a1 a2).objs.size=some _:=u4 _ _ (Ψ _ rfl);have g2:(kF k1 k2 h a1 a2).get? (AJ k1 h a1).objs.size=some (yu k2 a2):=u3 _ _ (Ψ _ Hi);have g1:(kF k1 k2 h a1 a2).get? h.objs.size=some (yu k1 a1):=u2 _ _ (Ψ _ Hi);rw[e2,e3,e4] at g5;rw[e1,e2] at g3;rw[e3] at g4;rw[e1] at g2;exact⟨g5,g3,g4,Lg g1,Lg g2,e4,u1⟩
theorem PY{P:Ω}{w:aj}{A:aB}{E:ε->θ->Prop}{s:θ}{k1 k2:Bool}{a1 a2:ζ}{xs ys:Array ε}{Q:ε->θ->Prop}(h1:Sk k1 s.heap a1 xs)(h2:Sk k2 s.heap a2 ys)
  (q:Q (.ref (s.heap.objs.size+4)) { s with heap:=kF k1 k2 s.heap a1 a2 }):π (model P w) A (call (.type "zip") [.ref a1,.ref a2]) Q E s:=by
 refine callType_new F.called_zip (by decide) (F.typeCall_zip_2 _ _) (F.newCall_zip_2 _ _) (fun obj=>F.args_object_init_3 obj _ _) F.entry_zip_new (PZ k1 k2 a1 a2 xs ys) ⟨h1,h2,?_⟩;obtain⟨z1,_,_,_,_,z2,_⟩:=Hh (k1:=k1) (k2:=k2) (h:=s.heap) (a1:=a1) (a2:=a2);show _/\_;rw[z2];exact⟨⟨_,z1,rfl⟩,q⟩
section
variable {X:Cx} {es:List ρ} {n0:Nat} {ps p pos:aJ}
def WW(K:η)(ta:TA):TI:=fun σ H R=>ta σ H fun vs H1=>∃k1 k2 a1 a2,vs=[.ref a1,.ref a2]/\(∃xs,ix K k1 H1 a1 xs)/\(∃ys,ix K k2 H1 a2 ys)/\R (Ll K k1 k2 a1 a2) H1
theorem PX{a b:ρ}{ta:TA}(hg:Gl X "zip")(hm:X.mg "zip" = none)(ha:PA X [a,b] ta)(hs:br [a,b] X.env=[(false,eval a X.env),(false,eval b X.env)]:=by rfl)(hs2:br [b] X.env=[(false,eval b X.env)]:=by rfl):
  PI X (.Tuple es n0 ps) (.Call (.Name "zip" p) [a,b] [] pos) (WW X.K ta):=by
 intro pins s σ H R I h;refine Call_ (qI I hg hm boot_zip (cI (bB (ha pos pins s σ H _ I h) fun us s1 ⟨vs,H1,I1,r1,q1⟩=>?_) (by rw[hs,hs2]) (by rw[hs2];rfl)));obtain⟨k1,k2,a1,a2,e,⟨xs,q1⟩,⟨ys,q2⟩,q⟩:=q1;subst e;cases r1 with
 |cons r rr=>
  cases rr with
  |cons r' rr=>
   cases rr;cases r;cases r';obtain⟨its1,rv1,p1⟩:=q1.heap I1;obtain⟨its2,rv2,p2⟩:=q2.heap I1;refine PY p1 p2 ?_;obtain⟨z1,z2,z3,z4,z5,z6,z7⟩:=Hh (k1:=k1) (k2:=k2) (h:=s1.heap) (a1:=a1) (a2:=a2);refine wpAny_pyIter_zip (s:={ s1 with heap:=kF k1 k2 s1.heap a1 a2 }) z1 ?_
   refine⟨s1.heap.objs.size+4,[s1.heap.objs.size+4,s1.heap.objs.size+2,s1.heap.objs.size+3,s1.heap.objs.size,s1.heap.objs.size+1],_,_,H1,rfl,I1.kept (t':=s1.toks) z7,P0 k1 k2 a1 a2 _ _ _ _ _ (by simp),⟨z1,z2,⟨_,_,z3⟩,z4,z5⟩,fun b hb=>?_,q⟩;have hb:s1.heap.objs.size≤b:=by
    simp only[aa,aF,or_false] at hb;rcases hb with rfl|rfl|rfl|rfl|rfl
    ·exact fq _ _
    ·exact fq _ _
    ·exact fq _ _
    ·exact Δ _
    ·exact fq _ _
   exact I1.uC hb (I1.bx.fresh hb)
def uc(G:Gp):D->List D->Prop
 |.obj p,ds=>G p=some (.lst ds)
 |.tup es,ds=>ds=es
 |.dA es,ds=>ds=es
 |_,_=>False
def nN(xs ys:List D):List D:=List.zipWith (fun x y=>.tup [x,y]) xs ys
def C2(ta:cw):mY:=fun τ G R=>ta τ G fun ds G1=>match ds with
 |[x,y]=>∃xs ys,uc G1 x xs/\uc G1 y ys/\R ⟨nN xs ys,fun G=>uc G x xs/\uc G y ys⟩ G1
 |_=>False
theorem Cg{K:η}{H:Hp}{x:D}{v:V}(hv:Hv K H x v):∃k,∀H' G' xs,Ext H H'->aM K G' H'->uc G' x xs->∃a vs,v=.ref a/\ix K k H' a vs/\aD K H' xs vs:=by
 cases x with
 |obj p=>
  unfold Hv at hv;subst hv;refine⟨true,fun H' G' xs E RG h=>?_⟩;obtain⟨vs,e2,e3⟩:=RG p _ h;exact⟨p,vs,rfl,ff.of e2,e3⟩
 |tup es=>
  unfold Hv at hv;obtain⟨a,vs,rfl,e2,e3⟩:=hv;refine⟨false,fun H' G' xs E RG h=>?_⟩;cases (show xs=es from h);exact⟨a,vs,rfl,cY.ext E e2,e3.ext E⟩
 |dA es=>
  unfold Hv at hv;obtain⟨a,vs,rfl,e2,e3⟩:=hv;refine⟨true,fun H' G' xs E RG h=>?_⟩;cases (show xs=es from h);exact⟨a,vs,rfl,(kB.ext E e2).l,e3.ext E⟩
 |av=>exact⟨true,fun _ _ _ _ _ h=>h.elim⟩
 |bl _=>exact⟨true,fun _ _ _ _ _ h=>h.elim⟩
 |int _=>exact⟨true,fun _ _ _ _ _ h=>h.elim⟩
 |str _=>exact⟨true,fun _ _ _ _ _ h=>h.elim⟩
 |dc _=>exact⟨true,fun _ _ _ _ _ h=>h.elim⟩
theorem Hg{xs ys:List D}{i:Nat}{d:D}(h:(nN xs ys)[i]?=some d):∃x y,xs[i]?=some x/\ys[i]?=some y/\d=.tup [x,y]:=by
 unfold nN at h;rw[List.getElem?_zipWith] at h;cases hx:xs[i]? with
 |none=>rw[hx] at h;cases h
 |some x=>
  cases hy:ys[i]? with
  |none=>rw[hx,hy] at h;cases h
  |some y=>
   rw[hx,hy] at h;cases h;exact⟨x,y,rfl,rfl,rfl⟩
theorem PV{a b:ρ}{ta:cw}(hm:X.mg "zip" = none)(ha:ig X [a,b] ta)(hg:Gl X "zip":=by rfl)(hs:notStar a=true:=by rfl)(hs2:notStar b=true:=by rfl):
  u6 X (.Tuple es n0 ps) (.Call (.Name "zip" p) [a,b] [] pos) (C2 ta):=
 zp (PX hg hm ha (by rw[dY hs,dY hs2];rfl) (dY hs2)) fun σ H R ⟨τ,G,R3,RS,RG,h,k⟩=>⟨τ,G,_,RS,RG,h,fun vs H1 ds G1 h1 S1 R1 q1=>by
  rcases ds with _|⟨d,_|⟨d2,_|⟨d3,ds⟩⟩⟩
  ·exact q1.elim
  ·exact q1.elim
  ·obtain⟨xs,ys,s1,s2,q⟩:=q1;obtain⟨v,r,rfl,z1,z2⟩:=h1.inv;obtain⟨v',r',rfl,z3,z4⟩:=z2.inv;cases z4.gz;obtain⟨k1,f1⟩:=Cg z1;obtain⟨k2,f2⟩:=Cg z3;obtain⟨a1,vs1,rfl,y1,w1⟩:=f1 _ _ _ (Ext.refl _) R1 s1;obtain⟨a2,vs2,rfl,y2,w2⟩:=f2 _ _ _ (Ext.refl _) R1 s2;refine⟨k1,k2,a1,a2,rfl,⟨_,y1⟩,⟨_,y2⟩,k _ _ _ _ ⟨?_,?_⟩ S1 R1 q⟩
   ·intro i d H' G' E' RG' hg hi;obtain⟨x,y,e1,e2,rfl⟩:=Hg hi;obtain⟨b1,us1,c1,m1,n1⟩:=f1 _ _ _ E' RG' hg.1;obtain⟨b2,us2,c2,m2,n2⟩:=f2 _ _ _ E' RG' hg.2;cases c1;cases c2;obtain⟨u1,o1,o2⟩:=n1.get e1;obtain⟨u2,o3,o4⟩:=n2.get e2;refine⟨⟨_,_,_,_,⟨m1,o1⟩,m2,o3⟩,fun x' H'' hy=>?_⟩;obtain⟨T,u,v,rfl,hn,rfl,t1,t2⟩:=hy;have:=t1 _ m1;rw[o1] at this;cases this;have:=t2 _ m2;rw[o3] at this;cases this;refine⟨?_,.laid hn,RG'.laid hn⟩;unfold Hv;exact⟨T,_,rfl,.of iJ,.cons (o2.ext (.laid hn)) (.cons (o4.ext (.laid hn)) .nil)⟩
   ·intro i H' G' E' RG' hg hi;obtain⟨b1,us1,c1,m1,n1⟩:=f1 _ _ _ E' RG' hg.1;obtain⟨b2,us2,c2,m2,n2⟩:=f2 _ _ _ E' RG' hg.2;cases c1;cases c2;refine⟨_,_,m1,m2,?_⟩;have hi:(nN xs ys).length≤i:=hi;unfold nN at hi;rw[rM] at hi;rw[←n1.length,←n2.length];lia
  ·exact q1.elim⟩
end
end L3
namespace L3
open PySem PySem.Spec PyProof.Rows L2
open Sem (wp)
theorem JU{P:Ω}{w:aj}{A:aB}{k:Bool}(hh:A.handled=none)(it a:ζ)(cu:a≠it)(xs:Array ε):
  Draws P w A it [it,a] xs.size (fun i v=>xs[i]?=some v) (fun i h=>Ik k h it a i/\Sk k h a xs) where
 live:=fun _ _ st=>let ⟨o,ho,_⟩:=st.1.obj;⟨o,ho⟩
 frame:=fun _ _ _ st hk=>⟨st.1.of fun o e=>hk it (by simp) o e,st.2.of fun o e=>hk a (by simp) o e⟩
 item:=fun i s Q E hi st hQ=>by
  refine nextK st.1 st.2 (u:=xs[i]) (by simp[hi]) fun h' hit' hs'=>?_;exact hQ _ h' s.toks (by simp[hi]) ⟨hit',st.2.of fun o e=>hs'.extBut a o cu e⟩ hs'
 done:=fun s Q E st hE=>zj hh st.1 st.2 (by simp) hE
section
variable {P:Ω} {w:aj} {A:aB} {E:ε->θ->Prop} {s:θ}
theorem PU{k:Bool}{e it a:ζ}{i:Int}{j:Nat}{xs:Array ε}{old:ε}{Q:Option ε->θ->Prop}(hh:A.handled=none)(he:IsEnum s.heap e it i old)(hi:Ik k s.heap it a j)(ha:Sk k s.heap a xs)(hx:xs[j]?=none)
  (hQ:∀h',ua it s.heap h'->Q none { s with heap:=h' }):π (model P w) A (pyNext (.ref e)) Q E s:=by
 have hT:s.TypeIs (.ref e) "enumerate":=⟨_,he,rfl⟩;unfold pyNext;refine δ (gD (cy (name:=aI "__next__") hT F.slot_enumerate_next
  (ck F.slot_enumerate_next hT F.entry_enumerate_next ?_ (F.args_enumerate_next_1 _))))
 show π _ _ (field (.ref e) 2 >>= _) _ _ _;refine δ (bp he rfl (x:=.ref it) rfl ?_);refine δ (zj (by simpa using hh) hi ha hx fun h' x he' hx'=>?_);obtain⟨o,ho,hc⟩:=hx';refine δ (kv (T:="StopIteration") (b:=true) ⟨o,ho,hc⟩ qe ?_);exact ν (hQ _ he')
open AutoSeq1 (wpAny_loadPart') in
theorem PR(l:ζ)(items:Array ε)(n:Nat)(eL:Option ζ)(sl:Array (Option ε)):
  Meets (cO.«enumerate.__new__» ⟨[.type "enumerate",.ref l],[]⟩) (fun _ R s=>s.heap.get? l=some { cls:=.type "tuple",dict:=eL,data:=.seq items n,slots:=sl } ∧
   R (.ok (.ret (.ref (s.heap.push { cls:=.type "tuple_iterator",data:=.fields #[.ref l,.int 0 0]}).objs.size)))
    { s with heap:=(s.heap.push { cls:=.type "tuple_iterator",data:=.fields #[.ref l,.int 0 0]}).push { cls:=.type "enumerate",data:=.fields #[.none,.bool false,.ref s.heap.objs.size,rawInt 0,.none,.none]}}):=
 .of_wp fun prog w A R s h=>by
  obtain⟨hp,g,d,tk,os⟩:=s;obtain⟨hl,h⟩:=h;have hsub:=sub_enumerate;have hL:lu (gh ⟨hp,g,d,tk,os⟩) l items:=⟨_,hl,rfl,n,rfl⟩;wp_walk using wpAny_loadPart' hl;refine wpAny_stack_any fun st=>ν ?_;split
  ·rename_i c _ _ _ _ _;cases (c==nC "enumerate")
   ·wp_walk using wpAny_loadPart' hl,dM hL;exact⟨_,rfl,h⟩
   ·wp_walk using wpAny_loadPart' hl,dM hL;exact⟨_,rfl,h⟩
  ·wp_walk using wpAny_loadPart' hl,dM hL;exact⟨_,rfl,h⟩
theorem PQ{l:ζ}{items:Array ε}{Q:ε->θ->Prop}(hL:s.heap.IsTuple l items)
  (h:∀h',IsEnum h' (s.heap.objs.size+1) s.heap.objs.size 0 .none->h'.IsTupleIter s.heap.objs.size l 0->h'.objs.size=s.heap.objs.size+2 ->
   (∀b o,s.heap.get? b=some o->h'.get? b=some o)->Q (.ref (s.heap.objs.size+1)) { s with heap:=h' }):
  π (model P w) A (call (.type "enumerate") [.ref l]) Q E s:=by
 obtain⟨⟨c,eL,dt,sl⟩,hl,hc,n,hd⟩:=hL
 replace hc:c=.type "tuple":=hc
 replace hd:dt=.seq items n:=hd
 subst hc hd;refine callType_new F.called_enumerate (by decide) (F.typeCall_enumerate_1 _) (F.newCall_enumerate_1 _) (fun obj=>F.args_object_init_2 obj _) F.entry_enumerate_new
  (PR l items n eL sl) ⟨hl,?_⟩
 have hz:(s.heap.push { cls:=.type "tuple_iterator",data:=.fields #[.ref l,.int 0 0]}).objs.size=s.heap.objs.size+1:=dw ..;show _/\_;rw[hz];have he:IsEnum ((s.heap.push { cls:=.type "tuple_iterator",data:=.fields #[.ref l,.int 0 0]}).push
   { cls:=.type "enumerate",data:=.fields #[.none,.bool false,.ref s.heap.objs.size,rawInt 0,.none,.none]}) (s.heap.objs.size+1) s.heap.objs.size 0 .none:=by
  have:=Ψ (s.heap.push { cls:=.type "tuple_iterator",data:=.fields #[.ref l,.int 0 0]})
   (o:={ cls:=.type "enumerate",data:=.fields #[.none,.bool false,.ref s.heap.objs.size,rawInt 0,.none,.none]}) rfl
  rw[hz] at this;exact this
 refine⟨⟨_,he,rfl⟩,h _ he ⟨_,μ _ (Ψ _ rfl),rfl,rfl⟩ (by rw[dw,hz]) fun b o x=>μ _ (μ _ x)⟩
theorem PN{k:Bool}{l:ζ}{items:Array ε}{Q:ε->θ->Prop}(hL:Sk k s.heap l items)
  (h:∀h',IsEnum h' (s.heap.objs.size+1) s.heap.objs.size 0 .none->Ik k h' s.heap.objs.size l 0->h'.objs.size=s.heap.objs.size+2 ->
   (∀b o,s.heap.get? b=some o->h'.get? b=some o)->Q (.ref (s.heap.objs.size+1)) { s with heap:=h' }):
  π (model P w) A (call (.type "enumerate") [.ref l]) Q E s:=by
 cases k with
 |true=>exact call_enumerate_list hL h
 |false=>exact PQ hL h
end
def Ln(K:η)(k:Bool)(a:ζ):It:=
 ⟨fun i H=>∃xs x,ix K k H a xs/\xs[i]?=some x,
  fun i H x H'=>∃T u,x=.ref T/\H T=none/\H'=upd H T (.tup [.int i,u])/\∀xs,ix K k H a xs->xs[i]?=some u,
  fun i H=>∃xs,ix K k H a xs/\xs.length≤i⟩
theorem PM{P:Ω}{w:aj}{K:η}{es:List ρ}{n0:Nat}{ps:aJ}(k:Bool)(a en jt:ζ)(cu:en≠jt):
  Turn P w K (.Tuple es n0 ps) (Ln K k a) [en,jt] en (fun i h=>(∃old,IsEnum h en jt i old)/\Ik k h jt a i) where
 mem:=by simp
 obj:=fun i h st b hb=>by
  obtain⟨⟨old,Z⟩,g⟩:=st;simp only[aa,aF,or_false] at hb;rcases hb with rfl|rfl
  ·exact⟨_,Z,fun v z=>by cases (show ub _=pq v from z)⟩
  ·exact g.obj
 keep:=fun i h h' st k=>⟨let ⟨old,Z⟩:=st.1;⟨old,k _ (by simp) _ Z⟩,st.2.of fun o e=>k _ (by simp) _ e⟩
 item:=by
  intro X hP hw hK hc i pins s σ H E I hf st hg;subst hP hw hK;obtain⟨⟨old,Z⟩,g⟩:=st;obtain⟨xs,x,q1,hx⟩:=hg;obtain⟨its,rv,p⟩:=ix.heap I q1;obtain⟨u,hu,ru⟩:=rv.get hx;have hi:i<its.toArray.size:=by
   have:=(aN.mp hu).1;simpa using this
  have hja:a≠jt:=ix.apart I q1 (hf jt (by simp));have hea:a≠en:=ix.apart I q1 (hf en (by simp));refine wpAny_pyNext_enum_itemD (JU (k:=k) (by have:=I.ok.hd hc;simpa using this) jt a hja its.toArray) Z ⟨g,p⟩ hi cu (by simp[cu,hea.symm]) fun x2 h' tk hx2 Z' g' T' sz kp=>⟨_,rfl,?_⟩;have ex:x2=u:=by
   have:its.toArray[i]?=some u:=by simpa using hu
   rw[hx2] at this;exact ao this
  subst ex;refine wpAny_letOwnedTupleGo_enum (s:={ s with heap:=h',toks:=tk+1 }) Z' fun h2 Z2 b2=>?_;have hn:H s.heap.objs.size=none:=I.bx.fresh (Δ _);have I1:L2.Inv X pins σ (upd H s.heap.objs.size (.tup [.int i,x])) { s with heap:=s.heap.push { cls:=.type "tuple",data:=.seq #[.int i tk,x2]}}:=I.laid (t':=s.toks) (fun b o e=>μ _ e) (Δ _) ⟨by show 2≤ag;decide,[.int i tk,x2],.cons ⟨_,rfl⟩ (.cons ru .nil),⟨_,Ψ _ rfl,rfl,⟨_,rfl⟩,rfl⟩⟩;have lt:∀b∈[en,jt],b<s.heap.objs.size:=fun b hb=>by
   simp only[aa,aF,or_false] at hb;rcases hb with rfl|rfl
   ·exact Φ Z
   ·obtain⟨o,e,_⟩:=g.obj;exact Φ e
  have hf':∀b∈[en,jt],jU X pins (upd H s.heap.objs.size (.tup [.int i,x])) b:=fun b hb=>⟨by rw[dH (bt (lt b hb))];exact (hf b hb).1,(hf b hb).2⟩;have I2:L2.Inv X pins σ (upd H s.heap.objs.size (.tup [.int i,x])) { s with heap:=h2,toks:=tk+1 }:=tu (s:={ s with heap:=s.heap.push { cls:=.type "tuple",data:=.seq #[.int i tk,x2]}}) (t':=tk+1) I1 (fun b o hb e=>by
   simp only[aa,aF,or_false,not_or] at hb;refine b2.extBut b o hb.1 ?_;rcases rf e with⟨rfl,rfl⟩|e
   ·exact T'
   ·exact kp b o hb.1 hb.2 e) hf'
  exact⟨.ref s.heap.objs.size,_,I2,rfl,⟨_,x,rfl,hn,rfl,fun zs hz=>by rw[ix.inj I hz q1];exact hx⟩,⟨⟨_,Z2⟩,g'.1.of fun o e=>b2.extBut jt o cu.symm e⟩,fun b hb=>(hf' b hb).1⟩
 done:=by
  intro X hP hw hK hc i pins s σ H E I hf st hg;subst hP hw hK;obtain⟨⟨old,Z⟩,g⟩:=st;obtain⟨xs,q1,hl⟩:=hg;obtain⟨its,rv,p⟩:=ix.heap I q1;have l1:=rv.length;exact PU (I.ok.hd hc) Z g p (by simp;lia) fun h' kp=>⟨rfl,tu (t':=s.toks) I (fun b o hb e=>by
   simp only[aa,aF,or_false,not_or] at hb;exact kp b o hb.2 e) hf⟩
 self:=fun _ _ _ _ _ st h=>let ⟨⟨_,Z⟩,_⟩:=st;wpAny_pyIter_enum Z h
section
variable {X:Cx} {es:List ρ} {n0:Nat} {ps p pos:aJ}
def KU(K:η)(ta:TA):TI:=fun σ H R=>ta σ H fun vs H1=>∃k a,vs=[.ref a]/\(∃xs,ix K k H1 a xs)/\R (Ln K k a) H1
theorem PL{a:ρ}{ta:TA}(hg:Gl X "enumerate")(hm:X.mg "enumerate" = none)(ha:PA X [a] ta)(hs:br [a] X.env=[(false,eval a X.env)]:=by rfl):PI X (.Tuple es n0 ps) (.Call (.Name "enumerate" p) [a] [] pos) (KU X.K ta):=by
 intro pins s σ H R I h;refine Call_ (qI I hg hm boot_enumerate (cI (bB (ha pos pins s σ H _ I h) fun us s1 ⟨vs,H1,I1,r1,q1⟩=>?_) hs rfl));obtain⟨k,a1,e,⟨xs,q1⟩,q⟩:=q1;subst e;cases r1 with
 |cons r rr=>
  cases rr;cases r;obtain⟨its,rv,p⟩:=ix.heap I1 q1;refine PN p fun h' z1 z2 z3 z4=>?_;refine wpAny_pyIter_enum (s:={ s1 with heap:=h' }) z1 ?_
  refine⟨s1.heap.objs.size+1,[s1.heap.objs.size+1,s1.heap.objs.size],_,_,H1,rfl,I1.kept (t':=s1.toks) z4,PM k a1 _ _ (by simp),⟨⟨_,z1⟩,z2⟩,fun b hb=>?_,q⟩;have hb:s1.heap.objs.size≤b:=by
   simp only[aa,aF,or_false] at hb;rcases hb with rfl|rfl
   ·exact fq _ _
   ·exact Δ _
  exact I1.uC hb (I1.bx.fresh hb)
def uT(xs:List D):List D:=nN (i5 0 xs.length) xs
def zU(ta:cw):mY:=fun τ G R=>ta τ G fun ds G1=>match ds with
 |[x]=>∃xs,uc G1 x xs/\R ⟨uT xs,fun G=>uc G x xs⟩ G1
 |_=>False
theorem PK{a:ρ}{ta:cw}(hm:X.mg "enumerate" = none)(ha:ig X [a] ta)(hg:Gl X "enumerate":=by rfl)(hs:notStar a=true:=by rfl):
  u6 X (.Tuple es n0 ps) (.Call (.Name "enumerate" p) [a] [] pos) (zU ta):=
 zp (PL hg hm ha (dY hs)) fun σ H R ⟨τ,G,R3,RS,RG,h,k⟩=>⟨τ,G,_,RS,RG,h,fun vs H1 ds G1 h1 S1 R1 q1=>by
  rcases ds with _|⟨d,_|⟨d2,ds⟩⟩
  ·exact q1.elim
  ·obtain⟨xs,s1,q⟩:=q1;obtain⟨v,r,rfl,z1,z2⟩:=h1.inv;cases z2.gz;obtain⟨kk,hsq⟩:=Cg z1;obtain⟨a1,vs1,rfl,y1,w1⟩:=hsq _ _ _ (Ext.refl _) R1 s1;refine⟨kk,a1,rfl,⟨_,y1⟩,k _ _ _ _ ⟨?_,?_⟩ S1 R1 q⟩
   ·intro i d H' G' E' RG' hg hi;obtain⟨x,y,e1,e2,rfl⟩:=Hg hi;obtain⟨b1,us1,c1,m1,n1⟩:=hsq _ _ _ E' RG' hg;cases c1;obtain⟨u1,o1,o2⟩:=n1.get e2;obtain⟨_,rfl⟩:=Il e1;refine⟨⟨_,_,m1,o1⟩,fun x' H'' hy=>?_⟩;obtain⟨T,u,rfl,hn,rfl,t1⟩:=hy;have:=t1 _ m1;rw[o1] at this;cases this;refine⟨?_,.laid hn,RG'.laid hn⟩;unfold Hv;exact⟨T,_,rfl,.of iJ,.cons (by simp[Hv]) (.cons (o2.ext (.laid hn)) .nil)⟩
   ·intro i H' G' E' RG' hg hi;obtain⟨b1,us1,c1,m1,n1⟩:=hsq _ _ _ E' RG' hg;cases c1;refine⟨_,m1,?_⟩;have hi:(uT xs).length≤i:=hi;unfold uT nN at hi;rw[rM,zo] at hi;rw[←n1.length];lia
  ·exact q1.elim⟩
end
end L3
namespace L3
open PySem PySem.Spec PyProof.Rows L2
structure QE(X:Cx)(e:ρ)(t:aw):Prop where
 of:bL X e t
structure QT(X:Cx)(e:ρ)(t:cQ):Prop where
 of:pW X e t
structure QW(X:Cx)(e:ρ)(t:cQ):Prop where
 of:we X e t
structure QA(X:Cx)(es:List ρ)(t:cw):Prop where
 of:ig X es t
structure QS(X:Cx)(st:aV)(t:aA):Prop where
 of:t5 X st t
structure pV(X:Cx)(st:List aV)(t:aA):Prop where
 of:jd X st t
structure QG(X:Cx)(tg:ρ)(t:iK):Prop where
 of:wg X tg t
structure D4(X:Cx)(tgs:List ρ)(t:oj):Prop where
 of:xY X tgs t
structure QI(X:Cx)(tg iter:ρ)(t:mY):Prop where
 of:u6 X tg iter t
structure QO(X:Cx)(e:Option ρ)(t:wc):Prop where
 of:Bl X e t
structure QC(X:Cx)(ifs:List ρ)(t:cQ):Prop where
 of:wj X ifs (sv X.K t)
section
variable {X:Cx} {a b e c:ρ} {ta tb te:aw} {tA tB:cQ} {pos:aJ} {es rest:List ρ}
theorem Θ{i:Nat}{x:ι}(h:PE X (.Name x pos) (yD i)):QE X (.Name x pos) (υ i):=⟨SK (h:=h)⟩
end
section
variable {X:Cx} {a b e c:ρ} {ta tb te:aw} {tA tB:cQ} {pos:aJ} {es rest:List ρ}
theorem aP{i:Int}{j}:QE X (.Constant (.int i) j pos) (eC (.int i)):=⟨SJ ⟩
end
section
variable {X:Cx} {a b e c:ρ} {ta tb te:aw} {tA tB:cQ} {pos:aJ} {es rest:List ρ}
theorem kK{i:Bool}{j}:QE X (.Constant (.bool i) j pos) (eC (.bl i)):=⟨W5 ⟩
end
section
variable {X:Cx} {a b e c:ρ} {ta tb te:aw} {tA tB:cQ} {pos:aJ} {es rest:List ρ}
theorem vL{j}:QE X (.Constant .none j pos) (eC .av):=⟨SI ⟩
end
section
variable {X:Cx} {a b e c:ρ} {ta tb te:aw} {tA tB:cQ} {pos:aJ} {es rest:List ρ}
theorem cf{x:ι}{j}:QE X (.Constant (.str x) j pos) (eC (.str x)):=⟨SH ⟩
end
section
variable {X:Cx} {a b e c:ρ} {ta tb te:aw} {tA tB:cQ} {pos:aJ} {es rest:List ρ}
theorem zi{x:ι}{i:Int}{u:fE}(hm:X.mg x=some (.int i u))(hg:Gl X x:=by rfl)(hd:(x==("__debug__":ι))=false:=by decide):QE X (.Name x pos) (eC (.int i)):=⟨SG (hm:=hm) (hg:=hg) (hd:=hd)⟩
end
section
variable {X:Cx} {a b e c:ρ} {ta tb te:aw} {tA tB:cQ} {pos:aJ} {es rest:List ρ}
theorem dj{op:Operator}{r:R3}{r2:R2}(L:di X.K r r2)(ho:dq X (binaryOp op) r2)(ha:QE X a ta)(hb:QE X b tb):QE X (.BinOp a op b pos) (aE r ta tb):=⟨W3 (L:=L) (ho:=ho) (ha:=ha.of) (hb:=hb.of)⟩
end
section
variable {X:Cx} {a b e c:ρ} {ta tb te:aw} {tA tB:cQ} {pos:aJ} {es rest:List ρ}
theorem zh{op:gT}{r:R3}{r2:R2}(L:di X.K r r2)(ho:dq X (compareOp op) r2)(ha:QE X a ta)(hb:QE X b tb)(hm:behindInMarks op b=false):QE X (.Compare a [op] [b] pos) (aE r ta tb):=⟨SE (L:=L) (ho:=ho) (ha:=ha.of) (hb:=hb.of) (hm:=hm)⟩
end
section
variable {X:Cx} {a b e c:ρ} {ta tb te:aw} {tA tB:cQ} {pos:aJ} {es rest:List ρ}
theorem eU{op:gT}{r:R3}{r2:R2}(L:di X.K r r2)(ho:dq X (compareOp op) r2)(ha:QE X a ta)(hb:QE X b tb)(hm:behindInMarks op b=false):QT X (.Compare a [op] [b] pos) (bj (aE r ta tb)):=⟨SD (L:=L) (ho:=ho) (ha:=ha.of) (hb:=hb.of) (hm:=hm)⟩
end
section
variable {X:Cx} {a b e c:ρ} {ta tb te:aw} {tA tB:cQ} {pos:aJ} {es rest:List ρ}
theorem nU(h:QE X a ta)(he:∀whole,isTrue a X.env whole=(do let v ←whole;standAt a.pos;holding [v] (truthy v)):=by intro _;rfl):QT X a (bj ta):=⟨SA (h:=h.of) (he:=he)⟩
end
section
variable {X:Cx} {a b e c:ρ} {ta tb te:aw} {tA tB:cQ} {pos:aJ} {es rest:List ρ}
theorem Cf(ha:QE X a ta):QE X (.UnaryOp .USub a pos) (Bf uK ta):=⟨Sx (ha:=ha.of)⟩
end
section
variable {X:Cx} {a b e c:ρ} {ta tb te:aw} {tA tB:cQ} {pos:aJ} {es rest:List ρ}
theorem Ce(ha:QT X a tA):QW X (.BoolOp .And [a] pos) tA:=⟨Sw (ha:=ha.of)⟩
end
section
variable {X:Cx} {a b e c:ρ} {ta tb te:aw} {tA tB:cQ} {pos:aJ} {es rest:List ρ}
theorem lO(ha:QT X a tA):QW X (.BoolOp .Or [a] pos) tA:=⟨Sv (ha:=ha.of)⟩
end
section
variable {X:Cx} {a b e c:ρ} {ta tb te:aw} {tA tB:cQ} {pos:aJ} {es rest:List ρ}
theorem Cd(ha:QT X a tA)(hb:QW X (.BoolOp .And (b::rest) pos) tB):QW X (.BoolOp .And (a::b::rest) pos) (xW tA tB):=⟨Su (ha:=ha.of) (hb:=hb.of)⟩
end
section
variable {X:Cx} {a b e c:ρ} {ta tb te:aw} {tA tB:cQ} {pos:aJ} {es rest:List ρ}
theorem mj(ha:QT X a tA)(hb:QW X (.BoolOp .Or (b::rest) pos) tB):QW X (.BoolOp .Or (a::b::rest) pos) (kQ tA tB):=⟨Ss (ha:=ha.of) (hb:=hb.of)⟩
end
section
variable {X:Cx} {a b e c:ρ} {ta tb te:aw} {tA tB:cQ} {pos:aJ} {es rest:List ρ}
theorem jP(h:QW X a tA):QT X a tA:=⟨Lr (h:=h.of)⟩
end
section
variable {X:Cx} {a b e c:ρ} {ta tb te:aw} {tA tB:cQ} {pos:aJ} {es rest:List ρ}
theorem mK(ha:QT X a tA):QT X (.UnaryOp .Not a pos) (kR tA):=⟨Tf (ha:=ha.of)⟩
end
section
variable {X:Cx} {a b e c:ρ} {ta tb te:aw} {tA tB:cQ} {pos:aJ} {es rest:List ρ}
theorem zg{op}(h:QE X a ta):QE X (.BoolOp op [a] pos) ta:=⟨Te (h:=h.of)⟩
end
section
variable {X:Cx} {a b e c:ρ} {ta tb te:aw} {tA tB:cQ} {pos:aJ} {es rest:List ρ}
theorem Cc(ha:QE X a ta)(hb:QE X (.BoolOp .And (b::rest) pos) tb):QE X (.BoolOp .And (a::b::rest) pos) (wF ta tb):=⟨Td (ha:=ha.of) (hb:=hb.of)⟩
end
section
variable {X:Cx} {a b e c:ρ} {ta tb te:aw} {tA tB:cQ} {pos:aJ} {es rest:List ρ}
theorem PJ(ha:QE X a ta)(hb:QE X (.BoolOp .Or (b::rest) pos) tb):QE X (.BoolOp .Or (a::b::rest) pos) (Dh ta tb):=⟨W2 (ha:=ha.of) (hb:=hb.of)⟩
end
section
variable {X:Cx} {a b e c:ρ} {ta tb te:aw} {tA tB:cQ} {pos:aJ} {es rest:List ρ}
theorem Cb(ha:QE X a ta):QE X (.UnaryOp .Not a pos) (wA ta):=⟨Tc (ha:=ha.of)⟩
end
section
variable {X:Cx} {a b e c:ρ} {ta tb te:aw} {tA tB:cQ} {pos:aJ} {es rest:List ρ}
theorem az  : QA X [] ae:=⟨Tb ⟩
end
section
variable {X:Cx} {a b e c:ρ} {ta tb te:aw} {tA tB:cQ} {pos:aJ} {es rest:List ρ}
theorem Ξ{tr:cw}(ha:QE X a ta)(hr:QA X es tr)(hs:notStar a=true:=by rfl):QA X (a::es) (ξ ta tr):=⟨Ta (ha:=ha.of) (hr:=hr.of) (hs:=hs)⟩
end
section
variable {X:Cx} {a b e c:ρ} {ta tb te:aw} {tA tB:cQ} {pos:aJ} {es rest:List ρ}
theorem sf{t:cw}{x1}(h:QA X es t):QE X (.Tuple es x1 pos) (pH t):=⟨S9 (h:=h.of)⟩
end
section
variable {X:Cx} {a b e c:ρ} {ta tb te:aw} {tA tB:cQ} {pos:aJ} {es rest:List ρ}
theorem i6{t:cw}(h:QA X es t):QE X (.List es pos) (fo t):=⟨S8 (h:=h.of)⟩
end
section
variable {X:Cx} {st:aV} {rest:List aV} {t u:aA} {e c:ρ} {te:aw} {tc:cQ} {pos:aJ}
theorem gd  : pV X [] cT:=⟨R8 ⟩
end
section
variable {X:Cx} {st:aV} {rest:List aV} {t u:aA} {e c:ρ} {te:aw} {tc:cQ} {pos:aJ}
theorem bP(h1:QS X st t)(h2:pV X rest u):pV X (st::rest) (bh t u):=⟨R7 (h1:=h1.of) (h2:=h2.of)⟩
end
section
variable {X:Cx} {st:aV} {rest:List aV} {t u:aA} {e c:ρ} {te:aw} {tc:cQ} {pos:aJ}
theorem cb(h1:QS X st t):pV X [st] t:=⟨R6 (h1:=h1.of)⟩
end
section
variable {X:Cx} {st:aV} {rest:List aV} {t u:aA} {e c:ρ} {te:aw} {tc:cQ} {pos:aJ}
theorem Ca(he:QE X e te)(hs:swapsWith e none pos.line X.env=pure false:=by rfl):QS X (.Expr e pos) (tz te):=⟨R5 (he:=he.of) (hs:=hs)⟩
end
section
variable {X:Cx} {st:aV} {rest:List aV} {t u:aA} {e c:ρ} {te:aw} {tc:cQ} {pos:aJ}
theorem dB(he:QE X e te):QS X (.Return (some e) pos) (bZ te):=⟨R0 (he:=he.of)⟩
end
section
variable {X:Cx} {st:aV} {rest:List aV} {t u:aA} {e c:ρ} {te:aw} {tc:cQ} {pos:aJ}
theorem fL{a b:List aV}(hc:QT X c tc)(ha:pV X a t)(hb:pV X b u):QS X (.If c a b pos) (fv tc t u):=⟨LD (hc:=hc.of) (ha:=ha.of) (hb:=hb.of)⟩
end
section
variable {X:Cx} {pos:aJ} {e:ρ} {es:List ρ}
theorem i9{i:Nat}{x:ι}(hN:X.N.Nodup)(hi:X.N[i]?=some x:=by rfl)(hx:Loc X.env.scope x:=by first|exact sV rfl|exact qj rfl)(hf:X.fn x=true∨X.env.scope.names.lookup x=some .local:=by first|exact .inl rfl|exact .inr rfl|assumption):QG X (.Name x pos) (hName i):=⟨RZ (hN:=hN) (hi:=hi) (hx:=hx) (hf:=hf)⟩
end
section
variable {X:Cx} {pos:aJ} {e:ρ} {es:List ρ}
theorem zf  : D4 X [] sF:=⟨RY ⟩
end
section
variable {X:Cx} {pos:aJ} {e:ρ} {es:List ρ}
theorem se{t:iK}{u:oj}(h1:QG X e t)(h2:D4 X es u)(hs:(assignEach (e::es) X.env).map (·.2)=assign e X.env::(assignEach es X.env).map (·.2):=by rfl):D4 X (e::es) (iX t u):=⟨RX (h1:=h1.of) (h2:=h2.of) (hs:=hs)⟩
end
section
variable {X:Cx} {pos:aJ} {e:ρ} {es:List ρ}
theorem ze{k:Nat}{t:oj}{n:Nat}(hc:X.calm=true)(h:D4 X es t)(hn:(assignEach es X.env).length=n:=by rfl)(hst:(assignEach es X.env).findIdx? (·.1)=none:=by rfl):QG X (.Tuple es k pos) (sE n t):=⟨RW (hc:=hc) (h:=h.of) (hn:=hn) (hst:=hst)⟩
end
section
variable {X:Cx} {pos:aJ} {e:ρ} {es:List ρ}
theorem xF{tg:ρ}{te:aw}{g:iK}(he:QE X e te)(hg:QG X tg g)(hs:swapsWithSole [tg] e pos.line X.env=pure false:=by rfl)(hw:swappedStores [tg] e X.env=pure none:=by rfl)(h1:(assignEach [tg] X.env).map (·.2)=[assign tg X.env]:=by rfl):QS X (.Assign [tg] e pos) (b9 te g):=⟨RV (he:=he.of) (hg:=hg.of) (hs:=hs) (hw:=hw) (h1:=h1)⟩
end
section
variable {X:Cx} {pos:aJ} {e:ρ} {es:List ρ}
theorem eK{i:Nat}{x:ι}{te:aw}{pos':aJ}(hN:X.N.Nodup)(he:QE X e te)(hi:X.N[i]?=some x:=by rfl)(hx:Loc X.env.scope x:=by first|exact sV rfl|exact qj rfl)(hs:swapsWith e (some (.Name x pos')) pos.line X.env=pure false:=by rfl)(hf:X.fn x=true∨X.env.scope.names.lookup x=some .local:=by first|exact .inl rfl|exact .inr rfl|assumption):QS X (.Assign [.Name x pos'] e pos) (b9 te (hName i)):=⟨RU (hN:=hN) (he:=he.of) (hi:=hi) (hx:=hx) (hs:=hs) (hf:=hf)⟩
end
section
variable {X:Cx} {pos:aJ} {e:ρ} {es:List ρ}
theorem zd{o i:ρ}{to ti:aw}(ho:QE X o to)(hi:QE X i ti) (ha:∀v,assign (.Subscript o i pos) X.env v=(do
   let ov ←holding [v] (eval o X.env)
   let iv ←holding [v,ov] (eval i X.env)
   standAt pos
   holding [v,ov,iv] (setItem ov iv v)
   release [v,ov,iv] []):=by intro _;rfl):QG X (.Subscript o i pos) (hSub to ti):=⟨RQ (ho:=ho.of) (hi:=hi.of) (ha:=ha)⟩
end
section
variable {X:Cx} {k:Nat} {f:ζ} {fd:ay} {ps:List ι} {sp:fC} {x:ι} {p pos:aJ} {e:ρ} {es:List ρ} {t:cw}
theorem eG(F:fi X.prog X.w X.K X.mg X.base k f fd ps sp)(hr:dI k X.A)(hm:X.mg x=some (.ref f))(hk:bS X.K (.ref f)=true)(hb:Binds X.K fd ps [])(ha:QA X (e::es) t)(hg:Gl X x:=by rfl)(hdb:(x==("__debug__":ι))=false:=by decide)(he:notStar e=true:=by rfl)(hpl:es.all notStar=true:=by rfl):QE X (.Call (.Name x p) (e::es) [] pos) (bG sp t):=⟨RP (F:=F) (hr:=hr) (hm:=hm) (hk:=hk) (hb:=hb) (ha:=ha.of) (hg:=hg) (hdb:=hdb) (he:=he) (hpl:=hpl)⟩
end
section
variable {X:Cx} {tg iter:ρ} {pos p:aJ}
theorem sd{l:ρ}{te:aw}(hl:QE X l te):QI X tg l (mL te):=⟨RO (hl:=hl.of)⟩
end
section
variable {X:Cx} {tg iter:ρ} {pos p:aJ}
theorem xE{a:ρ}{ta:cw}(hm:X.mg "range" = none)(ha:QA X [a] ta)(hg:Gl X "range":=by rfl)(hs:notStar a=true:=by rfl):QI X tg (.Call (.Name "range" p) [a] [] pos) (nu ta):=⟨RN (hm:=hm) (ha:=ha.of) (hg:=hg) (hs:=hs)⟩
end
section
variable {X:Cx} {tg iter:ρ} {pos p:aJ}
theorem PH{a b:ρ}{ta:cw}(hm:X.mg "range" = none)(ha:QA X [a,b] ta)(hg:Gl X "range":=by rfl)(hs:notStar a=true:=by rfl)(hs2:notStar b=true:=by rfl):QI X tg (.Call (.Name "range" p) [a,b] [] pos) (uS ta):=⟨RM (hm:=hm) (ha:=ha.of) (hg:=hg) (hs:=hs) (hs2:=hs2)⟩
end
section
variable {X:Cx} {tg iter:ρ} {pos p:aJ}
theorem pB{body:List aV}{ti:mY}{g:iK}{tb:aA}(hp:sU (model X.prog X.w) X.A X.env X.xe)(hc:X.calm=true)(hi:QI X tg iter ti)(hg:QG X tg g)(hb:pV X body tb)(hs:∀x,foldedSetIterable iter X.env x=pure x:=by intro _;rfl):QS X (.For tg iter body [] pos) (lL ti g tb):=⟨RL (hp:=hp) (hc:=hc) (hi:=hi.of) (hg:=hg.of) (hb:=hb.of) (hs:=hs)⟩
end
section
variable {X:Cx} {tg iter:ρ} {pos p:aJ}
theorem ux  : QC X [] (fm):=⟨RK ⟩
end
section
variable {X:Cx} {tg iter:ρ} {pos p:aJ}
theorem PF{c:ρ}{t:cQ}(h:QT X c t):QC X [c] (t):=⟨RJ (h:=h.of)⟩
end
section
variable {X:Cx} {K:η}
theorem fA{a b:ρ}{ta tb:aw}{pos:aJ}(ha:QE X a ta)(hb:QE X b tb)(hs:nI b:=by intro _ _;rfl):QE X (.Subscript a b pos) (aE dh ta tb):=⟨W4 (ha:=ha.of) (hb:=hb.of) (hs:=hs)⟩
end
section
variable {X:Cx} {K:η}
theorem B9{es:List ρ}{b:ρ}{ta:cw}{tb:aw}{pos pos':aJ}(ha:QA X es ta)(hb:QE X b tb)(hs:nI b:=by intro _ _;rfl):QE X (.Subscript (.List es pos') b pos) (sG ta tb):=⟨Sf (ha:=ha.of) (hb:=hb.of) (hs:=hs)⟩
end
section
variable {X:Cx} {a b e:ρ} {ta tb:aw} {pos:aJ}
theorem jO  : QO X none gx:=⟨Rw ⟩
end
section
variable {X:Cx} {a b e:ρ} {ta tb:aw} {pos:aJ}
theorem lD(h:QE X e ta):QO X (some e) (fM ta):=⟨Rv (h:=h.of)⟩
end
section
variable {X:Cx} {a b e:ρ} {ta tb:aw} {pos:aJ}
theorem i8{lo hi:Option ρ}{tl th:wc}{p2:aJ}(ha:QE X a ta)(hl:QO X lo tl)(hh:QO X hi th):QE X (.Subscript a (.Slice lo hi none p2) pos) (kP ta tl th):=⟨W1 (ha:=ha.of) (hl:=hl.of) (hh:=hh.of)⟩
end
section
variable {X:Cx} {K:η} {e:ρ} {es:List ρ} {t:cw} {ta:aw} {pos p:aJ}
theorem lC(hu:X.A.units+64<cLine)(hm:X.mg "len" = none)(ha:QA X (e::es) t)(hg:Gl X "len":=by rfl)(he:notStar e=true:=by rfl)(hpl:es.all notStar=true:=by rfl):QE X (.Call (.Name "len" p) (e::es) [] pos) (cL i7 t):=⟨Rq (hu:=hu) (hm:=hm) (ha:=ha.of) (hg:=hg) (he:=he) (hpl:=hpl)⟩
end
section
variable {X:Cx} {K:η} {e:ρ} {es:List ρ} {t:cw} {ta:aw} {pos p:aJ}
theorem PD(hu:X.A.units+64<cLine)(hm:X.mg "int" = none)(ha:QA X (e::es) t)(hg:Gl X "int":=by rfl)(he:notStar e=true:=by rfl)(hpl:es.all notStar=true:=by rfl):QE X (.Call (.Name "int" p) (e::es) [] pos) (cL zF t):=⟨Ro (hu:=hu) (hm:=hm) (ha:=ha.of) (hg:=hg) (he:=he) (hpl:=hpl)⟩
end
section
variable {X:Cx} {K:η} {e:ρ} {es:List ρ} {t:cw} {ta:aw} {pos p:aJ}
theorem PB(hu:X.A.units+64<cLine)(hm:X.mg "max" = none)(ha:QA X (e::es) t)(hc:X.calm=true:=by rfl)(hg:Gl X "max":=by rfl)(he:notStar e=true:=by rfl)(hpl:es.all notStar=true:=by rfl):QE X (.Call (.Name "max" p) (e::es) [] pos) (cL Cy t):=⟨Rm (hu:=hu) (hm:=hm) (ha:=ha.of) (hc:=hc) (hg:=hg) (he:=he) (hpl:=hpl)⟩
end
section
variable {X:Cx} {K:η} {e:ρ} {es:List ρ} {t:cw} {ta:aw} {pos p:aJ}
theorem Hf(hu:X.A.units+64<cLine)(hm:X.mg "tuple" = none)(ha:QA X (e::es) t)(hg:Gl X "tuple":=by rfl)(he:notStar e=true:=by rfl)(hpl:es.all notStar=true:=by rfl):QE X (.Call (.Name "tuple" p) (e::es) [] pos) (cL xm t):=⟨Rk (hu:=hu) (hm:=hm) (ha:=ha.of) (hg:=hg) (he:=he) (hpl:=hpl)⟩
end
section
variable {X:Cx} {K:η} {e:ρ} {es:List ρ} {t:cw} {ta:aw} {pos p:aJ}
theorem Pz(hu:X.A.units+64<cLine)(hm:X.mg "list" = none)(ha:QA X (e::es) t)(hg:Gl X "list":=by rfl)(he:notStar e=true:=by rfl)(hpl:es.all notStar=true:=by rfl):QE X (.Call (.Name "list" p) (e::es) [] pos) (cL zE t):=⟨Ri (hu:=hu) (hm:=hm) (ha:=ha.of) (hg:=hg) (he:=he) (hpl:=hpl)⟩
end
section
variable {X:Cx} {K:η} {e:ρ} {es:List ρ} {t:cw} {ta:aw} {pos p:aJ}
theorem Qj  : QE X (.Dict [] [] pos) Dk:=⟨Rc ⟩
end
section
variable {X:Cx} {a e:ρ} {es:List ρ} {ta:aw} {t:cw} {pos p p2:aJ}
theorem uw{T:String}{TS:ι}(k:x9 T)(hv:gp TS=some (.type T))(ha:QE X a ta)(hm:X.mg "isinstance" = none)(hm2:X.mg TS=none)(hgT:Gl X TS)(hnT:TS≠"__name__")(hdT:(TS==("__debug__":ι))=false)(hg:Gl X "isinstance":=by rfl)(he:notStar a=true:=by rfl):QE X (.Call (.Name "isinstance" p) [a,.Name TS p2] [] pos) (qP T ta):=⟨Q1 (k:=k) (hv:=hv) (ha:=ha.of) (hm:=hm) (hm2:=hm2) (hgT:=hgT) (hnT:=hnT) (hdT:=hdT) (hg:=hg) (he:=he)⟩
end
section
variable {X:Cx} {K:η} {e:ρ} {es:List ρ} {t:cw} {ta:aw} {pos p p' pos':aJ}
theorem Qi(hu:X.A.units+64<cLine)(ha:QE X e ta)(hm:X.mg "sorted" = none)(hm2:X.mg "set" = none)(hc:X.calm=true:=by rfl)(hg:Gl X "sorted":=by rfl)(hg2:Gl X "set":=by rfl)(he2:notStar e=true:=by rfl):QE X (.Call (.Name "sorted" p) [.Call (.Name "set" p') [e] [] pos'] [] pos) (uE ta):=⟨QU (hu:=hu) (ha:=ha.of) (hm:=hm) (hm2:=hm2) (hc:=hc) (hg:=hg) (hg2:=hg2) (he2:=he2)⟩
end
section
variable {X:Cx} {K:η} {e:ρ} {es:List ρ} {t:cw} {ta:aw} {pos p p' pos':aJ}
theorem zc(hu:X.A.units+64<cLine)(hm:X.mg "all" = none)(ha:QA X (e::es) t)(hc:X.calm=true:=by rfl)(hg:Gl X "all":=by rfl)(he:notStar e=true:=by rfl)(hpl:es.all notStar=true:=by rfl):QE X (.Call (.Name "all" p) (e::es) [] pos) (cL uy t):=⟨P8 (hu:=hu) (hm:=hm) (ha:=ha.of) (hc:=hc) (hg:=hg) (he:=he) (hpl:=hpl)⟩
end
section
variable {X:Cx} {es:List ρ} {n0:Nat} {ps p pos:aJ}
theorem Qh{a b:ρ}{ta:cw}(hm:X.mg "zip" = none)(ha:QA X [a,b] ta)(hg:Gl X "zip":=by rfl)(hs:notStar a=true:=by rfl)(hs2:notStar b=true:=by rfl):QI X (.Tuple es n0 ps) (.Call (.Name "zip" p) [a,b] [] pos) (C2 ta):=⟨PV (hm:=hm) (ha:=ha.of) (hg:=hg) (hs:=hs) (hs2:=hs2)⟩
end
section
variable {X:Cx} {es:List ρ} {n0:Nat} {ps p pos:aJ}
theorem Qg{a:ρ}{ta:cw}(hm:X.mg "enumerate" = none)(ha:QA X [a] ta)(hg:Gl X "enumerate":=by rfl)(hs:notStar a=true:=by rfl):QI X (.Tuple es n0 ps) (.Call (.Name "enumerate" p) [a] [] pos) (zU ta):=⟨PK (hm:=hm) (ha:=ha.of) (hg:=hg) (hs:=hs)⟩
end
section
variable {X:Cx} {a b c e o:ρ} {es:List ρ} {ta tb tc te to:aw} {t:cw} {pos apos cpos p:aJ}
theorem He{op op':gT}{r r':R3}{r2 r2':R2}(L:di X.K r r2)(L':di X.K r' r2')(ho:dq X (compareOp op) r2)(ho':dq X (compareOp op') r2')(ha:QE X a ta)(hb:QE X b tb)(hc:QE X c tc)(hm:lastMarks [op,op'] [b,c]=false:=by with_unfolding_all rfl):
  QE X (.Compare a [op,op'] [b,c] pos) (mo r r' ta tb tc):=⟨Sz (op:=op) (op':=op') L L' (UE ho ho' ha.of hb.of hc.of hm)⟩
theorem Qf{op op':gT}{r r':R3}{r2 r2':R2}(L:di X.K r r2)(L':di X.K r' r2')(ho:dq X (compareOp op) r2)(ho':dq X (compareOp op') r2')(ha:QE X a ta)(hb:QE X b tb)(hc:QE X c tc)(hm:lastMarks [op,op'] [b,c]=false:=by with_unfolding_all rfl):
  QT X (.Compare a [op,op'] [b,c] pos) (bj (mo r r' ta tb tc)):=⟨Sy (op:=op) (op':=op') L L' (TX ho ho' ha.of hb.of hc.of hm)⟩
theorem xD{name:ι}{id:String}{r:D->List D->Gp->V3->Prop}{r2:V->List V->Hp->VK->Prop}(L:mP X.K r r2)(slot:Slot "list" name id)(hty:typeOf (.builtin id)=pure (.type "method_descriptor"))(hm:sN X id r2)(ho:QE X o to)(ha:QA X (e::es) t)
  (gL:attributeBase o name X.env (eval o X.env)=eval o X.env:=by rfl)
  (xT:((backTo cpos (br (e::es) X.env)).all (fun x=>!x.1)&&(backToKw cpos (keywordEach [] X.env)).all (fun x=>x.1.isSome)
   && decide ((e::es).length+([]:List qm).length+(if ([]:List qm).isEmpty then 0 else 1)<30))=true:=by rfl)
  (jw:(apos.endLine==cpos.line)=true:=by rfl) (he:notStar e=true:=by rfl) (hpl:es.all notStar=true:=by rfl):
  QE X (.Call (.Attribute o name apos) (e::es) [] cpos) (eM r to t):=⟨Rg L (Js PySem.F.plainAttrs_list slot hty hm ho.of ha.of gL xT jw (dY he) (jG hpl))⟩
end
section
variable {X:Cx} {tg iter elt:ρ} {ifs:List ρ} {scope:eY} {own:List ι} {js:List Nat} {ti:mY} {g:iK} {tc:cQ} {te:aw} {pos:aJ}
theorem r9(hc:X.calm=true)(C:fQ X.N X.env.scope scope own js)(hi:QI X tg iter ti)
  (hb:∀s H fp,QG (X.cmp scope own js s H fp) tg g/\QC (X.cmp scope own js s H fp) ifs tc/\QE (X.cmp scope own js s H fp) elt te)
  (hs:∀x,foldedSetIterable iter X.env x=pure x:=by intro _;rfl):QE X (.ListComp elt [⟨tg,iter,ifs,0⟩] scope pos) (kh own js ti g tc te):=
 ⟨Sr hc C hi.of (fun s H fp=>⟨(hb s H fp).1.of,(hb s H fp).2.1.of,(hb s H fp).2.2.of⟩) hs⟩
end
theorem iT{P:Ω}{w:aj}{K:η}{mg:ι->Option ε}{base:af}{x qual:ι}{st:aV}{f:ζ}{fd:ay}{N ps:List ι}{k:Nat}{sp:fC}(F:fy K x qual st f fd)(S:bK N ps (ai st))(hN:ps.length≤N.length)(len:∀ds G Q,sp ds G Q->ds.length=ps.length)(tb:aA)
  (gK:∀(cdv:ε) (A:aB) (outer:List cV) (s:θ) (H:Hp) (E:XK),dI k (A.deeper (envOfC qual (ai st) s.heap.objs.size f cdv)) ->
   pV (ia qb P w K mg base N qual (ai st) f cdv A outer s H E).lG (e8 st) tb)
  (rp:∀ds G Q,sp ds G Q->tb (aT Q) (bD N ds) G):fi P w K mg base (k+1) f fd ps sp:=XF F S hN len tb (fun cdv A outer s H E hr=>(gK cdv A outer s H E hr).of) rp
end L3
namespace L3
open PySem PySem.Spec PyProof.Rows L2
section
variable {X:Cx} {K:η}
theorem kz{H:Hp}{x:ι}{v:V}(h:Hv K H (.str x) v):v=.str x:=by
 unfold Hv at h;exact h
theorem mJ{H:Hp}{x:ι}:Hv K H (.str x) (.str x):=by
 unfold Hv;rfl
def gj:R3:=fun x y G Q=>match x,y with
 |.str i,.str j=>i.length+j.length≤ag/\Q (.str (i++j)) G
 |_,_=>False
theorem qB:di K gj (fun x y H Q=>∃i j,x=.str i/\y=.str j/\i.length+j.length≤ag/\Q (.str (i++j)) H):=fun x y vx vy G H Q3 Q hx hy RG h k=>by
 unfold gj at h;split at h
 ·rename_i i j;exact⟨i,j,kz hx,kz hy,h.1,k _ H (.str (i++j)) G mJ (.refl H G) RG h.2⟩
 ·exact h.elim
def yI:R3:=fun x y G Q=>match x,y with
 |.str i,.str j=>Q (.bl (!(ba j i 0 j.length 1).isEmpty)) G
 |_,_=>False
theorem Qe:di K yI (fun x y H Q=>∃i j,x=.str i/\y=.str j/\Q (.bl (!(ba j i 0 j.length 1).isEmpty)) H):=fun x y vx vy G H Q3 Q hx hy RG h k=>by
 unfold yI at h;split at h
 ·rename_i i j;exact⟨i,j,kz hx,kz hy,k _ H (.bl _) G lE (.refl H G) RG h⟩
 ·exact h.elim
variable {e:ρ} {es:List ρ} {t:cw} {ta:aw} {pos p:aJ}
def vK:C3:=fun ds G Q=>match ds with
 |[.str z]=>z.length≤ag/\Q (.int z.length) G
 |_=>False
theorem Qd:oo K vK (fun xs H Q=>∃z,xs=[.str z]/\z.length≤ag/\Q (.int z.length) H):=fun ds vs G H Q3 Q h RG q k=>by
 unfold vK at q;split at q
 ·rename_i z;obtain⟨v,rfl,hv⟩:=ku h;rw[kz hv];exact⟨z,rfl,q.1,k _ H (.int _) G ml (.refl H G) RG q.2⟩
 ·exact q.elim
theorem Qc(hu:X.A.units+64<cLine)(hm:X.mg "len" = none)(ha:ig X (e::es) t)(hg:Gl X "len":=by rfl)(he:notStar e=true:=by rfl)(hpl:es.all notStar=true:=by rfl):
  bL X (.Call (.Name "len" p) (e::es) [] pos) (cL vK t):=qO Qd (sk T1 hg hm PySem.boot_len ha (he:=dY he) (hpl:=jG hpl))
def nT:C3:=fun ds G Q=>match ds with
 |[.int i]=>i.natAbs.log2<1920/\Q (.str (toString i)) G
 |_=>False
theorem Qb:oo K nT (fun xs H Q=>∃i,xs=[.int i]/\i.natAbs.log2<1920/\Q (.str (toString i)) H):=fun ds vs G H Q3 Q h RG q k=>by
 unfold nT at q;split at q
 ·rename_i i;obtain⟨v,rfl,hv⟩:=ku h;rw[gG hv];exact⟨i,rfl,q.1,k _ H (.str _) G mJ (.refl H G) RG q.2⟩
 ·exact q.elim
theorem Qa(hu:X.A.units+64<cLine)(hm:X.mg "str" = none)(ha:ig X (e::es) t)(hg:Gl X "str":=by rfl)(he:notStar e=true:=by rfl)(hpl:es.all notStar=true:=by rfl):
  bL X (.Call (.Name "str" p) (e::es) [] pos) (cL nT t):=qO Qb (vQ TL hg hm rfl ha (he:=dY he) (hpl:=jG hpl))
theorem Pm:iB X (.type "int") (fun xs H Q=>∃x n,xs=[.str x]/\x.length≤640/\qf x=some n/\Q (.int n) H):=by
 intro pins s σ H xs us Q I r h;obtain⟨x,n,rfl,hl,hn,q⟩:=h;obtain⟨u,rfl,t,rfl⟩:=vals1 r;exact PySem.W.KIN.call_text hn hl ⟨.int n,H,I.tok _,⟨_,rfl⟩,q⟩
def vJ:C3:=fun ds G Q=>match ds with
 |[.str x]=>x.length≤640/\∃n,qf x=some n/\Q (.int n) G
 |_=>False
theorem Pl:oo K vJ (fun xs H Q=>∃x n,xs=[.str x]/\x.length≤640/\qf x=some n/\Q (.int n) H):=fun ds vs G H Q3 Q h RG q k=>by
 unfold vJ at q;split at q
 ·rename_i x;obtain⟨v,rfl,hv⟩:=ku h;obtain⟨hl,n,hn,q⟩:=q;rw[kz hv];exact⟨x,n,rfl,hl,hn,k _ H (.int _) G ml (.refl H G) RG q⟩
 ·exact q.elim
theorem Pk(hu:X.A.units+64<cLine)(hm:X.mg "int" = none)(ha:ig X (e::es) t)(hg:Gl X "int":=by rfl)(he:notStar e=true:=by rfl)(hpl:es.all notStar=true:=by rfl):
  bL X (.Call (.Name "int" p) (e::es) [] pos) (cL vJ t):=qO Pl (vQ Pm hg hm rfl ha (he:=dY he) (hpl:=jG hpl))
end
def j4(r:D->List D->Gp->V3->Prop)(to:aw)(t:cw):aw:=fun τ G Q=>to τ G fun x G1=>(∃z,x=.str z)/\t τ G1 fun ds G2=>r x ds G2 Q
section
variable {X:Cx} {K:η} {t:cw}
theorem Pj{r:D->List D->Gp->V3->Prop}{r2:V->List V->Hp->VK->Prop}{to:aw}(L:mP K r r2){σ:L2.St}{H:Hp}{Q:VK}(h:low K (j4 r to t) σ H Q):DF K "str" r2 (low K to) (pG K t) σ H Q:=by
 obtain⟨τ,G,Q3,RS,RG,h,k⟩:=h;refine⟨τ,G,_,RS,RG,h,fun v1 H1 d1 G1 h1 S1 R1 q1=>?_⟩;obtain⟨⟨z,rfl⟩,q1⟩:=q1;refine⟨?_,τ,G1,_,RS.ext (S1.ext RG),R1,q1,fun vs H2 ds G2 h2 S2 R2 q2=>?_⟩
 ·rw[kz h1];exact rfl
 ·exact L _ _ _ _ _ _ _ _ (h1.ext (S2.ext R1)) h2 R2 q2 fun v H' d G' z1 z2 z3 z4=>k v H' d G' z1 ((S1.trans S2).trans z2) z3 z4
theorem Hd:∀l:List (ι×fE),aU ((l.map (·.1)).map V.str) (strValues l)
 |[]=>.nil
 | (x,t)::l=>.cons ⟨t,rfl⟩ (Hd l)
theorem Hc:∀{xs:List ι} {its:List ε},aU (xs.map V.str) its->∃l:List (ι×fE),its=strValues l/\l.map (·.1)=xs
 |[],_,h=>⟨[],h.zero,rfl⟩
 |x::xs,_,h=>by
  cases h with
  |cons r1 r2=>
   obtain⟨t,e⟩:=r1;obtain⟨l,e1,e2⟩:=Hc r2;exact⟨(x,t)::l,by rw[e,e1];rfl,by rw[cN,e2]⟩
theorem GZ{H:Hp}:∀(xs:List ι),aD K H (xs.map D.str) (xs.map V.str)
 |[]=>.nil
 |x::xs=>.cons mJ (GZ xs)
def strsOf:List D->Option (List ι)
 |[]=>some []
 |.str x::ds=>(strsOf ds).map (x::·)
 |_=>none
theorem B8{H:Hp}:∀{ds:List D} {vs:List V} {xs:List ι},aD K H ds vs->strsOf ds=some xs->vs=xs.map V.str
 |[],_,xs,h,e=>by
  cases e;exact h.gz
 |d::ds,vs,xs,h,e=>by
  obtain⟨v,r,rfl,q,z⟩:=h.inv;cases d with
  |str x=>
   unfold strsOf at e;cases e1:strsOf ds with
   |none=>rw[e1] at e;cases e
   |some ys=>
    rw[e1] at e;cases e;rw[B8 z e1,kz q];rfl
  |_=>cases e
def ym:V->List V->Hp->VK->Prop:=fun x vs H Q=>∃z y,x=.str z/\vs=[.str y]/\(y.length==0)=false/\z.length+2≤ag/\∀l,H l=none->Q (.ref l) (upd H l (.lst ((Txt.split z y).map V.str)))
theorem qA:sN X "str.split" ym:=by
 intro pins s σ H x vs v us Q I rx rv h;obtain⟨z,y,rfl,rfl,hy,hz,q⟩:=h;obtain⟨t,rfl⟩:=rx;obtain⟨u',rfl,ru⟩:=rv.one;obtain⟨u,rfl⟩:=ru;have fin:∀(l:List (ι×fE)) (tk:Nat),l.map (·.1)=Txt.split z y->EP X pins σ Q (.ref s.heap.objs.size) { s with heap:=s.heap.push { cls:=.type "list",data:=.seq (strValues l).toArray },toks:=tk }:=fun l tk e=>by
  have hv:=Hd l;rw[e] at hv;refine⟨.ref _,_,I.zP (t':=tk) hv ?_,rfl,q _ I.fresh⟩;have:=split_le z y;rw[ο];lia
 have hx:z.length≤ag:=by lia
 cases h1:(decide (z.length<y.length)||decide (rS z<rS y))
 ·cases hf:(ba z y 0 z.length (z.length+1)).isEmpty
  ·have es:Txt.split z y=gv z (ba z y 0 z.length (z.length+1)) y.length:=by
    unfold Txt.split;rw[if_neg (ne_true_of_eq_false h1),if_neg (ne_true_of_eq_false hf)]
   have hn:(gv z (ba z y 0 z.length (z.length+1)) y.length).length≤ag:=by
    rw[←es];have:=split_le z y;lia
   refine eX F.slot_str_split (jB _ _ _) F.entry_str_split (F.args_str_split_2 _ _) (meets_str_split_sep z y t u h1 hy hf hx hn) ?_;show EP X pins σ Q _ { s with toks:=_,heap:=s.heap.push { cls:=.type "list",data:=.seq (strsFrom s.toks (gv z (ba z y 0 z.length (z.length+1)) y.length)).toArray }};rw[strsFrom_eq];exact fin (numbered s.toks _) _ ((numbered_texts _ _).trans es.symm)
  ·refine eX F.slot_str_split (jB _ _ _) F.entry_str_split (F.args_str_split_2 _ _) (meets_str_split_not_found z y t u h1 hy hf) ?_;exact fin [(z,t)] s.toks (by unfold Txt.split;rw[if_neg (ne_true_of_eq_false h1),if_pos hf];rfl)
 ·refine eX F.slot_str_split (jB _ _ _) F.entry_str_split (F.args_str_split_2 _ _) (meets_str_split_cannot_occur z y t u h1) ?_;exact fin [(z,t)] s.toks (by unfold Txt.split;rw[if_pos h1];rfl)
def mI:D->List D->Gp->V3->Prop:=fun x ds G Q=>match x,ds with
 |.str z,[.str y]=>(y.length==0)=false/\z.length+2≤ag/\∀p G',dC G p (.lst ((Txt.split z y).map D.str)) G'->Q (.obj p) G'
 |_,_=>False
theorem qz:mP K mI ym:=fun x vx ds vs G H Q3 Q hx hs RG q k=>by
 unfold mI at q;split at q
 ·rename_i z y;obtain⟨h1,h2,q⟩:=q;obtain⟨v,rfl,hv⟩:=ku hs;rw[kz hx,kz hv];exact⟨z,y,rfl,rfl,h1,h2,fun l hl=>k _ _ (.obj l) _ qD (.g0 hl) (RG.sr hl (GZ _)) (q l _ (.mk' (RG.free hl)))⟩
 ·exact q.elim
def A0(K:η):V->List V->Hp->VK->Prop:=fun x vs H Q=>∃z a xs,x=.str z/\vs=[.ref a]/\ff K H a (xs.map V.str)/\oR z xs=true/\Q (.str (Txt.join z xs)) H
theorem vI:sN X "str.join" (A0 X.K):=by
 intro pins s σ H x vs v us Q I rx rv h;obtain⟨z,a,xs,rfl,rfl,hq,bx,q⟩:=h;obtain⟨t,rfl⟩:=rx;obtain⟨u',rfl,ru⟩:=rv.one;cases ru;obtain⟨its,rvs,pl,_⟩:=I.list hq;obtain⟨l,rfl,e⟩:=Hc rvs;have hok':rR ((l.map (·.1)).toArray.foldl (· + ·.length+z.length) 0)=false:=by
  rw[e];unfold oR at bx;rw[nh] at bx;exact bx
 refine eX F.slot_str_join (jB _ _ _) F.entry_str_join (F.args_str_join_2 _ _) (meets_str_join_list z t a l hok') ⟨pl.isList,post_join l ⟨joinFit_length hok',fun t' k=>?_⟩⟩;rw[e];exact⟨.str _,H,I.tok _,⟨_,rfl⟩,q⟩
def pA:D->List D->Gp->V3->Prop:=fun x ds G Q=>match x,ds with
 | .str z,[d]=>∃es xs,(match d with
  |.obj p=>G p=some (.lst es)
  |.dA us=>es=us
  | _=>False)/\strsOf es=some xs/\oR z xs=true/\Q (.str (Txt.join z xs)) G
 |_,_=>False
theorem vH:mP K pA (A0 K):=fun x vx ds vs G H Q3 Q hx hs RG q k=>by
 unfold pA at q;split at q
 ·rename_i z d;obtain⟨es,xs,h1,h2,h3,q⟩:=q;obtain⟨v,rfl,hv⟩:=ku hs;rw[kz hx];cases d with
  |obj p=>
   obtain⟨us,e1,e2⟩:=RG p _ h1;rw[iI hv];exact⟨z,p,xs,rfl,rfl,ff.of (by rw[e1,B8 e2 h2]),h3,k _ H (.str _) G mJ (.refl H G) RG q⟩
  |dA us=>
   cases h1;obtain⟨a,ws,rfl,e1,e2⟩:=qE hv;refine⟨z,a,xs,rfl,rfl,?_,h3,k _ H (.str _) G mJ (.refl H G) RG q⟩;rw[←B8 e2 h2];exact e1.l
  |_=>exact h1.elim
 ·exact q.elim
def wR:V->List V->Hp->VK->Prop:=fun x vs H Q=>∃z y,x=.str z/\vs=[.str y]/\Q (.bl (Txt.startswith z y)) H
theorem Ph:sN X "str.startswith" wR:=by
 intro pins s σ H x vs v us Q I rx rv h;obtain⟨z,y,rfl,rfl,q⟩:=h;obtain⟨t,rfl⟩:=rx;obtain⟨u',rfl,ru⟩:=rv.one;obtain⟨u,rfl⟩:=ru;exact SC.startswith ⟨.bl _,H,I,rfl,q⟩
def B7:D->List D->Gp->V3->Prop:=fun x ds G Q=>match x,ds with
 |.str z,[.str y]=>Q (.bl (Txt.startswith z y)) G
 |_,_=>False
theorem Pg:mP K B7 wR:=fun x vx ds vs G H Q3 Q hx hs RG q k=>by
 unfold B7 at q;split at q
 ·rename_i z y;obtain⟨v,rfl,hv⟩:=ku hs;rw[kz hx,kz hv];exact⟨z,y,rfl,rfl,k _ H (.bl _) G lE (.refl H G) RG q⟩
 ·exact q.elim
end
end L3
namespace L3
open PySem PySem.Spec PyProof.Rows L2
def Lf:List aw->ι->S3->Gp->V3->Prop
 |[],acc,_,G,Q=>acc.length≤ag/\Q (.str acc) G
 |t::ts,acc,τ,G,Q=>t τ G fun x G1=>match x with
  |.str y=>(acc++y).length≤ag/\Lf ts (acc++y) τ G1 Q
  |_=>False
def JT(ts:List aw):aw:=fun τ G Q=>Lf ts gg τ G Q
def Dj(ta:aw):aw:=fun τ G Q=>ta τ G fun x G1=>match x with
 |.int i=>i.natAbs.log2<1920/\Q (.str (toString i)) G1
 |_=>False
def J9(z:ι):It:=⟨fun i _=>i<z.cps.size,fun i H x H'=>H'=H/\∃c,z.cps[i]?=some c/\x=.str ⟨#[c]⟩,fun i _=>z.cps.size≤i⟩
theorem Pf{P:Ω}{w:aj}{K:η}{tg:ρ}(it:ζ)(z:ι)(t:fE):Turn P w K tg (J9 z) [it] it (fun i h=>h.IsStrIter it (strIterType z) z t i) where
 mem:=by simp
 obj:=fun i h st b hb=>by
  have e:b=it:=by simpa using hb
  subst e;obtain⟨o,e,c,d⟩:=st;exact⟨o,e,fun v z=>by rw[d] at z;cases z⟩
 keep:=fun i h h' st k=>by
  obtain⟨o,e,r⟩:=st;exact⟨o,k it (by simp) o e,r⟩
 item:=by
  intro X hP hw hK hc i pins s σ H E I hf st hg;subst hP hw hK;obtain⟨f0,f1,f2,f3,f4,f5⟩:=hf it (by simp);have hg':i<z.cps.size:=hg;have hx:z.cps[i]?=some z.cps[i]:=by simp[hg']
  have fin:∀h',h'.IsStrIter it (strIterType z) z t (i+1)->eE it s.heap h'->∃u,some (sR ⟨#[z.cps[i]]⟩ s.toks)=some u ∧
    π (model X.prog X.w) X.A (letOwnedTupleGo tg (.ref it) u) (fun _ s2=>∃x H',Inv X pins σ H' s2/\RelV x u/\(J9 z).AK i H x H'/\s2.heap.IsStrIter it (strIterType z) z t (i+1)/\∀b∈[it],H' b=none) E { s with heap:=h',toks:=s.toks+1 }:=fun h' st' sb=>by
   have I1:Inv X pins σ H { s with heap:=h',toks:=s.toks+1 }:=I.turned (fun b o hb e=>(sb.2 b hb).trans e) f0 f1 f3 f4 f5;obtain⟨o,e,c,d⟩:=id st';refine⟨_,rfl,zv (s:={ s with heap:=h',toks:=s.toks+1 }) e c d ?_ ⟨.str ⟨#[z.cps[i]]⟩,H,I1,⟨_,rfl⟩,⟨rfl,_,hx,rfl⟩,st',fun b hb=>(hf b hb).1⟩⟩;unfold strIterType;split<;>decide
  cases ha:z.cps.all (· < 128)
  ·have et:strIterType z="str_iterator":=by simp[strIterType,ha]
   rw[et] at st;exact wpAny_pyNext_wide_item st hx fun h' hit' hs'=>fin h' (by rw[et];exact hit') hs'
  ·have et:strIterType z="str_ascii_iterator":=by simp[strIterType,ha]
   rw[et] at st;exact wpAny_pyNext_ascii_item st hx fun h' hit' hs'=>fin h' (by rw[et];exact hit') hs'
 done:=by
  intro X hP hw hK hc i pins s σ H E I hf st hg;subst hP hw hK;obtain⟨f0,f1,f2,f3,f4,f5⟩:=hf it (by simp);have hg':z.cps.size≤i:=hg;have hx:z.cps[i]?=none:=by simp;lia
  cases ha:z.cps.all (· < 128)
  ·have et:strIterType z="str_iterator":=by simp[strIterType,ha]
   rw[et] at st;exact wpAny_pyNext_wide_end (I.ok.hd hc) st hx fun h' eb=>⟨rfl,I.turned (t':=s.toks) (fun b o hb e=>eb b o hb e) f0 f1 f3 f4 f5⟩
  ·have et:strIterType z="str_ascii_iterator":=by simp[strIterType,ha]
   rw[et] at st;exact wpAny_pyNext_ascii_end (I.ok.hd hc) st hx fun h' eb=>⟨rfl,I.turned (t':=s.toks) (fun b o hb e=>eb b o hb e) f0 f1 f3 f4 f5⟩
 self:=fun A i s Q E st h=>by
  cases ha:z.cps.all (· < 128)
  ·have et:strIterType z="str_iterator":=by simp[strIterType,ha]
   rw[et] at st;exact wpAny_pyIter_striter_wide st h
  ·have et:strIterType z="str_ascii_iterator":=by simp[strIterType,ha]
   rw[et] at st;exact wpAny_pyIter_striter_ascii st h
def iz(c:Nat):D:=.str ⟨#[c]⟩
def zT(te:aw):mY:=fun τ G R=>te τ G fun x G1=>match x with
 |.str z=>R ⟨z.cps.toList.map iz,fun _=>True⟩ G1
 |_=>False
theorem Pe{K:η}{H:Hp}(z:ι):AA K H (J9 z) ⟨z.cps.toList.map iz,fun _=>True⟩:=⟨by
 intro i d H' G' _ RG _ hi;have hi':(z.cps.toList.map iz)[i]?=some d:=hi;rw[aS] at hi';have hz:i<z.cps.size:=by
  refine Nat.lt_of_not_le fun h=>?_;rw[List.getElem?_eq_none (by simpa using h)] at hi';cases hi'
 refine⟨hz,fun x H'' hy=>?_⟩;obtain⟨rfl,c,hc,rfl⟩:=hy;have hc':z.cps.toList[i]?=some c:=by rw[aR];exact hc
 rw[hc'] at hi';cases hi';exact⟨mJ,.refl _ _,RG⟩,by
 intro i H' G' _ RG _ hi;have hi':(z.cps.toList.map iz).length≤i:=hi;rw[ο] at hi';show z.cps.size≤i;simpa using hi'⟩
section
variable {X:Cx} {tg l:ρ} {tl:aw}
theorem Pd(hl:bL X l tl):u6 X tg l (zT tl):=by
 intro pins s σ H R I ⟨τ,G,R3,RS,RG,h,k⟩;refine bB (hl pins s σ H (fun v H1=>∃d G1,Hv X.K H1 d v/\Step H G H1 G1/\aM X.K G1 H1/\(match d with
  |.str z=>R3 ⟨z.cps.toList.map iz,fun _=>True⟩ G1
  | _=>False)) I ⟨τ,G,_,RS,RG,h,fun v H1 d G1 a b c q=>⟨d,G1,a,b,c,q⟩⟩) fun u s1 ⟨v,H1,I1,r1,d,G1,hd,S1,R1,q⟩=>?_
 cases d with
 |str z=>
  rw[kz hd] at r1;obtain⟨t,rfl⟩:=r1;refine wpAny_pyIter_strU ?_;refine⟨s1.heap.objs.size,[s1.heap.objs.size],_,_,H1,rfl,I1.kept (t':=s1.toks) fun b o e=>μ _ e,Pf _ z t,⟨_,Ψ _ rfl,rfl,rfl⟩,fun b hb=>?_,k _ _ _ _ (Pe z) S1 R1 q⟩;have e:b=s1.heap.objs.size:=by simpa using hb
  subst e;exact I1.uC (Δ _) (I1.bx.fresh (Δ _))
 |_=>exact q.elim
end
end L3
namespace L3
open PySem PySem.Spec PyProof.Rows L2
section
variable {X:Cx} {e a b o l tg:ρ} {es rest:List ρ} {ta te to:aw} {ts:List aw} {t:cw} {pos p apos cpos:aJ}
theorem Pc{x y:ι}{u:fE}(hm:X.mg x=some (.str y u))(hg:Gl X x:=by rfl)(hd:(x==("__debug__":ι))=false:=by decide):QE X (.Name x pos) (eC (.str y)):=⟨vN (v:=.str y) (CK hg hm ⟨u,rfl⟩ hd) fun H=>mJ⟩
theorem GY(hu:X.A.units+64<cLine)(hm:X.mg "len" = none)(ha:QA X (e::es) t)(hg:Gl X "len":=by rfl)(he:notStar e=true:=by rfl)(hpl:es.all notStar=true:=by rfl):QE X (.Call (.Name "len" p) (e::es) [] pos) (cL vK t):=⟨Qc (hu:=hu) (hm:=hm) (ha:=ha.of) (hg:=hg) (he:=he) (hpl:=hpl)⟩
theorem zb(hu:X.A.units+64<cLine)(hm:X.mg "str" = none)(ha:QA X (e::es) t)(hg:Gl X "str":=by rfl)(he:notStar e=true:=by rfl)(hpl:es.all notStar=true:=by rfl):QE X (.Call (.Name "str" p) (e::es) [] pos) (cL nT t):=⟨Qa (hu:=hu) (hm:=hm) (ha:=ha.of) (hg:=hg) (he:=he) (hpl:=hpl)⟩
theorem GX(hu:X.A.units+64<cLine)(hm:X.mg "int" = none)(ha:QA X (e::es) t)(hg:Gl X "int":=by rfl)(he:notStar e=true:=by rfl)(hpl:es.all notStar=true:=by rfl):QE X (.Call (.Name "int" p) (e::es) [] pos) (cL vJ t):=⟨Pk (hu:=hu) (hm:=hm) (ha:=ha.of) (hg:=hg) (he:=he) (hpl:=hpl)⟩
theorem HK(hl:QE X l te):QI X tg l (zT te):=⟨Pd hl.of⟩
theorem jN{name:ι}{id:String}{r:D->List D->Gp->V3->Prop}{r2:V->List V->Hp->VK->Prop}(L:mP X.K r r2)(slot:Slot "str" name id)(hty:typeOf (.builtin id)=pure (.type "method_descriptor"))(hm:sN X id r2)(ho:QE X o to)(ha:QA X (e::es) t)
  (gL:attributeBase o name X.env (eval o X.env)=eval o X.env:=by rfl)
  (xT:((backTo cpos (br (e::es) X.env)).all (fun x=>!x.1)&&(backToKw cpos (keywordEach [] X.env)).all (fun x=>x.1.isSome)
   && decide ((e::es).length+([]:List qm).length+(if ([]:List qm).isEmpty then 0 else 1)<30))=true:=by rfl)
  (jw:(apos.endLine==cpos.line)=true:=by rfl) (he:notStar e=true:=by rfl) (hpl:es.all notStar=true:=by rfl):
  QE X (.Call (.Attribute o name apos) (e::es) [] cpos) (j4 r to t):=⟨hX (Js PySem.F.plainAttrs_str slot hty hm ho.of ha.of gL xT jw (dY he) (jG hpl)) fun _ _ _ z=>Pj L z⟩
end
end L3
namespace Tx
open PySem PySem.NumText PyProof.Rows
theorem HJ{c:Nat}:∀{x y u v:List Nat},c∉x->c∉y->x++c::u=y++c::v->x=y/\u=v
 |[],[],u,v,_,_,e=>⟨rfl,(iQ e).2⟩
 |[],b::y,u,v,_,hy,e=>absurd (iQ e).1 fun z=>hy (by rw[z];exact ψ)
 |a::x,[],u,v,hx,_,e=>absurd (iQ e).1 fun z=>hx (by rw[z];exact ψ)
 |a::x,b::y,u,v,hx,hy,e=>by
  obtain⟨e1,e2⟩:=iQ e;obtain⟨e3,e4⟩:=HJ (fun z=>hx (ω _ z)) (fun z=>hy (ω _ z)) e2;exact⟨by rw[e1,e3],e4⟩
def fl(c:Nat):List (List Nat)->List Nat
 |[]=>[]
 |x::xs=>c::(x++fl c xs)
theorem HI{c:Nat}:∀{xs ys:List (List Nat)} {x y:List Nat},c∉x->c∉y->(∀z∈xs,c∉z)->(∀z∈ys,c∉z)->x++fl c xs=y++fl c ys->x=y/\xs=ys
 |[],[],x,y,_,_,_,_,e=>⟨by simpa [fl] using e,rfl⟩
 |[],b::ys,x,y,hx,_,_,_,e=>by
  refine absurd ?_ hx;have e:x=y++c::(b++fl c ys):=by simpa [fl] using e
  rw[e];exact bq _ ψ
 |a::xs,[],x,y,_,hy,_,_,e=>by
  refine absurd ?_ hy;have e:x++c::(a++fl c xs)=y:=by simpa [fl] using e
  rw[←e];exact bq _ ψ
 |a::xs,b::ys,x,y,hx,hy,hxs,hys,e=>by
  obtain⟨e1,e2⟩:=HJ hx hy e;obtain⟨e3,e4⟩:=HI (hxs a ψ) (hys b ψ) (fun z hz=>hxs z (ω _ hz)) (fun z hz=>hys z (ω _ hz)) e2;exact⟨e1,by rw[e3,e4]⟩
theorem HH(a b:ι):(a++b).cps.toList=a.cps.toList++b.cps.toList:=by
 rw[ι.cps_append];simp
theorem join_list(c:Nat):∀(x:ι) (xs:List ι),(fS ⟨#[c]⟩ (x::xs)).cps.toList=x.cps.toList++fl c (xs.map fun y=>y.cps.toList)
 |x,[]=>by
  show x.cps.toList=_;simp[fl]
 |x,y::xs=>by
  show (x++⟨#[c]⟩++fS ⟨#[c]⟩ (y::xs)).cps.toList=_;rw[HH,HH,join_list c y xs];simp[fl]
theorem HG:∀{xs ys:List ι},(xs.map fun y=>y.cps.toList)=(ys.map fun y=>y.cps.toList)->xs=ys
 |[],[],_=>rfl
 |[],_::_,h=>by cases h
 |_::_,[],h=>by cases h
 |x::xs,y::ys,h=>by
  obtain⟨h1,h2⟩:=iQ h;rw[HG h2,ι.ext' (Array.toList_inj.mp h1)]
theorem B6{c:Nat}{x:ι}{xs:List ι}(h:∀y∈x::xs,c∉y.cps.toList):Txt.split (fS ⟨#[c]⟩ (x::xs)) ⟨#[c]⟩=x::xs:=by
 have e:=StrLaws.join_split (fS ⟨#[c]⟩ (x::xs)) ⟨#[c]⟩;have hf:=StrLaws.split_free (fS ⟨#[c]⟩ (x::xs)) c;have hp:=eD (fS ⟨#[c]⟩ (x::xs)) ⟨#[c]⟩;generalize Txt.split (fS ⟨#[c]⟩ (x::xs)) ⟨#[c]⟩=ys at e hf hp;cases ys with
 |nil=>exact absurd hp (by decide)
 |cons y ys=>
  have e':=congrArg (fun z:ι=>z.cps.toList) e;have e':(fS ⟨#[c]⟩ (y::ys)).cps.toList=(fS ⟨#[c]⟩ (x::xs)).cps.toList:=e';rw[join_list,join_list] at e';have fr:∀{zs:List ι},(∀z∈zs,c∉z.cps.toList)->∀z∈zs.map (fun y=>y.cps.toList),c∉z:=fun h z hz=>by
   obtain⟨w,hw,rfl⟩:=aX.mp hz;exact h w hw
  obtain⟨e1,e2⟩:=HI (hf y ψ) (h x ψ) (fr fun z hz=>hf z (ω _ hz)) (fr fun z hz=>h z (ω _ hz)) e';rw[HG e2,ι.ext' (Array.toList_inj.mp e1)]
theorem xP{sep:ι}{xs:List ι}(B:Nat)(h:∀y∈xs,y.length≤B)(hs:sep.length≤B)(hz:xs.length*(B+B)≤ag):oR sep xs=true:=by
 unfold oR;rw[StrLaws.joinTotal];have h1:=m4 xs h;have h2:xs.length*sep.length≤xs.length*B:=Nat.mul_le_mul_left _ hs;rw[Nat.mul_add] at hz;have:rR ((xs.map (·.length)).sum+xs.length*sep.length)=false:=decide_eq_false (by lia);rw[this];rfl
def num(n:Nat):ι:=aI (toString ((n:Nat):Int))
theorem za(n:Nat):(num n).cps.toList=(lb 10 n).map Char.toNat:=PySem.W.KIN.signs_num n
theorem HF(n:Nat):AllDigits (num n).cps.toList:=by
 intro c hc;rw[za] at hc;obtain⟨ch,rq,e⟩:=aX.mp hc;have r:=digit_range (Nat.isDigit_of_mem_toDigits (by decide) (by decide) rq);rw[←e];exact r
theorem Pb(n:Nat):(num n).cps.toList≠[]:=by
 rw[za];intro e;have h:=toDigits_len_ge 10 n;rw[List.map_eq_nil_iff.mp e] at h;exact absurd h (by decide)
theorem qy{n:Nat}(h:n<10^10):(num n).length≤10:=PySem.W.KT.len_num (n:=((n:Nat):Int)) (by lia) (by lia)
theorem Pa:∀n:Nat,0<n->∃c r,(lb 10 n).map Char.toNat=c::r/\c≠48:=by
 intro n
 induction n using Nat.strongRecOn with
 |_ m ih=>
  intro hm;by_cases h:m<10
  ·rw[Nat.toDigits_of_lt_base h];refine⟨_,[],rfl,?_⟩;have:m=1∨m=2∨m=3∨m=4∨m=5∨m=6∨m=7∨m=8∨m=9:=by lia
   rcases this with rfl|rfl|rfl|rfl|rfl|rfl|rfl|rfl|rfl<;>decide
  ·have hm2:m%10<10:=lg m (by decide);have t:lb 10 (m / 10)++lb 10 (m%10)=lb 10 (10*(m / 10)+m%10):=Nat.toDigits_append_toDigits (by decide) (by lia) hm2;rw[Nat.div_add_mod] at t;obtain⟨c,r,e,hc⟩:=ih (m / 10) (by lia) (by lia);rw[←t,bN,e];exact⟨c,_,rfl,hc⟩
theorem O9:num 0="0":=by decide
def de(w:ι):Bool:=decide (1≤w.length)&&decide (w.length≤60)&&w.cps.toList.all (fun c=>decide (48≤c/\c≤57))&&(w=="0" || !(w.cps.toList.head?==some 48))
def bc(w:ι):Int:=((digitsVal w.cps.toList:Nat):Int)
theorem len_list(w:ι):w.length=w.cps.toList.length:=by simp[ι.length]
theorem CJ{n:Nat}(h:n<10^10):de (num n)=true:=by
 have h1:=qy h;have h2:1≤(num n).length:=by
  rw[len_list];have:=Pb n;cases e:(num n).cps.toList with
  |nil=>exact absurd e this
  |cons a r=>simp
 have h3:(num n).cps.toList.all (fun c=>decide (48≤c/\c≤57))=true:=by
  rw[bT];intro c hc;exact decide_eq_true (HF n c hc)
 unfold de;rw[decide_eq_true h2,decide_eq_true (show (num n).length≤60 by lia),h3];by_cases hz:n=0
 ·subst hz;rw[O9];decide
 ·obtain⟨c,r,e,hc⟩:=Pa n (by lia);rw[za,e];have:(List.head? (c::r)==some 48)=false:=by
   rw[ll];exact beq_eq_false_iff_ne.mpr fun z=>hc (ao z)
  rw[this];simp
theorem CI(n:Nat):bc (num n)=(n:Int):=by
 unfold bc;rw[za,PySem.W.KIN.val_back]
theorem HE{w:ι}(h:de w=true):AllDigits w.cps.toList/\w.cps.toList≠[]/\w.length≤60:=by
 unfold de at h;simp only[bA,decide_eq_true_eq,bT] at h;obtain⟨⟨⟨h1,h2⟩,h3⟩,_⟩:=h;refine⟨fun c hc=>h3 c hc,fun e=>?_,h2⟩;rw[len_list,e] at h1;exact absurd h1 (by decide)
theorem HD{w:ι}(h:de w=true):intText? w=some (bc w):=by
 obtain⟨h1,h2,h3⟩:=HE h;exact intText_digits h1 h2 (aK h3 (by decide))
theorem Eg(w:ι):Txt.startswith w "0" = (w.cps.toList.head?==some 48):=by
 have e:=StrLaws.subAt_one w 48 0;have hs:Txt.startswith w "0" = (decide (0+(⟨#[48]⟩:ι).length≤w.length)&&cO.Str.subAt w ⟨#[48]⟩ 0):=rfl;rw[hs,Bool.eq_iff_iff,bA,decide_eq_true_eq,e,beq_iff_eq,List.head?_eq_getElem?]
theorem HC(c:Nat):(!(ba (aI "0123456789") ⟨#[c]⟩ 0 (aI "0123456789").length 1).isEmpty)=decide (48≤c/\c≤57):=by
 rw[StrLaws.found_one];have e:(aI "0123456789").cps.toList=[48,49,50,51,52,53,54,55,56,57]:=by decide
 rw[e];refine decide_eq_decide.mpr ?_;simp only[aa,aF,or_false];omega
theorem O8{w:ι}(h:AllDigits w.cps.toList){c:Nat}(hc:c<48):c∉w.cps.toList:=fun z=>by
 have:=h c z;lia
end Tx
namespace My
open PySem L2 L3
def Known(G:Gp):D->Prop
 |.obj a=>∃o,G a=some o/\o.plain
 |_=>True
def Ey:D->Bool
 |.int _=>true
 |_=>false
theorem cW{Q:V3}{d:D}{G:Gp}(h:Q d G):(aT Q).rt d G:=⟨G,Sub.refl G,h⟩
theorem vG{Q:V3}{d:D}{G G':Gp}(s:Sub G G')(h:Q d G):(aT Q).rt d G':=⟨G,s,h⟩
theorem ky{i:Int}(h1:-(10^80)<i)(h2:i<10^80):kU i:=by
 have:i.natAbs<10^80:=by lia
 exact oI this (by decide)
theorem Sub.wI{G G':Gp}{a:ζ}{o:GO}(s:Sub G G')(h:G a=none):Sub G (eH G' a o):=fun b u e=>by
 rw[kL (fun z=>by rw[z,h] at e;cases e)];exact s b u e
def uv:fC:=fun ds G Q=>match ds with
 |[d]=>Known G d/\Q (.bl (Ey d)) G
 |_=>False
def CH:aA:=bZ (wF (qP "int" (υ 0)) (wA (qP "bool" (υ 0))))
theorem HB{nm:ι}:∀ds G Q,uv ds G Q->CH (aT Q) (bD [nm] ds) G:=by
 intro ds G Q h;rcases ds with _|⟨d,_|⟨d2,ds⟩⟩
 ·exact h.elim
 ·cases d with
  |int i=>exact⟨fun _=>cW h.2,nofun⟩
  |bl b=>exact⟨fun _=>cW h.2,nofun⟩
  |av=>exact⟨nofun,fun _=>cW h.2⟩
  |str _=>exact⟨nofun,fun _=>cW h.2⟩
  |tup _=>exact⟨nofun,fun _=>cW h.2⟩
  |dA _=>exact⟨nofun,fun _=>cW h.2⟩
  |dc _=>exact⟨nofun,fun _=>cW h.2⟩
  |obj a=>
   obtain⟨o1,h1,hp⟩:∃o,G a=some o/\o.plain:=h.1;show match gJ "int" G (.obj a) with
    |some b=>_
    |none=>_
   cases hG:G a with
   |none=>rw[h1] at hG;cases hG
   |some o=>
    cases o with
    |lst _=>simp only[gJ,hG];exact⟨nofun,fun _=>cW h.2⟩
    |mm=>simp only[gJ,hG];exact⟨nofun,fun _=>cW h.2⟩
    |eL=>simp only[gJ,hG];exact⟨nofun,fun _=>cW h.2⟩
    |gen R=>
     rw[h1] at hG;cases hG;exact hp.elim
 ·exact h.elim
abbrev O7:=@HB "thing"
abbrev y9:=uv
abbrev O6:=CH
abbrev O5:=@HB "found"
def xC:fC:=fun ds G Q=>∃(ns:List Int) (k:Nat),ds=[.dA (ns.map .int),.int k]/\∀i:Int,Q (.int i) G
def GJ:aA:=bh (fv (bj (aE nk (υ 1) (cL i7 (ξ (υ 0) (ae))))) (bZ (aE dh (υ 0) (υ 1))) (cT)) (bZ (eC (.int 0)))
theorem O4:∀ds G Q,xC ds G Q->GJ (aT Q) (bD ["script","k"] ds) G:=by
 rintro ds G Q ⟨ns,k,rfl,q⟩;refine⟨fun h=>?_,fun h=>cW (q 0)⟩;have h':(k:Int)<((ns.map D.int).length:Nat):=of_decide_eq_true h;rw[ο] at h';have hk:k<ns.length:=by lia
 exact⟨.int ns[k],qF (by rw[aS,bu hk];rfl),cW (q _)⟩
def vF:fC:=fun ds G Q=>∃n:Int,ds=[.int n]/\0≤n/\∀r:Int,0≤r->r<2147483629->Q (.int r) G
def GI:aA:=bh (b9 (aE tE (aE df (υ 0) (eC (.int 7919))) (eC (.int 2147483647))) (hName 0)) (bZ (aE tE (aE df (aE df (aE tD (υ 0) (υ 0)) (aE tD (eC (.int 48271)) (υ 0))) (eC (.int 12345))) (eC (.int 2147483629))))
theorem O3:∀ds G Q,vF ds G Q->GI (aT Q) (bD ["seed"] ds) G:=by
 rintro ds G Q ⟨n,rfl,hn,q⟩;have h1:=gR (n+7919) (show (2147483647:Int)≠0 by decide);have h2:=fK (n+7919) (show (0:Int)<2147483647 by decide);have hb:kU ((n+7919)%2147483647):=ky (by lia) (by lia);refine⟨(by decide:(0:Int)<2147483647),⟨hb,hb⟩,⟨ky (by decide) (by decide),hb⟩,(by decide:(0:Int)<2147483629),cW (q _ ?_ ?_)⟩
 ·exact gR _ (by decide)
 ·exact fK _ (by decide)
def yZ:fC:=fun ds G Q=>∃(p:ζ) (m i j k:Int),ds=[.obj p,.int m]/\G p=some (.lst [.int i,.int j,.int k])/\tM i j k/\0<m/\kU m ∧
 ∀r i' j' k':Int,tM i' j' k'->0≤r->r<m->Q (.int r) (eH G p (.lst [.int i',.int j',.int k']))
def ko:fC:=fun ds G Q=>∃(p:ζ) (m:Int),ds=[.obj p,.int m]/\G p=some .mm/\(0<m/\kU m)/\∀r:Int,0≤r->r<m->Q (.int r) G
def GH:aA:=bh (fv (bj (aE (dF false) (aE dh (υ 0) (eC (.int 1))) (eC (.int 1)))) (bh (b9 (aE tE (aE dh (υ 0) (eC (.int 0))) (υ 1)) (hName 2)) (bh (b9 (aE yL (aE dh (υ 0) (eC (.int 0))) (υ 1)) (hSub (υ 0) (eC (.int 0)))) (bZ (υ 2)))) (cT)) (bh (b9 (bG vF (ξ (aE df (bG vF (ξ (aE dh (υ 0) (eC (.int 2))) (ae))) (eC (.int 7))) (ae))) (hSub (υ 0) (eC (.int 2)))) (bZ (aE tE (aE yL (aE dh (υ 0) (eC (.int 2))) (eC (.int 64))) (υ 1))))
theorem O1:∀ds G Q,yZ ds G Q->GH (aT Q) (bD ["pen","many","found"] ds) G:=by
 rintro ds G Q ⟨p,m,i,j,k,rfl,hp,ok,hm,hb,q⟩;obtain⟨o1,o2,o3⟩:=ok;refine⟨_,_,hp,rfl,_,_,rfl,rfl,ax _,fun _=>?_,fun _=>?_⟩
 ·refine⟨_,_,hp,rfl,hm,_,_,hp,rfl,⟨hm,hb⟩,_,0,hp,rfl,?_⟩;refine cW (q (i%m) (i / m) j k ⟨?_,o2,o3⟩ ?_ ?_)
  ·exact Int.ediv_nonneg o1 (by lia)
  ·exact gR _ (by lia)
  ·exact fK _ hm
 ·refine⟨_,_,hp,rfl,_,rfl,o2,fun r h1 h2=>⟨_,rfl,(by lia),fun r' h3 h4=>?_⟩⟩;refine⟨_,2,hp,rfl,_,_,kM,rfl,⟨by decide,ky (by decide) (by decide)⟩,hm,?_⟩;refine cW (q _ i j r' ⟨o1,h3,by lia⟩ ?_ ?_)
  ·exact gR _ (by lia)
  ·exact fK _ hm
theorem O0{K:η}:∀vs H Q E,lX K ko vs H Q E->lX K yZ vs H Q E:=by
 rintro vs H Q E ⟨ds,G,Q3,hd,RG,⟨p,m,rfl,hp,hm,q⟩,k⟩;obtain⟨i,j,l,e,ok⟩:=RG p _ hp;refine⟨_,eH G p (.lst [.int i,.int j,.int l]),fun d G'=>∃i' j' l',tM i' j' l'/\G'=eH G p (.lst [.int i',.int j',.int l'])/\Q3 d G,hd,?_,⟨p,m,i,j,l,rfl,kM,ok,hm.1,hm.2,fun r i' j' k' ok' h1 h2=>⟨i',j',k',ok',SO,q r h1 h2⟩⟩,?_⟩
 ·intro a o ea;by_cases z:a=p
  ·subst z;rw[kM] at ea;cases ea;exact⟨_,e,.cons (by simp[Hv]) (.cons (by simp[Hv]) (.cons (by simp[Hv]) .nil))⟩
  ·rw[kL z] at ea;exact RG a o ea
 ·rintro v H' d G' hv S R ⟨i',j',l',ok',rfl,h3⟩;refine k v H' d G hv ⟨fun a o ea n=>S.fr a o ea ?_,S.mX,fun a n z=>absurd n z⟩ (fun a o ea=>?_) h3
  ·have:a≠p:=fun z=>by rw[z,hp] at n;cases n
   rw[kL this];exact n
  ·by_cases z:a=p
   ·subst z;rw[hp] at ea;cases ea;obtain⟨ws,e1,e2⟩:=R a _ kM;have:=sj e2 (ns:=[i',j',l']) rfl;subst this;exact⟨i',j',l',e1,ok'⟩
   ·exact R a o (by rw[kL z];exact ea)
def yY:fC:=fun ds G Q=>∃c:Int,ds=[.int c]/\∀p i j k G',dC G p (.lst [.int i,.int j,.int k]) G'->tM i j k->Q (.obj p) G'
def CG:fC:=fun ds G Q=>∃c:Int,ds=[.int c]/\∀p G',dC G p .mm G'->Q (.obj p) G'
def GG:aA:=bh (b9 (cL Cy (ξ (υ 0) (ξ (aE DH (eC (.int 0)) (υ 0)) (ae)))) (hName 1)) (bZ (fo (ξ (υ 1) (ξ (cL zF (ξ (aE EN (υ 1) (aE DK (eC (.int 10)) (eC (.int 18)))) (ae))) (ξ (aE tE (υ 1) (eC (.int 1000003))) (ae))))))
theorem OZ:∀ds G Q,yY ds G Q->GG (aT Q) (bD ["cell","left"] ds) G:=by
 rintro ds G Q ⟨c,rfl,q⟩;refine⟨⟨by decide,by decide,by decide⟩,(by decide:(0:Int)<1000003),fun p G' hp=>cW (q p _ _ _ _ hp ⟨?_,?_,?_⟩)⟩
 ·split<;>lia
 ·exact gR _ (by decide)
 ·exact Int.lt_trans (fK _ (by decide)) (by decide)
theorem OY{K:η}:∀vs H Q E,lX K CG vs H Q E->lX K yY vs H Q E:=by
 rintro vs H Q E ⟨ds,G,Q3,hd,RG,⟨c,rfl,q⟩,k⟩;refine⟨_,G,fun d G'=>∃p i j l,tM i j l/\dC G p (.lst [.int i,.int j,.int l]) G'/\d=.obj p,hd,RG,⟨c,rfl,fun p i j l G' hp ok=>⟨p,i,j,l,ok,hp,rfl⟩⟩,?_⟩;rintro v H' d G' hv S R ⟨p,i,j,l,ok,hp,rfl⟩;refine k v H' _ (eH G' p .mm) hv ⟨S.fr,S.mX,fun a n z=>S.new a n ?_⟩ (fun a o ea=>?_) (q p _ ⟨hp.av,Sub.wI hp.sub hp.av,kM⟩)
 ·by_cases y:a=p
  ·rw[y,hp.at_];simp
  ·rw[kL y] at z;exact z
 ·by_cases z:a=p
  ·subst z;rw[kM] at ea;cases ea;obtain⟨ws,e1,e2⟩:=R a _ hp.at_;have:=sj e2 (ns:=[i,j,l]) rfl;subst this;exact⟨i,j,l,e1,ok⟩
  ·rw[kL z] at ea;exact R a o ea
abbrev bY:=Int×Int
def cD(c:bY):D:=.tup [.int c.1,.int c.2]
def sI(cs:List bY):D:=.tup (cs.map cD)
def Valid(c:bY):Prop:=0<c.1/\0≤c.2/\c.2<c.1
theorem dX{n:Nat}(h:n≤1000):n≤ag:=aK h (by decide)
theorem pz{α:Type}{guard:Gp->Prop}{g:iK}{tc:cQ}{te:aw}{Q:List D->Gp->Prop}(I:S3->Prop)(h:α->D)(pr:α->Bool)(f:α->D){G:Gp}(hg:guard G):∀(xs:List α) (acc:List D) (τ:S3),I τ ->
  (∀x∈xs,∀τ (K1:S3->Gp->Prop) (K2:S3->D->Gp->Prop),I τ->(pr x=true->∀τ2,I τ2->K2 τ2 (f x) G)->(pr x=false->∀τ2,I τ2->K1 τ2 G)->g (h x) τ G fun τ2 G2=>tc τ2 G2 fun b G3=>Br b (te τ2 G3 fun v G4=>K2 τ2 v G4) (K1 τ2 G3)) ->
  Q (acc++(xs.filter pr).map f) G->ib guard g tc te Q (xs.map h) acc τ G
 |[],acc,τ,_,_,q=>⟨hg,by simpa using q⟩
 |d::ds,acc,τ,hI,hs,q=>by
  refine⟨hg,hs d ψ τ (fun τ2 G3=>ib guard g tc te Q (ds.map h) acc τ2 G3) (fun τ2 v G4=>ib guard g tc te Q (ds.map h) (acc++[v]) τ2 G4) hI (fun hp τ2 h2=>?_) fun hp τ2 h2=>?_⟩
  ·refine pz I h pr f hg ds _ τ2 h2 (fun d' hd=>hs d' (ω _ hd)) ?_;rw[List.filter_cons_of_pos hp] at q;simpa using q
  ·refine pz I h pr f hg ds _ τ2 h2 (fun d' hd=>hs d' (ω _ hd)) ?_;rw[List.filter_cons_of_neg (by rw[hp];simp)] at q;exact q
end My
namespace My
open PySem L2 L3
def cX(c:bY):Dat.D:=.tup [.int c.1,.int c.2]
theorem GF:∀cs:List bY,e7 (cs.map cD)=some (cs.map cX)
 |[]=>rfl
 |c::cs=>by
  show (match nP (cD c) with
   |some x=>match e7 (cs.map cD) with
    |some xs=>some (x::xs)
    |none=>none
   | none=>none)=_
  rw[GF cs];rfl
theorem r8{G:Gp}{a:ζ}{ds:List D}{xs:List Dat.D}(h:G a=some (.lst ds))(e:e7 ds=some xs):tv G (.obj a)=some (.lst xs):=by
 unfold tv;simp only[h,e]
theorem GD:∀cs:List bY,Dat.gm (cs.map cX)≤1
 |[]=>ax _
 |c::cs=>by
  show max (cX c).jb (Dat.gm (cs.map cX))≤1;have h1:(cX c).jb=1:=rfl;have:=GD cs;lia
theorem OX(cs:List bY):(Dat.D.lst (cs.map cX)).jb≤50:=by
 show Dat.gm (cs.map cX)+1≤50;have:=GD cs;lia
theorem GC(xs:List Dat.D):(Dat.D.lst xs).gf (.lst [])=xs.isEmpty:=by
 cases xs with
 |nil=>rfl
 |cons x xs=>rfl
end My
namespace My
open PySem L2 L3
def gW{α:Type}(xs:List α)(lo hi:Option Int):List α:=(xs.drop (HT.bX xs.length 0 lo)).take (HT.bX xs.length xs.length hi-HT.bX xs.length 0 lo)
theorem mH{α:Type}(f:α->D)(xs:List α)(lo hi:Option Int):gA (xs.map f) lo hi=(gW xs lo hi).map f:=by
 unfold gA gW;rw[ο,rG,rH]
theorem xB{α:Type}{xs:List α}{lo hi:Option Int}{x:α}(h:x∈gW xs lo hi):x∈xs:=ra (iF h)
theorem vE{α:Type}(xs:List α)(lo hi:Option Int):(gW xs lo hi).length≤xs.length:=by
 unfold gW;rw[dN,fu];lia
theorem GB{α:Type}(xs:List α)(k:Nat):gW xs none (some (k:Int))=xs.take k:=by
 unfold gW;rw[HT.wQ,HT.tw];simp only[List.drop_zero,Nat.sub_zero];by_cases h:k≤xs.length
 ·rw[Nat.min_eq_left h]
 ·rw[Nat.min_eq_right (by lia),List.take_length,gX (by lia)]
theorem CF{α:Type}(xs:List α)(k:Nat):gW xs (some (k:Int)) none=xs.drop k:=by
 unfold gW;rw[HT.wQ,HT.tw];by_cases h:k≤xs.length
 ·rw[Nat.min_eq_left h];exact gX (by rw[fu];lia)
 ·rw[Nat.min_eq_right (by lia),oO,fz (by lia)];simp
def jV(M:Int)(cs:List bY):Prop:=∀c∈cs,Valid c/\c.1≤M
theorem OW{s r k i:Int}(h:Valid (s,r))(h1:0≤i)(h2:i<k):Valid (s*k,r+s*i):=by
 obtain⟨a,b,c⟩:=h;simp only at a b c;have q:=Int.mul_le_mul_of_nonneg_left (show i≤k-1 by lia) (show 0≤s by lia);rw[Int.mul_sub,Int.mul_one] at q;have q2:=Int.mul_nonneg (show 0≤s by lia) h1;refine⟨?_,?_,?_⟩
 ·exact Int.mul_pos a (by lia)
 ·show 0≤r+s*i;lia
 ·show r+s*i<s*k;lia
def xA:fC:=fun ds G Q=>∃(p:ζ) (t:Int),ds=[.obj p,.int t]/\G p=some .mm/\(0≤t/\t≤1000)/\∀q cs G',jV 24 cs->1≤cs.length->cs.length≤12->dC G q (.lst (cs.map cD)) G'->Q (.obj q) G'
def OV:aA:=fv (xW (bj (aE nk (aE df (cL i7 (ξ (υ 2) (ae))) (υ 5)) (eC (.int 13)))) (bj (aE nk (aE tD (υ 6) (υ 5)) (eC (.int 25))))) (b9 (aE df (aE df (kP (υ 2) (gx) (fM (υ 4))) (kh ["part"] [6,5,7] (nu (ξ (υ 5) (ae))) (hName 0) (fm) (pH (ξ (aE tD (υ 1) (υ 2)) (ξ (aE df (υ 3) (aE tD (υ 1) (υ 0))) (ae)))))) (kP (υ 2) (fM (aE df (υ 4) (eC (.int 1)))) (gx))) (hName 2)) (cT)
def Py:aA:=bh (b9 (aE dh (υ 2) (υ 4)) (sE 2 (iX (hName 6) (iX (hName 7) (sF))))) OV
def Px:aA:=bh (b9 (sG (ξ (eC (.int 2)) (ξ (eC (.int 2)) (ξ (eC (.int 3)) (ae)))) (bG ko (ξ (υ 0) (ξ (eC (.int 3)) (ae))))) (hName 5)) Py
def Pw:aA:=bh (b9 (bG ko (ξ (υ 0) (ξ (cL i7 (ξ (υ 2) (ae))) (ae)))) (hName 4)) Px
def Pu:aA:=bZ (υ 2)
def Pt:aA:=bh (lL (nu (ξ (υ 1) (ae))) (hName 3) (Pw)) Pu
def GA:aA:=bh (b9 (fo (ξ (pH (ξ (eC (.int 1)) (ξ (eC (.int 0)) (ae)))) (ae))) (hName 2)) Pt
theorem CD{α:Type}(f:α->D){xs:List α}{r:Int}(h1:0≤r)(h2:r<(xs.length:Nat)):∃x,xs[r.toNat]?=some x/\x∈xs/\kA (xs.map f) r=some (f x):=by
 have hk:r.toNat<xs.length:=by lia
 refine⟨xs[r.toNat],bu hk,iH hk,?_⟩;have e:r=((r.toNat:Nat):Int):=by lia
 have q:kA (xs.map f) ((r.toNat:Nat):Int)=some (f xs[r.toNat]):=qF (by rw[aS];simp[hk]);rw[←e] at q;exact q
theorem CC{ns:List Int}{r:Int}(h1:0≤r)(h2:r<(ns.length:Nat)):∃n,n∈ns/\kA (ns.map D.int) r=some (.int n):=by
 obtain⟨x,_,h3,h4⟩:=CD D.int h1 h2;exact⟨x,h3,h4⟩
theorem Pr:∀ds G Q,xA ds G Q->GA (aT Q) (bD ["pen","times","found","turn","spot","k","step","rest"] ds) G:=by
 rintro ds G Q ⟨p,t,rfl,hp,ht,q⟩;intro q0 G0 hq0;refine⟨⟨by lia,by lia⟩,?_⟩;refine nW (fun _ τ G'=>∃q cs x3 x4 x5 x6 x7,τ=[some (.obj p),some (.int t),some (.obj q),x3,x4,x5,x6,x7]/\dC G q (.lst (cs.map cD)) G'/\jV 24 cs/\1≤cs.length/\cs.length≤12) (fun _ _ _ _=>trivial) ?_ ?_ _ _ _ ?_
 ·rintro d ds τ G1 N ⟨q1,cs,x3,x4,x5,x6,x7,rfl,n1,ok,l1,l2⟩ hN;have e1:=n1.at_;have hp1:=n1.sub p _ hp;refine⟨_,e1,p,_,rfl,hp1,⟨?_,?_⟩,fun spot h1 h2=>?_⟩
  ·rw[ο];lia
  ·exact ky (by rw[ο];lia) (by rw[ο];lia)
  rw[ο] at h2;refine⟨p,3,rfl,hp1,⟨by decide,ky (by decide) (by decide)⟩,fun r h3 h4=>?_⟩;obtain⟨k,hk,ek⟩:=CC (ns:=[2,2,3]) h3 h4;refine⟨.int k,ek,?_⟩;obtain⟨c,ec1,hc,ec⟩:=CD cD h1 h2;obtain⟨s,r'⟩:=c;refine⟨_,cD (s,r'),e1,ec,rfl,?_⟩;have hv:=(ok _ hc).1;have hs24:=(ok _ hc).2;have hk':k=2∨k=3:=by simp at hk;lia
  have again:N [some (.obj p),some (.int t),some (.obj q1),some d,some (.int spot),some (.int k),some (.int s),some (.int r')] G1:=
   hN _ _ ⟨q1,cs,_,_,_,_,_,rfl,n1,ok,l1,l2⟩
  refine⟨_,e1,fun h5=>⟨⟨ky ?_ ?_,ky ?_ ?_⟩,fun h6=>?_,fun h6=>again⟩,fun h5=>⟨nofun,fun _=>again⟩⟩
  ·have:=hv.1;simp only at this;lia
  ·simp only at hs24;lia
  ·lia
  ·lia
  have h5':((cs.map cD).length:Int)+k<13:=of_decide_eq_true h5;have h6':s*k<25:=of_decide_eq_true h6;rw[ο] at h5';refine⟨_,e1,fun p1 G2 a1=>⟨⟨by lia,by lia⟩,?_,?_⟩⟩
  ·show (i5 0 k.toNat).length≤ag;rw[zo];exact dX (by lia)
  refine pz (fun τ=>∃x,τ=[x,some (.int s),some (.int k),some (.int r')]) (fun i:Nat=>D.int (0+(i:Int))) (fun _=>true) (fun i:Nat=>cD (s*k,r'+s*(0+(i:Int)))) trivial (aO k.toNat) [] _ ⟨none,rfl⟩ ?_ ?_
  ·rintro i hi τ K1 K2 ⟨x,rfl⟩ g1 g2;have hi':(i:Int)<k:=by have:=cg.mp hi;lia
   have b1:kU s:=ky (by have:=hv.1;simp only at this;lia) (by simp only at hs24;lia);refine⟨fun _=>⟨⟨b1,ky (by lia) (by lia)⟩,⟨b1,ky (by lia) (by lia)⟩,?_⟩,nofun⟩;exact g1 rfl _ ⟨_,rfl⟩
  ·intro p2 G3 a2;obtain⟨j,rfl⟩:∃j:Nat,spot=(j:Int):=⟨spot.toNat,by lia⟩;have hj:j<cs.length:=by lia
   have el:(gA (cs.map cD) none (some (j:Int))++([]++((aO k.toNat).filter fun _=>true).map fun i:Nat=>cD (s*k,r'+s*(0+(i:Int))))++gA (cs.map cD) (some ((j:Int)+1)) none) =
     (cs.take j++((aO k.toNat).map fun i:Nat=>(s*k,r'+s*(0+(i:Int))))++cs.drop (j+1)).map cD:=by
    rw[mH,mH,GB,show ((j:Int)+1)=((j+1:Nat):Int) by lia,CF,rO.mpr (fun _ _=>rfl)];simp[bN,fI]
   have hlen:(cs.take j++((aO k.toNat).map fun i:Nat=>(s*k,r'+s*(0+(i:Int))))++cs.drop (j+1)).length=cs.length-1+k.toNat:=by
    rw[ar,ar,dN,fu,ο,fe];lia
   have hle:(gA (cs.map cD) none (some (j:Int))++([]++((aO k.toNat).filter fun _=>true).map fun i:Nat=>cD (s*k,r'+s*(0+(i:Int))))++gA (cs.map cD) (some ((j:Int)+1)) none).length≤12:=by
    rw[el,ο,hlen];lia
   refine⟨_,_,a2.sub _ _ a1.at_,a2.at_,?_,fun p3 G4 a3=>?_⟩
   ·rw[ar,ar] at hle;exact dX (by lia)
   refine⟨_,a3.sub _ _ (a2.sub _ _ (a1.sub _ _ e1)),fun p4 G5 a4=>?_⟩;refine⟨_,_,a4.sub _ _ a3.at_,a4.at_,?_,fun p5 G6 a5=>?_⟩
   ·rw[←ar];exact dX (by lia)
   ·rw[el] at a5;have s4:=((n1.sub.trans a1.sub).trans a2.sub).trans (a3.sub.trans a4.sub);refine hN _ _ ⟨p5,_,_,_,_,_,_,rfl,⟨s4.of_none a5.av,s4.trans a5.sub,a5.at_⟩,fun c hc=>?_,by lia,by lia⟩;rcases bM.mp hc with hc|hc
    ·rcases bM.mp hc with hc|hc
     ·exact ok c (iF hc)
     ·obtain⟨i,hi,rfl⟩:=aX.mp hc;have:=cg.mp hi;exact⟨OW hv (by lia) (by lia),by show s*k≤24;lia⟩
    ·exact ok c (ra hc)
 ·rintro τ G1 ⟨q1,cs,x3,x4,x5,x6,x7,rfl,n1,ok,l1,l2⟩;exact cW (q q1 cs _ ok l1 l2 n1)
 ·exact⟨q0,[(1,0)],_,_,_,_,_,rfl,hq0,by intro c hc;simp at hc;subst hc;exact⟨⟨by decide,by decide,by decide⟩,by decide⟩,by decide,by decide⟩
end My
namespace My
open PySem L2 L3
def jF(c:bY):List Int:=[c.1,c.2]
theorem Gz(cs:List bY):(cs.map jF).map tupI=cs.map cD:=by
 rw[fI];rfl
theorem Gy{cs:List bY}:∀{mss:List (List Int)},(∀ns∈mss,ns∈cs.map jF)->∃cs':List bY,mss=cs'.map jF/\∀c∈cs',c∈cs
 |[],_=>⟨[],rfl,fun c hc=>nomatch hc⟩
 |ns::mss,h=>by
  obtain⟨cs',e,hc⟩:=Gy (mss:=mss) fun n hn=>h n (ω _ hn);obtain⟨c,h1,rfl⟩:=aX.mp (h ns ψ);refine⟨c::cs',by simp[e],fun d hd=>?_⟩;rcases aa.mp hd with rfl|hd
  ·exact h1
  ·exact hc d hd
def Bj(a b:bY):Prop:=a.1<b.1∨(a.1=b.1/\a.2<b.2)
def mO(cs:List bY):Prop:=cs.Pairwise Bj
theorem Pq{a b:bY}(h:jF a=jF b):a=b:=by
 obtain⟨s,r⟩:=a;obtain⟨s',r'⟩:=b;simp[jF] at h;simp[h]
theorem Pp{a b:bY}(h:tL.lx (jF b) (jF a)=false)(cu:a≠b):Bj a b:=by
 obtain⟨s,r⟩:=a;obtain⟨s',r'⟩:=b;unfold jF at h;simp only[tL.lx] at h;by_cases e:s'=s
 ·rw[if_pos e] at h;by_cases e2:r'=r
  ·exact absurd (by rw[e,e2]) cu
  ·rw[if_neg e2] at h;have:=of_decide_eq_false h;exact .inr ⟨e.symm,by simp only;lia⟩
 ·rw[if_neg e] at h;have:=of_decide_eq_false h;exact .inl (by simp only;lia)
theorem Po{cs:List bY}(h:uZ (cs.map jF))(nd:(cs.map jF).Nodup):mO cs:=by
 have h1:=jX.mp h;have h2:=jX.mp nd;exact (h1.and h2).imp fun {a b} q=>Pp q.1 fun z=>q.2 (by rw[z])
theorem mO.take{cs:List bY}(h:mO cs)(n:Nat):mO (cs.take n):=List.Pairwise.sublist (m8 n cs) h
theorem Pn{cs:List bY}{mss:List (List Int)}(hmem:∀ns,ns∈mss↔ns∈cs.map jF)(nd:mss.Nodup)(hr:uZ mss)(hl:mss.length≤(cs.map jF).length):
  ∃cs':List bY,mss=cs'.map jF/\(∀c,c∈cs'↔c∈cs)/\mO cs'/\cs'.length≤cs.length:=by
 obtain⟨cs',rfl,hc⟩:=Gy fun ns hn=>(hmem ns).mp hn;refine⟨cs',rfl,fun c=>⟨fun h=>hc c h,fun h=>?_⟩,Po hr nd,by simpa using hl⟩;obtain⟨c',h1,h2⟩:=aX.mp ((hmem (jF c)).mpr (aX.mpr ⟨c,h,rfl⟩));rw[←Pq h2];exact h1
theorem OK{cs:List bY}:∀ns∈cs.map jF,ns≠[]:=fun ns hn=>by
 obtain⟨c,_,rfl⟩:=aX.mp hn;simp[jF]
theorem OJ{G:Gp}{a:ζ}{cs:List bY}(e:G a=some (.lst (cs.map cD))):G a=some (.lst ((cs.map jF).map tupI)):=by rw[Gz];exact e
theorem OI{r:Int}{n:Nat}(h1:0≤r)(h2:r<(n:Int)):seqIndex? r n=some r.toNat:=by
 unfold seqIndex?;simp only[if_neg (show ¬r<0 by lia)];rw[if_pos (by simp;lia)]
theorem Gx{α β:Type}(f:α->β):∀(xs:List α) (i:Nat),(xs.map f).eraseIdx i=(xs.eraseIdx i).map f
 |[],_=>rfl
 |_::_,0=>rfl
 |x::xs,i+1=>by simp[Gx f xs i]
def xy:fC:=fun ds G Q=>∃p:ζ,ds=[.obj p]/\G p=some .mm/\∀cs,jV 24 cs->cs.length≤12->mO cs->Q (sI cs) G
def OH:aA:=fv (xW (bj (aE (dF false) (υ 1) (eC (.int 1)))) (bj (aE (dF true) (υ 2) (fo (ae))))) (tz (eM HW (υ 2) (ξ (bG ko (ξ (υ 0) (ξ (cL i7 (ξ (υ 2) (ae))) (ae)))) (ae)))) (cT)
def OG:aA:=tz (eM zD (υ 2) (ξ (pH (ξ (υ 5) (ξ (bG ko (ξ (υ 0) (ξ (υ 5) (ae)))) (ae)))) (ae)))
def OF:aA:=bh (b9 (aE dh (υ 3) (bG ko (ξ (υ 0) (ξ (eC (.int 10)) (ae))))) (hName 5)) OG
def OE:aA:=bZ (cL xm (ξ (kP (uE (υ 2)) (gx) (fM (eC (.int 12)))) (ae)))
def OD:aA:=bh (lL (nu (ξ (sG (ξ (eC (.int 0)) (ξ (eC (.int 1)) (ξ (eC (.int 2)) (ξ (eC (.int 3)) (ξ (eC (.int 5)) (ξ (eC (.int 9)) (ae))))))) (υ 1)) (ae))) (hName 4) (OF)) OE
def Gw:aA:=bh (b9 (fo (ξ (eC (.int 2)) (ξ (eC (.int 3)) (ξ (eC (.int 4)) (ξ (eC (.int 5)) (ξ (eC (.int 6)) (ξ (eC (.int 8)) (ξ (eC (.int 9)) (ξ (eC (.int 12)) (ξ (eC (.int 18)) (ξ (eC (.int 24)) (ae)))))))))))) (hName 3)) OD
def OC:aA:=bh (fv (bj (aE nk (υ 1) (eC (.int 4)))) (bh (b9 (bG xA (ξ (υ 0) (ξ (bG ko (ξ (υ 0) (ξ (eC (.int 6)) (ae)))) (ae)))) (hName 2)) OH) (cT)) Gw
def OB:aA:=bh (b9 (fo (ae)) (hName 2)) OC
def Gv:aA:=bh (b9 (bG ko (ξ (υ 0) (ξ (eC (.int 6)) (ae)))) (hName 1)) OB
theorem yX{G:Gp}{Q:V3}{p:ζ}(hp:G p=some .mm)(q:∀cs,jV 24 cs->cs.length≤12->mO cs->Q (sI cs) G){G1:Gp}{q1:ζ}{cs:List bY}{way:Int}{x3 x4 x5:Option D}(hw:0≤way/\way<6)
  (n1:dC G q1 (.lst (cs.map cD)) G1) (ok:jV 24 cs) (hl:cs.length≤12):Gw (aT Q) [some (.obj p),some (.int way),some (.obj q1),x3,x4,x5] G1:=by
 intro st G0 hst;obtain⟨n,hn,en⟩:=CC (ns:=[0,1,2,3,5,9]) hw.1 hw.2;refine⟨.int n,en,?_⟩;have hn':0≤n/\n≤9:=by simp at hn;lia
 refine⟨⟨by lia,by lia⟩,?_⟩;refine nW (fun ds τ G'=>∃cs x4 x5,τ=[some (.obj p),some (.int way),some (.obj q1),some (.obj st),x4,x5]/\dC G q1 (.lst (cs.map cD)) G'/\G' st=some (.lst (([2,3,4,5,6,8,9,12,18,24]:List Int).map D.int))/\jV 24 cs/\cs.length+ds.length≤21) (fun _ _ _ _=>trivial) ?_ ?_ _ _ _ ?_
 ·rintro d ds τ G2 N ⟨cs,x4,x5,rfl,n2,e3,ok,hl⟩ hN;have hp2:=n2.sub p _ hp;have e2:=n2.at_;refine⟨p,10,rfl,hp2,⟨by decide,ky (by decide) (by decide)⟩,fun r h1 h2=>?_⟩;obtain⟨stp,hm,es⟩:=CC (ns:=[2,3,4,5,6,8,9,12,18,24]) h1 h2;have hs:2≤stp/\stp≤24:=by simp at hm;omega
  refine⟨_,.int stp,e3,es,⟨q1,_,rfl,e2⟩,p,stp,rfl,hp2,⟨by lia,ky (by lia) (by lia)⟩,fun r2 h3 h4=>?_⟩;refine⟨_,e2,by rw[ο];exact Nat.lt_of_le_of_lt (show cs.length≤21 by lia) (by decide),?_⟩;have cu:st≠q1:=fun z=>by
   rw[z,e2] at e3;cases cs with
   |nil=>simp at e3
   |cons c cs=>simp[cD] at e3
  refine hN _ _ ⟨cs++[(stp,r2)],_,_,rfl,⟨n2.av,Sub.wI n2.sub n2.av,?_⟩,?_,fun c hc=>?_,?_⟩
  ·rw[kM,bN];rfl
  ·rw[kL cu];exact e3
  ·rcases bM.mp hc with hc|hc
   ·exact ok c hc
   ·have:c=(stp,r2):=by simpa using hc
    subst this;exact⟨⟨by show 0<stp;lia,h3,h4⟩,hs.2⟩
  ·rw[ar,ir];simp only[ak] at hl;lia
 ·rintro τ G2 ⟨cs,x4,x5,rfl,n2,e3,ok,hl⟩;refine⟨_,OJ n2.at_,by rw[ο];lia,OK,fun p1 mss G3 hp1 hmem nd hr hlen=>?_⟩;obtain⟨cs',rfl,hmem,hr,hlen⟩:=Pn hmem nd hr hlen;rw[Gz] at hp1;refine⟨_,hp1.at_,fun p2 G4 hp2=>⟨_,hp2.at_,?_⟩⟩;rw[mH,show (some (12:Int))=some ((12:Nat):Int) from rfl,GB];refine vG ((n2.sub.trans hp1.sub).trans hp2.sub) (q _ (fun c hc=>ok c ((hmem c).mp (iF hc))) ?_ (hr.take 12));rw[dN];lia
 ·refine⟨cs,_,_,rfl,⟨n1.av,n1.sub.trans hst.sub,hst.sub _ _ n1.at_⟩,hst.at_,ok,?_⟩;show cs.length+(i5 0 n.toNat).length≤21;rw[zo];lia
theorem OA:∀ds G Q,xy ds G Q->Gv (aT Q) (bD ["pen","way","found","steps","turn","step"] ds) G:=by
 rintro ds G Q ⟨p,rfl,hp,q⟩;refine⟨p,6,rfl,hp,⟨by decide,ky (by decide) (by decide)⟩,fun way h1 h2 q0 G0 n0=>⟨fun hw=>?_,fun hw=>?_⟩⟩
 ·have hp0:=n0.sub p _ hp;refine⟨p,6,rfl,hp0,⟨by decide,ky (by decide) (by decide)⟩,fun t h3 h4=>⟨p,t,rfl,hp0,⟨by lia,by lia⟩,fun q1 cs G1 ok l1 l2 n1=>?_⟩⟩;have m1:dC G q1 (.lst (cs.map cD)) G1:=⟨n0.sub.of_none n1.av,n0.sub.trans n1.sub,n1.at_⟩;refine⟨_,_,rfl,rfl,ax _,fun hw1=>?_,fun hw1=>⟨nofun,fun _=>?_⟩⟩
  ·intro q2 G2 n2;have e2:=n2.sub _ _ m1.at_;have m2:dC G q1 (.lst (cs.map cD)) G2:=⟨m1.av,m1.sub.trans n2.sub,e2⟩;refine⟨_,_,r8 e2 (GF cs),r8 n2.at_ rfl,OX cs,fun cu=>?_,fun cu=>?_⟩
   ·refine⟨⟨q1,_,rfl,e2⟩,_,e2,p,_,rfl,m2.sub p _ hp,⟨by rw[ο];lia,ky (by rw[ο];lia) (by rw[ο];lia)⟩,fun r h5 h6=>?_⟩;rw[ο] at h6;obtain⟨c,ec,hc,_⟩:=CD cD h5 h6;refine⟨_,r.toNat,cD c,e2,⟨by lia,by lia⟩,?_,by rw[aS,ec];rfl,?_⟩
    ·rw[ο];exact OI h5 h6
    ·refine yX (cs:=cs.eraseIdx r.toNat) hp q ⟨h1,h2⟩ ⟨m2.av,Sub.wI m2.sub m2.av,?_⟩ (fun c hc=>ok c (List.mem_of_mem_eraseIdx hc)) ?_
     ·rw[kM,Gx]
     ·exact aK (CS cs _) l2
   ·exact yX hp q ⟨h1,h2⟩ m2 ok l2
  ·exact yX hp q ⟨h1,h2⟩ m1 ok l2
 ·exact yX (cs:=[]) hp q ⟨h1,h2⟩ n0 (fun c hc=>nomatch hc) (by decide)
end My
namespace My
open PySem L2 L3
theorem CB{guard:Gp->Prop}{g:iK}{tc:cQ}{te:aw}{Q:List D->Gp->Prop}(I:List D->List D->S3->Gp->Prop)(hg:∀ds acc τ G,I ds acc τ G->guard G)
  (step:∀d ds acc τ G (K1:S3->Gp->Prop) (K2:S3->D->Gp->Prop),I (d::ds) acc τ G->(∀τ' v G',I ds (acc++[v]) τ' G'->K2 τ' v G')->(∀τ' G',I ds acc τ' G'->K1 τ' G')->g d τ G fun τ2 G2=>tc τ2 G2 fun b G3=>Br b (te τ2 G3 fun v G4=>K2 τ2 v G4) (K1 τ2 G3))
  (lR:∀acc τ G,I [] acc τ G->Q acc G):∀ds acc τ G,I ds acc τ G->ib guard g tc te Q ds acc τ G
 |[],acc,τ,G,h=>⟨hg _ _ _ _ h,lR _ _ _ h⟩
 |d::ds,acc,τ,G,h=>⟨hg _ _ _ _ h,step d ds acc τ G (fun τ2 G3=>ib guard g tc te Q ds acc τ2 G3) (fun τ2 v G4=>ib guard g tc te Q ds (acc++[v]) τ2 G4) h
   (fun τ' v G' q=>CB I hg step lR ds _ τ' G' q) fun τ' G' q=>CB I hg step lR ds _ τ' G' q⟩
end My
namespace My
open PySem L2 L3
def nD(n:Nat):D:=.int (n:Nat)
theorem filter_all{α:Type}(xs:List α):xs.filter (fun _=>true)=xs:=rO.mpr fun _ _=>rfl
end My
namespace My
open PySem L2 L3
theorem LG(n:Nat):i5 0 n=(aO n).map nD:=by
 unfold i5;refine iV fun i _=>?_;show D.int (0+(i:Int))=D.int (i:Int);rw[Int.zero_add]
end My
namespace My
open PySem L2 L3
def Bo(G:Gp):D->Prop
 |.tup ds=>∀d∈ds,Known G d
 |.obj a=>∃o,G a=some o/\o.plain
 |_=>True
theorem Gu{G:Gp}{d:D}(h:Bo G d)(hn:∀ds,d≠.tup ds):gJ "tuple" G d=some false:=by
 cases d with
 |obj a=>
  obtain⟨o,hG,hp⟩:∃o,G a=some o/\o.plain:=h;cases o with
  |gen R=>exact hp.elim
  |_=>simp[gJ,hG]
 |tup ds=>exact absurd rfl (hn ds)
 |_=>rfl
end My
namespace My
open PySem L2 L3
theorem xw{α:Type}(f:α->Bool):∀xs:List α,nA (xs.map fun x=>D.bl (f x))=some (xs.map f)
 |[]=>rfl
 |x::xs=>by
  show qY _ (nA (xs.map fun x=>D.bl (f x)))=_;rw[xw f xs];rfl
theorem all_map{α:Type}(f:α->Bool)(xs:List α):(xs.map f).all id=xs.all f:=by
 induction xs with
 |nil=>rfl
 |cons x xs ih=>simp
end My
namespace My
open PySem L2 L3
def Kn(G:Gp):Nat->D->Prop
 |0,d=>Known G d
 |n+1,.tup ds=>∀d∈ds,Kn G n d
 |_+1,d=>Known G d
def lH(G:Gp)(d:D):Prop:=∀n,Kn G n d
section
variable {G G':Gp}
theorem lH.tup{ds:List D}(h:∀d∈ds,lH G d):lH G (.tup ds):=fun n=>match n with
 |0=>trivial
 |n+1=>fun d hd=>h d hd n
theorem lH.int(i:Int):lH G (.int i):=fun n=>by cases n<;>trivial
theorem lH.el{ds:List D}{d:D}(h:lH G (.tup ds))(hd:d∈ds):lH G d:=fun n=>h (n+1) d hd
theorem lH.known{d:D}(h:lH G d):Known G d:=h 0
theorem lH.Bc{d:D}(h:lH G d):Bo G d:=by
 cases d with
 |tup ds=>exact fun d hd=>(h.el hd).known
 |obj a=>exact h 0
 |_=>trivial
end
def fB(s r:Int):Bool:=(decide (1≤s)&&decide (s≤1000))&&(decide (0≤r)&&decide (r<s))
def iA:D->Bool
 |.tup [.int s,.int r]=>fB s r
 |_=>false
def xl:fC:=fun ds G Q=>∃d:D,ds=[d]/\lH G d/\Q (.bl (iA d)) G
def Oz:aA:=bZ (wF (mo ue ue (eC (.int 1)) (aE dh (υ 0) (eC (.int 0))) (eC (.int 1000))) (mo ue nk (eC (.int 0)) (aE dh (υ 0) (eC (.int 1))) (aE dh (υ 0) (eC (.int 0)))))
def Oy:aA:=bh (fv (kQ (kR (bj (bG uv (ξ (aE dh (υ 0) (eC (.int 0))) (ae))))) (kR (bj (bG uv (ξ (aE dh (υ 0) (eC (.int 1))) (ae)))))) (bZ (eC (.bl false))) (cT)) Oz
def CA:aA:=bh (fv (kQ (kR (bj (qP "tuple" (υ 0)))) (bj (aE (dF true) (cL i7 (ξ (υ 0) (ae))) (eC (.int 2))))) (bZ (eC (.bl false))) (cT)) Oy
theorem Gs{ds:List D}(h:ds.length≠2):iA (.tup ds)=false:=by
 unfold iA;split
 ·rename_i h2;cases h2;exact absurd rfl h
 ·rfl
theorem Ox:∀ds G Q,xl ds G Q->CA (aT Q) (bD ["thing"] ds) G:=by
 rintro ds G Q ⟨d,rfl,hk,q⟩;have not_tup:(∀ds,d≠.tup ds)->CA (aT Q) (bD ["thing"] [d]) G:=by
  intro hn;have e:iA d=false:=by
   cases d with
   |tup ds=>exact absurd rfl (hn ds)
   |_=>rfl
  rw[e] at q;show match gJ "tuple" G d with
   |some b=>_
   |none=>False
  rw[Gu hk.Bc hn];exact⟨fun _=>⟨fun _=>cW q,nofun⟩,nofun⟩
 cases d with
 |tup ds=>
  refine⟨nofun,fun _=>⟨_,_,rfl,rfl,ax _,?_⟩⟩;rcases ds with _|⟨a,_|⟨b,_|⟨c,ds⟩⟩⟩
  ·exact⟨fun _=>cW q,nofun⟩
  ·rw[Gs (by simp)] at q;exact⟨fun _=>cW q,nofun⟩
  ·refine⟨nofun,fun _=>⟨a,rfl,(hk.el (by simp)).known,?_⟩⟩;have hb:Known G b:=(hk.el (by simp)).known;cases a with
   |int s=>
    refine⟨nofun,fun _=>⟨b,rfl,hb,?_⟩⟩;cases b with
    |int r=>
     have fin:∀v,fB s r=v->(aT Q).rt (.bl v) G:=fun v e=>by
      rw[←e];exact cW q
     refine⟨nofun,fun _=>⟨_,rfl,⟨fun h1=>⟨fun h2=>⟨_,rfl,fun h3=>⟨_,rfl,fin _ ?_⟩,fun h3=>fin _ ?_⟩,fun h2=>fin _ ?_⟩,fun h1=>⟨nofun,fun _=>fin _ ?_⟩⟩⟩⟩
     ·unfold fB;rw[h1,h2,h3];rfl
     ·unfold fB;rw[h1,h2,h3];rfl
     ·unfold fB;rw[h1,h2];rfl
     ·unfold fB;rw[h1];rfl
    |_=>exact⟨fun _=>cW q,nofun⟩
   |_=>exact⟨fun _=>⟨fun _=>cW q,nofun⟩,nofun⟩
  ·refine⟨fun _=>?_,fun h=>?_⟩
   ·rw[Gs (by simp)] at q;exact cW q
   have h':(!(((ds.length+1+1+1:Nat):Int)==2))=false:=h;simp at h';omega
 |_=>exact not_tup nofun
def fw(p:bY×bY):Bool:=HT.lexLt (jF p.1) (jF p.2)
def pJ(cs:List bY):Bool:=(cs.zip (cs.drop 1)).all fw
def qQ:D->bY
 |.tup [.int s,.int r]=>(s,r)
 |_=>(0,0)
def uV:D->Bool
 |.tup ds=>decide (ds.length≤12)&&(ds.all iA&&pJ (ds.map qQ))
 |_=>false
theorem Ow{d:D}(h:iA d=true):∃c:bY,d=cD c:=by
 unfold iA at h;split at h
 ·rename_i s r;exact⟨(s,r),rfl⟩
 ·cases h
theorem Gr:∀{ds:List D},ds.all iA=true->∃cs:List bY,ds=cs.map cD
 |[],_=>⟨[],rfl⟩
 |d::ds,h=>by
  rw[rJ,bA] at h;obtain⟨c,rfl⟩:=Ow h.1;obtain⟨cs,rfl⟩:=Gr h.2;exact⟨c::cs,rfl⟩
theorem Gq(cs:List bY):(cs.map cD).map qQ=cs:=by
 rw[fI];exact (iV fun c _=>rfl).trans (List.map_id cs)
theorem Ov(cs es:List bY):nN (cs.map cD) (es.map cD)=(cs.zip es).map fun p=>D.tup [cD p.1,cD p.2]:=by
 unfold nN
 induction cs generalizing es with
 |nil=>rfl
 |cons c cs ih=>
  cases es with
  |nil=>rfl
  |cons e es=>
   show D.tup [cD c,cD e]::List.zipWith _ (cs.map cD) (es.map cD)=_::(cs.zip es).map _;rw[ih]
def xk:fC:=fun ds G Q=>∃d:D,ds=[d]/\lH G d/\Q (.bl (uV d)) G
def Ou:aA:=bZ (cL uy (ξ (kh ["ahead","clock"] [] (C2 (ξ (υ 0) (ξ (kP (υ 0) (fM (eC (.int 1))) (gx)) (ae)))) (sE 2 (iX (hName 0) (iX (hName 1) (sF)))) (fm) (aE nk (υ 0) (υ 1))) (ae)))
def Ot:aA:=bh (fv (kR (bj (cL uy (ξ (kh ["clock"] [] (mL (υ 0)) (hName 0) (fm) (bG xl (ξ (υ 0) (ae)))) (ae))))) (bZ (eC (.bl false))) (cT)) Ou
def Cz:aA:=bh (fv (kQ (kR (bj (qP "tuple" (υ 0)))) (bj (aE yK (cL i7 (ξ (υ 0) (ae))) (eC (.int 12))))) (bZ (eC (.bl false))) (cT)) Ot
theorem Oq{G:Gp}{te:aw}{Q:List D->Gp->Prop}{ds:List D}{f:D->Bool}{js:List Nat}{τ:S3}(hl:ds.length≤1000)
  (hs:∀x∈ds,∀y:Option D,∀K:V3,K (.bl (f x)) G->te (kn (y::js.map fun j=>ie τ j) 0 x) G K) (q:Q (ds.map fun x=>.bl (f x)) G):ib (fun _=>True) (hName 0) fm te Q ds [] (none::js.map fun j=>ie τ j) G:=by
 have:=pz (α:=D) (guard:=fun _=>True) (g:=hName 0) (tc:=fm) (te:=te) (Q:=Q) (fun τ'=>∃x,τ'=x::js.map fun j=>ie τ j) (fun x=>x) (fun _=>true) (fun x=>.bl (f x)) (G:=G) trivial ds [] (none::js.map fun j=>ie τ j) ⟨none,rfl⟩ ?_ ?_
 ·rw[List.map_id'] at this;exact this
 ·rintro x hx τ' K1 K2 ⟨y,rfl⟩ h1 h2;exact⟨fun _=>hs x hx y _ (h1 rfl _ ⟨_,rfl⟩),nofun⟩
 ·rw[filter_all,ey];exact q
theorem Oo:∀ds G Q,xk ds G Q->Cz (aT Q) (bD ["thing"] ds) G:=by
 rintro ds G Q ⟨d,rfl,hk,q⟩;have not_tup:(∀ds,d≠.tup ds)->Cz (aT Q) (bD ["thing"] [d]) G:=by
  intro hn;have e:uV d=false:=by
   cases d with
   |tup ds=>exact absurd rfl (hn ds)
   |_=>rfl
  rw[e] at q;show match gJ "tuple" G d with
   |some b=>_
   |none=>False
  rw[Gu hk.Bc hn];exact⟨fun _=>⟨fun _=>cW q,nofun⟩,nofun⟩
 cases d with
 |tup ds=>
  refine⟨nofun,fun _=>⟨fun h=>?_,fun h=>?_⟩⟩
  ·have h':(12:Int)<((ds.length:Nat):Int):=of_decide_eq_true h;have e:uV (.tup ds)=false:=by
    show (decide (ds.length≤12)&&_)=false;rw[decide_eq_false (by omega)];rfl
   rw[e] at q;exact cW q
  ·have h':¬((12:Int)<((ds.length:Nat):Int)):=of_decide_eq_false h;have e:uV (.tup ds)=(ds.all iA&&pJ (ds.map qQ)):=by
    show (decide (ds.length≤12)&&_)=_;rw[decide_eq_true (by omega)];rfl
   rw[e] at q;refine⟨dX (by show ds.length≤1000;omega),Oq (js:=[]) (τ:=[]) (f:=iA) (by show ds.length≤1000;omega) (fun x hx y K k=>⟨x,rfl,hk.el hx,k⟩) fun p G1 n1=>⟨_,_,n1.at_,xw iA ds,?_⟩⟩;rw[all_map];refine⟨fun hw=>?_,fun hw=>?_⟩
   ·have hw':ds.all iA=false:=by simpa using hw
    rw[hw'] at q;exact vG n1.sub q
   ·have hw':ds.all iA=true:=by simpa using hw
    rw[hw'] at q;obtain⟨cs,rfl⟩:=Gr hw';rw[Gq] at q;rw[ο] at h';have hcut:gA (cs.map cD) (some 1) none=(cs.drop 1).map cD:=by
     rw[mH,show (some (1:Int))=some ((1:Nat):Int) from rfl,CF]
    refine⟨_,_,rfl,rfl,?_⟩;rw[hcut,Ov];refine⟨?_,?_⟩
    ·show ((cs.zip (cs.drop 1)).map _).length≤ag;rw[ο,lj];exact dX (by omega)
    refine pz (fun τ=>∃x y,τ=[x,y]) (fun p:bY×bY=>D.tup [cD p.1,cD p.2]) (fun _=>true) (fun p=>.bl (fw p)) (G:=G1) ⟨rfl,rfl⟩ (cs.zip (cs.drop 1)) [] _ ⟨none,none,rfl⟩ ?_ ?_
    ·rintro⟨a,b⟩ hm τ K1 K2 ⟨x,y,rfl⟩ h1 h2;exact⟨rfl,fun _=>⟨jF a,jF b,rfl,rfl,h1 rfl _ ⟨_,_,rfl⟩⟩,nofun⟩
    ·intro p2 G2 n2;rw[filter_all,ey] at n2;refine⟨_,_,n2.at_,xw fw _,?_⟩;rw[all_map];exact vG (n1.sub.trans n2.sub) q
 |_=>exact not_tup nofun
end My
namespace My
open PySem L2 L3
theorem Gn{α β:Type}(f:α->D)(g:β->D):∀(as:List α) (bs:List β),nN (as.map f) (bs.map g)=(as.zip bs).map fun p=>D.tup [f p.1,g p.2]
 |[],_=>rfl
 |a::as,[]=>rfl
 |a::as,b::bs=>by
  show D.tup [f a,g b]::nN (as.map f) (bs.map g)=D.tup [f a,g b]::(as.zip bs).map _;rw[Gn f g as bs]
theorem Om{β:Type}(g:β->D)(bs:List β):uT (bs.map g)=((aO bs.length).zip bs).map fun p=>D.tup [nD p.1,g p.2]:=by
 unfold uT;rw[ο,LG];exact Gn nD g _ _
end My
namespace My
open PySem L2 L3 Tx
def vC:fC:=fun ds G Q=>∃w:ι,ds=[.str w]/\w.length≤1000000/\∀G',Sub G G'->Q (.bl (de w)) G'
def Gm:aA:=bZ (Dh (aE (dF false) (υ 0) (eC (.str "0"))) (wA (j4 B7 (υ 0) (ξ (eC (.str "0")) (ae)))))
def Gk:aA:=bh (fv (kQ (kR (bj (mo ue ue (eC (.int 1)) (cL vK (ξ (υ 0) (ae))) (eC (.int 60))))) (kR (bj (cL uy (ξ (kh ["sign"] [] (zT (υ 0)) (hName 0) (fm) (aE yI (υ 0) (eC (.str "0123456789")))) (ae)))))) (bZ (eC (.bl false))) (cT)) Gm
theorem cZ{n:Nat}(h:n≤1000000):n≤ag:=aK h (by decide)
theorem Ol:∀ds G Q,vC ds G Q->Gk (aT Q) (bD ["word"] ds) G:=by
 rintro ds G Q ⟨w,rfl,hl,q⟩;have e0:de w=(decide (1≤w.length)&&decide (w.length≤60)&&w.cps.toList.all (fun c=>decide (48≤c/\c≤57))&&(w=="0" || !(w.cps.toList.head?==some 48))):=rfl;have rest:∀G1,Sub G G1->1≤w.length->w.length≤60->w.cps.toList.all (fun c=>decide (48≤c/\c≤57))=true->Gm (aT Q) [some (.str w)] G1:=fun G1 s1 h1 h2 h3=>by
  rw[decide_eq_true h1,decide_eq_true h2,h3,fg,fg,fg] at e0;refine⟨_,_,rfl,rfl,ax _,fun g=>?_,fun g=>?_⟩
  ·have g':(w=="0")=true:=g;rw[g',Bool.true_or] at e0;have:=q G1 s1;rw[e0] at this;exact cW this
  ·have g':(w=="0")=false:=g;rw[g',Bool.false_or] at e0;refine⟨⟨w,rfl⟩,?_⟩;show (aT Q).rt (.bl (!(Txt.startswith w "0"))) G1;rw[Eg,←e0];exact cW (q G1 s1)
 refine⟨cZ hl,fun h1=>?_,fun h1=>?_⟩
 ·have h1':(1:Int)≤(w.length:Int):=of_decide_eq_true h1;refine⟨fun h2=>?_,fun h2=>?_⟩
  ·have h2':(!decide ((w.length:Int)≤60))=true:=h2;have h3:¬w.length≤60:=by
    intro z;rw[decide_eq_true (show (w.length:Int)≤60 by lia)] at h2';cases h2'
   have:de w=false:=by rw[e0,decide_eq_false h3,dR,bo,bo]
   have q':=q G (Sub.refl _);rw[this] at q';exact⟨fun _=>cW q',nofun⟩
  ·have h2':(!decide ((w.length:Int)≤60))=false:=h2;have h3:w.length≤60:=by
    refine oJ fun z=>?_;rw[decide_eq_false (show ¬(w.length:Int)≤60 by lia)] at h2';cases h2'
   refine⟨?_,?_⟩
   ·show (w.cps.toList.map iz).length≤ag;rw[ο,←len_list];exact cZ hl
   refine pz (fun τ=>∃x,τ=[x]) iz (fun _=>true) (fun c=>D.bl (decide (48≤c/\c≤57))) (G:=G) trivial w.cps.toList [] _ ⟨none,rfl⟩ ?_ ?_
   ·rintro c hm τ K1 K2 ⟨_,rfl⟩ g1 g2;refine⟨fun _=>?_,nofun⟩;show K2 _ (D.bl (!(ba (aI "0123456789") ⟨#[c]⟩ 0 (aI "0123456789").length 1).isEmpty)) G;rw[HC];exact g1 rfl _ ⟨_,rfl⟩
   ·intro p1 G1 n1;rw[filter_all,ey] at n1;refine⟨_,_,n1.at_,xw (fun c=>decide (48≤c/\c≤57)) _,?_⟩;have ea:((w.cps.toList.map fun c=>decide (48≤c/\c≤57)).all id)=w.cps.toList.all (fun c=>decide (48≤c/\c≤57)):=by
     rw[oQ];rfl
    rw[ea];refine⟨fun g=>?_,fun g=>?_⟩
    ·have g':(!(w.cps.toList.all fun c=>decide (48≤c/\c≤57)))=true:=g;have g2:w.cps.toList.all (fun c=>decide (48≤c/\c≤57))=false:=by simpa using g'
     have:de w=false:=by rw[e0,g2,dR,bo]
     have q':=q G1 n1.sub;rw[this] at q';exact cW q'
    ·have g':(!(w.cps.toList.all fun c=>decide (48≤c/\c≤57)))=false:=g;have g2:w.cps.toList.all (fun c=>decide (48≤c/\c≤57))=true:=by simpa using g'
     exact rest G1 n1.sub (by lia) h3 g2
 ·have h1':¬(1:Int)≤(w.length:Int):=of_decide_eq_false h1;refine⟨fun _=>?_,nofun⟩;have:de w=false:=by rw[e0,decide_eq_false (show ¬1≤w.length by lia),bo,bo,bo]
  have q':=q G (Sub.refl _);rw[this] at q';exact⟨fun _=>cW q',nofun⟩
def lQ(name:ι)(many:Nat)(ws:List ι):Bool:=decide (ws.head?=some name)&&decide (ws.length=many+1)&&(ws.drop 1).all de
def pS(name:ι)(many:Nat)(ws:List ι):List Int:=if lQ name many ws then (ws.drop 1).map bc else []
def dU(name:ι)(many:Nat)(row:ι):List Int:=pS name many (Txt.split row " ")
theorem uu{x y a:ι}(h:a∈Txt.split x y):a.length≤x.length:=PyProof.Rows.part_short h
def vB:fC:=fun ds G Q=>∃(name row:ι) (many:Nat),ds=[.str name,.int many,.str row]/\row.length≤900000/\∀p G',dC G p (.lst ((dU name many row).map D.int)) G'->Q (.obj p) G'
def Oj:aA:=bZ (kh ["word"] [] (mL (kP (υ 3) (fM (eC (.int 1))) (gx))) (hName 0) (fm) (cL vJ (ξ (υ 0) (ae))))
def Gj:aA:=bh (fv (kQ (bj (aE (dF true) (aE dh (υ 3) (eC (.int 0))) (υ 0))) (kQ (bj (aE (dF true) (cL i7 (ξ (υ 3) (ae))) (aE df (υ 1) (eC (.int 1))))) (kR (bj (cL uy (ξ (kh ["word"] [] (mL (kP (υ 3) (fM (eC (.int 1))) (gx))) (hName 0) (fm) (bG vC (ξ (υ 0) (ae)))) (ae))))))) (bZ (fo (ae))) (cT)) Oj
def Gi:aA:=bh (b9 (j4 mI (υ 2) (ξ (eC (.str " ")) (ae))) (hName 3)) Gj
theorem Ak(ws:List ι):gA (ws.map D.str) (some ((1:Nat):Int)) none=(ws.drop 1).map D.str:=by
 rw[mH,CF]
theorem Oi{G:Gp}{p2:ζ}{ws:List ι}{K:ζ->Gp->Prop}(hw:∀w∈ws,w.length≤1000000)(hl:ws.length≤1000000)(e2:G p2=some (.lst (ws.map D.str)))(q:∀G' p3 G3,Sub G G'->dC G' p3 (.lst (ws.map fun w=>D.bl (de w))) G3->K p3 G3):
  (ws.map D.str).length≤ag/\ib (fun G'=>G' p2=some (.lst (ws.map D.str))) (hName 0) fm (bG vC (ξ (υ 0) ae)) (fun ds G2=>∀p G3,dC G2 p (.lst ds) G3->K p G3) (ws.map D.str) [] [none] G:=by
 refine⟨by rw[ο];exact cZ hl,?_⟩;refine CB (fun ds acc τ G'=>∃(dn rs:List ι) (x:Option D),dn++rs=ws/\ds=rs.map D.str/\acc=dn.map (fun w=>D.bl (de w))/\Sub G G'/\τ=[x]) (fun _ _ _ _ h=>?_) ?_ ?_ _ _ _ _ ⟨[],ws,none,rfl,rfl,rfl,Sub.refl _,rfl⟩
 ·obtain⟨_,_,_,_,_,_,s,_⟩:=h;exact s _ _ e2
 ·rintro d ds acc τ G1 K1 K2 ⟨dn,rs,x,e1,e3,rfl,s1,rfl⟩ g1 g2;cases rs with
  |nil=>cases e3
  |cons w rs=>
   cases e3;refine⟨fun _=>⟨w,rfl,hw w (by rw[←e1];exact bq _ ψ),fun G2 s2=>?_⟩,nofun⟩;exact g1 _ _ _ ⟨dn++[w],rs,_,by rw[jY];exact e1,rfl,by rw[bN];rfl,s1.trans s2,rfl⟩
 ·rintro acc τ G1 ⟨dn,rs,x,e1,e3,rfl,s1,rfl⟩;have e0:rs=[]:=by
   cases rs with
   |nil=>rfl
   |cons z zs=>cases e3
  subst e0;rw[bO] at e1;subst e1;exact fun p3 G3 n3=>q _ _ _ s1 n3
theorem Oh:∀ds G Q,vB ds G Q->Gi (aT Q) (bD ["name","many","row","words"] ds) G:=by
 rintro ds G Q ⟨name,row,many,rfl,hl,q⟩;refine⟨⟨row,rfl⟩,by decide,cZ (by lia),fun p1 G1 n1=>?_⟩;have hp:=eD row " ";have hsl:=ip row " ";have hsh:∀w∈Txt.split row " ",w.length≤1000000:=fun w hw=>by have:=uu hw;lia
 have q0:∀p G',dC G p (.lst ((pS name many (Txt.split row " ")).map D.int)) G'->Q (.obj p) G':=q;show Gj (aT Q) [some (.str name),some (.int many),some (.str row),some (.obj p1)] G1;have n1':dC G p1 (.lst ((Txt.split row " ").map D.str)) G1:=n1;generalize Txt.split row " " = ws at hp hsl hsh q0 n1';have no:lQ name many ws=false->∀G2,Sub G1 G2->∀p G',dC G2 p (.lst []) G'->Q (.obj p) G':=fun h G2 s2 p G' n=>by
  refine q0 p G' ?_;have:pS name many ws=[]:=by unfold pS;rw[h];rfl
  rw[this];exact⟨(n1'.sub.trans s2).of_none n.av,(n1'.sub.trans s2).trans n.sub,n.at_⟩
 cases ws with
 |nil=>exact absurd hp (by decide)
 |cons w ws=>
  refine⟨_,.str w,n1'.at_,qF (j:=0) rfl,.str w,.str name,rfl,rfl,ax _,fun g=>?_,fun g=>?_⟩
  ·have g':(!(w==name))=true:=g;refine⟨fun _ p G' n=>cW (no ?_ G1 (Sub.refl _) p G' n),nofun⟩;have:¬(some w=some name):=fun z=>by rw[ao z,beq_self_eq_true] at g';cases g'
   unfold lQ;rw[ll,decide_eq_false this,bo,bo]
  ·have g':(!(w==name))=false:=g;have hw:w=name:=by simpa using g'
   refine⟨_,n1'.at_,_,_,rfl,rfl,ax _,fun g2=>?_,fun g2=>?_⟩
   ·have g2':(!((((w::ws).map D.str).length:Nat):Int)==((many:Int)+1))=true:=g2;refine⟨fun _ p G' n=>cW (no ?_ G1 (Sub.refl _) p G' n),nofun⟩;have:¬((w::ws).length=many+1):=fun z=>by
     rw[ο,z,show ((many+1:Nat):Int)=(many:Int)+1 by lia,beq_self_eq_true] at g2';cases g2'
    unfold lQ;rw[decide_eq_false this,dR,bo]
   ·have g2':(!((((w::ws).map D.str).length:Nat):Int)==((many:Int)+1))=false:=g2;have hlen:(w::ws).length=many+1:=by
     rw[ο] at g2';simp only[mF,beq_iff_eq] at g2';lia
    refine⟨_,n1'.at_,fun p2 G2 n2=>?_⟩;have n2':dC G1 p2 (.lst (ws.map D.str)) G2:=by
     have e:gA ((w::ws).map D.str) (some ((1:Nat):Int)) none=ws.map D.str:=Ak (w::ws);rw[←e];exact n2
    refine⟨_,n2'.at_,?_⟩;refine Oi (ws:=ws) (fun z hz=>hsh z (ω _ hz)) (by simp only[ak] at hsl;lia) n2'.at_ fun G' p3 G3 s' n3=>?_;have s3:=s'.trans n3.sub;refine⟨_,_,n3.at_,xw de _,?_⟩;rw[show (ws.map de).all id=ws.all de by rw[oQ];rfl];refine⟨fun g3 p G' n=>cW (no ?_ G3 (n2'.sub.trans s3) p G' n),fun g3=>?_⟩
    ·have g3':(!(ws.all de))=true:=g3;have:ws.all de=false:=by simpa using g3'
     unfold lQ;rw[show (w::ws).drop 1=ws from rfl,this,dR]
    ·have g3':(!(ws.all de))=false:=g3;have hall:ws.all de=true:=by simpa using g3'
     have ok:pS name many (w::ws)=ws.map bc:=by
      unfold pS lQ;rw[hw,ll,decide_eq_true rfl,←hw,decide_eq_true hlen,show (w::ws).drop 1=ws from rfl,hall];rfl
     have hp3:=(n2'.sub.trans s3) _ _ n1'.at_;refine⟨_,hp3,fun p4 G4 n4=>?_⟩;have n4':dC G3 p4 (.lst (ws.map D.str)) G4:=by
      have e:gA ((w::ws).map D.str) (some ((1:Nat):Int)) none=ws.map D.str:=Ak (w::ws);rw[←e];exact n4
     refine⟨_,n4'.at_,by rw[ο];exact cZ (by simp only[ak] at hsl;lia),?_⟩;refine pz (guard:=fun G'=>G' p4=some (.lst (ws.map D.str))) (fun τ=>∃x,τ=[x]) D.str (fun _=>true) (fun z=>D.int (bc z)) (G:=G4) n4'.at_ ws [] _ ⟨none,rfl⟩ ?_ ?_
     ·rintro z hm τ K1 K2 ⟨_,rfl⟩ k1 k2;have hz:=bT.mp hall z hm;exact⟨fun _=>⟨aK (HE hz).2.2 (by decide),_,HD hz,k1 rfl _ ⟨_,rfl⟩⟩,nofun⟩
     ·intro p5 G5 n5;rw[filter_all,ey] at n5;have s5:=(n1'.sub.trans (n2'.sub.trans s3)).trans (n4'.sub);refine cW (q0 p5 G5 ⟨s5.of_none n5.av,s5.trans n5.sub,?_⟩);rw[n5.at_,ok,fI];rfl
end My
namespace My
open PySem L2 L3 Tx
def px(n:Nat):ι:="clocks " ++ num n
def lM(c:bY):ι:="clock " ++ num c.1.toNat++" " ++ num c.2.toNat
def fW(cs:List bY):List ι:=px cs.length::cs.map lM
def txt(cs:List bY):ι:=fS "\n" (fW cs)
theorem Og(n:Nat):px n=fS ⟨#[32]⟩ ["clocks",num n]:=by
 show ("clocks ":ι)++num n=("clocks":ι)++⟨#[32]⟩++num n;rw[show ("clocks":ι)++⟨#[32]⟩="clocks " by decide]
theorem OU(c:bY):lM c=fS ⟨#[32]⟩ ["clock",num c.1.toNat,num c.2.toNat]:=by
 show ("clock ":ι)++num c.1.toNat++" " ++ num c.2.toNat=("clock":ι)++⟨#[32]⟩++(num c.1.toNat++⟨#[32]⟩++num c.2.toNat);rw[show ("clock":ι)++⟨#[32]⟩="clock " by decide,oA,oA,oA];rfl
theorem vA(n:Nat){c:Nat}(hc:c<48):c∉(num n).cps.toList:=O8 (HF n) hc
theorem OT(n:Nat):Txt.split (px n) " " = [aI "clocks",num n]:=by
 rw[Og];refine B6 (c:=32) fun y hy=>?_;simp only[aa,aF,or_false] at hy;rcases hy with rfl|rfl
 ·decide
 ·exact vA n (by decide)
theorem OS(c:bY):Txt.split (lM c) " " = [aI "clock",num c.1.toNat,num c.2.toNat]:=by
 rw[OU];refine B6 (c:=32) fun y hy=>?_;simp only[aa,aF,or_false] at hy;rcases hy with rfl|rfl|rfl
 ·decide
 ·exact vA _ (by decide)
 ·exact vA _ (by decide)
theorem yW{a b:ι}{c:Nat}:c∈(a++b).cps.toList↔c∈a.cps.toList∨c∈b.cps.toList:=PyProof.Rows.mem_cps_append
theorem Gh(cs:List bY):Txt.split (txt cs) "\n" = fW cs:=by
 unfold txt;rw[show ("\n":ι)=⟨#[10]⟩ from rfl];refine B6 (c:=10) fun y hy=>?_;rcases aa.mp hy with rfl|hy
 ·unfold px;rw[yW];rintro (z|z)
  ·exact absurd z (by decide)
  ·exact vA _ (by decide) z
 ·obtain⟨c,_,rfl⟩:=aX.mp hy;unfold lM;rw[yW,yW,yW];rintro (((z|z)|z)|z)
  ·exact absurd z (by decide)
  ·exact vA _ (by decide) z
  ·exact absurd z (by decide)
  ·exact vA _ (by decide) z
theorem OR{n:Nat}(h:n<10^10):dU "clocks" 1 (px n)=[(n:Int)]:=by
 unfold dU pS lQ;rw[OT];have:((["clocks",num n]:List ι).drop 1).all de=true:=by
  show (de (num n)&&true)=true;rw[CJ h];rfl
 rw[this];show (if (decide (some (aI "clocks")=some (aI "clocks"))&&decide (2=1+1)&&true)=true then [bc (num n)] else [])=_;rw[decide_eq_true rfl,decide_eq_true rfl,CI];rfl
theorem OQ{c:bY}(hc:Valid c/\c.1≤1000):dU "clock" 2 (lM c)=[c.1,c.2]:=by
 have h1:=hc.1.1;have h2:=hc.1.2.1;have h3:=hc.1.2.2;have h4:=hc.2;unfold dU pS lQ;rw[OS];have:((["clock",num c.1.toNat,num c.2.toNat]:List ι).drop 1).all de=true:=by
  show (de (num c.1.toNat)&&(de (num c.2.toNat)&&true))=true;rw[CJ (by lia),CJ (by lia)];rfl
 rw[this];show (if (decide (some (aI "clock")=some (aI "clock"))&&decide (3=2+1)&&true)=true then [bc (num c.1.toNat),bc (num c.2.toNat)] else [])=_;rw[decide_eq_true rfl,decide_eq_true rfl,CI,CI,lJ (by lia),lJ h2];rfl
theorem BV{n:Nat}(h:n<10^10):(px n).length≤17:=by
 have:=qy h;unfold px;rw[bH];have e:("clocks ":ι).length=7:=rfl;lia
theorem BU{c:bY}(hc:Valid c/\c.1≤1000):(lM c).length≤27:=by
 have h1:=hc.1.1;have h2:=hc.1.2.1;have h3:=hc.1.2.2;have h4:=hc.2;have l1:=qy (n:=c.1.toNat) (by lia);have l2:=qy (n:=c.2.toNat) (by lia);unfold lM;rw[bH,bH,bH];have e:("clock ":ι).length=6:=rfl;have e2:(" ":ι).length=1:=rfl;lia
theorem BS{cs:List bY}(ok:jV 1000 cs)(hl:cs.length≤12):∀y∈fW cs,y.length≤27:=fun y hy=>by
 rcases aa.mp hy with rfl|hy
 ·have:=BV (n:=cs.length) (by lia);lia
 ·obtain⟨c,hc,rfl⟩:=aX.mp hy;exact BU (ok c hc)
theorem Gg{cs:List bY}(ok:jV 1000 cs)(hl:cs.length≤12):oR "\n" (fW cs)=true:=by
 refine Tx.xP 27 (BS ok hl) (by decide) ?_;have:(fW cs).length=cs.length+1:=by
  unfold fW;rw[ak,ο]
 rw[this];exact cZ (by lia)
theorem OP{cs:List bY}(ok:jV 1000 cs)(hl:cs.length≤12):(txt cs).length≤1000:=by
 have h1:=pL "\n" (fW cs);have h2:=m4 (fW cs) (BS ok hl);have h3:(fW cs).length=cs.length+1:=by
  unfold fW;rw[ak,ο]
 have h4:("\n":ι).length=1:=rfl;rw[h4,h3] at h1;rw[h3] at h2;unfold txt;lia
theorem ur{n:Nat}(h:n<10^30):n.log2<1920:=by
 by_cases hz:n=0
 ·rw[hz];decide
 ·exact (Nat.log2_lt hz).mpr (oI h (by decide))
theorem strs_map(xs:List ι):strsOf (xs.map D.str)=some xs:=by
 induction xs with
 |nil=>rfl
 |cons x xs ih=>
  show (strsOf (xs.map D.str)).map (x::·)=_;rw[ih];rfl
theorem BR(z:ι)(xs:List ι):Txt.join z xs=fS z xs:=StrLaws.glued_eq_join z xs
theorem toS{i:Int}(h:0≤i):(aI (toString i))=num i.toNat:=by
 unfold num;rw[lJ h]
def OO:fC:=fun ds G Q=>∃cs:List bY,ds=[sI cs]/\jV 1000 cs/\cs.length≤12/\∀G',Sub G G'->Q (.str (txt cs)) G'
def ON:aA:=bZ (j4 pA (eC (.str "\n")) (ξ (aE df (fo (ξ (JT [eC (.str "clocks "),Dj (υ 1)]) (ae))) (kh ["step","rest"] [] (mL (υ 0)) (sE 2 (iX (hName 0) (iX (hName 1) (sF)))) (fm) (JT [eC (.str "clock "),Dj (υ 0),eC (.str " "),Dj (υ 1)]))) (ae)))
def OM:aA:=bh (b9 (cL i7 (ξ (υ 0) (ae))) (hName 1)) ON
theorem XM:∀ds G Q,OO ds G Q->OM (aT Q) (bD ["clocks","many"] ds) G:=by
 rintro ds G Q ⟨cs,rfl,ok,hl,q⟩;have hlm:(cs.map cD).length=cs.length:=ο ..;have e0:gg++"clocks " ++ aI (toString (((cs.map cD).length:Nat):Int))=px cs.length:=by
  rw[gq,hlm];rfl
 have l0:=BV (n:=cs.length) (by lia);refine⟨⟨_,rfl⟩,by decide,ur (by rw[mC,hlm];lia),?_,?_,?_⟩
 ·rw[e0];exact cZ (by lia)
 ·rw[e0];exact cZ (by lia)
 rw[e0];intro p1 G1 n1;refine⟨?_,?_⟩
 ·show (cs.map cD).length≤ag;rw[hlm];exact dX (by lia)
 refine pz (fun τ=>∃x y,τ=[x,y]) cD (fun _=>true) (fun c=>D.str (lM c)) (G:=G1) trivial cs [] _ ⟨none,none,rfl⟩ ?_ ?_
 ·rintro c hm τ K1 K2 ⟨_,_,rfl⟩ g1 g2;have hc:=ok c hm;have h1:=hc.1.1;have h2:=hc.1.2.1;have h3:=hc.1.2.2;have h4:=hc.2;have l1:=qy (n:=c.1.toNat) (by lia);have l2:=qy (n:=c.2.toNat) (by lia);have lr:=BU hc;have e1:("clock ":ι).length=6:=rfl;have e2:(" ":ι).length=1:=rfl;have s1:aI (toString c.1)=num c.1.toNat:=toS (by lia);have s2:aI (toString c.2)=num c.2.toNat:=toS h2;refine⟨rfl,fun _=>⟨by decide,ur (by lia),?_,?_,ur (by lia),?_,?_,?_⟩,nofun⟩
  ·rw[s1,gq,bH];exact cZ (by lia)
  ·rw[s1,gq,bH,bH];exact cZ (by lia)
  ·rw[s1,s2,gq];exact cZ (aK lr (by decide))
  ·rw[s1,s2,gq];exact cZ (aK lr (by decide))
  ·rw[s1,s2,gq];exact g1 rfl _ ⟨_,_,rfl⟩
 ·intro p2 G2 n2;rw[filter_all,ey] at n2;refine⟨_,_,n2.sub _ _ n1.at_,n2.at_,?_,fun p3 G3 n3=>?_⟩
  ·rw[ο];exact dX (by show 1+cs.length≤1000;lia)
  have e3:G3 p3=some (.lst ((fW cs).map D.str)):=by
   rw[n3.at_];unfold fW;rw[cN,fI];rfl
  refine⟨_,fW cs,e3,strs_map _,Gg ok hl,?_⟩;rw[BR];exact cW (q _ ((n1.sub.trans n2.sub).trans n3.sub))
def Gf:fC:=fun ds G Q=>∃cs:List bY,ds=[sI cs]/\jV 1000 cs/\cs.length≤12/\∀G',Sub G G'->Q (.str (txt cs)) G'
def OL:aA:=tz (eM zD (υ 1) (ξ (aE gj (aE gj (aE gj (eC (.str "clock ")) (cL nT (ξ (υ 2) (ae)))) (eC (.str " "))) (cL nT (ξ (υ 3) (ae)))) (ae)))
def N5:aA:=bZ (j4 pA (eC (.str "\n")) (ξ (υ 1) (ae)))
def N4:aA:=bh (lL (mL (υ 0)) (sE 2 (iX (hName 2) (iX (hName 3) (sF)))) (OL)) N5
def N3:aA:=bh (b9 (fo (ξ (aE gj (eC (.str "clocks ")) (cL nT (ξ (cL i7 (ξ (υ 0) (ae))) (ae)))) (ae))) (hName 1)) N4
theorem N2:∀ds G Q,Gf ds G Q->N3 (aT Q) (bD ["clocks","rows","step","rest"] ds) G:=by
 rintro ds G Q ⟨cs,rfl,ok,hl,q⟩;have hlm:(cs.map cD).length=cs.length:=ο ..;have e0:("clocks ":ι)++aI (toString (((cs.map cD).length:Nat):Int))=px cs.length:=by
  rw[hlm];rfl
 have l0:=BV (n:=cs.length) (by lia);refine⟨ur (by rw[mC,hlm];lia),?_,?_⟩
 ·rw[←bH,e0];exact cZ (by lia)
 rw[e0];intro p1 G1 n1;refine nW (fun ds τ G'=>∃(dn rs:List bY) (x2 x3:Option D),dn++rs=cs/\ds=rs.map cD/\τ=[some (sI cs),some (.obj p1),x2,x3]/\dC G p1 (.lst ((px cs.length::dn.map lM).map D.str)) G') (fun _ _ _ _=>trivial) ?_ ?_ _ _ _ ⟨[],cs,none,none,rfl,rfl,rfl,n1⟩
 ·rintro d ds τ G' N ⟨dn,rs,x2,x3,e1,e2,rfl,m⟩ hN;cases rs with
  |nil=>cases e2
  |cons c rs=>
   cases e2;have hc:=ok c (by rw[←e1];exact bq _ ψ);have hdl:dn.length≤12:=by
    have:=congrArg gY e1;rw[ar] at this;lia
   have h1:=hc.1.1;have h2:=hc.1.2.1;have h3:=hc.1.2.2;have h4:=hc.2;have l1:=qy (n:=c.1.toNat) (by lia);have l2:=qy (n:=c.2.toNat) (by lia);have lr:=BU hc;have f1:("clock ":ι).length=6:=rfl;have f2:(" ":ι).length=1:=rfl;have s1:aI (toString c.1)=num c.1.toNat:=toS (by lia);have s2:aI (toString c.2)=num c.2.toNat:=toS h2;refine⟨rfl,⟨p1,_,rfl,m.at_⟩,ur (by lia),?_,?_,ur (by lia),?_,?_⟩
   ·rw[s1];exact cZ (by lia)
   ·rw[s1,bH];exact cZ (by lia)
   ·rw[s1,s2,bH,bH];exact cZ (by lia)
   ·rw[s1,s2];refine⟨_,m.at_,?_,hN _ _ ⟨dn++[c],rs,_,_,by rw[jY];exact e1,rfl,rfl,⟨m.av,Sub.wI m.sub m.av,?_⟩⟩⟩
    ·rw[ο,ak,ο];exact Nat.lt_of_le_of_lt (show dn.length+1≤13 by lia) (by decide)
    ·rw[kM,bN,←oP,bN];rfl
 ·rintro τ G' ⟨dn,rs,x2,x3,e1,e2,rfl,m⟩;have e0:rs=[]:=by
   cases rs with
   |nil=>rfl
   |cons z zs=>cases e2
  subst e0;rw[bO] at e1;subst e1;refine⟨⟨_,rfl⟩,_,fW dn,m.at_,strs_map _,Gg ok hl,?_⟩;rw[BR];exact cW (q _ m.sub)
end My
namespace L3
open PySem PySem.Spec PyProof.Rows L2
theorem BQ{M:me}{Γ:PySem.Ctx}{p:aJ}{t:gZ sT}{fs:List Frame}{s:θ}{e:End}{s':θ}(h:Runs M Γ p t fs s e s'):s.toks≤s'.toks:=by
 induction h<;>first
  |exact Δ _
  |assumption
  | (simp_all [θ.setGen];done)
  | (rename_i ih;exact aK (pM _) ih)
  | (rename_i ih1 ih2;exact aK ih1 ih2)
  | (simp only[θ.setGen] at *;omega)
theorem N1{M:me}{Γ:PySem.Ctx}{p:aJ}{g:Nat}{r:Resume}{s:θ}{res:GenResult}{s':θ}(h:Wakes M Γ p g r s res s'):s.toks≤s'.toks:=by
 unfold Wakes at h;split at h
 ·exact h.elim
 ·split at h
  ·obtain⟨e₁,s₁,h1,_,_,rfl⟩:=h;exact (BQ h1:(s.setGen g .running).toks≤s₁.toks)
  ·rw[h.2];exact Δ _
  ·rw[h.2];exact Δ _
 ·obtain⟨e₁,s₁,h1,_,_,rfl⟩:=h;exact (BQ h1:(s.setGen g .running).toks≤s₁.toks)
 ·rw[h.2];exact Δ _
 ·rw[h.2];exact Δ _
theorem wp_toks{α:Type}{M:me}{Γ:PySem.Ctx}:∀(m:gZ α) (n:Nat) {Q:α->aJ->θ->Prop} {E:ε->aJ->θ->Prop} {p:aJ} {s:θ},n≤s.toks->gZ.wp M Γ m Q E p s ->
  gZ.wp M Γ m (fun a p' s'=>Q a p' s'/\n≤s'.toks) (fun e p' s'=>E e p' s'/\n≤s'.toks) p s:=by
 intro m
 induction m with
 |pure a=>intro n Q E p s hn h;exact⟨h,hn⟩
 |raise e=>intro n Q E p s hn h;exact⟨h,hn⟩
 |unsupported w=>intro n Q E p s hn h;exact h
 |finish e=>intro n Q E p s hn h;exact h
 |rule t k ih=>intro n Q E p s hn h;exact ih _ n hn h
 |«at» pp k ih=>intro n Q E p s hn h;exact ih _ n hn h
 |load a part k ih=>intro n Q E p s hn h;obtain⟨o,h1,h2⟩:=h;exact⟨o,h1,ih _ n hn h2⟩
 |update a part f k ih=>intro n Q E p s hn h;exact⟨h.1,ih _ n hn h.2⟩
 |alloc o k ih=>intro n Q E p s hn h;exact ih _ n hn h
 |loadIfAlive a k ih=>intro n Q E p s hn h;exact ih _ n hn h
 |point l k ih=>intro n Q E p s hn h;exact ih _ n hn h
 |register a k ih=>intro n Q E p s hn h;exact h
 |fresh k ih=>intro n Q E p s hn h;exact ih _ n (s:={ s with toks:=s.toks+1 }) (Nat.le_succ_of_le hn) h
 |ask k ih=>intro n Q E p s hn h;exact ih _ n hn h
 |choose src m k ih=>intro n Q E p s hn h;exact⟨h.1,ih _ n hn h.2⟩
 |os q l k ih=>intro n Q E p s hn h;exact ih _ n hn h
 |call c hd g l k ih=>intro n Q E p s hn h;obtain⟨r,s1,h1,h2⟩:=h;exact⟨r,s1,h1,ih _ n (aK hn (BQ h1)) h2⟩
 |handled o k ih=>intro n Q E p s hn h;exact ih _ n hn h
 |newGen c k ih=>intro n Q E p s hn h;exact ih _ n hn h
 |genState g k ih=>intro n Q E p s hn h;obtain⟨o,h1,h2⟩:=h;exact⟨o,h1,ih _ n hn h2⟩
 |resume g r l k ih=>intro n Q E p s hn h;obtain⟨r1,s1,h1,h2⟩:=h;exact⟨r1,s1,h1,ih _ n (aK hn (N1 h1)) h2⟩
 |yield v g l k ih=>intro n Q E p s hn h;exact h
 |stack k ih=>intro n Q E p s hn h;exact ih _ n hn h
 |fork c k ih=>intro n Q E p s hn h;exact h
 |thread k ih=>intro n Q E p s hn h;exact ih _ n hn h
 |await a t d l k ih=>intro n Q E p s hn h;exact h
theorem wpAny_toks{α:Type}{M:me}{A:aB}{m:gZ α}{Q:α->θ->Prop}{E:ε->θ->Prop}{s:θ}{n:Nat}(hn:n≤s.toks)(h:π M A m Q E s):π M A m (fun a s'=>Q a s'/\n≤s'.toks) (fun e s'=>E e s'/\n≤s'.toks) s:=
 fun Γ p hΓ=>wp_toks m n hn (h Γ p hΓ)
end L3
namespace L3
open PySem PySem.Spec PyProof.Rows L2
section
variable {X:Cx} {K:η}
def wU:R3:=fun x y G Q=>match x,y with
 |.str i,.str j=>Q (.bl (!(!(ba j i 0 j.length 1).isEmpty))) G
 |_,_=>False
theorem N0:di K wU (fun x y H Q=>∃i j,x=.str i/\y=.str j/\Q (.bl (!(!(ba j i 0 j.length 1).isEmpty))) H):=fun x y vx vy G H Q3 Q hx hy RG h k=>by
 unfold wU at h;split at h
 ·rename_i i j;exact⟨i,j,kz hx,kz hy,k _ H (.bl _) G lE (.refl H G) RG h⟩
 ·exact h.elim
def wy:R3:=fun x y G Q=>match x,y with
 |.str z,.int i=>z.length≤ag/\∃c,kA z.cps.toList i=some c/\Q (iz c) G
 |_,_=>False
theorem NZ:di K wy Bu:=fun x y vx vy G H Q3 Q hx hy RG h k=>by
 unfold wy at h;split at h
 ·rename_i z i;obtain⟨hz,c,e,q⟩:=h;exact⟨z,i,c,kz hx,gG hy,hz,e,k _ H (iz c) G mJ (.refl H G) RG q⟩
 ·exact h.elim
def ud(x:ι)(n:Nat):ι:=⟨(aY n x.cps).foldl (· ++ ·) #[]⟩
def wV:R3:=fun x y G Q=>match x,y with
 |.str z,.int n=>(1<n/\n≤1000/\1≤z.length/\z.length≤1000)/\Q (.str (ud z n.toNat)) G
 |_,_=>False
theorem NY:dq X (binaryOp .Mult) (fun x y H Q=>∃z n,x=.str z/\y=.int n/\(1<n/\n≤1000/\1≤z.length/\z.length≤1000)/\Q (.str (ud z n.toNat)) H):=by
 intro pins s σ H x y v u Q I rx ry h;obtain⟨z,n,rfl,rfl,⟨h1,h2,h3,h4⟩,q⟩:=h;obtain⟨t,rfl⟩:=rx;obtain⟨t',rfl⟩:=ry;have hm:z.length*n.toNat≤1000*1000:=Nat.mul_le_mul h4 (by lia);have e1:(n==1||z.length==0)=false:=by
  rw[Bool.or_eq_false_iff];exact⟨beq_eq_false_iff_ne.mpr (by lia),beq_eq_false_iff_ne.mpr (by lia)⟩
 have hl:(ud z n.toNat).length≤ag:=by
  have:(ud z n.toNat).length=n.toNat*z.length:=by
   have key:∀(k:Nat) (a:Array Nat),((aY k z.cps).foldl (· ++ ·) a).size=a.size+k*z.length:=by
    intro k
    induction k with
    |zero=>intro a;simp
    |succ k ih=>
     intro a;rw[eB,pk,ih,Array.size_append,Nat.succ_mul];show a.size+z.length+k*z.length=_;lia
   have:=key n.toNat #[];simpa [ud,ι.length] using this
  rw[this,Nat.mul_comm];exact aK hm (by decide)
 refine PySem.P.mul_str ?_ (fun _ _=>?_) (fun _ _=>?_) ?_
 ·rw[decide_eq_false (by lia),decide_eq_false (by lia)];rfl
 ·have hd:(1000:Int)≤(2^63-1) / n:=by
   refine (Int.le_ediv_iff_mul_le (by lia)).mpr ?_;lia
  lia
 ·have:(1000000:Nat)≤ag:=by decide
  exact decide_eq_false (by lia)
 ·rw[if_neg (by lia),e1];exact⟨hl,⟨.str _,H,I.tok _,⟨_,rfl⟩,q⟩⟩
theorem NX:di K wV (fun x y H Q=>∃z n,x=.str z/\y=.int n/\(1<n/\n≤1000/\1≤z.length/\z.length≤1000)/\Q (.str (ud z n.toNat)) H):=fun x y vx vy G H Q3 Q hx hy RG h k=>by
 unfold wV at h;split at h
 ·rename_i z n;exact⟨z,n,kz hx,gG hy,h.1,k _ H (.str _) G mJ (.refl H G) RG h.2⟩
 ·exact h.elim
def yl:V->List V->Hp->VK->Prop:=fun x vs H Q=>∃z,x=.str z/\vs=[]/\z.length≤5592405/\((Txt.upper z).length≤3*z.length->Q (.str (Txt.upper z)) H)
theorem NW:sN X "str.upper" yl:=by
 intro pins s σ H x vs v us Q I rx rv h;obtain⟨z,rfl,rfl,hz,q⟩:=h;obtain⟨t,rfl⟩:=rx;cases rv;exact SCL.upper hz fun hl=>⟨.str _,H,I.tok _,⟨_,rfl⟩,q hl⟩
def xU(to:aw):aw:=fun τ G Q=>to τ G fun x G1=>match x with
 |.str z=>z.length≤5592405/\((Txt.upper z).length≤3*z.length->Q (.str (Txt.upper z)) G1)
 |_=>False
theorem NV{to:aw}{σ:L2.St}{H:Hp}{Q:VK}(h:low K (xU to) σ H Q):EC K "str" yl (low K to) σ H Q:=by
 obtain⟨τ,G,Q3,RS,RG,h,k⟩:=h;refine⟨τ,G,_,RS,RG,h,fun v1 H1 d1 G1 h1 S1 R1 q1=>?_⟩;cases d1 with
 |str z=>
  rw[kz h1];exact⟨rfl,z,rfl,rfl,q1.1,fun hl=>k _ H1 (.str _) G1 mJ S1 R1 (q1.2 hl)⟩
 |_=>exact q1.elim
end
def D6(X:Cx)(e:ρ)(t:aw):Prop:=∀(pins:List (ζ×aL)) (s:θ) (σ:L2.St) (H:Hp) (Q:VK),1≤s.toks->Inv X pins σ H s->low X.K t σ H Q->π (model X.prog X.w) X.A (eval e X.env) (EP X pins σ Q) X.xe s
def Bm(X:Cx)(es:List ρ)(t:cw):Prop:=∀(pos:aJ) (pins:List (ζ×aL)) (s:θ) (σ:L2.St) (H:Hp) (Q:List V->Hp->Prop),1≤s.toks->Inv X pins σ H s->pG X.K t σ H Q->π (model X.prog X.w) X.A (spliced (backTo pos (br es X.env))) (AP X pins σ Q) X.xe s
def Aj(to:aw)(y z:ι):aw:=fun τ G Q=>to τ G fun x G1=>match x with
 |.str w=>w.length+(w.length+1)*z.length≤16777216/\Q (.str (Txt.replace w y z)) G1
 |_=>False
section
variable {X:Cx} {o e:ρ} {es:List ρ} {te to:aw} {t:cw} {pos apos cpos:aJ} {y z:ι} {k1 k2:Nat} {p1 p2:aJ}
theorem DC{α:Type}{M:me}{A:aB}{m:gZ α}{Q:α->θ->Prop}{E:ε->θ->Prop}{s:θ}{n:Nat}(hn:n≤s.toks)(h:π M A m Q E s):π M A m (fun a s'=>Q a s'/\n≤s'.toks) E s:=
 cH (wpAny_toks hn h) (fun _ _ q=>q) fun _ _ q=>q.1
theorem NU(h:bL X e te):D6 X e te:=fun pins s σ H Q _ I q=>h pins s σ H Q I q
theorem NT(h:ig X es t):Bm X es t:=fun p pins s σ H Q _ I q=>h p pins s σ H Q I q
theorem NS(ha:D6 X e te)(hr:Bm X es t)(hs:notStar e=true:=by rfl):Bm X (e::es) (ξ te t):=by
 intro pos pins s σ H Q hk I ⟨τ,G,Q3,RS,RG,h,k⟩;rw[dY hs];show π _ _ (spliced ((false,eval e X.env)::backTo pos (br es X.env))) _ _ s;refine gU (bB (DC hk (ha pins s σ H _ hk I ⟨τ,G,_,RS,RG,h,fun v1 H1 d1 G1 h1 S1 R1 q1=>(⟨d1,G1,h1,S1,R1,q1⟩:∃d1 G1,Hv X.K H1 d1 v1/\Step H G H1 G1/\aM X.K G1 H1/\t τ G1 fun xs G2=>Q3 (d1::xs) G2)⟩)) fun u s1 ⟨⟨x,H1,I1,r1,d1,G1,h1,S1,R1,q1⟩,hk1⟩=>?_);refine bB (hr pos pins s1 σ H1 _ hk1 I1 ⟨τ,G1,_,RS.ext (S1.ext RG),R1,q1,fun vs H2 ds G2 h2 S2 R2 q2=>(⟨ds,G2,h2,S2,R2,q2⟩:∃ds G2,aD X.K H2 ds vs/\Step H1 G1 H2 G2/\aM X.K G2 H2/\Q3 (d1::ds) G2)⟩) fun us s2 ⟨xs,H2,I2,r2,ds,G2,h2,S2,R2,q2⟩=>?_;exact⟨x::xs,H2,I2,.cons r1 r2,k _ H2 _ G2 (.cons (h1.ext (S2.ext R1)) h2) (S1.trans S2) R2 q2⟩
theorem NR{x:ι}{j:Nat}{cp:aJ}(hr:Bm X es t):ig X (.Constant (.str x) j cp::es) (ξ (eC (.str x)) t):=by
 intro pos pins s σ H Q I ⟨τ,G,Q3,RS,RG,h,k⟩;show π _ _ (spliced ((false,eval (.Constant (.str x) j cp) X.env)::backTo pos (br es X.env))) _ _ s;refine gU (jq ?_);refine bB (hr pos pins { s with toks:=s.toks+1 } σ H _ (oG (ax _)) (I.tok _) ⟨τ,G,_,RS,RG,h,fun vs H2 ds G2 h2 S2 R2 q2=>(⟨ds,G2,h2,S2,R2,q2⟩:∃ds G2,aD X.K H2 ds vs/\Step H G H2 G2/\aM X.K G2 H2/\Q3 (.str x::ds) G2)⟩) fun us s2 ⟨xs,H2,I2,r2,ds,G2,h2,S2,R2,q2⟩=>?_;exact⟨.str x::xs,H2,I2,.cons ⟨_,rfl⟩ r2,k _ H2 _ G2 (.cons mJ h2) S2 R2 q2⟩
theorem NQ(ho:bL X o to)(hyz:(y==z)=false)
  (gL:attributeBase o "replace" X.env (eval o X.env)=eval o X.env:=by rfl) (jw:(apos.endLine==cpos.line)=true:=by rfl):
  D6 X (.Call (.Attribute o "replace" apos) [.Constant (.str y) k1 p1,.Constant (.str z) k2 p2] [] cpos) (Aj to y z):=by
 intro pins s σ H Q hk I ⟨τ,G,Q3,RS,RG,h,kk⟩;refine wpAny_Call_method_late gL rfl jw rfl (bB (DC hk (ho pins s σ H (fun v H1=>∃d G1,Hv X.K H1 d v/\Step H G H1 G1/\aM X.K G1 H1/\(match d with
  |.str w=>w.length+(w.length+1)*z.length≤16777216/\Q3 (.str (Txt.replace w y z)) G1
  | _=>False)) I ⟨τ,G,_,RS,RG,h,fun v H1 d G1 a b c q=>⟨d,G1,a,b,c,q⟩⟩)) fun v s1 ⟨⟨x,H1,I1,r1,d,G1,hd,S1,R1,q⟩,hk1⟩=>?_)
 cases d with
 |str w=>
  rw[kz hd] at r1;obtain⟨t,rfl⟩:=r1;refine⟨"str","str.replace",F.plainAttrs_str,F.slot_str_replace,F.type_str_replace,jB _ _ _,(fun _ e=>nomatch e),?_⟩;refine kf rfl (rg (gU (jq (k:=k1) (pos:=p1) (gU (jq (k:=k2) (pos:=p2) (tZ ?_))))));exact SC.replace (by show s1.toks≠0;lia) (by show s1.toks+1≠0;lia) (by show s1.toks≠s1.toks+1;lia) hyz q.1 fun t' k=>⟨.str _,H1,((I1.tok _).tok _).tok k,⟨_,rfl⟩,kk _ H1 (.str _) G1 mJ S1 R1 q.2⟩
 |_=>exact q.elim
end
end L3
namespace L3
open PySem PySem.Spec PyProof.Rows L2
structure J0(X:Cx)(e:ρ)(t:aw):Prop where
 of:D6 X e t
structure D5(X:Cx)(es:List ρ)(t:cw):Prop where
 of:Bm X es t
section
variable {X:Cx} {a b o e:ρ} {es:List ρ} {ta tb te to:aw} {t:cw} {pos apos cpos:aJ} {y z:ι} {k1 k2:Nat} {p1 p2:aJ}
theorem NP(ha:QE X a ta)(hb:QE X b tb)(hs:nI b:=by intro _ _;rfl):QE X (.Subscript a b pos) (aE wy ta tb):=⟨hX (CT II ha.of hb.of hs) fun _ _ _ h=>xt NZ h⟩
theorem NO(ho:QE X o to)(gL:attributeBase o "upper" X.env (eval o X.env)=eval o X.env:=by rfl)(jw:(apos.endLine==cpos.line)=true:=by rfl):QE X (.Call (.Attribute o "upper" apos) [] [] cpos) (xU to):=
 ⟨hX (S0 F.plainAttrs_str F.slot_str_upper F.type_str_upper NW ho.of gL jw) fun _ _ _ h=>NV h⟩
theorem xj(h:QE X e te):J0 X e te:=⟨NU h.of⟩
theorem NN(h:QA X es t):D5 X es t:=⟨NT h.of⟩
theorem vz(ha:J0 X e te)(hr:D5 X es t)(hs:notStar e=true:=by rfl):D5 X (e::es) (ξ te t):=⟨NS ha.of hr.of hs⟩
theorem NM{x:ι}{j:Nat}{cp:aJ}(hr:D5 X es t):QA X (.Constant (.str x) j cp::es) (ξ (eC (.str x)) t):=⟨NR hr.of⟩
theorem NL(ho:QE X o to)(hyz:(y==z)=false)(gL:attributeBase o "replace" X.env (eval o X.env)=eval o X.env:=by rfl)(jw:(apos.endLine==cpos.line)=true:=by rfl):
  J0 X (.Call (.Attribute o "replace" apos) [.Constant (.str y) k1 p1,.Constant (.str z) k2 p2] [] cpos) (Aj to y z):=⟨NQ ho.of hyz gL jw⟩
end
end L3
namespace L3
open PySem PySem.Spec PyProof.Rows L2
theorem yV:plainId "range.__contains__.loop" = true:=by decide +kernel
theorem GW:entryFor table "range.__contains__.loop" = some cO.«range.__contains__.loop»:=entryFor_of_tree (by kernel_rfl)
section
variable {prog:Ω} {w:aj} {A:aB} {E:ε->θ->Prop} {s:θ}
theorem yk{r:ζ}{lo hi:Int}{t u v:fE}{Q:Int×Int×Int->θ->Prop}(hr:s.heap.get? r=some { cls:=.type "range",data:=.fields #[.int lo t,.int hi u,.int 1 v]})(h:Q (lo,hi,1) s):
  π (model prog w) A (dE (.ref r)) Q E s:=by
 unfold dE;exact δ (bp hr rfl (x:=.int lo t) rfl (δ (ν (δ (bp hr rfl (x:=.int hi u) rfl (δ (ν (δ (bp hr rfl (x:=.int 1 v) rfl (δ (ν (ν h))))))))))))
theorem Kx(r:ζ)(lo hi:Int)(t u v:fE)(k:Nat):∀i:Nat,(hi-lo).toNat-i=k->Meets (cO.«range.__contains__.loop» ⟨[.ref r,.none,rawInt i],[]⟩)
  (fun A R s=>s.heap.get? r=some { cls:=.type "range",data:=.fields #[.int lo t,.int hi u,.int 1 v]}/\∀tk,R (.ok (.ret (.bool false))) { s with toks:=tk }):=by
 have gy:oZ lo hi 1=((hi-lo).toNat:Int):=by
  rw[rangeSize_one];split<;>omega
 induction k with
 |zero=>
  intro i hk prog w A R s ⟨hr,h⟩;show π _ _ (dE (.ref r) >>= _) _ _ s;refine δ (yk hr ?_);dsimp only;rw[if_pos (by rw[gy];show ((hi-lo).toNat:Int)≤(i:Int);omega)];exact ν (h s.toks)
 |succ k ih=>
  intro i hk prog w A R s ⟨hr,h⟩;show π _ _ (dE (.ref r) >>= _) _ _ s;refine δ (yk hr ?_);dsimp only;rw[if_neg (by rw[gy];show ¬((hi-lo).toNat:Int)≤(i:Int);omega)];refine δ (wpAny_mkInt (δ (SeqAt.EqAt.int_none _ _ prog w _ _ ?_)));have hc:((i:Int)+1)=((i+1:Nat):Int):=by push_cast;rfl
  simp only[gV,if_false];rw[hc];refine ν ?_;exact⟨iN yV _,eW GW (by
   rw[dS yV _];exact ih (i+1) (by omega) prog w A R _ ⟨hr,fun tk=>h tk⟩)⟩
theorem Ky(r:ζ)(lo hi:Int)(t u v:fE):Meets (cO.«range.__contains__» ⟨[.ref r,.none],[]⟩)
  (fun A R s=>s.heap.get? r=some { cls:=.type "range",data:=.fields #[.int lo t,.int hi u,.int 1 v]}/\∀tk,R (.ok (.ret (.bool false))) { s with toks:=tk }):=by
 intro prog w A R s h;show π _ _ (do rule "range.contains.searched";again (.builtin "range.__contains__.loop" ⟨[.ref r,.none,rawInt 0],[]⟩)) _ _ s
 refine δ (kX (ν ?_));exact⟨iN yV _,eW GW (by
  rw[dS yV _];exact Kx r lo hi t u v _ 0 rfl prog w A R _ h)⟩
theorem GV{r:ζ}{lo hi:Int}{t u v:fE}{Q:Bool->θ->Prop}(hr:s.heap.get? r=some { cls:=.type "range",data:=.fields #[.int lo t,.int hi u,.int 1 v]})(h:∀tk,Q false { s with toks:=tk }):
  π (model prog w) A (contains (.ref r) .none) Q E s:=by
 have hT:s.TypeIs (.ref r) "range":=⟨_,hr,rfl⟩;exact wpAny_contains_slot hT fF (eX fF hT lW (lA _ _) (Ky r lo hi t u v) ⟨hr,fun tk=>cz (h tk)⟩)
end
def zJ(neg:Bool)(lo hi:Int):V->Option Bool
 |.int i=>some (yv neg lo hi i)
 |.av=>some neg
 |_=>none
def memD(neg:Bool)(lo hi:Int):D->Option Bool
 |.int i=>some (yv neg lo hi i)
 |.av=>some neg
 |_=>none
section
variable {X:Cx} {a b c:ρ} {ta:TE} {tb:TA} {op:gT} {p pos pos':aJ}
theorem GU{neg k:Bool}{x:V}{y:ε}{pins:List (ζ×aL)}{s:θ}{σ:L2.St}{H:Hp}{Q:VK}{lo hi:Int}{t u v:fE}{tks:Nat}(I:L2.Inv X pins σ H s)(rx:RelV x y)(e:zJ neg lo hi x=some k)(q:Q (.bl k) H):
  π (model X.prog X.w) X.A (compareOp (DP neg) y (.ref s.heap.objs.size)) (EP X pins σ Q) X.xe { s with heap:=s.heap.push { cls:=.type "range",data:=.fields #[.int lo t,.int hi u,.int 1 v]},toks:=tks }:=by
 cases x with
 |int i=>
  obtain⟨tk,rfl⟩:=rx;cases e;exact P2 I q
 |av=>
  cases (show y=bf from rx);cases e;cases neg with
  |false=>
   show π _ _ (contains (.ref s.heap.objs.size) .none >>= fun b=>pure (cB b)) _ _ _;exact δ (GV (Ψ _ rfl) fun tk=>ν ⟨.bl _,H,I.kept fun b ob q=>μ _ q,rfl,q⟩)
  |true=>
   show π _ _ (contains (.ref s.heap.objs.size) .none >>= fun b=>pure (cB (!b))) _ _ _;exact δ (GV (Ψ _ rfl) fun tk=>ν ⟨.bl _,H,I.kept fun b ob q=>μ _ q,rfl,q⟩)
 |_=>cases e
def DE(neg:Bool)(ta:TE)(tb:TA):TE:=fun σ H Q=>ta σ H fun x H1=>tb σ H1 fun vs H2=>∃hi k,vs=[.int hi]/\zJ neg 0 hi x=some k/\Q (.bl k) H2
def DD(neg:Bool)(ta:TE)(tb:TA):TE:=fun σ H Q=>ta σ H fun x H1=>tb σ H1 fun vs H2=>∃lo hi k,vs=[.int lo,.int hi]/\zJ neg lo hi x=some k/\Q (.bl k) H2
theorem NK{neg:Bool}(hg:Gl X "range")(hm:X.mg "range" = none)(ha:PE X a ta)(hb:PA X [b] tb)(hs:br [b] X.env=[(false,eval b X.env)]):PC X (DP neg) a (.Call (.Name "range" p) [b] [] pos) (DE neg ta tb):=by
 intro pins s σ H Q I h;refine bB (ha pins s σ H _ I h) fun v s1 ⟨x,H1,I1,r1,q1⟩=>?_;refine Call_ (qI I1 hg hm qU (cI (bB (hb pos pins s1 σ H1 _ I1 q1) fun us s2 ⟨vs,H2,I2,r2,q2⟩=>?_) hs rfl));obtain⟨hi,k,rfl,e,q⟩:=q2;cases r2 with
 |cons r rr=>
  cases rr;obtain⟨t,rfl⟩:=r;exact call_range_1 (GU I2 r1 e q)
theorem NJ{neg:Bool}(hg:Gl X "range")(hm:X.mg "range" = none)(ha:PE X a ta)(hb:PA X [b,c] tb)(hs:br [b,c] X.env=[(false,eval b X.env),(false,eval c X.env)])(hs2:br [c] X.env=[(false,eval c X.env)]):PC X (DP neg) a (.Call (.Name "range" p) [b,c] [] pos) (DD neg ta tb):=by
 intro pins s σ H Q I h;refine bB (ha pins s σ H _ I h) fun v s1 ⟨x,H1,I1,r1,q1⟩=>?_;refine Call_ (qI I1 hg hm qU (cI (bB (hb pos pins s1 σ H1 _ I1 q1) fun us s2 ⟨vs,H2,I2,r2,q2⟩=>?_) (by rw[hs,hs2]) (by rw[hs2];rfl)));obtain⟨lo,hi,k,rfl,e,q⟩:=q2;cases r2 with
 |cons r rr=>
  cases rr with
  |cons r' rr=>
   cases rr;obtain⟨t,rfl⟩:=r;obtain⟨t',rfl⟩:=r';exact call_range_2 (GU I2 r1 e q)
end
section
variable {X:Cx} {a b c:ρ} {ta:aw} {tb:cw} {p pos pos':aJ}
def wC(neg:Bool)(ta:aw)(tb:cw):aw:=fun τ G Q=>ta τ G fun x G1=>tb τ G1 fun ds G2=>match ds with
 |[.int hi]=>∃k,memD neg 0 hi x=some k/\Q (.bl k) G2
 |_=>False
def wB(neg:Bool)(ta:aw)(tb:cw):aw:=fun τ G Q=>ta τ G fun x G1=>tb τ G1 fun ds G2=>match ds with
 |[.int lo,.int hi]=>∃k,memD neg lo hi x=some k/\Q (.bl k) G2
 |_=>False
theorem GS{K:η}{H:Hp}{neg k:Bool}{lo hi:Int}{x:D}{v:V}(h:Hv K H x v)(e:memD neg lo hi x=some k):zJ neg lo hi v=some k:=by
 cases x with
 |int i=>rw[gG h];exact e
 |av=>
  unfold Hv at h;rw[h];exact e
 |_=>cases e
theorem NI{neg:Bool}{σ:L2.St}{H:Hp}{Q:VK}(h:low X.K (wC neg ta tb) σ H Q):DE neg (low X.K ta) (pG X.K tb) σ H Q:=by
 obtain⟨τ,G,Q3,RS,RG,h,k⟩:=h;refine⟨τ,G,_,RS,RG,h,fun v1 H1 d1 G1 h1 S1 R1 q1=>?_⟩;refine⟨τ,G1,_,RS.ext (S1.ext RG),R1,q1,fun vs H2 ds G2 h2 S2 R2 q2=>?_⟩;split at q2
 ·rename_i hi;obtain⟨kk,e,q2⟩:=q2;obtain⟨v,rfl,z1⟩:=ku h2;exact⟨hi,kk,by rw[gG z1],GS h1 e,k _ _ _ _ lE (S1.trans S2) R2 q2⟩
 ·exact q2.elim
theorem NH{neg:Bool}{σ:L2.St}{H:Hp}{Q:VK}(h:low X.K (wB neg ta tb) σ H Q):DD neg (low X.K ta) (pG X.K tb) σ H Q:=by
 obtain⟨τ,G,Q3,RS,RG,h,k⟩:=h;refine⟨τ,G,_,RS,RG,h,fun v1 H1 d1 G1 h1 S1 R1 q1=>?_⟩;refine⟨τ,G1,_,RS.ext (S1.ext RG),R1,q1,fun vs H2 ds G2 h2 S2 R2 q2=>?_⟩;split at q2
 ·rename_i lo hi;obtain⟨kk,e,q2⟩:=q2;obtain⟨v,v',rfl,z1,z2⟩:=JM h2;exact⟨lo,hi,kk,by rw[gG z1,gG z2],GS h1 e,k _ _ _ _ lE (S1.trans S2) R2 q2⟩
 ·exact q2.elim
theorem GR(ha:QE X a ta)(hm:X.mg "range" = none)(hb:QA X [b] tb)(hg:Gl X "range":=by rfl)(hs:notStar b=true:=by rfl):QT X (.Compare a [.NotIn] [.Call (.Name "range" p) [b] [] pos'] pos) (bj (wC true ta tb)):=
 ⟨vP (Jd (op:=.NotIn) (NK (neg:=true) hg hm ha.of hb.of (dY hs)) rfl) fun _ _ _ h=>NI (xq h)⟩
theorem GQ(ha:QE X a ta)(hm:X.mg "range" = none)(hb:QA X [b,c] tb)(hg:Gl X "range":=by rfl)(hs:notStar b=true:=by rfl)(hs2:notStar c=true:=by rfl):QT X (.Compare a [.NotIn] [.Call (.Name "range" p) [b,c] [] pos'] pos) (bj (wB true ta tb)):=
 ⟨vP (Jd (op:=.NotIn) (NJ (neg:=true) hg hm ha.of hb.of (by rw[dY hs,dY hs2];rfl) (dY hs2)) rfl) fun _ _ _ h=>NH (xq h)⟩
end
end L3
namespace HT
open PySem PyProof.Rows
def lexLe:List Int->List Int->Bool
 |[],[]=>true
 |[],_::_=>true
 |_::_,[]=>false
 |x::xs,y::ys=>if x=y then lexLe xs ys else decide (x≤y)
theorem NG(x y:Int)(xs ys:List Int):lexLe (x::xs) (y::ys)=if x=y then lexLe xs ys else decide (x≤y):=rfl
theorem Of:lexLe [] []=true:=rfl
theorem Oe(y:Int)(ys:List Int):lexLe [] (y::ys)=true:=rfl
theorem Od(x:Int)(xs:List Int):lexLe (x::xs) []=false:=rfl
theorem Oc(A:aB)(s:θ)(a:Int)(t:fE)(c:Int)(u:fE)(prog:Ω)(w:aj)(E:ε->θ->Prop)(Q:ε->θ->Prop)(h:Q (.bool (decide (a≤c))) s):
  π (model prog w) A (richCompare .LtE (.int a t) (.int c u)) Q E s:=
 (PyProof.Rows.le_int h:π (model prog w) A (compareOp .LtE (.int a t) (.int c u)) Q E s)
section
open PySem.SeqAt
open PySem.AutoSeq1 (wpAny_loadPart')
open PySem.MeetsSeq PySem.MeetsSeq2 PySem.MeetsSeq3
theorem Ob(l b:ζ)(items items2:Array ε)(n n2:Nat)(dd dd2:Option ζ)(sl sl2:Array (Option ε))(ns ms:List Int)(hi:dv items.toList ns)(hj:dv items2.toList ms):
  Meets (cO.«tuple.__le__» ⟨[.ref l,.ref b],[]⟩)
   (fun _ R s=>s.heap.get? l=some { cls:=.type "tuple",dict:=dd,data:=.seq items n,slots:=sl }/\s.heap.get? b=some { cls:=.type "tuple",dict:=dd2,data:=.seq items2 n2,slots:=sl2 } ∧
    R (.ok (.ret (.bool (lexLe ns ms)))) s):=
 .of_wp fun prog w A R s h=>by
  obtain⟨hp,g,d,tk,os⟩:=s;obtain⟨hl,hb,h⟩:=h;have f2:=oV;have z1:items.size=ns.length:=by rw[←hi.length];simp
  have z2:items2.size=ms.length:=by rw[←hj.length];simp
  wp_walk using wpAny_loadPart' hl,wpAny_loadPart' hb,iC _ (fun rest b s'=>b.1=none/\s'=⟨hp,g,d,tk,os⟩/\∃(vs ws:List ε) (ns' ms':List Int),rest=vs.zip ws ∧
   dv vs ns'/\dv ws ms'/\ns'.length+items2.size=ms'.length+items.size/\R (.ok (.ret (.bool (lexLe ns' ms')))) ⟨hp,g,d,tk,os⟩) _
  case turn=>
   rintro⟨y,x⟩ rest b s' ⟨hb',rfl,vs,ws,ns',ms',hz,hvi,hwi,hlen,hR⟩;cases hvi with
   |nil=>rw[List.zip_nil_left] at hz;cases hz
   |cons a t hvi'=>
    cases hwi with
    |nil=>rw[sW] at hz;cases hz
    |cons c u hwi'=>
     rw[fH] at hz;injection hz with hyx hrest;injection hyx with hy hx;subst hy hx;rw[NG] at hR;simp only[ak] at hlen;obtain⟨e,he,hiff⟩:=IP A.in1 ⟨hp,g,d,tk,os⟩ a t c u;refine δ (he prog w _ _ ?_);cases e with
     |true=>
      rw[if_pos (hiff.mp rfl)] at hR;wp_walk;exact⟨rfl,rfl,_,_,_,_,hrest,hvi',hwi',by lia,hR⟩
     |false=>
      rw[if_neg (fun q=>absurd (hiff.mpr q) au)] at hR;have hri:=Oc A.in1 ⟨hp,g,d,tk,os⟩ a t c u prog w;wp_walk using hri;exact⟨_,rfl,by simpa using hR⟩
  case fin=>
   rintro⟨b1,b2⟩ s' ⟨hb',rfl,vs,ws,ns',ms',hz,hvi,hwi,hlen,hR⟩;simp only at hb';subst hb';have hv:lexLe ns' ms'=decide (items.size≤items2.size):=by
    cases hvi with
    |nil=>
     cases hwi with
     |nil=>
      simp only[eA] at hlen;rw[Of];exact (decide_eq_true (by lia)).symm
     |cons c u hw=>
      simp only[eA,ak] at hlen;rw[Oe];exact (decide_eq_true (by lia)).symm
    |cons a t hv=>
     cases hwi with
     |nil=>
      simp only[eA,ak] at hlen;rw[Od];exact (decide_eq_false (by lia)).symm
     |cons c u hw=>
      rw[fH] at hz;cases hz
   rw[hv] at hR;wp_walk;exact⟨_,rfl,by simpa [kE] using hR⟩
  case h=>
   exact⟨rfl,rfl,items.toList,items2.toList,ns,ms,rfl,hi,hj,by lia,h⟩
end
section
variable {prog:Ω} {w:aj} {A:aB} {E:ε->θ->Prop} {s:θ}
theorem zQ{l b:ζ}{items items2:Array ε}{ns ms:List Int}{Q:ε->θ->Prop}(hl:lq s.heap l items)(hb:lq s.heap b items2)(hi:dv items.toList ns)(hj:dv items2.toList ms)
  (hu:A.units<cLine) (h:Q (.bool (lexLe ns ms)) s):π (model prog w) A (compareOp .LtE (.ref l) (.ref b)) Q E s:=by
 obtain⟨⟨cls,dd,data,sl⟩,ho,hc,n,hd⟩:=id hl;obtain⟨⟨cls2,dd2,data2,sl2⟩,ho2,hc2,n2,hd2⟩:=id hb;simp only at hc hd hc2 hd2;subst hc hd hc2 hd2;exact richCompare_meets_room (op:=.LtE) ⟨_,ho,rfl⟩ ⟨_,ho2,rfl⟩ PySem.F.slot_tuple_le PySem.F.entry_tuple_le (PySem.F.args_tuple_le_2 _ _) (Ob l b items items2 n n2 dd dd2 sl sl2 ns ms hi hj)
  ⟨ho,ho2,show cB (lexLe ns ms)≠qV/\Q (.bool (lexLe ns ms)) s from⟨(fun x=>nomatch x),h⟩⟩ hu
end
end HT
namespace L3
open PySem PySem.Spec PyProof.Rows L2
section
variable {X:Cx} {K:η}
def EI(K:η):R2:=fun x y H Q=>∃a b ns ms,x=.ref a/\y=.ref b/\cY K H a (ns.map V.int)/\cY K H b (ms.map V.int)/\Q (.bl (HT.lexLe ns ms)) H
theorem Oa(hu:X.A.units<cLine):dq X (compareOp .LtE) (EI X.K):=by
 intro pins s σ H x y v u Q I rx ry h;obtain⟨a,b,ns,ms,rfl,rfl,ha,hb,q⟩:=h;cases rx;cases ry;obtain⟨its,r1,p1,_⟩:=I.tuple ha;obtain⟨its2,r2,p2,_⟩:=I.tuple hb;have i1:dv its.toArray.toList ns:=intsAre_of r1;have i2:dv its2.toArray.toList ms:=intsAre_of r2;exact HT.zQ p1 p2 i1 i2 hu ⟨.bl (HT.lexLe ns ms),H,I,rfl,q⟩
def yH:R3:=fun x y G Q=>match x,y with
 |.tup ds,.tup es=>∃ns ms,intsOf ds=some ns/\intsOf es=some ms/\Q (.bl (HT.lexLe ns ms)) G
 |_,_=>False
theorem N9:di K yH (EI K):=fun x y vx vy G H Q3 Q hx hy RG h k=>by
 unfold yH at h;split at h
 ·rename_i ds es;obtain⟨ns,ms,e1,e2,q⟩:=h;obtain⟨a,vs,rfl,h1,h2⟩:=kr hx;obtain⟨b,us,rfl,h3,h4⟩:=kr hy;exact⟨a,b,ns,ms,rfl,rfl,by rw[←sj h2 e1];exact h1,by rw[←sj h4 e2];exact h3,k _ H (.bl _) G lE (.refl H G) RG q⟩
 ·exact h.elim
end
end L3
namespace L2
open PySem
open Sem (wp)
section
variable {prog:Ω} {w:aj} {A:aB} {E:ε->θ->Prop} {h:af} {g:Array GenState} {d:Drawn} {t:Nat} {os:OsState}
variable {nm q:ι} {C N:ζ} {bs bm bmB:List ε} {hdct:Bool} {sn:List ι} {sub:List ε} {ab:Bool} {col:Option Bool} {dd:Option ζ} {k0 k1 k2 k3 k5:Option ε} {B newId initId:String}
def fP(h:af)(C:ζ)(rest:List ε):af:=(h.push { cls:=.type "tuple",data:=.seq rest.toArray }).push { cls:=.ref C,data:=.fields #[.ref h.objs.size,.none,.none,.none,.bool false,.none]}
theorem N8(F:ExcBaseFacts B newId initId bmB)(T:OwnTail h bmB bm){mN:ι->Option ε}{rest:List ε}{f:ζ}{of:aL}{Q:Fin->θ->Prop}
  (hC:h.get? C=some (excClassObj nm q C N bs bm hdct sn sub ab col dd k0 k1 k2 k3 k5 newId)) (hn:h.Ns N mN) (hni:mN "__init__" = some (.ref f)) (hf:h.get? f=some of) (hfc:of.cls=.type "function")
  (hq:ij (model prog w) A (.call (.ref f) ⟨.ref (h.objs.size+1)::rest,[]⟩) (fun r s'=>match r with
   |.ok (.ret v)=>v=.none/\Q (.done (.ret (.ref (h.objs.size+1)))) s'
   |.ok _=>False
   | .error e=>E e s') ⟨fP h C rest,g,d,t,os⟩) (hrest:rest.length≤ag:=by size_fits):
  π (model prog w) A (cO.«type.__call__» ⟨.ref C::rest,[]⟩) Q E ⟨h,g,d,t,os⟩:=by
 repeat (first|with_reducible refine fc hC ?_|with_reducible refine wpAny_madeBy_exc hC ?_|wp_step)
 refine codeAny_call_builtin_code (mD _ F.quiet) (wpAny_check_new_subT F T hC ?_);refine codeAny_exc_new_subT F T hC ?_ hrest;show π _ _ _ _ _ _;have hC₁:=μ { cls:=.ref C,data:=.fields #[.ref h.objs.size,.none,.none,.none,.bool false,.none]}
  (μ { cls:=.type "tuple",data:=.seq rest.toArray } hC)
 have hf₁:=μ { cls:=.ref C,data:=.fields #[.ref h.objs.size,.none,.none,.none,.bool false,.none]}
  (μ { cls:=.type "tuple",data:=.seq rest.toArray } hf)
 have hn₁:((h.push { cls:=.type "tuple",data:=.seq rest.toArray }).push { cls:=.ref C,data:=.fields #[.ref h.objs.size,.none,.none,.none,.bool false,.none]}).Ns N mN:=
  let ⟨o,es,ep,e,r⟩:=hn;⟨o,es,ep,μ _ (μ _ e),r⟩
 have hget:((h.push { cls:=.type "tuple",data:=.seq rest.toArray }).push
   { cls:=.ref C,data:=.fields #[.ref h.objs.size,.none,.none,.none,.bool false,.none]}).get? (h.objs.size+1)=some
   { cls:=.ref C,data:=.fields #[.ref h.objs.size,.none,.none,.none,.bool false,.none]}:=by heap_get
 have hcC:(aQ C::bm).contains (.ref C)=true:=by simp
 have T₁:=T.keeps (h':=(h.push { cls:=.type "tuple",data:=.seq rest.toArray }).push { cls:=.ref C,data:=.fields #[.ref h.objs.size,.none,.none,.none,.bool false,.none]})
  fun b o e=>μ _ (μ _ e)
 unfold isInstance
 repeat (first|with_reducible refine fc hget ?_|(with_reducible refine iU hC₁ ?_;rw[hcC])|wp_step)
 show π _ _ (typeLookup (.ref C) _) _ _ _;refine wpAny_typeLookup_tail hC₁ hn₁ T₁ F.mroIs F.init.lookup ?_;rw[hni];refine bU (δ (wpAny_bindSpecial_def hf₁ hfc ?_));refine δ (gO (eV hq fun r s' hr=>?_));cases r with
 |error e=>exact hr
 |ok fl=>
  cases fl with
  |ret v=>
   obtain⟨rfl,hr⟩:=hr;refine ν ?_;show π _ _ (ret (aQ (h.objs.size+1))) _ _ _;exact ν hr
  |next=>exact hr.elim
  |brk=>exact hr.elim
  |cont=>exact hr.elim
theorem N7(F:ExcBaseFacts B newId initId bmB)(T:OwnTail h bmB bm){mN:ι->Option ε}{rest:List ε}{f:ζ}{of:aL}{Q:ε->θ->Prop}
  (hC:h.get? C=some (excClassObj nm q C N bs bm hdct sn sub ab col dd k0 k1 k2 k3 k5 newId)) (hn:h.Ns N mN) (hni:mN "__init__" = some (.ref f)) (hf:h.get? f=some of) (hfc:of.cls=.type "function")
  (hq:ij (model prog w) (A.under (.builtin "type.__call__" ⟨.ref C::rest,[]⟩)) (.call (.ref f) ⟨.ref (h.objs.size+1)::rest,[]⟩) (fun r s'=>match r with
   |.ok (.ret v)=>v=.none/\Q (.ref (h.objs.size+1)) s'
   |.ok _=>False
   | .error e=>E e s') ⟨fP h C rest,g,d,t,os⟩) (hrest:rest.length≤ag:=by size_fits):
  π (model prog w) A (call (.ref C) rest) Q E ⟨h,g,d,t,os⟩:=by
 have f1:=tc_lookup;have f2:=tc_bind (.ref C);have hT:(⟨h,g,d,t,os⟩:θ).TypeIs (.ref C) "type":=⟨_,hC,rfl⟩;refine gO (pe ?_);show π _ _ (callAny (.ref C) _) _ _ _
 repeat (any_goals (first|assumption|with_reducible refine fc hC ?_|wp_step))
 refine⟨rfl,?_⟩;refine codeAny_call_builtin_at (mD _ (by decide +kernel)) entry_typeCall (wpAny_check_type_call_sub hC ?_);refine N8 F T hC hn hni hf hfc (eV hq fun r s' hr=>?_) hrest;cases r with
 |error e=>exact hr
 |ok fl=>
  cases fl with
  |ret v=>exact hr
  |next=>exact hr.elim
  |brk=>exact hr.elim
  |cont=>exact hr.elim
end
end L2
namespace L2
open PySem
open Sem (wp)
structure nH(base h:af)(e T:ζ)(cls:ε)(dx:Option ζ):Prop where
 obj:∃oe vs,h.get? e=some oe/\oe.cls=cls/\oe.dict=dx/\oe.data=.fields vs/\vs[1]?=some (.ref T)/\vs[2]?=some .none
 fresh:base.get? T=none
 ne:T≠e
 ent:∃oT ts,h.get? T=some oT/\oT.data=.fields ts/\ts[3]?=some .none
structure qS(base:af)(l:List cV)(e T₀:ζ)(cls:ε)(dx:Option ζ)(h h':af):Prop where
 stays:base.StaysIn h'
 kO:h'.FunFrames base l
 wK:∃T,nH base h' e T cls dx/\h.get? T=none
 keep:∀b o,b≠e->b≠T₀->b∉fx l->h.get? b=some o->h'.get? b=some o
 slot:∀b o,b∈fx l->h.get? b=some o->∃sl,h'.get? b=some { o with slots:=sl }
section
variable {M:me} {A:aB} {E:ε->θ->Prop} {s:θ}
theorem su{base:af}{env:cV}{outer:List cV}{L e:ζ}{oe:aL}{vs:Array ε}{head:ε}{hadNext:Bool}{Q:Unit->θ->Prop}
  (kN:A.frames=some (env::outer)) (hl:s.heap.FunFrames base (env::outer)) (hf:env.frame=some L)
  (he:s.heap.get? e=some oe) (hkb:base.StaysIn s.heap) (hen:base.get? e=none) (hd:oe.data=.fields vs) (gy:1<vs.size) (h2:vs[2]?=some .none)
  (h:∀h',qS base (env::outer) e e oe.cls oe.dict s.heap h'->Q () { s with heap:=h' }):
  π M A (do let a ←frameOf env;let pl ←entryPlaceOf L hadNext;let b ←rQ head a .none (rawInt L) .none pl;setField (.ref e) 1 b) (fun _ s'=>π M A (setFlight (.ref e) none) Q E s') E s:=by
 have hene:e∉(env::outer).filterMap (·.frame):=fun hm=>by
  obtain⟨_,o,ho,hnf⟩:=hl.mem hm;rw[he] at ho;injection ho with ho;subst ho;exact hnf vs hd
 refine δ (wpAny_frameOf_fun kN hl hf fun h₁ hs₁=>?_);refine δ (wpAny_entryPlaceOf fun pl hpl=>?_);unfold rQ newFields;refine δ (cA ?_ (hpl.sizeOk5 _ _ _ _ _));have he₁:h₁.get? e=some oe:=(hs₁.2.1 e hene).trans he;have kb₁:base.StaysIn h₁:=fun b o hbo=>(hs₁.2.1 b fun hm=>by rw[(hl.mem hm).1] at hbo;cases hbo).trans (hkb b o hbo);have he₂:=μ (h:=h₁) { cls:=.type "traceback",dict:=none,data:=.fields ([head,.ref L,.none,rawInt L,.none]++(if pl.isEmpty then aY 6 bf else pl)).toArray } he₁;refine gi he₂ hd gy ?_;have hTe:h₁.objs.size≠e:=iq (Φ he₁);have hd₃:=dm hd (·.setIfInBounds 1 (aQ h₁.objs.size));have he₃:=bQ (fU (·.setIfInBounds 1 (aQ h₁.objs.size))) he₂ (eQ hd₃);have hT₃:=(bF (h₁.push { cls:=.type "traceback",dict:=none,data:=.fields ([head,.ref L,.none,rawInt L,.none]++(if pl.isEmpty then aY 6 bf else pl)).toArray })
  (fU (·.setIfInBounds 1 (aQ h₁.objs.size))) (du hTe)).trans (Ψ h₁ rfl)
 unfold setFlight;refine δ (bp he₃ hd₃ (x:=.ref h₁.objs.size) (by simp[gy]) ?_);rw[if_pos (show (aQ h₁.objs.size != bf)=true from by simp)];refine gi hT₃ rfl (by simp only[χ,ar,ak,eA]<;>lia) (h _ ?_)
 have keep:∀b o,b≠e->h₁.get? b=some o ->
   (((h₁.push { cls:=.type "traceback",dict:=none,data:=.fields ([head,.ref L,.none,rawInt L,.none]++(if pl.isEmpty then aY 6 bf else pl)).toArray }).update e (fU (·.setIfInBounds 1 (aQ h₁.objs.size)))).update h₁.objs.size
    (fU (·.setIfInBounds 3 ((none:Option ζ).elim bf fun f=>rawInt f)))).get? b=some o:=fun b o hbe hb=>by
  have hbT:h₁.objs.size≠b:=iq (Φ hb);rw[bF _ _ hbT,bF _ _ (du hbe)];exact μ _ hb
 have noRecord:∀b o,s.heap.get? b=some o->(∀vs,o.data≠.fields vs)->b≠e:=fun b o hb hnf q=>by
  rw[q,he] at hb;injection hb with hb;subst hb;exact hnf vs hd
 refine⟨fun b o hbo=>keep b o (fun q=>by rw[q,hen] at hbo;cases hbo) (kb₁ b o hbo),hl.of_keeps fun b o hb hnf=>?_,⟨h₁.objs.size,⟨⟨_,_,?_,aL.cls_mapFields _ _,?_,hd₃,by simp[gy],by rw[Array.getElem?_setIfInBounds_ne (by decide)];exact h2⟩,kb₁.fresh,hTe,_,_,bQ _ hT₃ (eQ (dm rfl _)),dm rfl _,by first|(simp;done)|(rcases hpl with rfl|⟨_,_,_,_,_,_,_,rfl⟩<;>simp)⟩,?_⟩,fun b o hbe _ hbf hb=>?_,fun b o hbf hb=>?_⟩
 ·obtain⟨sl,hs⟩:=hs₁.2.2 b o hb;exact⟨_,keep b _ (noRecord b o hb hnf) hs,rfl⟩
 ·rw[bF _ _ hTe];exact he₃
 ·obtain⟨c0,d0,dt0,s0⟩:=oe;cases dt0<;>rfl
 ·exact e6 (by rw[hs₁.1];exact Δ _)
 ·exact keep b o hbe ((hs₁.2.1 b hbf).trans hb)
 ·obtain⟨sl,hs⟩:=hs₁.2.2 b o hb;refine⟨sl,keep b _ (fun q=>?_) hs⟩;rw[q] at hbf;exact hene hbf
theorem N6{base:af}{env:cV}{outer:List cV}{L e:ζ}{oe:aL}{vs:Array ε}{Q:Unit->θ->Prop}
  (kN:A.frames=some (env::outer)) (hl:s.heap.FunFrames base (env::outer)) (hf:env.frame=some L)
  (he:s.heap.get? e=some oe) (hkb:base.StaysIn s.heap) (hen:base.get? e=none) (hd:oe.data=.fields vs) (h1:vs[1]?=some .none) (h2:vs[2]?=some .none)
  (h:∀h',qS base (env::outer) e e oe.cls oe.dict s.heap h'->Q () { s with heap:=h' }):π M A (leaving env (.ref e)) Q E s:=by
 unfold leaving noteFrame;simp only[hf];refine δ (δ (bp he hd h1 ?_));rw[if_neg (by decide)];exact su kN hl hf he hkb hen hd (aG.mp h1).1 h2 h
theorem Nu{base:af}{env:cV}{outer:List cV}{L e T:ζ}{cls:ε}{dx:Option ζ}{Q:Unit->θ->Prop}
  (kN:A.frames=some (env::outer)) (hl:s.heap.FunFrames base (env::outer)) (hf:env.frame=some L) (ht:nH base s.heap e T cls dx) (hkb:base.StaysIn s.heap) (hen:base.get? e=none)
  (h:∀h',qS base (env::outer) e T cls dx s.heap h'->Q () { s with heap:=h' }):π M A (leaving env (.ref e)) Q E s:=by
 obtain⟨⟨oe,vs,he,hcls,hdx,hd,h1,h2⟩,hnT,hTe,oT,ts,hT,hdT,h3⟩:=ht;subst hcls hdx;unfold leaving noteFrame;simp only[hf];refine δ (δ (bp he hd h1 ?_));rw[if_pos (show (aQ T != bf)=true from by simp)];refine δ (bp hT hdT h3 ?_);rw[if_neg (show ¬((bf==rawInt L)=true) from by simp[rawInt])];refine δ (gi hT hdT (aG.mp h3).1 ?_);have other:∀b,b≠T->(s.heap.update T (fU (·.setIfInBounds 3 bf))).get? b=s.heap.get? b:=fun b hb=>bF _ _ (du hb);have noRecord:∀b o,s.heap.get? b=some o->(∀vs,o.data≠.fields vs)->b≠T:=fun b o hb hnf q=>by
  rw[q,hT] at hb;injection hb with hb;subst hb;exact hnf ts hdT
 have hTf:T∉fx (env::outer):=fun hm=>by
  obtain⟨_,o,ho,hnf⟩:=hl.mem hm;rw[hT] at ho;injection ho with ho;subst ho;exact hnf ts hdT
 refine su kN (hl.of_keeps fun b o hb hnf=>⟨o,(other b (noRecord b o hb hnf)).trans hb,rfl⟩) hf ((other e (du hTe)).trans he)
  (fun b o hbo=>(other b fun q=>by rw[q,hnT] at hbo;cases hbo).trans (hkb b o hbo)) hen hd (aG.mp h1).1 h2
  fun h' ⟨x1,x2,⟨T',x3,x3'⟩,x4,x5⟩=>h h' ⟨x1,x2,⟨T',x3,?_⟩,fun b o hbe hbT hbf hb=>x4 b o hbe hbe hbf ((other b hbT).trans hb),fun b o hbf hb=>x5 b o hbf ((other b fun q=>hTf (q▸hbf)).trans hb)⟩
 by_cases hq:T'=T
 ·subst hq;obtain⟨o2,e2⟩:∃o2,(s.heap.update T' (fU (·.setIfInBounds 3 bf))).get? T'=some o2:=⟨_,bQ _ hT (eQ (dm hdT _))⟩;rw[e2] at x3';cases x3'
 ·rw[←other T' hq];exact x3'
end
end L2
namespace L2
open PySem PySem.Spec PyProof.Rows
def fD(P:Ω)(w:aj)(base:af):pZ:=fun outer H s E ev s'=>∃(e T C:ζ) (dx:Option ζ) (H':Hp),ev=.ref e/\s'.os=s.os/\jE s'.gens/\Un (fx outer) [] H H' s.heap s'.heap/\dJ P w H' s'.heap ∧
 nH base s'.heap e T (.ref C) dx/\(H' e=none/\H' T=none)/\base.get? e=none/\(s.heap.get? e=none/\s.heap.get? T=none)/\E (.ref C) dx H'
theorem bV.there{P:Ω}{w:aj}{H:Hp}{h:af}{a:ζ}{o:HO}(x:bV P w H h a o):∃ob,h.get? a=some ob:=by
 cases o with
 |lst xs=>obtain⟨_,_,_,_,e⟩:=x;exact⟨_,e⟩
 |tup xs=>obtain⟨_,_,_,ob,e,_⟩:=x;exact⟨_,e⟩
 |dK kvs=>obtain⟨_,_,_,_,o,_,_,e,_⟩:=x;exact⟨_,e⟩
 |dT kvs=>obtain⟨_,_,_,_,o,_,_,e,_⟩:=x;exact⟨_,e⟩
 |set S n=>obtain⟨o,_,_,_,e,_⟩:=x;exact⟨_,e⟩
 |ins C dx fs=>obtain⟨_,_,_,e,_⟩:=x;exact⟨_,e⟩
 |own y=>exact x
 |xd fs=>obtain⟨_,⟨_,_,_,e,_⟩,_⟩:=x;exact⟨_,e⟩
 |AY lo hi=>obtain⟨_,_,_,e⟩:=x;exact⟨_,e⟩
 |cP ob u=>obtain⟨e,_⟩:=x;exact⟨_,e⟩
 |uI ps=>exact⟨_,(show h.get? a=some _ from x)⟩
 |met f y=>exact⟨_,(show h.get? a=some _ from x)⟩
 |ext φ=>exact x.2.1
section
variable {X:Cx} {pins:List (ζ×aL)} {σ:St} {H:Hp} {s:θ}
theorem Inv.left(I:Inv X pins σ H s)(hex:X.ex=[])(hst:X.stack=X.env::X.outer)(kN:X.env.frame=some X.env.locals){e T₀:ζ}{cls:ε}{dx:Option ζ}{h':af}(L:qS X.base X.stack e T₀ cls dx s.heap h')
  (he:X.s₀.heap.get? e=none) (hT:X.s₀.heap.get? T₀=none) (hHe:H e=none) (hHT:H T₀=none):
  Un (fx X.outer) [] X.H₀ H X.s₀.heap h'/\dJ X.prog X.w H h':=by
 have hloc:X.s₀.heap.get? X.env.locals=none:=e6 I.ok.above;have sub:∀b,b∈fx X.stack->b=X.env.locals∨b∈fx X.outer:=fun b hb=>aa.mp (I.rX b hb);have ne:∀{b c:ζ} {o:aL},X.s₀.heap.get? b=some o->X.s₀.heap.get? c=none->b≠c:=fun h1 h2 z=>by
  rw[z,h2] at h1;cases h1
 have lG:∀b:ζ,b∉X.ex:=fun b z=>by
  rw[hex] at z;cases z
 have supF:∀b,b∈fx X.outer->b∈fx X.stack:=fun b hb=>by
  rw[hst];unfold fx;rw[dy,kN];exact ω _ hb
 refine⟨⟨fun b o h1 h2 h3 _=>?_,fun b o h1 h2 h3 _=>?_,fun b o h1 h2 _=>I.base.free b o h1 h2 (lG b),fun b o h1 _=>?_,I.base.hV,I.base.hZ,I.base.mG⟩,fun a o ha=>?_⟩
 ·have k1:=I.base.keep b o h1 h2 h3 (lG b);refine L.keep b o (ne h1 he) (ne h1 hT) (fun z=>?_) k1;rcases sub b z with z|z
  ·exact ne h1 hloc z
  ·exact h3 z
 ·obtain⟨sl,k1⟩:=I.base.slot b o h1 h2 h3 (lG b);obtain⟨sl',k2⟩:=L.slot b _ (supF b h3) k1;exact⟨sl',k2⟩
 ·obtain⟨o',k1⟩:=I.base.there b o h1 (lG b);by_cases hb:b∈fx X.stack
  ·obtain⟨sl,k2⟩:=L.slot b o' hb k1;exact⟨_,k2⟩
  ·exact⟨o',L.keep b o' (ne h1 he) (ne h1 hT) hb k1⟩
 ·refine (I.bx a o ha).km (fun b u hb q=>?_) (fun _ q=>q) fun _ _ q=>q;have hHb:H b≠none:=by
   rcases hb with rfl|hb
   ·rw[ha];simp
   ·rw[hb];simp
  exact L.keep b u (fun z=>hHb (z▸hHe)) (fun z=>hHb (z▸hHT)) (fun z=>hHb (I.gB b z)) q
theorem Inv.XG(I:Inv X pins σ H s)(hex:X.ex=[])(hst:X.stack=X.env::X.outer)(kN:X.env.frame=some X.env.locals){e C:ζ}{oe:aL}{vs:Array ε}{E:XK}(he:s.heap.get? e=some oe)(hc:oe.cls=.ref C)(hd:oe.data=.fields vs)(h1:vs[1]?=some .none)(h2:vs[2]?=some .none)
  (h0:X.s₀.heap.get? e=none) (hHe:H e=none) (q:E (.ref C) oe.dict H) {R:ε->θ->Prop}:
  π (model X.prog X.w) X.A (leaving X.env (.ref e)) (fun _ s'=>fD X.prog X.w X.base X.outer X.H₀ X.s₀ E (.ref e) s') R s:=by
 have hen:X.base.get? e=none:=by
  cases hq:X.base.get? e with
  |none=>rfl
  |some o=>
   have:=(I.ok.bs e o hq).1;rw[h0] at this;cases this
 refine N6 (base:=X.base) (by rw[I.ok.frames,hst]) (by rw[←hst];exact I.stack) kN he I.bk hen hd h1 h2 fun h' L=>?_;rw[←hst,hc] at L;obtain⟨u,ok⟩:=I.left hex hst kN L h0 h0 hHe hHe;obtain⟨T,tr,hT⟩:=L.wK;have hTs:X.s₀.heap.get? T=none:=by
  cases hq:X.s₀.heap.get? T with
  |none=>rfl
  |some o=>
   obtain⟨o',e'⟩:=I.base.there T o hq (by rw[hex];simp);rw[hT] at e';cases e'
 have hHT:H T=none:=by
  cases hq:H T with
  |none=>rfl
  |some o=>
   obtain⟨ob,e'⟩:=bV.there (I.bx T o hq);rw[hT] at e';cases e'
 exact⟨e,T,C,oe.dict,H,rfl,I.os,I.bare,u,ok,tr,⟨hHe,hHT⟩,hen,⟨h0,hTs⟩,q⟩
theorem Nt{E:XK}(hex:X.ex=[])(hst:X.stack=X.env::X.outer)(kN:X.env.frame=some X.env.locals)
  (Xr:∀e s',π (model X.prog X.w) X.A (leaving X.env e) (fun _ s''=>fD X.prog X.w X.base X.outer X.H₀ X.s₀ E e s'') (fun e' s''=>fD X.prog X.w X.base X.outer X.H₀ X.s₀ E e' s'') s'->X.xe e s'):mq (fD X.prog X.w X.base) X E:=by
 intro pins σ H s ev s' I h;obtain⟨e,T,C,dx,H',rfl,os,bare,u,ok,tr,⟨hHe,hHT⟩,hen,⟨he0,hT0⟩,q⟩:=h;have I':Inv X pins σ H' s':=I.Ay (ch:=[]) os u ok bare (fun b z=>absurd z (by simp));have s0:∀{b:ζ},s.heap.get? b=none->X.s₀.heap.get? b=none:=fun {b} hb=>by
  cases hq:X.s₀.heap.get? b with
  |none=>rfl
  |some o=>
   obtain⟨o',e'⟩:=I.base.there b o hq (by rw[hex];simp);rw[hb] at e';cases e'
 refine Xr _ _ (Nu (base:=X.base) (by rw[I.ok.frames,hst]) (by rw[←hst];exact I'.stack) kN tr I'.bk hen fun h' L=>?_);rw[←hst] at L;obtain⟨u',ok'⟩:=I'.left hex hst kN L (s0 he0) (s0 hT0) hHe hHT;obtain⟨T',tr',hT'⟩:=L.wK;have hTs:X.s₀.heap.get? T'=none:=by
  cases hq:X.s₀.heap.get? T' with
  |none=>rfl
  |some o=>
   obtain⟨o',e'⟩:=I'.base.there T' o hq (by rw[hex];simp);rw[hT'] at e';cases e'
 have hHT':H' T'=none:=by
  cases hq:H' T' with
  |none=>rfl
  |some o=>
   obtain⟨ob,e'⟩:=bV.there (I'.bx T' o hq);rw[hT'] at e';cases e'
 exact⟨e,T',C,dx,H',rfl,I'.os,I'.bare,u',ok',tr',⟨hHe,hHT'⟩,hen,⟨s0 he0,hTs⟩,q⟩
theorem Nr{P:Ω}{w:aj}{K:η}{mg:ι->Option ε}{base:af}{N:List ι}{qual:ι}{scope:eY}{f:ζ}{cd:ε}{A:aB}{outer:List cV}{s:θ}{H:Hp}{E:XK}:
  mq (fD P w base) (ia (fD P w base) P w K mg base N qual scope f cd A outer s H E) E:=Nt rfl rfl rfl fun e s' h=>h
theorem Nq{P:Ω}{w:aj}{K:η}{mg:ι->Option ε}{base:af}{N:List ι}{qual:ι}{scope:eY}{f:ζ}{cd:ε}{A:aB}{outer:List cV}{s:θ}{H:Hp}{E:XK}:
  sU (model P w) (ia (fD P w base) P w K mg base N qual scope f cd A outer s H E).A (ia (fD P w base) P w K mg base N qual scope f cd A outer s H E).env (ia (fD P w base) P w K mg base N qual scope f cd A outer s H E).xe:=sU.leaving
end
end L2
namespace L2
open PySem PySem.Spec PyProof.Rows
structure Body(X:Cx)(E:XK):Prop where
 ex:X.ex=[]
 st:X.stack=X.env::X.outer
 fr:X.env.frame=some X.env.locals
 xe:∀e s',π (model X.prog X.w) X.A (leaving X.env e) (fun _ s''=>fD X.prog X.w X.base X.outer X.H₀ X.s₀ E e s'') (fun e' s''=>fD X.prog X.w X.base X.outer X.H₀ X.s₀ E e' s'') s'->X.xe e s'
theorem yU{P:Ω}{w:aj}{K:η}{mg:ι->Option ε}{base:af}{N:List ι}{qual:ι}{scope:eY}{f:ζ}{cd:ε}{A:aB}{outer:List cV}{s:θ}{H:Hp}{E:XK}:
  Body (ia (fD P w base) P w K mg base N qual scope f cd A outer s H E) E:=⟨rfl,rfl,rfl,fun _ _ h=>h⟩
section
variable {X:Cx} {E:XK}
theorem Body.throw(B:Body X E){pins:List (ζ×aL)}{σ:St}{H:Hp}{s:θ}{e C:ζ}{oe:aL}{vs:Array ε}(I:Inv X pins σ H s)(he:s.heap.get? e=some oe)(hc:oe.cls=.ref C)(hd:oe.data=.fields vs)(h1:vs[1]?=some .none)(h2:vs[2]?=some .none)
  (h0:X.s₀.heap.get? e=none) (hHe:H e=none) (q:E (.ref C) oe.dict H):X.xe (.ref e) s:=B.xe _ _ (I.XG B.ex B.st B.fr he hc hd h1 h2 h0 hHe q)
theorem GP{pins:List (ζ×aL)}{σ:St}{H:Hp}{s:θ}(I:Inv X pins σ H s){e:ζ}(h:s.heap.get? e=none):H e=none:=by
 cases hq:H e with
 |none=>rfl
 |some o=>
  obtain⟨ob,e'⟩:=bV.there (I.bx e o hq);rw[h] at e';cases e'
theorem GN{pins:List (ζ×aL)}{σ:St}{H:Hp}{s:θ}(B:Body X E)(I:Inv X pins σ H s){e:ζ}(h:s.heap.get? e=none):X.s₀.heap.get? e=none:=by
 cases hq:X.s₀.heap.get? e with
 |none=>rfl
 |some o=>
  obtain⟨o',e'⟩:=I.base.there e o hq (by rw[B.ex];simp);rw[h] at e';cases e'
end
end L2
namespace L3
open PySem PySem.Spec PyProof.Rows L2
def eS:HO->Bool
 |.tup _=>true
 |.cP _ (.lst _)=>true
 |.cP _ (.tup _)=>true
 |.cP _ (.xd _)=>true
 |.cP _ (.ext _)=>true
 |_=>false
def hide(H:Hp):Hp:=fun a=>match H a with
 |some o=>if eS o then some o else none
 |none=>none
def joined(H H':Hp):Hp:=fun a=>match H a with
 |some o=>if eS o then H' a else some o
 |none=>H' a
section
variable {P:Ω} {w:aj} {H H':Hp} {h h':af} {a b:ζ} {o:HO} {fs:List ζ}
theorem xi(e:H a=none):hide H a=none:=by simp[hide,e]
theorem pF(e:H a=some o)(v:eS o=true):hide H a=some o:=by simp[hide,e,v]
theorem GL(e:H a=some o)(v:eS o=false):hide H a=none:=by simp[hide,e,v]
theorem BP(e:hide H a=some o):H a=some o/\eS o=true:=by
 unfold hide at e;cases q:H a with
 |none=>simp[q] at e
 |some u=>
  simp only[q] at e;cases v:eS u with
  |true=>
   rw[v,if_pos rfl] at e;cases e;exact⟨rfl,v⟩
  |false=>
   rw[v] at e;simp at e
theorem pE(e:H a=none):joined H H' a=H' a:=by simp[joined,e]
theorem qx(e:H a=some o)(v:eS o=true):joined H H' a=H' a:=by simp[joined,e,v]
theorem kJ(e:H a=some o)(v:eS o=false):joined H H' a=some o:=by simp[joined,e,v]
theorem GK{H2:Hp}(v:eS o=true)(x:bV P w H h a o):bV P w H2 h a o:=by
 cases o with
 |tup xs=>obtain⟨z,its,r,p⟩:=x;exact⟨z,its,r,p⟩
 |cP ob u=>
  cases u with
  |lst xs=>obtain⟨e,z,its,n,r,p⟩:=x;exact⟨e,z,its,n,r,p⟩
  |tup xs=>obtain⟨e,z,its,r,p⟩:=x;exact⟨e,z,its,r,p⟩
  |xd fs=>obtain⟨e,mA,r,p⟩:=x;exact⟨e,mA,r,p⟩
  |ext φ=>exact x
  |_=>cases v
 |_=>cases v
theorem Np(ok:dJ P w H h):dJ P w (hide H) h:=fun a o e=>by
 obtain⟨e1,v⟩:=BP e;exact GK v (ok a o e1)
variable (ok:dJ P w H h) (hfs:∀b∈fs,H b=none) (u:Un fs [] (hide H) H' h h') (ok':dJ P w H' h')
include ok u
theorem FR(e:H b=some o)(v:eS o=false):H' b=none:=by
 obtain⟨ob,q⟩:=bV.there (ok b o e);exact u.free b ob q (GL e v) (by simp)
theorem rZ(e:H' b=some o):joined H H' b=some o:=by
 cases q:H b with
 |none=>rw[pE q];exact e
 |some x=>
  cases v:eS x with
  |true=>rw[qx q v];exact e
  |false=>
   rw[FR ok u q v] at e;cases e
include hfs ok'
theorem BO:Un fs [] H (joined H H') h h'/\dJ P w (joined H H') h':=by
 have kept:∀b x ob,H b=some x->eS x=false->h.get? b=some ob->h'.get? b=some ob:=fun b x ob e v q=>
  u.keep b ob q (GL e v) (fun z=>by rw[hfs b z] at e;cases e) (by simp)
 refine⟨⟨fun b ob q n h3 h4=>u.keep b ob q (xi n) h3 h4,fun b ob q n h3 h4=>u.slot b ob q (xi n) h3 h4,fun b ob q n h3=>by rw[pE n];exact u.free b ob q (xi n) h3,
  fun b ob q h3=>u.there b ob q h3,fun b xs e=>rZ ok u (u.hV b xs (pF e rfl)),fun b ob x e=>?_,fun b ps e=>⟨#[],by rw[tm];exact kJ e rfl⟩⟩,fun b x e=>?_⟩
 ·cases v:eS (.cP ob x) with
  |true=>exact rZ ok u (u.hZ b ob x (pF e v))
  |false=>exact kJ e v
 ·have mono:H' b=some x->bV P w (joined H H') h' b x:=fun z=>(ok' b x z).km (fun _ _ _ q=>q) (fun c q=>rZ ok u q) (fun c xs q=>rZ ok u q);cases q:H b with
  |none=>
   rw[pE q] at e;exact mono e
  |some y=>
   cases v:eS y with
   |true=>
    rw[qx q v] at e;exact mono e
   |false=>
    rw[kJ q v] at e;obtain rfl:=ao e;refine (ok b _ q).km (fun c ob hc z=>?_) (fun c z=>kJ z rfl) (fun c xs z=>rZ ok u (u.hV c xs (pF z rfl)));rcases hc with rfl|hc
    ·exact kept _ _ _ q v z
    ·exact kept _ _ _ hc rfl z
end
section
variable {K:η} {H:Hp}
theorem cY.oh{a:ζ}{xs:List V}(h:cY K H a xs):cY K (hide H) a xs:=by
 rcases h with (h|⟨o,h⟩)|h
 ·exact .inl (.inl (pF h rfl))
 ·exact .inl (.inr ⟨o,pF h rfl⟩)
 ·exact .inr h
theorem kB.oh{a:ζ}{xs:List V}(h:kB K H a xs):kB K (hide H) a xs:=by
 rcases h with⟨o,h⟩|h
 ·exact .inl ⟨o,pF h rfl⟩
 ·exact .inr h
mutual
theorem Hv.oh:∀{d:D} {v:V},Hv K H d v->Hv K (hide H) d v
 |.av,_,h=>by simpa [Hv] using h
 |.bl _,_,h=>by simpa [Hv] using h
 |.int _,_,h=>by simpa [Hv] using h
 |.str _,_,h=>by simpa [Hv] using h
 |.obj _,_,h=>by simpa [Hv] using h
 |.dc a,v,h=>by
  unfold Hv at h ⊢;obtain⟨e,ob,φ,q,c⟩:=h;exact⟨e,ob,φ,pF q rfl,c⟩
 |.tup ds,v,h=>by
  unfold Hv at h ⊢;obtain⟨a,vs,e,q,r⟩:=h;exact⟨a,vs,e,cY.oh q,aD.oh r⟩
 |.dA ds,v,h=>by
  unfold Hv at h ⊢;obtain⟨a,vs,e,q,r⟩:=h;exact⟨a,vs,e,kB.oh q,aD.oh r⟩
theorem aD.oh:∀{ds:List D} {vs:List V},aD K H ds vs->aD K (hide H) ds vs
 |[],_,h=>by simpa [aD] using h
 |d::ds,vs,h=>by
  unfold aD at h ⊢;obtain⟨v,r,e,q,z⟩:=h;exact⟨v,r,e,Hv.oh q,aD.oh z⟩
end
end
abbrev gH:Gp:=fun _=>none
def both(G1 G':Gp):Gp:=fun a=>match G1 a with
 |some o=>some o
 |none=>G' a
abbrev E3:=ι->List (ι×Int)->Prop
def dG(K:η)(x:ι)(C:ζ):Prop:=aW K aH x=some (some (.ref C))
def sQ(H:Hp)(dx:Option ζ)(fs:List (ι×Int)):Prop:=(dx=none/\fs=[])∨∃d o,dx=some d/\H d=some (.cP o (.xd (fs.map fun p=>(p.1,V.int p.2))))
def jR(K:η)(E:E3):XK:=fun cls dx H=>∃x C fs,cls=.ref C/\dG K x C/\E x fs/\sQ H dx fs
abbrev pT:=List D->V3->E3->Prop
def CZ(K:η)(sp:pT):Sp:=fun vs H Q E=>∃ds Q3 E',aD K H ds vs/\(∀a o,H a=some o->eS o=true)/\sp ds Q3 E'/\(∀v H' d G',Hv K H' d v->Step H gH H' G'->aM K G' H'->Q3 d G'->Q v H')/\∀cls dx H',jR K E' cls dx H'->E cls dx H'
abbrev t7(P:Ω)(w:aj)(K:η)(mg:ι->Option ε)(base:af)(k:Nat)(f:ζ)(fd:ay)(ps:List ι)(sp:pT):Prop:=jg P w K mg base (fD P w base) k f fd ps (CZ K sp)
structure Joins(G1 G' G2:Gp):Prop where
 old:Sub G1 G2
 new:Sub G' G2
 out:∀a,G' a≠none->G1 a=none
def xV(sp:pT)(E:E3)(t:cw):aw:=fun τ G Q=>t τ G fun ds G1=>sp ds (fun d G'=>∀G2,Joins G1 G' G2->Q d G2) E
section
variable {X:Cx} {k:Nat} {f:ζ} {fd:ay} {ps:List ι} {sp:pT} {E:E3} {x:ι} {p pos:aJ} {e:ρ} {es:List ρ} {t:cw}
theorem FQ{K:η}{P:Ω}{w:aj}{fs:List ζ}{H H':Hp}{h h':af}{G1 G':Gp}{d:D}{v:V}(ok:dJ P w H h)(hfs:∀b∈fs,H b=none)(u:Un fs [] (hide H) H' h h')(ok':dJ P w H' h')
  (R1:aM K G1 H) (hv:Hv K H' d v) (S:Step (hide H) gH H' G') (R':aM K G' H'):
  Hv K (joined H H') d v/\Step H G1 (joined H H') (both G1 G')/\aM K (both G1 G') (joined H H')/\Joins G1 G' (both G1 G'):=by
 have E2:Ext H' (joined H H'):=⟨fun b xs e=>rZ ok u e,fun b o x e=>rZ ok u e⟩;have E1:Ext H (joined H H'):=by
  obtain⟨u2,_⟩:=BO ok hfs u ok';exact⟨u2.hV,u2.hZ⟩
 have outG:∀a,G' a≠none->H a=none:=fun a n=>by
  have z:hide H a=none:=S.new a rfl n;cases q:H a with
  |none=>rfl
  |some o=>
   cases v:eS o with
   |true=>rw[pF q v] at z;cases z
   |false=>
    have:=FR ok u q v;cases q':G' a with
    |none=>exact absurd q' n
    |some g=>
     obtain⟨o',z',_⟩:=(R' a g q').mut;rw[this] at z';cases z'
 have out1:∀a,G' a≠none->G1 a=none:=fun a n=>R1.free (outG a n);refine⟨hv.ext E2,⟨fun a o e n=>?_,fun a n=>?_,fun a n q=>?_⟩,fun a g e=>?_,⟨fun a o e=>by simp[both,e],fun a o e=>by simp[both,out1 a (by rw[e];simp),e],out1⟩⟩
 ·cases v:eS o with
  |true=>
   rw[qx e v];exact S.fr a o (pF e v) rfl
  |false=>exact kJ e v
 ·cases q:H a with
  |none=>exact absurd q n
  |some o=>
   cases v:eS o with
   |true=>
    rw[qx q v];exact S.mX a (by rw[pF q v];simp)
   |false=>rw[kJ q v];simp
 ·simp only[both,n] at q;exact outG a q
 ·cases q:G1 a with
  |some o=>
   simp only[both,q] at e;cases e;obtain⟨o',z,h1,h2⟩:=(R1 a g q).mut;have hv:eS o'=false:=by
    cases o' with
    |tup xs=>exact absurd rfl (h1 xs)
    |cP ob y=>exact absurd rfl (h2 ob y)
    |_=>rfl
   exact (R1 a g q).ext E1 (by rw[kJ z hv,z])
  |none=>
   simp only[both,q] at e;have hn:=outG a (by rw[e];simp);exact (R' a g e).ext E2 (by rw[pE hn])
theorem FP(G1:Gp):both G1 gH=G1:=by
 funext a;unfold both;cases G1 a<;>rfl
theorem Nn{H H':Hp}{fs:List ζ}{h h':af}(u:Un fs [] (hide H) H' h h'):Step (hide H) gH H' gH:=by
 have fr:∀a o,hide H a=some o->H' a=some o:=fun a o e=>by
  obtain⟨_,v⟩:=BP e;cases o with
  |tup xs=>exact u.hV a xs e
  |cP ob y=>exact u.hZ a ob y e
  |_=>cases v
 refine⟨fun a o e _=>fr a o e,fun a n=>?_,fun a _ q=>absurd rfl q⟩;cases q:hide H a with
 |none=>exact absurd q n
 |some o=>rw[fr a o q];simp
def uQ(K:η)(E:E3)(H:Hp)(G:Gp):XK:=fun cls dx H'=>jR K E cls dx H'/\aM K G H'/\Step H G H' G
theorem fD.mono{P:Ω}{w:aj}{base:af}{outer:List cV}{H:Hp}{s s':θ}{E E':XK}{ev:ε}(h:fD P w base outer H s E ev s')(m:∀cls dx H',E cls dx H'->E' cls dx H'):fD P w base outer H s E' ev s':=by
 obtain⟨e,T,C,dx,H',a1,a2,a3,a4,a5,a6,a7,a8,a9,q⟩:=h;exact⟨e,T,C,dx,H',a1,a2,a3,a4,a5,a6,a7,a8,a9,m _ _ _ q⟩
theorem fD.oh{P:Ω}{w:aj}{K:η}{base:af}{outer:List cV}{H:Hp}{s s':θ}{G1:Gp}{ev:ε}(ok:dJ P w H s.heap)(hfs:∀b∈fx outer,H b=none)(R1:aM K G1 H)(h:fD P w base outer (hide H) s (jR K E) ev s'):
  fD P w base outer H s (uQ K E H G1) ev s':=by
 obtain⟨e,T,C,dx,H',rfl,os,bare,u,ok',tr,⟨hHe,hHT⟩,hen,⟨he0,hT0⟩,x,C',fs,ec,cn,q,dd⟩:=h;obtain⟨u2,ok2⟩:=BO ok hfs u ok';obtain⟨_,z2,z3,_⟩:=FQ (G':=gH) (d:=.av) (v:=.av) ok hfs u ok' R1 (by simp[Hv]) (Nn u) (fun _ _ e=>nomatch e);rw[FP] at z2 z3;have out:∀b,s.heap.get? b=none->H' b=none->joined H H' b=none:=fun b hb hn=>by
  cases hq:H b with
  |none=>rw[pE hq];exact hn
  |some o=>
   obtain⟨ob,e'⟩:=bV.there (ok b o hq);rw[hb] at e';cases e'
 refine⟨e,T,C,dx,joined H H',rfl,os,bare,u2,ok2,tr,⟨out _ he0 hHe,out _ hT0 hHT⟩,hen,⟨he0,hT0⟩,⟨x,C',fs,ec,cn,q,?_⟩,z3,z2⟩;rcases dd with⟨d1,d2⟩|⟨d,o,d1,d2⟩
 ·exact .inl ⟨d1,d2⟩
 ·exact .inr ⟨d,o,d1,rZ ok u d2⟩
theorem Nm{pins:List (ζ×aL)}{σ:L2.St}{H:Hp}{s:θ}{Q:VK}{G1:Gp}{Q3:V3}{ds:List D}{us:List ε}{vs:List V}{XE:ε->θ->Prop}(F:t7 X.prog X.w X.K X.mg X.base k f fd ps sp)(hr:dI k X.A)(hb:Binds X.K fd ps [])
  (hx:∀ev s',fD X.prog X.w X.base X.stack H s (uQ X.K E H G1) ev s'->XE ev s')
  (I:Inv X pins σ H s) (r:aU vs us) (hd:aD X.K H ds vs) (R1:aM X.K G1 H) (h:sp ds (fun d G'=>∀G2,Joins G1 G' G2->Q3 d G2) E) (kk:∀v H' d G',Hv X.K H' d v->Step H G1 H' G'->aM X.K G' H'->Q3 d G'->Q v H'):
  π (model X.prog X.w) X.A (call (.ref f) us) (EP X pins σ Q) XE s:=by
 have hq:CZ X.K sp vs (hide H) (fun v H'=>∃d G',Hv X.K H' d v/\Step (hide H) gH H' G'/\aM X.K G' H'/\∀G2,Joins G1 G' G2->Q3 d G2) (jR X.K E):=
  ⟨ds,_,E,hd.oh,fun a o e=>(BP e).2,h,fun v H' d G' a b c q=>⟨d,G',a,b,c,q⟩,fun _ _ _ z=>z⟩
 have hl:(us++[]).length=ps.length:=by rw[bO,←r.length];exact F.len _ _ _ _ hq
 have e0:sP X.prog X.w X.K X.mg X.base X.A X.stack s (hide H):=⟨I.ok.frames,I.ok.mod,fun b o e=>⟨(I.bs b o e).1,xi (I.bs b o e).2⟩,aK I.ok.rA I.sz,I.stack,fun b hb=>xi (I.gB b hb),Np I.bx,I.bare⟩;have hb':=hb s us I.gI hl;rw[bO] at hb';refine gO (eV (F.run X.A X.stack s (hide H) ⟨us,[]⟩ us vs _ (jR X.K E) hr e0 hb' r hq) fun r s' hq'=>?_);cases r with
 |error e=>exact hx e s' (fD.oh I.bx I.gB R1 hq')
 |ok fl=>
  cases fl with
  |ret u=>
   obtain⟨v,H',os,bare,un,bx,rv,d,G',a,b,c,q⟩:=hq';obtain⟨un2,ok2⟩:=BO I.bx I.gB un bx;obtain⟨z1,z2,z3,z4⟩:=FQ I.bx I.gB un bx R1 a b c;exact I.after ⟨v,joined H H',os,bare,un2,ok2,rv,kk v _ d _ z1 z2 z3 (q _ z4)⟩
  |next=>exact bR hq'
  |brk=>exact bR hq'
  |cont=>exact bR hq'
theorem Nl(F:t7 X.prog X.w X.K X.mg X.base k f fd ps sp)(hr:dI k X.A)(hx:mq (fD X.prog X.w X.base) X (jR X.K E))(hm:X.mg x=some (.ref f))(hk:bS X.K (.ref f)=true)(hb:Binds X.K fd ps [])(ha:ig X (e::es) t)(hg:Gl X x:=by rfl)
  (hdb:(x==("__debug__":ι))=false:=by decide) (he:notStar e=true:=by rfl) (hpl:es.all notStar=true:=by rfl):
  bL X (.Call (.Name x p) (e::es) [] pos) (xV sp E t):=by
 intro pins s σ H Q I ⟨τ,G,Q3,RS,RG,h,kk⟩;refine eN (um I hg hm ?_ hdb);refine gP (h₀:=X.base) I.ok.mod.sx hk (bB (ha pos pins s σ H (fun vs H1=>∃ds G1,aD X.K H1 ds vs/\Step H G H1 G1/\aM X.K G1 H1/\sp ds (fun d G'=>∀G2,Joins G1 G' G2->Q3 d G2) E) I
  ⟨τ,G,_,RS,RG,h,fun vs H1 ds G1 a b c q=>⟨ds,G1,a,b,c,q⟩⟩) fun us s1 ⟨vs,H1,I1,r,ds,G1,hd,S1,R1,q⟩=>⟨I1.gI,?_⟩) (dY he) (jG hpl)
 exact Nm F hr hb (fun ev s' h=>hx pins σ H1 s1 ev s' I1 (fD.mono h fun _ _ _ z=>z.1)) I1 r hd R1 q fun v H' d G' a b c q=>kk v H' d G' a (S1.trans b) c q
end
section
variable {P:Ω} {w:aj} {K:η} {mg:ι->Option ε} {base:af}
theorem fnX{x qual:ι}{st:aV}{f:ζ}{fd:ay}{N ps:List ι}{k:Nat}{sp:pT}(F:fy K x qual st f fd)(S:bK N ps (ai st))(hN:ps.length≤N.length)(len:∀ds Q E,sp ds Q E->ds.length=ps.length)(tb:E3->aA)
  (gK:∀(cdv:ε) (A:aB) (outer:List cV) (s:θ) (H:Hp) (E:XK) (E':E3),dI k (A.deeper (envOfC qual (ai st) s.heap.objs.size f cdv))->(∀cls dx H',jR K E' cls dx H'->E cls dx H') ->
   jd (ia (fD P w base) P w K mg base N qual (ai st) f cdv A outer s H E) (e8 st) (tb E'))
  (rp:∀ds Q E,sp ds Q E->tb E (aT Q) (bD N ds) gH):t7 P w K mg base (k+1) f fd ps sp:=by
 obtain⟨oc,od,kV,doc,pm,an,cdv,ct,osl,rfl,lk,iu⟩:=F.ex;refine IQ lk iu S (fun vs H Q E h=>?_) (fun A outer s H vs Q E hr h=>?_)
 ·obtain⟨ds,Q3,E',h1,_,h3,_⟩:=h;rw[←h1.length];exact len _ _ _ h3
 ·obtain⟨ds,Q3,E',h1,h2,h3,h4,h5⟩:=h;refine⟨_,gK cdv A outer s H E E' hr h5,bD N ds,gH,aT Q3,.start h1 ?_,(fun _ _ e=>nomatch e),rp _ _ _ h3,⟨?_,?_,?_,?_⟩⟩
  ·rw[←h1.length,len _ _ _ h3];exact hN
  ·exact fun τ σ G' H' a b c ⟨G0,s0,q⟩=>h4 _ H' .av G0 (by simp[Hv]) (b.trans (.sub s0)) (c.sub s0) q
  ·exact fun τ σ G' H' a b c q=>q.elim
  ·exact fun τ σ G' H' a b c q=>q.elim
  ·exact fun d v G' H' a b c ⟨G0,s0,q⟩=>h4 _ H' d G0 a (b.trans (.sub s0)) (c.sub s0) q
end
theorem KA{P:Ω}{w:aj}{K:η}{mg:ι->Option ε}{base:af}{N:List ι}{qual:ι}{scope:eY}{f:ζ}{cd:ε}{A:aB}{outer:List cV}{s:θ}{H:Hp}{E:XK}{E':E3}(h:∀cls dx H',jR K E' cls dx H'->E cls dx H'):
  mq (fD P w base) (ia (fD P w base) P w K mg base N qual scope f cd A outer s H E) (jR K E'):=fun pins σ H1 s1 ev s' I q=>Nr pins σ H1 s1 ev s' I (fD.mono q h)
end L3
namespace L2
open PySem PySem.Spec PyProof.Rows
structure fh(k:Nat)(A:aB):Prop where
 dp:A.depth+3*k+5<recursionLimit
 un:A.units+16*k+200<cLine
theorem fh.mono{j k:Nat}{A:aB}(r:fh k A)(h:j≤k):fh j A:=⟨by have:=r.dp;lia,by have:=r.un;lia⟩
theorem fh.deeper{k:Nat}{A:aB}(r:fh (k+1) A)(env:cV):fh k (A.deeper env):=
 ⟨by have:=r.dp;show A.depth+1+3*k+5<_;lia,by have:=r.un;show A.units+3+16*k+200<_;lia⟩
theorem fh.depth{k:Nat}{A:aB}(r:fh k A):A.depth<recursionLimit:=by have:=r.dp;lia
theorem fh.units{k:Nat}{A:aB}(r:fh k A):A.units+64<cLine:=by have:=r.un;lia
theorem fh.mark{k:Nat}{A:aB}{v:Option ε}(r:fh k A):fh k (A.mark v):=⟨r.dp,r.un⟩
theorem dI.h{k:Nat}{A:aB}(r:dI k A):fh k A:=⟨r.dp,r.un⟩
structure qT(P:Ω)(w:aj)(K:η)(mg:ι->Option ε)(base:af)(k:Nat)(f:ζ)(fd:ay)(ps:List ι)(sp:Sp):Prop where
 len:∀vs H Q E,sp vs H Q E->vs.length=ps.length
 run:∀(A:aB) (outer:List cV) (s:θ) (H:Hp) (args:Args) (us:List ε) (vs:List V) (Q:VK) (E:XK),fh k A->sP P w K mg base A outer s H->nM s fd args (ps.zip us)->aU vs us->sp vs H Q E ->
  ij (model P w) A (.call (.ref f) args) (CR qb outer P w H s Q E) s
section
variable {P:Ω} {w:aj} {K:η} {mg:ι->Option ε} {base:af} {j k:Nat} {f:ζ} {fd:ay} {ps:List ι} {sp:Sp}
theorem qT.mono(F:qT P w K mg base j f fd ps sp)(h:j≤k):qT P w K mg base k f fd ps sp:=⟨F.len,fun A outer s H args us vs Q E hr=>F.run A outer s H args us vs Q E (hr.mono h)⟩
end
def Bh(P:Ω)(w:aj)(K:η)(mg:ι->Option ε)(base:af)(N:List ι)(qual:ι)(scope:eY)(f:ζ)(cd:ε)(A:aB)(outer:List cV)(s:θ)(H:Hp)(E:XK):Cx:=
 { ia qb P w K mg base N qual scope f cd A outer s H E with calm:=false,xe:=fun _ _=>False }
section
variable {P:Ω} {w:aj} {K:η} {mg:ι->Option ε} {base:af} {N:List ι} {qual:ι} {scope:eY} {f:ζ} {cd:ε} {A:aB} {outer:List cV} {s s1:θ} {H H1:Hp} {E:XK} {pins:List (ζ×aL)} {σ:St}
theorem Inv.loud(I:Inv (ia qb P w K mg base N qual scope f cd { A with handled:=none } outer s H E) pins σ H1 s1)(hf:A.frames=some outer):Inv (Bh P w K mg base N qual scope f cd A outer s H E) pins σ H1 s1:=by
 obtain⟨ok,a1,a2,a3,a4,a5,a6,a7,a8,a9,a10⟩:=I;obtain⟨o1,o2,o3,o4,o5,o6,o7,o8,_,_,o11,o12,o13,o14,o15,o16,o17,o18⟩:=ok;exact⟨⟨o1,o2,o3,o4,o5,o6,o7,o8,(fun z=>nomatch z),rj hf,o11,o12,o13,o14,o15,o16,o17,o18⟩,a1,a2,a3,a4,a5,a6,a7,a8,a9,a10⟩
end
theorem Nk{P:Ω}{w:aj}{K:η}{mg:ι->Option ε}{base:af}{k:Nat}{x qual:ι}{st:aV}{f:ζ}{fd:ay}{N ps:List ι}{sp:Sp}(F:fy K x qual st f fd)(S:bK N ps (ai st))(len:∀vs H Q E,sp vs H Q E->vs.length=ps.length)
  (gK:∀(cdv:ε) (A:aB) (outer:List cV) (s:θ) (H:Hp) (vs:List V) (Q:VK) (E:XK),fh k (A.deeper (envOfC qual (ai st) s.heap.objs.size f cdv))->sp vs H Q E ->
   ∃t,mZ (Bh P w K mg base N qual (ai st) f cdv A outer s H E) (e8 st) t/\t { nx:=fun _ H'=>Q .av H',rt:=Q } (start N vs) H):
  qT P w K mg base (k+1) f fd ps sp:=by
 obtain⟨oc,od,kV,doc,pm,an,cdv,ct,osl,rfl,lk,iu⟩:=F.ex;refine⟨len,fun A outer s H args us vs Q E hr e0 hb r sD=>?_⟩;have hl:=len _ _ _ _ sD;have KX:K.In s.heap:=e0.mod.sx.keeps fun b o e=>(e0.bs b o e).1;have lim:s.heap.NoLimit:=e0.mod.nolimit.keeps fun b o e=>(e0.bs b o e).1;have hkind:∀y∈ps.zip us,(ai st).names.lookup y.1=some .local∨((ai st).names.lookup y.1=some .cell/\((cellsFrom (s.heap.objs.size+1) (ai st).names []).lookup y.1).isSome=true):=fun⟨n,v⟩ hy=>by
  rcases S.par n (fR hy).1 with q|q
  ·exact .inl q
  ·exact .inr ⟨q,j8 _ _ _ (.inl q)⟩
 refine kC hr.depth (KX _ _ lk) rfl S.co S.gen rfl (mw KX iu) (hb _ _ _ _ ?_);refine iM S.kind hkind fun env he s1 x=>?_;subst he;refine⟨lim.keeps x.toInCall.keep,codeAny_func ?_⟩;obtain⟨t,ht,hq⟩:=gK cdv A outer s H vs Q E (hr.deeper _) sD;have e1:sP P w K mg base { A with handled:=none } outer s H:=⟨e0.frames,e0.mod,e0.bs,e0.rA,e0.kO,e0.wa,e0.bx,e0.bare⟩;have I0:Inv (ia qb P w K mg base N qual (ai st) f cdv { A with handled:=none } outer s H E) [] (start N vs) H s1:=IS S rfl e1 hl r x;have I:=I0.loud (A:=A) e0.frames;refine cH (ht [] s1 (start N vs) H _ I hq) (fun fl s' hs=>?_) fun e s' hs=>hs.elim;have fin:∀{σ':St} {H':Hp} {v:V} {u:ε},Inv (Bh P w K mg base N qual (ai st) f cdv A outer s H E) [] σ' H' s'->RelV v u->Q v H'->CE outer P w H s Q u s':=
  fun {σ' H' v u} J rv q=>⟨v,H',J.os,J.bare,J.base,J.bx,rv,q⟩
 cases fl with
 |ret u=>
  obtain⟨v,σ',H',J,rv,q⟩:=hs;exact fin J rv q
 |next=>
  obtain⟨σ',H',J,q⟩:=hs;exact fin (v:=V.av) (u:=bf) J rfl q
 |brk=>
  obtain⟨_,_,_,q⟩:=hs;exact bR q
 |cont=>
  obtain⟨_,_,_,q⟩:=hs;exact bR q
section
variable {X:Cx} {k:Nat} {f:ζ} {fd:ay} {ps:List ι} {sp:Sp} {E:XK} {x:ι} {p pos:aJ} {e:ρ} {es:List ρ} {t:TA}
theorem Nj{pins:List (ζ×aL)}{σ:St}{H:Hp}{s:θ}{Q:VK}{us:List ε}{vs:List V}(F:qT X.prog X.w X.K X.mg X.base k f fd ps sp)(hr:fh k X.A)(hb:Binds X.K fd ps [])
  (I:Inv X pins σ H s) (r:aU vs us) (h:sp vs H Q E):π (model X.prog X.w) X.A (call (.ref f) us) (EP X pins σ Q) X.xe s:=by
 have hl:(us++[]).length=ps.length:=by rw[bO,←r.length];exact F.len _ _ _ _ h
 have hb':=hb s us I.gI hl;rw[bO] at hb';refine gO (eV (F.run X.A X.stack s H ⟨us,[]⟩ us vs Q E hr I.JS hb' r h) fun r s' hq=>?_);cases r with
 |error e=>exact bR hq
 |ok fl=>
  cases fl with
  |ret u=>exact I.after hq
  |next=>exact bR hq
  |brk=>exact bR hq
  |cont=>exact bR hq
theorem Nh(F:qT X.prog X.w X.K X.mg X.base k f fd ps sp)(hr:fh k X.A)(hg:Gl X x)(hm:X.mg x=some (.ref f))(hk:bS X.K (.ref f)=true)(hb:Binds X.K fd ps [])
  (ha:PA X (e::es) t) (hdb:(x==("__debug__":ι))=false:=by decide) (he:br (e::es) X.env=(false,eval e X.env)::br es X.env:=by rfl) (hpl:(backTo pos (br es X.env)).any (·.1)=false:=by rfl):
  PE X (.Call (.Name x p) (e::es) [] pos) (yF sp [] E t):=by
 intro pins s σ H Q I h;refine eN (um I hg hm ?_ hdb);refine gP (h₀:=X.base) I.ok.mod.sx hk (bB (ha pos pins s σ H _ I h) fun us s1 ⟨vs,H1,I1,r,q⟩=>⟨I1.gI,?_⟩) he hpl;have q':sp (vs++[]) H1 Q E:=q;rw[bO] at q';exact Nj F hr hb I1 r q'
end
end L2
namespace L3
open PySem PySem.Spec PyProof.Rows L2
abbrev v8(P:Ω)(w:aj)(K:η)(mg:ι->Option ε)(base:af)(k:Nat)(f:ζ)(fd:ay)(ps:List ι)(sp:fC):Prop:=qT P w K mg base k f fd ps (lX K sp)
theorem Ng{X:Cx}{k:Nat}{f:ζ}{fd:ay}{ps:List ι}{sp:fC}{x:ι}{p pos:aJ}{e:ρ}{es:List ρ}{t:cw}(F:v8 X.prog X.w X.K X.mg X.base k f fd ps sp)(hr:fh k X.A)(hm:X.mg x=some (.ref f))(hk:bS X.K (.ref f)=true)(hb:Binds X.K fd ps [])(ha:ig X (e::es) t)(hg:Gl X x:=by rfl)
  (hdb:(x==("__debug__":ι))=false:=by decide) (he:notStar e=true:=by rfl) (hpl:es.all notStar=true:=by rfl):
  bL X (.Call (.Name x p) (e::es) [] pos) (bG sp t):=hX (Nh (E:=E0) F hr hg hm hk hb ha hdb (dY he) (jG hpl)) fun σ H Q h=>Im h
theorem W0{P:Ω}{w:aj}{K:η}{mg:ι->Option ε}{base:af}{x qual:ι}{st:aV}{f:ζ}{fd:ay}{N ps:List ι}{k:Nat}{sp:fC}(F:fy K x qual st f fd)(S:bK N ps (ai st))(hN:ps.length≤N.length)(len:∀ds G Q,sp ds G Q->ds.length=ps.length)(tb:aA)
  (gK:∀(cdv:ε) (A:aB) (outer:List cV) (s:θ) (H:Hp) (E:XK),fh k (A.deeper (envOfC qual (ai st) s.heap.objs.size f cdv)) ->
   jd (Bh P w K mg base N qual (ai st) f cdv A outer s H E) (e8 st) tb)
  (rp:∀ds G Q,sp ds G Q->tb (aT Q) (bD N ds) G):v8 P w K mg base (k+1) f fd ps sp:=by
 refine Nk F S (fun vs H Q E h=>?_) (fun cdv A outer s H vs Q E hr h=>?_)
 ·obtain⟨ds,G,Q3,h1,h2,h3,h4⟩:=h;rw[←h1.length];exact len _ _ _ h3
 ·obtain⟨ds,G,Q3,h1,h2,h3,h4⟩:=h;refine⟨_,gK cdv A outer s H E hr,bD N ds,G,aT Q3,.start h1 ?_,h2,rp _ _ _ h3,⟨?_,?_,?_,?_⟩⟩
  ·rw[←h1.length,len _ _ _ h3];exact hN
  ·exact fun τ σ G' H' a b c ⟨G0,s0,q⟩=>h4 _ H' .av G0 (by simp[Hv]) (b.trans (.sub s0)) (c.sub s0) q
  ·exact fun τ σ G' H' a b c q=>q.elim
  ·exact fun τ σ G' H' a b c q=>q.elim
  ·exact fun d v G' H' a b c ⟨G0,s0,q⟩=>h4 _ H' d G0 a (b.trans (.sub s0)) (c.sub s0) q
end L3
namespace L3
open PySem PySem.Spec PyProof.Rows L2
abbrev yz:=S3->Gp->E3
abbrev yA:=yz->aw
abbrev sM:=yz->aA
def vb(X:Cx)(pins:List (ζ×aL))(H:Hp)(G:Gp)(KX:yz)(XE:ε->θ->Prop):Prop:=
 ∀(σ1:L2.St) (τ1:S3) (H1:Hp) (s1:θ) (G1:Gp) (ev:ε) (s':θ),Inv X pins σ1 H1 s1->eJ X.K τ1 σ1 H1->aM X.K G1 H1->Step H G H1 G1->fD X.prog X.w X.base X.stack H1 s1 (uQ X.K (KX τ1 G1) H1 G1) ev s'->XE ev s'
theorem vb.step{X:Cx}{pins:List (ζ×aL)}{H H1:Hp}{G G1:Gp}{KX:yz}{XE:ε->θ->Prop}(x:vb X pins H G KX XE)(S:Step H G H1 G1):vb X pins H1 G1 KX XE:=
 fun σ1 τ1 H2 s2 G2 ev s' a b c d e=>x σ1 τ1 H2 s2 G2 ev s' a b c (S.trans d) e
def J5(X:Cx)(e:ρ)(t:yA):Prop:=
 ∀(pins:List (ζ×aL)) (s:θ) (σ:L2.St) (H:Hp) (Q:VK) (XE:ε->θ->Prop) (τ:S3) (G:Gp) (Q3:V3) (KX:yz),Inv X pins σ H s->eJ X.K τ σ H->aM X.K G H->t KX τ G Q3 ->
  (∀v H' d G',Hv X.K H' d v->Step H G H' G'->aM X.K G' H'->Q3 d G'->Q v H')->vb X pins H G KX XE->π (model X.prog X.w) X.A (eval e X.env) (EP X pins σ Q) XE s
def yB(X:Cx)(st:List aV)(t:sM):Prop:=
 ∀(pins:List (ζ×aL)) (s:θ) (σ:L2.St) (H:Hp) (D2:Ends) (XE:ε->θ->Prop) (τ:S3) (G:Gp) (D3:jA) (KX:yz),Inv X pins σ H s->eJ X.K τ σ H->aM X.K G H->t KX D3 τ G->nJ X.K H G D3 D2->vb X pins H G KX XE ->
  π (model X.prog X.w) X.A (execs st X.env) (SP X pins D2) XE s
section
variable {X:Cx} {k:Nat} {f:ζ} {fd:ay} {ps:List ι} {sp:pT} {x:ι} {p pos:aJ} {a b e c:ρ} {es:List ρ} {t:cw} {te:aw} {tx:yA} {tax:TAX} {tc:cQ} {ta tb tr:sM} {sa sb rest:List aV}
def wM(tx:yA)(tr:sM):sM:=fun KX D τ G=>tx KX τ G fun _ G1=>tr KX D τ G1
theorem Nf(h:J5 X e tx)(hr:yB X rest tr)(hs:swapsWith e none pos.line X.env=pure false:=by rfl):yB X (.Expr e pos::rest) (wM tx tr):=by
 intro pins s σ H D2 XE τ G D3 KX I RS RG ht EL xx;refine iD (wpAny_Expr_any (bB (h pins s σ H (fun v H1=>∃d G1,Hv X.K H1 d v/\Step H G H1 G1/\aM X.K G1 H1/\tr KX D3 τ G1) XE τ G _ KX I RS RG ht (fun v H' d G' a b c q=>⟨d,G',a,b,c,q⟩) xx) fun v s1 ⟨x,H1,I1,r1,d,G1,hd,S1,R1,q1⟩=>?_) I.quiet hs);exact hr pins s1 σ H1 D2 XE τ G1 D3 KX I1 (RS.ext (S1.ext RG)) R1 q1 (EL.step S1) (xx.step S1)
def wL:sM:=fun _ D τ G=>D.nx τ G
theorem Nd:yB X [] wL:=fun _ _ σ H D2 XE τ G D3 KX I RS RG h EL _=>gN ⟨σ,H,I,EL.nx τ σ G H RS (.refl H G) RG h⟩
end
end L3
namespace L2
open PySem PySem.Spec PyProof.Rows
open Builtin Builtin.ObjectAttr
open Sem (wp)
abbrev hU:List ε:=[.type "ValueError",.type "Exception",.type "BaseException",.type "object"]
def wN(es:Array DictEntry):Bool:=es.toList.all fun e=>match e.key with
 |.str _ _=>true
 |_=>false
theorem Nc{es:Array DictEntry}(h:wN es=true):StrKeys es:=fun e he=>by
 have:=bT.mp h e (by simpa using he);cases q:e.key with
 |str n t=>exact⟨n,t,rfl⟩
 |_=>rw[q] at this;cases this
def JA(K:η)(N:ζ)(init:Option ε):Bool:=match K.lookup N with
 |some ⟨_,_,.dict es _,_⟩=>wN es&&nsFind es "__init__" == init
 |_=>false
theorem Nb{K:η}{h:af}{N:ζ}{init:Option ε}(X:K.In h)(e:JA K N init=true):∃m,h.Ns N m/\m "__init__" = init:=by
 unfold JA at e;split at e
 ·rename_i c d es ep sl ho;rw[bA] at e;exact⟨nsFind es,⟨_,es,ep,X _ _ ho,rfl,Nc e.1,fun _=>rfl⟩,beq_iff_eq.mp e.2⟩
 ·cases e
def excIn(K:η)(C:ζ)(bm:List ε)(init:Option ε)(newId:String):Bool:=match K.lookup C with
 | some ⟨.type "type",_,.cls cd,sl⟩=>(match cd.mro,sl.toList with
  |.ref C'::bm',[_,_,_,_,some (.builtin n),_]=>C'==C&&bm'==bm && !cd.hasDel&&cd.hasDict&&n==newId&&JA K cd.ns init
  | _,_=>false)
 |_=>false
theorem yT{K:η}{h:af}{C:ζ}{bm:List ε}{init:Option ε}{newId:String}(X:K.In h)(q:excIn K C bm init newId=true):∃nm qn N bs sn sub ab col dd k0 k1 k2 k3 k5 mN,
  h.get? C=some (excClassObj nm qn C N bs bm true sn sub ab col dd k0 k1 k2 k3 k5 newId)/\h.Ns N mN/\mN "__init__" = init:=by
 unfold excIn at q;split at q
 ·rename_i dd cd sl ho;split at q
  ·rename_i C' bm' k0 k1 k2 k3 n k5 hm hs;simp only[bA,beq_iff_eq,nh] at q;obtain⟨⟨⟨⟨⟨rfl,rfl⟩,hdel⟩,hdct⟩,rfl⟩,hns⟩:=q;obtain⟨nm,bs,mro,ns,qn,hd,sn,sub,ab,col,del⟩:=cd;dsimp only at hm hdel hdct hns;subst hm hdel hdct;have hsl:sl = #[k0,k1,k2,k3,some (.builtin n),k5]:=by
    obtain⟨l⟩:=sl;simp only at hs;rw[hs]
   subst hsl;obtain⟨m,h1,h2⟩:=Nb X hns;exact⟨nm,qn,ns,bs,sn,sub,ab,col,dd,k0,k1,k2,k3,k5,m,X _ _ ho,h1,h2⟩
  ·cases q
 ·cases q
structure vd(K:η)(C B:ζ)(init:Option ε):Prop where
 cls:excIn K C (.ref B::hU) init "ValueError.__new__" = true
 base:excIn K B hU none "ValueError.__new__" = true
theorem vd.own{K:η}{C B:ζ}{init:Option ε}(x:vd K C B init){h:af}(X:K.In h):∃nm qn N bs sn sub ab col dd k0 k1 k2 k3 k5 mN,
  h.get? C=some (excClassObj nm qn C N bs (.ref B::hU) true sn sub ab col dd k0 k1 k2 k3 k5 "ValueError.__new__")/\h.Ns N mN/\mN "__init__" = init/\OwnTail h hU (.ref B::hU):=by
 obtain⟨nm,qn,N,bs,sn,sub,ab,col,dd,k0,k1,k2,k3,k5,mN,h1,h2,h3⟩:=yT X x.cls;obtain⟨nm',qn',N',bs',sn',sub',ab',col',dd',k0',k1',k2',k3',k5',mN',h1',h2',h3'⟩:=yT X x.base;exact⟨nm,qn,N,bs,sn,sub,ab,col,dd,k0,k1,k2,k3,k5,mN,h1,h2,h3,.own h1' h2' h3' .base⟩
structure vc(K:η)(C B:ζ)(names:List ι):Prop where
 sa:dP K (.ref C) "__setattr__" = some (some (.builtin "object.__setattr__"))
 obj:mT K C (.type "object")=some true
 mro:∃cd,iP K C=some cd/\cd.mro=.ref C::.ref B::hU/\cd.hasDict=true
 nm:∀n∈names,dP K (.ref C) n=some none
section
variable {prog:Ω} {w:aj} {A:aB} {E:ε->θ->Prop} {s:θ} {K:η} {C B x:ζ} {names:List ι} {name:ι} {v:ε} {mA:ι->Option ε}
theorem Na{h:af}(I:h.Inst x C mA):∃ox od,lV h x ox C od:=by
 obtain⟨o,hx,hc,hnc,hd⟩:=I;have hn:jC o=true:=by
  unfold jC;split
  ·rename_i c q;exact absurd q (hnc c)
  ·rfl
 rcases hd with⟨hd,_⟩|⟨d,hd,_,od,es,ep,hod,_⟩
 ·exact⟨o,none,hx,hc,hn,by rw[hd];trivial⟩
 ·exact⟨o,some od,hx,hc,hn,by rw[hd];exact hod⟩
theorem M9{ns:List ι}{Q:Unit->θ->Prop}(S:vc K C B names)(hn:name∈names)(X:K.In s.heap)(I:s.heap.Inst x C mA)(hw:Within mA ns)(gy:ns.length≤1000)
  (hq:∀h' tk',h'.Inst x C (fun y=>if y=name then some v else mA y) ->
   (∀b o,b≠x->(∀o₀ dx,s.heap.get? x=some o₀->o₀.dict=some dx->b≠dx)->s.heap.get? b=some o->h'.get? b=some o) ->
   (∀o₀,s.heap.get? x=some o₀->∃o₁,h'.get? x=some o₁/\o₁.cls=o₀.cls/\o₁.data=o₀.data/\o₁.slots=o₀.slots/\(∀dx,o₀.dict=some dx->o₁.dict=some dx)/\(o₀.dict=none->o₁.dict=some s.heap.objs.size))->Q () { s with heap:=h',toks:=tk' }):
  π (model prog w) A (setAttr (.ref x) name v) Q E s:=by
 obtain⟨ox,od,IA⟩:=Na I;obtain⟨cd,iu,hmro,hdct⟩:=S.mro;refine PySem.W.set_plain X IA S.sa ?_;have X':K.In ({ s with toks:=s.toks+1 }:θ).heap:=X;have IA':lV ({ s with toks:=s.toks+1 }:θ).heap x ox C od:=IA;have SF:=PySem.F.store_object;have sub:PySem.W.Looks (model prog w) ({ s with toks:=s.toks+1 }:θ).heap (isInstance (.ref x) (.type "object")) true:=IA'.type.andThen (PySem.W.looks_mroIn X' S.obj);have hm:PySem.W.Looks (model prog w) ({ s with toks:=s.toks+1 }:θ).heap (mroOf (.ref C)) cd.mro:=(rL X' iu).andThen .now;refine la SF.slot.plain SF.entry (@PySem.W.check_slot (model prog w) _ _ { s with toks:=s.toks+1 } "object.__setattr__" "object" "__setattr__" (.ref x) [.str name s.toks,v] [] _ SF.kind SF.split sub (SF.args (.ref x) (.str name s.toks) v) ?_);rw[PySem.W.osa_eq,refuse_eq];refine δ (δ (IA'.type.here (δ (hm.here ?_))));rw[hmro,refuseLoop_ref,refuseLoop_ref,PySem.F.store_ValueError.passes];refine ν (δ (IA'.type.here (δ ((PySem.W.looks_findIn X' (S.nm name hn)).here (δ (ν ?_))))));obtain⟨o,hx,hc,hnc,hd⟩:=I;obtain⟨hp,g,dr,tk0,os⟩:=s;dsimp only at hx X IA hq hd X' IA';have LC:=rL (M:=model prog w) X' iu;obtain⟨oc,odi,oda,osl⟩:=o;dsimp only at hc hnc hd;subst hc;show π _ _ (storeInOwnDict (.ref x) (.ref C) (.str name tk0) name v false) _ _ _;refine δ (ν (δ (δ (wpAny_loadPart hx (δ (LC.here ?_))))));rw[hdct];rcases hd with⟨hdn,hmA⟩|⟨dx,hdx,cu,hns⟩
 ·subst hdn;have hx₁:(hp.push { cls:=.type "dict",data:=.dict #[]}).get? x=some ⟨.ref C,none,oda,osl⟩:=μ _ hx;have hxs:x≠hp.objs.size:=bt (Φ hx);have hgd:((hp.push { cls:=.type "dict",data:=.dict #[]}).update x fun o=>{ o with dict:=some hp.objs.size }).get? hp.objs.size
     = some { cls:=.type "dict",data:=.dict #[]}:=
    (rP _ _ _ _ hxs.symm).trans (af.get?_push_at rfl rfl)
  have hnd:((hp.push { cls:=.type "dict",data:=.dict #[]}).update x fun o=>{ o with dict:=some hp.objs.size }).Ns hp.objs.size (fun _=>none):=
    ⟨_,#[],_,hgd,rfl,fun e he=>absurd he (by simp),fun _=>rfl⟩
  have core:π (model prog w) A.in1 (storeInDict hp.objs.size (.str name tk0) name v) (fun fin s'=>match fin with | .done f=>(match f with | .ret _=>Q () s' | _=>False) | .again c'=>False) (fun e s'=>E e s') ⟨(hp.push { cls:=.type "dict",data:=.dict #[]}).update x fun o=>{ o with dict:=some hp.objs.size },g,dr,tk0+1,os⟩:=by
   unfold storeInDict newKeyGuard;refine δ (ν (δ (wpAny_nsSet1 (af.Ns1.of_empty hnd) fun h' hn' hs=>?_)));obtain⟨oD,esD,epD,hoD,hdD,hcD⟩:=hn'.count (t8 name v Within.nil);refine δ (wpAny_lookBehind hoD (by rw[hdD];exact pastItsLine_dict (aK hcD (by rw[ak,eA,cS];lia))) ?_);refine ν ?_;have hx':h'.get? x=some ⟨.ref C,some hp.objs.size,oda,osl⟩:=by
    refine (hs.2 x hxs).trans (bQ _ hx₁ ?_);have kN:=(af.get?_some_iff.mp hx).2;cases oda<;>first|rfl|exact kN
   refine hq h' _ ⟨_,hx',rfl,hnc,.inr ⟨hp.objs.size,rfl,hxs.symm,?_⟩⟩ (fun b ob hbx _ hb=>?_)
    (fun o₀ h₀=>by obtain rfl:=ao (hx.symm.trans h₀);exact⟨_,hx',rfl,rfl,rfl,fun dx e=>(nomatch e),fun _=>rfl⟩)
   ·obtain⟨o',es,ep,e1,e2,e3,eu,e4⟩:=hn';exact⟨o',es,ep,e1,e2,e3,eu,fun y=>by rw[e4 y];by_cases hy:y=name<;>simp[hy,hmA]⟩
   ·exact (hs.2 b (bt (Φ hb))).trans ((rP _ _ _ _ hbx).trans (μ _ hb))
  rw[if_neg (by decide)];dsimp only;rw[if_neg (by simp[typeHasDict])];split
  ·first
    | (rename_i q;exact absurd q (hnc _))
    | (rename_i q _;exact absurd q (hnc _))
    | (rename_i q _ _;exact absurd q (hnc _))
    | (exfalso;simp_all)
  ·refine δ (wpAny_alloc' ?_);refine δ (wpAny_update' hx₁ ?_);refine ν (a:=some hp.objs.size) ?_;show π _ _ (storeInDict hp.objs.size (.str name tk0) name v) _ _ _;refine cH core (fun fin s' z=>?_) fun _ _ z=>z;cases fin with
   |done f=>
    cases f with
    |ret r=>exact z
    |_=>exact z.elim
   |again c=>exact z.elim
 ·subst hdx;refine ν (a:=some dx) ?_;show π _ _ (storeInDict dx (.str name tk0) name v) _ _ _;unfold storeInDict newKeyGuard;refine δ (ν (δ (wpAny_nsSet1 hns fun h' hn' hs=>?_)));obtain⟨oD,esD,epD,hoD,hdD,hcD⟩:=hn'.count (t8 name v hw);refine δ (wpAny_lookBehind hoD (by rw[hdD];exact pastItsLine_dict (aK hcD (by rw[ak,cS];lia))) ?_);refine ν ?_;have hx':=(hs.2 x cu.symm).trans hx;refine hq h' _ ⟨_,hx',rfl,hnc,.inr ⟨dx,rfl,cu,hn'⟩⟩ (fun b ob _ hbd hb=>(hs.2 b (hbd _ dx hx rfl)).trans hb)
   (fun o₀ h₀=>by obtain rfl:=ao (hx.symm.trans h₀);exact⟨_,hx',rfl,rfl,rfl,fun _ e=>e,fun e=>(nomatch e)⟩)
end
end L2
namespace L2
open PySem PySem.Spec PyProof.Rows
open Sem (wp)
structure D0(l:List cV)(e T:ζ)(h h':af):Prop where
 keep:∀b o,b≠e->b≠T->b∉fx l->h.get? b=some o->h'.get? b=some o
 slot:∀b o,b∈fx l->h.get? b=some o->∃sl,h'.get? b=some { o with slots:=sl }
theorem qS.Ko{base:af}{l:List cV}{e T:ζ}{cls:ε}{dx:Option ζ}{h h':af}(L:qS base l e T cls dx h h'):D0 l e T h h':=⟨L.keep,L.slot⟩
section
variable {M:me} {A:aB} {E:ε->θ->Prop} {s:θ}
theorem M8{base:af}{env:cV}{outer:List cV}{L e T:ζ}{cls:ε}{dx:Option ζ}{Q:Unit->θ->Prop}
  (kN:A.frames=some (env::outer)) (hl:s.heap.FunFrames base (env::outer)) (hf:env.frame=some L) (ht:nH base s.heap e T cls dx) (hkb:base.StaysIn s.heap) (hen:base.get? e=none)
  (h:∀h',qS base (env::outer) e T cls dx s.heap h'->Q () { s with heap:=h' }):π M A (noteFrame (.ref e) env) (fun _ s'=>π M A (setFlight (.ref e) none) Q E s') E s:=by
 obtain⟨⟨oe,vs,he,hcls,hdx,hd,h1,h2⟩,hnT,hTe,oT,ts,hT,hdT,h3⟩:=ht;subst hcls hdx;unfold noteFrame;simp only[hf];refine δ (bp he hd h1 ?_);rw[if_pos (show (aQ T != bf)=true from by simp)];refine δ (bp hT hdT h3 ?_);rw[if_neg (show ¬((bf==rawInt L)=true) from by simp[rawInt])];refine δ (gi hT hdT (aG.mp h3).1 ?_);have other:∀b,b≠T->(s.heap.update T (fU (·.setIfInBounds 3 bf))).get? b=s.heap.get? b:=fun b hb=>bF _ _ (du hb);have noRecord:∀b o,s.heap.get? b=some o->(∀vs,o.data≠.fields vs)->b≠T:=fun b o hb hnf q=>by
  rw[q,hT] at hb;injection hb with hb;subst hb;exact hnf ts hdT
 have hTf:T∉fx (env::outer):=fun hm=>by
  obtain⟨_,o,ho,hnf⟩:=hl.mem hm;rw[hT] at ho;injection ho with ho;subst ho;exact hnf ts hdT
 refine su kN (hl.of_keeps fun b o hb hnf=>⟨o,(other b (noRecord b o hb hnf)).trans hb,rfl⟩) hf ((other e (du hTe)).trans he)
  (fun b o hbo=>(other b fun q=>by rw[q,hnT] at hbo;cases hbo).trans (hkb b o hbo)) hen hd (aG.mp h1).1 h2
  fun h' ⟨x1,x2,⟨T',x3,x3'⟩,x4,x5⟩=>h h' ⟨x1,x2,⟨T',x3,?_⟩,fun b o hbe hbT hbf hb=>x4 b o hbe hbe hbf ((other b hbT).trans hb),fun b o hbf hb=>x5 b o hbf ((other b fun q=>hTf (q▸hbf)).trans hb)⟩
 by_cases hq:T'=T
 ·subst hq;obtain⟨o2,e2⟩:∃o2,(s.heap.update T' (fU (·.setIfInBounds 3 bf))).get? T'=some o2:=⟨_,bQ _ hT (eQ (dm hdT _))⟩;rw[e2] at x3';cases x3'
 ·rw[←other T' hq];exact x3'
theorem En{base:af}{e T:ζ}{cls:ε}{dx:Option ζ}{Q:Unit->θ->Prop}(ht:nH base s.heap e T cls dx)
  (h:∀h',(∀b o,b≠T->s.heap.get? b=some o->h'.get? b=some o)->nH base h' e T cls dx->Q () { s with heap:=h' }):π M A (setFlight (.ref e) none) Q E s:=by
 obtain⟨⟨oe,vs,he,hcls,hdx,hd,h1,h2⟩,hnT,hTe,oT,ts,hT,hdT,h3⟩:=ht;unfold setFlight;refine δ (bp he hd h1 ?_);rw[if_pos (show (aQ T != bf)=true from by simp)];have hz:=(aG.mp h3).1;refine gi hT hdT hz (h _ (fun b o hb q=>(bF _ _ (du hb)).trans q) ⟨⟨oe,vs,(bF _ _ hTe).trans he,hcls,hdx,hd,h1,h2⟩,hnT,hTe,_,_,bQ _ hT (eQ (dm hdT _)),dm hdT _,?_⟩);simp[hz]
theorem yf{nm q:ι}{C N B:ζ}{bs bm:List ε}{hdct:Bool}{sn:List ι}{sub:List ε}{ab:Bool}{col:Option Bool}{dd:Option ζ}{k0 k1 k2 k3 k5:Option ε}{newId:String}
  {nm' q':ι} {N':ζ} {bs' bm':List ε} {hdct':Bool} {sn':List ι} {sub':List ε} {ab':Bool} {col':Option Bool} {dd':Option ζ} {k0' k1' k2' k3' k5':Option ε} {newId':String}
  {h:af} {g:Array GenState} {d:Drawn} {t:Nat} {os:OsState} {e:ζ} {oe:aL} {Q:Bool->θ->Prop}
  (hC:h.get? C=some (excClassObj nm q C N bs bm hdct sn sub ab col dd k0 k1 k2 k3 k5 newId)) (hB:h.get? B=some (excClassObj nm' q' B N' bs' bm' hdct' sn' sub' ab' col' dd' k0' k1' k2' k3' k5' newId'))
  (he:h.get? e=some oe) (hcls:oe.cls=.ref C) (gL:bm'.contains (.type "BaseException")=true) (hsub:(aQ C::bm).contains (.ref B)=true)
  (hq:Q true ⟨h,g,d,t,os⟩):π M A (excMatches (.ref e) (.ref B)) Q E ⟨h,g,d,t,os⟩:=by
 have hcB:(aQ B::bm').contains (.type "BaseException")=true:=by rw[mB,gL,tf]
 have f:=tc_notTuple;unfold excMatches
 repeat (first|(with_reducible refine fc he ?_;rw[hcls])|with_reducible refine fc hB ?_|(with_reducible refine iU hB ?_;rw[hcB])|(with_reducible refine iU hC ?_;rw[hsub])|wp_step)
 exact hq
end
section
variable {X:Cx} {pins:List (ζ×aL)} {σ:St} {H:Hp} {s:θ} {h':af} {e T:ζ}
structure Frame(X:Cx):Prop where
 ex:X.ex=[]
 st:X.stack=X.env::X.outer
 fr:X.env.frame=some X.env.locals
theorem Inv.yj(I:Inv X pins σ H s)(F:Frame X)(L:D0 X.stack e T s.heap h')(he:X.s₀.heap.get? e=none)(hT:X.s₀.heap.get? T=none)(hHe:H e=none)(hHT:H T=none)
  (hp:∀p∈X.pn++pins,p.1≠e/\p.1≠T) (eo:∃oe vs,s.heap.get? e=some oe/\oe.data=.fields vs) (To:∃oe vs,s.heap.get? T=some oe/\oe.data=.fields vs):Inv X pins σ H { s with heap:=h' }:=by
 have hloc:X.s₀.heap.get? X.env.locals=none:=e6 I.ok.above;have sub:∀b,b∈fx X.stack->b=X.env.locals∨b∈fx X.outer:=fun b hb=>aa.mp (I.rX b hb);have ne:∀{b c:ζ} {o:aL},X.s₀.heap.get? b=some o->X.s₀.heap.get? c=none->b≠c:=fun h1 h2 z=>by
  rw[z,h2] at h1;cases h1
 have lG:∀b:ζ,b∉X.ex:=fun b z=>by
  rw[F.ex] at z;cases z
 have inStk:X.env.locals∈fx X.stack:=by
  rw[F.st];unfold fx;rw[dy,F.fr];exact ψ
 have supF:∀b,b∈fx X.outer->b∈fx X.stack:=fun b hb=>by
  rw[F.st];unfold fx;rw[dy,F.fr];exact ω _ hb
 have noF:∀{b:ζ} {o:aL},s.heap.get? b=some o->(∀vs,o.data≠.fields vs)->b≠e/\b≠T:=fun {b o} hb hn=>⟨fun z=>by
  obtain⟨oe,vs,q1,q2⟩:=eo;rw[z,q1] at hb;cases hb;exact hn vs q2,fun z=>by
  obtain⟨oe,vs,q1,q2⟩:=To;rw[z,q1] at hb;cases hb;exact hn vs q2⟩
 have cellK:∀c v,s.heap.IsCell c v->h'.IsCell c v:=fun c v hc=>by
  obtain⟨o,ho,hd⟩:=hc;by_cases hb:c∈fx X.stack
  ·obtain⟨sl,k2⟩:=L.slot c o hb ho;exact⟨_,k2,hd⟩
  ·obtain⟨n1,n2⟩:=noF ho (fun vs q=>by rw[hd] at q;cases q);exact⟨o,L.keep c o n1 n2 hb ho,hd⟩
 refine⟨I.ok,I.os,I.bare,⟨fun b o h1 h2 h3 _=>?_,fun b o h1 h2 h3 _=>?_,I.base.free,fun b o h1 hx=>?_,I.base.hV,I.base.hZ,I.base.mG⟩,?_,fun x c hc=>?_,I.free,I.jx,fun p hp'=>?_,fun a o ha=>?_,I.len⟩
 ·have k1:=I.base.keep b o h1 h2 h3 (lG b);refine L.keep b o (ne h1 he) (ne h1 hT) (fun z=>?_) k1;rcases sub b z with z|z
  ·exact ne h1 hloc z
  ·exact h3 z
 ·obtain⟨sl,k1⟩:=I.base.slot b o h1 h2 h3 (lG b);obtain⟨sl',k2⟩:=L.slot b _ (supF b h3) k1;exact⟨sl',k2⟩
 ·obtain⟨o',k1⟩:=I.base.there b o h1 (lG b);by_cases hb:b∈fx X.stack
  ·obtain⟨sl,k2⟩:=L.slot b o' hb k1;exact⟨_,k2⟩
  ·exact⟨o',L.keep b o' (ne h1 he) (ne h1 hT) hb k1⟩
 ·obtain⟨m,⟨o,es,ep,ho,r⟩,hl⟩:=I.loc;obtain⟨sl,k2⟩:=L.slot _ o inStk ho;refine⟨m,⟨_,es,ep,k2,r⟩,fun i x v h1 h2 h3=>?_⟩;obtain⟨u,ru,lk⟩:=hl i x v h1 h2 h3;refine⟨u,ru,?_⟩;rcases lk with lk|⟨kd,c,hc,ic⟩
  ·exact .inl lk
  ·exact .inr ⟨kd,c,hc,cellK c _ ic⟩
 ·obtain⟨v,hv⟩:=I.cell x c hc;exact⟨v,cellK c v hv⟩
 ·obtain⟨q1,q2,q3,q4,q5⟩:=I.pin p hp';refine⟨L.keep p.1 p.2 (hp p hp').1 (hp p hp').2 (fun z=>?_) q1,q2,q3,q4,q5⟩;rcases sub _ z with z|z
  ·exact q3 z
  ·exact q4 z
 ·refine (I.bx a o ha).km (fun b u hb q=>?_) (fun _ q=>q) fun _ _ q=>q;have hHb:H b≠none:=by
   rcases hb with rfl|hb
   ·rw[ha];simp
   ·rw[hb];simp
  exact L.keep b u (fun z=>hHb (z▸hHe)) (fun z=>hHb (z▸hHT)) (fun z=>hHb (I.gB b z)) q
theorem Inv.forget{m':ι->Option ε}{t':Nat}(I:Inv X pins σ H s)(hs:eE X.env.locals s.heap h')(hn:h'.Ns X.env.locals m'):Inv X pins (aY X.N.length none) H { s with heap:=h',toks:=t' }:=by
 have hloc:X.s₀.heap.get? X.env.locals=none:=e6 I.ok.above;have k:∀b o,b≠X.env.locals->s.heap.get? b=some o->h'.get? b=some o:=fun b o hb q=>(hs.2 b hb).trans q;have ne:∀{b:ζ} {o:aL},X.s₀.heap.get? b=some o->b≠X.env.locals:=fun h1 z=>by
  rw[z,hloc] at h1;cases h1
 refine⟨I.ok,I.os,I.bare,⟨fun b o h1 h2 h3 h4=>k b o (ne h1) (I.base.keep b o h1 h2 h3 h4),fun b o h1 h2 h3 h4=>?_,I.base.free,fun b o h1 h2=>?_,I.base.hV,I.base.hZ,I.base.mG⟩,⟨m',hn,fun i x v h1 h2 h3=>?_⟩,fun x c hc=>?_,I.free,I.jx,fun p hp=>?_,fun a o ha=>?_,by simp⟩
 ·obtain⟨sl,q⟩:=I.base.slot b o h1 h2 h3 h4;exact⟨sl,k _ _ (ne h1) q⟩
 ·obtain⟨o',q⟩:=I.base.there b o h1 h2;exact⟨o',k _ _ (ne h1) q⟩
 ·rw[jI] at h2;split at h2<;>cases h2
 ·obtain⟨v,o,ho,hd⟩:=I.cell x c hc;exact⟨v,o,k _ _ (I.wb x c hc) ho,hd⟩
 ·obtain⟨q1,q2,q3,q4,q5⟩:=I.pin p hp;exact⟨k _ _ q3 q1,q2,q3,q4,q5⟩
 ·refine (I.bx a o ha).km (fun b u hb q=>k b u (fun z=>?_) q) (fun _ q=>q) fun _ _ q=>q;rcases hb with hb|hb
  ·rw[←hb,z,I.free] at ha;cases ha
  ·rw[z,I.free] at hb;cases hb
abbrev Cx.j5(X:Cx)(e:ζ):Cx:={ X with A:=X.A.mark (some (.ref e)),calm:=false,xe:=fun _ _=>False }
theorem Inv.j5(I:Inv X pins σ H s)(e:ζ):Inv (X.j5 e) pins σ H s:=by
 obtain⟨ok,a1,a2,a3,a4,a5,a6,a7,a8,a9,a10⟩:=I;obtain⟨o1,o2,o3,o4,o5,o6,o7,o8,_,o10,o11,o12,o13,o14,o15,o16,o17,o18⟩:=ok;exact⟨⟨o1,o2,o3,o4,o5,o6,o7,o8,(fun z=>nomatch z),o10,o11,o12,o13,o14,o15,o16,o17,o18⟩,a1,a2,a3,a4,a5,a6,a7,a8,a9,a10⟩
theorem Inv.uncaught{e:ζ}(I:Inv (X.j5 e) pins σ H s)(ok:X.Ok):Inv X pins σ H s:=by
 obtain⟨_,a1,a2,a3,a4,a5,a6,a7,a8,a9,a10⟩:=I;exact⟨ok,a1,a2,a3,a4,a5,a6,a7,a8,a9,a10⟩
theorem Bs{P:Ω}{w:aj}{h:af}{a:ζ}{o:HO}(ok:dJ P w H h)(hn:H a=none)(new:bV P w (upd H a o) h a o):dJ P w (upd H a o) h:=fun b u e=>by
 by_cases z:b=a
 ·subst z;rw[iJ] at e;cases e;exact new
 ·rw[dH z] at e;refine (ok b u e).km (fun _ _ _ q=>q) (fun c q=>?_) fun c xs q=>?_
  ·rw[dH (fun z=>by rw[z,hn] at q;cases q)];exact q
  ·rw[dH (fun z=>by rw[z,hn] at q;cases q)];exact q
theorem Inv.DB{a:ζ}{o:HO}(I:Inv X pins σ H s)(hn:H a=none)(h0:X.s₀.heap.get? a=none)(new:bV X.prog X.w (upd H a o) s.heap a o)(hl:a≠X.env.locals)(hc:∀x c,X.env.cells.lookup x=some c->c≠a)(hp:∀p∈X.pn++pins,p.1≠a):Inv X pins σ (upd H a o) s:=by
 refine⟨I.ok,I.os,I.bare,⟨I.base.keep,I.base.slot,fun b ob h1 h2 h3=>?_,I.base.there,fun b xs e=>?_,fun b x u e=>?_,fun b ps e=>?_⟩,I.loc,I.cell,by rw[dH hl.symm];exact I.free,fun x c e=>by rw[dH (hc x c e)];exact I.jx x c e,fun p hp'=>?_,Bs I.bx hn new,I.len⟩
 ·rw[dH (fun z=>by rw[z,h0] at h1;cases h1)];exact I.base.free b ob h1 h2 h3
 ·have:=I.base.hV b xs e;rw[dH (fun z=>by rw[z,hn] at this;cases this)];exact this
 ·have:=I.base.hZ b x u e;rw[dH (fun z=>by rw[z,hn] at this;cases this)];exact this
 ·obtain⟨more,q⟩:=I.base.mG b ps e;refine⟨more,?_⟩;rw[dH (fun z=>by rw[z,hn] at q;cases q)];exact q
 ·obtain⟨q1,q2,q3,q4,q5⟩:=I.pin p hp';exact⟨q1,by rw[dH (hp p hp')];exact q2,q3,q4,q5⟩
end
end L2
namespace L3
open PySem PySem.Spec PyProof.Rows L2
def uD(a C:ζ)(dx:Option ζ):af->Prop:=fun h=>∃oe vs,h.get? a=some oe/\oe.cls=.ref C/\oe.dict=dx/\oe.data=.fields vs/\vs[2]?=some .none
def jT(x:ι)(fs:List (ι×Int)):η->ζ->Hp->Prop:=fun K a H=>∃C dx,dG K x C/\H a=some (.ext (uD a C dx))/\sQ H dx fs
theorem sQ.keep{H H':Hp}{dx:Option ζ}{fs:List (ι×Int)}(h:sQ H dx fs)(k:∀b o u,H b=some (.cP o u)->H' b=some (.cP o u)):sQ H' dx fs:=by
 rcases h with h|⟨d,o,h1,h2⟩
 ·exact .inl h
 ·exact .inr ⟨d,o,h1,k _ _ _ h2⟩
theorem M7{K:η}{H:Hp}{a:ζ}{x:ι}{fs:List (ι×Int)}(h:jT x fs K a H):u9 K H a (.gen (jT x fs)):=
 ⟨h,by obtain⟨C,dx,_,e,_⟩:=h;exact⟨_,e,fun _=>nofun,fun _ _=>nofun⟩,fun H1 H2 t f e ⟨C,dx,h1,h2,h3⟩=>⟨C,dx,h1,e.trans h2,h3.keep f⟩⟩
def wG(K:η)(names:List ι)(B:ζ):Prop:=∀x∈names,∀C,dG K x C->∃init,vd K C B init
def Kw(names:List ι)(i:Nat)(tx:sM)(th:ζ->aA)(tr:aA):aA:=fun D τ G=>
 tx (fun τ1 G1 x fs=>x∈names/\∀p G2,dC G1 p (.gen (jT x fs)) G2->th p { nx:=fun _ _=>False,rt:=D.rt } (kn τ1 i (.obj p)) G2) { D with nx:=tr D } τ G
theorem M6{X:Cx}{i:Nat}{cx en:ι}{names:List ι}{body suite rest:List aV}{b₀:aV}{np hpos pos:aJ}{tx:sM}{th:ζ->aA}{tr:aA}{B:ζ}(F:Frame X)(T7:wG X.K names B)(hm:X.mg cx=some (.ref B))(hN:X.N.Nodup)(hb:yB X body tx)(hh:∀e,jd (X.j5 e) (b₀::suite) (th e))(hr:jd X rest tr)
  (hi:X.N[i]?=some en:=by rfl) (hl:X.env.scope.names.lookup en=some .local:=by rfl) (hg:Gl X cx:=by rfl) (hdb:(cx==("__debug__":ι))=false:=by decide):
  jd X (.Try body [.ExceptHandler (some (.Name cx np)) (some en) (b₀::suite) hpos] [] [] pos::rest) (Kw names i tx th tr):=by
 intro pins s σ H D2 I ⟨τ,G,D3,RS,RG,ht,EL⟩;refine iD (wpAny_Try_except ?_);have EL':nJ X.K H G { D3 with nx:=tr D3 } { D2 with nx:=fun σ' H'=>C0 X.K tr D2 σ' H' }:=⟨fun τ' σ' G' H' a b c q=>⟨τ',G',D3,a,c,q,EL.step b⟩,EL.bk,EL.ct,EL.rt⟩;refine cH (hb pins s σ H _ _ τ G _ _ I RS RG ht EL' ?exc) (fun fl s1 q=>?fin) (fun e s1 q=>q)
 case fin=>
  cases fl with
  |next=>
   obtain⟨σ',H',I',q⟩:=q;exact gN (hr pins s1 σ' H' D2 I' q)
  |ret u=>exact q
  |brk=>exact q
  |cont=>exact q
 case exc=>
  intro σ1 τ1 H1 s1 G1 ev s' I1 RS1 R1 S1 cxx;obtain⟨e,T,C,dx,H',rfl,os,bare,u,ok,tr',⟨hHe,hHT⟩,hen,⟨he0,hT0⟩,⟨x,C',fs,ec,cn,⟨hxn,kq⟩,dd⟩,R2,S2⟩:=cxx;cases ec;have I':Inv X pins σ1 H' s':=I1.Ay (ch:=[]) os u ok bare (fun b z=>absurd z (by simp));have s0:∀{b:ζ},s1.heap.get? b=none->X.s₀.heap.get? b=none:=fun {b} hb=>by
   cases hq:X.s₀.heap.get? b with
   |none=>rfl
   |some o=>
    obtain⟨o',e'⟩:=I1.base.there b o hq (by rw[F.ex];simp);rw[hb] at e';cases e'
  have pne:∀p∈X.pn++pins,p.1≠e/\p.1≠T:=fun p hp=>by
   have q:=(I1.pin p hp).1;refine⟨fun z=>?_,fun z=>?_⟩
   ·rw[z,he0] at q;cases q
   ·rw[z,hT0] at q;cases q
  have eo:=tr'.obj;have To:=tr'.ent;refine M8 (base:=X.base) (by rw[I'.ok.frames,F.st]) (by rw[←F.st];exact I'.stack) F.fr tr' I'.bk hen fun h2 L=>?_;rw[←F.st] at L;have I2:=I'.yj F L.Ko (s0 he0) (s0 hT0) hHe hHT pne (by obtain⟨oe,vs,q1,_,_,q2,_⟩:=eo;exact⟨oe,vs,q1,q2⟩) (by obtain⟨oe,vs,q1,q2,_⟩:=To;exact⟨oe,vs,q1,q2⟩);obtain⟨T2,tr2,hT2⟩:=L.wK;obtain⟨oe,vs,q1,q2,q3,q4,q5,q6⟩:=tr2.obj;obtain⟨oT,ts,r1,r2,r3⟩:=tr2.ent;have Ic:=I2.j5 e;obtain⟨init,ec⟩:=T7 x hxn C cn;refine wpAny_handleBy_cons (codeAny_handlers_test (um (X:=X.j5 e) Ic hg hm ?_ hdb)) (by intro q;cases q);obtain⟨nm,qn,N,bs,sn,sub,ab,col,dd',k0,k1,k2,k3,k5,mN,hC,_⟩:=yT Ic.gI ec.cls;obtain⟨nm',qn',N',bs',sn',sub',ab',col',dd'',k0',k1',k2',k3',k5',mN',hB,_⟩:=yT Ic.gI ec.base;refine yf hC hB q1 q2 (by decide +kernel) (by simp) ?_;refine codeAny_handlers_suite_as ?_;refine En tr2 fun h3 kp tr3=>?_;have sT2:X.s₀.heap.get? T2=none:=by
   cases hq:X.s₀.heap.get? T2 with
   |none=>rfl
   |some o=>
    obtain⟨o',e'⟩:=I'.base.there T2 o hq (by rw[F.ex];simp);rw[hT2] at e';cases e'
  have hHT2:H' T2=none:=by
   cases hq:H' T2 with
   |none=>rfl
   |some o=>
    obtain⟨ob,e'⟩:=bV.there (I'.bx T2 o hq);rw[hT2] at e';cases e'
  have I3:=I2.yj (h':=h3) F (e:=e) (T:=T2) ⟨fun b o _ hT _ q=>kp b o hT q,fun b o hb q=>⟨o.slots,kp b o (fun z=>by
   obtain⟨_,o',ho',hd⟩:=I2.stack.mem hb;rw[z,r1] at ho';cases ho';exact hd _ r2) q⟩⟩ (s0 he0) sT2 hHe hHT2 (fun p hp=>⟨(pne p hp).1,fun z=>by
   have:=(I'.pin p hp).1;rw[z,hT2] at this;cases this⟩) ⟨oe,vs,q1,q4⟩ ⟨oT,ts,r1,r2⟩
  obtain⟨oe,vs,q1,q2,q3,q4,q5,q6⟩:=tr3.obj;refine Jh (X:=X.j5 e) (i:=i) (v:=.ref e) (I3.j5 e) hN hi (.inl hl) rfl (fun s4 I4 sb=>?_) (.inr hl);have nl:e≠X.env.locals:=fun z=>by
   obtain⟨m,⟨o,es,ep,ho,hd,_⟩,_⟩:=I3.loc;rw[←z] at ho;rw[show h3.get? e=_ from q1] at ho;cases ho;rw[q4] at hd;cases hd
  have nc:∀y c,X.env.cells.lookup y=some c->c≠e:=fun y c hc z=>by
   obtain⟨v,o,ho,hd⟩:=I3.cell y c hc;rw[z] at ho;rw[show h3.get? e=_ from q1] at ho;cases ho;rw[q4] at hd;cases hd
  obtain⟨a,sb1,sb2⟩:=sb;have q1':s4.heap.get? e=some oe:=(sb1.2 e (fun z=>by
   rcases sb2 with sb2|sb2
   ·exact nl (z.trans sb2)
   ·exact nc _ _ sb2 z.symm)).trans q1
  have I5:=I4.DB (o:=.ext (uD e C dx)) hHe (s0 he0) ⟨⟨oe,vs,q1',q2,q3,q4,q6⟩,⟨oe,q1'⟩,fun h1 h2 ⟨oe,vs,a,b⟩ k=>⟨oe,vs,k _ a,b⟩⟩ nl nc (fun p hp=>(pne p hp).1);have E2:=S2.ext R1;have RG5:aM X.K (eH G1 e (.gen (jT x fs))) (upd H' e (.ext (uD e C dx))):=R2.g0 hHe (M7 ⟨C,dx,cn,iJ,dd.keep (Ext.laid hHe).cP⟩);have S5:Step H1 G1 (upd H' e (.ext (uD e C dx))) (eH G1 e (.gen (jT x fs))):=S2.trans (.g0 hHe);have RS5:eJ X.K (kn τ1 i (.obj e)) (σ1.set i (some (.ref e))) (upd H' e (.ext (uD e C dx))):=((RS1.ext E2).ext (.laid hHe)).set (by simp[Hv]);refine cH (hh e pins s4 _ _ { nx:=fun _ _=>False,rt:=D2.rt } I5 ⟨_,_,{ nx:=fun _ _=>False,rt:=D3.rt },RS5,RG5,kq e _ (.mk' (R2.free hHe)),⟨fun _ _ _ _ _ _ _ q=>q.elim,fun _ _ _ _ _ _ _ q=>q.elim,fun _ _ _ _ _ _ _ q=>q.elim,fun d v G' H' a b c q=>EL.rt d v G' H' a (S1.trans (S5.trans b)) c q⟩⟩) (fun fl s5 q=>?_) (fun _ _ z=>z.elim);cases fl with
  |ret u=>
   obtain⟨v,σ',H6,I6,rv,qv⟩:=q;obtain⟨m,hn,_⟩:=I6.loc;refine wpAny_nameGoes hl hn (by rw[I.ok.kind];rfl) fun h7 m7 hn7 hs7=>?_;exact⟨v,_,H6,(I6.uncaught I.ok).forget hs7 hn7,rv,qv⟩
  |next=>
   obtain⟨_,_,_,q⟩:=q;exact q.elim
  |brk=>
   obtain⟨_,_,_,q⟩:=q;exact q.elim
  |cont=>
   obtain⟨_,_,_,q⟩:=q;exact q.elim
def Bt(names:List ι)(i:Nat)(tx:sM)(th tr:aA):aA:=fun D τ G=>
 tx (fun τ1 G1 x fs=>x∈names/\∀p G2,dC G1 p (.gen (jT x fs)) G2->th { nx:=fun _ _=>False,rt:=D.rt } (kn τ1 i (.obj p)) G2) { D with nx:=tr D } τ G
theorem M5{X:Cx}{i:Nat}{cx en:ι}{names:List ι}{body suite rest:List aV}{b₀:aV}{np hpos pos:aJ}{tx:sM}{th tr:aA}{B:ζ}(F:Frame X)(T7:wG X.K names B)(hm:X.mg cx=some (.ref B))(hN:X.N.Nodup)(hb:yB X body tx)(hh:∀e,jd (X.j5 e) (b₀::suite) th)(hr:jd X rest tr)
  (hi:X.N[i]?=some en:=by rfl) (hl:X.env.scope.names.lookup en=some .local:=by rfl) (hg:Gl X cx:=by rfl) (hdb:(cx==("__debug__":ι))=false:=by decide):
  jd X (.Try body [.ExceptHandler (some (.Name cx np)) (some en) (b₀::suite) hpos] [] [] pos::rest) (Bt names i tx th tr):=M6 (th:=fun _=>th) F T7 hm hN hb hh hr hi hl hg hdb
end L3
namespace L2
open PySem PySem.Spec PyProof.Rows
open Sem (wp)
structure pX(s1:af)(e C:ζ)(mA:ι->Option ε)(h:af):Prop where
 keep:∀b o,b≠e->s1.get? b=some o->h.get? b=some o
 inst:h.Inst e C mA
 obj:∃o1 o2,s1.get? e=some o1/\h.get? e=some o2/\o2.cls=o1.cls/\o2.data=o1.data
 fresh:∀o dx,h.get? e=some o->o.dict=some dx->s1.get? dx=none
def putN(mA:ι->Option ε)(p:ι×ε):ι->Option ε:=fun y=>if y=p.1 then some p.2 else mA y
def yC(n:ι)(st:aV):Prop:=∃p1 p2 p3 p4,st=.Assign [.Attribute (.Name "self" p1) n p2] (.Name n p3) p4
section
variable {prog:Ω} {w:aj} {A:aB} {E:ε->θ->Prop} {K:η} {C B e:ζ} {names:List ι} {env:cV} {s1:af} {m:ι->Option ε}
theorem pX.store{mA:ι->Option ε}{ns:List ι}{n:ι}{v:ε}{Q:Unit->θ->Prop}{s:θ}(S:vc K C B names)(hn:n∈names)(X:K.In s.heap)(T:pX s1 e C mA s.heap)(hw:Within mA ns)(gy:ns.length≤1000)
  (hq:∀h' tk',pX s1 e C (putN mA (n,v)) h'->Q () { s with heap:=h',toks:=tk' }):π (model prog w) A (setAttr (.ref e) n v) Q E s:=by
 refine M9 S hn X T.inst hw gy fun h' tk' I' hk hs=>hq h' tk' ⟨fun b o hb q=>?_,I',?_,fun o dx q1 q2=>?_⟩
 ·exact hk b o hb (fun o₀ dx h0 hd z=>by
   have:=T.fresh o₀ dx h0 hd;rw[←z,q] at this;cases this) (T.keep b o hb q)
 ·obtain⟨o1,o2,a1,a2,a3,a4⟩:=T.obj;obtain⟨o3,b1,b2,b3,_⟩:=hs o2 a2;exact⟨o1,o3,a1,b1,b2.trans a3,b3.trans a4⟩
 ·obtain⟨o1,o2,a1,a2,a3,a4⟩:=T.obj;obtain⟨o3,b1,b2,b3,b4,b5,b6⟩:=hs o2 a2;rw[b1] at q1;cases q1;cases hd:o2.dict with
  |some dx0=>
   rw[b5 dx0 hd] at q2;obtain rfl:=ao q2;exact T.fresh o2 _ a2 hd
  |none=>
   rw[b6 hd] at q2;cases q2;cases q3:s1.get? s.heap.objs.size with
   |none=>rfl
   |some o=>
    have cu:s.heap.objs.size≠e:=fun z=>by
     have:=Φ a2;rw[←z] at this;exact absurd this (cm _)
    have:=Φ (T.keep _ _ cu q3);exact absurd this (cm _)
theorem M4{L:ζ}(S:vc K C B names)(hk:env.scope.kind=.function)(hloc:env.locals=L)(hLe:L≠e)(hself:env.kindOf "self" = some .local)(hds:(("self":ι)==("__debug__":ι))=false)(hms:m "self" = some (.ref e))(hns:s1.Ns L m)(sx:∀h:af,(∀b o,b≠e->s1.get? b=some o->h.get? b=some o)->K.In h):
  ∀(nvs:List (ι×ε)) (body:List aV),Paired (fun (p:ι×ε) st=>yC p.1 st/\(p.1==("__debug__":ι))=false) nvs body->(∀p∈nvs,env.kindOf p.1=some .local/\m p.1=some p.2/\p.1∈names) ->
   ∀(mA:ι->Option ε) (ns:List ι) (s:θ) (Q:Flow->θ->Prop),pX s1 e C mA s.heap->Within mA ns->ns.length+nvs.length≤1000 ->
   (∀h' tk',pX s1 e C (nvs.foldl putN mA) h'->Q .next { s with heap:=h',toks:=tk' })->π (model prog w) A (execs body env) Q E s:=by
 intro nvs
 induction nvs with
 |nil=>
  intro body hp _ mA ns s Q T _ _ hq;cases hp;exact gN (hq s.heap s.toks T)
 |cons p nvs ih=>
  intro body hpr hp mA ns s Q T hw hz hq;cases hpr with
  |@cons _ st0 _ bd hst r=>
   obtain⟨⟨p1,p2,p3,p4,rfl⟩,hdb⟩:=hst;obtain⟨k1,k2,k3⟩:=hp p ψ;have hnsH:s.heap.Ns env.locals m:=by
    obtain⟨o,es,ep,ho,rr⟩:=hns;rw[hloc];exact⟨o,es,ep,T.keep _ _ hLe ho,rr⟩
   have e1:π (model prog w) A (eval (.Name p.1 p3) env) (fun v s₁=>π (model prog w) A (eval (.Name "self" p1) env) (fun ov s₂=>π (model prog w) A (setAttr ov p.1 v) (fun _ s3=>π (model prog w) A (execs bd env) Q E s3) E s₂) E s₁) E s:=by
    refine nB (kY hk k1 hnsH k2 ?_) hdb;refine nB (kY hk hself hnsH hms ?_) hds;refine T.store S k3 (sx _ T.keep) hw (by rw[ak] at hz;lia) fun h' tk' T'=>?_;exact ih _ r (fun q hq'=>hp q (ω _ hq')) (putN mA p) (p.1::ns) { s with heap:=h',toks:=tk' } Q T' (t8 p.1 p.2 hw) (by rw[ak] at hz ⊢;lia) fun h'' tk'' T''=>hq h'' tk'' T''
   exact iD (plainObj_wpAny_Assign_Attribute e1 rfl)
end
end L2
namespace L2
open PySem PySem.Spec PyProof.Rows
open Sem (wp)
structure tN(K:η)(C B f:ζ)(fd:ay)(qual:ι)(st:aV)(names:List ι):Prop where
 ex:vd K C B (some (.ref f))
 set:vc K C B names
 fn:fy K "__init__" qual st f fd
 sc:bK ("self" :: names) ("self" :: names) (ai st)
 body:Paired (fun n st=>yC n st/\(n==("__debug__":ι))=false) names (e8 st)
 loc:∀n∈(("self":ι)::names),(ai st).names.lookup n=some .local
 bi:Binds K fd ("self" :: names) []
 kp:bS K (.ref C)=true
 Li:names.length≤10
 ty:∃o,K.lookup f=some o/\o.cls=.type "function"
structure La(h h':af)(e d C:ζ)(mA:ι->Option ε):Prop where
 keep:∀b o,h.get? b=some o->h'.get? b=some o
 JC:h.get? e=none
 newD:h.get? d=none
 ne:d≠e
 obj:∃oe t,h'.get? e=some oe/\oe.cls=.ref C/\oe.dict=some d/\oe.data=.fields #[.ref t,.none,.none,.none,.bool false,.none]
 ns:h'.Ns1 d mA
theorem FO{α β γ:Type}{R:α->β->Prop}:∀{as:List α} {bs:List β} {cs:List γ},Paired R as bs->as.length=cs.length->Paired (fun (p:α×γ) b=>R p.1 b) (as.zip cs) bs
 |_,_,[],.nil,_=>.nil
 |_,_,c::cs,.cons h r,e=>.cons h (FO r (by simpa using e))
theorem M3{P:Ω}{w:aj}{K:η}{C B f:ζ}{fd:ay}{qual:ι}{st:aV}{names:List ι}{A:aB}{E:ε->θ->Prop}{s:θ}{us:List ε}{Q:ε->θ->Prop}
  (O:tN K C B f fd qual st names) (X:K.In s.heap) (lim:s.heap.NoLimit) (hl:us.length=names.length) (cu:names≠[]) (hdp:A.depth+4<recursionLimit)
  (hq:∀e d h' tk,La s.heap h' e d C ((names.zip us).foldl putN fun _=>none)->Q (.ref e) { s with heap:=h',toks:=tk }):π (model P w) A (call (.ref C) us) Q E s:=by
 obtain⟨nm,qn,N,bs,sn,sub,ab,col,dd,k0,k1,k2,k3,k5,mN,hC,hn,hni,T⟩:=O.ex.own X;obtain⟨oc,od,kV,doc,pm,an,cdv,ct,osl,rfl,lk,iu⟩:=O.fn.ex;obtain⟨h,g,dr,t,os⟩:=s;have hf:=X _ _ lk;have gy:us.length≤ag:=by rw[hl];exact aK O.Li (by decide)
 have keepE:∀b o,h.get? b=some o->(fP h C us).get? b=some o:=fun b o q=>μ _ (μ _ q);have XE:K.In (fP h C us):=X.keeps keepE;have limE:(fP h C us).NoLimit:=lim.keeps keepE;have hsE:(fP h C us).objs.size=h.objs.size+2:=by
  unfold fP;rw[dw,dw]
 have heE:(fP h C us).get? (h.objs.size+1)=some { cls:=.ref C,data:=.fields #[.ref h.objs.size,.none,.none,.none,.bool false,.none]}:=by
  unfold fP
  heap_get
 refine N7 (f:=f) PySem.F.excBase_ValueError T hC hn hni hf (by obtain⟨o,e,c⟩:=O.ty;rw[lk] at e;cases e;exact c) ?_ gy;have hb:=O.bi ⟨fP h C us,g,dr,t,os⟩ (.ref (h.objs.size+1)::us) XE (by simp[hl]);rw[bO] at hb;have hkind:∀y∈(("self":ι)::names).zip (.ref (h.objs.size+1)::us),(ai st).names.lookup y.1=some .local∨((ai st).names.lookup y.1=some .cell/\((cellsFrom ((fP h C us).objs.size+1) (ai st).names []).lookup y.1).isSome=true):=fun⟨n,v⟩ hy=>
  .inl (O.loc n (fR hy).1)
 refine kC (by rw[TH];lia) (XE _ _ lk) rfl O.sc.co O.sc.gen rfl (mw XE iu) (hb _ _ _ _ ?_);refine iM O.sc.kind hkind fun env he s1 x=>?_;subst he;refine⟨limE.keeps x.toInCall.keep,codeAny_func ?_⟩;have ndP:(("self":ι)::names).Nodup:=O.sc.nd;have hne1:(fP h C us).objs.size≠h.objs.size+1:=by rw[hsE];lia
 have e1:=x.toInCall.keep _ _ heE;have hloc:∀n∈(("self":ι)::names),(envOfC qual (ai st) (fP h C us).objs.size f cdv).kindOf n=some .local:=fun n hn=>O.loc n hn;have inst0:s1.heap.Inst (h.objs.size+1) C (fun _=>none):=⟨_,e1,rfl,fun c=>nofun,.inl ⟨rfl,fun _=>rfl⟩⟩;have T0:pX s1.heap (h.objs.size+1) C (fun _=>none) s1.heap:=⟨fun _ _ _ q=>q,inst0,⟨_,_,e1,e1,rfl,rfl⟩,fun o dx q1 q2=>by
  rw[e1] at q1;cases q1;cases q2⟩
 have hNK:∀b o,K.lookup b=some o->b≠h.objs.size+1:=fun b o q z=>by
  have:=Φ (X _ _ q);rw[z] at this;exact absurd this (by show ¬_<h.objs.size;lia)
 obtain⟨tk,hs1⟩:∃tk,s1=⟨s1.heap,g,dr,tk,os⟩:=by
  obtain⟨h1,tk,q,_⟩:=x.done;exact⟨tk,by rw[q]⟩
 refine M4 (L:=(fP h C us).objs.size) (s1:=s1.heap) (e:=h.objs.size+1) (m:=_) O.set O.sc.kind rfl hne1 (hloc "self" ψ) (by decide) ?_ x.toInCall.ns (fun h2 k b o q=>k b o (hNK b o q) (x.toInCall.keep _ _ (XE _ _ q))) (names.zip us) (e8 st) (FO O.body hl.symm) (fun p hp=>?_) (fun _=>none) [] s1 _ T0 Within.nil ?_ fun h' tk' T'=>?_
 ·exact zt (i:=0) ndP rfl rfl (hloc "self" ψ)
 ·obtain⟨i,hi,ei⟩:=List.getElem_of_mem hp;have hpm:=fR hp;refine⟨hloc p.1 (ω _ hpm.1),?_,hpm.1⟩;have hi2:i<names.length:=by rw[lj] at hi;lia
  have hi3:i<us.length:=by lia
  have ep:p=(names[i],us[i]):=by rw[←ei,List.getElem_zip]
  refine zt (i:=i+1) ndP ?_ ?_ (hloc p.1 (ω _ hpm.1))
  ·rw[jJ,ep,bu hi2]
  ·rw[jJ,ep,bu hi3]
 ·rw[eA,lj];have:=O.Li;lia
 ·refine⟨rfl,?_⟩;obtain⟨o1,o2,a1,a2,a3,a4⟩:=T'.obj;rw[e1] at a1;cases a1;obtain⟨oe,b1,b2,b3,b4⟩:=T'.inst;rw[a2] at b1;cases b1;rw[hs1];rcases b4 with⟨_,z⟩|⟨d,c1,c2,c3⟩
  ·exfalso;cases names with
   |nil=>exact cu rfl
   |cons n0 ns0=>
    have key:∀(l:List (ι×ε)) (m0:ι->Option ε) (y:ι),(∃v,m0 y=some v)->∃v,l.foldl putN m0 y=some v:=fun l=>by
     induction l with
     |nil=>exact fun m0 y q=>q
     |cons p l ih=>
      intro m0 y q;refine ih (putN m0 p) y ?_;unfold putN;by_cases z:y=p.1
      ·exact⟨_,if_pos z⟩
      ·rw[if_neg z];exact q
    cases us with
    |nil=>cases hl
    |cons u0 us0=>
     obtain⟨v,hv⟩:=key (ns0.zip us0) (putN (fun _=>none) (n0,u0)) n0 ⟨u0,if_pos rfl⟩;have z0:=z n0;have z1:(ns0.zip us0).foldl putN (putN (fun _=>none) (n0,u0)) n0=none:=z0;rw[hv] at z1;cases z1
  ·have fr:=T'.fresh o2 d a2 c1;refine hq (h.objs.size+1) d h' tk' ⟨fun b o q=>T'.keep b o (fun z=>?_) (x.toInCall.keep _ _ (keepE b o q)),e6 (pM _),?_,c2,⟨o2,h.objs.size,a2,b2,c1,a4⟩,c3⟩
   ·have:=Φ q;rw[z] at this;exact absurd (show h.objs.size+1<h.objs.size from this) (by lia)
   ·cases q:h.get? d with
    |none=>rfl
    |some o=>
     rw[x.toInCall.keep _ _ (keepE d o q)] at fr;cases fr
end L2
namespace L2
open PySem PySem.Spec PyProof.Rows PySem.W
open Builtin Builtin.ObjectAttr
structure pY(K:Frag)(C:ζ):Prop where
 ga:findIn K (.ref C) "__getattribute__" = some (some (.builtin "BaseException.__getattribute__"))
 gn:findIn K (.ref C) "__getattr__" = some none
 be:mroIn K C (.type "BaseException")=some true
section
variable {prog:Ω} {w:aj} {A:aB} {E:ε->θ->Prop} {K:Frag} {x C:ζ} {ox:aL} {od:Option aL} {name:ι} {s:θ}
theorem M2:builtinKind "BaseException.__getattribute__" = some .slot:=by decide +kernel
theorem M1:splitId "BaseException.__getattribute__" = some ("BaseException","__getattribute__"):=by decide +kernel
theorem NF:plainId "BaseException.__getattribute__" = true:=by decide +kernel
theorem ND(self:ε):bindSpecial (.builtin "BaseException.__getattribute__") self=pure (.builtin "BaseException.__getattribute__",[self]):=by kernel_rfl
theorem FN{tk:fE}{fill expr:Bool}{f:cO.ObjectAttr.Found}{Q:ε->θ->Prop}(a:pY K C)(X:K.In s.heap)(I:InstAt s.heap x ox C od)(hf:findObj K C od name=some f)
  (h:π (model prog w) A.in1 (match f with | .value v=>ret v | .bind g b=>bindTo g b (.ref x) (.ref C) | .missing=>unsupported "") (fun fin s'=>match fin with | .done (.ret v)=>π (model prog w) A (handedOut v) Q E s' | _=>False) (fun _ _=>False) s) (hm:f≠.missing):
  π (model prog w) A (getAttrBy (.ref x) (.str name tk) fill expr) Q E s:=by
 obtain⟨hh,g,d,t,os⟩:=s;have L0:=I.type (M:=model prog w);have L1:=looks_findIn (M:=model prog w) X a.ga;have L2:=looks_findIn (M:=model prog w) X a.gn;have L3:=looks_find (M:=model prog w) X I hf;have sub:Looks (model prog w) hh (isInstance (.ref x) (.type "BaseException")) true:=I.type.andThen (looks_mroIn X a.be);unfold getAttrBy;refine bU (δ (L0.at (δ (L1.at ?_))));have hx2:(iO "BaseException.__getattribute__" == iO "object.__getattribute__")=false:=by decide +kernel
 show π _ _ (if (onTheHeap (aQ C)&&iO "BaseException.__getattribute__" == iO "object.__getattribute__")=true then _ else getAttrByItsOwn _ _ _ _ _ _) _ _ _;rw[hx2,if_neg (by simp)];unfold getAttrByItsOwn;refine δ ?_;show π _ _ (typeLookup (.ref C) "__getattr__") _ _ _;refine L2.at ?_;refine δ (gD (bU ?_));have hx0:(expr&&onTheHeap (iO "BaseException.__getattribute__"))=false:=by cases expr<;>rfl
 show π _ _ (if (expr&&onTheHeap (iO "BaseException.__getattribute__"))=true then _ else boundAndCalled _ _ _) _ _ _;rw[hx0,if_neg (by simp)];unfold boundAndCalled;rw[ND];refine δ (ν (gO ?_));refine la NF F.entry_bexc_ga (@check_slot (model prog w) _ _ ⟨hh,g,d,t,os⟩ "BaseException.__getattribute__" "BaseException" "__getattribute__" (.ref x) [.str name tk] [] _ M2 M1 sub (F.args_bexc_ga (.ref x) (.str name tk)) ?_);unfold cO.«object.__getattribute__»;refine δ (ν (δ (ν (δ (L0.at (δ (L3.at ?_)))))));cases f with
 |missing=>exact absurd rfl hm
 |value v=>
  refine cH h (fun fin s' z=>?_) fun _ _ z=>z.elim;rcases fin with (_|_|_|_)|_<;>first|exact z|exact z.elim
 |bind g b=>
  refine cH h (fun fin s' z=>?_) fun _ _ z=>z.elim;rcases fin with (_|_|_|_)|_<;>first|exact z|exact z.elim
theorem exc_value{expr:Bool}{v:ε}{Q:ε->θ->Prop}(a:pY K C)(X:K.In s.heap)(I:InstAt s.heap x ox C od)(hf:findObj K C od name=some (.value v))(hh:handedIn v=true)(h:Q v { s with toks:=s.toks+1 }):
  π (model prog w) A (getAttr (.ref x) name expr) Q E s:=by
 unfold getAttr;refine δ (wpAny_mkText (FN (s:={ s with toks:=s.toks+1 }) a X I hf (ν ?_) (by simp)));show π _ _ (handedOut v) _ _ _;rw[handedOut_of hh];exact ν h
theorem NC{Q:Option ε->θ->Prop}(a:pY K C)(hc:(clsIn K C).isSome=true)(ha:findIn K (.ref C) "__class__" = some (some (.builtin "object.__class__")))(hn:specialIn K (.builtin "object.__class__") "__get__" = some (some (.builtin "getset_descriptor.__get__")))
  (JN:takesIn K (.builtin "object.__class__")=some true) (hm:mroIn K C (.type "object")=some true) (X:K.In s.heap) (I:InstAt s.heap x ox C od) (h:Q (some (.ref C)) { s with toks:=s.toks+1 }):π (model prog w) A (getAttr? (.ref x) "__class__") Q E s:=by
 have hf:findObj K C od "__class__" = some (.bind (.builtin "getset_descriptor.__get__") (.builtin "object.__class__")):=by
  obtain⟨cd,iu⟩:=jk.mp hc;unfold findObj;rw[iu,iE,ha,iE];simp[hn,JN]
 unfold getAttr? getAttrBy?;refine δ (wpAny_mkText (δ (gD ?_)));refine FN (s:={ s with toks:=s.toks+1 }) a X I hf ?_ (by simp);show π _ _ (holding [_] (call (.builtin "getset_descriptor.__get__") [.builtin "object.__class__",.ref x,.ref C]) >>= ret) _ _ _;refine δ (bU (gO (class_get (s:={ s with toks:=s.toks+1 }) (ox:=ox) (od:=od) X I hm ?_)));exact ν (handed_on rfl (ν h))
theorem NB(a:pY K C)(hc:(clsIn K C).isSome=true)(ha:findIn K (.ref C) "__class__" = some (some (.builtin "object.__class__")))(hn:specialIn K (.builtin "object.__class__") "__get__" = some (some (.builtin "getset_descriptor.__get__")))
  (JN:takesIn K (.builtin "object.__class__")=some true) (hm:mroIn K C (.type "object")=some true):KitX K (.ref x) (.ref C) (fun h=>InstAt h x ox C od):=by
 obtain⟨cd,iu⟩:=jk.mp hc;obtain⟨o,ho,hcl⟩:∃o,K.lookup C=some o/\∃c,o.data=.cls c:=by
  unfold clsIn at iu;split at iu
  ·rename_i q;exact⟨_,q,_,rfl⟩
  ·cases iu
 obtain⟨oc,odd,oda,osl⟩:=o;obtain⟨c,e⟩:=hcl;dsimp only at e;subst e;refine⟨fun _ _ _ I=>I.type,fun _ _ X _=>?_,fun h tp dd its n sl X htp=>?_,fun X I k=>NC a hc ha hn JN hm X I k⟩
 ·intro A' Q' E' s' k q;unfold isType loadHead;exact δ (wpAny_loadPart (k _ _ (X _ _ ho)) (ν q))
 ·refine jZ.mpr fun q=>?_;have e:C=tp:=aQ.inj (beq_iff_eq.mp q);subst e;have z:=(X _ _ ho).symm.trans htp;cases z
end
end L2
namespace L3
open PySem PySem.Spec PyProof.Rows L2
structure fV(K:η)(C:ζ):Prop where
 ge:pY K C
 hd:(iP K C).isSome=true
 ha:dP K (.ref C) "__class__" = some (some (.builtin "object.__class__"))
 hn:tU K (.builtin "object.__class__") "__get__" = some (some (.builtin "getset_descriptor.__get__"))
 ht:vg K (.builtin "object.__class__")=some true
 hm:mT K C (.type "object")=some true
theorem NA{P:Ω}{w:aj}{K:η}{H:Hp}{h:af}{p:ζ}{x:ι}{fs:List (ι×Int)}(ok:dJ P w H h)(e:jT x fs K p H):∃C oe od,dG K x C/\lV h p oe C od:=by
 obtain⟨C,dx,cn,e1,dd⟩:=e;obtain⟨⟨oe,vs,q1,q2,q3,q4,_⟩,_⟩:=(show bV P w H h p (.ext (uD p C dx)) from ok p _ e1);have hn:jC oe=true:=by
  unfold jC;rw[q4]
 rcases dd with⟨rfl,_⟩|⟨d,o,rfl,e2⟩
 ·exact⟨C,oe,none,cn,q1,q2,hn,by rw[q3];trivial⟩
 ·obtain⟨r1,_⟩:=(show bV P w H h d (.cP o (.xd _)) from ok d _ e2);exact⟨C,oe,some o,cn,q1,q2,hn,by rw[q3];exact r1⟩
theorem Nz{P:Ω}{w:aj}{K:η}{H:Hp}{h:af}{p:ζ}{x:ι}{fs:List (ι×Int)}(ok:dJ P w H h)(e:jT x fs K p H)(cu:fs≠[]):
  ∃C oe od mA d,dG K x C/\lV h p oe C (some od)/\h.get? d=some od/\h.Ns1 d mA/\∀f,qR ((fs.map fun p=>(p.1,V.int p.2)).lookup f) (mA f):=by
 obtain⟨C,dx,cn,e1,dd⟩:=e;obtain⟨⟨oe,vs,q1,q2,q3,q4,_⟩,_⟩:=(show bV P w H h p (.ext (uD p C dx)) from ok p _ e1);rcases dd with⟨_,z⟩|⟨d,o,rfl,e2⟩
 ·exact absurd z cu
 ·obtain⟨r1,mA,r2,r3⟩:=(show bV P w H h d (.cP o (.xd _)) from ok d _ e2);refine⟨C,oe,o,mA,d,cn,⟨q1,q2,?_,by rw[q3];exact r1⟩,r1,r2,r3⟩;unfold jC;rw[q4]
section
variable {X:Cx} {a:ρ} {ta:aw} {pos p p2:aJ}
def pI(rs:List ι)(y:ι)(ta:aw):aw:=fun τ G Q=>ta τ G fun x G1=>match x with
 |.obj p=>∃z fs,G1 p=some (.gen (jT z fs))/\z∈rs/\Q (.bl (z==y)) G1
 |_=>False
theorem FL{c:ε}{cv:V}(hc:RelV cv c)(hu:∀c',RelV cv c'->c'=c):iB X (.builtin "isinstance") (fun vs H Q=>∃q z fs b,vs=[.ref q,cv]/\jT z fs X.K q H/\(∀C,dG X.K z C->fV X.K C/\aq X.K (.ref C) c=some b)/\Q (.bl b) H):=by
 intro pins s σ H vs us Q I r h;obtain⟨q,z,fs,b,rfl,hx,hk,qq⟩:=h;obtain⟨u,c',rfl,ru,rc⟩:=vals2 r;cases (show u=aQ q from ru);cases hu c' rc;obtain⟨C,oe,od,cn,J⟩:=NA I.bx hx;obtain⟨K1,K2⟩:=hk C cn;exact dg (NB K1.ge K1.hd K1.ha K1.hn K1.ht K1.hm) I.gI J K2 (fun z=>nomatch z) fun tk=>⟨.bl b,H,I.tok tk,rfl,qq⟩
theorem Ny{rs:List ι}{y:ι}{c:ε}{cv:V}(hk:∀z∈rs,∀C,dG X.K z C->fV X.K C/\aq X.K (.ref C) c=some (z==y)){σ:L2.St}{H:Hp}{Q:VK}(h:low X.K (pI rs y ta) σ H Q):
  AO (fun vs H Q=>∃q z fs b,vs=[.ref q,cv]/\jT z fs X.K q H/\(∀C,dG X.K z C->fV X.K C/\aq X.K (.ref C) c=some b)/\Q (.bl b) H) (yE (low X.K ta) (yE (tC cv) EB)) σ H Q:=by
 obtain⟨τ,G,Q3,RS,RG,h,k⟩:=h;refine⟨τ,G,_,RS,RG,h,fun v H1 d G1 h1 S1 R1 q1=>?_⟩;cases d with
 |obj q=>
  obtain⟨z,fs,e1,hz,q2⟩:=q1;rw[iI h1];exact⟨q,z,fs,_,rfl,(R1 q _ e1).1,fun C cn=>hk z hz C cn,k _ H1 (.bl (z==y)) G1 lE S1 R1 q2⟩
 |_=>exact q1.elim
theorem Nx{rs:List ι}{y:ι}{C:ζ}(hk:∀z∈rs,∀D,dG X.K z D->fV X.K D/\aq X.K (.ref D) (.ref C)=some (z==y))(ha:bL X a ta)(hm:X.mg "isinstance" = none)(hmy:X.mg y=some (.ref C))(hgy:Gl X y:=by rfl)(hdy:(y==("__debug__":ι))=false:=by decide)(hg:Gl X "isinstance":=by rfl)(he:notStar a=true:=by rfl):
  bL X (.Call (.Name "isinstance" p) [a,.Name y p2] [] pos) (pI rs y ta):=
 hX (sk (FL (c:=.ref C) (cv:=.ref C) rfl fun c' r=>r) hg hm rfl (qG ha (qG (CK (v:=.ref C) hgy hmy rfl hdy) vR (dY rfl)) (dY he)) (he:=dY he) (hpl:=jG rfl)) fun σ H Q h=>Ny hk h
def Di(rs:List ι)(ta:aw):aw:=fun τ G Q=>ta τ G fun x G1=>match x with
 |.obj p=>∃z fs,G1 p=some (.gen (jT z fs))/\z∈rs/\Q (.bl true) G1
 |_=>False
theorem Nw{rs:List ι}(hk:∀z∈rs,∀D,dG X.K z D->fV X.K D/\aq X.K (.ref D) (.type "ValueError")=some true)(ha:bL X a ta)(hm:X.mg "isinstance" = none)(hmy:X.mg "ValueError" = none)(hgy:Gl X "ValueError":=by rfl)(hg:Gl X "isinstance":=by rfl)(he:notStar a=true:=by rfl):
  bL X (.Call (.Name "isinstance" p) [a,.Name "ValueError" p2] [] pos) (Di rs ta):=
 hX (sk (FL (c:=.type "ValueError") (cv:=.ty "ValueError") rfl fun c' r=>r) hg hm rfl (qG ha (qG (Je (v:=.ty "ValueError") hgy hmy rfl rfl (by decide) (by decide)) vR (dY rfl)) (dY he)) (he:=dY he) (hpl:=jG rfl)) fun σ H Q h=>by
  obtain⟨τ,G,Q3,RS,RG,h,k⟩:=h;refine⟨τ,G,_,RS,RG,h,fun v H1 d G1 h1 S1 R1 q1=>?_⟩;cases d with
  |obj q=>
   obtain⟨z,fs,e1,hz,q2⟩:=q1;rw[iI h1];exact⟨q,z,fs,_,rfl,(R1 q _ e1).1,fun C cn=>hk z hz C cn,k _ H1 (.bl true) G1 lE S1 R1 q2⟩
  |_=>exact q1.elim
end
end L3
namespace L3
open PySem PySem.Spec PyProof.Rows L2
theorem BN:∀{bs:List Bool} {its:List ε},aU (bs.map V.bl) its->its=bs.map cB
 |[],_,h=>h.zero
 |b::bs,_,h=>by
  cases h with
  |cons r1 r2=>rw[BN r2,show _=cB b from r1];rfl
def yo:V->List V->Hp->VK->Prop:=fun x vs H Q=>∃(l:ζ) (bs:List Bool),x=.ref l/\vs=[.bl true]/\H l=some (.lst (bs.map V.bl))/\Q (.int ((bs.countP id:Nat):Int)) H
def yn:V->List V->Hp->VK->Prop:=fun x vs H Q=>∃(l:ζ) (bs:List Bool) (j:Nat),x=.ref l/\vs=[.bl true]/\H l=some (.lst (bs.map V.bl))/\bs[j]?=some true/\(∀i,i<j->bs[i]?=some false)/\j<1000/\Q (.int ((j:Nat):Int)) H
def DU:ε->Bool
 |.bool b=>b
 |_=>false
section
variable {X:Cx}
theorem Nv:sN X "list.count" yo:=by
 intro pins s σ H x vs v us Q I rx rv h;obtain⟨l,bs,rfl,rfl,hH,q⟩:=h;cases rx;obtain⟨u,rfl,ru⟩:=rv.one;cases (show u=cB true from ru);obtain⟨z,its,n,r,hl,e⟩:=I.qK hH;rw[BN r] at e;refine eX F.slot_list_count ⟨_,e,rfl⟩ F.entry_list_count (F.args_list_count_2 _ _) (SeqAt.list_countAt l (bs.map cB).toArray n none #[] (.bool true) DU) ⟨e,fun y hy=>?_,?_⟩
 ·obtain⟨b,_,rfl⟩:=aX.mp (gb.mpr hy);have:=qX (A:=X.A.in1) (s:=s) b true;cases b<;>exact this
 ·refine⟨.int ((bs.countP id:Nat):Int),H,I.tok _,⟨s.toks,?_⟩,q⟩;have e2:((bs.map cB).toArray.toList).countP DU=bs.countP id:=by
   show (bs.map cB).countP DU=_;rw[List.countP_map];rfl
  rw[e2]
theorem MQ:sN X "list.index" yn:=by
 intro pins s σ H x vs v us Q I rx rv h;obtain⟨l,bs,j,rfl,rfl,hH,h1,h2,h3,q⟩:=h;cases rx;obtain⟨u,rfl,ru⟩:=rv.one;cases (show u=cB true from ru);obtain⟨z,its,n,r,hl,e⟩:=I.qK hH;rw[BN r] at e;have hj:j<bs.length:=(aN.mp h1).1;refine eX F.slot_list_index ⟨_,e,rfl⟩ F.entry_list_index (F.args_list_index_2 _ _) (SeqAt.list_indexAt l (bs.map cB).toArray n none #[] (.bool true) DU j (by simpa using hj) (by lia) ?_ fun m hm hmj=>?_) ⟨e,fun y hy=>?_,?_⟩
 ·simp only[rb,List.getElem_map];rw[(aN.mp h1).2];rfl
 ·simp only[rb,List.getElem_map];rw[(aN.mp (h2 m hmj)).2];rfl
 ·obtain⟨b,_,rfl⟩:=aX.mp (gb.mpr hy);have:=qX (A:=X.A.in1) (s:=s) b true;cases b<;>exact this
 ·exact⟨.int ((j:Nat):Int),H,I.tok _,⟨_,rfl⟩,q⟩
end
section
variable {K:η}
def BM:D->List D->Gp->V3->Prop:=fun x ds G Q=>match x,ds with
 |.obj p,[.bl true]=>∃xs bs,G p=some (.lst xs)/\nA xs=some bs/\Q (.int ((bs.countP id:Nat):Int)) G
 |_,_=>False
def BL:D->List D->Gp->V3->Prop:=fun x ds G Q=>match x,ds with
 |.obj p,[.bl true]=>∃xs bs j,G p=some (.lst xs)/\nA xs=some bs/\bs[j]?=some true/\(∀i,i<j->bs[i]?=some false)/\j<1000/\Q (.int ((j:Nat):Int)) G
 |_,_=>False
theorem MP:mP K BM yo:=fun x vx ds vs G H Q3 Q hx hs RG q k=>by
 unfold BM at q;split at q
 ·rename_i p;obtain⟨xs,bs,e1,e2,q⟩:=q;obtain⟨ys,e3,hv⟩:=RG p _ e1;obtain⟨v,r,rfl,hv1,hv2⟩:=hs.inv;rw[hv2.gz,ui hv1,iI hx];exact⟨p,bs,rfl,rfl,by rw[e3,zw hv e2],k _ H (.int _) G ml (.refl H G) RG q⟩
 ·exact q.elim
theorem MO:mP K BL yn:=fun x vx ds vs G H Q3 Q hx hs RG q k=>by
 unfold BL at q;split at q
 ·rename_i p;obtain⟨xs,bs,j,e1,e2,q1,q2,q3,q⟩:=q;obtain⟨ys,e3,hv⟩:=RG p _ e1;obtain⟨v,r,rfl,hv1,hv2⟩:=hs.inv;rw[hv2.gz,ui hv1,iI hx];exact⟨p,bs,j,rfl,rfl,by rw[e3,zw hv e2],q1,q2,q3,k _ H (.int _) G ml (.refl H G) RG q⟩
 ·exact q.elim
end
end L3
namespace L3
open PySem PySem.Spec PyProof.Rows L2
open Sem (wp)
def pR(x:ι)(names:List ι)(E:E3)(t:cw):aA:=fun _ τ G=>t τ G fun ds _=>∃is:List Int,ds=is.map D.int/\is.length=names.length/\E x (names.zip is)
theorem FK:∀(names:List ι) (is:List Int) (us:List ε) (m0:ι->Option ε) (fs0:List (ι×V)),aU (is.map V.int) us->names.length=is.length->(names.Nodup)->(∀n∈names,fs0.lookup n=none)->(∀f,qR (fs0.lookup f) (m0 f)) ->
  ∀f,qR ((((names.zip is).map fun p=>(p.1,V.int p.2))++fs0).lookup f) ((names.zip us).foldl putN m0 f)
 |[],[],us,m0,fs0,hv,_,_,_,h=>by
  rw[hv.zero];exact h
 |n::ns,i::is,us,m0,fs0,hv,hl,nd,hn,h=>by
  cases hv with
  |@cons v u vs us2 r1 r2=>
   have hnd:=eZ.mp nd;intro f;have key:=FK ns is us2 (putN m0 (n,u)) (fs0++[(n,V.int i)]) r2 (by simpa using hl) hnd.2 (fun y hy=>by
    rw[fJ,hn y (ω _ hy),cq,pf];have:(y==n)=false:=by
     rw[beq_eq_false_iff_ne];intro z;exact hnd.1 (z▸hy)
    rw[this];rfl) (fun y=>by
    unfold putN;by_cases z:y=n
    ·subst z;rw[if_pos rfl,fJ,hn y ψ,cq,beq_self_eq_true];exact r1
    ·rw[if_neg z,fJ,cq,pf,beq_eq_false_iff_ne.mpr z];have:=h y;cases q:fs0.lookup y with
     |none=>rw[q] at this;exact this
     | some w=>rw[q] at this;exact this) f
   show qR ((((n,V.int i)::(ns.zip is).map fun p=>(p.1,V.int p.2))++fs0).lookup f) ((ns.zip us2).foldl putN (putN m0 (n,u)) f);have e:((((n,V.int i)::(ns.zip is).map fun p=>(p.1,V.int p.2))++fs0).lookup f)=((((ns.zip is).map fun p=>(p.1,V.int p.2))++(fs0++[(n,V.int i)])).lookup f):=by
    rw[oP,cq,fJ,fJ,fJ,cq,pf];by_cases z:f=n
    ·subst z;have hz:((ns.zip is).map fun p=>(p.1,V.int p.2)).lookup f=none:=by
      rw[List.lookup_eq_none_iff];intro p hp;obtain⟨q,hq,rfl⟩:=aX.mp hp;rw[bne_iff_ne];intro z;exact hnd.1 (z▸(fR hq).1)
     rw[beq_self_eq_true,hz,hn f ψ];rfl
    ·rw[beq_eq_false_iff_ne.mpr z];cases ((ns.zip is).map fun p=>(p.1,V.int p.2)).lookup f<;>cases fs0.lookup f<;>rfl
   rw[e];exact key
theorem FJ{K:η}{H:Hp}:∀{is:List Int} {vs:List V},aD K H (is.map D.int) vs->vs=is.map V.int
 |[],_,h=>h.gz
 |i::is,_,h=>by
  obtain⟨v,r,rfl,h1,h2⟩:=h.inv;rw[FJ h2,gG h1];rfl
theorem BK{K:η}{C:ζ}{bm:List ε}{init:Option ε}{newId:String}(q:excIn K C bm init newId=true):∃nm qn N bs sn sub ab col dd k0 k1 k2 k3 k5,K.lookup C=some (excClassObj nm qn C N bs bm true sn sub ab col dd k0 k1 k2 k3 k5 newId):=by
 unfold excIn at q;split at q
 ·rename_i dd cd sl ho;split at q
  ·rename_i C' bm' k0 k1 k2 k3 n k5 hm hs;simp only[bA,beq_iff_eq,nh] at q;obtain⟨⟨⟨⟨⟨rfl,rfl⟩,hdel⟩,hdct⟩,rfl⟩,hns⟩:=q;obtain⟨nm,bs,mro,ns,qn,hd,sn,sub,ab,col,del⟩:=cd;dsimp only at hm hdel hdct hns;subst hm hdel hdct;have hsl:sl = #[k0,k1,k2,k3,some (.builtin n),k5]:=by
    obtain⟨l⟩:=sl;simp only at hs;rw[hs]
   subst hsl;exact⟨nm,qn,ns,bs,sn,sub,ab,col,dd,k0,k1,k2,k3,k5,ho⟩
  ·cases q
 ·cases q
theorem MN{prog:Ω}{w:aj}{A:aB}{E:ε->θ->Prop}{s:θ}{env:cV}{nm q:ι}{C N:ζ}{bs bm:List ε}{hdct:Bool}{sn:List ι}{sub:List ε}{ab:Bool}{col:Option Bool}{dd:Option ζ}{k0 k1 k2 k3 k5:Option ε}{newId:String}
  {x:gZ ε} {Q:Flow->θ->Prop} (gL:bm.contains (.type "BaseException")=true) (hh:A.handled=none)
  (h:π (model prog w) A x (fun v s₁=>∃e oe t,v=.ref e/\s₁.heap.get? C=some (excClassObj nm q C N bs bm hdct sn sub ab col dd k0 k1 k2 k3 k5 newId)/\s₁.heap.get? e=some oe/\oe.cls=.ref C/\oe.data=.fields #[.ref t,.none,.none,.none,.bool false,.none]/\E (.ref e) s₁) E s):
  π (model prog w) A (raiseStmt env (some x) none) Q E s:=by
 have hcB:(aQ C::bm).contains (.type "BaseException")=true:=by rw[mB,gL,tf]
 unfold raiseStmt;refine δ (cH h (fun v s₁ h₁=>?_) fun _ _ x=>x);obtain⟨e,oe,t,rfl,hC,he,h1,h2,hE⟩:=h₁;obtain⟨hp,g,d,tk,os⟩:=s₁;obtain⟨oc,od,oda,osl⟩:=oe;dsimp only at h1 h2;subst h1 h2
 repeat (first|with_reducible refine fc he ?_|with_reducible refine fc hC ?_|(with_reducible refine iU hC ?_;rw[hcB])|wp_step)
 exact wpAny_raiseNew_none hh hE
theorem MM{X:Cx}{E:XK}{E':E3}{x:ι}{C B f:ζ}{fd:ay}{qual:ι}{st:aV}{names:List ι}{k:Nat}{e:ρ}{es:List ρ}{t:cw}{np cpos pos:aJ}(hB:Body X E)(hE:∀cls dx H',jR X.K E' cls dx H'->E cls dx H')(O:tN X.K C B f fd qual st names)(cn:dG X.K x C)(hm:X.mg x=some (.ref C))(hr:dI k X.A)(hc:X.calm=true)(ha:ig X (e::es) t)
  (cu:names≠[]:=by decide) (hg:Gl X x:=by rfl) (hdb:(x==("__debug__":ι))=false:=by decide) (he:notStar e=true:=by rfl) (hpl:es.all notStar=true:=by rfl):
  t5 X (.Raise (some (.Call (.Name x np) (e::es) [] cpos)) none pos) (pR x names E' t):=by
 intro pins s σ H D2 I ⟨τ,G,D3,RS,RG,h,EL⟩;rw[arm_exec_Raise];simp only[evalOpt,qY];refine δ (mQ ?_);obtain⟨nm,qn,N,bs,sn,sub,ab,col,dd,k0,k1,k2,k3,k5,lk⟩:=BK O.ex.cls;refine MN (C:=C) (nm:=nm) (q:=qn) (N:=N) (bs:=bs) (bm:=.ref B::hU) (hdct:=true) (sn:=sn) (sub:=sub) (ab:=ab) (col:=col) (dd:=dd) (k0:=k0) (k1:=k1) (k2:=k2) (k3:=k3) (k5:=k5) (newId:="ValueError.__new__") (by rw[mB,show hU.contains (.type "BaseException")=true by decide +kernel,tf]) (I.ok.hd hc) ?_;refine δ (bB (Q:=fun v s₁=>∃e oe t,v=.ref e/\s₁.heap.get? C=some (excClassObj nm qn C N bs (.ref B::hU) true sn sub ab col dd k0 k1 k2 k3 k5 "ValueError.__new__")/\s₁.heap.get? e=some oe/\oe.cls=.ref C/\oe.data=.fields #[.ref t,.none,.none,.none,.bool false,.none]/\X.xe (.ref e) s₁) ?_ fun v s2 q=>δ (mQ (ν q)));refine eN (um I hg hm ?_ hdb);refine gP (h₀:=X.base) I.ok.mod.sx O.kp (bB (ha cpos pins s σ H (fun vs H1=>∃is:List Int,vs=is.map V.int/\is.length=names.length/\E' x (names.zip is)) I
  ⟨τ,G,_,RS,RG,h,fun vs H1 ds G1 a b c q=>by obtain⟨is,rfl,hl,q⟩:=q;exact⟨is,FJ a,hl,q⟩⟩) fun us s1 ⟨vs,H1,I1,r,is,ev,hl,q⟩=>⟨I1.gI,?_⟩) (dY he) (jG hpl)
 subst ev;have hlu:us.length=names.length:=by rw[←r.length,ο];exact hl
 refine M3 O I1.gI I1.nolimit hlu cu (by have:=hr.dp;lia) fun e1 d h' tk M=>?_;obtain⟨oe,t1,o1,o2,o3,o4⟩:=M.obj;obtain⟨od,es1,ep1,n1,nr⟩:=M.ns;have I1k:Inv X pins σ H1 { s1 with heap:=h',toks:=tk }:=I1.kept M.keep;have gone:∀{b:ζ} {o:aL},s1.heap.get? b=some o->b≠d:=fun {b o} hb z=>by
  rw[z,M.newD] at hb;cases hb
 have I2:=I1k.DB (a:=d) (o:=.cP od (.xd ((names.zip is).map fun p=>(p.1,V.int p.2)))) (GP I1 M.newD) (GN hB I1 M.newD)
  ⟨n1,(names.zip us).foldl putN (fun _=>none),⟨od,es1,ep1,n1,nr⟩,fun f=>by
   have:=FK names is us (fun _=>none) [] r hl.symm (eZ.mp O.sc.nd).2 (fun _ _=>rfl) (fun _=>trivial) f;rw[bO] at this;exact this⟩
  (fun z=>by
   obtain⟨m,⟨o,_,_,ho,_⟩,_⟩:=I1.loc;exact gone ho z.symm)
  (fun y c hcc z=>by
   obtain⟨v,o,ho,_⟩:=I1.cell y c hcc;exact gone ho z)
  (fun p hp=>gone (I1.pin p hp).1)
 refine⟨e1,oe,t1,rfl,I2.gI _ _ lk,o1,o2,o4,?_⟩;have hne1:e1≠d:=M.ne.symm;refine hB.throw I2 o1 o2 o4 rfl rfl (GN hB I1 M.JC) (by rw[dH hne1];exact GP I1 M.JC) (hE _ _ _ ⟨x,C,names.zip is,rfl,cn,q,.inr ⟨d,od,o3,iJ⟩⟩)
end L3
namespace L3
open PySem PySem.Spec PyProof.Rows L2
structure Lk(X:Cx)(e:ρ)(t:yA):Prop where
 of:J5 X e t
structure D1(X:Cx)(st:List aV)(t:sM):Prop where
 of:yB X st t
section
variable {X:Cx} {k:Nat} {f:ζ} {fd:ay} {ps:List ι} {sp:pT} {sp3:fC} {E':E3} {x:ι} {p pos:aJ} {a b e c:ρ} {es:List ρ} {t:cw} {te:aw} {tx:yA} {tax:TAX} {tc:cQ} {ta tb tr:sM} {sa sb rest:List aV}
theorem ML(F:t7 X.prog X.w X.K X.mg X.base k f fd ps sp)(hr:dI k X.A)(hx:mq (fD X.prog X.w X.base) X (jR X.K E'))(hm:X.mg x=some (.ref f))(hk:bS X.K (.ref f)=true)(hb:Binds X.K fd ps [])(ha:QA X (e::es) t)(hg:Gl X x:=by rfl)
  (hdb:(x==("__debug__":ι))=false:=by decide) (he:notStar e=true:=by rfl) (hpl:es.all notStar=true:=by rfl):QE X (.Call (.Name x p) (e::es) [] pos) (xV sp E' t):=⟨Nl F hr hx hm hk hb ha.of hg hdb he hpl⟩
theorem FI(F:v8 X.prog X.w X.K X.mg X.base k f fd ps sp3)(hr:fh k X.A)(hm:X.mg x=some (.ref f))(hk:bS X.K (.ref f)=true)(hb:Binds X.K fd ps [])(ha:QA X (e::es) t)(hg:Gl X x:=by rfl)
  (hdb:(x==("__debug__":ι))=false:=by decide) (he:notStar e=true:=by rfl) (hpl:es.all notStar=true:=by rfl):QE X (.Call (.Name x p) (e::es) [] pos) (bG sp3 t):=⟨Ng F hr hm hk hb ha.of hg hdb he hpl⟩
theorem MK(h:Lk X e tx)(hr:D1 X rest tr)(hs:swapsWith e none pos.line X.env=pure false:=by rfl):D1 X (.Expr e pos::rest) (wM tx tr):=⟨Nf h.of hr.of hs⟩
theorem MJ:D1 X [] wL:=⟨Nd⟩
theorem MI{i:Nat}{cx en:ι}{names:List ι}{body suite rs:List aV}{b₀:aV}{np hpos:aJ}{th tq:aA}{B:ζ}(F:Frame X)(T7:wG X.K names B)(hm:X.mg cx=some (.ref B))(hN:X.N.Nodup)(hb:D1 X body ta)(hh:∀e,pV (X.j5 e) (b₀::suite) th)(hr:pV X rs tq)
  (hi:X.N[i]?=some en:=by rfl) (hl:X.env.scope.names.lookup en=some .local:=by rfl) (hg:Gl X cx:=by rfl) (hdb:(cx==("__debug__":ι))=false:=by decide):
  pV X (.Try body [.ExceptHandler (some (.Name cx np)) (some en) (b₀::suite) hpos] [] [] pos::rs) (Bt names i ta th tq):=⟨M5 F T7 hm hN hb.of (fun e=>(hh e).of) hr.of hi hl hg hdb⟩
theorem yS{E:XK}{C B:ζ}{qual:ι}{st:aV}{names:List ι}{np cpos:aJ}(hB:Body X E)(hE:∀cls dx H',jR X.K E' cls dx H'->E cls dx H')(O:tN X.K C B f fd qual st names)(cn:dG X.K x C)(hm:X.mg x=some (.ref C))(hr:dI k X.A)(hc:X.calm=true)(ha:QA X (e::es) t)
  (cu:names≠[]:=by decide) (hg:Gl X x:=by rfl) (hdb:(x==("__debug__":ι))=false:=by decide) (he:notStar e=true:=by rfl) (hpl:es.all notStar=true:=by rfl):
  QS X (.Raise (some (.Call (.Name x np) (e::es) [] cpos)) none pos) (pR x names E' t):=⟨MM hB hE O cn hm hr hc ha.of cu hg hdb he hpl⟩
theorem uq{rs:List ι}{y:ι}{C:ζ}{p2:aJ}(hk:∀z∈rs,∀D,dG X.K z D->fV X.K D/\aq X.K (.ref D) (.ref C)=some (z==y))(ha:QE X a te)(hm:X.mg "isinstance" = none)(hmy:X.mg y=some (.ref C))(hgy:Gl X y:=by rfl)(hdy:(y==("__debug__":ι))=false:=by decide)(hg:Gl X "isinstance":=by rfl)(he:notStar a=true:=by rfl):
  QE X (.Call (.Name "isinstance" p) [a,.Name y p2] [] pos) (pI rs y te):=⟨Nx hk ha.of hm hmy hgy hdy hg he⟩
theorem MH{rs:List ι}{p2:aJ}(hk:∀z∈rs,∀D,dG X.K z D->fV X.K D/\aq X.K (.ref D) (.type "ValueError")=some true)(ha:QE X a te)(hm:X.mg "isinstance" = none)(hmy:X.mg "ValueError" = none)(hgy:Gl X "ValueError":=by rfl)(hg:Gl X "isinstance":=by rfl)(he:notStar a=true:=by rfl):
  QE X (.Call (.Name "isinstance" p) [a,.Name "ValueError" p2] [] pos) (Di rs te):=⟨Nw hk ha.of hm hmy hgy hg he⟩
end
theorem JP{P:Ω}{w:aj}{K:η}{mg:ι->Option ε}{base:af}{N:List ι}{qual:ι}{scope:eY}{f:ζ}{cd:ε}{A:aB}{outer:List cV}{s:θ}{H:Hp}{E:XK}:Frame (ia qb P w K mg base N qual scope f cd A outer s H E).lG:=⟨rfl,rfl,rfl⟩
theorem Jt{P:Ω}{w:aj}{K:η}{mg:ι->Option ε}{base:af}{x qual:ι}{st:aV}{f:ζ}{fd:ay}{N ps:List ι}{k:Nat}{sp:pT}(F:fy K x qual st f fd)(S:bK N ps (ai st))(hN:ps.length≤N.length)(len:∀ds Q E,sp ds Q E->ds.length=ps.length)(tb:E3->aA)
  (gK:∀(cdv:ε) (A:aB) (outer:List cV) (s:θ) (H:Hp) (E:XK) (E':E3),dI k (A.deeper (envOfC qual (ai st) s.heap.objs.size f cdv))->(∀cls dx H',jR K E' cls dx H'->E cls dx H') ->
   pV (ia (fD P w base) P w K mg base N qual (ai st) f cdv A outer s H E) (e8 st) (tb E'))
  (rp:∀ds Q E,sp ds Q E->tb E (aT Q) (bD N ds) gH):t7 P w K mg base (k+1) f fd ps sp:=fnX F S hN len tb (fun cdv A outer s H E E' hr hE=>(gK cdv A outer s H E E' hr hE).of) rp
theorem Ju{P:Ω}{w:aj}{K:η}{mg:ι->Option ε}{base:af}{x qual:ι}{st:aV}{f:ζ}{fd:ay}{N ps:List ι}{k:Nat}{sp:fC}(F:fy K x qual st f fd)(S:bK N ps (ai st))(hN:ps.length≤N.length)(len:∀ds G Q,sp ds G Q->ds.length=ps.length)(tb:aA)
  (gK:∀(cdv:ε) (A:aB) (outer:List cV) (s:θ) (H:Hp) (E:XK),fh k (A.deeper (envOfC qual (ai st) s.heap.objs.size f cdv)) ->
   pV (Bh P w K mg base N qual (ai st) f cdv A outer s H E) (e8 st) tb)
  (rp:∀ds G Q,sp ds G Q->tb (aT Q) (bD N ds) G):v8 P w K mg base (k+1) f fd ps sp:=W0 F S hN len tb (fun cdv A outer s H E hr=>(gK cdv A outer s H E hr).of) rp
end L3
namespace L3
open PySem PySem.Spec PyProof.Rows L2
structure sO(K:η)(C:ζ)(f:ι):Prop where
 ge:pY K C
 hd:tW K C=true
 nm:dP K (.ref C) f=some none
def wD(rs:List ι)(f:ι)(ta:aw):aw:=fun τ G Q=>ta τ G fun x G1=>match x with
 |.obj p=>∃z fs i,G1 p=some (.gen (jT z fs))/\z∈rs/\fs.lookup f=some i/\Q (.int i) G1
 |_=>False
theorem FH(f:ι):∀fs:List (ι×Int),(fs.map fun p=>(p.1,V.int p.2)).lookup f=(fs.lookup f).map V.int
 |[]=>rfl
 |p::fs=>by
  rw[cN,cq,cq,FH f fs];cases f==p.1<;>rfl
theorem MG{K:η}{C:ζ}{od:aL}{f:ι}{u:ε}(a:sO K C f)(hl:qh f od=some (some u)):vh K C (some od) f=some (.value u):=by
 obtain⟨cd,hc,hd⟩:=PySem.W.any_some a.hd;unfold vh PySem.W.ownOf;rw[hc,iE,a.nm,iE];dsimp only[iE];rw[hd,if_pos rfl,hl];rfl
section
variable {X:Cx} {a:ρ} {ta:aw} {pos:aJ} {f:ι}
theorem MF{rs:List ι}(hk:∀z∈rs,∀C,dG X.K z C->sO X.K C f)(ha:bL X a ta)(hb:attributeBase a f X.env (eval a X.env)=eval a X.env:=by rfl):bL X (.Attribute a f pos) (wD rs f ta):=by
 intro pins s σ H Q I ⟨τ,G,Q3,RS,RG,h,k⟩;refine TJ hb (bB (ha pins s σ H (fun v H1=>∃p z fs i,v=.ref p/\jT z fs X.K p H1/\z∈rs/\fs.lookup f=some i/\Q (.int i) H1) I ⟨τ,G,_,RS,RG,h,fun v H1 d G1 h1 S1 R1 q1=>?_⟩) fun u s1 ⟨v,H1,I1,rv,p,z,fs,i,ev,ex,hz,hl,q⟩=>?_)
 ·cases d with
  |obj p=>
   obtain⟨z,fs,i,e1,hz,hl,q2⟩:=q1;exact⟨p,z,fs,i,iI h1,(R1 p _ e1).1,hz,hl,k _ H1 (.int i) G1 ml S1 R1 q2⟩
  |_=>exact q1.elim
 ·subst ev;cases (show u=aQ p from rv);have cu:fs≠[]:=fun w=>by
   rw[w] at hl;cases hl
  obtain⟨C,oe,od,mA,d,cn,J,hod,hns,hrel⟩:=Nz I1.bx ex cu;obtain⟨od2,h2,lk⟩:=TK hns;rw[hod] at h2;cases h2;have hf:=hrel f;rw[FH,hl] at hf;obtain⟨u,hu,ru⟩:=qR.some_of (v:=V.int i) (o:=mA f) hf;obtain⟨tk,rfl⟩:=(show ∃t,u=mr i t from ru);have A1:=hk z hz C cn;exact exc_value A1.ge I1.gI J (MG A1 (by rw[lk,hu])) rfl ⟨.int i,H1,I1.tok _,⟨tk,rfl⟩,q⟩
theorem FG{rs:List ι}(hk:∀z∈rs,∀C,dG X.K z C->sO X.K C f)(ha:QE X a ta)(hb:attributeBase a f X.env (eval a X.env)=eval a X.env:=by rfl):QE X (.Attribute a f pos) (wD rs f ta):=⟨MF hk ha.of hb⟩
end
end L3
namespace L3
open PySem PySem.Spec PyProof.Rows L2
theorem ME{K:η}{C B:ζ}{init:Option ε}{newId:String}(e:excIn K C (.ref B::hU) init newId=true):∃cd,iP K C=some cd/\cd.mro=.ref C::.ref B::hU/\cd.hasDict=true:=by
 obtain⟨nm,qn,N,bs,sn,sub,ab,col,dd,k0,k1,k2,k3,k5,lk⟩:=BK e;unfold iP;rw[lk];exact⟨_,rfl,rfl,rfl⟩
theorem MD{K:η}{C:ζ}{bm:List ε}{init:Option ε}{newId:String}(e:excIn K C bm init newId=true):(iP K C).isSome=true:=by
 obtain⟨nm,qn,N,bs,sn,sub,ab,col,dd,k0,k1,k2,k3,k5,lk⟩:=BK e;unfold iP;rw[lk];rfl
theorem MC{K:η}{f:ζ}{T:ε}(h:qg K (.ref f)=some T):∃o,K.lookup f=some o/\o.cls=T:=by
 unfold qg at h;cases q:K.lookup f with
 |none=>simp[q] at h
 |some o=>
  simp[q] at h;exact⟨o,rfl,h⟩
theorem ja{us:List ε}(h:us.length=1):∃a,us=[a]:=pN.mp h
theorem uA{us:List ε}(h:us.length=2):∃a b,us=[a,b]:=by
 rcases us with _|⟨a,us⟩
 ·cases h
 ·obtain⟨b,rfl⟩:=ja (us:=us) (Nat.succ.inj h);exact⟨a,b,rfl⟩
theorem WS{us:List ε}(h:us.length=3):∃a b c,us=[a,b,c]:=by
 rcases us with _|⟨a,us⟩
 ·cases h
 ·obtain⟨b,c,rfl⟩:=uA (us:=us) (Nat.succ.inj h);exact⟨a,b,c,rfl⟩
end L3
namespace My
open PySem L2 L3
theorem FF(G:Gp):Sub gH G:=fun _ _ e=>nomatch e
end My
namespace L3
open PySem PySem.Spec PyProof.Rows L2
def g7:HO->Bool
 |.lst _=>true
 |.ext _=>true
 |_=>false
def cJ(h:af)(H:Hp):Hp:=fun a=>match H a with
 |some o=>if g7 o then (h.get? a).map fun ob=>.cP ob o else if eS o then some o else none
 |none=>none
section
variable {P:Ω} {w:aj} {H H':Hp} {h h':af} {a b:ζ} {o:HO} {fs:List ζ} {ob:aL}
theorem MB(v:eS o=true):g7 o=false:=by
 cases o with
 |lst xs=>cases v
 |ext φ=>cases v
 |_=>rfl
theorem vw(e:H a=none):cJ h H a=none:=by unfold cJ;rw[e]
theorem nS(e:H a=some o)(v:eS o=true):cJ h H a=some o:=by
 unfold cJ;rw[e];show (if g7 o=true then _ else if eS o=true then some o else none)=_;rw[if_neg (by rw[MB v];exact au),if_pos v]
theorem BJ(e:H a=some o)(v:eS o=false)(n:g7 o=false):cJ h H a=none:=by
 unfold cJ;rw[e];show (if g7 o=true then _ else if eS o=true then some o else none)=_;rw[if_neg (by rw[n];exact au),if_neg (by rw[v];exact au)]
theorem xh(e:H a=some o)(n:g7 o=true)(q:h.get? a=some ob):cJ h H a=some (.cP ob o):=by
 unfold cJ;rw[e];show (if g7 o=true then (h.get? a).map _ else if eS o=true then some o else none)=_;rw[if_pos n,q];rfl
theorem FE(e:cJ h H a=some o):(H a=some o/\eS o=true)∨∃u ob,H a=some u/\g7 u=true/\h.get? a=some ob/\o=.cP ob u:=by
 cases q:H a with
 |none=>rw[vw q] at e;cases e
 |some u=>
  cases n:g7 u with
  |true=>
   cases g:h.get? a with
   |none=>
    unfold cJ at e;rw[q] at e;have e':(if g7 u=true then (h.get? a).map fun ob=>HO.cP ob u else if eS u=true then some u else none)=some o:=e;rw[if_pos n,g] at e';cases e'
   |some ob=>
    rw[xh q n g] at e;exact .inr ⟨u,ob,rfl,n,rfl,(ao e).symm⟩
  |false=>
   cases v:eS u with
   |true=>
    rw[nS q v] at e;cases e;exact .inl ⟨rfl,v⟩
   |false=>
    rw[BJ q v n] at e;cases e
theorem FD(e:cJ h H a=some o):eS o=true:=by
 rcases FE e with⟨_,v⟩|⟨u,ob,_,n,_,rfl⟩
 ·exact v
 ·cases u with
  |lst xs=>rfl
  |ext φ=>rfl
  |_=>cases n
theorem MA(ok:dJ P w H h):dJ P w (cJ h H) h:=fun a o e=>by
 rcases FE e with⟨e1,v⟩|⟨u,ob,e1,n,q,rfl⟩
 ·exact GK v (ok a o e1)
 ·cases u with
  |lst xs=>
   obtain⟨z,its,n,r,p⟩:=ok a _ e1;exact⟨q,z,its,n,r,p⟩
  |ext φ=>exact⟨q,ok a _ e1⟩
  |_=>cases n
variable (ok:dJ P w H h) (hfs:∀b∈fs,H b=none) (u:Un fs [] (cJ h H) H' h h') (ok':dJ P w H' h')
include ok u
theorem DX(e:H b=some o)(v:eS o=false)(n:g7 o=false):H' b=none:=by
 obtain⟨ob,q⟩:=bV.there (ok b o e);exact u.free b ob q (BJ e v n) (by simp)
theorem JJ(e:H b=some o)(n:g7 o=true):∃ob,h.get? b=some ob/\H' b=some (.cP ob o):=by
 obtain⟨ob,q⟩:=bV.there (ok b _ e);exact⟨ob,q,u.hZ b ob _ (xh e n q)⟩
theorem qL(e:H' b=some o)(n:∀ob u,g7 u=true->o≠.cP ob u):joined H H' b=some o:=by
 cases q:H b with
 |none=>rw[pE q];exact e
 |some x=>
  cases v:eS x with
  |true=>rw[qx q v];exact e
  |false=>
   cases l:g7 x with
   |true=>
    obtain⟨ob,_,z⟩:=JJ ok u q l;rw[z] at e;exact absurd (ao e).symm (n ob x l)
   |false=>
    rw[DX ok u q v l] at e;cases e
include hfs ok'
theorem BI:Un fs [] H (joined H H') h h'/\dJ P w (joined H H') h':=by
 have kept:∀b x ob,H b=some x->eS x=false->h.get? b=some ob->h'.get? b=some ob:=fun b x ob e v q=>by
  cases l:g7 x with
  |true=>
   obtain⟨ob',q',z⟩:=JJ ok u e l;rw[q] at q';cases q';exact (ok' b _ z).1
  |false=>exact u.keep b ob q (BJ e v l) (fun z=>by rw[hfs b z] at e;cases e) (by simp)
 refine⟨⟨fun b ob q n h3 h4=>u.keep b ob q (vw n) h3 h4,fun b ob q n h3 h4=>u.slot b ob q (vw n) h3 h4,fun b ob q n h3=>by rw[pE n];exact u.free b ob q (vw n) h3,
  fun b ob q h3=>u.there b ob q h3,fun b xs e=>qL ok u (u.hV b xs (nS e rfl)) (fun _ u n z=>by cases z),fun b ob x e=>?_,fun b ps e=>⟨#[],by rw[tm];exact kJ e rfl⟩⟩,fun b x e=>?_⟩
 ·cases v:eS (.cP ob x) with
  |true=>
   rw[qx e v];exact u.hZ b ob x (nS e v)
  |false=>exact kJ e v
 ·have mono:H' b=some x->bV P w (joined H H') h' b x:=fun z=>(ok' b x z).km (fun _ _ _ q=>q) (fun c q=>qL ok u q fun _ u n z=>by cases z) (fun c xs q=>qL ok u q fun _ u n z=>by cases z);cases q:H b with
  |none=>
   rw[pE q] at e;exact mono e
  |some y=>
   cases v:eS y with
   |true=>
    rw[qx q v] at e;exact mono e
   |false=>
    rw[kJ q v] at e;obtain rfl:=ao e;refine (ok b _ q).km (fun c ob hc z=>?_) (fun c z=>kJ z rfl) (fun c xs z=>qL ok u (u.hV c xs (nS z rfl)) fun _ u n z=>by cases z);rcases hc with rfl|hc
    ·exact kept _ _ _ q v z
    ·exact kept _ _ _ hc rfl z
end
mutual
def kg:D->Bool
 |.tup ds=>mn ds
 |.dA _=>false
 |.dc _=>false
 |_=>true
def mn:List D->Bool
 |[]=>true
 |d::ds=>kg d&&mn ds
end
def GO.kg:GO->Prop
 |.lst ds=>mn ds=true
 |.gen _=>False
 |_=>True
def tO(G:Gp):Prop:=∀a o,G a=some o->GO.kg o
theorem tO.no:tO gH:=fun _ _ e=>nomatch e
def rk(G:Gp):D->D
 |.obj p=>match G p with
  |some (.lst xs)=>.dA xs
  |some .eL=>.dc p
  |_=>.obj p
 |d=>d
section
variable {K:η} {H H':Hp} {h:af}
theorem cY.cJ{a:ζ}{xs:List V}(q:cY K H a xs):cY K (cJ h H) a xs:=by
 rcases q with (q|⟨o,q⟩)|q
 ·exact .inl (.inl (nS q rfl))
 ·exact .inl (.inr ⟨o,nS q rfl⟩)
 ·exact .inr q
theorem kB.cJ{a:ζ}{xs:List V}(q:kB K H a xs):kB K (cJ h H) a xs:=by
 rcases q with⟨o,q⟩|q
 ·exact .inl ⟨o,nS q rfl⟩
 ·exact .inr q
mutual
theorem Hv.cJ:∀{d:D} {v:V},Hv K H d v->Hv K (cJ h H) d v
 |.av,_,q=>by simpa [Hv] using q
 |.bl _,_,q=>by simpa [Hv] using q
 |.int _,_,q=>by simpa [Hv] using q
 |.str _,_,q=>by simpa [Hv] using q
 |.obj _,_,q=>by simpa [Hv] using q
 |.dc a,v,q=>by
  unfold Hv at q ⊢;obtain⟨e,ob,φ,q,c⟩:=q;exact⟨e,ob,φ,nS q rfl,c⟩
 |.tup ds,v,q=>by
  unfold Hv at q ⊢;obtain⟨a,vs,e,q,r⟩:=q;exact⟨a,vs,e,cY.cJ q,aD.cJ r⟩
 |.dA ds,v,q=>by
  unfold Hv at q ⊢;obtain⟨a,vs,e,q,r⟩:=q;exact⟨a,vs,e,kB.cJ q,aD.cJ r⟩
theorem aD.cJ:∀{ds:List D} {vs:List V},aD K H ds vs->aD K (cJ h H) ds vs
 |[],_,q=>by simpa [aD] using q
 |d::ds,vs,q=>by
  unfold aD at q ⊢;obtain⟨v,r,e,q,z⟩:=q;exact⟨v,r,e,Hv.cJ q,aD.cJ z⟩
end
mutual
theorem Hv.bare(t:∀a xs,H a=some (.tup xs)->H' a=some (.tup xs))(f:∀a o xs,H a=some (.cP o (.tup xs))->H' a=some (.cP o (.tup xs))):∀{d:D} {v:V},kg d=true->Hv K H d v->Hv K H' d v
 |.av,_,_,q=>by simpa [Hv] using q
 |.bl _,_,_,q=>by simpa [Hv] using q
 |.int _,_,_,q=>by simpa [Hv] using q
 |.str _,_,_,q=>by simpa [Hv] using q
 |.obj _,_,_,q=>by simpa [Hv] using q
 |.tup ds,v,n,q=>by
  unfold Hv at q ⊢;unfold kg at n;obtain⟨a,vs,e,q,r⟩:=q;refine⟨a,vs,e,?_,aD.bare t f n r⟩;rcases q with (q|⟨o,q⟩)|q
  ·exact .inl (.inl (t _ _ q))
  ·exact .inl (.inr ⟨o,f _ _ _ q⟩)
  ·exact .inr q
 |.dA ds,v,n,q=>by
  unfold kg at n;cases n
 |.dc a,v,n,q=>by
  unfold kg at n;cases n
theorem aD.bare(t:∀a xs,H a=some (.tup xs)->H' a=some (.tup xs))(f:∀a o xs,H a=some (.cP o (.tup xs))->H' a=some (.cP o (.tup xs))):∀{ds:List D} {vs:List V},mn ds=true->aD K H ds vs->aD K H' ds vs
 |[],_,_,q=>by simpa [aD] using q
 |d::ds,vs,n,q=>by
  unfold aD at q ⊢;unfold mn at n;rw[bA] at n;obtain⟨v,r,e,q,z⟩:=q;exact⟨v,r,e,Hv.bare t f n.1 q,aD.bare t f n.2 z⟩
end
theorem FC{G:Gp}{p:ζ}{xs:List D}(e:G p=some (.lst xs)):rk G (.obj p)=.dA xs:=by
 show (match G p with|some (.lst xs)=>D.dA xs|some .eL=>D.dc p|_=>D.obj p)=_
 rw[e]
theorem FA{G:Gp}{p:ζ}(e:G p=some .eL):rk G (.obj p)=.dc p:=by
 show (match G p with|some (.lst xs)=>D.dA xs|some .eL=>D.dc p|_=>D.obj p)=_
 rw[e]
theorem Mz{G:Gp}{p:ζ}(e:∀xs,G p≠some (.lst xs))(e2:G p≠some .eL):rk G (.obj p)=.obj p:=by
 show (match G p with|some (.lst xs)=>D.dA xs|some .eL=>D.dc p|_=>D.obj p)=_
 cases q:G p with
 |none=>rfl
 |some g=>cases g with
  |lst xs=>exact absurd q (e xs)
  |eL=>exact absurd q e2
  |_=>rfl
theorem Mx{P:Ω}{w:aj}{G:Gp}(ok:dJ P w H h)(R:aM K G H){d:D}{v:V}(q:Hv K H d v):Hv K (cJ h H) (rk G d) v:=by
 cases d with
 |obj p=>
  by_cases e:∃xs,G p=some (.lst xs)
  ·obtain⟨xs,e⟩:=e;rw[FC e];obtain⟨vs,e1,e2⟩:=R p _ e;obtain⟨ob,e3⟩:=bV.there (ok p _ e1);rw[iI q];unfold Hv;exact⟨p,vs,rfl,.inl ⟨ob,xh e1 rfl e3⟩,e2.cJ⟩
  by_cases e':G p=some .eL
  ·rw[FA e'];have e1:H p=some (.ext fun h=>∃o,h.get? p=some o/\o.cls=.type "dict"):=R p _ e';obtain⟨⟨ob,h1,h2⟩,_⟩:=(show bV P w H h p _ from ok p _ e1);unfold Hv;exact⟨iI q,ob,_,xh e1 rfl h1,h2⟩
  ·rw[Mz (fun xs z=>e ⟨xs,z⟩) e'];exact q.cJ
 |_=>exact q.cJ
theorem Mw{P:Ω}{w:aj}{G:Gp}(ok:dJ P w H h)(R:aM K G H):∀{ds:List D} {vs:List V},aD K H ds vs->aD K (cJ h H) (ds.map (rk G)) vs:=by
 intro ds
 induction ds with
 |nil=>intro vs q;cases q.gz;exact .nil
 |cons d ds ih=>
  intro vs q;obtain⟨v,r,rfl,z1,z2⟩:=q.inv;exact .cons (Mx ok R z1) (ih z2)
end
section
variable {X:Cx} {k:Nat} {f:ζ} {fd:ay} {ps:List ι} {sp:pT} {E:E3} {x:ι} {p pos:aJ} {e:ρ} {es:List ρ} {t:cw}
theorem Fz{K:η}{P:Ω}{w:aj}{fs:List ζ}{H H':Hp}{h h':af}{G1 G':Gp}{d:D}{v:V}(ok:dJ P w H h)(hfs:∀b∈fs,H b=none)(u:Un fs [] (cJ h H) H' h h')(ok':dJ P w H' h')
  (R1:aM K G1 H) (hd:kg d=true) (hG:tO G') (hv:Hv K H' d v) (S:Step (cJ h H) gH H' G') (R':aM K G' H'):
  Hv K (joined H H') d v/\Step H G1 (joined H H') (both G1 G')/\aM K (both G1 G') (joined H H')/\Joins G1 G' (both G1 G'):=by
 have t2:∀a xs,H' a=some (.tup xs)->joined H H' a=some (.tup xs):=fun a xs e=>qL ok u e fun _ u n z=>by cases z
 have f2:∀a o xs,H' a=some (.cP o (.tup xs))->joined H H' a=some (.cP o (.tup xs)):=fun a o xs e=>qL ok u e fun _ u n z=>by cases z;cases n
 have E1:Ext H (joined H H'):=by
  obtain⟨u2,_⟩:=BI ok hfs u ok';exact⟨u2.hV,u2.hZ⟩
 have outG:∀a,G' a≠none->H a=none:=fun a n=>by
  have z:cJ h H a=none:=S.new a rfl n;cases q:H a with
  |none=>rfl
  |some o=>
   cases v:eS o with
   |true=>rw[nS q v] at z;cases z
   |false=>
    cases l:g7 o with
    |true=>
     obtain⟨ob,e3⟩:=bV.there (ok a _ q);rw[xh q l e3] at z;cases z
    |false=>
     have:=DX ok u q v l;cases q':G' a with
     |none=>exact absurd q' n
     |some g=>
      obtain⟨o',z',_⟩:=(R' a g q').mut;rw[this] at z';cases z'
 have out1:∀a,G' a≠none->G1 a=none:=fun a n=>R1.free (outG a n);refine⟨hv.bare t2 f2 hd,⟨fun a o e n=>?_,fun a n=>?_,fun a n q=>?_⟩,fun a g e=>?_,⟨fun a o e=>by simp[both,e],fun a o e=>by simp[both,out1 a (by rw[e];simp),e],out1⟩⟩
 ·cases v:eS o with
  |true=>
   rw[qx e v];exact S.fr a o (nS e v) rfl
  |false=>exact kJ e v
 ·cases q:H a with
  |none=>exact absurd q n
  |some o=>
   cases v:eS o with
   |true=>
    rw[qx q v];exact S.mX a (by rw[nS q v];simp)
   |false=>rw[kJ q v];simp
 ·simp only[both,n] at q;exact outG a q
 ·cases q:G1 a with
  |some o=>
   simp only[both,q] at e;cases e;obtain⟨o',z,h1,h2⟩:=(R1 a g q).mut;have hv:eS o'=false:=by
    cases o' with
    |tup xs=>exact absurd rfl (h1 xs)
    |cP ob y=>exact absurd rfl (h2 ob y)
    |_=>rfl
   exact (R1 a g q).ext E1 (by rw[kJ z hv,z])
  |none=>
   simp only[both,q] at e;have hn:=outG a (by rw[e];simp);have ha:joined H H' a=H' a:=pE hn;have hg:=hG a g e;cases g with
   |lst ds=>
    obtain⟨vs,e1,e2⟩:=R' a _ e;exact⟨vs,ha.trans e1,e2.bare t2 f2 hg⟩
   |mm=>
    obtain⟨i,j,l,e1,e2⟩:=R' a _ e;exact⟨i,j,l,ha.trans e1,e2⟩
   |eL=>exact ha.trans (R' a _ e)
   |gen R=>exact hg.elim
theorem Kv{P:Ω}{w:aj}{H H':Hp}{fs:List ζ}{h h':af}(u:Un fs [] (cJ h H) H' h h'):Step (cJ h H) gH H' gH:=by
 have fr:∀a o,cJ h H a=some o->H' a=some o:=fun a o e=>by
  have v:=FD e;cases o with
  |tup xs=>exact u.hV a xs e
  |cP ob y=>exact u.hZ a ob y e
  |_=>cases v
 refine⟨fun a o e _=>fr a o e,fun a n=>?_,fun a _ q=>absurd rfl q⟩;cases q:cJ h H a with
 |none=>exact absurd q n
 |some o=>rw[fr a o q];simp
theorem fD.cJ{P:Ω}{w:aj}{K:η}{base:af}{outer:List cV}{H:Hp}{s s':θ}{G1:Gp}{ev:ε}(ok:dJ P w H s.heap)(hfs:∀b∈fx outer,H b=none)(R1:aM K G1 H)(h:fD P w base outer (cJ s.heap H) s (jR K E) ev s'):
  fD P w base outer H s (uQ K E H G1) ev s':=by
 obtain⟨e,T,C,dx,H',rfl,os,bare,u,ok',tr,⟨hHe,hHT⟩,hen,⟨he0,hT0⟩,x,C',fs,ec,cn,q,dd⟩:=h;obtain⟨u2,ok2⟩:=BI ok hfs u ok';obtain⟨_,z2,z3,_⟩:=Fz (G':=gH) (d:=.av) (v:=.av) ok hfs u ok' R1 rfl tO.no (by simp[Hv]) (Kv (P:=P) (w:=w) u) (fun _ _ e=>nomatch e);rw[FP] at z2 z3;have out:∀b,s.heap.get? b=none->H' b=none->joined H H' b=none:=fun b hb hn=>by
  cases hq:H b with
  |none=>rw[pE hq];exact hn
  |some o=>
   obtain⟨ob,e'⟩:=bV.there (ok b o hq);rw[hb] at e';cases e'
 refine⟨e,T,C,dx,joined H H',rfl,os,bare,u2,ok2,tr,⟨out _ he0 hHe,out _ hT0 hHT⟩,hen,⟨he0,hT0⟩,⟨x,C',fs,ec,cn,q,?_⟩,z3,z2⟩;rcases dd with⟨d1,d2⟩|⟨d,o,d1,d2⟩
 ·exact .inl ⟨d1,d2⟩
 ·exact .inr ⟨d,o,d1,qL ok u d2 fun _ u n z=>by cases z;cases n⟩
def wt(G1:Gp)(Q3:V3):V3:=fun d G'=>kg d=true/\tO G'/\∀G2,Joins G1 G' G2->Q3 d G2
theorem Mv{pins:List (ζ×aL)}{σ:L2.St}{H:Hp}{s:θ}{Q:VK}{G1:Gp}{Q3:V3}{ds:List D}{us:List ε}{vs:List V}{XE:ε->θ->Prop}(F:t7 X.prog X.w X.K X.mg X.base k f fd ps sp)(hr:dI k X.A)(hb:Binds X.K fd ps [])
  (hx:∀ev s',fD X.prog X.w X.base X.stack H s (uQ X.K E H G1) ev s'->XE ev s')
  (I:Inv X pins σ H s) (r:aU vs us) (hd:aD X.K H ds vs) (R1:aM X.K G1 H) (h:sp (ds.map (rk G1)) (wt G1 Q3) E) (kk:∀v H' d G',Hv X.K H' d v->Step H G1 H' G'->aM X.K G' H'->Q3 d G'->Q v H'):
  π (model X.prog X.w) X.A (call (.ref f) us) (EP X pins σ Q) XE s:=by
 have hq:CZ X.K sp vs (cJ s.heap H) (fun v H'=>∃d G',Hv X.K H' d v/\Step (cJ s.heap H) gH H' G'/\aM X.K G' H'/\wt G1 Q3 d G') (jR X.K E):=
  ⟨ds.map (rk G1),_,E,Mw I.bx R1 hd,fun a o e=>FD e,h,fun v H' d G' a b c q=>⟨d,G',a,b,c,q⟩,fun _ _ _ z=>z⟩
 have hl:(us++[]).length=ps.length:=by rw[bO,←r.length];exact F.len _ _ _ _ hq
 have e0:sP X.prog X.w X.K X.mg X.base X.A X.stack s (cJ s.heap H):=⟨I.ok.frames,I.ok.mod,fun b o e=>⟨(I.bs b o e).1,vw (I.bs b o e).2⟩,aK I.ok.rA I.sz,I.stack,fun b hb=>vw (I.gB b hb),MA I.bx,I.bare⟩;have hb':=hb s us I.gI hl;rw[bO] at hb';refine gO (eV (F.run X.A X.stack s (cJ s.heap H) ⟨us,[]⟩ us vs _ (jR X.K E) hr e0 hb' r hq) fun r s' hq'=>?_);cases r with
 |error e=>exact hx e s' (fD.cJ I.bx I.gB R1 hq')
 |ok fl=>
  cases fl with
  |ret u=>
   obtain⟨v,H',os,bare,un,bx,rv,d,G',a,b,c,q1,q2,q⟩:=hq';obtain⟨un2,ok2⟩:=BI I.bx I.gB un bx;obtain⟨z1,z2,z3,z4⟩:=Fz I.bx I.gB un bx R1 q1 q2 a b c;exact I.after ⟨v,joined H H',os,bare,un2,ok2,rv,kk v _ d _ z1 z2 z3 (q _ z4)⟩
  |next=>exact bR hq'
  |brk=>exact bR hq'
  |cont=>exact bR hq'
def vZ(sp:pT)(t:cw):yA:=fun KX τ G Q=>t τ G fun ds G1=>sp (ds.map (rk G1)) (wt G1 Q) (KX τ G1)
theorem Mu(F:t7 X.prog X.w X.K X.mg X.base k f fd ps sp)(hr:dI k X.A)(hm:X.mg x=some (.ref f))(hk:bS X.K (.ref f)=true)(hb:Binds X.K fd ps [])(ha:ig X.lG (e::es) t)(hg:Gl X x:=by rfl)
  (hdb:(x==("__debug__":ι))=false:=by decide) (he:notStar e=true:=by rfl) (hpl:es.all notStar=true:=by rfl):
  J5 X (.Call (.Name x p) (e::es) [] pos) (vZ sp t):=by
 intro pins s σ H Q XE τ G Q3 KX I RS RG h kk xx;refine eN (um I hg hm ?_ hdb);refine gP (h₀:=X.base) I.ok.mod.sx hk (cH (ha pos pins s σ H (fun vs H1=>∃ds G1,aD X.K H1 ds vs/\Step H G H1 G1/\aM X.K G1 H1/\sp (ds.map (rk G1)) (wt G1 Q3) (KX τ G1)) (I.nO _)
  ⟨τ,G,_,RS,RG,h,fun vs H1 ds G1 a b c q=>⟨ds,G1,a,b,c,q⟩⟩) (fun us s1 ⟨vs,H1,I1,r,ds,G1,hd,S1,R1,q⟩=>⟨I1.gI,?_⟩) fun _ _ z=>bR z) (dY he) (jG hpl)
 exact Mv F hr hb (fun ev s' h=>xx σ τ H1 s1 G1 ev s' I1.j0 (RS.ext (S1.ext RG)) R1 S1 h) I1.j0 r hd R1 q fun v H' d G' a b c q=>kk v H' d G' a (S1.trans b) c q
end
end L3
namespace My
open PySem L2 L3 Tx
def fO(m:Int):List ι->Nat->bY->Option Nat
 |[],k,_=>if (k:Int)≤m then some (k+1) else none
 |row::rs,k,last=>if m<(k:Int) then some (k+1) else match dU "clock" 2 row with
  |[s,r]=>if fB s r&&fw (last,(s,r)) then fO m rs (k+1) (s,r) else some (k+1)
  |_=>some (k+1)
def uF:List ι->Option Nat
 |[]=>none
 |r0::rs=>match dU "clocks" 1 r0 with
  |[m]=>if m≤12 then fO m rs 1 (0,0) else some 1
  |_=>some 1
theorem Fy{r0:ι}{rs:List ι}(h:dU "clocks" 1 r0=[]):uF (r0::rs)=some 1:=by
 show (match dU "clocks" 1 r0 with
  |[m]=>if m≤12 then fO m rs 1 (0,0) else some 1
  | _=>some 1)=some 1
 rw[h]
theorem xg{r0:ι}{rs:List ι}{m:Int}(h:dU "clocks" 1 r0=[m]):uF (r0::rs)=if m≤12 then fO m rs 1 (0,0) else some 1:=by
 show (match dU "clocks" 1 r0 with
  |[m]=>if m≤12 then fO m rs 1 (0,0) else some 1
  | _=>some 1)=_
 rw[h]
def v5(t:ι):Option Nat:=uF (Txt.split t "\n")
theorem Fx{name:ι}{many:Nat}{row:ι}:dU name many row=[]∨(dU name many row).length=many:=by
 unfold dU pS;by_cases h:lQ name many (Txt.split row " ")=true
 ·rw[if_pos h];refine .inr ?_;unfold lQ at h;simp only[bA,decide_eq_true_eq] at h;rw[ο,fu];lia
 ·rw[if_neg h];exact .inl rfl
theorem Mt{name row:ι}:dU name 1 row=[]∨∃m,dU name 1 row=[m]:=by
 rcases Fx (name:=name) (many:=1) (row:=row) with h|h
 ·exact .inl h
 ·exact .inr (pN.mp h)
theorem BH{name row:ι}:dU name 2 row=[]∨∃a b,dU name 2 row=[a,b]:=by
 rcases Fx (name:=name) (many:=2) (row:=row) with h|h
 ·exact .inl h
 ·refine .inr ?_
  match e:dU name 2 row with
  |[a,b]=>exact⟨a,b,rfl⟩
  |[]=>rw[e] at h;cases h
  |[_]=>rw[e] at h;cases h
  |_::_::_::_=>rw[e] at h;simp at h
structure Bn(cs:List bY):Prop where
 ok:jV 1000 cs
 len:cs.length≤12
 rise:mO cs
def jv(cs:List bY):bY:=cs.getLast?.getD (0,0)
theorem lT{s r:Int}:fB s r=true↔Valid (s,r)/\s≤1000:=by
 unfold fB;simp only[bA,decide_eq_true_eq];constructor
 ·rintro⟨⟨h1,h2⟩,h3,h4⟩;exact⟨⟨by show 0<s;lia,h3,h4⟩,h2⟩
 ·rintro⟨⟨h1,h2,h3⟩,h4⟩;have h1:0<s:=h1;exact⟨⟨by lia,h4⟩,h2,h3⟩
theorem tG{a b:bY}:fw (a,b)=true↔Bj a b:=by
 obtain⟨s,r⟩:=a;obtain⟨s',r'⟩:=b;show (if s=s' then (if r=r' then false else decide (r<r')) else decide (s<s'))=true↔s<s'∨(s=s'/\r<r');by_cases h:s=s'
 ·rw[if_pos h];by_cases h2:r=r'
  ·rw[if_pos h2];simp[h,h2]
  ·rw[if_neg h2,decide_eq_true_iff];lia
 ·rw[if_neg h,decide_eq_true_iff];lia
theorem Fw:∀(cs:List bY) (c:bY),pJ (cs++[c])=(pJ cs&&match cs.getLast? with
  |some l=>fw (l,c)
  | none=>true)
 |[],c=>rfl
 |[a],c=>by
  show (fw (a,c)&&true)=(true&&fw (a,c));simp
 |a::b::cs,c=>by
  have ih:=Fw (b::cs) c;show (fw (a,b)&&pJ (b::cs++[c]))=((fw (a,b)&&pJ (b::cs))&&_);rw[ih,List.getLast?_cons_cons,Bool.and_assoc]
theorem Ms{cs:List bY}:mO cs->pJ cs=true:=by
 induction cs with
 |nil=>exact fun _=>rfl
 |cons a cs ih=>
  intro h;cases cs with
  |nil=>rfl
  |cons b cs=>
   have h':=mx.mp h;show (fw (a,b)&&pJ (b::cs))=true;rw[tG.mpr (h'.1 b ψ),ih h'.2];rfl
theorem Mr{cs:List bY}(ok:jV 1000 cs):(cs.map cD).all iA=true:=by
 rw[oQ];refine bT.mpr fun c hc=>?_;exact lT.mpr (ok c hc)
theorem Mq{cs:List bY}(h:Bn cs)(hl:cs.length<12)(d:D):uV (.tup (cs.map cD++[d]))=(iA d&&match cs.getLast? with
  |some l=>fw (l,qQ d)
  | none=>true):=by
 show (decide ((cs.map cD++[d]).length≤12)&&((cs.map cD++[d]).all iA&&pJ ((cs.map cD++[d]).map qQ)))=_;rw[ar,ο,List.all_append,Mr h.ok,bN,Gq];show (decide (cs.length+1≤12)&&((true&&(iA d&&true))&&pJ (cs++[qQ d])))=_;rw[Fw,Ms h.rise,decide_eq_true (by lia)];simp
theorem Bn.snoc{cs:List bY}(h:Bn cs)(hl:cs.length<12){c:bY}(hv:Valid c/\c.1≤1000)(hlt:∀l,cs.getLast?=some l->Bj l c):Bn (cs++[c]):=by
 refine⟨fun z hz=>?_,by rw[ar];show cs.length+1≤12;lia,?_⟩
 ·rcases bM.mp hz with z1|z1
  ·exact h.ok z z1
  ·rw[cR.mp z1];exact hv
 ·unfold mO;rw[lh];refine⟨h.rise,oX _ _,fun a ha b hb=>?_⟩;rw[cR.mp hb];cases e:cs.getLast? with
  |none=>
   rw[List.getLast?_eq_none_iff.mp e] at ha;cases ha
  |some l=>
   have hlc:=hlt l e;obtain⟨ys,rfl⟩:=List.getLast?_eq_some_iff.mp e;rcases bM.mp ha with z|z
   ·have h1:=(lh.mp h.rise).2.2 a z l ψ;have h1:a.1<l.1∨(a.1=l.1/\a.2<l.2):=h1;have h2:l.1<c.1∨(l.1=c.1/\l.2<c.2):=hlc;show a.1<c.1∨(a.1=c.1/\a.2<c.2);lia
   ·rw[cR.mp z];exact hlc
def xJ(E:E3)(k:Int):Prop:=E "NoText" [("row",k)]
def xf:pT:=fun ds Q E=>∃row:ι,ds=[.str row]/\row.length≤900000/\(dU "clocks" 1 row=[]->xJ E 1)/\∀m,dU "clocks" 1 row=[m]->(12<m->xJ E 1)/\(m≤12->Q (.int m) gH)
def M0(E:E3):aA:=bZ (aE dh (υ 1) (eC (.int 0)))
def MZ(E:E3):aA:=bh (fv (kQ (bj (aE (dF false) (υ 1) (fo (ae)))) (bj (aE yK (aE dh (υ 1) (eC (.int 0))) (eC (.int 12))))) (pR "NoText" ["row"] E (ξ (eC (.int 1)) (ae))) (cT)) (M0 E)
def Fv(E:E3):aA:=bh (b9 (bG vB (ξ (eC (.str "clocks")) (ξ (eC (.int 1)) (ξ (υ 0) (ae))))) (hName 1)) (MZ E)
theorem MY:∀ds Q E,xf ds Q E->Fv E (aT Q) (bD ["row","numbers"] ds) gH:=by
 rintro ds Q E ⟨row,rfl,hl,q0,q1⟩;refine⟨"clocks",row,1,rfl,hl,fun p1 G1 n1=>?_⟩;intro p2 G2 n2;have e2:=n2.sub _ _ n1.at_;rcases Mt (name:="clocks") (row:=row) with h|⟨m,h⟩
 ·rw[h] at e2;refine⟨_,_,r8 e2 (xs:=[]) rfl,r8 n2.at_ (xs:=[]) rfl,by show max 0 0+1≤50;decide,fun _=>⟨fun _=>⟨[1],rfl,rfl,q0 h⟩,nofun⟩,nofun⟩
 ·obtain⟨q2,q3⟩:=q1 m h;rw[h] at e2;refine⟨_,_,r8 e2 (xs:=[.int m]) rfl,r8 n2.at_ (xs:=[]) rfl,by show max 0 0+1≤50;decide,nofun,fun _=>?_⟩;refine⟨_,.int m,e2,rfl,fun g=>?_,fun g=>?_⟩
  ·have g':m > 12:=of_decide_eq_true g;exact⟨[1],rfl,rfl,q2 g'⟩
  ·have g':¬m > 12:=of_decide_eq_false g;exact⟨_,.int m,e2,rfl,vG (FF _) (q3 (by lia))⟩
def xc:pT:=fun ds Q E=>∃d:D,ds=[d]/\((∃t:ι,d=.str t/\t.length≤900000/\(∀k:Nat,v5 t=some k->xJ E k)/\(v5 t=none->∀cs,Q (sI cs) gH))∨(gJ "str" gH d=some false/\xJ E 0))
def Fu(E:E3):aA:=fv (kQ (bj (aE (dF false) (υ 4) (υ 2))) (kR (bj (bG xk (ξ (υ 3) (ae)))))) (pR "NoText" ["row"] E (ξ (aE df (υ 4) (eC (.int 2))) (ae))) (cT)
def MX(E:E3):aA:=bh (b9 (aE df (υ 3) (pH (ξ (cL xm (ξ (bG vB (ξ (eC (.str "clock")) (ξ (eC (.int 2)) (ξ (υ 5) (ae))))) (ae))) (ae)))) (hName 3)) (Fu E)
def MW(E:E3):aA:=bZ (υ 3)
def MV(E:E3):aA:=bh (fv (bj (aE nk (cL i7 (ξ (υ 3) (ae))) (υ 2))) (pR "NoText" ["row"] E (ξ (aE df (cL i7 (ξ (υ 1) (ae))) (eC (.int 1))) (ae))) (cT)) (MW E)
def Ft(E:E3):aA:=bh (lL (zU (ξ (kP (υ 1) (fM (eC (.int 1))) (gx)) (ae))) (sE 2 (iX (hName 4) (iX (hName 5) (sF)))) ((MX E))) (MV E)
def MU(E:E3):aA:=bh (b9 (pH (ae)) (hName 3)) (Ft E)
def Fs(E:E3):aA:=bh (b9 (xV xf E (ξ (aE dh (υ 1) (eC (.int 0))) (ae))) (hName 2)) (MU E)
def MT(E:E3):aA:=bh (b9 (j4 mI (υ 0) (ξ (eC (.str "\n")) (ae))) (hName 1)) (Fs E)
def Fq(E:E3):aA:=bh (fv (kR (bj (qP "str" (υ 0)))) (pR "NoText" ["row"] E (ξ (eC (.int 0)) (ae))) (cT)) (MT E)
theorem MS{G:Gp}{ds:List D}(h:∀d∈ds,∃ns:List Int,d=.tup (ns.map D.int)):lH G (.tup ds):=lH.tup fun d hd=>by
 obtain⟨ns,rfl⟩:=h d hd;refine lH.tup fun z hz=>?_;obtain⟨n,_,rfl⟩:=aX.mp hz;exact lH.int _
theorem MR{Q:V3}{E:E3}{G1:Gp}{p1:ζ}{t:ι}{m:Int}{r0:ι}{rows:List ι}(hm:0≤m/\m≤12)(hrl:∀y∈rows,y.length≤900000)(hrn:rows.length≤900001)(e1:G1 p1=some (.lst ((r0::rows).map D.str)))
  (q0:∀k:Nat,fO m rows 1 (0,0)=some k->xJ E k) (q1:fO m rows 1 (0,0)=none->∀cs,Q (sI cs) gH):
  Ft E (aT Q) [some (.str t),some (.obj p1),some (.int m),some (.tup []),none,none] G1:=by
 refine⟨_,e1,fun p3 G3 n3=>?_⟩;have n3':dC G1 p3 (.lst (rows.map D.str)) G3:=by
  have e:gA ((r0::rows).map D.str) (some ((1:Nat):Int)) none=rows.map D.str:=Ak (r0::rows);rw[←e];exact n3
 refine⟨_,n3'.at_,?_⟩;rw[Om D.str rows];have hzl:((aO rows.length).zip rows).length=rows.length:=by rw[lj,fe,oH]
 refine nW (fun ds τ G'=>∃(cs:List bY) (x4 x5:Option D),Bn cs/\cs.length≤rows.length/\(cs.length:Int)≤m/\ds=(((aO rows.length).zip rows).drop cs.length).map (fun p=>D.tup [nD p.1,D.str p.2])/\fO m rows 1 (0,0)=fO m (rows.drop cs.length) (cs.length+1) (jv cs)/\τ=[some (.str t),some (.obj p1),some (.int m),some (sI cs),x4,x5]/\Sub G3 G') (fun _ _ _ h=>?_) ?_ ?_ _ _ _ ⟨[],none,none,⟨nofun,by decide,m9⟩,ax _,hm.1,rfl,rfl,rfl,Sub.refl _⟩
 ·obtain⟨_,_,_,_,_,_,_,_,_,s⟩:=h;exact s _ _ n3'.at_
 ·rintro d ds τ G' N ⟨cs,x4,x5,h,hk,hcm,e,eg,rfl,s⟩ hN;have hkb:cs.length<rows.length:=by
   refine Nat.lt_of_le_of_ne hk fun z=>?_;rw[z,fz (by rw[hzl];exact Δ _)] at e;cases e
  have ed:((aO rows.length).zip rows).drop cs.length=(cs.length,rows[cs.length])::((aO rows.length).zip rows).drop (cs.length+1):=by
   rw[cU (by rw[hzl];exact hkb),List.getElem_zip,sY]
  rw[ed] at e;cases e;have edr:rows.drop cs.length=rows[cs.length]::rows.drop (cs.length+1):=cU hkb;rw[edr] at eg;have hrow:=hrl _ (iH hkb);generalize rows[cs.length]'hkb=row at eg hrow ⊢;have Lh:=h.len;refine⟨rfl,"clock",row,2,rfl,hrow,fun p4 G4 n4=>?_⟩;refine⟨_,n4.at_,?_,?_⟩
  ·show (cs.map cD).length+1≤ag;rw[ο];exact dX (by lia)
  show Fu E _ [some (D.str t),some (D.obj p1),some (D.int m),some (D.tup (cs.map cD++[D.tup ((dU "clock" 2 row).map D.int)])),some (nD cs.length),some (D.str row)] G4;have eg2:fO m rows 1 (0,0)=if m<((cs.length+1:Nat):Int) then some (cs.length+1+1) else match dU "clock" 2 row with
   |[s,r]=>if fB s r&&fw (jv cs,(s,r)) then fO m (rows.drop (cs.length+1)) (cs.length+1+1) (s,r) else some (cs.length+1+1)
   |_=>some (cs.length+1+1):=eg
  have rz:fO m rows 1 (0,0)=some (cs.length+1+1)->xJ E (((cs.length:Nat):Int)+2):=fun z=>by
   have:=q0 _ z;rw[show ((cs.length:Nat):Int)+2=((cs.length+1+1:Nat):Int) by lia];exact this
  refine⟨_,_,rfl,rfl,ax _,fun g=>?_,fun g=>?_⟩
  ·have g':(((cs.length:Nat):Int)==m)=true:=g;rw[beq_iff_eq] at g';rw[if_pos (by lia)] at eg2;exact⟨fun _=>⟨[((cs.length:Nat):Int)+2],rfl,rfl,rz eg2⟩,nofun⟩
  ·have g':(((cs.length:Nat):Int)==m)=false:=g;have g2:((cs.length:Nat):Int)≠m:=fun z=>by rw[z,beq_self_eq_true] at g';cases g'
   rw[if_neg (by lia)] at eg2;refine⟨_,rfl,MS fun d hd=>?_,?_⟩
   ·rcases bM.mp hd with z|z
    ·obtain⟨c,_,rfl⟩:=aX.mp z;exact⟨[c.1,c.2],rfl⟩
    ·rw[cR.mp z];exact⟨_,rfl⟩
   rw[Mq h (by lia)];have no:iA (D.tup ((dU "clock" 2 row).map D.int))=false∨(∃l,cs.getLast?=some l/\fw (l,qQ (D.tup ((dU "clock" 2 row).map D.int)))=false)->fO m rows 1 (0,0)=some (cs.length+1+1):=fun hno=>by
    rcases BH (name:="clock") (row:=row) with e0|⟨a,b,e0⟩
    ·rw[e0] at eg2;exact eg2
    ·rw[e0] at eg2 hno;have eg3:fO m rows 1 (0,0)=if fB a b&&fw (jv cs,(a,b)) then fO m (rows.drop (cs.length+1)) (cs.length+1+1) (a,b) else some (cs.length+1+1):=eg2;rcases hno with hno|⟨l,hl,hno⟩
     ·have hno:fB a b=false:=hno;rw[hno,bo] at eg3;exact eg3
     ·have hno:fw (l,(a,b))=false:=hno;have hla:jv cs=l:=by unfold jv;rw[hl];rfl
      rw[hla,hno,dR] at eg3;exact eg3
   cases hb:iA (D.tup ((dU "clock" 2 row).map D.int)) with
   |false=>exact⟨fun _=>⟨[((cs.length:Nat):Int)+2],rfl,rfl,rz (no (.inl hb))⟩,nofun⟩
   |true=>
    obtain⟨a,b,e0⟩:∃a b,dU "clock" 2 row=[a,b]:=by
     rcases BH (name:="clock") (row:=row) with e0|e0
     ·rw[e0] at hb;cases hb
     ·exact e0
    rw[e0] at hb no eg2 ⊢;have hb:fB a b=true:=hb;have hv:=lT.mp hb;have eg3:fO m rows 1 (0,0)=if fB a b&&fw (jv cs,(a,b)) then fO m (rows.drop (cs.length+1)) (cs.length+1+1) (a,b) else some (cs.length+1+1):=eg2;have yes:(∀l,cs.getLast?=some l->fw (l,(a,b))=true)->fw (jv cs,(a,b))=true->N [some (D.str t),some (D.obj p1),some (D.int m),some (D.tup (cs.map cD++[D.tup ([a,b].map D.int)])),some (nD cs.length),some (D.str row)] G4:=fun hl1 hl2=>by
     rw[hb,hl2] at eg3;have eg4:fO m rows 1 (0,0)=fO m (rows.drop (cs.length+1)) (cs.length+1+1) (a,b):=eg3;have hlen:(cs++[((a,b):bY)]).length=cs.length+1:=ar;refine hN _ _ ⟨cs++[(a,b)],some (nD cs.length),some (D.str row),h.snoc (by lia) hv fun l hl=>tG.mp (hl1 l hl),by rw[hlen];exact hkb,by rw[hlen];lia,by rw[hlen],?_,?_,s.trans n4.sub⟩
     ·have:jv (cs++[((a,b):bY)])=(a,b):=by unfold jv;rw[List.getLast?_append];rfl
      rw[hlen,this];exact eg4
     ·have:sI (cs++[((a,b):bY)])=D.tup (cs.map cD++[D.tup ([a,b].map D.int)]):=by
       show D.tup _=D.tup _;rw[bN];rfl
      rw[this]
    cases hg:cs.getLast? with
    |none=>
     refine⟨nofun,fun _=>yes (fun l hl=>by rw[hg] at hl;cases hl) ?_⟩;have hla:jv cs=(0,0):=by unfold jv;rw[hg];rfl
     rw[hla];have h1:=hv.1.1;have h1:0<a:=h1;exact tG.mpr (.inl h1)
    |some l=>
     have hla:jv cs=l:=by unfold jv;rw[hg];rfl
     cases hlt:fw (l,(a,b)) with
     |false=>
      refine⟨fun _=>⟨[((cs.length:Nat):Int)+2],rfl,rfl,rz (no (.inr ⟨l,hg,hlt⟩))⟩,fun z=>?_⟩;have z':(!(true&&fw (l,(a,b))))=false:=z;rw[hlt] at z';cases z'
     |true=>
      refine⟨fun z=>?_,fun _=>yes (fun l' hl=>by rw[hg] at hl;cases hl;exact hlt) (by rw[hla];exact hlt)⟩;have z':(!(true&&fw (l,(a,b))))=true:=z;rw[hlt] at z';cases z'
 ·rintro τ G' ⟨cs,x4,x5,h,hk,hcm,e,eg,rfl,s⟩;have hkb:cs.length=rows.length:=by
   refine Nat.le_antisymm hk (oJ fun z=>?_);rw[cU (by rw[hzl];exact z)] at e;cases e
  rw[hkb,oO] at eg;have eg:fO m rows 1 (0,0)=if ((rows.length+1:Nat):Int)≤m then some (rows.length+1+1) else none:=eg;refine⟨fun g=>?_,fun g=>?_⟩
  ·have g':(((cs.map cD).length:Nat):Int)<m:=of_decide_eq_true g;rw[ο,hkb] at g';rw[if_pos (by lia)] at eg;have e1':=s _ _ (n3'.sub _ _ e1);refine⟨_,e1',[((((r0::rows).map D.str).length:Nat):Int)+1],rfl,rfl,?_⟩;have:=q0 _ eg;rw[ο,ak];exact this
  ·have g':¬(((cs.map cD).length:Nat):Int)<m:=of_decide_eq_false g;rw[ο,hkb] at g';rw[if_neg (by lia)] at eg;exact vG (FF _) (q1 eg cs)
theorem Mf{name:ι}{many:Nat}{row:ι}:∀m∈dU name many row,0≤m:=fun m hm=>by
 unfold dU pS at hm;split at hm
 ·obtain⟨w,_,rfl⟩:=aX.mp hm;exact Int.natCast_nonneg _
 ·cases hm
theorem Me:∀ds Q E,xc ds Q E->Fq E (aT Q) (bD ["text","rows","many","clocks","ahead","row"] ds) gH:=by
 rintro ds Q E ⟨d,rfl,⟨t,rfl,hl,q0,q1⟩|⟨hi,q0⟩⟩
 ·refine⟨nofun,fun _=>⟨⟨_,rfl⟩,by decide,cZ (by lia),fun p1 G1 n1=>?_⟩⟩;have n1':dC gH p1 (.lst ((Txt.split t "\n").map D.str)) G1:=n1;have hp:=eD t "\n";have hsl:=ip t "\n";have hsh:∀w∈Txt.split t "\n",w.length≤900000:=fun w hw=>by have:=uu hw;lia
  have q0':∀k:Nat,uF (Txt.split t "\n")=some k->xJ E k:=q0;have q1':uF (Txt.split t "\n")=none->∀cs,Q (sI cs) gH:=q1;show Fs E (aT Q) [some (.str t),some (.obj p1),none,none,none,none] G1;generalize Txt.split t "\n" = rows at hp hsl hsh q0' q1' n1';cases rows with
  |nil=>exact absurd hp (by decide)
  |cons r0 rows=>
   refine⟨_,.str r0,n1'.at_,qF (j:=0) rfl,r0,rfl,hsh r0 ψ,fun h=>?_,fun m h=>⟨fun hm=>?_,fun hm G2 j2=>?_⟩⟩
   ·exact q0' 1 (Fy h)
   ·refine q0' 1 ?_;rw[xg h,if_neg (by lia)]
   ·have hm0:=Mf m (by rw[h];exact ψ);have ed:uF (r0::rows)=fO m rows 1 (0,0):=by
     rw[xg h,if_pos hm]
    rw[ed] at q0' q1';simp only[ak] at hsl;exact MR ⟨hm0,hm⟩ (fun y hy=>hsh y (ω _ hy)) (by lia) (j2.old _ _ n1'.at_) q0' q1'
 ·show match gJ "str" gH d with
   |some b=>_
   |none=>False
  rw[hi];exact⟨fun _=>⟨[0],rfl,rfl,q0⟩,nofun⟩
end My
namespace My
open PySem L2 L3 Tx
def vD(w:ι):D:=if de w then .int (bc w) else .av
def pD:fC:=fun ds G Q=>∃w:ι,ds=[.str w]/\w.length≤900000/\∀G',Sub G G'->Q (vD w) G'
def Fp:aA:=bZ (cL vJ (ξ (υ 0) (ae)))
def Md:aA:=bh (fv (xW (bj (aE (dF false) (aE wy (υ 0) (eC (.int 0))) (eC (.str "0")))) (bj (aE (dF true) (υ 0) (eC (.str "0"))))) (bZ (eC .av)) (cT)) Fp
def Ge:aA:=bh (fv (kQ (bj (wB true (cL vK (ξ (υ 0) (ae))) (ξ (eC (.int 1)) (ξ (eC (.int 61)) (ae))))) (bj (aE (dF true) (kh ["sign"] [] (zT (υ 0)) (hName 0) (bj (aE wU (υ 0) (eC (.str "0123456789")))) (υ 0)) (fo (ae))))) (bZ (eC .av)) (cT)) Md
def nt(c:Nat):Bool:=decide (48≤c/\c≤57)
theorem Mc(cs:List Nat):e7 (cs.map iz)=some (cs.map fun c=>Dat.D.str ⟨#[c]⟩):=by
 induction cs with
 |nil=>rfl
 |cons c cs ih=>
  show e7 (iz c::cs.map iz)=_;simp only[e7,ih];rfl
theorem Mb(cs:List Nat):(Dat.D.lst (cs.map fun c=>Dat.D.str ⟨#[c]⟩)).jb≤50:=by
 show Dat.gm (cs.map fun c=>Dat.D.str ⟨#[c]⟩)+1≤50;have:Dat.gm (cs.map fun c=>Dat.D.str ⟨#[c]⟩)=0:=by
  induction cs with
  |nil=>rfl
  |cons c cs ih=>
   show max (Dat.D.jb (Dat.D.str ⟨#[c]⟩)) (Dat.gm (cs.map fun c=>Dat.D.str ⟨#[c]⟩))=0;rw[ih];rfl
 rw[this];decide
theorem Ma:∀ds G Q,pD ds G Q->Ge (aT Q) (bD ["word"] ds) G:=by
 rintro ds G Q ⟨w,rfl,hl,q⟩;have e0:de w=(decide (1≤w.length)&&decide (w.length≤60)&&w.cps.toList.all nt&&(w=="0" || !(w.cps.toList.head?==some 48))):=rfl;have no:de w=false->∀G',Sub G G'->(aT Q).rt .av G':=fun h G' s=>by
  have:=q G' s;unfold vD at this;rw[h] at this;exact cW this
 refine⟨cZ (by lia),_,rfl,fun g=>⟨fun _=>no ?_ G (Sub.refl _),nofun⟩,fun g=>?_⟩
 ·have g':(!(decide ((1:Int)≤(w.length:Int))&&decide ((w.length:Int)<61)))=true:=g;rw[e0];by_cases h1:1≤w.length
  ·by_cases h2:w.length≤60
   ·rw[decide_eq_true (show (1:Int)≤(w.length:Int) by lia),decide_eq_true (show (w.length:Int)<61 by lia)] at g';cases g'
   ·rw[decide_eq_false h2,dR,bo,bo]
  ·rw[decide_eq_false h1,bo,bo,bo]
 have g':(!(decide ((1:Int)≤(w.length:Int))&&decide ((w.length:Int)<61)))=false:=g;have g2:(decide ((1:Int)≤(w.length:Int))&&decide ((w.length:Int)<61))=true:=by simpa using g'
 rw[bA,decide_eq_true_iff,decide_eq_true_iff] at g2;have h1:1≤w.length:=by lia
 have h2:w.length≤60:=by lia
 rw[decide_eq_true h1,decide_eq_true h2,fg,fg] at e0;refine⟨?_,?_⟩
 ·show (w.cps.toList.map iz).length≤ag;rw[ο,←len_list];exact cZ (by lia)
 refine pz (fun τ=>∃x,τ=[x]) iz (fun c=>!nt c) iz (G:=G) trivial w.cps.toList [] _ ⟨none,rfl⟩ ?_ ?_
 ·rintro c hm τ K1 K2 ⟨_,rfl⟩ k1 k2;show Br (!(!(ba (aI "0123456789") ⟨#[c]⟩ 0 (aI "0123456789").length 1).isEmpty)) _ _;rw[HC];exact⟨fun z=>k1 z _ ⟨_,rfl⟩,fun z=>k2 z _ ⟨_,rfl⟩⟩
 ·intro p1 G1 n1;rw[ey] at n1;intro p2 G2 n2;refine⟨_,_,r8 (n2.sub _ _ n1.at_) (Mc _),r8 n2.at_ (xs:=[]) rfl,Mb _,fun z=>no ?_ _ (n1.sub.trans n2.sub),fun z=>?_⟩
  ·have z':(!((Dat.D.lst ((w.cps.toList.filter fun c=>!nt c).map fun c=>Dat.D.str ⟨#[c]⟩)).gf (.lst [])))=true:=z;rw[GC,List.isEmpty_map] at z';have:w.cps.toList.all nt=false:=by
    refine jZ.mpr fun ha=>?_;have:w.cps.toList.filter (fun c=>!nt c)=[]:=pO.mpr fun c hc=>by
     rw[bT.mp ha c hc];exact nofun
    rw[this] at z';cases z'
   rw[e0,this,bo]
  ·have z':(!((Dat.D.lst ((w.cps.toList.filter fun c=>!nt c).map fun c=>Dat.D.str ⟨#[c]⟩)).gf (.lst [])))=false:=z;rw[GC,List.isEmpty_map] at z';have ha:w.cps.toList.all nt=true:=by
    have z2:(w.cps.toList.filter fun c=>!nt c).isEmpty=true:=by simpa using z'
    rw[List.isEmpty_iff] at z2;refine bT.mpr fun c hc=>?_;have:=pO.mp z2 c hc;cases hf:nt c with
    |true=>rfl
    |false=>rw[hf] at this;exact absurd rfl this
   rw[ha,fg] at e0;have s2:=n1.sub.trans n2.sub;cases hw:w.cps.toList with
   |nil=>
    rw[len_list,hw] at h1;exact absurd h1 (by decide)
   |cons c cs=>
    rw[hw,ll] at e0;have last:de w=true->Fp (aT Q) [some (.str w)] G2:=fun hf=>by
     refine⟨aK h2 (by decide),_,HD hf,?_⟩;have:=q G2 s2;unfold vD at this;rw[hf] at this;exact cW this
    refine⟨cZ (by lia),c,by rw[hw];exact qF (j:=0) rfl,_,_,rfl,rfl,ax _,fun y=>?_,fun y=>⟨nofun,fun _=>last ?_⟩⟩
    ·have y':((⟨#[c]⟩:ι)=="0")=true:=y;have hc:c=48:=by
      have:=eq_of_beq y';have:=congrArg (fun z:ι=>z.cps.toList) this;have:[c]=[48]:=this;exact (iQ this).1
     subst hc;refine⟨_,_,rfl,rfl,ax _,fun x=>no ?_ _ s2,fun x=>last ?_⟩
     ·have x':(!(w=="0"))=true:=x;have x2:(w=="0")=false:=by simpa using x'
      rw[e0,x2];rfl
     ·have x':(!(w=="0"))=false:=x;have x2:(w=="0")=true:=by simpa using x'
      rw[e0,x2];rfl
    ·have y':((⟨#[c]⟩:ι)=="0")=false:=y;have hc:c≠48:=fun z=>by subst z;cases y'
     have:(some c==some 48)=false:=beq_eq_false_iff_ne.mpr fun z=>hc (ao z);rw[e0,this];simp
end My
namespace My
open PySem L2 L3 Tx
def oK:Option Nat->D
 |none=>.av
 |some k=>.int (k:Nat)
def uo:fC:=fun ds G Q=>∃t:ι,ds=[.str t]/\t.length≤900000/\∀G',Sub G G'->Q (oK (v5 t)) G'
def L9:aA:=b9 (υ 5) (hName 3)
def Gd:aA:=bh (fv (kQ (bj (wB true (aE dh (υ 5) (eC (.int 0))) (ξ (eC (.int 1)) (ξ (eC (.int 1001)) (ae))))) (kQ (bj (wC true (aE dh (υ 5) (eC (.int 1))) (ξ (aE dh (υ 5) (eC (.int 0))) (ae)))) (bj (aE yH (υ 5) (υ 3))))) (bZ (aE df (υ 4) (eC (.int 1)))) (cT)) L9
def L8:aA:=bh (b9 (pH (ξ (bG pD (ξ (aE dh (υ 2) (eC (.int 1))) (ae))) (ξ (bG pD (ξ (aE dh (υ 2) (eC (.int 2))) (ae))) (ae)))) (hName 5)) Gd
def Gc:aA:=bh (fv (kQ (bj (aE (dF true) (cL i7 (ξ (υ 2) (ae))) (eC (.int 3)))) (kQ (bj (aE (dF true) (aE dh (υ 2) (eC (.int 0))) (eC (.str "clock")))) (bj (aE yK (υ 4) (bG pD (ξ (aE dh (j4 mI (aE dh (υ 1) (eC (.int 0))) (ξ (eC (.str " ")) (ae))) (eC (.int 1))) (ae))))))) (bZ (aE df (υ 4) (eC (.int 1)))) (cT)) L8
def FZ:aA:=bh (b9 (j4 mI (aE dh (υ 1) (υ 4)) (ξ (eC (.str " ")) (ae))) (hName 2)) Gc
def L7:aA:=bZ (eC .av)
def L6:aA:=bh (fv (bj (aE ue (cL i7 (ξ (υ 1) (ae))) (bG pD (ξ (aE dh (j4 mI (aE dh (υ 1) (eC (.int 0))) (ξ (eC (.str " ")) (ae))) (eC (.int 1))) (ae))))) (bZ (aE df (cL i7 (ξ (υ 1) (ae))) (eC (.int 1)))) (cT)) L7
def FY:aA:=bh (lL (uS (ξ (eC (.int 1)) (ξ (cL i7 (ξ (υ 1) (ae))) (ae)))) (hName 4) (FZ)) L6
def L5:aA:=bh (b9 (pH (ξ (eC (.int 0)) (ξ (eC (.int 0)) (ae)))) (hName 3)) FY
def FX:aA:=bh (fv (kQ (bj (aE (dF true) (cL i7 (ξ (υ 2) (ae))) (eC (.int 2)))) (kQ (bj (aE (dF true) (aE dh (υ 2) (eC (.int 0))) (eC (.str "clocks")))) (bj (wC true (bG pD (ξ (aE dh (υ 2) (eC (.int 1))) (ae))) (ξ (eC (.int 13)) (ae)))))) (bZ (eC (.int 1))) (cT)) L5
def FW:aA:=bh (b9 (j4 mI (aE dh (υ 1) (eC (.int 0))) (ξ (eC (.str " ")) (ae))) (hName 2)) FX
def FV:aA:=bh (b9 (j4 mI (υ 0) (ξ (eC (.str "\n")) (ae))) (hName 1)) FW
theorem L4(s r l1 l2:Int):HT.lexLe [s,r] [l1,l2] = !(fw ((l1,l2),(s,r))):=by
 show (if s=l1 then (if r=l2 then true else decide (r≤l2)) else decide (s≤l1)) = !(if l1=s then (if l2=r then false else decide (l2<r)) else decide (l1<s));by_cases h:s=l1
 ·rw[if_pos h,if_pos h.symm];by_cases h2:r=l2
  ·rw[if_pos h2,if_pos h2.symm];rfl
  ·rw[if_neg h2,if_neg (du h2),←decide_not];exact decide_eq_decide.mpr (by lia)
 ·rw[if_neg h,if_neg (du h),←decide_not];exact decide_eq_decide.mpr (by lia)
theorem BG(w:ι):(de w=false/\vD w=.av)∨(de w=true/\vD w=.int (bc w)):=by
 unfold vD;cases de w with
 |false=>exact .inl ⟨rfl,rfl⟩
 |true=>exact .inr ⟨rfl,rfl⟩
theorem LZ(w:ι):0≤bc w:=Int.natCast_nonneg _
theorem Ez{τ:S3}{G:Gp}{p1:ζ}{r0 w0 w1:ι}{rows:List ι}{Q:V3}(h1:ie τ 1=some (.obj p1))(hp:G p1=some (.lst ((r0::rows).map D.str)))(hl:r0.length≤900000)(hw:Txt.split r0 " " = [w0,w1])(hf:de w1=true)
  (q:∀G',Sub G G'->Q (.int (bc w1)) G'):bG pD (ξ (aE dh (j4 mI (aE dh (υ 1) (eC (.int 0))) (ξ (eC (.str " ")) (ae))) (eC (.int 1))) (ae)) τ G Q:=by
 show match ie τ 1 with
  |some d=>_
  |none=>False
 rw[h1];refine⟨_,.str r0,hp,qF (j:=0) rfl,⟨r0,rfl⟩,by decide,cZ (by lia),fun p2 G2 n2=>?_⟩;have n2':dC G p2 (.lst ([w0,w1].map D.str)) G2:=by
  rw[←hw];exact n2
 have hs:w1.length≤r0.length:=uu (y:=" ") (by rw[hw];simp);refine⟨_,.str w1,n2'.at_,rfl,w1,rfl,by lia,fun G3 s3=>?_⟩;unfold vD;rw[hf];exact q _ (n2'.sub.trans s3)
theorem LY{r0 w0 w1:ι}(hw:Txt.split r0 " " = [w0,w1]):dU "clocks" 1 r0=if decide (w0="clocks")&&de w1 then [bc w1] else []:=by
 unfold dU pS lQ;rw[hw];show (if (decide (some w0=some (aI "clocks"))&&decide (2=1+1)&&(de w1&&true))=true then [bc w1] else [])=_;have:decide (some w0=some (aI "clocks"))=decide (w0=aI "clocks"):=decide_eq_decide.mpr ⟨ao,fun z=>by rw[z]⟩;rw[this];simp
theorem LX{row w0 w1 w2:ι}(hw:Txt.split row " " = [w0,w1,w2]):dU "clock" 2 row=if decide (w0="clock")&&(de w1&&de w2) then [bc w1,bc w2] else []:=by
 unfold dU pS lQ;rw[hw];show (if (decide (some w0=some (aI "clock"))&&decide (3=2+1)&&(de w1&&(de w2&&true)))=true then [bc w1,bc w2] else [])=_;have:decide (some w0=some (aI "clock"))=decide (w0=aI "clock"):=decide_eq_decide.mpr ⟨ao,fun z=>by rw[z]⟩;rw[this];simp
theorem FU{name row:ι}{many:Nat}(h:(Txt.split row " ").length≠many+1):dU name many row=[]:=by
 unfold dU pS lQ;rw[decide_eq_false h,dR,bo];rfl
theorem LW{G:Gp}{p1:ζ}{t r0 w0 w1:ι}{rows:List ι}{k:Nat}{row:ι}{last:bY}{x2 x5:Option D}{D3:jA}
  (hp:G p1=some (.lst ((r0::rows).map D.str))) (hl:r0.length≤900000) (hw:Txt.split r0 " " = [w0,w1]) (hf:de w1=true) (hk:1≤k) (hkr:rows[k-1]?=some row) (hrl:row.length≤900000)
  (qr:∀G',Sub G G'->(bc w1<(k:Int)∨(∀s r,dU "clock" 2 row=[s,r]->(fB s r&&fw (last,(s,r)))=false))->D3.rt (.int ((k:Int)+1)) G')
  (qn:∀G' y2 s r,Sub G G'->¬bc w1<(k:Int)->dU "clock" 2 row=[s,r]->(fB s r&&fw (last,(s,r)))=true->D3.nx [some (.str t),some (.obj p1),y2,some (cD (s,r)),some (.int (k:Nat)),some (cD (s,r))] G'):
  FZ D3 [some (.str t),some (.obj p1),x2,some (cD last),some (.int (k:Nat)),x5] G:=by
 have hat:kA ((r0::rows).map D.str) ((k:Nat):Int)=some (.str row):=by
  refine qF ?_;obtain⟨j,rfl⟩:∃j,k=j+1:=⟨k-1,by lia⟩;rw[gQ] at hkr;rw[aS,jJ,hkr];rfl
 refine⟨_,.str row,hp,hat,⟨row,rfl⟩,by decide,cZ (by lia),fun p2 G2 n2=>?_⟩;have hpos:=eD row " ";have hsh:∀w∈Txt.split row " ",w.length≤900000:=fun w hw=>by have:=uu hw;lia
 have n2':dC G p2 (.lst ((Txt.split row " ").map D.str)) G2:=n2;show Gc D3 [some (.str t),some (.obj p1),some (.obj p2),some (cD last),some (.int (k:Nat)),x5] G2;refine⟨_,n2'.at_,_,_,rfl,rfl,ax _,fun g=>?_,fun g=>?_⟩
 ·have g':(!(((((Txt.split row " ").map D.str).length:Nat):Int)==3))=true:=g;refine⟨fun _=>qr G2 n2'.sub (.inr fun s r e=>?_),nofun⟩;have cu:(Txt.split row " ").length≠2+1:=fun z=>by rw[ο,z] at g';cases g'
  rw[FU cu] at e;cases e
 have g':(!(((((Txt.split row " ").map D.str).length:Nat):Int)==3))=false:=g;have hlen:(Txt.split row " ").length=3:=by
  rw[ο] at g';simp only[mF,beq_iff_eq] at g';lia
 obtain⟨v0,v1,v2,hv⟩:∃v0 v1 v2,Txt.split row " " = [v0,v1,v2]:=by
  match e:Txt.split row " " with
  |[a,b,c]=>exact⟨a,b,c,rfl⟩
  |[]=>rw[e] at hlen;cases hlen
  |[_]=>rw[e] at hlen;cases hlen
  |[_,_]=>rw[e] at hlen;cases hlen
  |_::_::_::_::_=>rw[e] at hlen;simp at hlen
 have hnb:=LX hv;rw[hv] at n2' hsh;refine⟨_,.str v0,n2'.at_,rfl,.str v0,.str "clock",rfl,rfl,ax _,fun g2=>?_,fun g2=>?_⟩
 ·have g2':(!(v0=="clock"))=true:=g2;refine⟨fun _=>qr G2 n2'.sub (.inr fun s r e=>?_),nofun⟩;have cu:¬v0="clock":=fun z=>by rw[z,beq_self_eq_true] at g2';cases g2'
  rw[hnb,decide_eq_false cu,bo] at e;cases e
 have g2':(!(v0=="clock"))=false:=g2;have h0:v0="clock":=by simpa using g2'
 rw[decide_eq_true h0,fg] at hnb;refine Ez (τ:=[some (.str t),some (.obj p1),some (.obj p2),some (cD last),some (.int (k:Nat)),x5]) (p1:=p1) rfl (n2'.sub _ _ hp) hl hw hf fun G3 s3=>?_;refine⟨fun g3=>qr G3 (n2'.sub.trans s3) (.inl ?_),fun g3=>?_⟩
 ·have g3':((k:Nat):Int) > bc w1:=of_decide_eq_true g3;lia
 have g3':¬((k:Nat):Int) > bc w1:=of_decide_eq_false g3;have hkm:¬bc w1<(k:Int):=by lia
 have e3:=s3 _ _ n2'.at_;refine⟨_,.str v1,e3,rfl,v1,rfl,hsh v1 (by simp),fun G4 s4=>?_⟩;refine⟨_,.str v2,s4 _ _ e3,rfl,v2,rfl,hsh v2 (by simp),fun G5 s5=>?_⟩;have s05:=((n2'.sub.trans s3).trans s4).trans s5;show Gd D3 [some (.str t),some (.obj p1),some (.obj p2),some (cD last),some (.int (k:Nat)),some (.tup [vD v1,vD v2])] G5;have ret:(∀s r,dU "clock" 2 row=[s,r]->(fB s r&&fw (last,(s,r)))=false)->D3.rt (.int ((k:Int)+1)) G5:=fun z=>qr G5 s05 (.inr z);rcases BG v1 with⟨f1,e1⟩|⟨f1,e1⟩
 ·refine⟨vD v1,rfl,true,by rw[e1];rfl,fun _=>⟨fun _=>ret fun s r e=>?_,nofun⟩,nofun⟩;rw[hnb,f1,bo] at e;cases e
 rw[f1,fg] at hnb;refine⟨vD v1,rfl,yv true 1 1001 (bc v1),by rw[e1];rfl,fun g4=>⟨fun _=>ret fun s r e=>?_,nofun⟩,fun g4=>?_⟩
 ·have g4':(!(decide ((1:Int)≤bc v1)&&decide (bc v1<1001)))=true:=g4;rw[hnb] at e;split at e
  ·cases e;have:¬fB (bc v1) (bc v2)=true:=fun z=>by
    have:=lT.mp z;have h1:=this.1.1;have h1:0<bc v1:=h1;have h2:=this.2;rw[decide_eq_true (show (1:Int)≤bc v1 by lia),decide_eq_true (show bc v1<1001 by lia)] at g4';cases g4'
   rw[jZ.mpr this,bo]
  ·cases e
 have g4':(!(decide ((1:Int)≤bc v1)&&decide (bc v1<1001)))=false:=g4;have g4':(decide ((1:Int)≤bc v1)&&decide (bc v1<1001))=true:=by simpa using g4'
 rw[bA,decide_eq_true_iff,decide_eq_true_iff] at g4';rcases BG v2 with⟨f2,e2⟩|⟨f2,e2⟩
 ·refine⟨vD v2,rfl,vD v1,rfl,?_⟩;rw[e1];refine⟨true,by rw[e2];rfl,fun _=>⟨fun _=>ret fun s r e=>?_,nofun⟩,nofun⟩;rw[hnb,f2] at e;cases e
 rw[f2] at hnb;have hnb:dU "clock" 2 row=[bc v1,bc v2]:=hnb;refine⟨vD v2,rfl,vD v1,rfl,?_⟩;rw[e1];refine⟨yv true 0 (bc v1) (bc v2),by rw[e2];rfl,fun g5=>⟨fun _=>ret fun s r e=>?_,nofun⟩,fun g5=>?_⟩
 ·have g5':(!(decide ((0:Int)≤bc v2)&&decide (bc v2<bc v1)))=true:=g5;rw[hnb] at e;cases e;have:¬fB (bc v1) (bc v2)=true:=fun z=>by
   have:=(lT.mp z).1;have h2:0≤bc v2:=this.2.1;have h3:bc v2<bc v1:=this.2.2;rw[decide_eq_true h2,decide_eq_true h3] at g5';cases g5'
  rw[jZ.mpr this,bo]
 have g5':(!(decide ((0:Int)≤bc v2)&&decide (bc v2<bc v1)))=false:=g5;have g5':(decide ((0:Int)≤bc v2)&&decide (bc v2<bc v1))=true:=by simpa using g5'
 rw[bA,decide_eq_true_iff,decide_eq_true_iff] at g5';have hcv:fB (bc v1) (bc v2)=true:=lT.mpr ⟨⟨by show 0<bc v1;lia,g5'.1,g5'.2⟩,by lia⟩;rw[e2];refine⟨[bc v1,bc v2],[last.1,last.2],rfl,rfl,?_⟩;rw[L4];refine⟨fun g6=>ret fun s r e=>?_,fun g6=>?_⟩
 ·have g6':(!(fw (last,(bc v1,bc v2))))=true:=g6;rw[hnb] at e;cases e;have:fw (last,(bc v1,bc v2))=false:=by simpa using g6'
  rw[this,dR]
 ·have g6':(!(fw (last,(bc v1,bc v2))))=false:=g6;have:fw (last,(bc v1,bc v2))=true:=by simpa using g6'
  exact qn G5 _ (bc v1) (bc v2) s05 hkm hnb (by rw[hcv,this];rfl)
theorem LV{m:Int}{row:ι}{rs:List ι}{k:Nat}{last:bY}(h:m<(k:Int)∨(∀s r,dU "clock" 2 row=[s,r]->(fB s r&&fw (last,(s,r)))=false)):fO m (row::rs) k last=some (k+1):=by
 show (if m<(k:Int) then some (k+1) else match dU "clock" 2 row with
  |[s,r]=>if fB s r&&fw (last,(s,r)) then fO m rs (k+1) (s,r) else some (k+1)
  | _=>some (k+1))=_
 by_cases hm:m<(k:Int)
 ·rw[if_pos hm]
 ·rw[if_neg hm];rcases BH (name:="clock") (row:=row) with e0|⟨a,b,e0⟩
  ·rw[e0]
  ·rw[e0];rcases h with h|h
   ·exact absurd h hm
   ·show (if fB a b&&fw (last,(a,b)) then fO m rs (k+1) (a,b) else some (k+1))=_;rw[h a b e0];rfl
theorem FT{m:Int}{row:ι}{rs:List ι}{k:Nat}{last:bY}{s r:Int}(hm:¬m<(k:Int))(e0:dU "clock" 2 row=[s,r])(h:(fB s r&&fw (last,(s,r)))=true):fO m (row::rs) k last=fO m rs (k+1) (s,r):=by
 show (if m<(k:Int) then some (k+1) else match dU "clock" 2 row with
  |[s,r]=>if fB s r&&fw (last,(s,r)) then fO m rs (k+1) (s,r) else some (k+1)
  | _=>some (k+1))=_
 rw[if_neg hm,e0];show (if fB s r&&fw (last,(s,r)) then fO m rs (k+1) (s,r) else some (k+1))=_;rw[h];rfl
theorem LF(n:Nat):i5 1 n=(aO n).map fun k=>nD (k+1):=by
 unfold i5;refine iV fun k _=>?_;show D.int (1+(k:Int))=D.int ((k+1:Nat):Int);rw[show (1:Int)+(k:Int)=((k+1:Nat):Int) by lia]
theorem LU{Q:V3}{G:Gp}{p1:ζ}{t r0 w0 w1:ι}{rows:List ι}{x2:Option D}(hp:G p1=some (.lst ((r0::rows).map D.str)))(hl:r0.length≤900000)(hw:Txt.split r0 " " = [w0,w1])(hf:de w1=true)(hrl:∀y∈rows,y.length≤900000)(hrn:rows.length≤900001)
  (q:∀G',Sub G G'->Q (oK (fO (bc w1) rows 1 (0,0))) G'):
  FY (aT Q) [some (.str t),some (.obj p1),x2,some (cD (0,0)),none,none] G:=by
 have hln:((r0::rows).map D.str).length=rows.length+1:=by rw[ο];rfl
 refine⟨_,hp,⟨by decide,by decide,by rw[hln];lia,by rw[hln];lia⟩,?_⟩;rw[hln,show (((rows.length+1:Nat):Int)-1).toNat=rows.length by lia,LF];refine nW (fun ds τ G'=>∃(k:Nat) (last:bY) (x2 x4 x5:Option D),k≤rows.length/\ds=((aO rows.length).drop k).map (fun k=>nD (k+1))/\fO (bc w1) rows 1 (0,0)=fO (bc w1) (rows.drop k) (k+1) last/\τ=[some (.str t),some (.obj p1),x2,some (cD last),x4,x5]/\Sub G G') (fun _ _ _ _=>trivial) ?_ ?_ _ _ _ ⟨0,(0,0),x2,none,none,ax _,rfl,rfl,rfl,Sub.refl _⟩
 ·rintro d ds τ G' N ⟨k,last,y2,x4,x5,hk,e,eg,rfl,s⟩ hN;have hkb:k<rows.length:=by
   refine Nat.lt_of_le_of_ne hk fun z=>?_;rw[z,fz (by rw[fe];exact Δ _)] at e;cases e
  have ed:(aO rows.length).drop k=k::(aO rows.length).drop (k+1):=by
   rw[cU (by rw[fe];exact hkb),sY]
  rw[ed] at e;cases e;have edr:rows.drop k=rows[k]::rows.drop (k+1):=cU hkb;rw[edr] at eg;have hrow:=hrl _ (iH hkb);have hget:rows[k+1-1]?=some rows[k]:=by
   rw[gQ];exact bu hkb
  generalize rows[k]'hkb=row at eg hrow hget ⊢;refine LW (k:=k+1) (row:=row) (last:=last) (s _ _ hp) hl hw hf (by lia) hget hrow (fun G2 s2 h=>?_) (fun G2 z2 a b s2 hm e0 h=>?_)
  ·have:=q G2 (s.trans s2);rw[eg,LV h] at this;exact cW this
  ·refine hN _ _ ⟨k+1,(a,b),z2,_,_,hkb,rfl,?_,rfl,s.trans s2⟩;rw[eg,FT hm e0 h]
 ·rintro τ G' ⟨k,last,y2,x4,x5,hk,e,eg,rfl,s⟩;have hke:k=rows.length:=by
   rcases Nat.lt_or_eq_of_le hk with h|h
   ·have:=congrArg gY e;rw[ο,fu,fe] at this;have:0=rows.length-k:=this;lia
   ·exact h
  subst hke;rw[oO] at eg;have eg:fO (bc w1) rows 1 (0,0)=if ((rows.length+1:Nat):Int)≤bc w1 then some (rows.length+1+1) else none:=eg;refine⟨_,s _ _ hp,Ez (τ:=[some (.str t),some (.obj p1),y2,some (cD last),x4,x5]) (p1:=p1) rfl (s _ _ hp) hl hw hf fun G3 s3=>?_⟩;rw[hln];refine⟨fun g=>?_,fun g=>?_⟩
  ·have g':((rows.length+1:Nat):Int)≤bc w1:=of_decide_eq_true g;rw[if_pos g'] at eg;rw[eg] at q;refine⟨_,s3 _ _ (s _ _ hp),?_⟩;have:=q G3 (s.trans s3);rw[hln];exact cW this
  ·have g':¬((rows.length+1:Nat):Int)≤bc w1:=of_decide_eq_false g;rw[if_neg g'] at eg;rw[eg] at q;exact cW (q G3 (s.trans s3))
theorem LS:∀ds G Q,uo ds G Q->FV (aT Q) (bD ["text","rows","words","last","k","clock"] ds) G:=by
 rintro ds G Q ⟨t,rfl,hl,q⟩;refine⟨⟨_,rfl⟩,by decide,cZ (by lia),fun p1 G1 n1=>?_⟩;have n1':dC G p1 (.lst ((Txt.split t "\n").map D.str)) G1:=n1;have hp:=eD t "\n";have hsl:=ip t "\n";have hsh:∀w∈Txt.split t "\n",w.length≤900000:=fun w hw=>by have:=uu hw;lia
 have q':∀G',Sub G G'->Q (oK (uF (Txt.split t "\n"))) G':=q;show FW (aT Q) [some (.str t),some (.obj p1),none,none,none,none] G1;generalize Txt.split t "\n" = rows at hp hsl hsh q' n1';cases rows with
 |nil=>exact absurd hp (by decide)
 |cons r0 rows=>
  have hr0:=hsh r0 ψ;refine⟨_,.str r0,n1'.at_,qF (j:=0) rfl,⟨r0,rfl⟩,by decide,cZ (by lia),fun p2 G2 n2=>?_⟩;have n2':dC G1 p2 (.lst ((Txt.split r0 " ").map D.str)) G2:=n2;have hs0:∀w∈Txt.split r0 " ",w.length≤900000:=fun w hw=>by have:=uu hw;lia
  have s2:=n1'.sub.trans n2'.sub;show FX (aT Q) [some (.str t),some (.obj p1),some (.obj p2),none,none,none] G2;have no:∀G',Sub G G'->dU "clocks" 1 r0=[]->Q (.int 1) G':=fun G' s h=>by
   have:=q' G' s;rw[Fy h] at this;exact this
  refine⟨_,n2'.at_,_,_,rfl,rfl,ax _,fun g=>?_,fun g=>?_⟩
  ·have g':(!(((((Txt.split r0 " ").map D.str).length:Nat):Int)==2))=true:=g;have cu:(Txt.split r0 " ").length≠1+1:=fun z=>by rw[ο,z] at g';cases g'
   exact⟨fun _=>cW (no _ s2 (FU cu)),nofun⟩
  have g':(!(((((Txt.split r0 " ").map D.str).length:Nat):Int)==2))=false:=g;have hlen:(Txt.split r0 " ").length=2:=by
   rw[ο] at g';simp only[mF,beq_iff_eq] at g';lia
  obtain⟨v0,v1,hv⟩:∃v0 v1,Txt.split r0 " " = [v0,v1]:=by
   match e:Txt.split r0 " " with
   |[a,b]=>exact⟨a,b,rfl⟩
   |[]=>rw[e] at hlen;cases hlen
   |[_]=>rw[e] at hlen;cases hlen
   |_::_::_::_=>rw[e] at hlen;simp at hlen
  have hnb:=LY hv;rw[hv] at n2' hs0;refine⟨_,.str v0,n2'.at_,rfl,.str v0,.str "clocks",rfl,rfl,ax _,fun g2=>?_,fun g2=>?_⟩
  ·have g2':(!(v0=="clocks"))=true:=g2;have cu:¬v0="clocks":=fun z=>by rw[z,beq_self_eq_true] at g2';cases g2'
   rw[decide_eq_false cu,bo] at hnb;exact⟨fun _=>cW (no _ s2 hnb),nofun⟩
  have g2':(!(v0=="clocks"))=false:=g2;have h0:v0="clocks":=by simpa using g2'
  rw[decide_eq_true h0,fg] at hnb;refine⟨_,.str v1,n2'.at_,rfl,v1,rfl,hs0 v1 (by simp),fun G3 s3=>?_⟩;rcases BG v1 with⟨f1,e1⟩|⟨f1,e1⟩
  ·rw[f1] at hnb;exact⟨true,by rw[e1];rfl,fun _=>cW (no _ (s2.trans s3) hnb),nofun⟩
  rw[f1] at hnb;have hnb:dU "clocks" 1 r0=[bc v1]:=hnb;have vp:=LZ v1;refine⟨yv true 0 13 (bc v1),by rw[e1];rfl,fun g4=>?_,fun g4=>?_⟩
  ·have g4':(!(decide ((0:Int)≤bc v1)&&decide (bc v1<13)))=true:=g4;have:=q' G3 (s2.trans s3);rw[xg hnb,if_neg (fun z=>by
    rw[decide_eq_true vp,decide_eq_true (show bc v1<13 by lia)] at g4';cases g4')] at this
   exact cW this
  have g4':(!(decide ((0:Int)≤bc v1)&&decide (bc v1<13)))=false:=g4;have g4':(decide ((0:Int)≤bc v1)&&decide (bc v1<13))=true:=by simpa using g4'
  rw[bA,decide_eq_true_iff,decide_eq_true_iff] at g4';rw[xg hnb,if_pos (by lia)] at q';simp only[ak] at hsl;exact LU (s3 _ _ (n2'.sub _ _ n1'.at_)) hr0 hv f1 (fun y hy=>hsh y (ω _ hy)) (by lia) fun G' s=>q' G' ((s2.trans s3).trans s)
end My
namespace L3
open PySem PySem.Spec PyProof.Rows L2
section
variable {X:Cx} {k:Nat} {f:ζ} {fd:ay} {ps:List ι} {sp:pT} {E':E3} {x:ι} {p pos:aJ} {e:ρ} {es:List ρ} {t:cw}
theorem LR(F:t7 X.prog X.w X.K X.mg X.base k f fd ps sp)(hr:dI k X.A)(hm:X.mg x=some (.ref f))(hk:bS X.K (.ref f)=true)(hb:Binds X.K fd ps [])(ha:QA X.lG (e::es) t)(hg:Gl X x:=by rfl)
  (hdb:(x==("__debug__":ι))=false:=by decide) (he:notStar e=true:=by rfl) (hpl:es.all notStar=true:=by rfl):Lk X (.Call (.Name x p) (e::es) [] pos) (vZ sp t):=⟨Mu F hr hm hk hb ha.of hg hdb he hpl⟩
end
end L3
namespace L3
open PySem PySem.Spec PyProof.Rows L2
theorem LQ(xs:List ε):slicePick xs.toArray none none (some (-1))=xs.reverse.toArray:=by
 have h1:(sliceRange ((xs.length:Int)-1) (-1) (-1)).filterMap (xs.toArray[·]?)=xs.reverse:=by
  have hc:(if ((xs.length:Int)-1) > -1 then (((xs.length:Int)-1)-(-1)-(-1)-1) / (-(-1)) else (0:Int)).toNat=xs.length:=by
   by_cases h:((xs.length:Int)-1) > -1
   ·rw[if_pos h,Int.neg_neg,Int.ediv_one];lia
   ·rw[if_neg h];lia
  unfold sliceRange;simp only[show ¬((-1:Int) > 0) by decide,if_false];rw[hc,jn];refine Eq.trans (Ci fun m hm=>?_) (P7 xs);show xs.toArray[((xs.length:Int)-1 + -1*(m:Int)).toNat]?=xs.toArray[((xs.length:Int)-1+(m:Int)*(-1)).toNat]?;rw[Int.mul_comm]
 unfold slicePick;rw[χ];show ((sliceRange ((xs.length:Int)-1) (-1) (-1)).filterMap (xs.toArray[·]?)).toArray=_;rw[h1]
section
variable {X:Cx} {a:ρ} {ta:aw} {te:TE} {pos p2 p3 p4:aJ} {j:Nat}
def Kp(K:η)(te:TE):TE:=fun σ H Q=>te σ H fun x H1=>∃a xs,x=.ref a/\ff K H1 a xs/\∀p,H1 p=none->Q (.ref p) (upd H1 p (.lst xs.reverse))
theorem LP(he:PE X a te):PE X (.Subscript a (.Slice none none (some (.UnaryOp .USub (.Constant (.int 1) j p4) p3)) p2) pos) (Kp X.K te):=by
 intro pins s σ H Q I h;refine Subscript_ (bB (he pins s σ H _ I h) fun v s1 ⟨x,H1,I1,r1,q1⟩=>?_);refine wpAny_Slice ?_;rw[rD];refine ν (ν ?_);rw[evalPart_some];refine bB (Jb (pos:=p3) Ja (Jf (j:=j) (pos:=p4)) pins s1 σ H1 (fun y H'=>y=.int (-1)/\H'=H1) I1 ⟨1,rfl,rfl,rfl⟩) fun u s2 ⟨y,H2,I2,r2,e1,e2⟩=>?_;subst e1 e2;obtain⟨t,rfl⟩:=(show ∃t,u=mr (-1) t from r2);obtain⟨b,xs,rfl,hx,q⟩:=q1;cases (show v=aQ b from r1);have I4:Inv X pins σ H2 { s2 with heap:=s2.heap.push { cls:=.type "slice",data:=.fields #[.none,.none,.int (-1) t]}}:=I2.kept (t':=s2.toks) fun b ob q=>μ _ q
 obtain⟨its,r,ht,hz⟩:=I4.list hx;show π (model X.prog X.w) X.A (subscriptTail a _ (.ref b) (.ref s2.heap.objs.size)) (EP X pins σ Q) X.xe { s2 with heap:=s2.heap.push { cls:=.type "slice",data:=.fields #[.none,.none,.int (-1) t]}};refine tail_any (ops:=[.ref b,.ref s2.heap.objs.size]) ht.isList.typeIs m3.lookup ?_ (by with_unfolding_all rfl);refine oq ht.isList (td ..) .none .none (.int (-1) t) (by decide) ?_ (by rw[χ,←r.length];exact hz);rw[LQ];refine⟨.ref _,_,I4.laid (t':=s2.toks) (o:=.lst xs.reverse) (fun b ob q=>μ _ q) (Δ _) ?_,rfl,q _ (I4.bx.fresh (Δ _))⟩;exact⟨by rw[lI];exact hz,_,0,r.reverse,Ψ _ rfl⟩
def Ai(ta:aw):aw:=fun τ G Q=>ta τ G fun x G1=>match x with
 |.obj a=>∃ds,G1 a=some (.lst ds)/\∀p G2,dC G1 p (.lst ds.reverse) G2->Q (.obj p) G2
 |_=>False
theorem LO(ha:bL X a ta):bL X (.Subscript a (.Slice none none (some (.UnaryOp .USub (.Constant (.int 1) j p4) p3)) p2) pos) (Ai ta):=hX (LP ha) fun σ H Q ⟨τ,G,Q3,RS,RG,h,k⟩=>by
 refine⟨τ,G,_,RS,RG,h,fun v H1 d G1 h1 S1 R1 q1=>?_⟩;cases d with
 |obj b=>
  obtain⟨ds,e1,q⟩:=q1;obtain⟨vs,e2,e3⟩:=R1 b _ e1;rw[iI h1];exact⟨b,vs,rfl,.of e2,fun p hp=>k _ _ (.obj p) _ qD (S1.trans (.g0 hp)) (R1.sr hp e3.rev) (q p _ (.mk' (R1.free hp)))⟩
 |_=>exact q1.elim
theorem LN(ha:QE X a ta):QE X (.Subscript a (.Slice none none (some (.UnaryOp .USub (.Constant (.int 1) j p4) p3)) p2) pos) (Ai ta):=⟨LO (ha:=ha.of)⟩
end
end L3
namespace My
open PySem L2 L3 Tx
def xb(rs:List ι):fC:=fun ds G Q=>∃(p:ζ) (fs:List (ι×Int)),ds=[.obj p]/\G p=some (.gen (jT "NoText" fs))/\("NoText":ι)∈rs/\∀G',Sub G G'->Q (.str "text") G'
def LM(rs:List ι):aA:=bZ (sG (ξ (eC (.str "clock")) (ξ (eC (.str "number")) (ξ (eC (.str "place")) (ξ (eC (.str "row")) (ξ (eC (.str "clocks")) (ξ (eC (.str "text")) (ξ (eC (.str "great")) (ae)))))))) (eM BL (υ 1) (ξ (eC (.bl true)) (ae))))
def LL(rs:List ι):aA:=bh (fv (kQ (kR (bj (Di rs (υ 0)))) (bj (aE (dF true) (eM BM (υ 1) (ξ (eC (.bl true)) (ae))) (eC (.int 1))))) (bZ (eC (.str "other"))) (cT)) (LM rs)
def Mp(rs:List ι):aA:=bh (b9 (aE df (υ 1) (fo (ξ (pI rs "NoClocks" (υ 0)) (ξ (pI rs "NoText" (υ 0)) (ξ (pI rs "TooGreat" (υ 0)) (ae)))))) (hName 1)) (LL rs)
def Fn(rs:List ι):aA:=bh (b9 (fo (ξ (pI rs "NoClock" (υ 0)) (ξ (pI rs "NoNumber" (υ 0)) (ξ (pI rs "NoPlace" (υ 0)) (ξ (pI rs "NoRow" (υ 0)) (ae)))))) (hName 1)) (Mp rs)
theorem Mo(rs:List ι):∀ds G Q,xb rs ds G Q->Fn rs (aT Q) (bD ["e","marks"] ds) G:=by
 rintro ds G Q ⟨p,fs,rfl,hp,hr,q⟩;refine⟨_,_,hp,hr,_,_,hp,hr,_,_,hp,hr,_,_,hp,hr,fun p1 G1 n1=>?_⟩;have hp1:=n1.sub _ _ hp;refine⟨_,_,hp1,hr,_,_,hp1,hr,_,_,hp1,hr,fun p2 G2 n2=>?_⟩;have hp2:=n2.sub _ _ hp1;refine⟨_,_,n2.sub _ _ n1.at_,n2.at_,Nat.le_of_ble_eq_true rfl,fun p3 G3 n3=>?_⟩;have hp3:=n3.sub _ _ hp2;have s3:=(n1.sub.trans n2.sub).trans n3.sub;have e3:G3 p3=some (.lst [.bl false,.bl false,.bl false,.bl false,.bl false,.bl true,.bl false]):=n3.at_;refine⟨_,_,hp3,hr,fun h=>(nomatch h),fun _=>?_⟩;refine⟨⟨p3,_,rfl,e3⟩,_,[false,false,false,false,false,true,false],e3,rfl,_,_,rfl,rfl,ax _,fun h=>absurd h (by decide),fun _=>?_⟩;refine⟨⟨p3,_,rfl,e3⟩,_,[false,false,false,false,false,true,false],5,e3,rfl,rfl,fun i hi=>?_,by decide,.str "text",rfl,cW (q G3 s3)⟩;have:i=0∨i=1∨i=2∨i=3∨i=4:=by lia
 rcases this with rfl|rfl|rfl|rfl|rfl<;>rfl
theorem yr:∀{ds:List D},(∀d∈ds,kg d=true)->mn ds=true
 |[],_=>rfl
 |d::ds,h=>by
  show (kg d&&mn ds)=true;rw[h d ψ,yr fun x hx=>h x (ω _ hx)];rfl
theorem Mn(cs:List bY):kg (sI cs)=true:=by
 show mn (cs.map cD)=true;refine yr fun d hd=>?_;obtain⟨c,_,rfl⟩:=aX.mp hd;rfl
def qw:fC:=fun ds G Q=>∃d:D,ds=[d]/\((∃t:ι,d=.str t/\t.length≤900000/\∀G',Sub G G'->Q (oK (v5 t)) G')∨(gJ "str" gH (rk G d)=some false/\∀G',Sub G G'->Q (.int 0) G'))
def Mm(rs:List ι):aA:=bZ (wD rs "row" (υ 1))
def Fm(rs:List ι):aA:=bh (fv (kQ (bj (aE (dF true) (bG (xb rs) (ξ (υ 1) (ae))) (eC (.str "text")))) (kR (bj (bG y9 (ξ (wD rs "row" (υ 1)) (ae)))))) (bZ (Bf uK (eC (.int 1)))) (cT)) (Mm rs)
def Fl(rs:List ι):aA:=Bt rs 1 (wM (vZ xc (ξ (υ 0) (ae))) (wL)) (Fm rs) (bZ (eC .av))
theorem Fk{Q:V3}{G G2:Gp}{d:D}{p:ζ}{k:Int}(n:dC G p (.gen (jT "NoText" [("row",k)])) G2)(q:∀G',Sub G G'->Q (.int k) G'):Fm ["NoText"] { nx:=fun _ _=>False,rt:=(aT Q).rt } [some d,some (.obj p)] G2:=by
 refine⟨p,_,rfl,n.at_,by simp,fun G3 s3=>⟨_,_,rfl,rfl,ax _,fun h=>absurd h (by decide),fun _=>?_⟩⟩;have e3:=s3 _ _ n.at_;refine⟨_,_,k,e3,by simp,rfl,trivial,nofun,fun _=>⟨_,_,k,e3,by simp,rfl,cW (q _ (n.sub.trans s3))⟩⟩
theorem Ml:∀ds G Q,qw ds G Q->Fl ["NoText"] (aT Q) (bD ["thing","e"] ds) G:=by
 rintro ds G Q ⟨d,rfl,⟨t,rfl,hl,q⟩|⟨hi,q⟩⟩
 ·refine⟨_,rfl,.inl ⟨t,rfl,hl,fun k hk=>⟨by simp,fun p G2 n=>?_⟩,fun h cs=>⟨Mn cs,tO.no,fun G2 j=>?_⟩⟩⟩
  ·rw[hk] at q;exact Fk n fun G' s=>q G' s
  ·rw[h] at q;exact cW (q _ j.old)
 ·exact⟨_,rfl,.inr ⟨hi,by simp,fun p G2 n=>Fk n q⟩⟩
def xa:fC:=Gf
def Mk:aA:=tz (eM zD (υ 1) (ξ (aE gj (aE gj (aE gj (eC (.str "clock ")) (cL nT (ξ (υ 2) (ae)))) (eC (.str " "))) (cL nT (ξ (υ 3) (ae)))) (ae)))
def Mj:aA:=bZ (j4 pA (eC (.str "\n")) (ξ (υ 1) (ae)))
def Mi:aA:=bh (lL (mL (υ 0)) (sE 2 (iX (hName 2) (iX (hName 3) (sF)))) (Mk)) Mj
def Fj:aA:=bh (b9 (fo (ξ (aE gj (eC (.str "clocks ")) (cL nT (ξ (cL i7 (ξ (υ 0) (ae))) (ae)))) (ae))) (hName 1)) Mi
theorem Mh:∀ds G Q,xa ds G Q->Fj (aT Q) (bD ["clocks","rows","step","rest"] ds) G:=N2
theorem Mg(x y z:ι):(Txt.replace x y z).length≤x.length+(x.length+1)*z.length:=by
 unfold Txt.replace;split
 ·exact fq _ _
 ·have h1:=StrLaws.occ_length_le x y 0 x.length (x.length+1);have hy:(cO.Str.glued y (gv x (ba x y 0 x.length (x.length+1)) y.length)).length=x.length:=by rw[StrLaws.glued_between_self]
  rw[size_glued,length_partsBetween,gQ] at hy;rw[size_glued,length_partsBetween,gQ];have h2:(ba x y 0 x.length (x.length+1)).length*z.length≤(x.length+1)*z.length:=qZ _ h1;lia
theorem yR{xs:List ι}{B N:Nat}{c:Nat}(h:∀y∈xs,y.length≤B)(hn:xs.length≤N):(Txt.join ⟨#[c]⟩ xs).length≤N*(B+1):=by
 rw[BR];have h1:=pL ⟨#[c]⟩ xs;have h2:=m4 xs h;have h3:(⟨#[c]⟩:ι).length=1:=rfl;rw[h3] at h1;have h4:xs.length*(B+1)≤N*(B+1):=qZ _ hn;rw[Nat.mul_add,Nat.mul_one] at h4;lia
theorem vX{xs:List ι}{c:Nat}(h:∀y∈xs,y.length≤12000)(hn:xs.length≤40):oR ⟨#[c]⟩ xs=true:=
 Tx.xP 12000 h (by show 1≤12000;decide) (cZ (by lia))
theorem yt{xs:List ι}{c:Nat}(h:∀y∈xs,y.length≤100)(hn:xs.length≤100):oR ⟨#[c]⟩ xs=true:=
 Tx.xP 100 h (by show 1≤100;decide) (cZ (by lia))
def zI:List ι:=["","0","00","-1","+1","1.0","a","12","13",ud "9" 61,"clock","clocks","1000","1001"]
theorem Wq:∀y∈zI,y.length≤100:=by
 have:zI.all (fun y=>decide (y.length≤100))=true:=by decide
 exact fun y hy=>of_decide_eq_true (bT.mp this y hy)
def w9:fC:=fun ds G Q=>∃(p:ζ) (row:ι),ds=[.obj p,.str row]/\G p=some .mm/\row.length≤27/\∀t G',t.length≤12000->Sub G G'->Q (.str t) G'
def Wp:aA:=bZ (j4 pA (eC (.str " ")) (ξ (υ 5) (ae)))
def Wo:aA:=bh (fv (bj (aE (dF false) (υ 7) (eC (.int 7)))) (bZ (xU (υ 1))) (cT)) Wp
def Wn:aA:=bh (fv (bj (aE nk (υ 7) (eC (.int 7)))) (bZ (aE dh (υ 6) (υ 7))) (cT)) Wo
def Fi:aA:=bh (b9 (bG ko (ξ (υ 0) (ξ (eC (.int 15)) (ae)))) (hName 7)) Wn
def Fh:aA:=bh (b9 (fo (ξ (eC (.str "")) (ξ (aE gj (eC (.str " ")) (υ 1)) (ξ (aE gj (υ 1) (eC (.str " "))) (ξ (Aj (υ 1) " " "  ") (ξ (j4 pA (eC (.str " ")) (ξ (kP (υ 2) (gx) (fM (Bf uK (eC (.int 1))))) (ae))) (ξ (aE gj (υ 1) (eC (.str " 0"))) (ξ (aE gj (υ 1) (eC (.str "0"))) (ae))))))))) (hName 6)) Fi
def Wm:aA:=bh (b9 (aE df (aE df (kP (υ 2) (gx) (fM (υ 3))) (fo (ξ (aE dh (υ 4) (bG ko (ξ (υ 0) (ξ (eC (.int 14)) (ae))))) (ae)))) (kP (υ 2) (fM (aE df (υ 3) (eC (.int 1)))) (gx))) (hName 5)) Fh
def Wl:aA:=bh (b9 (fo (ξ (eC (.str "")) (ξ (eC (.str "0")) (ξ (eC (.str "00")) (ξ (eC (.str "-1")) (ξ (eC (.str "+1")) (ξ (eC (.str "1.0")) (ξ (eC (.str "a")) (ξ (eC (.str "12")) (ξ (eC (.str "13")) (ξ (aE wV (eC (.str "9")) (eC (.int 61))) (ξ (eC (.str "clock")) (ξ (eC (.str "clocks")) (ξ (eC (.str "1000")) (ξ (eC (.str "1001")) (ae)))))))))))))))) (hName 4)) Wm
def Fg:aA:=bh (b9 (bG ko (ξ (υ 0) (ξ (cL i7 (ξ (υ 2) (ae))) (ae)))) (hName 3)) Wl
def Ff:aA:=bh (b9 (j4 mI (υ 1) (ξ (eC (.str " ")) (ae))) (hName 2)) Fg
theorem yQ{α:Type}{xs:List α}{r:Int}(h0:0≤r)(h1:r<xs.length):∃x∈xs,∀(f:α->D),kA (xs.map f) r=some (f x):=by
 obtain⟨j,rfl⟩:=Int.eq_ofNat_of_zero_le h0;have hj:j<xs.length:=by lia
 exact⟨xs[j],iH hj,fun f=>qF (by rw[aS,bu hj];rfl)⟩
theorem Wk{Q:V3}{G:Gp}{p q6 q5:ζ}{row:ι}{ss os:List ι}{x2 x3 x4:Option D}(hp:G p=some .mm)(hl:row.length≤27)(h6:G q6=some (.lst (ss.map D.str)))(hs:ss.length=7)(hs2:∀y∈ss,y.length≤12000)(h5:G q5=some (.lst (os.map D.str)))(ho:os.length≤100)(ho2:∀y∈os,y.length≤100)
  (q:∀t,t.length≤12000->Q (.str t) G):Fi (aT Q) [some (.obj p),some (.str row),x2,x3,x4,some (.obj q5),some (.obj q6),none] G:=by
 refine⟨p,15,rfl,hp,⟨by decide,ky (by decide) (by decide)⟩,fun r a b=>⟨fun g=>?_,fun g=>?_⟩⟩
 ·have g':r<7:=of_decide_eq_true g;obtain⟨x,hx,e⟩:=yQ (xs:=ss) a (by lia);exact⟨_,_,h6,e D.str,cW (q x (hs2 x hx))⟩
 ·refine⟨_,_,rfl,rfl,ax _,fun _=>⟨by lia,fun hu=>cW (q _ (by lia))⟩,fun _=>?_⟩;refine⟨⟨_,rfl⟩,_,os,h5,strs_map _,yt ho2 ho,cW (q _ ?_)⟩;have:=yR (c:=32) ho2 ho;exact aK this (by decide)
theorem Wj:∀ds G Q,w9 ds G Q->Ff (aT Q) (bD ["pen","row","words","spot","odd","one","some","way"] ds) G:=by
 rintro ds G Q ⟨p,row,rfl,hp,hl,q⟩;refine⟨⟨_,rfl⟩,by decide,cZ (by lia),fun p2 G2 n2=>?_⟩;have n2':dC G p2 (.lst ((Txt.split row " ").map D.str)) G2:=n2;have hpos:=eD row " ";have hle:=ip row " ";have hsh:∀w∈Txt.split row " ",w.length≤27:=fun w hw=>by have:=uu hw;lia
 show Fg (aT Q) [some (.obj p),some (.str row),some (.obj p2),none,none,none,none,none] G2;generalize Txt.split row " " = ws at n2' hpos hle hsh;have hp2:=n2'.sub _ _ hp;refine⟨_,n2'.at_,p,_,rfl,hp2,⟨by rw[ο];lia,ky (by rw[ο];lia) (by rw[ο];lia)⟩,fun spot a1 a2=>?_⟩;refine⟨⟨by decide,by decide,by decide,by decide⟩,fun p4 G4 n4=>?_⟩;have e4:G4 p4=some (.lst (zI.map D.str)):=n4.at_;have w4:=n4.sub _ _ n2'.at_;have hp4:=n4.sub _ _ hp2;refine⟨_,w4,fun p5 G5 n5=>?_⟩;refine⟨p,14,rfl,n5.sub _ _ hp4,⟨by decide,ky (by decide) (by decide)⟩,fun r b1 b2=>?_⟩;obtain⟨o,ho,eo⟩:=yQ (xs:=zI) b1 b2;refine⟨_,_,n5.sub _ _ e4,eo D.str,fun p6 G6 n6=>?_⟩;rw[mH] at n5;have c1:=vE ws none (some spot);have c2:=vE ws (some (spot+1)) none;refine⟨_,_,n6.sub _ _ n5.at_,n6.at_,dX (by rw[ο];show _+1≤1000;lia),fun p7 G7 n7=>?_⟩;have s47:=(n5.sub.trans n6.sub).trans n7.sub;refine⟨_,s47 _ _ w4,fun p8 G8 n8=>?_⟩;rw[mH] at n8;refine⟨_,_,n8.sub _ _ n7.at_,n8.at_,dX (by rw[ar,ο,ο];show _+1+_≤1000;lia),fun p9 G9 n9=>?_⟩;have e9:G9 p9=some (.lst ((gW ws none (some spot)++[o]++gW ws (some (spot+1)) none).map D.str)):=by
  rw[bN,bN];exact n9.at_
 have s49:=(s47.trans n8.sub).trans n9.sub;show Fh (aT Q) [some (.obj p),some (.str row),some (.obj p2),some (.int spot),some (.obj p4),some (.obj p9),none,none] G9;have l1:(" ":ι).length=1:=rfl;have l2:("  ":ι).length=2:=rfl;have l3:(" 0":ι).length=2:=rfl;have l4:("0":ι).length=1:=rfl;have hrl:=Mg row " " "  ";rw[l2] at hrl;refine⟨cZ (by rw[l1];lia),cZ (by rw[l1];lia),by rw[l2];lia,⟨_,rfl⟩,_,s49 _ _ w4,fun p10 G10 n10=>?_⟩;rw[mH] at n10;have c3:=vE ws none (some (-1));have hc3:∀y∈gW ws none (some (-1)),y.length≤100:=fun y hy=>by have:=hsh y (xB hy);lia
 refine⟨_,_,n10.at_,strs_map _,yt hc3 (by lia),cZ (by rw[l3];lia),cZ (by rw[l4];lia),fun p11 G11 n11=>?_⟩;have hj:=yR (c:=32) (N:=100) hc3 (by lia);have s11:=(s49.trans n10.sub).trans n11.sub;have e11:G11 p11=some (.lst (([("":ι)," " ++ row,row++" ",Txt.replace row " " "  ",Txt.join " " (gW ws none (some (-1))),row++" 0",row++"0"]:List ι).map D.str)):=n11.at_;refine Wk (s11 _ _ hp4) hl e11 rfl (fun y hy=>?_) ((n10.sub.trans n11.sub) _ _ e9) ?_ (fun y hy=>?_) fun t ht=>q t _ ht ((n2'.sub.trans n4.sub).trans s11)
 ·simp only[aa,aF,or_false] at hy;rcases hy with rfl|rfl|rfl|rfl|rfl|rfl|rfl
  ·decide
  ·rw[bH];lia
  ·rw[bH];lia
  ·lia
  ·exact aK hj (by decide)
  ·rw[bH];lia
  ·rw[bH];lia
 ·rw[ar,ar];show _+1+_≤100;lia
 ·rcases bM.mp hy with hy|hy
  ·rcases bM.mp hy with hy|hy
   ·have:=hsh y (xB hy);lia
   ·rw[cR.mp hy];exact Wq o ho
  ·have:=hsh y (xB hy);lia
end My
namespace My
open PySem L2 L3 Tx
def w6:fC:=fun ds G Q=>∃(p q:ζ) (rows:List ι),ds=[.obj p,.obj q]/\G p=some .mm/\G q=some (.lst (rows.map D.str))/\(1≤rows.length/\rows.length≤13)/\(∀y∈rows,y.length≤27)/\∀(q':ζ) (rows':List ι) (G':Gp),rows'.length≤40->(∀y∈rows',y.length≤12000)->Sub G G'->G' q'=some (.lst (rows'.map D.str))->Q (.obj q') G'
def Wi:aA:=bZ (υ 4)
def Wh:aA:=bh (fv (bj (aE (dF false) (υ 5) (eC (.int 2)))) (b9 (aE dh (υ 1) (υ 3)) (hSub (υ 4) (υ 2))) (fv (bj (aE (dF false) (υ 5) (eC (.int 3)))) (bZ (Ai (υ 1))) (b9 (bG w9 (ξ (υ 0) (ξ (aE dh (υ 1) (υ 2)) (ae)))) (hSub (υ 4) (υ 2))))) Wi
def Wg:aA:=bh (fv (bj (aE (dF false) (υ 5) (eC (.int 1)))) (bZ (aE df (kP (υ 4) (gx) (fM (aE df (υ 2) (eC (.int 1))))) (kP (υ 4) (fM (υ 2)) (gx)))) (cT)) Wh
def Wf:aA:=bh (fv (bj (aE (dF false) (υ 5) (eC (.int 0)))) (bZ (aE df (kP (υ 4) (gx) (fM (υ 2))) (kP (υ 4) (fM (aE df (υ 2) (eC (.int 1)))) (gx)))) (cT)) Wg
def We:aA:=bh (b9 (bG ko (ξ (υ 0) (ξ (eC (.int 7)) (ae)))) (hName 5)) Wf
def Wd:aA:=bh (b9 (cL zE (ξ (υ 1) (ae))) (hName 4)) We
def Wc:aA:=bh (b9 (bG ko (ξ (υ 0) (ξ (cL i7 (ξ (υ 1) (ae))) (ae)))) (hName 3)) Wd
def Fe:aA:=bh (b9 (bG ko (ξ (υ 0) (ξ (cL i7 (ξ (υ 1) (ae))) (ae)))) (hName 2)) Wc
theorem Wb{n:Nat}{r:Int}(h0:0≤r)(h1:r<n):rm n r=some r.toNat:=by
 unfold rm;rw[if_pos h0,if_pos (by lia)]
theorem Wa{rows:List ι}{j:Nat}{t:ι}:(rows.map D.str).set j (.str t)=(rows.set j t).map D.str:=by
 rw[List.map_set]
theorem V9{rows:List ι}{j:Nat}{t:ι}(h:∀y∈rows,y.length≤27)(ht:t.length≤12000):∀y∈rows.set j t,y.length≤12000:=fun y hy=>by
 rcases List.mem_or_eq_of_mem_set hy with z|rfl
 ·have:=h y z;lia
 ·exact ht
theorem V8:∀ds G Q,w6 ds G Q->Fe (aT Q) (bD ["pen","rows","spot","other","found","way"] ds) G:=by
 rintro ds G Q ⟨p,q0,rows,rfl,hp,hq,hn,hr,q⟩;have hlm:(rows.map D.str).length=rows.length:=ο ..;have big:0<(((rows.map D.str).length:Nat):Int)/\kU (((rows.map D.str).length:Nat):Int):=⟨by lia,ky (by lia) (by lia)⟩;refine⟨_,hq,p,_,rfl,hp,big,fun spot a1 a2=>?_⟩;refine⟨_,hq,p,_,rfl,hp,big,fun other b1 b2=>?_⟩;rw[hlm] at a2 b2;refine⟨_,hq,fun p4 G4 n4=>?_⟩;have hp4:=n4.sub _ _ hp;have hq4:=n4.sub _ _ hq;have hr2:∀y∈rows,y.length≤12000:=fun y hy=>by have:=hr y hy;lia
 refine⟨p,7,rfl,hp4,⟨by decide,ky (by decide) (by decide)⟩,fun way w1 w2=>?_⟩;have cat:∀(lo hi lo2 hi2:Option Int) (K:V3),(∀(q':ζ) (rows':List ι) (G':Gp),rows'.length≤40->(∀y∈rows',y.length≤12000)->Sub G4 G'->G' q'=some (.lst (rows'.map D.str))->K (.obj q') G') ->
   ∀p5 G5,dC G4 p5 (.lst (gA (rows.map D.str) lo hi)) G5->∃ds,G5 p4=some (.lst ds)/\∀p6 G6,dC G5 p6 (.lst (gA ds lo2 hi2)) G6->df (.obj p5) (.obj p6) G6 K:=fun lo hi lo2 hi2 K k p5 G5 n5=>by
  refine⟨_,n5.sub _ _ n4.at_,fun p6 G6 n6=>?_⟩;rw[mH] at n5 n6;have c1:=vE rows lo hi;have c2:=vE rows lo2 hi2;refine⟨_,_,n6.sub _ _ n5.at_,n6.at_,dX (by rw[ο,ο];lia),fun p7 G7 n7=>?_⟩;refine k p7 (gW rows lo hi++gW rows lo2 hi2) G7 (by rw[ar];lia) (fun y hy=>?_) ((n5.sub.trans n6.sub).trans n7.sub) (by rw[bN];exact n7.at_);rcases bM.mp hy with z|z<;>exact hr2 y (xB z)
 refine⟨_,_,rfl,rfl,ax _,fun _=>?_,fun _=>?_⟩
 ·exact⟨_,n4.at_,cat none (some spot) (some (spot+1)) none _ fun q' rows' G' h1 h2 s h3=>cW (q q' rows' G' h1 h2 (n4.sub.trans s) h3)⟩
 refine⟨_,_,rfl,rfl,ax _,fun _=>?_,fun _=>?_⟩
 ·exact⟨_,n4.at_,cat none (some (spot+1)) (some spot) none _ fun q' rows' G' h1 h2 s h3=>cW (q q' rows' G' h1 h2 (n4.sub.trans s) h3)⟩
 have put:∀(t:ι) (G':Gp),t.length≤12000->Sub G4 G'->∃ds j,G' p4=some (.lst ds)/\rm ds.length spot=some j/\(aT Q).rt (.obj p4) (eH G' p4 (.lst (ds.set j (.str t)))):=fun t G' ht s=>by
  refine⟨_,_,s _ _ n4.at_,Wb a1 (by rw[hlm];exact a2),cW (q p4 (rows.set spot.toNat t) _ (by rw[pg];lia) (V9 hr ht) (Sub.wI (n4.sub.trans s) n4.av) ?_)⟩;rw[kM,Wa]
 refine⟨_,_,rfl,rfl,ax _,fun _=>?_,fun _=>?_⟩
 ·obtain⟨x,hx,e⟩:=yQ (xs:=rows) b1 b2;exact⟨_,_,hq4,e D.str,put x G4 (hr2 x hx) (Sub.refl _)⟩
 refine⟨_,_,rfl,rfl,ax _,fun _=>?_,fun _=>?_⟩
 ·refine⟨_,hq4,fun p6 G6 n6=>cW (q p6 rows.reverse G6 (by rw[lI];lia) (fun y hy=>hr2 y (List.mem_reverse.mp hy)) (n4.sub.trans n6.sub) ?_)⟩;rw[n6.at_,List.map_reverse]
 ·obtain⟨x,hx,e⟩:=yQ (xs:=rows) a1 a2;exact⟨_,_,hq4,e D.str,p,x,rfl,hp4,hr x hx,fun t G5 ht s=>put t G5 ht s⟩
theorem Fd{m:Int}:∀(rs:List bY) (k:Nat) (last:bY),m=(k:Int)-1+(rs.length:Int)->jV 1000 rs->mO rs->(∀c∈rs,Bj last c)->fO m (rs.map lM) k last=none
 |[],k,last,hm,_,_,_=>by
  show (if (k:Int)≤m then some (k+1) else none)=none;have hm:m=(k:Int)-1+((0:Nat):Int):=hm;rw[if_neg (by lia)]
 |c::rs,k,last,hm,ok,hr,hl=>by
  rw[ak] at hm;have hc:=ok c ψ;have h':=mx.mp hr;have e:=FT (m:=m) (rs:=rs.map lM) (k:=k) (last:=last) (by lia) (OQ hc) (by
   rw[lT.mpr hc,tG.mpr (hl c ψ)];rfl)
  show fO m (lM c::rs.map lM) k last=none;rw[e];exact Fd rs (k+1) (c.1,c.2) (by lia) (fun z hz=>ok z (ω _ hz)) h'.2 h'.1
theorem V7{cs:List bY}(ok:jV 1000 cs)(hl:cs.length≤12)(hr:mO cs):v5 (txt cs)=none:=by
 unfold v5;rw[Gh];unfold fW;rw[xg (OR (by lia)),if_pos (by lia)];refine Fd cs 1 (0,0) (by lia) ok hr fun c hc=>.inl ?_;have:=(ok c hc).1.1;exact this
theorem BF(o:Option Nat){G:Gp}{Q:V3}(q:Q (.bl false) G):dF true (oK o) (oK o) G Q:=by
 cases o with
 |none=>exact⟨_,_,rfl,rfl,ax _,q⟩
 |some k=>
  refine⟨_,_,rfl,rfl,ax _,?_⟩;show Q (.bl (!((k:Int)==(k:Int)))) G;rw[beq_self_eq_true];exact q
def mf:fC:=fun ds G Q=>∃ns:List Int,ds=[.dA (ns.map .int)]/\ns.length≤63/\Q (.bl true) G
def Fc:aA:=fv (bj (aE (dF true) (bG qw (ξ (υ 1) (ae))) (eC (.int 0)))) (bZ (eC (.bl false))) (cT)
def Fb:aA:=fv (bj (aE (dF true) (bG qw (ξ (υ 3) (ae))) (bG uo (ξ (υ 3) (ae))))) (bZ (eC (.bl false))) (cT)
def E9:aA:=fv (bj (aE (dF true) (bG qw (ξ (j4 pA (eC (.str "\n")) (ξ (υ 4) (ae))) (ae))) (bG uo (ξ (j4 pA (eC (.str "\n")) (ξ (υ 4) (ae))) (ae))))) (bZ (eC (.bl false))) (cT)
def V6:aA:=fv (bj (aE (dF true) (bG qw (ξ (υ 8) (ae))) (bG uo (ξ (υ 8) (ae))))) (bZ (eC (.bl false))) (cT)
def V5:aA:=bh (b9 (j4 pA (eC (.str "\n")) (ξ (bG w6 (ξ (υ 6) (ξ (j4 mI (υ 3) (ξ (eC (.str "\n")) (ae))) (ae)))) (ae))) (hName 8)) V6
def V4:aA:=fv (bj (aE (EM true) (bG qw (ξ (υ 3) (ae))) (eC .av))) (bZ (eC (.bl false))) (cT)
def V2:aA:=bh (lL (nu (ξ (eC (.int 5)) (ae))) (hName 7) (V5)) V4
def V1:aA:=bh (b9 (bG xa (ξ (bG xy (ξ (υ 6) (ae))) (ae))) (hName 3)) V2
def E8:aA:=bh (b9 (bG CG (ξ (υ 5) (ae))) (hName 6)) V1
def V0:aA:=bZ (eC (.bl true))
def E7:aA:=bh (lL (mL (aE df (fo (ξ (bG xC (ξ (υ 0) (ξ (eC (.int 0)) (ae)))) (ae))) (kP (υ 0) (fM (eC (.int 1))) (fM (eC (.int 6)))))) (hName 5) (E8)) V0
def E6:aA:=bh (lL (mL (fo (ξ (υ 2) (ξ (aE df (υ 2) (fo (ξ (eC (.str "clock 13 12")) (ae)))) (ξ (kP (υ 2) (gx) (fM (Bf uK (eC (.int 1))))) (ξ (aE df (aE df (fo (ξ (eC (.str "clocks 13")) (ae))) (kP (υ 2) (fM (eC (.int 1))) (gx))) (fo (ξ (eC (.str "clock 13 12")) (ae)))) (ae))))))) (hName 4) (E9)) E7
def EZ:aA:=bh (lL (mL (fo (ξ (eC (.str "")) (ξ (eC (.str "clocks 0")) (ξ (eC (.str "clocks 1")) (ξ (eC (.str "clocks 13")) (ξ (eC (.str "clocks 0\nclock 1 0")) (ξ (eC (.str "clocks 1\n")) (ξ (eC (.str "\n")) (ξ (eC (.str "clocks 0 ")) (ae))))))))))) (hName 3) (Fb)) E6
def EY:aA:=bh (b9 (aE df (fo (ξ (eC (.str "clocks 12")) (ae))) (kh ["k"] [] (nu (ξ (eC (.int 12)) (ae))) (hName 0) (fm) (aE gj (eC (.str "clock 13 ")) (cL nT (ξ (υ 0) (ae)))))) (hName 2)) EZ
def EX:aA:=bh (lL (mL (fo (ξ (eC .av) (ξ (eC (.int 0)) (ξ (eC (.bl true)) (ξ (fo (ξ (eC (.str "clocks 0")) (ae))) (ξ (pH (ξ (eC (.str "clocks 0")) (ae))) (ξ (Dk) (ae))))))))) (hName 1) (Fc)) EY
def twR:List ι:=("clocks 12":ι)::(aO 12).map fun k:Nat=>("clock 13 ":ι)++num k
theorem BE:∀y∈twR,y.length≤27:=by
 have:twR.all (fun y=>decide (y.length≤27))=true:=by decide
 exact fun y hy=>of_decide_eq_true (bT.mp this y hy)
theorem WA{Q:V3}{D3:jA}{G:Gp}{cell:Int}{x0 x1 x2 x3 x4 x6 x7 x8:Option D}(k:∀τ G',Sub G G'->(∃x3 x5 x6 x7 x8,τ=[x0,x1,x2,x3,x4,x5,x6,x7,x8])->D3.nx τ G'):E8 D3 [x0,x1,x2,x3,x4,some (.int cell),x6,x7,x8] G:=by
 refine⟨cell,rfl,fun pp G1 n1=>?_⟩;refine⟨pp,rfl,n1.at_,fun cs ok hl hr=>?_⟩;have ok1:jV 1000 cs:=fun c hc=>⟨(ok c hc).1,by have:=(ok c hc).2;lia⟩;refine⟨cs,rfl,ok1,hl,fun G2 s2=>?_⟩;have ht:=OP ok1 hl;refine⟨⟨by decide,by decide⟩,?_⟩;have s02:=n1.sub.trans s2;refine nW (fun ds τ G'=>∃x7 x8,τ=[x0,x1,x2,some (.str (txt cs)),x4,some (.int cell),some (.obj pp),x7,x8]/\Sub G2 G') (fun _ _ _ _=>trivial) ?_ ?_ _ _ _ ⟨x7,x8,rfl,Sub.refl _⟩
 ·rintro d ds τ G3 N ⟨y7,y8,rfl,s⟩ hN;refine⟨⟨_,rfl⟩,⟨_,rfl⟩,by decide,cZ (by lia),fun p4 G4 n4=>?_⟩;have n4':dC G3 p4 (.lst ((fW cs).map D.str)) G4:=by
   rw[←Gh];exact n4
  have hrl:(fW cs).length=cs.length+1:=by
   unfold fW;rw[ak,ο]
  refine⟨pp,p4,fW cs,rfl,n4.sub _ _ (s _ _ (s2 _ _ n1.at_)),n4'.at_,⟨by lia,by lia⟩,BS ok1 hl,fun q' rows' G5 h1 h2 s5 h3=>?_⟩;refine⟨_,rows',h3,strs_map _,vX h2 h1,?_⟩;have hj:=yR (c:=10) h2 h1;have hj:(Txt.join "\n" rows').length≤900000:=aK hj (by decide);refine⟨_,rfl,.inl ⟨_,rfl,hj,fun G6 s6=>⟨_,rfl,hj,fun G7 s7=>BF _ ⟨nofun,fun _=>hN _ _ ⟨_,_,rfl,(((s.trans n4.sub).trans s5).trans s6).trans s7⟩⟩⟩⟩⟩
 ·rintro τ G3 ⟨y7,y8,rfl,s⟩;refine⟨_,rfl,.inl ⟨_,rfl,by lia,fun G4 s4=>?_⟩⟩;rw[V7 ok1 hl hr];exact⟨nofun,fun _=>k _ _ ((s02.trans s).trans s4) ⟨_,_,_,_,_,rfl⟩⟩
theorem Wz{D3:jA}{G:Gp}{d:D}{x0 x2 x3 x4 x5 x6 x7 x8:Option D}(hi:gJ "str" gH (rk G d)=some false)(k:∀G',Sub G G'->D3.nx [x0,some d,x2,x3,x4,x5,x6,x7,x8] G'):Fc D3 [x0,some d,x2,x3,x4,x5,x6,x7,x8] G:=
 ⟨d,rfl,.inr ⟨hi,fun G1 s1=>⟨_,_,rfl,rfl,ax _,fun h=>absurd h (by decide),fun _=>k G1 s1⟩⟩⟩
theorem Wy{D3:jA}{G:Gp}{t:ι}{x0 x1 x2 x4 x5 x6 x7 x8:Option D}(hl:t.length≤900000)(k:∀G',Sub G G'->D3.nx [x0,x1,x2,some (.str t),x4,x5,x6,x7,x8] G'):Fb D3 [x0,x1,x2,some (.str t),x4,x5,x6,x7,x8] G:=
 ⟨_,rfl,.inl ⟨t,rfl,hl,fun G1 s1=>⟨t,rfl,hl,fun G2 s2=>BF _ ⟨nofun,fun _=>k G2 (s1.trans s2)⟩⟩⟩⟩
theorem Wx{D3:jA}{G:Gp}{q:ζ}{rows:List ι}{x0 x1 x2 x3 x5 x6 x7 x8:Option D}(h3:G q=some (.lst (rows.map D.str)))(h1:rows.length≤40)(h2:∀y∈rows,y.length≤27)(k:∀G',Sub G G'->D3.nx [x0,x1,x2,x3,some (.obj q),x5,x6,x7,x8] G'):E9 D3 [x0,x1,x2,x3,some (.obj q),x5,x6,x7,x8] G:=by
 have h2':∀y∈rows,y.length≤12000:=fun y hy=>by have:=h2 y hy;lia
 have hj:(Txt.join "\n" rows).length≤900000:=aK (yR (c:=10) h2' h1) (by decide);refine⟨⟨_,rfl⟩,_,rows,h3,strs_map _,vX h2' h1,_,rfl,.inl ⟨_,rfl,hj,fun G1 s1=>?_⟩⟩;exact⟨⟨_,rfl⟩,_,rows,s1 _ _ h3,strs_map _,vX h2' h1,_,rfl,hj,fun G2 s2=>BF _ ⟨nofun,fun _=>k G2 (s1.trans s2)⟩⟩
def DA:List ι:=["","clocks 0","clocks 1","clocks 13","clocks 0\nclock 1 0","clocks 1\n","\n","clocks 0 "]
theorem Ww:∀y∈DA,y.length≤900000:=by
 have:DA.all (fun y=>decide (y.length≤100))=true:=by decide
 intro y hy;have:=of_decide_eq_true (bT.mp this y hy);lia
theorem Wv{Q:V3}{G:Gp}{ns:List Int}{x1 x2 x3 x4:Option D}(q:∀G',Sub G G'->(aT Q).rt (.bl true) G'):E7 (aT Q) [some (.dA (ns.map .int)),x1,x2,x3,x4,none,none,none,none] G:=by
 refine⟨ns,0,rfl,fun i=>?_⟩;intro q0 G2 n2 q1 G3 n3;rw[mH] at n3;have hc8:(gW ns (some 1) (some 6)).length≤5:=by
  unfold gW;rw[show (some 1:Option Int)=some ((1:Nat):Int) from rfl,show (some 6:Option Int)=some ((6:Nat):Int) from rfl,HT.tw,HT.tw,dN];lia
 refine⟨_,_,n3.sub _ _ n2.at_,n3.at_,?_,fun q2 G4 n4=>?_⟩
 ·rw[ο];exact dX (by simp;lia)
 have s4:=(n2.sub.trans n3.sub).trans n4.sub;refine⟨_,n4.at_,?_⟩;refine nW (fun ds τ G'=>∃(is:List Int) (x3 x5 x6 x7 x8:Option D),ds=is.map D.int/\τ=[some (.dA (ns.map .int)),x1,x2,x3,x4,x5,x6,x7,x8]/\Sub G4 G') (fun _ _ _ h=>?_) ?_ ?_ _ _ _ ⟨i::gW ns (some 1) (some 6),_,_,_,_,_,rfl,rfl,Sub.refl _⟩
 ·obtain⟨_,_,_,_,_,_,_,_,s⟩:=h;exact s _ _ n4.at_
 ·rintro d ds τ G5 N ⟨is,x3,x5,x6,x7,x8,e,rfl,s⟩ hN;cases is with
  |nil=>cases e
  |cons cc is=>
   cases e;refine WA (Q:=Q) fun τ G' s' ⟨y3,y5,y6,y7,y8,e⟩=>?_;subst e;exact hN _ _ ⟨is,y3,y5,y6,y7,y8,rfl,rfl,s.trans s'⟩
 ·rintro τ G5 ⟨is,x3,x5,x6,x7,x8,e,rfl,s⟩;exact q _ (s4.trans s)
theorem Wu{Q:V3}{G:Gp}{ns:List Int}{p:ζ}{x1 x3:Option D}(hp:G p=some (.lst (twR.map D.str)))(q:∀G',Sub G G'->(aT Q).rt (.bl true) G'):E6 (aT Q) [some (.dA (ns.map .int)),x1,some (.obj p),x3,none,none,none,none,none] G:=by
 have htl:twR.length=13:=by decide
 have hcl:∀lo hi,(gW twR lo hi).length≤13:=fun lo hi=>by
  have:=vE twR lo hi;lia
 have hcm:∀lo hi,∀y∈gW twR lo hi,y.length≤27:=fun lo hi y hy=>BE y (xB hy);have o1:("clock 13 12":ι).length≤27:=by decide
 have o2:("clocks 13":ι).length≤27:=by decide
 intro p1 G1 n1;refine⟨_,_,n1.sub _ _ hp,n1.at_,dX (by rw[ο,htl];show 13+1≤1000;decide),fun p2 G2 n2=>?_⟩;have h2:=n2.sub _ _ (n1.sub _ _ hp);refine⟨_,h2,fun p3 G3 n3=>?_⟩;rw[mH] at n3;intro p4 G4 n4;have h4:=n4.sub _ _ (n3.sub _ _ h2);refine⟨_,h4,fun p5 G5 n5=>?_⟩;rw[mH] at n5;have c5:=hcl (some 1) none;refine⟨_,_,n5.sub _ _ n4.at_,n5.at_,dX (by rw[ο];show 1+_≤1000;lia),fun p6 G6 n6=>?_⟩;intro p7 G7 n7;refine⟨_,_,n7.sub _ _ n6.at_,n7.at_,dX (by rw[ar,ο];show 1+_+1≤1000;lia),fun p8 G8 n8=>?_⟩;intro p9 G9 n9;refine⟨_,n9.at_,?_⟩;have s69:=(n7.sub.trans n8.sub).trans n9.sub;have s39:=(((n4.sub.trans n5.sub).trans n6.sub).trans s69);have s29:=n3.sub.trans s39;have s09:=(n1.sub.trans n2.sub).trans s29;let good:Gp->D->Prop:=fun G' d=>∃(q:ζ) (rows:List ι),d=.obj q/\G' q=some (.lst (rows.map D.str))/\rows.length≤40/\∀y∈rows,y.length≤27;have g1:good G9 (.obj p):=⟨p,twR,rfl,s09 _ _ hp,by lia,BE⟩;have g2:good G9 (.obj p2):=by
  refine⟨p2,twR++[("clock 13 12":ι)],rfl,?_,by rw[ar,htl];decide,fun y hy=>?_⟩
  ·rw[bN];exact s29 _ _ n2.at_
  ·rcases bM.mp hy with z|z
   ·exact BE y z
   ·rw[cR.mp z];exact o1
 have g3:good G9 (.obj p3):=⟨p3,_,rfl,s39 _ _ n3.at_,by have:=hcl none (some (-1));lia,hcm _ _⟩;have g4:good G9 (.obj p8):=by
  refine⟨p8,[("clocks 13":ι)]++gW twR (some 1) none++[("clock 13 12":ι)],rfl,?_,?_,fun y hy=>?_⟩
  ·rw[bN,bN];exact n9.sub _ _ n8.at_
  ·rw[ar,ar];show 1+_+1≤40;lia
  ·rcases bM.mp hy with z|z
   ·rcases bM.mp z with z|z
    ·rw[cR.mp z];exact o2
    ·exact hcm _ _ y z
   ·rw[cR.mp z];exact o1
 refine nW (fun ds τ G'=>∃x4:Option D,(∀d∈ds,good G9 d)/\τ=[some (.dA (ns.map .int)),x1,some (.obj p),x3,x4,none,none,none,none]/\Sub G9 G') (fun _ _ _ h=>?_) ?_ ?_ _ _ _ ⟨none,fun d hd=>?_,rfl,Sub.refl _⟩
 ·obtain⟨_,_,_,s⟩:=h;exact s _ _ n9.at_
 ·rintro d ds τ G' N ⟨x4,hg,rfl,s⟩ hN;obtain⟨q,rows,rfl,e,h1,h2⟩:=hg d ψ;exact Wx (s _ _ e) h1 h2 fun G'' s''=>hN _ _ ⟨_,fun d hd=>hg d (ω _ hd),rfl,s.trans s''⟩
 ·rintro τ G' ⟨x4,hg,rfl,s⟩;exact Wv fun G'' s''=>q _ ((s09.trans s).trans s'')
 ·simp only[aa,aF,or_false] at hd;rcases hd with rfl|rfl|rfl|rfl
  ·exact g1
  ·exact g2
  ·exact g3
  ·exact g4
theorem Wt{Q:V3}{G:Gp}{ns:List Int}{p:ζ}{x1:Option D}(hp:G p=some (.lst (twR.map D.str)))(q:∀G',Sub G G'->(aT Q).rt (.bl true) G'):EZ (aT Q) [some (.dA (ns.map .int)),x1,some (.obj p),none,none,none,none,none,none] G:=by
 intro p1 G1 n1;have e1:G1 p1=some (.lst (DA.map D.str)):=n1.at_;refine⟨_,e1,?_⟩;refine nW (fun ds τ G'=>∃(ts:List ι) (x3:Option D),ds=ts.map D.str/\(∀y∈ts,y.length≤900000)/\τ=[some (.dA (ns.map .int)),x1,some (.obj p),x3,none,none,none,none,none]/\Sub G1 G') (fun _ _ _ h=>?_) ?_ ?_ _ _ _ ⟨DA,none,rfl,Ww,rfl,Sub.refl _⟩
 ·obtain⟨_,_,_,_,_,s⟩:=h;exact s _ _ e1
 ·rintro d ds τ G' N ⟨ts,x3,e,hg,rfl,s⟩ hN;cases ts with
  |nil=>cases e
  |cons t ts=>
   cases e;exact Wy (hg t ψ) fun G'' s''=>hN _ _ ⟨ts,_,rfl,fun d hd=>hg d (ω _ hd),rfl,s.trans s''⟩
 ·rintro τ G' ⟨ts,x3,e,hg,rfl,s⟩;exact Wu (s _ _ (n1.sub _ _ hp)) fun G'' s''=>q _ ((n1.sub.trans s).trans s'')
theorem Ws{Q:V3}{G:Gp}{ns:List Int}{x1:Option D}(q:∀G',Sub G G'->(aT Q).rt (.bl true) G'):EY (aT Q) [some (.dA (ns.map .int)),x1,none,none,none,none,none,none,none] G:=by
 intro p1 G1 n1;refine⟨⟨by decide,by decide⟩,?_,?_⟩
 ·show (i5 0 12).length≤ag;decide
 have er:i5 0 12=(aO 12).map nD:=by rfl
 show ib _ _ _ _ _ (i5 0 12) _ _ _;rw[er];refine pz (fun τ=>∃x,τ=[x]) nD (fun _=>true) (fun k:Nat=>D.str (("clock 13 ":ι)++num k)) (G:=G1) trivial (aO 12) [] _ ⟨none,rfl⟩ ?_ ?_
 ·rintro k hm τ K1 K2 ⟨_,rfl⟩ g1 g2;have hk:=cg.mp hm;refine⟨fun _=>⟨ur (by rw[mC];lia),?_,g1 rfl _ ⟨_,rfl⟩⟩,nofun⟩;have hn:=qy (n:=k) (by lia);have l1:("clock 13 ":ι).length=9:=rfl;rw[l1];exact cZ (by show 9+(num k).length≤1000000;lia)
 ·intro p2 G2 n2;rw[filter_all,ey] at n2;refine⟨_,_,n2.sub _ _ n1.at_,n2.at_,dX (by rw[ο,fe];decide),fun p3 G3 n3=>?_⟩;have e3:G3 p3=some (.lst (twR.map D.str)):=by
   rw[n3.at_];unfold twR;rw[cN,fI];rfl
  exact Wt e3 fun G' s=>q _ (((n1.sub.trans n2.sub).trans n3.sub).trans s)
theorem Wr:∀ds G Q,mf ds G Q->EX (aT Q) (bD ["script","thing","twelve","text","rows","cell","pen","turn","spoilt"] ds) G:=by
 rintro ds G Q ⟨ns,rfl,hl,q⟩;intro p1 G1 n1 p2 G2 n2 p3 G3 n3;refine⟨_,n3.at_,?_⟩;have e1:G3 p1=some (.lst [.str "clocks 0"]):=n3.sub _ _ (n2.sub _ _ n1.at_);have e2:=n3.sub _ _ n2.at_;have s3:=(n1.sub.trans n2.sub).trans n3.sub;refine nW (fun ds τ G'=>∃x1:Option D,(∀d∈ds,∀G',Sub G3 G'->gJ "str" gH (rk G' d)=some false)/\τ=[some (.dA (ns.map .int)),x1,none,none,none,none,none,none,none]/\Sub G3 G') (fun _ _ _ h=>?_) ?_ ?_ _ _ _ ⟨none,fun d hd=>?_,rfl,Sub.refl _⟩
 ·obtain⟨_,_,_,s⟩:=h;exact s _ _ n3.at_
 ·rintro d ds τ G' N ⟨x1,hg,rfl,s⟩ hN;exact Wz (hg d ψ G' s) fun G'' s''=>hN _ _ ⟨_,fun d hd=>hg d (ω _ hd),rfl,s.trans s''⟩
 ·rintro τ G' ⟨x1,hg,rfl,s⟩;exact Ws fun G'' s''=>vG ((s3.trans s).trans s'') q
 ·intro G' s;simp only[aa,aF,or_false] at hd;rcases hd with rfl|rfl|rfl|rfl|rfl|rfl
  ·rfl
  ·rfl
  ·rfl
  ·rw[FC (s _ _ e1)];rfl
  ·rfl
  ·rw[FA (s _ _ e2)];rfl
end My
namespace My
open PySem L2 L3
def top(i:Nat):aV:=PySem.Challenge.pw_coverclocks_k71_texts_that_write_none.main.body.getD i (.Pass ⟨0,0,0,0⟩)
def KW:aV->aV
 |.ClassDef _ _ _ b ..=>b.getD 0 (.Pass ⟨0,0,0,0⟩)
 |s=>s
abbrev BD:aV:=top 10
abbrev VP:List ι:=["thing"]
theorem VO:bK VP ["thing"] (ai BD):=⟨rfl,rfl,rfl,by decide +kernel,rfl,by decide +kernel,by decide +kernel⟩
abbrev BC:aV:=top 14
abbrev VN:List ι:=["thing"]
theorem VM:bK VN ["thing"] (ai BC):=⟨rfl,rfl,rfl,by decide +kernel,rfl,by decide +kernel,by decide +kernel⟩
abbrev wZ:aV:=top 15
abbrev BB:List ι:=["thing"]
theorem VL:bK BB ["thing"] (ai wZ):=⟨rfl,rfl,rfl,by decide +kernel,rfl,by decide +kernel,by decide +kernel⟩
abbrev BA:aV:=top 19
abbrev VJ:List ι:=["text","rows","many","clocks","ahead","row"]
theorem qt:bK VJ ["text"] (ai BA):=⟨rfl,rfl,rfl,by decide +kernel,rfl,by decide +kernel,by decide +kernel⟩
abbrev Bz:aV:=top 20
abbrev VI:List ι:=["row","numbers"]
theorem AW:bK VI ["row"] (ai Bz):=⟨rfl,rfl,rfl,by decide +kernel,rfl,by decide +kernel,by decide +kernel⟩
abbrev wY:aV:=top 21
abbrev By:List ι:=["name","many","row","words"]
theorem DG:bK By ["name","many","row"] (ai wY):=⟨rfl,rfl,rfl,by decide +kernel,rfl,by decide +kernel,by decide +kernel⟩
abbrev yP:aV:=top 22
abbrev EW:List ι:=["word"]
theorem VH:bK EW ["word"] (ai yP):=⟨rfl,rfl,rfl,by decide +kernel,rfl,by decide +kernel,by decide +kernel⟩
abbrev Bx:aV:=top 24
abbrev VG:List ι:=["script","k"]
theorem VF:bK VG ["script","k"] (ai Bx):=⟨rfl,rfl,rfl,by decide +kernel,rfl,by decide +kernel,by decide +kernel⟩
abbrev Bw:aV:=top 25
abbrev VE:List ι:=["seed"]
theorem AS:bK VE ["seed"] (ai Bw):=⟨rfl,rfl,rfl,by decide +kernel,rfl,by decide +kernel,by decide +kernel⟩
abbrev Bv:aV:=top 26
abbrev VD:List ι:=["cell","left"]
theorem AX:bK VD ["cell"] (ai Bv):=⟨rfl,rfl,rfl,by decide +kernel,rfl,by decide +kernel,by decide +kernel⟩
abbrev B5:aV:=top 27
abbrev VC:List ι:=["pen","many","found"]
theorem AU:bK VC ["pen","many"] (ai B5):=⟨rfl,rfl,rfl,by decide +kernel,rfl,by decide +kernel,by decide +kernel⟩
abbrev B4:aV:=top 28
abbrev VB:List ι:=["found"]
theorem VA:bK VB ["found"] (ai B4):=⟨rfl,rfl,rfl,by decide +kernel,rfl,by decide +kernel,by decide +kernel⟩
abbrev B3:aV:=top 29
abbrev Vz:List ι:=["e","marks"]
theorem yG:bK Vz ["e"] (ai B3):=⟨rfl,rfl,rfl,by decide +kernel,rfl,by decide +kernel,by decide +kernel⟩
abbrev yO:aV:=top 30
abbrev EV:List ι:=["pen","times","found","turn","spot","k","step","rest"]
theorem mi:bK EV ["pen","times"] (ai yO):=⟨rfl,rfl,rfl,by decide +kernel,rfl,by decide +kernel,by decide +kernel⟩
abbrev B2:aV:=top 31
abbrev Vy:List ι:=["pen","way","found","steps","turn","step"]
theorem qu:bK Vy ["pen"] (ai B2):=⟨rfl,rfl,rfl,by decide +kernel,rfl,by decide +kernel,by decide +kernel⟩
abbrev B1:aV:=top 32
abbrev Vx:List ι:=["clocks","rows","step","rest"]
theorem wx:bK Vx ["clocks"] (ai B1):=⟨rfl,rfl,rfl,by decide +kernel,rfl,by decide +kernel,by decide +kernel⟩
abbrev yN:aV:=top 33
abbrev EU:List ι:=["word"]
theorem Vw:bK EU ["word"] (ai yN):=⟨rfl,rfl,rfl,by decide +kernel,rfl,by decide +kernel,by decide +kernel⟩
abbrev B0:aV:=top 34
abbrev Vv:List ι:=["thing","e"]
theorem AV:bK Vv ["thing"] (ai B0):=⟨rfl,rfl,rfl,by decide +kernel,rfl,by decide +kernel,by decide +kernel⟩
abbrev BZ:aV:=top 35
abbrev Vu:List ι:=["text","rows","words","last","k","clock"]
theorem mh:bK Vu ["text"] (ai BZ):=⟨rfl,rfl,rfl,by decide +kernel,rfl,by decide +kernel,by decide +kernel⟩
abbrev BY:aV:=top 36
abbrev Vt:List ι:=["pen","row","words","spot","odd","one","some","way"]
theorem qp:bK Vt ["pen","row"] (ai BY):=⟨rfl,rfl,rfl,by decide +kernel,rfl,by decide +kernel,by decide +kernel⟩
abbrev BX:aV:=top 37
abbrev Vs:List ι:=["pen","rows","spot","other","found","way"]
theorem uJ:bK Vs ["pen","rows"] (ai BX):=⟨rfl,rfl,rfl,by decide +kernel,rfl,by decide +kernel,by decide +kernel⟩
abbrev yM:aV:=top 38
abbrev ET:List ι:=["script","thing","twelve","text","rows","cell","pen","turn","spoilt"]
theorem j3:bK ET ["script"] (ai yM):=⟨rfl,rfl,rfl,by decide +kernel,rfl,by decide +kernel,by decide +kernel⟩
abbrev vt:aV:=KW (top 7)
theorem Vr:bK ["self","row"] ["self","row"] (ai vt):=⟨rfl,rfl,rfl,by decide +kernel,rfl,by decide +kernel,by decide +kernel⟩
set_option genInjectivity false in
structure Ed where
 Ag:ζ
 Aw:ay
 Ae:ζ
 Au:ay
 C8:ζ
 Dp:ay
 C9:ζ
 Dq:ay
 Aa:ζ
 Ap:ay
 Dg:ζ
 Dv:ay
 Dd:ζ
 Ds:ay
 Dc:ζ
 Dr:ay
 zX:ζ
 Am:ay
 Af:ζ
 Av:ay
 zY:ζ
 An:ay
 Ac:ζ
 Ar:ay
 C6:ζ
 Dm:ay
 Ad:ζ
 As:ay
 Df:ζ
 Du:ay
 C7:ζ
 Dn:ay
 Ab:ζ
 Aq:ay
 zZ:ζ
 Ao:ay
 zW:ζ
 Al:ay
 C5:ζ
 Dl:ay
 De:ζ
 Dt:ay
 Ah:ζ
 uU:ay
 kS:ζ
 pd:ζ
 ny:ζ
 pb:ζ
 tK:ζ
 nz:ζ
 eI:ζ
 nv:ζ
 iw:ζ
 Bg:ay
 AM:fE
 wm:fE
 vq:fE
 ya:fE
structure Txt(K:η)(mg:ι->Option ε)(t:Ed):Prop where
 AF:fy K "whole_good" "whole_good" BD t.Ag t.Aw
 DS:mg "whole_good" = some (.ref t.Ag)
 DZ:Binds K t.Aw ["thing"] []
 Eb:fy K "clock_good" "clock_good" BC t.Ae t.Au
 KL:mg "clock_good" = some (.ref t.Ae)
 K8:Binds K t.Au ["thing"] []
 Kd:fy K "clocks_good" "clocks_good" wZ t.C8 t.Dp
 WK:mg "clocks_good" = some (.ref t.C8)
 Xc:Binds K t.Dp ["thing"] []
 Ke:fy K "clocks_read" "clocks_read" BA t.C9 t.Dq
 WL:mg "clocks_read" = some (.ref t.C9)
 Xd:Binds K t.Dq ["text"] []
 D8:fy K "many_read" "many_read" Bz t.Aa t.Ap
 KH:mg "many_read" = some (.ref t.Aa)
 K5:Binds K t.Ap ["row"] []
 Dy:fy K "numbers_behind" "numbers_behind" wY t.Dg t.Dv
 JF:mg "numbers_behind" = some (.ref t.Dg)
 JW:Binds K t.Dv ["name","many","row"] []
 Kg:fy K "figures_good" "figures_good" yP t.Dd t.Ds
 WN:mg "figures_good" = some (.ref t.Dd)
 Xf:Binds K t.Ds ["word"] []
 Kf:fy K "_law_cell_at" "_law_cell_at" Bx t.Dc t.Dr
 WM:mg "_law_cell_at" = some (.ref t.Dc)
 Xe:Binds K t.Dr ["script","k"] []
 AE:fy K "_law_next" "_law_next" Bw t.zX t.Am
 DR:mg "_law_next" = some (.ref t.zX)
 DY:Binds K t.Am ["seed"] []
 Ec:fy K "_law_pen_of" "_law_pen_of" Bv t.Af t.Av
 KN:mg "_law_pen_of" = some (.ref t.Af)
 K9:Binds K t.Av ["cell"] []
 iY:fy K "_law_draw" "_law_draw" B5 t.zY t.An
 ju:mg "_law_draw" = some (.ref t.zY)
 jy:Binds K t.An ["pen","many"] []
 D9:fy K "_law_whole" "_law_whole" B4 t.Ac t.Ar
 KI:mg "_law_whole" = some (.ref t.Ac)
 K6:Binds K t.Ar ["found"] []
 Kb:fy K "_law_kind_of" "_law_kind_of" B3 t.C6 t.Dm
 WI:mg "_law_kind_of" = some (.ref t.C6)
 Xa:Binds K t.Dm ["e"] []
 Ea:fy K "_law_split" "_law_split" yO t.Ad t.As
 KJ:mg "_law_split" = some (.ref t.Ad)
 K7:Binds K t.As ["pen","times"] []
 Ki:fy K "_law_clocks_of" "_law_clocks_of" B2 t.Df t.Du
 WQ:mg "_law_clocks_of" = some (.ref t.Df)
 Xh:Binds K t.Du ["pen"] []
 Kc:fy K "_law_text_of" "_law_text_of" B1 t.C7 t.Dn
 WJ:mg "_law_text_of" = some (.ref t.C7)
 Xb:Binds K t.Dn ["clocks"] []
 tQ:fy K "_law_value" "_law_value" yN t.Ab t.Aq
 uN:mg "_law_value" = some (.ref t.Ab)
 uX:Binds K t.Aq ["word"] []
 tP:fy K "_law_told" "_law_told" B0 t.zZ t.Ao
 uM:mg "_law_told" = some (.ref t.zZ)
 uW:Binds K t.Ao ["thing"] []
 wH:fy K "_law_due" "_law_due" BZ t.zW t.Al
 zK:mg "_law_due" = some (.ref t.zW)
 Az:Binds K t.Al ["text"] []
 Ka:fy K "_law_odd_row" "_law_odd_row" BY t.C5 t.Dl
 WH:mg "_law_odd_row" = some (.ref t.C5)
 W9:Binds K t.Dl ["pen","row"] []
 Kh:fy K "_law_spoilt_of" "_law_spoilt_of" BX t.De t.Dt
 WO:mg "_law_spoilt_of" = some (.ref t.De)
 Xg:Binds K t.Dt ["pen","rows"] []
 Lb:fy K "law" "law" yM t.Ah t.uU
 KQ:mg "law" = some (.ref t.Ah)
 XI:Binds K t.uU ["script"] []
 xM:mg "ClockError" = some (.ref t.kS)
 Er:dG K "ClockError" t.kS
 A9:mg "NoClock" = some (.ref t.pd)
 K0:dG K "NoClock" t.pd
 zM:mg "NoNumber" = some (.ref t.ny)
 Kk:dG K "NoNumber" t.ny
 A8:mg "NoPlace" = some (.ref t.pb)
 KZ:dG K "NoPlace" t.pb
 El:mg "NoRow" = some (.ref t.tK)
 W6:dG K "NoRow" t.tK
 zN:mg "NoClocks" = some (.ref t.nz)
 Kl:dG K "NoClocks" t.nz
 nY:mg "NoText" = some (.ref t.eI)
 dZ:dG K "NoText" t.eI
 zL:mg "TooGreat" = some (.ref t.nv)
 Kj:dG K "TooGreat" t.nv
 nX:tN K t.eI t.kS t.iw t.Bg "NoText.__init__" vt ["row"]
 gM:fV K t.eI
 tS:aq K (.ref t.eI) (.ref t.pd)=some false
 sC:aq K (.ref t.eI) (.ref t.nz)=some false
 sA:aq K (.ref t.eI) (.ref t.ny)=some false
 tR:aq K (.ref t.eI) (.ref t.pb)=some false
 uR:aq K (.ref t.eI) (.ref t.tK)=some false
 uB:aq K (.ref t.eI) (.ref t.eI)=some true
 sy:aq K (.ref t.eI) (.ref t.nv)=some false
 Bb:aq K (.ref t.eI) (.type "ValueError")=some true
 wo:sO K t.eI "row"
 Ba:mg "FIGURES" = some (.str "0123456789" t.AM)
 rl:mg "MOST_CLOCKS" = some (.int 12 t.wm)
 vV:mg "MOST_FIGURES" = some (.int 60 t.vq)
 yc:mg "MOST_STEP" = some (.int 1000 t.ya)
 xK:mg "ValueError" = none
 wz:mg "all" = none
 A7:mg "bool" = none
 yb:mg "enumerate" = none
 uP:mg "int" = none
 cG:mg "isinstance" = none
 fN:mg "len" = none
 JG:mg "list" = none
 KP:mg "max" = none
 iS:mg "range" = none
 KO:mg "set" = none
 CW:mg "sorted" = none
 uO:mg "str" = none
 tF:mg "tuple" = none
 KG:mg "zip" = none
abbrev rs:List ι:=["NoText"]
section
variable {P:Ω} {w:aj} {K:η} {mg:ι->Option ε} {base:af} {t:Ed}
theorem pC{x:ι}{C D:ζ}(h:dG K x C)(h2:dG K x D):C=D:=by
 unfold dG at h h2;rw[h] at h2;cases h2;rfl
theorem Txt.ye(T:Txt K mg t):∀z∈rs,∀D,dG K z D->fV K D/\aq K (.ref D) (.ref t.pd)=some (z=="NoClock"):=by
 intro z hz D cn;simp only[aa,aF,or_false] at hz;subst hz;cases pC cn T.dZ;exact⟨T.gM,T.tS⟩
theorem Txt.xS(T:Txt K mg t):∀z∈rs,∀D,dG K z D->fV K D/\aq K (.ref D) (.ref t.nz)=some (z=="NoClocks"):=by
 intro z hz D cn;simp only[aa,aF,or_false] at hz;subst hz;cases pC cn T.dZ;exact⟨T.gM,T.sC⟩
theorem Txt.xR(T:Txt K mg t):∀z∈rs,∀D,dG K z D->fV K D/\aq K (.ref D) (.ref t.ny)=some (z=="NoNumber"):=by
 intro z hz D cn;simp only[aa,aF,or_false] at hz;subst hz;cases pC cn T.dZ;exact⟨T.gM,T.sA⟩
theorem Txt.yd(T:Txt K mg t):∀z∈rs,∀D,dG K z D->fV K D/\aq K (.ref D) (.ref t.pb)=some (z=="NoPlace"):=by
 intro z hz D cn;simp only[aa,aF,or_false] at hz;subst hz;cases pC cn T.dZ;exact⟨T.gM,T.tR⟩
theorem Txt.Bd(T:Txt K mg t):∀z∈rs,∀D,dG K z D->fV K D/\aq K (.ref D) (.ref t.tK)=some (z=="NoRow"):=by
 intro z hz D cn;simp only[aa,aF,or_false] at hz;subst hz;cases pC cn T.dZ;exact⟨T.gM,T.uR⟩
theorem Txt.zR(T:Txt K mg t):∀z∈rs,∀D,dG K z D->fV K D/\aq K (.ref D) (.ref t.eI)=some (z=="NoText"):=by
 intro z hz D cn;simp only[aa,aF,or_false] at hz;subst hz;cases pC cn T.dZ;exact⟨T.gM,T.uB⟩
theorem Txt.xQ(T:Txt K mg t):∀z∈rs,∀D,dG K z D->fV K D/\aq K (.ref D) (.ref t.nv)=some (z=="TooGreat"):=by
 intro z hz D cn;simp only[aa,aF,or_false] at hz;subst hz;cases pC cn T.dZ;exact⟨T.gM,T.sy⟩
theorem Txt.Xq(T:Txt K mg t):∀z∈rs,∀D,dG K z D->fV K D/\aq K (.ref D) (.type "ValueError")=some true:=by
 intro z hz D cn;simp only[aa,aF,or_false] at hz;subst hz;cases pC cn T.dZ;exact⟨T.gM,T.Bb⟩
theorem Txt.yw(T:Txt K mg t):∀z∈rs,∀D,dG K z D->sO K D "row":=by
 intro z hz D cn;simp only[aa,aF,or_false] at hz;subst hz;cases pC cn T.dZ;exact T.wo
theorem Txt.takes(T:Txt K mg t):wG K rs t.kS:=by
 intro z hz D cn;simp only[aa,aF,or_false] at hz;subst hz;cases pC cn T.dZ;exact⟨_,T.nX.ex⟩
theorem Vq:∀ds G Q,uv ds G Q->ds.length=1:=by
 intro ds G Q h
 first
  | (rcases ds with _|⟨_,_|⟨_,_|⟨_,_|⟨_,_⟩⟩⟩⟩<;>first|rfl|exact h.elim)
  | (obtain⟨rfl,_⟩:=h;rfl)
  | (obtain⟨_,rfl,_⟩:=h;rfl)
  | (obtain⟨_,_,rfl,_⟩:=h;rfl)
  | (obtain⟨_,_,_,rfl,_⟩:=h;rfl)
  | (obtain⟨_,_,_,_,rfl,_⟩:=h;rfl)
  | (obtain⟨_,_,_,_,_,rfl,_⟩:=h;rfl)
  | (obtain⟨_,_,_,_,_,_,rfl,_⟩:=h;rfl)
  | (obtain⟨_,_,_,_,_,_,_,rfl,_⟩:=h;rfl)
  | (obtain⟨_,_,_,_,_,_,_,_,rfl,_⟩:=h;rfl)
theorem ES(T:Txt K mg t):fi P w K mg base 1 t.Ag t.Aw ["thing"] uv:=by
 refine iT (k:=0) (sp:=uv) T.AF VO (by decide) Vq (CH) (fun cdv A outer s H E hr=>?_) O7;refine cb (dB ?_);refine Cc (uw Hs rfl (Θ (pv 0)) T.cG T.uP rfl (by decide) (by decide)) ?_;refine zg (Cb (uw Hr rfl (Θ (pv 0)) T.cG T.A7 rfl (by decide) (by decide)))
theorem Vp:∀ds G Q,xl ds G Q->ds.length=1:=by
 intro ds G Q h;obtain⟨_,rfl,_⟩:=h;rfl
theorem VZ(T:Txt K mg t):fi P w K mg base 2 t.Ae t.Au ["thing"] xl:=by
 refine iT (k:=1) (sp:=xl) T.Eb VM (by decide) Vp (CA) (fun cdv A outer s H E hr=>?_) Ox;refine bP (fL (jP ?_) (cb (dB kK)) gd) ?_;refine mj (mK (nU (uw kit_tuple rfl (Θ (pv 0)) T.cG T.tF rfl (by decide) (by decide)))) ?_;refine lO (eU jS (jQ hr.units) (lC hr.units T.fN (Ξ (Θ (pv 0)) az)) aP (bJ _));refine bP (fL (jP ?_) (cb (dB kK)) gd) (cb (dB ?_));refine mj (mK ?_) (lO (mK ?_));refine nU (eG ((ES T).mono (by decide)) hr T.DS T.AF.kp T.DZ (Ξ (fA (Θ (pv 0)) aP) az));refine nU (eG ((ES T).mono (by decide)) hr T.DS T.AF.kp T.DZ (Ξ (fA (Θ (pv 0)) aP) az));refine Cc (He vW vW vS vS aP (fA (Θ (pv 0)) aP) (zi T.yc)) ?_;refine zg (He vW sh vS (si hr.kI) aP (fA (Θ (pv 0)) aP) (fA (Θ (pv 0)) aP))
theorem VY:∀ds G Q,xk ds G Q->ds.length=1:=by
 intro ds G Q h;obtain⟨_,rfl,_⟩:=h;rfl
theorem VX(T:Txt K mg t):fi P w K mg base 3 t.C8 t.Dp ["thing"] xk:=by
 refine iT (k:=2) (sp:=xk) T.Kd VL (by decide) VY (Cz) (fun cdv A outer s H E hr=>?_) Oo;refine bP (fL (jP ?_) (cb (dB kK)) gd) ?_;refine mj (mK (nU (uw kit_tuple rfl (Θ (pv 0)) T.cG T.tF rfl (by decide) (by decide)))) ?_;refine lO (eU C1 CV (lC hr.units T.fN (Ξ (Θ (pv 0)) az)) (zi T.rl) (bJ _));refine bP ?_ (cb (dB (zc hr.units T.wz (Ξ ?_ az))));refine fL (mK (nU (zc hr.units T.wz (Ξ ?_ az)))) (cb (dB kK)) gd;refine r9 rfl (show fQ BB (ai wZ) _ ["clock"] [] from⟨rfl,by decide +kernel,by decide +kernel,by decide +kernel,by decide +kernel,by decide +kernel⟩) ?_ ?_;refine sd (Θ (pv 0));intro s0 H0 fp0;refine⟨(i9 (i:=0) (show (["clock"]:List ι).Nodup by decide +kernel)),ux,?_⟩;refine eG ((VZ T).mono (by decide)) hr T.KL T.Eb.kp T.K8 (Ξ (Θ (pv 0)) az);refine r9 rfl (show fQ BB (ai wZ) _ ["ahead","clock"] [] from⟨rfl,by decide +kernel,by decide +kernel,by decide +kernel,by decide +kernel,by decide +kernel⟩) ?_ ?_;refine Qh T.KG (Ξ (Θ (pv 0)) (Ξ (i8 (Θ (pv 0)) (lD aP) jO) az));intro s0 H0 fp0;refine⟨(ze rfl ?_),ux,(zh sh (si hr.kI) (Θ (pv 0)) (Θ (pv 1)) (bJ _))⟩;refine se (i9 (i:=0) (show (["ahead","clock"]:List ι).Nodup by decide +kernel)) ?_;refine se (i9 (i:=1) (show (["ahead","clock"]:List ι).Nodup by decide +kernel)) zf
theorem VW:∀ds G Q,vC ds G Q->ds.length=1:=by
 intro ds G Q h;obtain⟨_,rfl,_⟩:=h;rfl
theorem VV(T:Txt K mg t):fi P w K mg base 1 t.Dd t.Ds ["word"] vC:=by
 refine iT (k:=0) (sp:=vC) T.Kg VH (by decide) VW (Gk) (fun cdv A outer s H E hr=>?_) Ol;refine bP (fL (jP ?_) (cb (dB kK)) gd) (cb ?_);refine mj (mK (Qf vW vW vS vS aP (GY hr.units T.fN (Ξ (Θ (pv 0)) az)) (zi T.vV))) ?_;refine lO (mK (nU (zc hr.units T.wz (Ξ ?_ az))));refine r9 rfl (show fQ EW (ai yP) _ ["sign"] [] from⟨rfl,by decide +kernel,by decide +kernel,by decide +kernel,by decide +kernel,by decide +kernel⟩) ?_ ?_;refine HK (Θ (pv 0));intro s0 H0 fp0;refine⟨(i9 (i:=0) (show (["sign"]:List ι).Nodup by decide +kernel)),ux,?_⟩;refine zh Qe UJ (Θ (pv 0)) (Pc T.Ba) (by with_unfolding_all rfl);refine dB (PJ (zh og (nV hr.units) (Θ (pv 0)) cf (bJ _)) ?_);refine zg (Cb (jN Pg PySem.F.slot_str_startswith PySem.F.type_str_startswith Ph (Θ (pv 0)) (Ξ cf az)))
theorem VU:∀ds G Q,vB ds G Q->ds.length=3:=by
 intro ds G Q h;obtain⟨_,_,_,rfl,_⟩:=h;rfl
theorem ER(T:Txt K mg t):fi P w K mg base 2 t.Dg t.Dv ["name","many","row"] vB:=by
 refine iT (k:=1) (sp:=vB) T.Dy DG (by decide) VU (Gi) (fun cdv A outer s H E hr=>?_) Oh;refine bP (eK (i:=3) DG.nd (jN qz cF cE qA (Θ (pv 2)) (Ξ cf az))) ?_;refine bP (fL (jP ?_) (cb (dB (i6 az))) gd) (cb (dB ?_));refine mj (eU jS (jQ hr.units) (fA (Θ (pv 3)) aP) (Θ (pv 0)) (bJ _)) ?_;refine mj (eU jS (jQ hr.units) (lC hr.units T.fN (Ξ (Θ (pv 3)) az)) (dj gE gF (Θ (pv 1)) aP) (bJ _)) ?_;refine lO (mK (nU (zc hr.units T.wz (Ξ ?_ az))));refine r9 rfl (show fQ By (ai wY) _ ["word"] [] from⟨rfl,by decide +kernel,by decide +kernel,by decide +kernel,by decide +kernel,by decide +kernel⟩) ?_ ?_;refine sd (i8 (Θ (pv 3)) (lD aP) jO);intro s0 H0 fp0;refine⟨(i9 (i:=0) (show (["word"]:List ι).Nodup by decide +kernel)),ux,?_⟩;refine eG ((VV T).mono (by decide)) hr T.WN T.Kg.kp T.Xf (Ξ (Θ (pv 0)) az);refine r9 rfl (show fQ By (ai wY) _ ["word"] [] from⟨rfl,by decide +kernel,by decide +kernel,by decide +kernel,by decide +kernel,by decide +kernel⟩) ?_ ?_;refine sd (i8 (Θ (pv 3)) (lD aP) jO);intro s0 H0 fp0;refine⟨(i9 (i:=0) (show (["word"]:List ι).Nodup by decide +kernel)),ux,(GX hr.units T.uP (Ξ (Θ (pv 0)) az))⟩
theorem VT:∀ds Q E,xf ds Q E->ds.length=1:=by
 intro ds Q E h
 first
  | (rcases ds with _|⟨_,_|⟨_,_|⟨_,_|⟨_,_⟩⟩⟩⟩<;>first|rfl|exact h.elim)
  | (obtain⟨rfl,_⟩:=h;rfl)
  | (obtain⟨_,rfl,_⟩:=h;rfl)
  | (obtain⟨_,_,rfl,_⟩:=h;rfl)
  | (obtain⟨_,_,_,rfl,_⟩:=h;rfl)
  | (obtain⟨_,_,_,_,rfl,_⟩:=h;rfl)
  | (obtain⟨_,_,_,_,_,rfl,_⟩:=h;rfl)
  | (obtain⟨_,_,_,_,_,_,rfl,_⟩:=h;rfl)
  | (obtain⟨_,_,_,_,_,_,_,rfl,_⟩:=h;rfl)
  | (obtain⟨_,_,_,_,_,_,_,_,rfl,_⟩:=h;rfl)
theorem VS(T:Txt K mg t):t7 P w K mg base 3 t.Aa t.Ap ["row"] xf:=by
 refine Jt (k:=2) (sp:=xf) T.D8 AW (by decide) VT Fv (fun cdv A outer s H E0 E hr hE=>?_) MY;refine bP (eK (i:=1) AW.nd ?_) (bP ?_ (cb (dB (fA (Θ (pv 1)) aP))));refine eG ((ER T).mono (by decide)) hr T.JF T.Dy.kp T.JW ?_;refine Ξ cf (Ξ aP (Ξ (Θ (pv 0)) az));refine fL (jP ?_) (cb (yS yU hE T.nX T.dZ T.nY hr rfl (Ξ aP az))) gd;refine mj (eU og (nV hr.units) (Θ (pv 1)) (i6 az) (bJ _)) ?_;refine lO (eU C1 CV (fA (Θ (pv 1)) aP) (zi T.rl) (bJ _))
theorem VR:∀ds Q E,xc ds Q E->ds.length=1:=by
 intro ds Q E h
 first
  | (rcases ds with _|⟨_,_|⟨_,_|⟨_,_|⟨_,_⟩⟩⟩⟩<;>first|rfl|exact h.elim)
  | (obtain⟨rfl,_⟩:=h;rfl)
  | (obtain⟨_,rfl,_⟩:=h;rfl)
  | (obtain⟨_,_,rfl,_⟩:=h;rfl)
  | (obtain⟨_,_,_,rfl,_⟩:=h;rfl)
  | (obtain⟨_,_,_,_,rfl,_⟩:=h;rfl)
  | (obtain⟨_,_,_,_,_,rfl,_⟩:=h;rfl)
  | (obtain⟨_,_,_,_,_,_,rfl,_⟩:=h;rfl)
  | (obtain⟨_,_,_,_,_,_,_,rfl,_⟩:=h;rfl)
  | (obtain⟨_,_,_,_,_,_,_,_,rfl,_⟩:=h;rfl)
theorem VQ(T:Txt K mg t):t7 P w K mg base 4 t.C9 t.Dq ["text"] xc:=by
 refine Jt (k:=3) (sp:=xc) T.Ke qt (by decide) VR Fq (fun cdv A outer s H E0 E hr hE=>?_) Me;refine bP ?_ ?_;refine fL (mK (nU (uw Qk rfl (Θ (pv 0)) T.cG T.uO rfl (by decide) (by decide)))) ?_ gd;refine cb (yS yU hE T.nX T.dZ T.nY hr rfl (Ξ aP az));refine bP (eK (i:=1) qt.nd (jN qz cF cE qA (Θ (pv 0)) (Ξ cf az))) ?_;refine bP (eK (i:=2) qt.nd ?_) (bP (eK (i:=3) qt.nd (sf az)) ?_);refine ML ((VS T).mono (by decide)) hr (KA hE) T.KH T.D8.kp T.K5 (Ξ (fA (Θ (pv 1)) aP) az);refine bP ?_ (bP ?_ (cb (dB (Θ (pv 3)))));refine pB Nq rfl (Qg T.yb (Ξ (i8 (Θ (pv 1)) (lD aP) jO) az)) ?_ ?_;refine ze rfl (se (i9 (i:=4) qt.nd) (se (i9 (i:=5) qt.nd) zf));refine bP (eK (i:=3) qt.nd ?_) (cb ?_);refine dj gE gF (Θ (pv 3)) (sf (Ξ (Hf hr.units T.tF (Ξ ?_ az)) az));refine eG ((ER T).mono (by decide)) hr T.JF T.Dy.kp T.JW ?_;refine Ξ cf (Ξ aP (Ξ (Θ (pv 5)) az));refine fL (jP ?_) (cb (yS yU hE T.nX T.dZ T.nY hr rfl (Ξ (dj gE gF (Θ (pv 4)) aP) az))) gd;refine mj (eU og (nV hr.units) (Θ (pv 4)) (Θ (pv 2)) (bJ _)) ?_;refine lO (mK (nU (eG ((VX T).mono (by decide)) hr T.WK T.Kd.kp T.Xc (Ξ (Θ (pv 3)) az))));refine fL (eU sh (si hr.kI) (lC hr.units T.fN (Ξ (Θ (pv 3)) az)) (Θ (pv 2)) (bJ _)) ?_ gd;refine cb (yS yU hE T.nX T.dZ T.nY hr rfl ?_);refine Ξ (dj gE gF (lC hr.units T.fN (Ξ (Θ (pv 1)) az)) aP) az
theorem Vo:∀ds G Q,xC ds G Q->ds.length=2:=by
 intro ds G Q h;obtain⟨_,_,rfl,_⟩:=h;rfl
theorem Vn(T:Txt K mg t):fi P w K mg base 1 t.Dc t.Dr ["script","k"] xC:=by
 refine iT (k:=0) (sp:=xC) T.Kf VF (by decide) Vo (GJ) (fun cdv A outer s H E hr=>?_) O4;refine bP ?_ (cb (dB aP));refine fL (eU sh (si hr.kI) (Θ (pv 1)) (lC hr.units T.fN (Ξ (Θ (pv 0)) az)) (bJ _)) ?_ gd;refine cb (dB (fA (Θ (pv 0)) (Θ (pv 1))))
theorem Vm:∀ds G Q,vF ds G Q->ds.length=1:=by
 intro ds G Q h;obtain⟨_,rfl,_⟩:=h;rfl
theorem Fo(T:Txt K mg t):fi P w K mg base 1 t.zX t.Am ["seed"] vF:=by
 refine iT (k:=0) (sp:=vF) T.AE AS (by decide) Vm (GI) (fun cdv A outer s H E hr=>?_) O3;refine bP (eK (i:=0) AS.nd (dj xp xu (dj gE gF (Θ (pv 0)) aP) aP)) ?_;refine cb (dB (dj xp xu ?_ aP));refine dj gE gF (dj gE gF (dj xn xo (Θ (pv 0)) (Θ (pv 0))) (dj xn xo aP (Θ (pv 0)))) aP
theorem Vl:∀ds G Q,yY ds G Q->ds.length=1:=by
 intro ds G Q h;obtain⟨_,rfl,_⟩:=h;rfl
theorem Vk(T:Txt K mg t):fi P w K mg base 1 t.Af t.Av ["cell"] CG:=by
 refine jg.imp ?_ OY;refine iT (k:=0) (sp:=yY) T.Ec AX (by decide) Vl (GG) (fun cdv A outer s H E hr=>?_) OZ;refine bP (eK (i:=1) AX.nd (PB hr.units T.KP (Ξ (Θ (pv 0)) (Ξ (dj Sn UM aP (Θ (pv 0))) az)))) ?_;refine cb (dB (i6 (Ξ (Θ (pv 1)) ?_)));refine Ξ (PD hr.units T.uP (Ξ (zh WU UK (Θ (pv 1)) (dj Sl UL aP aP) (bJ _)) az)) ?_;refine Ξ (dj xp xu (Θ (pv 1)) aP) az
theorem Vj:∀ds G Q,yZ ds G Q->ds.length=2:=by
 intro ds G Q h;obtain⟨_,_,_,_,_,rfl,_⟩:=h;rfl
theorem lN(T:Txt K mg t):fi P w K mg base 2 t.zY t.An ["pen","many"] ko:=by
 refine jg.imp ?_ O0;refine iT (k:=1) (sp:=yZ) T.iY AU (by decide) Vj (GH) (fun cdv A outer s H E hr=>?_) O1;refine bP ?_ ?_;refine fL (eU og (nV hr.units) (fA (Θ (pv 0)) aP) aP (bJ _)) ?_ gd;refine bP (eK (i:=2) AU.nd (dj xp xu (fA (Θ (pv 0)) aP) (Θ (pv 1)))) ?_;refine bP (xF (dj Ia Ib (fA (Θ (pv 0)) aP) (Θ (pv 1))) (zd (Θ (pv 0)) aP)) (cb (dB (Θ (pv 2))));refine bP (xF ?_ (zd (Θ (pv 0)) aP)) ?_;refine eG ((Fo T).mono (by decide)) hr T.DR T.AE.kp T.DY (Ξ ?_ az);refine dj gE gF (eG ((Fo T).mono (by decide)) hr T.DR T.AE.kp T.DY (Ξ (fA (Θ (pv 0)) aP) az)) (aP);refine cb (dB (dj xp xu (dj Ia Ib (fA (Θ (pv 0)) aP) aP) (Θ (pv 1))))
theorem Vi:∀ds G Q,y9 ds G Q->ds.length=1:=by
 intro ds G Q h
 first
  | (rcases ds with _|⟨_,_|⟨_,_|⟨_,_|⟨_,_⟩⟩⟩⟩<;>first|rfl|exact h.elim)
  | (obtain⟨rfl,_⟩:=h;rfl)
  | (obtain⟨_,rfl,_⟩:=h;rfl)
  | (obtain⟨_,_,rfl,_⟩:=h;rfl)
  | (obtain⟨_,_,_,rfl,_⟩:=h;rfl)
  | (obtain⟨_,_,_,_,rfl,_⟩:=h;rfl)
  | (obtain⟨_,_,_,_,_,rfl,_⟩:=h;rfl)
  | (obtain⟨_,_,_,_,_,_,rfl,_⟩:=h;rfl)
  | (obtain⟨_,_,_,_,_,_,_,rfl,_⟩:=h;rfl)
  | (obtain⟨_,_,_,_,_,_,_,_,rfl,_⟩:=h;rfl)
theorem Vh(T:Txt K mg t):v8 P w K mg base 1 t.Ac t.Ar ["found"] y9:=by
 refine Ju (k:=0) (sp:=y9) T.D9 VA (by decide) Vi (O6) (fun cdv A outer s H E hr=>?_) O5;refine cb (dB ?_);refine Cc (uw Hs rfl (Θ (pv 0)) T.cG T.uP rfl (by decide) (by decide)) ?_;refine zg (Cb (uw Hr rfl (Θ (pv 0)) T.cG T.A7 rfl (by decide) (by decide)))
theorem Vg:∀ds G Q,(xb rs) ds G Q->ds.length=1:=by
 intro ds G Q h
 first
  | (rcases ds with _|⟨_,_|⟨_,_|⟨_,_|⟨_,_⟩⟩⟩⟩<;>first|rfl|exact h.elim)
  | (obtain⟨rfl,_⟩:=h;rfl)
  | (obtain⟨_,rfl,_⟩:=h;rfl)
  | (obtain⟨_,_,rfl,_⟩:=h;rfl)
  | (obtain⟨_,_,_,rfl,_⟩:=h;rfl)
  | (obtain⟨_,_,_,_,rfl,_⟩:=h;rfl)
  | (obtain⟨_,_,_,_,_,rfl,_⟩:=h;rfl)
  | (obtain⟨_,_,_,_,_,_,rfl,_⟩:=h;rfl)
  | (obtain⟨_,_,_,_,_,_,_,rfl,_⟩:=h;rfl)
  | (obtain⟨_,_,_,_,_,_,_,_,rfl,_⟩:=h;rfl)
theorem Vf(T:Txt K mg t):v8 P w K mg base 1 t.C6 t.Dm ["e"] (xb rs):=by
 refine Ju (k:=0) (sp:=(xb rs)) T.Kb yG (by decide) Vg (Fn rs) (fun cdv A outer s H E hr=>?_) (Mo rs);refine bP (eK (i:=1) yG.nd ?_) ?_;refine i6 (Ξ (uq (T.ye) (Θ (pv 0)) T.cG T.A9) ?_);refine Ξ (uq (T.xR) (Θ (pv 0)) T.cG T.zM) ?_;refine Ξ (uq (T.yd) (Θ (pv 0)) T.cG T.A8) (Ξ (uq (T.Bd) (Θ (pv 0)) T.cG T.El) az);refine bP ?_ ?_;refine eK (i:=1) yG.nd (dj gE gF (Θ (pv 1)) (i6 ?_));refine Ξ (uq (T.xS) (Θ (pv 0)) T.cG T.zN) ?_;refine Ξ (uq (T.zR) (Θ (pv 0)) T.cG T.nY) (Ξ (uq (T.xQ) (Θ (pv 0)) T.cG T.zL) az);refine bP (fL (jP ?_) (cb (dB cf)) gd) (cb (dB ?_));refine mj (mK (nU (MH (T.Xq) (Θ (pv 0)) T.cG T.xK))) (lO ?_);refine eU jS (jQ hr.units) (xD MP PySem.F.slot_list_count PySem.F.type_list_count Nv (Θ (pv 1)) (Ξ kK az)) aP (bJ _);refine B9 (Ξ cf (Ξ cf (Ξ cf (Ξ cf (Ξ cf (Ξ cf (Ξ cf az))))))) ?_;refine xD MO PySem.F.slot_list_index PySem.F.type_list_index MQ (Θ (pv 1)) (Ξ kK az)
theorem Ve:∀ds G Q,xA ds G Q->ds.length=2:=by
 intro ds G Q h;obtain⟨_,_,rfl,_⟩:=h;rfl
theorem Vd(T:Txt K mg t):fi P w K mg base 3 t.Ad t.As ["pen","times"] xA:=by
 refine iT (k:=2) (sp:=xA) T.Ea mi (by decide) Ve (GA) (fun cdv A outer s H E hr=>?_) Pr;refine bP (eK (i:=2) mi.nd (i6 (Ξ (sf (Ξ aP (Ξ aP az))) az))) ?_;refine bP ?_ (cb (dB (Θ (pv 2))));refine pB ee rfl (xE T.iS (Ξ (Θ (pv 1)) az)) (i9 (i:=3) mi.nd) ?_;refine bP (eK (i:=4) mi.nd ?_) ?_;refine eG ((lN T).mono (by decide)) hr T.ju T.iY.kp T.jy ?_;refine Ξ (Θ (pv 0)) (Ξ (lC hr.units T.fN (Ξ (Θ (pv 2)) az)) az);refine bP ?_ ?_;refine eK (i:=5) mi.nd (B9 (Ξ aP (Ξ aP (Ξ aP az))) ?_);refine eG ((lN T).mono (by decide)) hr T.ju T.iY.kp T.jy (Ξ (Θ (pv 0)) (Ξ aP az));refine bP ?_ (cb ?_);refine xF (fA (Θ (pv 2)) (Θ (pv 4))) (ze rfl (se (i9 (i:=6) mi.nd) (se (i9 (i:=7) mi.nd) zf)));refine fL (jP ?_) (cb (eK (i:=2) mi.nd ?_)) gd;refine Cd (eU sh (si hr.kI) (dj gE gF (lC hr.units T.fN (Ξ (Θ (pv 2)) az)) (Θ (pv 5))) aP (bJ _)) ?_;refine Ce (eU sh (si hr.kI) (dj xn xo (Θ (pv 6)) (Θ (pv 5))) aP (bJ _));refine dj gE gF ?_ (i8 (Θ (pv 2)) (lD (dj gE gF (Θ (pv 4)) aP)) jO);refine dj gE gF (i8 (Θ (pv 2)) jO (lD (Θ (pv 4)))) ?_;refine r9 rfl (show fQ EV (ai yO) _ ["part"] [6,5,7] from⟨rfl,by decide +kernel,by decide +kernel,by decide +kernel,by decide +kernel,by decide +kernel⟩) ?_ ?_;refine xE T.iS (Ξ (Θ (pv 5)) az);intro s0 H0 fp0;refine⟨(i9 (i:=0) (show (["part","step","k","rest"]:List ι).Nodup by decide +kernel)),ux,?_⟩;refine sf (Ξ (dj xn xo (Θ (pv 1)) (Θ (pv 2))) ?_);refine Ξ (dj gE gF (Θ (pv 3)) (dj xn xo (Θ (pv 1)) (Θ (pv 0)))) az
theorem Vc:∀ds G Q,xy ds G Q->ds.length=1:=by
 intro ds G Q h;obtain⟨_,rfl,_⟩:=h;rfl
theorem Vb(T:Txt K mg t):fi P w K mg base 4 t.Df t.Du ["pen"] xy:=by
 refine iT (k:=3) (sp:=xy) T.Ki qu (by decide) Vc (Gv) (fun cdv A outer s H E hr=>?_) OA;refine bP (eK (i:=1) qu.nd ?_) (bP (eK (i:=2) qu.nd (i6 az)) ?_);refine eG ((lN T).mono (by decide)) hr T.ju T.iY.kp T.jy (Ξ (Θ (pv 0)) (Ξ aP az));refine bP ?_ ?_;refine fL (eU sh (si hr.kI) (Θ (pv 1)) aP (bJ _)) ?_ gd;refine bP (eK (i:=2) qu.nd ?_) (cb ?_);refine eG ((Vd T).mono (by decide)) hr T.KJ T.Ea.kp T.K7 (Ξ (Θ (pv 0)) ?_);refine Ξ (eG ((lN T).mono (by decide)) hr T.ju T.iY.kp T.jy (Ξ (Θ (pv 0)) (Ξ aP az))) az;refine fL (jP ?_) (cb (Ca ?_)) gd;refine Cd (eU og (nV hr.units) (Θ (pv 1)) aP (bJ _)) (Ce (eU jS (jQ hr.units) (Θ (pv 2)) (i6 az) (bJ _)));refine xD Rf PySem.F.slot_list_pop PySem.F.type_list_pop SY (Θ (pv 2)) (Ξ ?_ az);refine eG ((lN T).mono (by decide)) hr T.ju T.iY.kp T.jy ?_;refine Ξ (Θ (pv 0)) (Ξ (lC hr.units T.fN (Ξ (Θ (pv 2)) az)) az);refine bP (eK (i:=3) qu.nd (i6 (Ξ aP ?_))) ?_;refine Ξ aP (Ξ aP (Ξ aP (Ξ aP (Ξ aP (Ξ aP (Ξ aP (Ξ aP (Ξ aP az))))))));refine bP ?_ ?_;refine pB ee rfl (xE T.iS ?_) (i9 (i:=4) qu.nd) ?_;refine Ξ (B9 (Ξ aP (Ξ aP (Ξ aP (Ξ aP (Ξ aP (Ξ aP az)))))) (Θ (pv 1))) az;refine bP (eK (i:=5) qu.nd ?_) (cb (Ca ?_));refine fA (Θ (pv 3)) (eG ((lN T).mono (by decide)) hr T.ju T.iY.kp T.jy (Ξ (Θ (pv 0)) (Ξ aP az)));refine xD HX oE oC CQ (Θ (pv 2)) (Ξ (sf (Ξ (Θ (pv 5)) ?_)) az);refine Ξ (eG ((lN T).mono (by decide)) hr T.ju T.iY.kp T.jy (Ξ (Θ (pv 0)) (Ξ (Θ (pv 5)) az))) (az);refine cb (dB (Hf hr.units T.tF (Ξ (i8 (Qi hr.units (Θ (pv 2)) T.CW T.KO) jO (lD aP)) az)))
theorem U9:∀ds G Q,xa ds G Q->ds.length=1:=by
 intro ds G Q h
 first
  | (rcases ds with _|⟨_,_|⟨_,_|⟨_,_|⟨_,_⟩⟩⟩⟩<;>first|rfl|exact h.elim)
  | (obtain⟨rfl,_⟩:=h;rfl)
  | (obtain⟨_,rfl,_⟩:=h;rfl)
  | (obtain⟨_,_,rfl,_⟩:=h;rfl)
  | (obtain⟨_,_,_,rfl,_⟩:=h;rfl)
  | (obtain⟨_,_,_,_,rfl,_⟩:=h;rfl)
  | (obtain⟨_,_,_,_,_,rfl,_⟩:=h;rfl)
  | (obtain⟨_,_,_,_,_,_,rfl,_⟩:=h;rfl)
  | (obtain⟨_,_,_,_,_,_,_,rfl,_⟩:=h;rfl)
  | (obtain⟨_,_,_,_,_,_,_,_,rfl,_⟩:=h;rfl)
theorem U8(T:Txt K mg t):fi P w K mg base 1 t.C7 t.Dn ["clocks"] xa:=by
 refine iT (k:=0) (sp:=xa) T.Kc wx (by decide) U9 (Fj) (fun cdv A outer s H E hr=>?_) Mh;refine bP (eK (i:=1) wx.nd ?_) ?_;refine i6 (Ξ (dj qB qH cf (zb hr.units T.uO (Ξ (lC hr.units T.fN (Ξ (Θ (pv 0)) az)) az))) az);refine bP ?_ (cb (dB (jN vH eP eO vI cf (Ξ (Θ (pv 1)) az))));refine pB ee rfl (sd (Θ (pv 0))) ?_ (cb (Ca ?_));refine ze rfl (se (i9 (i:=2) wx.nd) (se (i9 (i:=3) wx.nd) zf));refine xD HX oE oC CQ (Θ (pv 1)) (Ξ ?_ az);refine dj qB qH (dj qB qH (dj qB qH cf (zb hr.units T.uO (Ξ (Θ (pv 2)) az))) cf) ?_;refine zb hr.units T.uO (Ξ (Θ (pv 3)) az)
theorem U7:∀ds G Q,pD ds G Q->ds.length=1:=by
 intro ds G Q h;obtain⟨_,rfl,_⟩:=h;rfl
theorem wX(T:Txt K mg t):fi P w K mg base 1 t.Ab t.Aq ["word"] pD:=by
 refine iT (k:=0) (sp:=pD) T.tQ Vw (by decide) U7 (Ge) (fun cdv A outer s H E hr=>?_) Ma;refine bP (fL (jP ?_) (cb (dB vL)) gd) ?_;refine mj (GQ (GY hr.units T.fN (Ξ (Θ (pv 0)) az)) T.iS (Ξ aP (Ξ aP az))) ?_;refine lO (eU jS (jQ hr.units) ?_ (i6 az) (bJ _));refine r9 rfl (show fQ EU (ai yN) _ ["sign"] [] from⟨rfl,by decide +kernel,by decide +kernel,by decide +kernel,by decide +kernel,by decide +kernel⟩) ?_ ?_;refine HK (Θ (pv 0));intro s0 H0 fp0;refine⟨(i9 (i:=0) (show (["sign"]:List ι).Nodup by decide +kernel)),?_,(Θ (pv 0))⟩;refine PF (eU N0 T4 (Θ (pv 0)) cf (by with_unfolding_all rfl));refine bP (fL (jP ?_) (cb (dB vL)) gd) (cb (dB (GX hr.units T.uP (Ξ (Θ (pv 0)) az))));refine Cd (eU og (nV hr.units) (NP (Θ (pv 0)) aP) cf (bJ _)) ?_;refine Ce (eU jS (jQ hr.units) (Θ (pv 0)) cf (bJ _))
theorem U6:∀ds G Q,qw ds G Q->ds.length=1:=by
 intro ds G Q h
 first
  | (rcases ds with _|⟨_,_|⟨_,_|⟨_,_|⟨_,_⟩⟩⟩⟩<;>first|rfl|exact h.elim)
  | (obtain⟨rfl,_⟩:=h;rfl)
  | (obtain⟨_,rfl,_⟩:=h;rfl)
  | (obtain⟨_,_,rfl,_⟩:=h;rfl)
  | (obtain⟨_,_,_,rfl,_⟩:=h;rfl)
  | (obtain⟨_,_,_,_,rfl,_⟩:=h;rfl)
  | (obtain⟨_,_,_,_,_,rfl,_⟩:=h;rfl)
  | (obtain⟨_,_,_,_,_,_,rfl,_⟩:=h;rfl)
  | (obtain⟨_,_,_,_,_,_,_,rfl,_⟩:=h;rfl)
  | (obtain⟨_,_,_,_,_,_,_,_,rfl,_⟩:=h;rfl)
theorem wW(T:Txt K mg t):fi P w K mg base 5 t.zZ t.Ao ["thing"] qw:=by
 refine iT (k:=4) (sp:=qw) T.tP AV (by decide) U6 (Fl rs) (fun cdv A outer s H E hr=>?_) Ml;refine MI (i:=1) (names:=rs) JP T.takes T.xM AV.nd ?_ ?_ (cb (dB vL));refine MK (LR ((VQ T).mono (by decide)) hr T.WL T.Ke.kp T.Xd (Ξ (Θ (pv 0)) az)) MJ;intro e0;refine bP (fL (jP ?_) (cb (dB (Cf aP))) gd) (cb (dB (FG T.yw (Θ (pv 1)))));refine mj (eU jS (jQ hr.units) ?_ cf (bJ _)) (lO (mK (nU ?_)));refine FI ((Vf T).mono (by decide)) hr.h.mark T.WI T.Kb.kp T.Xa (Ξ (Θ (pv 1)) az);refine FI ((Vh T).mono (by decide)) hr.h.mark T.KI T.D9.kp T.K6 (Ξ (FG T.yw (Θ (pv 1))) az)
theorem U5:∀ds G Q,uo ds G Q->ds.length=1:=by
 intro ds G Q h
 first
  | (rcases ds with _|⟨_,_|⟨_,_|⟨_,_|⟨_,_⟩⟩⟩⟩<;>first|rfl|exact h.elim)
  | (obtain⟨rfl,_⟩:=h;rfl)
  | (obtain⟨_,rfl,_⟩:=h;rfl)
  | (obtain⟨_,_,rfl,_⟩:=h;rfl)
  | (obtain⟨_,_,_,rfl,_⟩:=h;rfl)
  | (obtain⟨_,_,_,_,rfl,_⟩:=h;rfl)
  | (obtain⟨_,_,_,_,_,rfl,_⟩:=h;rfl)
  | (obtain⟨_,_,_,_,_,_,rfl,_⟩:=h;rfl)
  | (obtain⟨_,_,_,_,_,_,_,rfl,_⟩:=h;rfl)
  | (obtain⟨_,_,_,_,_,_,_,_,rfl,_⟩:=h;rfl)
theorem BW(T:Txt K mg t):fi P w K mg base 2 t.zW t.Al ["text"] uo:=by
 refine iT (k:=1) (sp:=uo) T.wH mh (by decide) U5 (FV) (fun cdv A outer s H E hr=>?_) LS;refine bP (eK (i:=1) mh.nd (jN qz cF cE qA (Θ (pv 0)) (Ξ cf az))) ?_;refine bP ?_ ?_;refine eK (i:=2) mh.nd (jN qz cF cE qA (fA (Θ (pv 1)) aP) (Ξ cf az));refine bP (fL (jP ?_) (cb (dB aP)) gd) ?_;refine mj (eU jS (jQ hr.units) (lC hr.units T.fN (Ξ (Θ (pv 2)) az)) aP (bJ _)) ?_;refine mj (eU jS (jQ hr.units) (fA (Θ (pv 2)) aP) cf (bJ _)) (lO ?_);refine GR (eG ((wX T).mono (by decide)) hr T.uN T.tQ.kp T.uX (Ξ (fA (Θ (pv 2)) aP) az)) T.iS ?_;refine Ξ aP az;refine bP (eK (i:=3) mh.nd (sf (Ξ aP (Ξ aP az)))) ?_;refine bP ?_ (bP ?_ (cb (dB vL)));refine pB ee rfl (PH T.iS (Ξ aP (Ξ (lC hr.units T.fN (Ξ (Θ (pv 1)) az)) az))) ?_ ?_;refine i9 (i:=4) mh.nd;refine bP (eK (i:=2) mh.nd ?_) ?_;refine jN qz cF cE qA (fA (Θ (pv 1)) (Θ (pv 4))) (Ξ cf az);refine bP ?_ ?_;refine fL (jP ?_) (cb (dB (dj gE gF (Θ (pv 4)) aP))) gd;refine mj (eU jS (jQ hr.units) (lC hr.units T.fN (Ξ (Θ (pv 2)) az)) aP (bJ _)) ?_;refine mj (eU jS (jQ hr.units) (fA (Θ (pv 2)) aP) cf (bJ _)) (lO (eU C1 CV (Θ (pv 4)) ?_ (bJ _)));refine eG ((wX T).mono (by decide)) hr T.uN T.tQ.kp T.uX ?_;refine Ξ (fA (jN qz cF cE qA (fA (Θ (pv 1)) aP) (Ξ cf az)) aP) az;refine bP (eK (i:=5) mh.nd (sf ?_)) (bP ?_ (cb (eK (i:=3) mh.nd (Θ (pv 5)))));refine Ξ (eG ((wX T).mono (by decide)) hr T.uN T.tQ.kp T.uX (Ξ (fA (Θ (pv 2)) aP) az)) ?_;refine Ξ (eG ((wX T).mono (by decide)) hr T.uN T.tQ.kp T.uX (Ξ (fA (Θ (pv 2)) aP) az)) az;refine fL (jP ?_) (cb (dB (dj gE gF (Θ (pv 4)) aP))) gd;refine mj (GQ (fA (Θ (pv 5)) aP) T.iS (Ξ aP (Ξ aP az))) ?_;refine mj (GR (fA (Θ (pv 5)) aP) T.iS (Ξ (fA (Θ (pv 5)) aP) az)) ?_;refine lO (eU N9 (Oa hr.kI) (Θ (pv 5)) (Θ (pv 3)) (bJ _));refine fL ?_ (cb (dB (dj gE gF (lC hr.units T.fN (Ξ (Θ (pv 1)) az)) aP))) gd;refine eU vW vS (lC hr.units T.fN (Ξ (Θ (pv 1)) az)) ?_ (bJ _);refine eG ((wX T).mono (by decide)) hr T.uN T.tQ.kp T.uX ?_;refine Ξ (fA (jN qz cF cE qA (fA (Θ (pv 1)) aP) (Ξ cf az)) aP) az
theorem U4:∀ds G Q,w9 ds G Q->ds.length=2:=by
 intro ds G Q h;obtain⟨_,_,rfl,_⟩:=h;rfl
theorem U3(T:Txt K mg t):fi P w K mg base 3 t.C5 t.Dl ["pen","row"] w9:=by
 refine iT (k:=2) (sp:=w9) T.Ka qp (by decide) U4 (Ff) (fun cdv A outer s H E hr=>?_) Wj;refine bP (eK (i:=2) qp.nd (jN qz cF cE qA (Θ (pv 1)) (Ξ cf az))) ?_;refine bP (eK (i:=3) qp.nd ?_) ?_;refine eG ((lN T).mono (by decide)) hr T.ju T.iY.kp T.jy ?_;refine Ξ (Θ (pv 0)) (Ξ (lC hr.units T.fN (Ξ (Θ (pv 2)) az)) az);refine bP (eK (i:=4) qp.nd (i6 (Ξ cf (Ξ cf ?_)))) ?_;refine Ξ cf (Ξ cf (Ξ cf (Ξ cf (Ξ cf ?_))));refine Ξ cf (Ξ cf (Ξ (dj NX NY cf aP) (Ξ cf (Ξ cf (Ξ cf (Ξ cf az))))));refine bP (eK (i:=5) qp.nd ?_) ?_;refine dj gE gF ?_ (i8 (Θ (pv 2)) (lD (dj gE gF (Θ (pv 3)) aP)) jO);refine dj gE gF (i8 (Θ (pv 2)) jO (lD (Θ (pv 3)))) (i6 (Ξ ?_ az));refine fA (Θ (pv 4)) (eG ((lN T).mono (by decide)) hr T.ju T.iY.kp T.jy (Ξ (Θ (pv 0)) (Ξ aP az)));refine bP (eK (i:=6) qp.nd (i6 ?_)) ?_;refine NM (vz (xj (dj qB qH cf (Θ (pv 1)))) ?_);refine vz (xj (dj qB qH (Θ (pv 1)) cf)) (vz (NL (Θ (pv 1)) (by decide)) ?_);refine vz ?_ ?_;refine xj (jN vH eP eO vI cf (Ξ (i8 (Θ (pv 2)) jO (lD (Cf aP))) az));refine vz (xj (dj qB qH (Θ (pv 1)) cf)) (vz (xj (dj qB qH (Θ (pv 1)) cf)) (NN az));refine bP (eK (i:=7) qp.nd ?_) ?_;refine eG ((lN T).mono (by decide)) hr T.ju T.iY.kp T.jy (Ξ (Θ (pv 0)) (Ξ aP az));refine bP (fL (eU sh (si hr.kI) (Θ (pv 7)) aP (bJ _)) (cb (dB (fA (Θ (pv 6)) (Θ (pv 7))))) gd) ?_;refine bP (fL (eU og (nV hr.units) (Θ (pv 7)) aP (bJ _)) (cb (dB (NO (Θ (pv 1))))) gd) ?_;refine cb (dB (jN vH eP eO vI cf (Ξ (Θ (pv 5)) az)))
theorem U2:∀ds G Q,w6 ds G Q->ds.length=2:=by
 intro ds G Q h;obtain⟨_,_,_,rfl,_⟩:=h;rfl
theorem U1(T:Txt K mg t):fi P w K mg base 4 t.De t.Dt ["pen","rows"] w6:=by
 refine iT (k:=3) (sp:=w6) T.Kh uJ (by decide) U2 (Fe) (fun cdv A outer s H E hr=>?_) V8;refine bP (eK (i:=2) uJ.nd ?_) ?_;refine eG ((lN T).mono (by decide)) hr T.ju T.iY.kp T.jy ?_;refine Ξ (Θ (pv 0)) (Ξ (lC hr.units T.fN (Ξ (Θ (pv 1)) az)) az);refine bP (eK (i:=3) uJ.nd ?_) ?_;refine eG ((lN T).mono (by decide)) hr T.ju T.iY.kp T.jy ?_;refine Ξ (Θ (pv 0)) (Ξ (lC hr.units T.fN (Ξ (Θ (pv 1)) az)) az);refine bP (eK (i:=4) uJ.nd (Pz hr.units T.JG (Ξ (Θ (pv 1)) az))) ?_;refine bP (eK (i:=5) uJ.nd ?_) ?_;refine eG ((lN T).mono (by decide)) hr T.ju T.iY.kp T.jy (Ξ (Θ (pv 0)) (Ξ aP az));refine bP ?_ ?_;refine fL (eU og (nV hr.units) (Θ (pv 5)) aP (bJ _)) (cb (dB ?_)) gd;refine dj gE gF (i8 (Θ (pv 4)) jO (lD (Θ (pv 2)))) ?_;refine i8 (Θ (pv 4)) (lD (dj gE gF (Θ (pv 2)) aP)) jO;refine bP ?_ (bP ?_ (cb (dB (Θ (pv 4)))));refine fL (eU og (nV hr.units) (Θ (pv 5)) aP (bJ _)) (cb (dB ?_)) gd;refine dj gE gF (i8 (Θ (pv 4)) jO (lD (dj gE gF (Θ (pv 2)) aP))) ?_;refine i8 (Θ (pv 4)) (lD (Θ (pv 2))) jO;refine fL (eU og (nV hr.units) (Θ (pv 5)) aP (bJ _)) ?_ (cb ?_);refine cb (xF (fA (Θ (pv 1)) (Θ (pv 3))) (zd (Θ (pv 4)) (Θ (pv 2))));refine fL (eU og (nV hr.units) (Θ (pv 5)) aP (bJ _)) (cb (dB (LN (Θ (pv 1))))) ?_;refine cb (xF ?_ (zd (Θ (pv 4)) (Θ (pv 2))));refine eG ((U3 T).mono (by decide)) hr T.WH T.Ka.kp T.W9 ?_;refine Ξ (Θ (pv 0)) (Ξ (fA (Θ (pv 1)) (Θ (pv 2))) az)
theorem U0:∀ds G Q,mf ds G Q->ds.length=1:=by
 intro ds G Q h;obtain⟨_,rfl,_⟩:=h;rfl
theorem Jz(T:Txt K mg t):fi P w K mg base 6 t.Ah t.uU ["script"] mf:=by
 refine iT (k:=5) (sp:=mf) T.Lb j3 (by decide) U0 (EX) (fun cdv A outer s H E hr=>?_) Wr;refine bP ?_ ?_;refine pB ee rfl (sd (i6 ?_)) (i9 (i:=1) j3.nd) (cb (fL ?_ (cb (dB kK)) gd));refine Ξ vL (Ξ aP (Ξ kK (Ξ (i6 (Ξ cf az)) (Ξ (sf (Ξ cf az)) (Ξ Qj az)))));refine eU jS (jQ hr.units) (eG ((wW T).mono (by decide)) hr T.uM T.tP.kp T.uW (Ξ (Θ (pv 1)) az)) ?_ (bJ _);refine aP;refine bP ?_ ?_;refine eK (i:=2) j3.nd (dj gE gF (i6 (Ξ cf az)) ?_);refine r9 rfl (show fQ ET (ai yM) _ ["k"] [] from⟨rfl,by decide +kernel,by decide +kernel,by decide +kernel,by decide +kernel,by decide +kernel⟩) ?_ ?_;refine xE T.iS (Ξ aP az);intro s0 H0 fp0;refine⟨(i9 (i:=0) (show (["k"]:List ι).Nodup by decide +kernel)),ux,?_⟩;refine dj qB qH cf (zb hr.units T.uO (Ξ (Θ (pv 0)) az));refine bP ?_ ?_;refine pB ee rfl ?_ (i9 (i:=3) j3.nd) (cb (fL ?_ (cb (dB kK)) gd));refine sd (i6 (Ξ cf (Ξ cf (Ξ cf (Ξ cf (Ξ cf (Ξ cf (Ξ cf (Ξ cf az)))))))));refine eU jS (jQ hr.units) (eG ((wW T).mono (by decide)) hr T.uM T.tP.kp T.uW (Ξ (Θ (pv 3)) az)) ?_ (bJ _);refine eG ((BW T).mono (by decide)) hr T.zK T.wH.kp T.Az (Ξ (Θ (pv 3)) az);refine bP ?_ (bP ?_ (cb (dB kK)));refine pB ee rfl (sd (i6 (Ξ (Θ (pv 2)) ?_))) (i9 (i:=4) j3.nd) (cb (fL ?_ (cb (dB kK)) gd));refine Ξ (dj gE gF (Θ (pv 2)) (i6 (Ξ cf az))) ?_;refine Ξ (i8 (Θ (pv 2)) jO (lD (Cf aP))) (Ξ ?_ az);refine dj gE gF (dj gE gF (i6 (Ξ cf az)) (i8 (Θ (pv 2)) (lD aP) jO)) (i6 (Ξ cf az));refine eU jS (jQ hr.units) ?_ ?_ (bJ _);refine eG ((wW T).mono (by decide)) hr T.uM T.tP.kp T.uW ?_;refine Ξ (jN vH eP eO vI cf (Ξ (Θ (pv 4)) az)) az;refine eG ((BW T).mono (by decide)) hr T.zK T.wH.kp T.Az ?_;refine Ξ (jN vH eP eO vI cf (Ξ (Θ (pv 4)) az)) az;refine pB ee rfl (sd ?_) (i9 (i:=5) j3.nd) ?_;refine dj gE gF (i6 ?_) (i8 (Θ (pv 0)) (lD aP) (lD aP));refine Ξ (eG ((Vn T).mono (by decide)) hr T.WM T.Kf.kp T.Xe (Ξ (Θ (pv 0)) (Ξ aP az))) (az);refine bP ?_ ?_;refine eK (i:=6) j3.nd (eG ((Vk T).mono (by decide)) hr T.KN T.Ec.kp T.K9 (Ξ (Θ (pv 5)) az));refine bP (eK (i:=3) j3.nd ?_) ?_;refine eG ((U8 T).mono (by decide)) hr T.WJ T.Kc.kp T.Xb ?_;refine Ξ (eG ((Vb T).mono (by decide)) hr T.WQ T.Ki.kp T.Xh (Ξ (Θ (pv 6)) az)) az;refine bP ?_ (cb (fL ?_ (cb (dB kK)) gd));refine pB ee rfl (xE T.iS (Ξ aP az)) (i9 (i:=7) j3.nd) ?_;refine bP (eK (i:=8) j3.nd ?_) (cb (fL ?_ (cb (dB kK)) gd));refine jN vH eP eO vI cf (Ξ ?_ az);refine eG ((U1 T).mono (by decide)) hr T.WO T.Kh.kp T.Xg ?_;refine Ξ (Θ (pv 6)) (Ξ (jN qz cF cE qA (Θ (pv 3)) (Ξ cf az)) az);refine eU jS (jQ hr.units) (eG ((wW T).mono (by decide)) hr T.uM T.tP.kp T.uW (Ξ (Θ (pv 8)) az)) ?_ (bJ _);refine eG ((BW T).mono (by decide)) hr T.zK T.wH.kp T.Az (Ξ (Θ (pv 8)) az);refine eU Sg UI (eG ((wW T).mono (by decide)) hr T.uM T.tP.kp T.uW (Ξ (Θ (pv 3)) az)) vL (bJ _)
end
def je(K:η)(nm:ι)(st:aV):Prop:=∃f d,fy K nm nm st f d/\aW K aH nm=some (some (.ref f))
theorem dW{K:η}{nm:ι}{st:aV}{f:ζ}{od an:Option ζ}{sl:Array (Option ε)}{oc kV dc pm cd ct:ε}(a:aW K aH nm=some (some (.ref f)))(l:K.lookup f=some ⟨oc,od,.func (gr nm nm (nG st) (e8 st) (ai st) .none kV dc pm an cd ct),sl⟩)(c:jD K cd nm=true)(k:bS K (.ref f)=true):je K nm st:=⟨f,_,Jq l c k,a⟩
theorem wJ{K:η}{h:af}{mg:ι->Option ε}(X:K.In h)(G:h.Ns aH mg)
  (h0:je K "whole_good" BD)
  (h1:je K "clock_good" BC)
  (h2:je K "clocks_good" wZ)
  (h3:je K "clocks_read" BA)
  (h4:je K "many_read" Bz)
  (h5:je K "numbers_behind" wY)
  (h6:je K "figures_good" yP)
  (h7:je K "_law_cell_at" Bx)
  (h8:je K "_law_next" Bw)
  (h9:je K "_law_pen_of" Bv)
  (XD:je K "_law_draw" B5)
  (XC:je K "_law_whole" B4)
  (Lh:je K "_law_kind_of" B3)
  (XB:je K "_law_split" yO)
  (XA:je K "_law_clocks_of" B2)
  (Xz:je K "_law_text_of" B1)
  (Xy:je K "_law_value" yN)
  (Xx:je K "_law_told" B0)
  (Xw:je K "_law_due" BZ)
  (Xv:je K "_law_odd_row" BY)
  (Xu:je K "_law_spoilt_of" BX)
  (Xt:je K "law" yM)
  {C_ClockError:ζ} (n_ClockError:aW K aH "ClockError" = some (some (.ref C_ClockError)))
  {C_NoClock:ζ} (n_NoClock:aW K aH "NoClock" = some (some (.ref C_NoClock)))
  {C_NoNumber:ζ} (n_NoNumber:aW K aH "NoNumber" = some (some (.ref C_NoNumber)))
  {C_NoPlace:ζ} (n_NoPlace:aW K aH "NoPlace" = some (some (.ref C_NoPlace)))
  {C_NoRow:ζ} (n_NoRow:aW K aH "NoRow" = some (some (.ref C_NoRow)))
  {C_NoClocks:ζ} (n_NoClocks:aW K aH "NoClocks" = some (some (.ref C_NoClocks)))
  {C_NoText:ζ} (n_NoText:aW K aH "NoText" = some (some (.ref C_NoText)))
  {C_TooGreat:ζ} (n_TooGreat:aW K aH "TooGreat" = some (some (.ref C_TooGreat)))
  {iw:ζ} (i_NoText:dP K (.ref C_NoText) "__init__" = some (some (.ref iw)))
  {qd_NoText qn_NoText:Option ζ} {qs_NoText:Array (Option ε)} {qc_NoText qk_NoText qo_NoText qp_NoText qe_NoText qt_NoText:ε} (j_NoText:K.lookup iw=some ⟨qc_NoText,qd_NoText,.func (gr "__init__" "NoText.__init__" (nG vt) (e8 vt) (ai vt) .none qk_NoText qo_NoText qp_NoText qn_NoText qe_NoText qt_NoText),qs_NoText⟩) (h_NoText:jD K qe_NoText "NoText.__init__" = true) (g_NoText:bS K (.ref iw)=true) (y_NoText:qg K (.ref iw)=some (.type "function"))
  (oi:excIn K C_NoText (.ref C_ClockError::hU) (some (.ref iw)) "ValueError.__new__" = true)
  (rV:dP K (.ref C_NoText) "__setattr__" = some (some (.builtin "object.__setattr__"))) (v2_NoText:mT K C_NoText (.type "object")=some true) (v3_NoText:bS K (.ref C_NoText)=true) (v4_NoText:dP K (.ref C_NoText) "__getattribute__" = some (some (.builtin "BaseException.__getattribute__"))) (v8_NoText:dP K (.ref C_NoText) "__getattr__" = some none) (v9_NoText:mT K C_NoText (.type "BaseException")=some true) (v5_NoText:tW K C_NoText=true) (v6_NoText:dP K (.ref C_NoText) "__class__" = some (some (.builtin "object.__class__")))
  (kH:dP K (.ref C_NoText) "row" = some none)
  (kl:aq K (.ref C_NoText) (.ref C_NoClock)=some false)
  (jM:aq K (.ref C_NoText) (.ref C_NoClocks)=some false)
  (jL:aq K (.ref C_NoText) (.ref C_NoNumber)=some false)
  (kj:aq K (.ref C_NoText) (.ref C_NoPlace)=some false)
  (lK:aq K (.ref C_NoText) (.ref C_NoRow)=some false)
  (kG:aq K (.ref C_NoText) (.ref C_NoText)=some true)
  (jK:aq K (.ref C_NoText) (.ref C_TooGreat)=some false)
  (rT:aq K (.ref C_NoText) (.type "ValueError")=some true)
  (eb:excIn K C_ClockError hU none "ValueError.__new__" = true) (u1:tU K (.builtin "object.__class__") "__get__" = some (some (.builtin "getset_descriptor.__get__"))) (u2:vg K (.builtin "object.__class__")=some true)
  {t0:fE} (gint0:aW K aH "FIGURES" = some (some (.str "0123456789" t0)))
  {t1:fE} (gint1:aW K aH "MOST_CLOCKS" = some (some (.int 12 t1)))
  {t2:fE} (gint2:aW K aH "MOST_FIGURES" = some (some (.int 60 t2)))
  {t3:fE} (gint3:aW K aH "MOST_STEP" = some (some (.int 1000 t3)))
  (z0:aW K aH "ValueError" = some none)
  (z1:aW K aH "all" = some none)
  (z2:aW K aH "bool" = some none)
  (z3:aW K aH "enumerate" = some none)
  (z4:aW K aH "int" = some none)
  (z5:aW K aH "isinstance" = some none)
  (z6:aW K aH "len" = some none)
  (z7:aW K aH "list" = some none)
  (z8:aW K aH "max" = some none)
  (z9:aW K aH "range" = some none)
  (Ex:aW K aH "set" = some none)
  (Ew:aW K aH "sorted" = some none)
  (Eu:aW K aH "str" = some none)
  (Et:aW K aH "tuple" = some none)
  (Es:aW K aH "zip" = some none)
  : ∃t:Ed,Txt K mg t/\∀(s:θ) (v:ε),nM s t.uU ⟨[v],[]⟩ [("script",v)]:=by
 obtain⟨f0,d0,F0,a0⟩:=h0;obtain⟨f1,d1,F1,a1⟩:=h1;obtain⟨f2,d2,F2,a2⟩:=h2;obtain⟨f3,d3,F3,a3⟩:=h3;obtain⟨f4,d4,F4,a4⟩:=h4;obtain⟨f5,d5,F5,a5⟩:=h5;obtain⟨f6,d6,F6,a6⟩:=h6;obtain⟨f7,d7,F7,a7⟩:=h7;obtain⟨f8,d8,F8,a8⟩:=h8;obtain⟨f9,d9,F9,a9⟩:=h9;obtain⟨f10,d10,F10,a10⟩:=XD;obtain⟨f11,d11,F11,a11⟩:=XC;obtain⟨f12,d12,F12,a12⟩:=Lh;obtain⟨f13,d13,F13,a13⟩:=XB;obtain⟨f14,d14,F14,a14⟩:=XA;obtain⟨f15,d15,F15,a15⟩:=Xz;obtain⟨f16,d16,F16,a16⟩:=Xy;obtain⟨f17,d17,F17,a17⟩:=Xx;obtain⟨f18,d18,F18,a18⟩:=Xw;obtain⟨f19,d19,F19,a19⟩:=Xv;obtain⟨f20,d20,F20,a20⟩:=Xu;obtain⟨f21,d21,F21,a21⟩:=Xt;have I_NoText:=Jq (st:=vt) j_NoText h_NoText g_NoText;exact⟨⟨f0,d0,f1,d1,f2,d2,f3,d3,f4,d4,f5,d5,f6,d6,f7,d7,f8,d8,f9,d9,f10,d10,f11,d11,f12,d12,f13,d13,f14,d14,f15,d15,f16,d16,f17,d17,f18,d18,f19,d19,f20,d20,f21,d21,C_ClockError,C_NoClock,C_NoNumber,C_NoPlace,C_NoRow,C_NoClocks,C_NoText,C_TooGreat,iw,_,t0,t1,t2,t3⟩,⟨F0,
  aC X G a0,
  F0.binds (ps:=["thing"]) fun _ _ _ _ _ _ us hl=>by obtain⟨_,rfl⟩:=ja hl;rfl,
  F1,
  aC X G a1,
  F1.binds (ps:=["thing"]) fun _ _ _ _ _ _ us hl=>by obtain⟨_,rfl⟩:=ja hl;rfl,
  F2,
  aC X G a2,
  F2.binds (ps:=["thing"]) fun _ _ _ _ _ _ us hl=>by obtain⟨_,rfl⟩:=ja hl;rfl,
  F3,
  aC X G a3,
  F3.binds (ps:=["text"]) fun _ _ _ _ _ _ us hl=>by obtain⟨_,rfl⟩:=ja hl;rfl,
  F4,
  aC X G a4,
  F4.binds (ps:=["row"]) fun _ _ _ _ _ _ us hl=>by obtain⟨_,rfl⟩:=ja hl;rfl,
  F5,
  aC X G a5,
  F5.binds (ps:=["name","many","row"]) fun _ _ _ _ _ _ us hl=>by obtain⟨_,_,_,rfl⟩:=WS hl;rfl,
  F6,
  aC X G a6,
  F6.binds (ps:=["word"]) fun _ _ _ _ _ _ us hl=>by obtain⟨_,rfl⟩:=ja hl;rfl,
  F7,
  aC X G a7,
  F7.binds (ps:=["script","k"]) fun _ _ _ _ _ _ us hl=>by obtain⟨_,_,rfl⟩:=uA hl;rfl,
  F8,
  aC X G a8,
  F8.binds (ps:=["seed"]) fun _ _ _ _ _ _ us hl=>by obtain⟨_,rfl⟩:=ja hl;rfl,
  F9,
  aC X G a9,
  F9.binds (ps:=["cell"]) fun _ _ _ _ _ _ us hl=>by obtain⟨_,rfl⟩:=ja hl;rfl,
  F10,
  aC X G a10,
  F10.binds (ps:=["pen","many"]) fun _ _ _ _ _ _ us hl=>by obtain⟨_,_,rfl⟩:=uA hl;rfl,
  F11,
  aC X G a11,
  F11.binds (ps:=["found"]) fun _ _ _ _ _ _ us hl=>by obtain⟨_,rfl⟩:=ja hl;rfl,
  F12,
  aC X G a12,
  F12.binds (ps:=["e"]) fun _ _ _ _ _ _ us hl=>by obtain⟨_,rfl⟩:=ja hl;rfl,
  F13,
  aC X G a13,
  F13.binds (ps:=["pen","times"]) fun _ _ _ _ _ _ us hl=>by obtain⟨_,_,rfl⟩:=uA hl;rfl,
  F14,
  aC X G a14,
  F14.binds (ps:=["pen"]) fun _ _ _ _ _ _ us hl=>by obtain⟨_,rfl⟩:=ja hl;rfl,
  F15,
  aC X G a15,
  F15.binds (ps:=["clocks"]) fun _ _ _ _ _ _ us hl=>by obtain⟨_,rfl⟩:=ja hl;rfl,
  F16,
  aC X G a16,
  F16.binds (ps:=["word"]) fun _ _ _ _ _ _ us hl=>by obtain⟨_,rfl⟩:=ja hl;rfl,
  F17,
  aC X G a17,
  F17.binds (ps:=["thing"]) fun _ _ _ _ _ _ us hl=>by obtain⟨_,rfl⟩:=ja hl;rfl,
  F18,
  aC X G a18,
  F18.binds (ps:=["text"]) fun _ _ _ _ _ _ us hl=>by obtain⟨_,rfl⟩:=ja hl;rfl,
  F19,
  aC X G a19,
  F19.binds (ps:=["pen","row"]) fun _ _ _ _ _ _ us hl=>by obtain⟨_,_,rfl⟩:=uA hl;rfl,
  F20,
  aC X G a20,
  F20.binds (ps:=["pen","rows"]) fun _ _ _ _ _ _ us hl=>by obtain⟨_,_,rfl⟩:=uA hl;rfl,
  F21,
  aC X G a21,
  F21.binds (ps:=["script"]) fun _ _ _ _ _ _ us hl=>by obtain⟨_,rfl⟩:=ja hl;rfl,
  aC X G n_ClockError,
  n_ClockError,
  aC X G n_NoClock,
  n_NoClock,
  aC X G n_NoNumber,
  n_NoNumber,
  aC X G n_NoPlace,
  n_NoPlace,
  aC X G n_NoRow,
  n_NoRow,
  aC X G n_NoClocks,
  n_NoClocks,
  aC X G n_NoText,
  n_NoText,
  aC X G n_TooGreat,
  n_TooGreat,
  ⟨⟨oi,eb⟩,⟨rV,v2_NoText,ME oi,fun n hn=>by
   simp only[aa,aF,or_false] at hn;subst hn;exact kH⟩,I_NoText,Vr,.cons ⟨⟨_,_,_,_,rfl⟩,by decide⟩ (.nil),by decide +kernel,I_NoText.binds (ps:=["self","row"]) (fun _ _ _ _ _ _ us hl=>by obtain⟨_,_,rfl⟩:=uA hl;rfl),v3_NoText,by decide,MC y_NoText⟩,
  ⟨⟨v4_NoText,v8_NoText,v9_NoText⟩,MD oi,v6_NoText,u1,u2,v2_NoText⟩,
  kl,
  jM,
  jL,
  kj,
  lK,
  kG,
  jK,
  rT,
  ⟨⟨v4_NoText,v8_NoText,v9_NoText⟩,v5_NoText,kH⟩,
  aC X G gint0,
  aC X G gint1,
  aC X G gint2,
  aC X G gint3,
  bE X G z0,
  bE X G z1,
  bE X G z2,
  bE X G z3,
  bE X G z4,
  bE X G z5,
  bE X G z6,
  bE X G z7,
  bE X G z8,
  bE X G z9,
  bE X G Ex,
  bE X G Ew,
  bE X G Eu,
  bE X G Et,
  bE X G Es⟩,fun s v=>by
  obtain⟨_,_,_,_,_,_,_,_,_,rfl,_⟩:=F21.ex;exact .of_eq rfl⟩
theorem UZ(K:η)(H:Hp)(a:ζ)(ns:List Int)(hl:ns.length≤63)(ho:AD H)(hS:ff K H a (ns.map V.int)):lX K mf [.ref a] H (fun v _=>v=.bl true) fun _ _ _=>False:=by
 refine⟨[.dA (ns.map .int)],fun _=>none,fun d _=>d=.bl true,.cons ?_ .nil,(fun _ _ e=>nomatch e),⟨ns,rfl,hl,rfl⟩,fun v H' d G' hv _ _ q=>?_⟩
 ·unfold Hv;refine⟨a,ns.map V.int,rfl,?_,aD.ints ns⟩;rcases hS with (h|h)|h
  ·rcases ho a with z|⟨o,xs,z⟩
   ·rw[z] at h;cases h
   ·rw[z] at h;cases h
  ·exact .inl h
  ·exact .inr h
 ·subst q;exact ui hv
theorem walk{l:vj}{q:Ω}{loose:List ι}{XP:(ι->Option ε)->af->Prop}{YP:aj->af->Prop}{d:DefRec}{K:Params->η}(hn:l.most=some 63)(hdf:d.params.defaults=[])
  (hY:∀(w:aj) (h:af),YP w h->(K w.params).In h)
  (F:∀(w:aj) (mg:ι->Option ε) (fa:ζ) (h:af),(K w.params).In h->h.Ns aH mg->mg d.name=some (.ref fa) ->
   ∃fd:ay,(∀(s:θ) (u:ε),nM s fd ⟨[u],[]⟩ [("script",u)])/\∀base:af,(K w.params).In base->base.Ns aH mg->jg l.prog w (K w.params) mg base qb 6 fa fd ["script"] (lX (K w.params) mf)):
  PySem.W.WalkO q loose XP YP l.row.toRowW d [] (fun f vs=>vf f vs):=
 L2.yi (n:=63) (k:=6) (x:="script") (CX:=fun _=>qb) (sp:=fun w=>lX (K w.params) mf) hn (by decide) hdf ⟨rfl,by decide,by decide⟩ hY F (fun w H a ns hl ho hS=>UZ (K w.params) H a ns hl ho hS) fun _ _ _ _ _ z=>z
end My
open PySem PySem.W PyProof.Rows
set_option maxRecDepth 100000 in
set_option maxHeartbeats 0 in
theorem PySem.Challenge.cw_coverclocks_k71_texts_that_write_none_holds : PySem.Challenge.rw_coverclocks_k71_texts_that_write_none.Holds := by
 w_on;o_law;k_head;(case hw=>w_witness2)
 k_fill
 refine My.walk (l:=PySem.Challenge.rw_coverclocks_k71_texts_that_write_none) rfl rfl (fun w h Y=>PySem.W.kIn_of Y) ?F
 case F=>
  intro w mg fa h KX G hmg
  refine' Exists.elim (My.wJ KX G (My.dW ?a0 ?l0 ?c0 ?k0) (My.dW ?a1 ?l1 ?c1 ?k1) (My.dW ?a2 ?l2 ?c2 ?k2) (My.dW ?a3 ?l3 ?c3 ?k3) (My.dW ?a4 ?l4 ?c4 ?k4) (My.dW ?a5 ?l5 ?c5 ?k5) (My.dW ?a6 ?l6 ?c6 ?k6) (My.dW ?a7 ?l7 ?c7 ?k7) (My.dW ?a8 ?l8 ?c8 ?k8) (My.dW ?a9 ?l9 ?c9 ?k9) (My.dW ?a10 ?l10 ?c10 ?k10) (My.dW ?a11 ?l11 ?c11 ?k11) (My.dW ?a12 ?l12 ?c12 ?k12) (My.dW ?a13 ?l13 ?c13 ?k13) (My.dW ?a14 ?l14 ?c14 ?k14) (My.dW ?a15 ?l15 ?c15 ?k15) (My.dW ?a16 ?l16 ?c16 ?k16) (My.dW ?a17 ?l17 ?c17 ?k17) (My.dW ?a18 ?l18 ?c18 ?k18) (My.dW ?a19 ?l19 ?c19 ?k19) (My.dW ?a20 ?l20 ?c20 ?k20) (My.dW ?a21 ?l21 ?c21 ?k21) ?n_ClockError ?n_NoClock ?n_NoNumber ?n_NoPlace ?n_NoRow ?n_NoClocks ?n_NoText ?n_TooGreat ?i_NoText ?j_NoText ?h_NoText ?g_NoText ?y_NoText ?oi ?rV ?v2_NoText ?v3_NoText ?v4_NoText ?v8_NoText ?v9_NoText ?v5_NoText ?v6_NoText ?kH ?kl ?jM ?jL ?kj ?lK ?kG ?jK ?rT ?eb ?u1 ?u2 ?gint0 ?gint1 ?gint2 ?gint3 ?z0 ?z1 ?z2 ?z3 ?z4 ?z5 ?z6 ?z7 ?z8 ?z9 ?Ex ?Ew ?Eu ?Et ?Es) ?fin
  case a0|l0|c0|k0|a1|l1|c1|k1|a2|l2|c2|k2|a3|l3|c3|k3|a4|l4|c4|k4|a5|l5|c5|k5|a6|l6|c6|k6|a7|l7|c7|k7|a8|l8|c8|k8|a9|l9|c9|k9=>k_is
  case a10|l10|c10|k10|a11|l11|c11|k11|a12|l12|c12|k12|a13|l13|c13|k13|a14|l14|c14|k14|a15|l15|c15|k15|a16|l16|c16|k16|a17|l17|c17|k17|a18|l18|c18|k18|a19|l19|c19|k19=>k_is
  case a20|l20|c20|k20|a21|l21|c21|k21|n_ClockError|n_NoClock|n_NoNumber|n_NoPlace|n_NoRow|n_NoClocks|n_NoText|n_TooGreat|i_NoText|j_NoText|h_NoText|g_NoText|y_NoText=>k_is
  case oi=>kernel_rfl
  case rV|v2_NoText|v3_NoText|v4_NoText|v8_NoText|v9_NoText|v5_NoText|v6_NoText|kH=>k_is
  case kl|jM|jL|kj|lK|kG|jK|rT|eb=>kernel_rfl
  case u1|u2|gint0|gint1|gint2|gint3|z0|z1|z2|z3|z4|z5|z6|z7|z8|z9|Ex|Ew|Eu|Et|Es=>k_is
  case fin=>
   rintro t ⟨T,b⟩
   have e2:=hmg.symm.trans T.KQ
   cases e2
   exact⟨t.uU,b,fun base _ _=>My.Jz T⟩
