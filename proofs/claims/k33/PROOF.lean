import PyProof.Rows.All
import Wide.All
import OpenK.AllK
import Wide.FinOn
import Lean
import PyProof.EqAt
import PyProof.EqKinds
import PyProof.TupleCall
import PyProof.NeKinds
import KE.KSortAsk
import PySem.SetTable
import PyProof.SetKind
import PyProof.TupleKey
import PyProof.IsRules
import PyProof.DictKinds
import PyProof.FactsAll.set
import PyProof.RangeIter
import PyProof.Seq
import PyProof.ForAny
import PyProof.WalksMore
import PyProof.CollectWalk
import PyProof.CollectIter
import PyProof.WalksS
import PyProof.Rows.SetFrom
import KE.KSortTup
import PyProof.Draws
import PyProof.Rows.Range3
import PyProof.ExcClass2
import PyProof.InstSpecial
import PyProof.RaisesMany
import PyProof.Rows.Own
import KE.KTryDeep
import PyProof.InstStoreFacts
import PyProof.ExcArgs
import PyProof.SetRoads
import PyProof.Rows.CallKwBuiltin
import KE.KMinKey
import PyProof.ListCopy
import PyProof.Rows.SortShell
import KE.KMinBuiltin
import PyProof.DictRoadsH
import PySem.Challenge.RW_coverclocks_k33_clocks_split
set_option Elab.async false
set_option linter.all false
set_option maxRecDepth 100000
set_option maxHeartbeats 6400000
namespace PySem.W.Fast
def tw10388001839354130939:=0
def tw10922861189212269447:=0
def tw11192947701348921832:=0
def tw11422317049704924554:=0
def tw1153093990319013401:=0
def tw11589947416089477881:=0
def tw1190821907727743184:=0
def tw1203314502684135131:=0
def tw12422319003492971656:=0
def tw12533893917433986075:=0
def tw12598123835639191548:=0
def tw12948401096841037290:=0
def tw1294909603455826032:=0
def tw12958318268166197881:=0
def tw13041192728940048889:=0
def tw13050698840357476544:=0
def tw13130711816250531578:=0
def tw13414562883715086600:=0
def tw13482935300350079049:=0
def tw13878761487569738411:=0
def tw13953677188684520606:=0
def tw14310285667865986063:=0
def tw14892901097518433922:=0
def tw14942549776052936872:=0
def tw14981238954568584825:=0
def tw15274557301709136168:=0
def tw15415252308713023467:=0
def tw15489161671943349078:=0
def tw15613258643711920249:=0
def tw16058036364879276682:=0
def tw16098912445979826842:=0
def tw16137395847569770240:=0
def tw16335594095201361806:=0
def tw16391989083870464685:=0
def tw16626669071398836315:=0
def tw16702859230923965992:=0
def tw17068330859034284624:=0
def tw17195372026438268420:=0
def tw17220915896797974707:=0
def tw17257352047055708805:=0
def tw17453884820329252070:=0
def tw17509572545604379955:=0
def tw17511112406165459085:=0
def tw17541342192466202715:=0
def tw17751436576409473157:=0
def tw17919933297769528087:=0
def tw18062188715202704377:=0
def tw18062478413574536021:=0
def tw1907798366507939086:=0
def tw2289235598413924694:=0
def tw2552079263477276879:=0
def tw270839272698581510:=0
def tw2934987323682958487:=0
def tw2949552732517034131:=0
def tw3232715343556762870:=0
def tw3237366213403663189:=0
def tw340155331193342224:=0
def tw3648520912370395369:=0
def tw4250361279714585329:=0
def tw4297582320210654752:=0
def tw4388617650096286097:=0
def tw4607403898080714236:=0
def tw4615136385304121838:=0
def tw4682198865068190998:=0
def tw4873367294531912909:=0
def tw496300440836239565:=0
def tw5103443183184177950:=0
def tw5408128589200489021:=0
def tw5872188670314431002:=0
def tw605758888757490882:=0
def tw6169271741279995104:=0
def tw6431237769097110381:=0
def tw6701400178161373746:=0
def tw6969422989082299564:=0
def tw6971865465639366429:=0
def tw7143074222426400709:=0
def tw7179850860015358461:=0
def tw7377415768895399590:=0
def tw7725002781708147890:=0
def tw8014661445286315561:=0
def tw8059371917256530076:=0
def tw8082852710041959106:=0
def tw8239521480992935210:=0
def tw8564966443870133020:=0
def tw8774877458006926508:=0
def tw8955803316110329621:=0
def tw9217787781171736202:=0
def tw9253814859647035715:=0
def tw929346918902052366:=0
def tw9679708251838288091:=0
def tw10421733039005873878:=0
def tw12298351211670371625:=0
def tw12473880397923517663:=0
def tw13392872108176670070:=0
def tw13499795678780611002:=0
def tw14217590549837121644:=0
def tw15322379290416733764:=0
def tw15605033908721211411:=0
def tw15641184128608225578:=0
def tw15683345382920780300:=0
def tw1616142925641118927:=0
def tw16276049826444635089:=0
def tw1642020414368799592:=0
def tw16602014412155154603:=0
def tw16742102724095303917:=0
def tw170505829767602855:=0
def tw17119711965931121928:=0
def tw17933742133391951290:=0
def tw18211280792260336482:=0
def tw18239633687076743709:=0
def tw1886486303620037303:=0
def tw2501770000600951036:=0
def tw372565477459528705:=0
def tw3775711960830417415:=0
def tw3907921590578357159:=0
def tw3957738631055627926:=0
def tw422909681174085008:=0
def tw6174082677426187145:=0
def tw7206509090106222376:=0
def tw7855218413236863441:=0
def tw8319886545532735295:=0
def tw8980211148549123611:=0
def tw9162857486483690631:=0
def tw9252893333218406621:=0
def tw9306170373533323201:=0
def tw9742462527589600449:=0
def tw10506565780015736840:=0
def tw10816331274404561227:=0
def tw11603977623337421320:=0
def tw116931310454180323:=0
def tw13021228002066839766:=0
def tw13260656954908216559:=0
def tw13336389365106413226:=0
def tw13760510912283269423:=0
def tw14822001603238896939:=0
def tw15692157054433527944:=0
def tw16082233551184026707:=0
def tw16190497378504231503:=0
def tw18114418772512749457:=0
def tw2155341953969340542:=0
def tw3055526377529196559:=0
def tw310500207360226961:=0
def tw3464735645114106721:=0
def tw3526631392823857757:=0
def tw4119186833901074235:=0
def tw4563805198145272025:=0
def tw4961933145247526142:=0
def tw4996347216921739184:=0
def tw6926246380238753384:=0
def tw7108676790842901757:=0
def tw7439321742218765425:=0
def tw7450670136098990090:=0
def tw8136093137469514965:=0
def tw10594244794130225215:=0
def tw11491954721525153523:=0
def tw11518563883009000424:=0
def tw11771450767087000817:=0
def tw12081693189264138251:=0
def tw12899089500795987416:=0
def tw13841424355916288934:=0
def tw15044869816505560691:=0
def tw15230211194298077213:=0
def tw16657798604947361638:=0
def tw17299224450652181009:=0
def tw18174009876199738664:=0
def tw183001431721525453:=0
def tw4631782265024691614:=0
def tw6012137133811673943:=0
def tw7557121852779933969:=0
def tw10167334174565242525:=0
def tw10176797061898336046:=0
def tw15276574014944193691:=0
def tw17755871320230518984:=0
def tw3353374888447352245:=0
def tw4913201264116993759:=0
def tw6052567466233759859:=0
def tw7700125143560846320:=0
def tw824510261629189837:=0
def tw10479790199954952442:=0
def tw12248137629568862987:=0
def tw13601798255909361339:=0
def tw2703473632628248697:=0
def tw3290305396509244841:=0
def tw5452432662393992696:=0
def tw5785351279527169855:=0
def tw7587648281554342480:=0
end PySem.W.Fast
open Array renaming getElem?_toList->af,getElem?_eq_some_iff->aH,length_toList->aN,toList_append->cH,mem_toList_iff->ee,getElem?_eq_getElem->e6,getElem?_eq_none_iff->i8,toList_reverse->me,toList_extract->mf,getD->mh,toList_setIfInBounds->nR,toList_push->n6,toList->pJ,toList_filterMap->qk,getElem_toList->sf,toList_modify->sP,forIn_toList->ue,append_empty->uf,getElem_mem->uF
open Bool renaming false_ne_true->Ψ,and_eq_true->cA,not_eq_true'->gp,false_eq_true->g6,false_and->mR,not_eq_false'->nj,eq_iff_iff->pZ,and_false->qV,and_true->sx,or_true->ud
open Classical renaming byContradiction->bh
open False renaming elim->bU
open ForInStep renaming yield->gh
open Int renaming emod_lt_of_pos->fV,emod_nonneg->g5,mul_le_mul_of_nonneg_left->mi,mul_nonneg->mP,toNat_of_nonneg->sL,mul_one->uM
open List renaming length_map->π,length_append->ψ,size_toArray->Γ,mem_append->ag,mem_cons_of_mem->ai,mem_cons_self->aj,mem_cons->ak,pairwise_append->ao,append_assoc->aq,getElem?_eq_some_iff->ax,mem_append_right->ay,getElem?_eq_getElem->az,length_cons->aE,mem_singleton->aL,mem_map->aQ,getElem?_map->aT,mem_append_left->bf,length_take->br,replicate->bu,length_drop->bC,getElem?_append_right->bD,append_nil->bF,mem_of_getElem?->bH,pairwise_singleton->bJ,range->bM,length_range'->bR,take_append_drop->bY,not_mem_nil->bZ,mem_of_mem_take->cb,lookup_cons->cz,getElem?_append_left->cB,take_of_length_le->cC,pairwise_cons->cR,nil_append->cS,mem_of_mem_drop->cT,eq_nil_of_length_eq_zero->cV,mem_range->de,map_cons->du,take_sublist->dw,length_nil->dC,getElem?_eq_none_iff->dD,drop_eq_getElem_cons->dE,length_singleton->dH,getElem?_take_of_lt->dQ,pairwise_map->eD,flatten_cons->eE,map_append->eG,toArray->eJ,drop_eq_nil_of_le->eK,pairwise_reverse->eW,pairwise_iff_getElem->eZ,nodup_cons->fi,drop_sublist->ft,replicate_succ->fB,getElem_of_mem->fC,filterMap_cons->fD,mem_reverse->fI,map_map->fS,lookup_append->fU,of_mem_zip->gg,getElem?_of_mem->gw,zip_cons_cons->gZ,getElem?_drop->g0,length->hU,perm_append_comm->iy,map_congr_left->ji,mem_filter->jx,getElem?_replicate->kr,getElem?_cons_succ->ku,reverse_perm->kA,ext_getElem?->kB,range_succ_eq_map->kJ,getElem?_set_self->kK,getElem_mem->lb,length_replicate->lA,eraseIdx_eq_take_drop_succ->lB,getElem?_set_ne->ma,take_zero->mL,drop_zero->mM,dropLast_concat_getLast->mO,mem_filterMap->m8,getD->m9,contains_cons->ng,perm_ext_iff_of_nodup->nM,all_cons->nN,length_range->nZ,perm_middle->pD,mem_of_mem_eraseIdx->pE,filterMap_cons_some->pF,cons_append->pG,all_eq_true->pH,length_eq_zero_iff->pK,lookup_nil->pY,getElem_cons_drop->qj,take_take->qP,set_append_right->qQ,length_filter_le->qR,getElem?_toArray->qS,drop_drop->qT,reverse_reverse->sd,getElem_toArray->se,map_take->su,map_drop->sv,reverse_append->sG,length_pos_iff->sH,getElem?_range->sI,filter_eq_self->sJ,map_filterMap->t8,find?_eq_none->t9,filterMap_map->ua,all_map->ub,foldl->v7
open List.Pairwise renaming imp_of_mem->fj,nil->gm,sublist->qU,map->uD
open List.Perm renaming append_right->cf,append_left->cp,trans->cE,refl->kc,of_eq->v9
open List.cons renaming injEq->v8
open Nat renaming le_refl->Θ,zero_le->aG,ne_of_lt->aZ,le_trans->bB,lt_of_lt_of_le->bL,lt_irrefl->cw,le_of_ble_eq_true->dG,lt_succ_of_lt->et,ne_of_gt->ix,lt_succ_self->iS,min_eq_left->jv,add_mul_mod_self_left->jw,mod_lt->ka,add_assoc->nL,succ_pos->px,mul_comm->pz,le_of_lt->pC,mod_add_div->pW,zero_add->tY,sub_self->tZ,pow_succ->t4,min_self->t5,lt_trans->t6,le_of_eq->t7,le_succ->uL
open Ne renaming symm->eV
open Option renaming bind_some->iR,isSome_iff_exists->jX,map->r9,getD_none->vp
open Option.some renaming inj->aD
open Or renaming inr->qO,inl->tX
open PyProof.Rows renaming Keyed->ι,SortSt->aI,SortKind->cG,slot_tuple_getitem->cL,callWith_type1->eF,IntsAre->gG,get?_update_seq->gX,listUpdate_at->iZ,AllBare->kg,seqEpoch_at->kG,mergeAt'->lu,IsTup->oo,list_sort_plain->pU,boot_range->rX
open PyProof.Rows.F renaming plain_set_update_loop->fR,entry_set_update_loop->jW
open PyProof.Rows.SortSt renaming mk'->rZ
open PySem renaming Value->δ,wpAny_bind->ε,Addr->ζ,Shared->η,Str->ν,wpAny_pure->ο,wpAny->ρ,Expr->υ,Program->Ω,Heap->au,World->aw,Spec->aA,FuncData->aB,sizeLine->aC,Around->aF,Pos->aV,Obj->aW,mainGlobals->aX,Stmt->aY,SetTable->bG,starEach->bK,wpAny_holding->bT,wpAny_mono->b9,sizeLine_eq->cu,Env->cW,wpAny_setState_of->cY,wpAny_newObj_type->cZ,Builtin->dI,wpAny_call_entry->dN,wpAny_Call_Name_kw->dO,codeAny_mono->dP,wpAny_field->dU,Scope->fh,wpAny_truthy_bool->fo,wpAny_loadPart_at->fq,mem_of_lookup->fA,NameKind->fH,wpAny_passesOwn->gb,codeAny_builtin->gd,wpAny_call->gv,bootBuiltins->gL,wpAny_callSpecial?_slot->gR,wpAny_execs_nil->gW,codeAny->iu,wpAny_rule->iN,wpAny_execs_cons->iO,codeAny_call_builtin->iQ,wpAny_newFunctionEnv_cells->iY,wpAny_isSubtype_exc->jh,wpAny_typeOf->jU,wpAny_setField->j6,call_meets->j7,CmpOp->kf,Sem->kn,wpAny_standAt->kO,wpAny_newList->kP,wpAny_attempt->kQ,Builtin->kR,wpAny_forIn_list->kZ,codeAny_call_function->ls,wpAny_loadName_local->lV,codeAny_of_tree->lW,IsPart->md,wpAny_setField_rec->mY,PassesOwn->m6,plainId_quiet->nI,wpAny_pyIter_list->nV,wpAny_Name->oj,BindsTo->oG,wpAny_comprehension_free->pf,wpAny_askSetting->pg,noFill_tuple_add->pj,Moved->pX,wpAny_of_eq->qi,wpAny_runValue->qG,wpAny_newTuple->qH,isSubtype_type->qI,SetTable->qL,seq_tuple_add->sk,Fin->tW,call->vX
open PySem.Around renaming under_plainId->gA,frames_deeper->sg,under_plain->ug
open PySem.Builtin.Frozenset renaming updateFrom->mQ,slot0->pL
open PySem.Builtin.Int renaming intBits->jj
open PySem.Builtin.List renaming listTooLong->gO,listExtendWith->nh,listSameRef->pI
open PySem.Builtin.Range renaming rangePlace?->jA,rangeFields->oz
open PySem.Builtin.Slice renaming slicePlaces->gx,sliceAdjust->jz,sliceApplied->nQ
open PySem.Builtin.Tuple renaming tupleExact->gN,tupleItemsOf->nP
open PySem.Calls renaming Name_function_global->nO,call_function_entry->oq,spliced_cons->uc,spliced_nil->uE
open PySem.Code renaming quiet_builtin->jY
open PySem.EntryCells renaming newEntry->sO
open PySem.F renaming args_tuple_add_2->jV,entry_tuple_add->ko,slot_tuple_add->kI,slot_range_contains->m4,excBase_ValueError->nK,type_list_pop->qM,slot_list_pop->qN
open PySem.Heap renaming get?_push_of_some->μ,lt_size->aa,get?_push_size->aM,get?_update_other->bE,get?_update_self->cq,get?_none_of_le->fk,SameBut->fW,size_push->iz,get?_update_ne->sN
open PySem.Heap.SameBut renaming update->dA
open PySem.NameKind renaming free->cN,cell->sr
open PySem.Obj renaming mapSeq->ba,data_mapFields->eU,isFreed_of_fields->gf,mapFields->gj,putSet->om
open PySem.PassesOwn renaming never->ju
open PySem.SeqAt.EqAt renaming bool_bool->r8
open PySem.SeqAt.RcAt renaming lists_lengths->tV
open PySem.SetTable renaming insertAt->bQ,grown->fG,sizeAbove->gY,below->iw
open PySem.Shared renaming TypeIs->nJ
open PySem.Str renaming empty->iF,ofString->pk
open PySem.Value renaming ref->bo,none->bz,bool->da,isInt_shape->ig,builtin->i4,type->lZ,int->pV,isInt->uK
open PySem.W renaming Frag->θ,kasC_bind->ω,kitOne->Δ,kasC_pure->Ξ,mg_of->aK,nsIn->bx,keepIn->bN,findIn->bV,mg_none_of->ck,kia_one->df,kasC_range->dm,callWith_K->fQ,kasC_modify->gE,fnOf->gM,kasC_get->iP,mroIn->i6,clsIn->i7,notCls->j8,codeIn->j9,cellsFrom_some->kH,kasC_lift->lr,kas_ask->mJ,InstAt->mK,codeRec_of->mZ,methodObj->nW,kitx_list->nX,hasDictIn->nY,typeIn->qJ,lookIn->qK,looks_clsIn->sF,specialIn->uB,kitx_dict->uC,takesIn->vY,findObj->vZ,OpenLaw->v5
open PySem.W.KasT renaming kasWp_bind->jy
open PySem.Within renaming cons->uJ
open Sum renaming inr->oE,inl->oF
open True renaming intro->rY
namespace L2
open PySem PySem.Spec PyProof.Rows
abbrev Key:=Sum Int ν
def Fc:Key->δ->Bool
 |.inl k,v=>uK k v
 |.inr x,v=>δ.isStrOf x v
def WH(w:aw):Key->Int
 |.inl k=>hashInt k
 |.inr x=>hashStr w x
theorem rj:∀{k:Key} {v:δ},Fc k v=true->(∃i t,k=oF i/\v=pV i t)∨(∃x t,k=oE x/\v=δ.str x t)
 |.inl i,v,h=>by
  obtain⟨t,e⟩:=ig (k:=i) (v:=v) h;exact .inl ⟨i,t,rfl,e⟩
 |.inr x,v,h=>by
  obtain⟨t,e⟩:=δ.isStrOf_shape (x:=x) (v:=v) h;exact .inr ⟨x,t,rfl,e⟩
theorem VZ(a b:Int):decide ((oF a:Key)=oF b)=(a==b):=by
 by_cases e:a=b
 ·subst e;simp
 ·have h:¬(oF a:Key)=oF b:=fun q=>e (oF.inj q);rw[decide_eq_false h];exact (beq_eq_false_iff_ne.mpr e).symm
theorem VY(a b:ν):decide ((oE a:Key)=oE b)=decide (a=b):=by
 by_cases e:a=b
 ·subst e;simp
 ·have h:¬(oE a:Key)=oE b:=fun q=>e (oE.inj q);rw[decide_eq_false h,decide_eq_false e]
theorem VX(a:Int)(b:ν):decide ((oF a:Key)=oE b)=false:=decide_eq_false (fun q=>nomatch q)
theorem VW(a:ν)(b:Int):decide ((oE a:Key)=oF b)=false:=decide_eq_false (fun q=>nomatch q)
def wI(prog:Ω)(w:aw):PySem.KeyKind prog w Key where
 is:=Fc
 hash:=WH w
 inj:=fun v a b ha hb=>by
  rcases rj ha with⟨i,t,rfl,rfl⟩|⟨x,t,rfl,rfl⟩
  ·rcases rj hb with⟨j,u,rfl,e⟩|⟨y,u,rfl,e⟩
   ·injection e with e1 _;rw[e1]
   ·exact nomatch e
  ·rcases rj hb with⟨j,u,rfl,e⟩|⟨y,u,rfl,e⟩
   ·exact nomatch e
   ·injection e with e1 _;rw[e1]
 byValue:=fun k v h=>by
  rcases rj h with⟨i,t,rfl,rfl⟩|⟨x,t,rfl,rfl⟩<;>rfl
 pyHash:=fun hv h=>by
  rcases rj hv with⟨i,t,rfl,rfl⟩|⟨x,t,rfl,rfl⟩
  ·exact wpAny_pyHash_int h
  ·exact wpAny_pyHash_str h
 eqBool:=fun hu hv h=>by
  rcases rj hu with⟨i,t,rfl,rfl⟩|⟨x,t,rfl,rfl⟩
  ·rcases rj hv with⟨j,u,rfl,rfl⟩|⟨y,u,rfl,rfl⟩
   ·rw[VZ] at h;exact wpAny_eqBool_int h
   ·rw[VX] at h;exact SeqAt.EqAt.int_str i t y u _ _ _ _ h
  ·rcases rj hv with⟨j,u,rfl,rfl⟩|⟨y,u,rfl,rfl⟩
   ·rw[VW] at h;exact SeqAt.EqAt.str_int x t j u _ _ _ _ h
   ·rw[VY] at h;exact wpAny_eqBool_str h
 «strs»:=fun k x t v h=>by
  rcases rj h with⟨i,u,rfl,e⟩|⟨y,u,rfl,e⟩
  ·exact nomatch e
  ·injection e with e1 _;subst e1;cases v<;>rfl
end L2
namespace L2
open PySem PySem.Spec PyProof.Rows
inductive V where
 |aO|bl (b:Bool)|int (i:Int)|str (x:ν)|Cn (b:Array UInt8)|K3 (b:UInt64)|ref (a:ζ)|ty (n:String)
 deriving DecidableEq
def RelV:V->δ->Prop
 |.aO,u=>u=bz
 |.bl b,u=>u=da b
 |.int i,u=>∃t,u=pV i t
 |.str x,u=>∃t,u=δ.str x t
 |.Cn b,u=>∃t,u=δ.bytes b t
 |.K3 b,u=>∃t,u=δ.float b t
 |.ref a,u=>u=bo a
 |.ty n,u=>u=lZ n
abbrev bt:List V->List δ->Prop:=Paired RelV
theorem bt.length{xs:List V}{us:List δ}(r:bt xs us):xs.length=us.length:=Paired.length r
theorem bt.get:∀{xs:List V} {us:List δ} {i:Nat} {x:V},bt xs us->xs[i]?=some x->∃u,us[i]?=some u/\RelV x u
 |_,_,_,_,.nil,e=>by simp at e
 |_,_,0,_,.cons r _,e=>by simp at e;subst e;exact⟨_,rfl,r⟩
 |_,_,i+1,x,.cons _ t,e=>by
  obtain⟨u,h1,h2⟩:=bt.get (i:=i) (x:=x) t (by simpa using e);exact⟨u,by simpa using h1,h2⟩
theorem bt.set{x:V}{u:δ}(r:RelV x u):∀{xs:List V} {us:List δ} (i:Nat),bt xs us->bt (xs.set i x) (us.set i u)
 |_,_,_,.nil=>.nil
 |_,_,0,.cons _ t=>.cons r t
 |_,_,i+1,.cons q t=>.cons q (bt.set r i t)
theorem bt.append:∀{xs ys:List V} {us ws:List δ},bt xs us->bt ys ws->bt (xs++ys) (us++ws)
 |_,_,_,_,.nil,s=>s
 |_,_,_,_,.cons r t,s=>.cons r (bt.append t s)
theorem bt.take:∀{xs:List V} {us:List δ} (n:Nat),bt xs us->bt (xs.take n) (us.take n)
 |_,_,0,_=>.nil
 |_,_,_+1,.nil=>.nil
 |_,_,n+1,.cons r t=>.cons r (bt.take n t)
theorem bt.drop:∀{xs:List V} {us:List δ} (n:Nat),bt xs us->bt (xs.drop n) (us.drop n)
 |_,_,0,r=>r
 |_,_,_+1,.nil=>.nil
 |_,_,n+1,.cons _ t=>bt.drop n t
def rS:Option V->Option δ->Prop
 |some v,some u=>RelV v u
 |none,none=>True
 |_,_=>False
def KV{κ:Type}:List (κ×V)->List (κ×δ)->Prop:=Paired fun (p:κ×V) (q:κ×δ)=>p.1=q.1/\RelV p.2 q.2
def kV:Key->V
 |.inl i=>.int i
 |.inr x=>.str x
inductive HO where
 |lst (xs:List V)
 |tup (xs:List V)
 |dK (kvs:List (Key×V))|dT (kvs:List (List Key×V))
 |set (S:Int->Bool) (n:Nat)
 |ins (C dx:ζ) (fs:List (ν×V))
 |own (x:ζ)
 |xd (fs:List (ν×V))
 |met (f x:ζ)
 |B4 (lo hi:Int)
 |cP (o:aW) (u:HO)
 |vt (ps:Array δ)
 |ext (φ:au->Prop)
abbrev Hp:=ζ->Option HO
def upd(H:Hp)(a:ζ)(o:HO):Hp:=fun b=>if b=a then some o else H b
theorem iV{H:Hp}{a:ζ}{o:HO}:upd H a o a=some o:=by unfold upd;rw[if_pos rfl]
theorem dX{H:Hp}{a b:ζ}{o:HO}(h:b≠a):upd H a o b=H b:=by unfold upd;rw[if_neg h]
theorem mz{H:Hp}{a b:ζ}{o:HO}(h:H a=some o)(h':H b=none):a≠b:=by
 intro e;subst e;rw[h] at h';cases h'
def kF(h:au)(a:ζ)(items:Array δ):Prop:=∃o,h.get? a=some o/\o.cls=.type "tuple"/\(∃n,o.data=.seq items n)/\o.dict=none
theorem kF.tup{h:au}{a:ζ}{items:Array δ}(x:kF h a items):oo h a items:=let ⟨o,h1,h2,h3,_⟩:=x;⟨o,h1,h2,h3⟩
theorem kF.new(h:au)(items:Array δ):kF (h.push { cls:=.type "tuple",data:=.seq items }) h.objs.size items:=⟨_,aM _ rfl,rfl,⟨_,rfl⟩,rfl⟩
theorem kF.lt{h:au}{a:ζ}{items:Array δ}(x:kF h a items):a<h.objs.size:=let ⟨_,ho,_⟩:=x;aa ho
section
variable (P:Ω) (w:aw)
def b8(H:Hp)(h:au)(a:ζ):HO->Prop
 |.lst xs=>xs.length≤aC/\∃(its:List δ) (n:Nat),bt xs its/\h.get? a=some { cls:=.type "list",data:=.seq its.toArray n }
 |.tup xs=>xs.length≤aC/\∃its:List δ,bt xs its/\kF h a its.toArray
 |.dK kvs=>kvs.length≤aC/\(a==sysModules)=false/\∃vs,KV kvs vs/\h.DictOf (wI P w) a vs
 |.dT kvs=>kvs.length≤aC/\(a==sysModules)=false/\∃xs:List (List Key×ζ×δ),
   Paired (fun (p:List Key×V) (q:List Key×ζ×δ)=>p.1=q.1/\H q.2.1=some (.tup (p.1.map kV))/\RelV p.2 q.2.2) kvs xs ∧
   ∃o es ep,h.get? a=some o/\o.ExactDict/\o.data=.dict es ep/\es.toList=xs.map (entryOfKey (tupleKind (wI P w)))/\(xs.map (·.1)).Nodup
 |.set S n=>h.SetOf (intKind P w) a S n
 |.ins C dx fs=>H dx=some (.own a)/\fs.length≤1000/\dx≠a/\h.get? a=some (PySem.W.instObj C dx) ∧
   ∃mA,h.Ns1 dx mA/\(∀f,rS (fs.lookup f) (mA f))/\PySem.Within mA (fs.map (·.1))
 |.own _=>∃o,h.get? a=some o
 |.xd fs=>∃mA,h.Ns1 a mA/\∀f,rS (fs.lookup f) (mA f)
 |.B4 lo hi=>∃t u v,h.get? a=some { cls:=.type "range",data:=.fields #[.int lo t,.int hi u,.int 1 v]}
 |.cP o u=>h.get? a=some o/\b8 H h a u
 |.vt ps=>h.get? a=some { cls:=.none,data:=.fields ps }
 |.met f x=>h.get? a=some (nW (.ref f) (.ref x))
 |.ext φ=>φ h/\(∃o,h.get? a=some o)/\∀h1 h2:au,φ h1->(∀o,h1.get? a=some o->h2.get? a=some o)->φ h2
def dM(H:Hp)(h:au):Prop:=∀a o,H a=some o->b8 P w H h a o
end
section
variable {P:Ω} {w:aw} {H H':Hp} {h h':au} {a:ζ} {o:HO}
theorem b8.lt(x:b8 P w H h a o):a<h.objs.size:=by
 cases o with
 |lst xs=>obtain⟨_,_,_,_,e⟩:=x;exact aa e
 |tup xs=>obtain⟨_,_,_,p⟩:=x;exact p.lt
 |dK kvs=>obtain⟨_,_,_,_,o,_,_,e,_⟩:=x;exact aa e
 |dT kvs=>obtain⟨_,_,_,_,o,_,_,e,_⟩:=x;exact aa e
 |set S n=>obtain⟨o,_,_,_,e,_⟩:=x;exact aa e
 |ins C dx fs=>obtain⟨_,_,_,e,_⟩:=x;exact aa e
 |own y=>obtain⟨_,e⟩:=x;exact aa e
 |xd fs=>obtain⟨_,⟨_,_,_,e,_⟩,_⟩:=x;exact aa e
 |B4 lo hi=>obtain⟨_,_,_,e⟩:=x;exact aa e
 |cP ob u=>obtain⟨e,_⟩:=x;exact aa e
 |vt ps=>exact aa (show h.get? a=some _ from x)
 |met f y=>exact aa (show h.get? a=some _ from x)
 |ext φ=>obtain⟨_,⟨_,e⟩,_⟩:=x;exact aa e
theorem Paired.KN{α β:Type}{F G:α->β->Prop}:∀{l₁:List α} {l₂:List β},Paired F l₁ l₂->(∀a b,F a b->G a b)->Paired G l₁ l₂
 |_,_,.nil,_=>.nil
 |_,_,.cons r t,f=>.cons (f _ _ r) (Paired.KN t f)
theorem b8.lE(x:b8 P w H h a o)(k:∀b u,(b=a∨H b=some (.own a))->h.get? b=some u->h'.get? b=some u)
  (ho:∀b,H b=some (.own a)->H' b=some (.own a)) (ht:∀b xs,H b=some (.tup xs)->H' b=some (.tup xs)):b8 P w H' h' a o:=by
 induction o with
 |lst xs=>obtain⟨z,its,n,r,e⟩:=x;exact⟨z,its,n,r,k _ _ (.inl rfl) e⟩
 |tup xs=>obtain⟨z,its,r,ob,e,c⟩:=x;exact⟨z,its,r,ob,k _ _ (.inl rfl) e,c⟩
 |dK kvs=>obtain⟨z,y,vs,r,ob,es,ep,e,c⟩:=x;exact⟨z,y,vs,r,ob,es,ep,k _ _ (.inl rfl) e,c⟩
 |dT kvs=>
  obtain⟨z,y,xs,r,ob,es,ep,e,c⟩:=x;exact⟨z,y,xs,Paired.KN r fun p q z=>⟨z.1,ht _ _ z.2.1,z.2.2⟩,ob,es,ep,k _ _ (.inl rfl) e,c⟩
 |set S n=>obtain⟨ob,es,ep,t,e,c⟩:=x;exact⟨ob,es,ep,t,k _ _ (.inl rfl) e,c⟩
 |ins C dx fs=>
  obtain⟨d,z,ne,e,mA,⟨od,es,ep,e2,c⟩,r⟩:=x;exact⟨ho _ d,z,ne,k _ _ (.inl rfl) e,mA,⟨od,es,ep,k _ _ (.inr d) e2,c⟩,r⟩
 |own y=>obtain⟨ob,e⟩:=x;exact⟨ob,k _ _ (.inl rfl) e⟩
 |xd fs=>obtain⟨mA,⟨od,es,ep,e,c⟩,r⟩:=x;exact⟨mA,⟨od,es,ep,k _ _ (.inl rfl) e,c⟩,r⟩
 |B4 lo hi=>obtain⟨t,u,v,e⟩:=x;exact⟨t,u,v,k _ _ (.inl rfl) e⟩
 |cP ob u ih=>obtain⟨e,q⟩:=x;exact⟨k _ _ (.inl rfl) e,ih q⟩
 |vt ps=>
  have e:h.get? a=some { cls:=.none,data:=.fields ps }:=x;show h'.get? a=some { cls:=.none,data:=.fields ps };exact k a _ (.inl rfl) e
 |met f y=>
  have e:h.get? a=some (nW (.ref f) (.ref y)):=x;show h'.get? a=some (nW (.ref f) (.ref y));exact k a _ (.inl rfl) e
 |ext φ=>obtain⟨p,⟨o,e⟩,st⟩:=x;exact⟨st _ _ p fun o q=>k _ _ (.inl rfl) q,⟨o,k _ _ (.inl rfl) e⟩,st⟩
theorem dM.lt(x:dM P w H h)(e:H a=some o):a<h.objs.size:=(x a o e).lt
theorem dM.fresh(x:dM P w H h)(e:h.objs.size≤a):H a=none:=by
 cases q:H a with
 |none=>rfl
 |some u=>exact absurd (bL (x.lt q) e) (cw _)
theorem dM.kept(x:dM P w H h)(k:∀b u,h.get? b=some u->h'.get? b=some u):dM P w H h':=fun a o e=>
 (x a o e).lE (fun b u _ q=>k b u q) (fun _ q=>q) fun _ _ q=>q
theorem dM.laid(x:dM P w H h)(k:∀b u,h.get? b=some u->h'.get? b=some u)(hp:h.objs.size≤a)(new:b8 P w (upd H a o) h' a o):dM P w (upd H a o) h':=fun b u e=>by
 have hn:=x.fresh hp;by_cases hb:b=a
 ·subst hb;rw[iV] at e;cases e;exact new
 ·rw[dX hb] at e;exact (x b u e).lE (fun c v _ q=>k c v q) (fun c q=>by rw[dX (mz q hn)];exact q) fun c xs q=>by rw[dX (mz q hn)];exact q
end
def Rd(H:Hp)(a:ζ)(u:HO):Prop:=H a=some u∨∃o,H a=some (.cP o u)
theorem Rd.ok{P:Ω}{w:aw}{H:Hp}{h:au}{a:ζ}{u:HO}(r:Rd H a u)(x:dM P w H h):b8 P w H h a u:=by
 rcases r with r|⟨o,r⟩
 ·exact x a u r
 ·obtain⟨_,q⟩:=x a _ r;exact q
def Fo:Option HO->Prop
 |some (.lst _)=>True
 |some (.dK _)=>True
 |some (.dT _)=>True
 |some (.set _ _)=>True
 |some (.ins _ _ _)=>True
 |some (.ext _)=>True
 |_=>False
section
variable {P:Ω} {w:aw} {H:Hp} {h h':au} {x e:ζ} {o':HO}
theorem dM.write(ok:dM P w H h)(mu:Fo (H x))(he:e=x∨H e=some (.own x))(k:∀b u,b≠e->h.get? b=some u->h'.get? b=some u)(heo:∃u,h'.get? e=some u)
  (new:b8 P w (upd H x o') h' x o'):dM P w (upd H x o') h':=fun b u q=>by
 have nown:∀c y,H c=some (.own y)->c≠x:=fun c y r z=>by subst z;rw[r] at mu;exact mu
 have ntup:∀c xs,H c=some (.tup xs)->c≠x:=fun c xs r z=>by subst z;rw[r] at mu;exact mu
 by_cases hb:b=x
 ·subst hb;rw[iV] at q;cases q;exact new
 ·rw[dX hb] at q;by_cases hbe:b=e
  ·have q':H b=some (.own x):=by
    rcases he with z|z
    ·exact absurd (hbe.trans z) hb
    ·rw[hbe];exact z
   rw[q] at q';cases q';obtain⟨v,hv⟩:=heo;exact⟨v,by rw[hbe];exact hv⟩
  ·refine (ok b u q).lE (fun c v hc r=>k c v ?_ r) (fun c r=>by rw[dX (nown c b r)];exact r) fun c xs r=>by rw[dX (ntup c xs r)];exact r
   rcases hc with rfl|hc
   ·exact hbe
   ·rintro rfl;rcases he with z|z
    ·exact nown c b hc z
    ·rw[hc] at z;cases z;exact hb rfl
end
structure Un(fs ex:List ζ)(H H':Hp)(h h':au):Prop where
 keep:∀b o,h.get? b=some o->H b=none->b∉fs->b∉ex->h'.get? b=some o
 slot:∀b o,h.get? b=some o->H b=none->b∈fs->b∉ex->∃sl,h'.get? b=some { o with slots:=sl }
 free:∀b o,h.get? b=some o->H b=none->b∉ex->H' b=none
 there:∀b o,h.get? b=some o->b∉ex->∃o',h'.get? b=some o'
 ij:∀b xs,H b=some (.tup xs)->H' b=some (.tup xs)
 ip:∀b o u,H b=some (.cP o u)->H' b=some (.cP o u)
 nq:∀b ps,H b=some (.vt ps)->∃more,H' b=some (.vt (ps++more))
section
variable {fs fs' ex ex':List ζ} {H H1 H2:Hp} {h h1 h2 h':au} {a x e:ζ} {o:HO}
theorem Un.any(u:Un fs ex H H1 h h1){b:ζ}{ob:aW}(q:h.get? b=some ob)(n:H b=none)(hx:b∉ex):∃sl,h1.get? b=some { ob with slots:=sl }:=by
 by_cases hb:b∈fs
 ·exact u.slot b ob q n hb hx
 ·exact⟨ob.slots,u.keep b ob q n hb hx⟩
theorem Un.kept(k:∀b u,h.get? b=some u->h'.get? b=some u):Un fs ex H H h h':=
 ⟨fun b ob q _ _ _=>k b ob q,fun b ob q _ _ _=>⟨ob.slots,k b ob q⟩,fun _ _ _ n _=>n,fun b ob q _=>⟨ob,k b ob q⟩,fun _ _ q=>q,fun _ _ _ q=>q,fun _ ps q=>⟨#[],by rw[q];simp⟩⟩
theorem Un.refl:Un fs ex H H h h:=Un.kept fun _ _ q=>q
theorem Un.laid(k:∀b u,h.get? b=some u->h'.get? b=some u)(hp:h.objs.size≤a)(hn:H a=none):Un fs ex H (upd H a o) h h' where
 keep:=fun b u q _ _ _=>k b u q
 slot:=fun b u q _ _ _=>⟨u.slots,k b u q⟩
 free:=fun b u q n _=>by rw[dX (aZ (bL (aa q) hp))];exact n
 there:=fun b u q _=>⟨u,k b u q⟩
 ij:=fun b xs q=>by rw[dX (mz q hn)];exact q
 ip:=fun b u xs q=>by rw[dX (mz q hn)];exact q
 nq:=fun b ps q=>⟨#[],by rw[dX (mz q hn),q];simp⟩
theorem Un.write(mu:Fo (H x))(he:e=x∨H e=some (.own x))(k:∀b u,b≠e->h.get? b=some u->h'.get? b=some u)(heo:∃u,h'.get? e=some u):Un fs ex H (upd H x o) h h':=by
 have hx:∀b,H b=none->b≠x:=fun b n z=>by subst z;rw[n] at mu;exact mu
 have hb:∀b,H b=none->b≠e:=fun b n z=>by
  subst z;rcases he with r|r
  ·exact hx b n r
  ·rw[n] at r;cases r
 have hm:∀b u,H b=some u->¬Fo (some u)->b≠x:=fun b u q nm z=>by subst z;rw[q] at mu;exact nm mu
 refine⟨fun b u q n _ _=>k b u (hb b n) q,fun b u q n _ _=>⟨u.slots,k b u (hb b n) q⟩,fun b u q n _=>by rw[dX (hx b n)];exact n,fun b u q _=>?_,
  fun b xs q=>by rw[dX (hm b _ q fun z=>z)];exact q,fun b u xs q=>by rw[dX (hm b _ q fun z=>z)];exact q,fun b ps q=>⟨#[],by rw[dX (hm b _ q fun z=>z),q];simp⟩⟩
 by_cases hbe:b=e
 ·subst hbe;exact heo
 ·exact⟨u,k b u hbe q⟩
end
def nS(h:au)(H:Hp):List ζ:=(bM h.objs.size).filter fun a=>(H a).isSome
def rL(h:au)(H:Hp):au:=PySem.W.hideAll h (nS h H)
theorem VV(h:au)(H:Hp):(rL h H).objs.size=h.objs.size:=PySem.W.hideAll_size _ _
theorem VU{h:au}{H:Hp}{b:ζ}{o:aW}(e:h.get? b=some o)(n:H b=none):(rL h H).get? b=some o:=
 PySem.W.hideAll_get _ e fun hm=>by
  have q:(H b).isSome=true:=(jx.mp hm).2;rw[n] at q;simp at q
theorem VT{h:au}{H:Hp}{b:ζ}{o:aW}(e:(rL h H).get? b=some o):h.get? b=some o/\H b=none:=by
 have e':h.get? b=some o:=PySem.W.of_hideAll (nS h H) e;refine⟨e',?_⟩;cases q:H b with
 |none=>rfl
 |some x=>
  have hm:b∈nS h H:=jx.mpr ⟨de.mpr (aa e'),by simp[q]⟩;have z:(rL h H).get? b=none:=PySem.W.hideAll_none (nS h H) hm;rw[z] at e;cases e
end L2
namespace L2
open PySem PySem.Spec PyProof.Rows
structure Mod(K:θ)(mg:ν->Option δ)(base:au):Prop where
 tz:K.In base
 glob:base.Ns aX mg
 blt:∃mb,base.Ns builtinsNs mb/\∀x:ν,x≠"__name__"->mb x=gL x
 nolimit:base.NoLimit
structure Cx where
 prog:Ω
 w:aw
 K:θ
 mg:ν->Option δ
 base:au
 A:aF
 N:List ν
 s₀:η
 H₀:Hp
 env:cW
 outer:List cW
 stack:List cW
 ex:List ζ
 fn:ν->Bool
 calm:Bool
 pn:List (ζ×aW)
 xe:δ->η->Prop
def fK(l:List cW):List ζ:=l.filterMap (·.frame)
abbrev Cx.fs(X:Cx):List ζ:=fK X.outer
def La(sc:fh)(x:ν):Prop:=sc.names.lookup x=some .local∨sc.names.lookup x=some .cell∨sc.names.lookup x=some .free
def Loc(sc:fh)(x:ν):Prop:=sc.names.lookup x=some .local∨sc.names.lookup x=some .cell
def Look(env:cW)(h:au)(m:ν->Option δ)(x:ν)(u:δ):Prop:=
 (env.kindOf x=some .local/\m x=some u)∨((env.kindOf x=some .cell∨env.kindOf x=some .free)/\∃c,env.cells.lookup x=some c/\h.IsCell c (some u))
structure Cx.Ok(X:Cx):Prop where
 mod:Mod X.K X.mg X.base
 kind:X.env.scope.kind=.function
 glob:X.env.globals=aX
 blt:X.env.builtins=builtinsNs
 above:X.s₀.heap.objs.size≤X.env.locals
 inj:∀x y c,X.env.cells.lookup x=some c->X.env.cells.lookup y=some c->x=y
 has:∀x,(X.env.kindOf x=some .cell∨X.env.kindOf x=some .free)->∃c,X.env.cells.lookup x=some c
 zB:∀x c,X.fn x=true->X.env.cells.lookup x=some c->X.s₀.heap.objs.size≤c
 hd:X.calm=true->X.A.handled=none
 frames:X.A.frames=some X.stack
 BX:X.stack=X.outer∨(X.stack=X.env::X.outer/\X.env.frame=some X.env.locals)
 Cj:∀b∈X.ex,b≠X.env.locals/\∀x c,X.env.cells.lookup x=some c->c≠b
 bs:∀b o,X.base.get? b=some o->X.s₀.heap.get? b=some o/\X.H₀ b=none
 sj:X.base.objs.size≤X.s₀.heap.objs.size
 wG:∀b o,X.base.get? b=some o->b∉X.ex
 wO:∀b∈X.ex,b∉X.fs
 lN:X.s₀.heap.FunFrames X.base X.outer
 wY:∀b∈X.fs,X.H₀ b=none
structure Inv(X:Cx)(pins:List (ζ×aW))(σ:List (Option V))(H:Hp)(s:η):Prop where
 ok:X.Ok
 os:s.os=X.s₀.os
 bare:kg s.gens
 base:Un X.fs X.ex X.H₀ H X.s₀.heap s.heap
 loc:∃m,s.heap.Ns X.env.locals m/\∀(i:Nat) (x:ν) (v:V),X.N[i]?=some x->σ[i]?=some (some v)->La X.env.scope x->∃u,RelV v u/\Look X.env s.heap m x u
 cell:∀x c,X.env.cells.lookup x=some c->∃v,s.heap.IsCell c v
 free:H X.env.locals=none
 j0:∀x c,X.env.cells.lookup x=some c->H c=none
 pin:∀p∈X.pn++pins,s.heap.get? p.1=some p.2/\H p.1=none/\p.1≠X.env.locals/\p.1∉X.fs/\∀v,p.2.data≠.cell v
 bI:dM X.prog X.w H s.heap
 len:σ.length=X.N.length
section
variable {X:Cx} {pins:List (ζ×aW)} {σ:List (Option V)} {H H':Hp} {s:η} {h':au}
theorem Cx.Ok.Wv(ok:X.Ok){b:ζ}{o:aW}(e:X.base.get? b=some o):b∉X.fs:=fun hb=>by
 have:=(ok.lN.mem hb).1;rw[e] at this;cases this
theorem Inv.bs(I:Inv X pins σ H s):∀b o,X.base.get? b=some o->s.heap.get? b=some o/\H b=none:=fun b o e=>
 ⟨I.base.keep b o (I.ok.bs b o e).1 (I.ok.bs b o e).2 (I.ok.Wv e) (I.ok.wG b o e),I.base.free b o (I.ok.bs b o e).1 (I.ok.bs b o e).2 (I.ok.wG b o e)⟩
theorem Inv.bk(I:Inv X pins σ H s):∀b o,X.base.get? b=some o->s.heap.get? b=some o:=fun b o e=>(I.bs b o e).1
theorem Inv.mod(I:Inv X pins σ H s):Mod X.K X.mg X.base:=I.ok.mod
theorem Inv.gI(I:Inv X pins σ H s):X.K.In s.heap:=I.ok.mod.tz.keeps I.bk
theorem Inv.nolimit(I:Inv X pins σ H s):s.heap.NoLimit:=I.ok.mod.nolimit.keeps I.bk
theorem Inv.lt(I:Inv X pins σ H s):X.env.locals<s.heap.objs.size:=let ⟨_,hn,_⟩:=I.loc;hn.lt
theorem Inv.sz(I:Inv X pins σ H s):X.s₀.heap.objs.size≤s.heap.objs.size:=bB I.ok.above (pC I.lt)
theorem Inv.Wu(I:Inv X pins σ H s){a:ζ}(h:s.heap.objs.size≤a):a∉X.fs:=fun hb=>by
 obtain⟨_,o,ho,_⟩:=I.ok.lN.mem hb;exact absurd (bL (aa ho) (bB I.sz h)) (cw _)
theorem Inv.w6(I:Inv X pins σ H s):∀x c,X.env.cells.lookup x=some c->c≠X.env.locals:=fun x c e z=>by
 obtain⟨v,o,ho,hd⟩:=I.cell x c e;obtain⟨m,⟨o',es,ep,ho',hd',_⟩,_⟩:=I.loc;rw[z,ho'] at ho;cases ho;rw[hd'] at hd;cases hd
theorem Inv.lN(I:Inv X pins σ H s):s.heap.FunFrames X.base X.outer:=by
 have all:∀(l:List cW),(∀b∈fK l,b∈X.fs)->X.s₀.heap.FunFrames X.base l->s.heap.FunFrames X.base l:=by
  intro l
  induction l with
  |nil=>intro _ _;trivial
  |cons env r ih=>
   intro hs hl;obtain⟨hk,⟨L,o,hf,hn,ho,hd⟩,hr⟩:=hl;have hL:L∈X.fs:=hs L (by unfold fK;rw[fD,hf];exact aj);obtain⟨sl,e⟩:=I.base.slot L o ho (I.ok.wY L hL) hL fun z=>I.ok.wO L z hL;exact⟨hk,⟨L,_,hf,hn,e,hd⟩,ih (fun b hb=>hs b (by unfold fK;rw[fD,hf];exact ai _ hb)) hr⟩
 exact all X.outer (fun _ hb=>hb) I.ok.lN
theorem Inv.stack(I:Inv X pins σ H s):s.heap.FunFrames X.base X.stack:=by
 rcases I.ok.BX with e|⟨e,hf⟩
 ·rw[e];exact I.lN
 ·rw[e];obtain⟨m,hn,_⟩:=I.loc;refine .cons (by rw[I.ok.kind];decide) hf hn ?_ I.lN;exact fk (bB I.ok.sj I.ok.above)
theorem Inv.sR(I:Inv X pins σ H s):∀b∈fK X.stack,b∈X.env.locals::X.fs:=fun b hb=>by
 rcases I.ok.BX with e|⟨e,hf⟩
 ·rw[e] at hb;exact ai _ hb
 ·rw[e] at hb;unfold fK at hb;rw[fD,hf] at hb;exact hb
theorem Inv.gS(I:Inv X pins σ H s):∀b∈fK X.stack,H b=none:=fun b hb=>by
 rcases ak.mp (I.sR b hb) with e|hb
 ·rw[e];exact I.free
 ·obtain⟨_,o,ho,_⟩:=I.ok.lN.mem hb;exact I.base.free b o ho (I.ok.wY b hb) fun z=>I.ok.wO b z hb
theorem Inv.step{g':Array GenState}{t':Nat}{d':Drawn}{ch:List ζ}(I:Inv X pins σ H s)
  (uG:∀b∈ch,(b∈X.ex∨X.s₀.heap.objs.size≤b)/\b≠X.env.locals/\(∀x c,X.env.cells.lookup x=some c->c≠b)/\∀p∈X.pn++pins,p.1≠b)
  (keep:∀b o,b≠X.env.locals->b∉X.fs->b∉ch->s.heap.get? b=some o->H b=none->h'.get? b=some o)
  (slot:∀b o,b≠X.env.locals->b∈X.fs->b∉ch->s.heap.get? b=some o->H b=none->∃sl,h'.get? b=some { o with slots:=sl }) (free:∀b o,b∉ch->s.heap.get? b=some o->H b=none->H' b=none)
  (there:∀b o,b∉ch->s.heap.get? b=some o->∃o',h'.get? b=some o')
  (ij:∀b xs,H b=some (.tup xs)->H' b=some (.tup xs)) (ip:∀b o u,H b=some (.cP o u)->H' b=some (.cP o u)) (nq:∀b ps,H b=some (.vt ps)->∃more,H' b=some (.vt (ps++more)))
  (ns:∀m,s.heap.Ns X.env.locals m->h'.Ns X.env.locals m) (bI:dM X.prog X.w H' h') (hg:kg g'):
  Inv X pins σ H' { s with heap:=h',gens:=g',drawn:=d',toks:=t' }:=by
 have neL:∀b o,X.s₀.heap.get? b=some o->b≠X.env.locals:=fun b o e=>aZ (bL (aa e) I.ok.above);have neC:∀b o,X.s₀.heap.get? b=some o->b∉X.ex->b∉ch:=fun b o e hx hb=>by
  rcases (uG b hb).1 with z|z
  ·exact hx z
  ·exact absurd (bL (aa e) z) (cw _)
 have cellK:∀x c,X.env.cells.lookup x=some c->∀v,s.heap.IsCell c v->h'.IsCell c v:=fun x c e v ⟨o,ho,hd⟩=>by
  have nch:c∉ch:=fun z=>(uG c z).2.2.1 x c e rfl;by_cases hc:c∈X.fs
  ·obtain⟨sl,q⟩:=slot c o (I.w6 x c e) hc nch ho (I.j0 x c e);exact⟨_,q,hd⟩
  ·exact⟨o,keep c o (I.w6 x c e) hc nch ho (I.j0 x c e),hd⟩
 refine⟨I.ok,I.os,hg,⟨fun b o e n hb hx=>?_,fun b o e n hb hx=>?_,fun b o e n hx=>?_,fun b o e hx=>?_,fun b xs e=>ij b xs (I.base.ij b xs e),fun b o xs e=>ip b o xs (I.base.ip b o xs e),fun b ps e=>?_⟩,?_,fun x c e=>?_,?_,fun x c e=>?_,fun p hp=>?_,bI,I.len⟩
 ·exact keep b o (neL b o e) hb (neC b o e hx) (I.base.keep b o e n hb hx) (I.base.free b o e n hx)
 ·obtain⟨sl,e1⟩:=I.base.slot b o e n hb hx;obtain⟨sl',e2⟩:=slot b _ (neL b o e) hb (neC b o e hx) e1 (I.base.free b o e n hx);exact⟨sl',e2⟩
 ·obtain⟨o',e1⟩:=I.base.there b o e hx;exact free b o' (neC b o e hx) e1 (I.base.free b o e n hx)
 ·obtain⟨o',e1⟩:=I.base.there b o e hx;exact there b o' (neC b o e hx) e1
 ·obtain⟨m1,e1⟩:=I.base.nq b ps e;obtain⟨m2,e2⟩:=nq b _ e1;exact⟨m1++m2,by rw[e2,Array.append_assoc]⟩
 ·obtain⟨m,hn,hl⟩:=I.loc;refine⟨m,ns m hn,fun i x v e1 e2 e3=>?_⟩;obtain⟨u,r,l⟩:=hl i x v e1 e2 e3;refine⟨u,r,?_⟩;rcases l with l|⟨k,c,e,z⟩
  ·exact .inl l
  ·exact .inr ⟨k,c,e,cellK x c e _ z⟩
 ·obtain⟨v,z⟩:=I.cell x c e;exact⟨v,cellK x c e v z⟩
 ·obtain⟨m,⟨o,_,_,ho,_⟩,_⟩:=I.loc;exact free _ o (fun z=>(uG _ z).2.1 rfl) ho I.free
 ·obtain⟨v,o,ho,hd⟩:=I.cell x c e;exact free c o (fun z=>(uG c z).2.2.1 x c e rfl) ho (I.j0 x c e)
 ·obtain⟨e,n,ne,nf,d⟩:=I.pin p hp;have nch:p.1∉ch:=fun z=>(uG p.1 z).2.2.2 p hp rfl;exact⟨keep p.1 p.2 ne nf nch e n,free p.1 p.2 nch e n,ne,nf,d⟩
theorem Inv.un{t':Nat}(I:Inv X pins σ H s)(u:Un X.fs [] H H' s.heap h')(bI:dM X.prog X.w H' h'):Inv X pins σ H' { s with heap:=h',toks:=t' }:=by
 obtain⟨m,⟨o,es,ep,ho,r⟩,_⟩:=id I.loc;obtain⟨sl,hL⟩:=u.any ho I.free (by simp);exact I.step (g':=s.gens) (d':=s.drawn) (ch:=[]) (fun _ z=>nomatch z) (fun b o _ hb _ e n=>u.keep b o e n hb (by simp)) (fun b o _ hb _ e n=>u.slot b o e n hb (by simp)) (fun b o _ e n=>u.free b o e n (by simp)) (fun b o _ e=>u.there b o e (by simp)) u.ij u.ip u.nq (fun m' hm=>by
  obtain⟨o',es',ep',ho',r'⟩:=hm;rw[ho] at ho';cases ho';exact⟨_,es',ep',hL,r'⟩) bI I.bare
theorem Inv.call{g':Array GenState}{t':Nat}{d':Drawn}{ch:List ζ}(I:Inv X pins σ H s)(u:Un (fK X.stack) ch H H' s.heap h')(bI:dM X.prog X.w H' h')(hg:kg g')
  (uG:∀b∈ch,(b∈X.ex∨X.s₀.heap.objs.size≤b)/\b≠X.env.locals/\(∀x c,X.env.cells.lookup x=some c->c≠b)/\∀p∈X.pn++pins,p.1≠b):
  Inv X pins σ H' { s with heap:=h',gens:=g',drawn:=d',toks:=t' }:=by
 obtain⟨m,⟨o,es,ep,ho,r⟩,_⟩:=id I.loc;obtain⟨sl,hL⟩:=u.any ho I.free fun z=>(uG _ z).2.1 rfl;exact I.step (ch:=ch) uG (fun b o hL hb hc e n=>u.keep b o e n (fun z=>(ak.mp (I.sR b z)).elim hL hb) hc) (fun b o _ _ hc e n=>u.any e n hc) (fun b o hc e n=>u.free b o e n hc) (fun b o hc e=>u.there b o e hc) u.ij u.ip u.nq (fun m' hm=>by
  obtain⟨o',es',ep',ho',r'⟩:=hm;rw[ho] at ho';cases ho';exact⟨_,es',ep',hL,r'⟩) bI hg
theorem Inv.turned{t':Nat}{it:ζ}(I:Inv X pins σ H s)(k:∀b o,b≠it->s.heap.get? b=some o->h'.get? b=some o)(hn:H it=none)(hL:it≠X.env.locals)
  (h1:it∈X.ex∨X.s₀.heap.objs.size≤it) (h2:∀x c,X.env.cells.lookup x=some c->c≠it) (h3:∀p∈X.pn++pins,p.1≠it):Inv X pins σ H { s with heap:=h',toks:=t' }:=by
 have nit:∀b u,H b=some u->b≠it:=fun b u e z=>by rw[z,hn] at e;cases e
 refine I.step (g':=s.gens) (d':=s.drawn) (ch:=[it]) (fun b hb=>?_) (fun b o _ _ hc e _=>k b o (fun z=>hc (by simp[z])) e) (fun b o _ _ hc e _=>⟨o.slots,k b o (fun z=>hc (by simp[z])) e⟩) (fun _ _ _ _ n=>n)
  (fun b o hc e=>⟨o,k b o (fun z=>hc (by simp[z])) e⟩) (fun _ _ e=>e) (fun _ _ _ e=>e) (fun b ps e=>⟨#[],by rw[e];simp⟩) (fun m hm=>?_) (fun b u e=>?_) I.bare
 ·have e:b=it:=by simpa using hb
  subst e;exact⟨h1,hL,h2,h3⟩
 ·obtain⟨o,es,ep,ho,r⟩:=hm;exact⟨o,es,ep,k _ o (eV hL) ho,r⟩
 ·refine (I.bI b u e).lE (fun c v hc q=>k c v ?_ q) (fun _ q=>q) fun _ _ q=>q;rcases hc with z|z
  ·rw[z];exact nit b u e
  ·exact nit c _ z
theorem Inv.tok(I:Inv X pins σ H s)(t:Nat):Inv X pins σ H { s with toks:=t }:=I.un (h':=s.heap) (t':=t) Un.refl I.bI
theorem Inv.kept{t':Nat}(I:Inv X pins σ H s)(k:∀b u,s.heap.get? b=some u->h'.get? b=some u):Inv X pins σ H { s with heap:=h',toks:=t' }:=I.un (Un.kept k) (I.bI.kept k)
theorem Inv.laid{a:ζ}{o:HO}{t':Nat}(I:Inv X pins σ H s)(k:∀b u,s.heap.get? b=some u->h'.get? b=some u)(hp:s.heap.objs.size≤a)(new:b8 X.prog X.w (upd H a o) h' a o):
  Inv X pins σ (upd H a o) { s with heap:=h',toks:=t' }:=I.un (Un.laid k hp (I.bI.fresh hp)) (I.bI.laid k hp new)
theorem Inv.write{x e:ζ}{o:HO}{t':Nat}(I:Inv X pins σ H s)(mu:Fo (H x))(he:e=x∨H e=some (.own x))(k:∀b u,b≠e->s.heap.get? b=some u->h'.get? b=some u)(heo:∃u,h'.get? e=some u)
  (new:b8 X.prog X.w (upd H x o) h' x o):Inv X pins σ (upd H x o) { s with heap:=h',toks:=t' }:=I.un (Un.write mu he k heo) (I.bI.write mu he k heo new)
theorem Inv.zp{pins':List (ζ×aW)}(I:Inv X pins σ H s)(h:∀p∈pins',s.heap.get? p.1=some p.2/\H p.1=none/\p.1≠X.env.locals/\p.1∉X.fs/\∀v,p.2.data≠.cell v):Inv X pins' σ H s:=
 ⟨I.ok,I.os,I.bare,I.base,I.loc,I.cell,I.free,I.j0,fun p hp=>(ag.mp hp).elim (fun z=>I.pin p (bf _ z)) (h p),I.bI,I.len⟩
theorem Km{N:List ν}(hN:N.Nodup){i j:Nat}{x:ν}(a:N[i]?=some x)(b:N[j]?=some x):i=j:=by
 obtain⟨h1,e1⟩:=ax.mp a;obtain⟨h2,e2⟩:=ax.mp b;exact (List.getElem_inj hN).mp (e1.trans e2.symm)
theorem DV{M:Model}{A:aF}{E:δ->η->Prop}{i:Nat}{x:ν}{v:V}{u:δ}{Q:Unit->η->Prop}(I:Inv X pins σ H s)(hN:X.N.Nodup)(hi:X.N[i]?=some x)(hx:Loc X.env.scope x)(r:RelV v u)
  (h:∀s',Inv X pins (σ.set i (some v)) H s'->(∃a,fW a s.heap s'.heap/\(a=X.env.locals∨X.env.cells.lookup x=some a))->Q () s') (hf:X.fn x=true∨X.env.scope.names.lookup x=some .local:=by first|exact .inl rfl|exact .inr rfl|assumption):ρ M A (storeName X.env x u) Q E s:=by
 obtain⟨m,hn,hl⟩:=id I.loc;have hcls:(X.env.scope.kind==.class||(X.env.scope.kind==.module&&X.env.locals != X.env.globals))=false:=by rw[I.ok.kind];rfl
 have hiσ:i<σ.length:=by rw[I.len];exact (ax.mp hi).1
 have w6:=I.w6;have tracked:∀{a:ζ} {h':au},(∃o,s.heap.get? a=some o/\H a=none)->fW a s.heap h'->dM X.prog X.w H h':=fun {a h'} ha hs b ob e=>by
  obtain⟨_,_,hfree⟩:=ha;refine (I.bI b ob e).lE (fun c w' hc q=>(hs.2 c ?_).trans q) (fun _ q=>q) fun _ _ q=>q;rintro rfl;rcases hc with rfl|hc
  ·rw[hfree] at e;cases e
  ·rw[hfree] at hc;cases hc
 rcases hx with hk|hk
 ·refine wpAny_storeName_local hk hn (fun h' hn' hs=>?_) hcls;obtain⟨oL,_,_,hoL,_⟩:=id hn;refine h _ ⟨I.ok,I.os,I.bare,⟨fun b o e n hb hx=>?_,fun b o e n hb hx=>?_,I.base.free,fun b o e hx=>?_,I.base.ij,I.base.ip,I.base.nq⟩,⟨_,hn',fun j y v' e1 e2 e3=>?_⟩,fun y c e=>?_,I.free,I.j0,fun p hp=>?_,tracked ⟨oL,hoL,I.free⟩ hs,by simpa using I.len⟩ ⟨_,hs,.inl rfl⟩
  ·exact (hs.2 b (aZ (bL (aa e) I.ok.above))).trans (I.base.keep b o e n hb hx)
  ·obtain⟨sl,e1⟩:=I.base.slot b o e n hb hx;exact⟨sl,(hs.2 b (aZ (bL (aa e) I.ok.above))).trans e1⟩
  ·obtain⟨o',e1⟩:=I.base.there b o e hx;exact⟨o',(hs.2 b (aZ (bL (aa e) I.ok.above))).trans e1⟩
  ·by_cases hj:j=i
   ·subst hj;rw[hi] at e1;cases e1;rw[kK hiσ] at e2;cases e2;exact⟨u,r,.inl ⟨hk,by simp⟩⟩
   ·rw[ma (eV hj)] at e2;obtain⟨u',r',q⟩:=hl j y v' e1 e2 e3;refine⟨u',r',?_⟩;rcases q with⟨k,e⟩|⟨k,c,e,z⟩
    ·refine .inl ⟨k,?_⟩;have:y≠x:=fun e=>hj (Km hN e1 (e▸hi));simp[this,e]
    ·exact .inr ⟨k,c,e,z.sameBut hs (w6 y c e)⟩
  ·obtain⟨w',z⟩:=I.cell y c e;exact⟨w',z.sameBut hs (w6 y c e)⟩
  ·obtain⟨e,n,ne,nf,d⟩:=I.pin p hp;exact⟨(hs.2 p.1 ne).trans e,n,ne,nf,d⟩
 ·have hfn:X.fn x=true:=by
   rcases hf with z|z
   ·exact z
   ·rw[z] at hk;cases hk
  obtain⟨c,hc⟩:=I.ok.has x (.inl hk);obtain⟨w',z⟩:=I.cell x c hc;refine wpAny_storeName_cell I.ok.kind hk hc z (fun h' hc' hs=>?_);obtain⟨oc,hoc,hocd⟩:=id z;refine h { s with heap:=h' } ⟨I.ok,I.os,I.bare,⟨fun b o e n hb hx=>?_,fun b o e n hb hx=>?_,I.base.free,fun b o e hx=>?_,I.base.ij,I.base.ip,I.base.nq⟩,⟨m,hn.sameBut hs (eV (w6 x c hc)),fun j y v' e1 e2 e3=>?_⟩,fun y c' e=>?_,I.free,I.j0,fun p hp=>?_,tracked ⟨oc,hoc,I.j0 x c hc⟩ hs,by simpa using I.len⟩ ⟨c,hs,.inr hc⟩
  ·exact (hs.2 b (aZ (bL (aa e) (I.ok.zB x c hfn hc)))).trans (I.base.keep b o e n hb hx)
  ·obtain⟨sl,e1⟩:=I.base.slot b o e n hb hx;exact⟨sl,(hs.2 b (aZ (bL (aa e) (I.ok.zB x c hfn hc)))).trans e1⟩
  ·obtain⟨o',e1⟩:=I.base.there b o e hx;exact⟨o',(hs.2 b (aZ (bL (aa e) (I.ok.zB x c hfn hc)))).trans e1⟩
  ·by_cases hj:j=i
   ·subst hj;rw[hi] at e1;cases e1;rw[kK hiσ] at e2;cases e2;exact⟨u,r,.inr ⟨.inl hk,c,hc,hc'⟩⟩
   ·rw[ma (eV hj)] at e2;obtain⟨u',r',q⟩:=hl j y v' e1 e2 e3;refine⟨u',r',?_⟩;rcases q with q|⟨k,c',e,z'⟩
    ·exact .inl q
    ·refine .inr ⟨k,c',e,z'.sameBut hs ?_⟩;rintro rfl;exact hj (Km hN e1 (I.ok.inj _ _ _ e hc▸hi))
  ·by_cases hcc:c'=c
   ·subst hcc;exact⟨_,hc'⟩
   ·obtain⟨w2,z2⟩:=I.cell y c' e;exact⟨w2,z2.sameBut hs hcc⟩
  ·obtain⟨e,n,ne,nf,d⟩:=I.pin p hp;refine⟨(hs.2 p.1 ?_).trans e,n,ne,nf,d⟩;intro q;rw[q,hoc] at e;have q':oc=p.2:=aD e;exact d w' (by rw[←q'];exact hocd)
theorem Kl{M:Model}{A:aF}{E:δ->η->Prop}{i:Nat}{x:ν}{v:V}{u:δ}{Q:Unit->η->Prop}(I:Inv X pins σ H s)(hN:X.N.Nodup)(hi:X.N[i]?=some x)(hx:Loc X.env.scope x)(r:RelV v u)
  (h:∀s',Inv X pins (σ.set i (some v)) H s'->Q () s') (hf:X.fn x=true∨X.env.scope.names.lookup x=some .local:=by first|exact .inl rfl|exact .inr rfl|assumption):ρ M A (storeName X.env x u) Q E s:=
 DV I hN hi hx r (fun s' I' _=>h s' I') hf
theorem Inv.BK{s':η}{ch:List ζ}(I:Inv X pins σ H s)(ho:s'.os=s.os)(u:Un (fK X.stack) ch H H' s.heap s'.heap)(bI:dM X.prog X.w H' s'.heap)(hg:kg s'.gens)
  (uG:∀b∈ch,(b∈X.ex∨X.s₀.heap.objs.size≤b)/\b≠X.env.locals/\(∀x c,X.env.cells.lookup x=some c->c≠b)/\∀p∈X.pn++pins,p.1≠b):Inv X pins σ H' s':=by
 obtain⟨h',g',d',t',o'⟩:=s';have e:o'=s.os:=ho;subst e;exact I.call (g':=g') (t':=t') (d':=d') u bI hg uG
end
abbrev XK:=δ->Option ζ->Hp->Prop
abbrev St:=List (Option V)
abbrev VK:=V->Hp->Prop
abbrev TE:=St->Hp->VK->Prop
abbrev TT:=St->Hp->(Bool->Hp->Prop)->Prop
abbrev TA:=St->Hp->(List V->Hp->Prop)->Prop
structure Ends where
 nx:St->Hp->Prop
 rt:VK
 bk:St->Hp->Prop:=fun _ _=>False
 ct:St->Hp->Prop:=fun _ _=>False
abbrev TS:=Ends->St->Hp->Prop
def EP(X:Cx)(pins:List (ζ×aW))(σ:St)(Q:VK)(u:δ)(s':η):Prop:=∃v H',Inv X pins σ H' s'/\RelV v u/\Q v H'
def TP(X:Cx)(pins:List (ζ×aW))(σ:St)(Q:Bool->Hp->Prop)(b:Bool)(s':η):Prop:=∃H',Inv X pins σ H' s'/\Q b H'
def AP(X:Cx)(pins:List (ζ×aW))(σ:St)(Q:List V->Hp->Prop)(us:List δ)(s':η):Prop:=∃vs H',Inv X pins σ H' s'/\bt vs us/\Q vs H'
def SP(X:Cx)(pins:List (ζ×aW))(D:Ends)(f:Flow)(s':η):Prop:=
 match f with
 |.next=>∃σ' H',Inv X pins σ' H' s'/\D.nx σ' H'
 |.brk=>∃σ' H',Inv X pins σ' H' s'/\D.bk σ' H'
 |.cont=>∃σ' H',Inv X pins σ' H' s'/\D.ct σ' H'
 |.ret u=>∃v σ' H',Inv X pins σ' H' s'/\RelV v u/\D.rt v H'
def PE(X:Cx)(e:υ)(t:TE):Prop:=
 ∀(pins:List (ζ×aW)) (s:η) (σ:St) (H:Hp) (Q:VK),Inv X pins σ H s->t σ H Q->ρ (model X.prog X.w) X.A (eval e X.env) (EP X pins σ Q) X.xe s
def PT(X:Cx)(e:υ)(t:TT):Prop:=
 ∀(pins:List (ζ×aW)) (s:η) (σ:St) (H:Hp) (Q:Bool->Hp->Prop),Inv X pins σ H s->t σ H Q->ρ (model X.prog X.w) X.A (isTrue e X.env (eval e X.env)) (TP X pins σ Q) X.xe s
def PW(X:Cx)(e:υ)(t:TT):Prop:=
 ∀(whole:kn δ) (pins:List (ζ×aW)) (s:η) (σ:St) (H:Hp) (Q:Bool->Hp->Prop),Inv X pins σ H s->t σ H Q->ρ (model X.prog X.w) X.A (isTrue e X.env whole) (TP X pins σ Q) X.xe s
theorem PW.pt{X:Cx}{e:υ}{t:TT}(h:PW X e t):PT X e t:=h _
def PA(X:Cx)(es:List υ)(t:TA):Prop:=
 ∀(pos:aV) (pins:List (ζ×aW)) (s:η) (σ:St) (H:Hp) (Q:List V->Hp->Prop),Inv X pins σ H s->t σ H Q->ρ (model X.prog X.w) X.A (spliced (backTo pos (bK es X.env))) (AP X pins σ Q) X.xe s
def PS(X:Cx)(st:aY)(t:TS):Prop:=
 ∀(pins:List (ζ×aW)) (s:η) (σ:St) (H:Hp) (D:Ends),Inv X pins σ H s->t D σ H->ρ (model X.prog X.w) X.A (exec st X.env) (SP X pins D) X.xe s
def mX(X:Cx)(st:List aY)(t:TS):Prop:=
 ∀(pins:List (ζ×aW)) (s:η) (σ:St) (H:Hp) (D:Ends),Inv X pins σ H s->t D σ H->ρ (model X.prog X.w) X.A (execs st X.env) (SP X pins D) X.xe s
theorem bS{α:Type}{t:kn α}{Q Q':α->η->Prop}{M:Model}{A:aF}{E:δ->η->Prop}{s:η}(h:ρ M A t Q E s)(hQ:∀a s,Q a s->Q' a s):ρ M A t Q' E s:=b9 h hQ fun _ _ x=>x
end L2
namespace L2
open PySem PySem.Spec PyProof.Rows
section
variable {X:Cx}
theorem bin{a b:υ}{ta tb:TE}(ha:PE X a ta)(hb:PE X b tb){pins:List (ζ×aW)}{s:η}{σ:St}{H:Hp}{R:V->V->Hp->Prop}(I:Inv X pins σ H s)(h:ta σ H fun x H1=>tb σ H1 fun y H2=>R x y H2)
  {α:Type} {Q:α->η->Prop} {f:δ->δ->kn α}
  (hf:∀v u s2 x y H2,Inv X pins σ H2 s2->RelV x v->RelV y u->R x y H2->ρ (model X.prog X.w) X.A (f v u) Q X.xe s2):
  ρ (model X.prog X.w) X.A (eval a X.env) (fun v s₁=>ρ (model X.prog X.w) X.A (eval b X.env) (fun u s₂=>ρ (model X.prog X.w) X.A (f v u) Q X.xe s₂) X.xe s₁) X.xe s:=by
 refine bS (ha pins s σ H _ I h) fun v s1 ⟨x,H1,I1,r1,q1⟩=>?_;refine bS (hb pins s1 σ H1 _ I1 q1) fun u s2 ⟨y,H2,I2,r2,q2⟩=>?_;exact hf v u s2 x y H2 I2 r1 r2 q2
def zH(i:Nat):TE:=fun σ H Q=>∃v,σ[i]?=some (some v)/\Q v H
def tC(v:V):TE:=fun _ H Q=>Q v H
theorem VS{i:Nat}{x:ν}{pos:aV}(hN:X.N[i]?=some x)(hv:La X.env.scope x)(hd:(x==("__debug__":ν))=false:=by decide)(iD:(x==("__classdict__":ν))=false:=by decide):PE X (.Name x pos) (zH i):=by
 intro pins s σ H Q I h;obtain⟨v,e,h⟩:=h;obtain⟨m,hn,hl⟩:=I.loc;obtain⟨u,r,l⟩:=hl i x v hN e hv;have fin:EP X pins σ Q u s:=⟨v,H,I,r,h⟩;rcases l with⟨hk,hm⟩|⟨hk,c,hc,hcell⟩
 ·exact oj (lV I.ok.kind hk hn hm fin) hd
 ·rcases hk with hk|hk
  ·exact oj (wpAny_loadName_cell I.ok.kind hk hc hcell fin) hd
  ·exact oj (wpAny_loadName_free I.ok.kind hk hc hcell fin iD) hd
theorem VR{i j pos}:PE X (.Constant (.int i) j pos) (tC (.int i)):=fun _ _ _ H _ I h=>wpAny_Constant_int ⟨.int i,H,I.tok _,⟨_,rfl⟩,h⟩
theorem VQ{b j pos}:PE X (.Constant (.bool b) j pos) (tC (.bl b)):=fun _ _ _ H _ I h=>Constant_bool ⟨.bl b,H,I,rfl,h⟩
theorem VE{j pos}:PE X (.Constant .none j pos) (tC .aO):=fun _ _ _ H _ I h=>Constant_none ⟨.aO,H,I,rfl,h⟩
theorem VD{x j pos}:PE X (.Constant (.str x) j pos) (tC (.str x)):=fun _ _ _ H _ I h=>Calls.Constant_str ⟨.str x,H,I.tok _,⟨_,rfl⟩,h⟩
def Gl(X:Cx)(x:ν):Prop:=X.env.kindOf x=some .globalImplicit
theorem rh{E:δ->η->Prop}{pins:List (ζ×aW)}{s:η}{σ:St}{H:Hp}{x:ν}{u:δ}{pos:aV}{Q:δ->η->Prop}(I:Inv X pins σ H s)(hg:Gl X x)(hm:X.mg x=some u)(h:Q u s)
  (hd:(x==("__debug__":ν))=false:=by decide):ρ (model X.prog X.w) X.A (eval (.Name x pos) X.env) Q E s:=
 nO I.ok.kind hg (Calls.loadGlobal_global (by rw[I.ok.glob];exact I.mod.glob.keeps I.bk) hm h) hd
theorem u9{E:δ->η->Prop}{pins:List (ζ×aW)}{s:η}{σ:St}{H:Hp}{x:ν}{u:δ}{pos:aV}{Q:δ->η->Prop}(I:Inv X pins σ H s)(hg:Gl X x)(hm:X.mg x=none)(hv:gL x=some u)(h:Q u s)
  (hn:x≠"__name__":=by decide) (hd:(x==("__debug__":ν))=false:=by decide):ρ (model X.prog X.w) X.A (eval (.Name x pos) X.env) Q E s:=by
 obtain⟨mb,h1,h2⟩:=I.mod.blt;exact nO I.ok.kind hg (Calls.loadGlobal_builtin (by rw[I.ok.glob];exact I.mod.glob.keeps I.bk) hm (by rw[I.ok.blt];exact h1.keeps I.bk) ((h2 x hn).trans hv) h) hd
theorem Kk{x:ν}{v:V}{u:δ}{pos:aV}(hg:Gl X x)(hm:X.mg x=some u)(r:RelV v u)(hd:(x==("__debug__":ν))=false:=by decide):PE X (.Name x pos) (tC v):=
 fun _ _ _ H _ I h=>rh I hg hm ⟨v,H,I,r,h⟩ hd
theorem Kj{x:ν}{v:V}{u:δ}{pos:aV}(hg:Gl X x)(hm:X.mg x=none)(hv:gL x=some u)(r:RelV v u)(hn:x≠"__name__":=by decide)(hd:(x==("__debug__":ν))=false:=by decide):PE X (.Name x pos) (tC v):=
 fun _ _ _ H _ I h=>u9 I hg hm hv ⟨v,H,I,r,h⟩ hn hd
variable {a b:υ} {ta tb:TE} {pos:aV}
def PC(X:Cx)(op:kf)(a b:υ)(t:TE):Prop:=
 ∀(pins:List (ζ×aW)) (s:η) (σ:St) (H:Hp) (Q:VK),Inv X pins σ H s->t σ H Q ->
  ρ (model X.prog X.w) X.A (eval a X.env) (fun v s₁=>ρ (model X.prog X.w) X.A (eval b X.env) (fun u s₂=>ρ (model X.prog X.w) X.A (compareOp op v u) (EP X pins σ Q) X.xe s₂) X.xe s₁) X.xe s
theorem Ki{op:kf}{t:TE}(h:PC X op a b t)(h1:behindInMarks op b=false:=by first|exact nobehind _ (by decide) (by decide)|rfl):PE X (.Compare a [op] [b] pos) t:=fun pins s σ H Q I hw=>wpAny_Compare1 (h pins s σ H Q I hw) h1
variable {tA tB':TT} {rest:List υ}
def Mz(t u:TT):TT:=fun σ H Q=>t σ H fun c H1=>if c=true then u σ H1 Q else Q false H1
def W7(t u:TT):TT:=fun σ H Q=>t σ H fun c H1=>if c=true then Q true H1 else u σ H1 Q
def Mu(t:TT):TT:=fun σ H Q=>t σ H fun c H1=>Q (!c) H1
theorem pw_and1(ha:PT X a tA):PW X (.BoolOp .And [a] pos) tA:=by
 intro wh pins s σ H Q I h;refine isTrue_and (bS (ha pins s σ H Q I h) fun c s1 e=>?_);cases c with
 |true=>exact isTrue_and_nil e
 |false=>exact e
theorem pw_or1(ha:PT X a tA):PW X (.BoolOp .Or [a] pos) tA:=by
 intro wh pins s σ H Q I h;refine isTrue_or (bS (ha pins s σ H Q I h) fun c s1 e=>?_);cases c with
 |false=>exact isTrue_or_nil e
 |true=>exact e
theorem pw_and(ha:PT X a tA)(hb:PW X (.BoolOp .And (b::rest) pos) tB'):PW X (.BoolOp .And (a::b::rest) pos) (Mz tA tB'):=by
 intro wh pins s σ H Q I h;refine isTrue_and (bS (ha pins s σ H _ I h) fun c s1 ⟨H1,I1,q1⟩=>?_);cases c with
 |true=>exact hb wh pins s1 σ H1 Q I1 q1
 |false=>exact⟨H1,I1,q1⟩
theorem pw_or(ha:PT X a tA)(hb:PW X (.BoolOp .Or (b::rest) pos) tB'):PW X (.BoolOp .Or (a::b::rest) pos) (W7 tA tB'):=by
 intro wh pins s σ H Q I h;refine isTrue_or (bS (ha pins s σ H _ I h) fun c s1 ⟨H1,I1,q1⟩=>?_);cases c with
 |true=>exact⟨H1,I1,q1⟩
 |false=>exact hb wh pins s1 σ H1 Q I1 q1
theorem VC(ha:PT X a tA):PT X (.UnaryOp .Not a pos) (Mu tA):=by
 intro pins s σ H Q I h;exact isTrue_not (ha pins s σ H (fun c H1=>Q (!c) H1) I h)
def LB(ta tb:TE):TE:=fun σ H Q=>ta σ H fun x H1=>∃c,x=.bl c/\if c=true then tb σ H1 Q else Q (.bl false) H1
def Ly(ta:TE):TE:=fun σ H Q=>ta σ H fun x H1=>∃c,x=.bl c/\Q (.bl (!c)) H1
theorem VB{op}{t:TE}(h:PE X a t):PE X (.BoolOp op [a] pos) t:=fun pins s σ H Q I hw=>BoolOp_one (h pins s σ H Q I hw)
theorem VA(ha:PE X a ta)(hb:PE X (.BoolOp .And (b::rest) pos) tb):PE X (.BoolOp .And (a::b::rest) pos) (LB ta tb):=by
 intro pins s σ H Q I h;refine BoolOp_and (bS (ha pins s σ H _ I h) fun v s1 ⟨x,H1,I1,r1,q1⟩=>?_);obtain⟨c,rfl,q1⟩:=q1;cases r1;refine fo ?_;cases c with
 |true=>exact hb pins s1 σ H1 Q I1 q1
 |false=>exact⟨.bl false,H1,I1,rfl,q1⟩
theorem Vz(ha:PE X a ta):PE X (.UnaryOp .Not a pos) (Ly ta):=by
 intro pins s σ H Q I h;refine UnaryOp_ (bS (ha pins s σ H _ I h) fun v s1 ⟨x,H1,I1,r1,q1⟩=>?_);obtain⟨c,rfl,q1⟩:=q1;cases r1;exact not_of (fo ⟨.bl (!c),H1,I1,rfl,q1⟩)
end
end L2
namespace L2
open PySem PySem.Spec PyProof.Rows
def gJ(K:θ)(H:Hp)(a:ζ)(xs:List V):Prop:=
 Rd H a (.lst xs) ∨
  ∃(o:aW) (its:Array δ) (n:Nat),K.lookup a=some o/\o.cls=.type "list"/\o.dict=none/\o.data=.seq its n/\its.size≤aC/\bt xs its.toList
def dh(K:θ)(H:Hp)(a:ζ)(xs:List V):Prop:=
 Rd H a (.tup xs) ∨
  ∃(o:aW) (its:Array δ) (n:Nat),K.lookup a=some o/\o.cls=.type "tuple"/\o.dict=none/\o.data=.seq its n/\its.size≤aC/\bt xs its.toList
def W1:δ->Option V
 |.none=>some .aO
 |.bool b=>some (.bl b)
 |.int i _=>some (.int i)
 |.str x _=>some (.str x)
 |.bytes b _=>some (.Cn b)
 |.float b _=>some (.K3 b)
 |.ref a=>some (.ref a)
 |.type n=>some (.ty n)
 |_=>none
theorem RelV.abs{x:V}{u:δ}(r:RelV x u):W1 u=some x:=by
 cases x with
 |aO=>cases r;rfl
 |bl _=>cases r;rfl
 |int _=>obtain⟨t,rfl⟩:=r;rfl
 |str _=>obtain⟨t,rfl⟩:=r;rfl
 |Cn _=>obtain⟨t,rfl⟩:=r;rfl
 |K3 _=>obtain⟨t,rfl⟩:=r;rfl
 |ref _=>cases r;rfl
 |ty _=>cases r;rfl
theorem RelV.inj{x y:V}{u:δ}(r:RelV x u)(q:RelV y u):x=y:=aD (r.abs.symm.trans q.abs)
theorem bt.inj:∀{xs ys:List V} {us:List δ},bt xs us->bt ys us->xs=ys
 |_,_,_,.nil,.nil=>rfl
 |_,_,_,.cons r t,.cons r' t'=>by rw[r.inj r',bt.inj t t']
section
variable {X:Cx} {pins:List (ζ×aW)} {σ:St} {H:Hp} {s:η} {a:ζ} {xs ys:List V}
theorem gJ.of{K:θ}(h:H a=some (.lst xs)):gJ K H a xs:=.inl (.inl h)
theorem dh.of{K:θ}(h:H a=some (.tup xs)):dh K H a xs:=.inl (.inl h)
theorem Inv.list(I:Inv X pins σ H s)(h:gJ X.K H a xs):∃its:List δ,bt xs its/\PlainL s.heap a its.toArray/\xs.length≤aC:=by
 rcases h with h|⟨o,its,n,hk,hc,hd,hs,hz,r⟩
 ·obtain⟨z,its,n,r,e⟩:=h.ok I.bI;exact⟨its,r,⟨_,n,e,rfl,rfl,rfl⟩,z⟩
 ·refine⟨its.toList,r,⟨o,n,I.gI a o hk,hc,hd,by simpa using hs⟩,?_⟩;have e:=r.length;simp only[aN] at e;lia
theorem Inv.tuple(I:Inv X pins σ H s)(h:dh X.K H a xs):∃its:List δ,bt xs its/\oo s.heap a its.toArray/\xs.length≤aC:=by
 rcases h with h|⟨o,its,n,hk,hc,_,hs,hz,r⟩
 ·obtain⟨z,its,r,p⟩:=h.ok I.bI;exact⟨its,r,p.tup,z⟩
 ·refine⟨its.toList,r,⟨o,I.gI a o hk,hc,n,by simpa using hs⟩,?_⟩;have e:=r.length;simp only[aN] at e;lia
theorem Inv.Ee(I:Inv X pins σ H s)(h:gJ X.K H a xs)(h':gJ X.K H a ys):xs=ys:=by
 obtain⟨its,r,⟨o,n,e,_,_,d⟩,_⟩:=I.list h;obtain⟨its',r',⟨o',n',e',_,_,d'⟩,_⟩:=I.list h';rw[e] at e';cases e';rw[d] at d';injection d' with d1 _
 have:its=its':=by simpa using congrArg pJ d1
 subst this;exact r.inj r'
theorem Inv.BU(I:Inv X pins σ H s)(h:dh X.K H a xs)(h':dh X.K H a ys):xs=ys:=by
 obtain⟨its,r,⟨o,e,_,n,d⟩,_⟩:=I.tuple h;obtain⟨its',r',⟨o',e',_,n',d'⟩,_⟩:=I.tuple h';rw[e] at e';cases e';rw[d] at d';injection d' with d1 _
 have:its=its':=by simpa using congrArg pJ d1
 subst this;exact r.inj r'
end
abbrev Cx.nk(X:Cx)(E:δ->η->Prop):Cx:={ X with xe:=E }
abbrev Cx.lj(X:Cx):Cx:=X.nk fun _ _=>False
theorem Cx.Ok.nk{X:Cx}(ok:X.Ok)(E:δ->η->Prop):(X.nk E).Ok:=
 ⟨ok.mod,ok.kind,ok.glob,ok.blt,ok.above,ok.inj,ok.has,ok.zB,ok.hd,ok.frames,ok.BX,ok.Cj,ok.bs,ok.sj,ok.wG,ok.wO,ok.lN,ok.wY⟩
theorem Cx.Ok.jG{X:Cx}{E:δ->η->Prop}(ok:(X.nk E).Ok):X.Ok:=
 ⟨ok.mod,ok.kind,ok.glob,ok.blt,ok.above,ok.inj,ok.has,ok.zB,ok.hd,ok.frames,ok.BX,ok.Cj,ok.bs,ok.sj,ok.wG,ok.wO,ok.lN,ok.wY⟩
section
variable {X:Cx} {pins:List (ζ×aW)} {σ:St} {H:Hp} {s:η} {E:δ->η->Prop}
theorem Inv.nk(I:Inv X pins σ H s)(E:δ->η->Prop):Inv (X.nk E) pins σ H s:=⟨I.ok.nk E,I.os,I.bare,I.base,I.loc,I.cell,I.free,I.j0,I.pin,I.bI,I.len⟩
theorem Inv.jG(I:Inv (X.nk E) pins σ H s):Inv X pins σ H s:=⟨I.ok.jG,I.os,I.bare,I.base,I.loc,I.cell,I.free,I.j0,I.pin,I.bI,I.len⟩
theorem SP.jG{D:Ends}{f:Flow}{s':η}(h:SP (X.nk E) pins D f s'):SP X pins D f s':=by
 cases f with
 |next=>obtain⟨σ',H',I,q⟩:=h;exact⟨σ',H',I.jG,q⟩
 |brk=>obtain⟨σ',H',I,q⟩:=h;exact⟨σ',H',I.jG,q⟩
 |cont=>obtain⟨σ',H',I,q⟩:=h;exact⟨σ',H',I.jG,q⟩
 |ret u=>obtain⟨v,σ',H',I,r,q⟩:=h;exact⟨v,σ',H',I.jG,r,q⟩
theorem mX.lj{st:List aY}{t:TS}(h:mX X.lj st t):mX X st t:=fun pins s σ H D I hw=>
 b9 (h pins s σ H D (I.nk _) hw) (fun _ _ q=>q.jG) fun _ _ z=>bU z
end
section
variable {X:Cx} {st:aY} {rest:List aY} {t u:TS} {e:υ} {te:TE} {pos:aV}
def Lz:TS:=fun D σ H=>D.nx σ H
def Ms(t u:TS):TS:=fun D σ H=>t { D with nx:=u D } σ H
theorem Vy:mX X [] Lz:=fun _ _ σ H _ I h=>gW ⟨σ,H,I,h⟩
theorem Vx(h1:PS X st t)(h2:mX X rest u):mX X (st::rest) (Ms t u):=by
 intro pins s σ H D I h;refine iO (bS (h1 pins s σ H { D with nx:=u D } I h) fun f s1 q=>?_);cases f with
 |next=>
  obtain⟨σ',H',I',q⟩:=q;exact h2 pins s1 σ' H' D I' q
 |ret v=>exact q
 |brk=>exact q
 |cont=>exact q
theorem Vw(h1:PS X st t):mX X [st] t:=by
 intro pins s σ H D I h;refine iO (bS (h1 pins s σ H D I h) fun f s1 q=>?_);cases f with
 |next=>exact gW q
 |ret v=>exact q
 |brk=>exact q
 |cont=>exact q
theorem Inv.quiet{pins:List (ζ×aW)}{σ:St}{H:Hp}{s:η}(I:Inv X pins σ H s):interactive X.env=false:=by simp[interactive,I.ok.kind]
def LA(te:TE):TS:=fun D σ H=>te σ H fun _ H1=>D.nx σ H1
theorem Vv(he:PE X e te)(hs:swapsWith e none pos.line X.env=pure false:=by rfl):PS X (.Expr e pos) (LA te):=by
 intro pins s σ H D I h;exact wpAny_Expr_any (bS (he pins s σ H _ I h) fun v s1 ⟨x,H1,I1,r1,q1⟩=>⟨σ,H1,I1,q1⟩) I.quiet hs
def Mt(te:TE):TS:=fun D σ H=>te σ H D.rt
theorem Vu(he:PE X e te):PS X (.Return (some e) pos) (Mt te):=by
 intro pins s σ H D I h;exact wpAny_Return_some (bS (he pins s σ H _ I h) fun v s1 ⟨x,H1,I1,r1,q1⟩=>⟨x,σ,H1,I1,r1,q1⟩)
def Mw(c:TT)(t u:TS):TS:=fun D σ H=>c σ H fun b H1=>if b=true then t D σ H1 else u D σ H1
theorem Vt{c:υ}{a b:List aY}{tc:TT}(hc:PT X c tc)(ha:mX X a t)(hb:mX X b u):PS X (.If c a b pos) (Mw tc t u):=by
 intro pins s σ H D I h;refine wpAny_If (bS (hc pins s σ H _ I h) fun d s1 ⟨H1,I1,q1⟩=>?_);cases d with
 |true=>exact ha pins s1 σ H1 D I1 q1
 |false=>exact hb pins s1 σ H1 D I1 q1
end
abbrev TG:=V->St->Hp->(St->Hp->Prop)->Prop
abbrev vR:=List V->St->Hp->(St->Hp->Prop)->Prop
def PG(X:Cx)(target:υ)(t:TG):Prop:=
 ∀(pins:List (ζ×aW)) (s:η) (σ:St) (H:Hp) (v:V) (u:δ) (Q:St->Hp->Prop),Inv X pins σ H s->RelV v u->t v σ H Q ->
  ρ (model X.prog X.w) X.A (assign target X.env u) (fun _ s'=>∃σ' H',Inv X pins σ' H' s'/\Q σ' H') X.xe s
def oZ(X:Cx)(ts:List υ)(t:vR):Prop:=
 ∀(pins:List (ζ×aW)) (s:η) (σ:St) (H:Hp) (vs:List V) (us:List δ) (Q:St->Hp->Prop),Inv X pins σ H s->bt vs us->t vs σ H Q ->
  ρ (model X.prog X.w) X.A (assignInOrder ((assignEach ts X.env).map (·.2)) us) (fun _ s'=>∃σ' H',Inv X pins σ' H' s'/\Q σ' H') X.xe s
abbrev EE:=V->V->V->Hp->(Hp->Prop)->Prop
def Lf(X:Cx)(t:EE):Prop:=
 ∀(pins:List (ζ×aW)) (s:η) (σ:St) (H:Hp) (o i v:V) (ov iv u:δ) (Q:Hp->Prop),Inv X pins σ H s->RelV o ov->RelV i iv->RelV v u->t o i v H Q ->
  ρ (model X.prog X.w) X.A (setItem ov iv u) (fun _ s'=>∃H',Inv X pins σ H' s'/\Q H') X.xe s
section
variable {X:Cx} {pos:aV}
def Ba(i:Nat):TG:=fun v σ H Q=>Q (σ.set i (some v)) H
theorem Vs{i:Nat}{x:ν}(hN:X.N.Nodup)(hi:X.N[i]?=some x)(hx:Loc X.env.scope x)(hf:X.fn x=true∨X.env.scope.names.lookup x=some .local:=by first|exact .inl rfl|exact .inr rfl|assumption):PG X (.Name x pos) (Ba i):=by
 intro pins s σ H v u Q I r h;exact wpAny_assign_Name (Kl I hN hi hx r (fun s' I'=>⟨_,H,I',h⟩) hf)
def WL:vR:=fun vs σ H Q=>vs=[]/\Q σ H
def LY(t:TG)(u:vR):vR:=fun vs σ H Q=>∃v r,vs=v::r/\t v σ H fun σ' H'=>u r σ' H' Q
theorem Vr:oZ X [] WL:=by
 intro pins s σ H vs us Q I r h;obtain⟨e,h⟩:=h;subst e;cases r;exact assignInOrder_nil ⟨σ,H,I,h⟩
theorem Vq{e:υ}{es:List υ}{t:TG}{u:vR}(h1:PG X e t)(h2:oZ X es u)
  (hs:(assignEach (e::es) X.env).map (·.2)=assign e X.env::(assignEach es X.env).map (·.2):=by rfl):oZ X (e::es) (LY t u):=by
 intro pins s σ H vs us Q I r h;obtain⟨v,vr,e1,h⟩:=h;subst e1;cases r with
 |cons r rr=>
  rw[hs];refine assignInOrder_cons (bS (h1 pins s σ H _ _ _ I r h) fun _ s1 ⟨σ1,H1,I1,q1⟩=>?_);exact h2 pins s1 σ1 H1 _ _ Q I1 rr q1
def WJ(K:θ)(n:Nat)(t:vR):TG:=fun v σ H Q=>∃a xs,v=.ref a/\dh K H a xs/\xs.length=n/\t xs σ H Q
theorem Vp{es:List υ}{k:Nat}{t:vR}{n:Nat}(hc:X.calm=true)(h:oZ X es t)
  (hn:(assignEach es X.env).length=n:=by rfl) (hst:(assignEach es X.env).findIdx? (·.1)=none:=by rfl):PG X (.Tuple es k pos) (WJ X.K n t):=by
 intro pins s σ H v u Q I r hw;obtain⟨a,xs,e1,hq,hl,hw⟩:=hw;subst e1;cases r;obtain⟨its,rv,ht,hz⟩:=I.tuple hq;refine assign_Tuple_tuple (I.ok.hd hc) ht (by simp[hn,←hl,rv.length]) hst fun h' hx=>?_;have I1:Inv X pins σ H { s with heap:=h' }:=I.kept (t':=s.toks) fun b o e=>hx b o (aZ (aa e)) e
 exact h pins _ σ H xs _ Q I1 (by simpa using rv) hw
def WK(to ti:TE)(t:EE):TG:=fun v σ H Q=>to σ H fun o H1=>ti σ H1 fun i H2=>t o i v H2 fun H3=>Q σ H3
theorem Vo{o i:υ}{to ti:TE}{t:EE}(ho:PE X o to)(hi:PE X i ti)(hs:Lf X t)
  (ha:∀v,assign (.Subscript o i pos) X.env v=(do
   let ov ←holding [v] (eval o X.env)
   let iv ←holding [v,ov] (eval i X.env)
   standAt pos
   holding [v,ov,iv] (setItem ov iv v)
   release [v,ov,iv] []):=by intro _;rfl):PG X (.Subscript o i pos) (WK to ti t):=by
 intro pins s σ H v u Q I r h
 rw[ha]
 refine ε (bT (bS (ho pins s σ H _ I h) fun ov s1 ⟨x,H1,I1,r1,q1⟩=>?_))
 refine ε (bT (bS (hi pins s1 σ H1 _ I1 q1) fun iv s2 ⟨y,H2,I2,r2,q2⟩=>?_))
 refine ε (kO (ε (bT (bS (hs pins s2 σ H2 x y v ov iv u _ I2 r1 r2 r q2) fun _ s3 ⟨H3,I3,q3⟩=>?_))))
 exact wpAny_release ⟨σ,H3,I3,q3⟩
def Cy(te:TE)(g:TG):TS:=fun D σ H=>te σ H fun x H1=>g x σ H1 D.nx
theorem Vn{tg e:υ}{te:TE}{g:TG}(he:PE X e te)(hg:PG X tg g)(hs:swapsWithSole [tg] e pos.line X.env=pure false:=by rfl)(hw:swappedStores [tg] e X.env=pure none:=by rfl)
  (h1:(assignEach [tg] X.env).map (·.2)=[assign tg X.env]:=by rfl):PS X (.Assign [tg] e pos) (Cy te g):=by
 intro pins s σ H D I h;refine wpAny_Assign_stores (bS (he pins s σ H _ I h) fun v s1 ⟨x,H1,I1,r1,q1⟩=>?_) hs hw;rw[h1];exact bS (hg pins s1 σ H1 x v _ I1 r1 q1) fun _ s2 q=>q
theorem Vm{i:Nat}{x:ν}{e:υ}{te:TE}{pos':aV}(hN:X.N.Nodup)(hi:X.N[i]?=some x)(hx:Loc X.env.scope x)(he:PE X e te)(hs:swapsWith e (some (.Name x pos')) pos.line X.env=pure false:=by rfl)(hf:X.fn x=true∨X.env.scope.names.lookup x=some .local:=by first|exact .inl rfl|exact .inr rfl|assumption):
  PS X (.Assign [.Name x pos'] e pos) (Cy te (Ba i)):=by
 intro pins s σ H D I h;refine wpAny_Assign_Name (bS (he pins s σ H _ I h) fun v s1 ⟨y,H1,I1,r1,q1⟩=>?_) hs;exact Kl I1 hN hi hx r1 (fun s2 I2=>⟨_,H1,I2,q1⟩) hf
end
section
variable {X:Cx} {pos:aV}
def FT(c:TT)(tb:TS):TS:=fun D σ H=>∃W:Nat->St->Hp->Prop,(∃m,W m σ H)/\∀m σ H,W m σ H ->
 c σ H fun b H1=>if b=true then ∃N:St->Hp->Prop,(∀σ' H',N σ' H'->∃m',m' < m/\W m' σ' H')/\tb { D with nx:=N,ct:=N,bk:=D.nx } σ H1 else D.nx σ H1
theorem Vl{c:υ}{body:List aY}{tc:TT}{tb:TS}(hp:m6 (model X.prog X.w) X.A X.env X.xe)(hc:PT X c tc)(hb:mX X body tb):PS X (.While c body [] pos) (FT tc tb):=by
 intro pins s σ H D I h;obtain⟨W,⟨m0,w0⟩,turn⟩:=h;refine wpAny_While (codeAny_whileLoop (fun n s'=>∃σ' H',Inv X pins σ' H' s'/\W n σ' H') ?_ m0 ⟨σ,H,I,w0⟩);rintro n s1 ⟨σ1,H1,I1,w1⟩;refine gb hp (bS (hc pins s1 σ1 H1 _ I1 (turn n σ1 H1 w1)) fun b s2 ⟨H2,I2,q2⟩=>?_);cases b with
 |true=>
  obtain⟨N,hN,q2⟩:=q2;rw[if_pos rfl];refine gb hp (bS (hb pins s2 σ1 H2 _ I2 q2) fun f s3 q3=>?_);cases f with
  |next=>
   obtain⟨σ3,H3,I3,n3⟩:=q3;obtain⟨m',hm,w3⟩:=hN σ3 H3 n3;exact⟨m',hm,σ3,H3,I3,w3⟩
  |cont=>
   obtain⟨σ3,H3,I3,n3⟩:=q3;obtain⟨m',hm,w3⟩:=hN σ3 H3 n3;exact⟨m',hm,σ3,H3,I3,w3⟩
  |brk=>exact q3
  |ret v=>exact q3
 |false=>
  rw[if_neg Ψ];exact gW ⟨σ1,H2,I2,q2⟩
end
structure It where
 go:Nat->Hp->Prop
 EI:Nat->Hp->V->Hp->Prop
 stop:Nat->Hp->Prop
def nH(X:Cx)(pins:List (ζ×aW))(H:Hp)(b:ζ):Prop:=
 H b=none/\b≠X.env.locals/\b∉X.fs/\(b∈X.ex∨X.s₀.heap.objs.size≤b)/\(∀x c,X.env.cells.lookup x=some c->c≠b)/\∀p∈X.pn++pins,p.1≠b
theorem Inv.wN{X:Cx}{pins:List (ζ×aW)}{σ:St}{H H':Hp}{s:η}{b:ζ}(I:Inv X pins σ H s)(hb:s.heap.objs.size≤b)(hn:H' b=none):nH X pins H' b:=by
 refine⟨hn,ix (bL I.lt hb),I.Wu hb,.inr (bB I.sz hb),fun x c e z=>?_,fun p hp z=>?_⟩
 ·obtain⟨v,q⟩:=I.cell x c e;exact absurd (bL q.lt (by rw[z];exact hb)) (cw _)
 ·exact absurd (bL (aa (I.pin p hp).1) (by rw[z];exact hb)) (cw _)
structure Turn(P:Ω)(w:aw)(K:θ)(tg:υ)(J:It)(fp:List ζ)(it:ζ)(tn:Nat->au->Prop):Prop where
 mem:it∈fp
 obj:∀i h,tn i h->∀b∈fp,∃o,h.get? b=some o/\∀v,o.data≠.cell v
 keep:∀i h h',tn i h->(∀b∈fp,∀o,h.get? b=some o->h'.get? b=some o)->tn i h'
 item:∀(X:Cx),X.prog=P->X.w=w->X.K=K->X.calm=true->∀(i:Nat) (pins:List (ζ×aW)) (s:η) (σ:St) (H:Hp) (E:δ->η->Prop),Inv X pins σ H s->(∀b∈fp,nH X pins H b)->tn i s.heap->J.go i H ->
  ρ (model P w) X.A (pyNext (.ref it)) (fun r s1=>∃u,r=some u ∧
   ρ (model P w) X.A (letOwnedTupleGo tg (.ref it) u) (fun _ s2=>∃x H',Inv X pins σ H' s2/\RelV x u/\J.EI i H x H'/\tn (i+1) s2.heap/\∀b∈fp,H' b=none) E s1) E s
 done:∀(X:Cx),X.prog=P->X.w=w->X.K=K->X.calm=true->∀(i:Nat) (pins:List (ζ×aW)) (s:η) (σ:St) (H:Hp) (E:δ->η->Prop),Inv X pins σ H s->(∀b∈fp,nH X pins H b)->tn i s.heap->J.stop i H ->
  ρ (model P w) X.A (pyNext (.ref it)) (fun r s1=>r=none/\Inv X pins σ H s1) E s
 self:∀(A:aF) (i:Nat) (s:η) (Q:δ->η->Prop) (E:δ->η->Prop),tn i s.heap->Q (.ref it) s->ρ (model P w) A (pyIter (.ref it)) Q E s
abbrev TI:=St->Hp->(It->Hp->Prop)->Prop
def Lg(X:Cx)(pins:List (ζ×aW))(σ:St)(tg:υ)(R:It->Hp->Prop)(itv:δ)(s2:η):Prop:=
 ∃(it:ζ) (fp:List ζ) (tn:Nat->au->Prop) (J:It) (H':Hp),itv=.ref it/\Inv X pins σ H' s2/\Turn X.prog X.w X.K tg J fp it tn/\tn 0 s2.heap/\(∀b∈fp,nH X pins H' b)/\R J H'
def PI(X:Cx)(tg iter:υ)(wi:TI):Prop:=
 ∀(pins:List (ζ×aW)) (s:η) (σ:St) (H:Hp) (R:It->Hp->Prop),Inv X pins σ H s->wi σ H R ->
  ρ (model X.prog X.w) X.A (eval iter X.env) (fun v s1=>ρ (model X.prog X.w) X.A (pyIter v) (Lg X pins σ tg R) X.xe s1) X.xe s
theorem D8{M:Model}{A:aF}{E:δ->η->Prop}{s:η}{tg:υ}{it:ζ}{u:δ}{o:aW}{n:String}{vs:Array δ}{Q:Unit->η->Prop}(ho:s.heap.get? it=some o)(hc:o.cls=.type n)(hd:o.data=.fields vs)
    (hn:["enumerate","zip","dict_itemiterator","dict_reverseitemiterator","odict_iterator","itertools.zip_longest","itertools.pairwise"].contains n=false) (hQ:Q () s):ρ M A (letOwnedTupleGo tg (.ref it) u) Q E s:=by
  unfold letOwnedTupleGo;cases tg<;>first
    |exact ο hQ
    | (cases u<;>first
        |exact ο hQ
        | (refine ε (wpAny_load ho ?_)
           rw[hc,hd];show ρ M A (if (["enumerate","zip","dict_itemiterator","dict_reverseitemiterator","odict_iterator","itertools.zip_longest","itertools.pairwise"].contains n&&vs[0]?==some (rawInt _))=true then _ else _) Q E s;rw[if_neg (by intro h;rw[hn,mR] at h;cases h)];exact ο hQ))
def Mo(K:θ)(a:ζ):It:=
 ⟨fun i H=>∃xs x,gJ K H a xs/\xs[i]?=some x,fun i H x H'=>H'=H/\∀xs,gJ K H a xs->xs[i]?=some x,fun i H=>∃xs,gJ K H a xs/\xs.length≤i⟩
def Mn(K:θ)(a:ζ):It:=
 ⟨fun i H=>∃xs x,dh K H a xs/\xs[i]?=some x,fun i H x H'=>H'=H/\∀xs,dh K H a xs->xs[i]?=some x,fun i H=>∃xs,dh K H a xs/\xs.length≤i⟩
def Ct(lo:Int)(n:Nat):It:=⟨fun i _=>i<n,fun i H x H'=>H'=H/\x=.int (lo+i),fun i _=>n≤i⟩
theorem Vk{P:Ω}{w:aw}{K:θ}{tg:υ}(a it:ζ):Turn P w K tg (Mo K a) [it] it (fun i h=>h.IsListIter it a i) where
 mem:=by simp
 obj:=fun i h st b hb=>by
  have e:b=it:=by simpa using hb
  subst e;obtain⟨o,e,c,d⟩:=st;exact⟨o,e,fun v z=>by rw[d] at z;cases z⟩
 keep:=fun i h h' st k=>st.at fun o e=>k it (by simp) o e
 item:=by
  intro X hP hw hK hc i pins s σ H E I hf st hg;subst hP hw hK;obtain⟨xs,x,hq,hx⟩:=hg;obtain⟨its,rv,p,hz⟩:=I.list hq;obtain⟨u,hu,ru⟩:=rv.get hx;obtain⟨f0,f1,f2,f3,f4,f5⟩:=hf it (by simp);refine wpAny_pyNext_list_item st p.isList (x:=u) (by simpa using hu) fun h' st' sb=>?_;have I1:Inv X pins σ H { s with heap:=h' }:=I.turned (t':=s.toks) (fun b o hb e=>(sb.2 b hb).trans e) f0 f1 f3 f4 f5;obtain⟨o,e,c,d⟩:=id st';exact⟨u,rfl,D8 (s:={ s with heap:=h' }) e c d (by decide) ⟨x,H,I1,ru,⟨rfl,fun ys hy=>by rw[I.Ee hy hq];exact hx⟩,st',fun b hb=>(hf b hb).1⟩⟩
 done:=by
  intro X hP hw hK hc i pins s σ H E I hf st hg;subst hP hw hK;obtain⟨xs,hq,hx⟩:=hg;obtain⟨its,rv,p,hz⟩:=I.list hq;obtain⟨f0,f1,f2,f3,f4,f5⟩:=hf it (by simp);have hl:=rv.length;exact wpAny_pyNext_list_end (I.ok.hd hc) st p.isList (by simp;lia) fun h' eb=>⟨rfl,I.turned (t':=s.toks) (fun b o hb e=>eb b o hb e) f0 f1 f3 f4 f5⟩
 self:=fun _ _ _ _ _ st h=>wpAny_pyIter_listiter st h
theorem Vj{P:Ω}{w:aw}{K:θ}{tg:υ}(a it:ζ):Turn P w K tg (Mn K a) [it] it (fun i h=>h.IsTupleIter it a i) where
 mem:=by simp
 obj:=fun i h st b hb=>by
  have e:b=it:=by simpa using hb
  subst e;obtain⟨o,e,c,d⟩:=st;exact⟨o,e,fun v z=>by rw[d] at z;cases z⟩
 keep:=fun i h h' st k=>st.at fun o e=>k it (by simp) o e
 item:=by
  intro X hP hw hK hc i pins s σ H E I hf st hg;subst hP hw hK;obtain⟨xs,x,hq,hx⟩:=hg;obtain⟨its,rv,p,hz⟩:=I.tuple hq;obtain⟨u,hu,ru⟩:=rv.get hx;obtain⟨f0,f1,f2,f3,f4,f5⟩:=hf it (by simp);refine wpAny_pyNext_tuple_item st (show s.heap.IsTuple a its.toArray from p) (x:=u) (by simpa using hu) fun h' st' sb=>?_;have I1:Inv X pins σ H { s with heap:=h' }:=I.turned (t':=s.toks) (fun b o hb e=>(sb.2 b hb).trans e) f0 f1 f3 f4 f5;obtain⟨o,e,c,d⟩:=id st';exact⟨u,rfl,D8 (s:={ s with heap:=h' }) e c d (by decide) ⟨x,H,I1,ru,⟨rfl,fun ys hy=>by rw[I.BU hy hq];exact hx⟩,st',fun b hb=>(hf b hb).1⟩⟩
 done:=by
  intro X hP hw hK hc i pins s σ H E I hf st hg;subst hP hw hK;obtain⟨xs,hq,hx⟩:=hg;obtain⟨its,rv,p,hz⟩:=I.tuple hq;obtain⟨f0,f1,f2,f3,f4,f5⟩:=hf it (by simp);have hl:=rv.length;exact wpAny_pyNext_tuple_end (I.ok.hd hc) st (show s.heap.IsTuple a its.toArray from p) (by simp;lia) fun h' eb=>⟨rfl,I.turned (t':=s.toks) (fun b o hb e=>eb b o hb e) f0 f1 f3 f4 f5⟩
 self:=fun _ _ _ _ _ st h=>wpAny_pyIter_tupleiter st h
theorem Vi{P:Ω}{w:aw}{K:θ}{tg:υ}(it:ζ)(lo:Int)(n:Nat):Turn P w K tg (Ct lo n) [it] it (fun i h=>IsRangeIter h it (lo+(i:Nat)*1) ((n:Int)-(i:Nat)) 1) where
 mem:=by simp
 obj:=fun i h st b hb=>by
  have e:b=it:=by simpa using hb
  subst e;exact⟨_,st,fun v z=>by
   have z':Data.fields _=Data.cell v:=z;cases z'⟩
 keep:=fun i h h' st k=>k it (by simp) _ st
 item:=by
  intro X hP hw hK hc i pins s σ H E I hf st hg;subst hP hw hK;obtain⟨f0,f1,f2,f3,f4,f5⟩:=hf it (by simp);have W:=Walks.range (prog:=X.prog) (w:=X.w) (I.ok.hd hc) it lo 1 n;refine W.item i s _ _ hg st fun v h' tk hv st' kk=>?_;obtain⟨t,rfl⟩:=hv;have I1:Inv X pins σ H { s with heap:=h',toks:=tk }:=I.turned (fun b o hb e=>kk b o (by simpa using hb) e) f0 f1 f3 f4 f5;refine⟨_,rfl,D8 (s:={ s with heap:=h',toks:=tk }) (n:="range_iterator") st' rfl rfl (by decide) ⟨.int (lo+i),H,I1,⟨t,?_⟩,⟨rfl,rfl⟩,st',fun b hb=>(hf b hb).1⟩⟩;rw[uM]
 done:=by
  intro X hP hw hK hc i pins s σ H E I hf st hg;subst hP hw hK;obtain⟨f0,f1,f2,f3,f4,f5⟩:=hf it (by simp);exact wpAny_pyNext_range_end (I.ok.hd hc) st (by have:n≤i:=hg;lia) fun h' eb=>⟨rfl,I.turned (t':=s.toks) (fun b o hb e=>eb b o hb e) f0 f1 f3 f4 f5⟩
 self:=fun _ _ _ _ _ st h=>wpAny_pyIter_rangeiter st h
end L2
namespace L2
open PySem PySem.Spec PyProof.Rows
section
variable {X:Cx} {tg:υ}
theorem Kh{pins:List (ζ×aW)}{σ:St}{H:Hp}{s:η}{R:It->Hp->Prop}{E:δ->η->Prop}{lo hi:Int}{t u v:Tok}{tk:Nat}(I:Inv X pins σ H s)(h1:-(2^62)≤lo)(h2:lo<2^62)(h3:-(2^62)≤hi)(h4:hi<2^62)
  (q:R (Ct lo (hi-lo).toNat) H):ρ (model X.prog X.w) X.A (pyIter (.ref s.heap.objs.size)) (Lg X pins σ tg R) E { s with heap:=s.heap.push { cls:=.type "range",data:=.fields #[.int lo t,.int hi u,.int 1 v]},toks:=tk }:=by
 refine wpAny_pyIter_range (IsRange.new ..) (small_one h1 h2 h3 h4) ?_;have I1:Inv X pins σ H { s with heap:=s.heap.push { cls:=.type "range",data:=.fields #[.int lo t,.int hi u,.int 1 v]},toks:=tk }:=I.kept fun b o e=>μ _ e;refine⟨(s.heap.push { cls:=.type "range",data:=.fields #[.int lo t,.int hi u,.int 1 v]}).objs.size,[(s.heap.push { cls:=.type "range",data:=.fields #[.int lo t,.int hi u,.int 1 v]}).objs.size],_,_,H,rfl,
  I1.kept (t':=tk) fun b o e=>μ _ e,Vi _ lo (hi-lo).toNat,?_,fun b hb=>?_,q⟩
 ·have e1:lo+((0:Nat):Int)*1=lo:=by simp
  have e2:(((hi-lo).toNat:Nat):Int)-((0:Nat):Int)=dI.Range.rangeSize lo hi 1:=by rw[rangeSize_one];split<;>lia
  show IsRangeIter _ _ (lo+((0:Nat):Int)*1) ((((hi-lo).toNat:Nat):Int)-((0:Nat):Int)) 1;rw[e1,e2];exact aM _ rfl
 ·have e:b=(s.heap.push { cls:=.type "range",data:=.fields #[.int lo t,.int hi u,.int 1 v]}).objs.size:=by simpa using hb
  subst e;exact I1.wN (Θ _) (I1.bI.fresh (Θ _))
def kM(ta:TA):TI:=fun σ H R=>ta σ H fun vs H1=>∃j:Int,vs=[.int j]/\-(2^62)≤j/\j<2^62/\R (Ct 0 j.toNat) H1
def vI(ta:TA):TI:=fun σ H R=>ta σ H fun vs H1=>∃i j:Int,vs=[.int i,.int j]/\(-(2^62)≤i/\i<2^62/\-(2^62)≤j/\j<2^62)/\R (Ct i (j-i).toNat) H1
theorem Vh{a:υ}{ta:TA}{p pos:aV}(hg:Gl X "range")(hm:X.mg "range" = none)(ha:PA X [a] ta)(hs:bK [a] X.env=[(false,eval a X.env)]:=by rfl):PI X tg (.Call (.Name "range" p) [a] [] pos) (kM ta):=by
 intro pins s σ H R I h;refine Call_ (u9 I hg hm rX (eF (bS (ha pos pins s σ H _ I h) fun us s1 ⟨vs,H1,I1,r1,q1⟩=>?_) hs rfl));obtain⟨j,e,q1,q2,q⟩:=q1;subst e;cases r1 with
 |cons r rr=>
  cases rr;obtain⟨t,rfl⟩:=r;exact call_range_1 (Kh I1 (by lia) (by lia) q1 q2 (by simpa using q))
theorem Vg{a b:υ}{ta:TA}{p pos:aV}(hg:Gl X "range")(hm:X.mg "range" = none)(ha:PA X [a,b] ta)(hs:bK [a,b] X.env=[(false,eval a X.env),(false,eval b X.env)]:=by rfl)(hs2:bK [b] X.env=[(false,eval b X.env)]:=by rfl):
  PI X tg (.Call (.Name "range" p) [a,b] [] pos) (vI ta):=by
 intro pins s σ H R I h;refine Call_ (u9 I hg hm rX (eF (bS (ha pos pins s σ H _ I h) fun us s1 ⟨vs,H1,I1,r1,q1⟩=>?_) (by rw[hs,hs2]) (by rw[hs2];rfl)));obtain⟨i,j,e,⟨q1,q2,q3,q4⟩,q⟩:=q1;subst e;cases r1 with
 |cons r rr=>
  cases rr with
  |cons r' rr=>
   cases rr;obtain⟨t,rfl⟩:=r;obtain⟨t',rfl⟩:=r';exact call_range_2 (Kh I1 q1 q2 q3 q4 q)
def Mx(wi:TI)(g:TG)(tb:TS):TS:=fun D σ H=>wi σ H fun J H1=>∃W:Nat->Nat->St->Hp->Prop,(∃m,W 0 m σ H1)/\∀i m σ H,W i m σ H ->
 (J.stop i H/\D.nx σ H)∨(J.go i H/\∃N:St->Hp->Prop,(∀σ' H',N σ' H'->∃m',m' < m/\W (i+1) m' σ' H')/\∀x H',J.EI i H x H'->g x σ H' fun σ2 H2=>tb { D with nx:=N,ct:=N,bk:=D.nx } σ2 H2)
def tm(fp:List ζ)(h:au):List (ζ×aW):=fp.filterMap fun b=>(h.get? b).map fun o=>(b,o)
theorem AH{fp:List ζ}{h:au}{b:ζ}{o:aW}(hb:b∈fp)(e:h.get? b=some o):(b,o)∈tm fp h:=m8.mpr ⟨b,hb,by rw[e];rfl⟩
theorem Vf{fp:List ζ}{h:au}{p:ζ×aW}(hp:p∈tm fp h):p.1∈fp/\h.get? p.1=some p.2:=by
 obtain⟨b,hb,e⟩:=m8.mp hp;cases q:h.get? b with
 |none=>rw[q] at e;cases e
 |some o=>
  rw[q] at e;have e':(b,o)=p:=aD e;subst e';exact⟨hb,q⟩
theorem Inv.pinned{pins:List (ζ×aW)}{σ:St}{H:Hp}{s:η}{fp:List ζ}(I:Inv X pins σ H s)(hf:∀b∈fp,nH X pins H b)(ho:∀b∈fp,∃o,s.heap.get? b=some o/\∀v,o.data≠.cell v):Inv X (pins++tm fp s.heap) σ H s:=
 I.zp fun p hp=>(ag.mp hp).elim (fun z=>I.pin p (ay _ z)) fun z=>by
  obtain⟨hb,e⟩:=Vf z;obtain⟨f0,f1,f2,_⟩:=hf p.1 hb;obtain⟨o,e',d⟩:=ho p.1 hb;rw[e] at e';cases e';exact⟨e,f0,f1,f2,d⟩
theorem Inv.qX{pins pl:List (ζ×aW)}{σ:St}{H:Hp}{s:η}(I:Inv X (pins++pl) σ H s):Inv X pins σ H s:=I.zp fun p hp=>I.pin p (ay _ (bf _ hp))
theorem VP{iter:υ}{body:List aY}{wi:TI}{g:TG}{tb:TS}{pos:aV}(hp:m6 (model X.prog X.w) X.A X.env X.xe)(hc:X.calm=true)(hi:PI X tg iter wi)(hg:PG X tg g)(hb:mX X body tb)
  (hs:∀x,foldedSetIterable iter X.env x=pure x:=by intro _;rfl):PS X (.For tg iter body [] pos) (Mx wi g tb):=by
 intro pins s σ H D I h;refine wpAny_For (bS (hi pins s σ H _ I h) fun v s1 h1=>bS h1 fun itv s2 h2=>?_) hs;obtain⟨it,fp,tn,J,H2,e,I2,T,st2,f2,W,⟨m0,w0⟩,turn⟩:=h2;subst e
 -- what stays true of the iterator's objects through the loop
 have stat:∀{H':Hp},(∀b∈fp,H' b=none)->∀b∈fp,nH X pins H' b:=fun hn b hb=>⟨hn b hb,(f2 b hb).2⟩;refine codeAny_forLoop_any (fun n s'=>∃i σ' H',Inv X pins σ' H' s'/\tn i s'.heap/\(∀b∈fp,H' b=none)/\W i n σ' H') ?_ m0 ⟨0,σ,H2,I2,st2,fun b hb=>(f2 b hb).1,w0⟩;rintro n s3 ⟨i,σ3,H3,I3,st3,fr3,w3⟩;rcases turn i n σ3 H3 w3 with⟨stop,qn⟩|⟨go,N,hN,step⟩
 ·refine gb hp (bS (T.done X rfl rfl rfl hc i pins s3 σ3 H3 X.xe I3 (stat fr3) st3 stop) fun r s4 ⟨hr,I4⟩=>?_);subst hr;exact gW ⟨σ3,H3,I4,qn⟩
 ·refine gb hp (bS (T.item X rfl rfl rfl hc i pins s3 σ3 H3 X.xe I3 (stat fr3) st3 go) fun r s4 ⟨u,hr,h4⟩=>?_);subst hr;refine gb hp (bS h4 fun _ s5 ⟨x,H5,I5,r5,y5,st5,fr5⟩=>?_);have I5':=I5.pinned (stat fr5) (T.obj _ _ st5);refine gb hp (bS (hg _ s5 σ3 H5 x u _ I5' r5 (step x H5 y5)) fun _ s6 ⟨σ6,H6,I6,q6⟩=>?_);refine gb hp (bS (hb _ s6 σ6 H6 _ I6 q6) fun f s7 q7=>?_);have again:∀{σ7:St} {H7:Hp},Inv X (pins++tm fp s5.heap) σ7 H7 s7->N σ7 H7->∃m,m<n/\∃i σ' H',Inv X pins σ' H' s7/\tn i s7.heap/\(∀b∈fp,H' b=none)/\W i m σ' H':=fun {σ7 H7} I7 n7=>by
   obtain⟨m',hm,w7⟩:=hN σ7 H7 n7;refine⟨m',hm,i+1,σ7,H7,I7.qX,T.keep _ _ _ st5 fun b hb o e=>(I7.pin (b,o) (ay _ (ay _ (AH hb e)))).1,fun b hb=>?_,w7⟩;obtain⟨o,e,d⟩:=T.obj _ _ st5 b hb;exact (I7.pin (b,o) (ay _ (ay _ (AH hb e)))).2.1
  cases f with
  |next=>obtain⟨σ7,H7,I7,n7⟩:=q7;exact again I7 n7
  |cont=>obtain⟨σ7,H7,I7,n7⟩:=q7;exact again I7 n7
  |brk=>obtain⟨σ7,H7,I7,q7⟩:=q7;exact⟨σ7,H7,I7.qX,q7⟩
  |ret v=>obtain⟨x7,σ7,H7,I7,r7,q7⟩:=q7;exact⟨x7,σ7,H7,I7.qX,r7,q7⟩
end
end L2
namespace L2
open PySem PySem.Spec PyProof.Rows
abbrev R2:=V->V->Hp->VK->Prop
def eS(X:Cx)(f:δ->δ->kn δ)(r:R2):Prop:=
 ∀(pins:List (ζ×aW)) (s:η) (σ:St) (H:Hp) (x y:V) (v u:δ) (Q:VK),Inv X pins σ H s->RelV x v->RelV y u->r x y H Q ->
  ρ (model X.prog X.w) X.A (f v u) (EP X pins σ Q) X.xe s
def Lb(X:Cx)(f:δ->kn δ)(r:V->Hp->VK->Prop):Prop:=
 ∀(pins:List (ζ×aW)) (s:η) (σ:St) (H:Hp) (x:V) (v:δ) (Q:VK),Inv X pins σ H s->RelV x v->r x H Q ->
  ρ (model X.prog X.w) X.A (f v) (EP X pins σ Q) X.xe s
def ie(X:Cx)(f:δ)(r:List V->Hp->VK->Prop):Prop:=
 ∀(pins:List (ζ×aW)) (s:η) (σ:St) (H:Hp) (xs:List V) (us:List δ) (Q:VK),Inv X pins σ H s->bt xs us->r xs H Q ->
  ρ (model X.prog X.w) X.A (call f us) (EP X pins σ Q) X.xe s
def W2(X:Cx)(r:V->Hp->(Bool->Hp->Prop)->Prop):Prop:=
 ∀(pins:List (ζ×aW)) (s:η) (σ:St) (H:Hp) (x:V) (v:δ) (Q:Bool->Hp->Prop),Inv X pins σ H s->RelV x v->r x H Q ->
  ρ (model X.prog X.w) X.A (truthy v) (TP X pins σ Q) X.xe s
def BV(r:R2)(ta tb:TE):TE:=fun σ H Q=>ta σ H fun x H1=>tb σ H1 fun y H2=>r x y H2 Q
def W5(r:V->Hp->VK->Prop)(ta:TE):TE:=fun σ H Q=>ta σ H fun x H1=>r x H1 Q
def rI(C:Int->Int->Prop)(g:Int->Int->V):R2:=fun x y H Q=>∃i j,x=.int i/\y=.int j/\C i j/\Q (g i j) H
def oI(g:Int->Int->V):R2:=fun x y H Q=>∃i j,x=.int i/\y=.int j/\Q (g i j) H
def rU(g:Int->V):V->Hp->VK->Prop:=fun x H Q=>∃i,x=.int i/\Q (g i) H
section
variable {X:Cx} {a b c:υ} {ta tb tc:TE} {pos:aV}
theorem ED(ha:PE X a ta)(hb:PE X b tb){pins:List (ζ×aW)}{s:η}{σ:St}{H:Hp}{R:V->V->Hp->Prop}(I:Inv X pins σ H s)
  (h:ta σ H fun x H1=>tb σ H1 fun y H2=>R x y H2) {Q:δ->η->Prop} {f:δ->δ->kn δ}
  (hf:∀v u s2 x y H2,Inv X pins σ H2 s2->RelV x v->RelV y u->R x y H2->ρ (model X.prog X.w) X.A (f v u) Q X.xe s2):
  ρ (model X.prog X.w) X.A (eval a X.env) (fun v s₁=>ρ (model X.prog X.w) X.A (eval b X.env) (fun u s₂=>ρ (model X.prog X.w) X.A (f v u) Q X.xe s₂) X.xe s₁) X.xe s:=by
 refine bS (ha pins s σ H _ I h) fun v s1 ⟨x,H1,I1,r1,q1⟩=>?_;refine bS (hb pins s1 σ H1 _ I1 q1) fun u s2 ⟨y,H2,I2,r2,q2⟩=>?_;exact hf v u s2 x y H2 I2 r1 r2 q2
theorem VO{op:Operator}{r:R2}(ho:eS X (binaryOp op) r)(ha:PE X a ta)(hb:PE X b tb):PE X (.BinOp a op b pos) (BV r ta tb):=by
 intro pins s σ H Q I h;exact wpAny_BinOp (ED ha hb I h fun v u s2 x y H2 I2 rx ry q=>ho pins s2 σ H2 x y v u Q I2 rx ry q)
theorem VN{op:UnaryOp}{r:V->Hp->VK->Prop}(ho:Lb X (unaryOp op) r)(ha:PE X a ta):PE X (.UnaryOp op a pos) (W5 r ta):=by
 intro pins s σ H Q I h;exact UnaryOp_ (bS (ha pins s σ H _ I h) fun v s1 ⟨x,H1,I1,r1,q1⟩=>ho pins s1 σ H1 x v Q I1 r1 q1)
theorem EX{f:δ->δ->kn δ}{C:Int->Int->Prop}{g:Int->Int->Int}
  (rule:∀(i j:Int) (t u:Tok) (s:η) (Q:δ->η->Prop) (E:δ->η->Prop),C i j->Q (.int (g i j) s.toks) { s with toks:=s.toks+1 }->ρ (model X.prog X.w) X.A (f (.int i t) (.int j u)) Q E s):
  eS X f (rI C fun i j=>.int (g i j)):=by
 intro pins s σ H x y v u Q I rx ry h;obtain⟨i,j,rfl,rfl,hc,q⟩:=h;obtain⟨t,rfl⟩:=rx;obtain⟨t',rfl⟩:=ry;exact rule i j t t' s _ _ hc ⟨.int (g i j),H,I.tok _,⟨_,rfl⟩,q⟩
theorem KE{f:δ->δ->kn δ}{g:Int->Int->Int}
  (rule:∀(i j:Int) (t u:Tok) (s:η) (Q:δ->η->Prop) (E:δ->η->Prop),Q (.int (g i j) s.toks) { s with toks:=s.toks+1 }->ρ (model X.prog X.w) X.A (f (.int i t) (.int j u)) Q E s):
  eS X f (oI fun i j=>.int (g i j)):=by
 intro pins s σ H x y v u Q I rx ry h;obtain⟨i,j,rfl,rfl,q⟩:=h;obtain⟨t,rfl⟩:=rx;obtain⟨t',rfl⟩:=ry;exact rule i j t t' s _ _ ⟨.int (g i j),H,I.tok _,⟨_,rfl⟩,q⟩
theorem AW{f:δ->δ->kn δ}{g:Int->Int->Bool}
  (rule:∀(i j:Int) (t u:Tok) (s:η) (Q:δ->η->Prop) (E:δ->η->Prop),Q (.bool (g i j)) s->ρ (model X.prog X.w) X.A (f (.int i t) (.int j u)) Q E s):
  eS X f (oI fun i j=>.bl (g i j)):=by
 intro pins s σ H x y v u Q I rx ry h;obtain⟨i,j,rfl,rfl,q⟩:=h;obtain⟨t,rfl⟩:=rx;obtain⟨t',rfl⟩:=ry;exact rule i j t t' s _ _ ⟨.bl (g i j),H,I,rfl,q⟩
def EH(i j:Int):Prop:=0≤j/\j≤1000000/\i.natAbs<2^64
theorem KC:eS X (binaryOp .Add) (oI fun i j=>.int (i+j)):=KE fun _ _ _ _ _ _ _ q=>add_int q
theorem ym:eS X (binaryOp .Sub) (oI fun i j=>.int (i-j)):=KE fun _ _ _ _ _ _ _ q=>sub_int q
theorem u7:eS X (binaryOp .Mod) (rI (fun _ j=>0<j) fun i j=>.int (i%j)):=EX fun i j _ _ _ _ _ hc q=>by
 have h1:(0:Int)<j:=hc;exact mod_int' (by lia) (by rw[Int.fmod_eq_emod_of_nonneg i (by lia)];exact q)
theorem Kg:eS X (binaryOp .Pow) (rI EH fun i j=>.int (i^j.toNat)):=EX fun _ _ _ _ _ _ _ hc q=>pow_int_small hc.1 hc.2.1 hc.2.2 q
theorem W3{f:δ->kn δ}{g:Int->Int}
  (rule:∀(i:Int) (t:Tok) (s:η) (Q:δ->η->Prop) (E:δ->η->Prop),Q (.int (g i) s.toks) { s with toks:=s.toks+1 }->ρ (model X.prog X.w) X.A (f (.int i t)) Q E s):
  Lb X f (rU fun i=>.int (g i)):=by
 intro pins s σ H x v Q I rx h;obtain⟨i,rfl,q⟩:=h;obtain⟨t,rfl⟩:=rx;exact rule i t s _ _ ⟨.int (g i),H,I.tok _,⟨_,rfl⟩,q⟩
theorem VM:Lb X (unaryOp .USub) (rU fun i=>.int (-i)):=W3 fun _ _ _ _ _ q=>neg_int q
end
section
variable {X:Cx} {a b c:υ} {ta tb tc:TE} {pos:aV}
theorem LJ:eS X (compareOp .Lt) (oI fun i j=>.bl (decide (i<j))):=AW fun _ _ _ _ _ _ _ q=>lt_int q
theorem VL:eS X (compareOp .LtE) (oI fun i j=>.bl (decide (i≤j))):=AW fun _ _ _ _ _ _ _ q=>le_int q
theorem wq:eS X (compareOp .Gt) (oI fun i j=>.bl (decide (j<i))):=AW fun _ _ _ _ _ _ _ q=>gt_int q
theorem VJ:eS X (compareOp .GtE) (oI fun i j=>.bl (decide (j≤i))):=AW fun _ _ _ _ _ _ _ q=>ge_int q
theorem eS.or{f:δ->δ->kn δ}{r r':R2}(h:eS X f r)(h':eS X f r'):eS X f (fun x y H Q=>r x y H Q∨r' x y H Q):=by
 intro pins s σ H x y v u Q I rx ry q;rcases q with q|q
 ·exact h pins s σ H x y v u Q I rx ry q
 ·exact h' pins s σ H x y v u Q I rx ry q
theorem cK(b:υ){op:kf}(h:op≠.In:=by decide)(h2:op≠.NotIn:=by decide):behindInMarks op b=false:=by
 have e1:(op==kf.In)=false:=by cases op<;>first|rfl|exact absurd rfl h
 have e2:(op==kf.NotIn)=false:=by cases op<;>first|rfl|exact absurd rfl h2
 cases b<;>simp[behindInMarks,e1,e2]
theorem VI{op:kf}{r:R2}(ho:eS X (compareOp op) r)(ha:PE X a ta)(hb:PE X b tb)(hm:behindInMarks op b=false):PE X (.Compare a [op] [b] pos) (BV r ta tb):=by
 intro pins s σ H Q I h;exact wpAny_Compare1 (ED ha hb I h fun v u s2 x y H2 I2 rx ry q=>ho pins s2 σ H2 x y v u Q I2 rx ry q) hm
def EK(t:TE):TT:=fun σ H Q=>t σ H fun x H'=>∃k,x=.bl k/\Q k H'
theorem VH{op:kf}{r:R2}(ho:eS X (compareOp op) r)(ha:PE X a ta)(hb:PE X b tb)(hm:behindInMarks op b=false):PT X (.Compare a [op] [b] pos) (EK (BV r ta tb)):=by
 intro pins s σ H Q I h;refine wpAny_isTrue_Compare1 (bS (ha pins s σ H _ I h) fun v s1 ⟨x,H1,I1,r1,q1⟩=>bS (hb pins s1 σ H1 _ I1 q1) fun u s2 ⟨y,H2,I2,r2,q2⟩=>
  bS (ho pins s2 σ H2 x y v u _ I2 r1 r2 q2) fun c s3 ⟨z,H3,I3,r3,k,e,q3⟩=>?_) hm
 subst e;cases r3;exact fo ⟨H3,I3,q3⟩
def xy(r r':R2)(ta tb tc:TE):TE:=fun σ H Q=>ta σ H fun x H1=>tb σ H1 fun y H2=>r x y H2 fun z H3=>∃k,z=.bl k ∧
 (if k=true then tc σ H3 fun w' H4=>r' y w' H4 Q else Q (.bl false) H3)
theorem VG{op op':kf}{r r':R2}(ho:eS X (compareOp op) r)(ho':eS X (compareOp op') r')(ha:PE X a ta)(hb:PE X b tb)(hc:PE X c tc)
  (hm:lastMarks [op,op'] [b,c]=false:=by with_unfolding_all rfl):PE X (.Compare a [op,op'] [b,c] pos) (xy r r' ta tb tc):=by
 intro pins s σ H Q I h;refine Compare_chain (bS (ha pins s σ H _ I h) fun v s1 ⟨x,H1,I1,r1,q1⟩=>chain_link (bS (hb pins s1 σ H1 _ I1 q1) fun u s2 ⟨y,H2,I2,r2,q2⟩=>
  bS (ho pins s2 σ H2 x y v u _ I2 r1 r2 q2) fun d s3 ⟨z,H3,I3,r3,k,e,q3⟩=>?_)) hm
 subst e;cases r3;refine fo ?_;cases k with
 |false=>exact ite_ff ⟨.bl false,H3,I3,rfl,q3⟩
 |true=>exact ite_tt (chain_last (bS (hc pins s3 σ H3 _ I3 q3) fun w' s4 ⟨z',H4,I4,r4,q4⟩=>ho' pins s4 σ H4 y z' u w' Q I4 r2 r4 q4))
def Lc(K:θ)(x:V)(H:Hp)(k:Bool):Prop:=
 match x with
 |.aO=>k=false
 |.bl b=>k=b
 |.int i=>k=(i != 0)
 |.str y=>y.length≤aC/\k=((y.length:Int) != 0)
 |.Cn y=>y.size≤aC/\k=((y.size:Int) != 0)
 |.ref p=>(∃xs,gJ K H p xs/\k = !xs.isEmpty)∨(∃xs,dh K H p xs/\k = !xs.isEmpty)∨∃kvs,H p=some (.dK kvs)/\k = !kvs.isEmpty
 |_=>False
theorem VF{κ:Type}{kvs:List (κ×V)}{vs:List (κ×δ)}(r:KV kvs vs):(!vs.isEmpty) = !kvs.isEmpty:=by
 cases r<;>rfl
theorem Kf{xs:List V}{its:List δ}(r:bt xs its):(!its.toArray.isEmpty) = !xs.isEmpty:=by
 cases r<;>simp
theorem qo:(aC:Nat)<2^63:=by rw[cu];decide
theorem U3:W2 X (fun x H Q=>∃k,Lc X.K x H k/\Q k H):=by
 intro pins s σ H x v Q I rx h;obtain⟨k,e,q⟩:=h;have hl:=qo;have hs:aC=16777216:=cu;cases x with
 |aO=>
  cases rx;have e':k=false:=e;subst e';exact truthy_none ⟨H,I,q⟩
 |bl b=>
  cases rx;have e':k=b:=e;subst e';exact fo ⟨H,I,q⟩
 |int i=>
  obtain⟨t,rfl⟩:=rx;have e':k=(i != 0):=e;subst e';exact PySem.P.truthy_int ⟨H,I,q⟩
 |str y=>
  obtain⟨t,rfl⟩:=rx;obtain⟨hy,e'⟩:y.length≤aC/\k=((y.length:Int) != 0):=e;subst e';exact PySem.P.truthy_str (by lia) ⟨H,I.tok _,q⟩
 |Cn y=>
  obtain⟨t,rfl⟩:=rx;obtain⟨hy,e'⟩:y.size≤aC/\k=((y.size:Int) != 0):=e;subst e';exact PySem.W.truthy_bytes (by lia) ⟨H,I.tok _,q⟩
 |ref p=>
  cases rx;have e':(∃xs,gJ X.K H p xs/\k = !xs.isEmpty)∨(∃xs,dh X.K H p xs/\k = !xs.isEmpty)∨∃kvs,H p=some (.dK kvs)/\k = !kvs.isEmpty:=e;rcases e' with⟨xs,hx,e'⟩|⟨xs,hx,e'⟩|⟨kvs,hx,e'⟩
  ·subst e';obtain⟨its,r,pl,hz⟩:=I.list hx;have hlen:=r.length;exact wpAny_truthy_list pl.isList (by simp only[Γ];lia) ⟨H,I.tok _,by rw[Kf r];exact q⟩
  ·subst e';obtain⟨its,r,pl,hz⟩:=I.tuple hx;have hlen:=r.length;exact truthy_tuple pl (by simp only[Γ];lia) ⟨H,I.tok _,by rw[Kf r];exact q⟩
  ·subst e';obtain⟨hz,hS,vs,r,m⟩:kvs.length≤aC/\(p==sysModules)=false/\∃vs,KV kvs vs/\s.heap.DictOf (wI X.prog X.w) p vs:=I.bI p _ hx;have hlen:kvs.length=vs.length:=Paired.length r;exact wpAny_truthy_dict hS m (by lia) ⟨H,I.tok _,by rw[VF r];exact q⟩
 |_=>exact (show False from e).elim
theorem U2(ha:PE X a ta)(he:∀whole,isTrue a X.env whole=(do let v ←whole;standAt a.pos;holding [v] (truthy v))):
  PT X a (fun σ H Q=>ta σ H fun x H'=>∃k,Lc X.K x H' k/\Q k H'):=by
 intro pins s σ H Q I h;exact isTrue_plain (bS (ha pins s σ H _ I h) fun v s1 ⟨x,H1,I1,r1,q1⟩=>U3 pins s1 σ H1 x v Q I1 r1 q1) (he _)
theorem vals1{x:V}{us:List δ}(r:bt [x] us):∃u,us=[u]/\RelV x u:=by
 cases r with
 |cons r1 r2=>cases r2;exact⟨_,rfl,r1⟩
theorem vals2{x y:V}{us:List δ}(r:bt [x,y] us):∃u w',us=[u,w']/\RelV x u/\RelV y w':=by
 cases r with
 |cons r1 r2=>
  cases r2 with
  |cons r3 r4=>cases r4;exact⟨_,_,rfl,r1,r3⟩
theorem U1(hc:X.calm=true):ie X (.builtin "max") (fun xs H Q=>∃i j,xs=[.int i,.int j]/\Q (.int (if j > i then j else i)) H):=by
 intro pins s σ H xs us Q I r h;obtain⟨i,j,rfl,q⟩:=h;obtain⟨u,w',rfl,⟨t,rfl⟩,⟨t',rfl⟩⟩:=vals2 r;refine max_two_ints (I.ok.hd hc) fun h' tk k=>⟨_,H,I.kept k,?_,q⟩;by_cases hj:j > i
 ·rw[if_pos hj,if_pos hj];exact⟨_,rfl⟩
 ·rw[if_neg hj,if_neg hj];exact⟨_,rfl⟩
theorem U0(hc:X.calm=true):ie X (.builtin "min") (fun xs H Q=>∃i j,xs=[.int i,.int j]/\Q (.int (if j<i then j else i)) H):=by
 intro pins s σ H xs us Q I r h;obtain⟨i,j,rfl,q⟩:=h;obtain⟨u,w',rfl,⟨t,rfl⟩,⟨t',rfl⟩⟩:=vals2 r;refine min_two_ints (I.ok.hd hc) fun h' tk k=>⟨_,H,I.kept k,?_,q⟩;by_cases hj:j<i
 ·rw[if_pos hj,if_pos hj];exact⟨_,rfl⟩
 ·rw[if_neg hj,if_neg hj];exact⟨_,rfl⟩
theorem UZ:ie X (.type "int") (fun xs H Q=>(∃i,xs=[.int i]/\Q (.int i) H)∨∃k,xs=[.bl k]/\Q (.int (if k then 1 else 0)) H):=by
 intro pins s σ H xs us Q I r h;rcases h with⟨i,rfl,q⟩|⟨k,rfl,q⟩
 ·obtain⟨u,rfl,t,rfl⟩:=vals1 r;exact call_int_int ⟨.int i,H,I,⟨_,rfl⟩,q⟩
 ·obtain⟨u,rfl,r1⟩:=vals1 r;cases r1;exact call_int_bool ⟨.int (if k then 1 else 0),H,I.tok _,⟨_,rfl⟩,q⟩
end
end L2
namespace L2
open PySem PySem.Spec PyProof.Rows
theorem UY{h:au}{dx:ζ}{mA:ν->Option δ}(n:h.Ns1 dx mA):∃od,h.get? dx=some od/\∀name,qK name od=some (mA name):=by
 obtain⟨o,es,ep,ho,hd,hk,_,hm⟩:=n;refine⟨o,ho,fun name=>?_⟩;have e:=hm name;unfold nsFind findBy at e;rw[←Array.find?_toList] at e;unfold qK;rw[hd];dsimp only;split
 ·rename_i y q;rw[q] at e;exact congrArg some e
 ·rename_i q;rw[q] at e;have a:es.toList.any (·.refKey)=false:=by
   rw[List.any_eq_false];intro y hy;obtain⟨z,t,hkey⟩:=hk y (ee.mp hy);simp[DictEntry.refKey,hkey]
  have a':¬es.toList.any (·.refKey)=true:=by rw[a];exact Ψ
  rw[if_neg a'];exact congrArg some e
theorem rS.some_of{v:V}{o:Option δ}(r:rS (some v) o):∃u,o=some u/\RelV v u:=by
 cases o with
 |none=>exact (show False from r).elim
 |some u=>exact⟨u,rfl,r⟩
section
variable {X:Cx} {pins:List (ζ×aW)} {σ:St} {H:Hp} {s:η} {a C dx:ζ} {fs:List (ν×V)} {f:ν} {v:V} {A:aF} {E:δ->η->Prop}
theorem UX{prog:Ω}{w:aw}{env:cW}{e:υ}{f:ν}{pos:aV}{s:η}{Q:δ->η->Prop}(hb:attributeBase e f env (eval e env)=eval e env)
  (h:ρ (model prog w) A (eval e env) (fun o s₁=>ρ (model prog w) A (getAttr o f true) Q E s₁) E s):ρ (model prog w) A (eval (.Attribute e f pos) env) Q E s:=
 Attribute_any_ h (by rw[arm_eval_Attribute,hb])
end
end L2
namespace L2
open PySem PySem.Spec PyProof.Rows
structure dz(k:Nat)(A:aF):Prop where
 hd:A.handled=none
 dp:A.depth+3*k+5<recursionLimit
 un:A.units+16*k+200<cLine
theorem dz.mono{j k:Nat}{A:aF}(r:dz k A)(h:j≤k):dz j A:=⟨r.hd,by have:=r.dp;lia,by have:=r.un;lia⟩
theorem dz.deeper{k:Nat}{A:aF}(r:dz (k+1) A)(env:cW):dz k (A.deeper env):=
 ⟨r.hd,by have:=r.dp;show A.depth+1+3*k+5<_;lia,by have:=r.un;show A.units+3+16*k+200<_;lia⟩
theorem UW{A:aF}{C:ζ}{us:List δ}{kw:List (ν×δ)}:(A.under (.builtin "type.__call__" ⟨.ref C::us,kw⟩)).depth=A.depth+1:=by
 first|rfl|simp[aF.under,Code.weight,Code.isCreation,Code.isGuard,Code.isCaller,Code.frames,Code.isFrame,guardIds]
theorem dz.depth{k:Nat}{A:aF}(r:dz k A):A.depth<recursionLimit:=by have:=r.dp;lia
theorem dz.units{k:Nat}{A:aF}(r:dz k A):A.units+64<cLine:=by have:=r.un;lia
theorem dz.sQ{k:Nat}{A:aF}(r:dz k A):A.units<cLine:=by have:=r.un;lia
def FU:TA:=fun _ H Q=>Q [] H
def zI(ta:TE)(tr:TA):TA:=fun σ H Q=>ta σ H fun x H1=>tr σ H1 fun xs H2=>Q (x::xs) H2
section
variable {X:Cx} {e:υ} {es:List υ} {te:TE} {t:TA} {pos:aV}
theorem qd:PA X [] FU:=fun _ _ _ _ H Q I h=>uE ⟨[],H,I,.nil,h⟩
theorem mw(ha:PE X e te)(hr:PA X es t)(hs:bK (e::es) X.env=(false,eval e X.env)::bK es X.env:=by rfl):PA X (e::es) (zI te t):=by
 intro pos pins s σ H Q I h;rw[hs];show ρ _ _ (spliced ((false,eval e X.env)::backTo pos (bK es X.env))) _ _ s;refine uc (bS (ha pins s σ H _ I h) fun u s1 ⟨x,H1,I1,r1,q1⟩=>?_);exact bS (hr pos pins s1 σ H1 _ I1 q1) fun us s2 ⟨xs,H2,I2,r2,q2⟩=>⟨x::xs,H2,I2,.cons r1 r2,q2⟩
def Mr(t:TA):TE:=fun σ H Q=>t σ H fun xs H1=>xs.length≤aC/\∀p,H1 p=none->Q (.ref p) (upd H1 p (.tup xs))
def Mv(t:TA):TE:=fun σ H Q=>t σ H fun xs H1=>xs.length≤aC/\∀p,H1 p=none->Q (.ref p) (upd H1 p (.lst xs))
theorem UU{x1}(h:PA X es t):PE X (.Tuple es x1 pos) (Mr t):=by
 intro pins s σ H Q I hq;refine wpAny_Tuple_spliced (bS (h pos pins s σ H _ I hq) fun us s1 ⟨xs,H1,I1,r,z,q⟩=>⟨by rw[←r.length];exact z,?_⟩);have hf:H1 s1.heap.objs.size=none:=I1.bI.fresh (Θ _);refine⟨.ref s1.heap.objs.size,upd H1 s1.heap.objs.size (.tup xs),I1.laid (t':=s1.toks) (fun b u e=>μ _ e) (Θ _) ?_,rfl,q _ hf⟩;exact⟨z,us,r,⟨_,aM _ rfl,rfl,⟨_,rfl⟩,rfl⟩⟩
theorem Ke(h:PA X es t):PE X (.List es pos) (Mv t):=by
 intro pins s σ H Q I hq;refine wpAny_List_spliced (bS (h pos pins s σ H _ I hq) fun us s1 ⟨xs,H1,I1,r,z,q⟩=>⟨by rw[←r.length];exact z,?_⟩);have hf:H1 s1.heap.objs.size=none:=I1.bI.fresh (Θ _);refine⟨.ref s1.heap.objs.size,upd H1 s1.heap.objs.size (.lst xs),I1.laid (t':=s1.toks) (fun b u e=>μ _ e) (Θ _) ?_,rfl,q _ hf⟩;exact⟨z,us,0,r,aM _ rfl⟩
end
abbrev Sp:=List V->Hp->VK->XK->Prop
abbrev qF:=List cW->Hp->η->XK->δ->η->Prop
structure tS(P:Ω)(w:aw)(K:θ)(mg:ν->Option δ)(base:au)(A:aF)(outer:List cW)(s:η)(H:Hp):Prop where
 frames:A.frames=some outer
 mod:Mod K mg base
 bs:∀b o,base.get? b=some o->s.heap.get? b=some o/\H b=none
 sj:base.objs.size≤s.heap.objs.size
 lN:s.heap.FunFrames base outer
 wY:∀b∈fK outer,H b=none
 bI:dM P w H s.heap
 bare:kg s.gens
def CE(outer:List cW)(P:Ω)(w:aw)(H:Hp)(s:η)(Q:VK)(u:δ)(s':η):Prop:=
 ∃v H',s'.os=s.os/\kg s'.gens/\Un (fK outer) [] H H' s.heap s'.heap/\dM P w H' s'.heap/\RelV v u/\Q v H'
def CR(CX:qF)(outer:List cW)(P:Ω)(w:aw)(H:Hp)(s:η)(Q:VK)(E:XK)(r:Result)(s':η):Prop:=
 match r with
 |.ok (.ret u)=>CE outer P w H s Q u s'
 |.ok _=>False
 |.error e=>CX outer H s E e s'
structure je(P:Ω)(w:aw)(K:θ)(mg:ν->Option δ)(base:au)(CX:qF)(k:Nat)(f:ζ)(fd:aB)(ps:List ν)(sp:Sp):Prop where
 len:∀vs H Q E,sp vs H Q E->vs.length=ps.length
 run:∀(A:aF) (outer:List cW) (s:η) (H:Hp) (args:Args) (us:List δ) (vs:List V) (Q:VK) (E:XK),dz k A->tS P w K mg base A outer s H->oG s fd args (ps.zip us)->bt vs us->sp vs H Q E ->
  iu (model P w) A (.call (.ref f) args) (CR CX outer P w H s Q E) s
theorem je.mono{P:Ω}{w:aw}{K:θ}{mg:ν->Option δ}{base:au}{CX:qF}{j k:Nat}{f:ζ}{fd:aB}{ps:List ν}{sp:Sp}(F:je P w K mg base CX j f fd ps sp)(h:j≤k):
  je P w K mg base CX k f fd ps sp:=⟨F.len,fun A outer s H args us vs Q E hr=>F.run A outer s H args us vs Q E (hr.mono h)⟩
theorem je.imp{P:Ω}{w:aw}{K:θ}{mg:ν->Option δ}{base:au}{CX:qF}{k:Nat}{f:ζ}{fd:aB}{ps:List ν}{sp sp':Sp}(F:je P w K mg base CX k f fd ps sp)
  (h:∀vs H Q E,sp' vs H Q E->sp vs H Q E):je P w K mg base CX k f fd ps sp':=
 ⟨fun vs H Q E q=>F.len vs H Q E (h _ _ _ _ q),fun A outer s H args us vs Q E hr he hb hv hs=>F.run A outer s H args us vs Q E hr he hb hv (h _ _ _ _ hs)⟩
section
variable {X:Cx} {pins:List (ζ×aW)} {σ:St} {H:Hp} {s s':η}
theorem Inv.K5(I:Inv X pins σ H s):tS X.prog X.w X.K X.mg X.base X.A X.stack s H:=
 ⟨I.ok.frames,I.ok.mod,I.bs,bB I.ok.sj I.sz,I.stack,I.gS,I.bI,I.bare⟩
theorem Inv.after{Q:VK}{u:δ}(I:Inv X pins σ H s)(h:CE X.stack X.prog X.w H s Q u s'):EP X pins σ Q u s':=by
 obtain⟨v,H',os,bare,un,bI,r,q⟩:=h;obtain⟨hh,g,d,t,os'⟩:=s';obtain rfl:os'=s.os:=os;exact⟨v,H',I.call (h':=hh) (g':=g) (d':=d) (t':=t) (ch:=[]) un bI bare (fun b z=>absurd z (by simp)),r,q⟩
end
def zJ(sp:Sp)(dvs:List V)(E:XK)(t:TA):TE:=fun σ H Q=>t σ H fun vs H1=>sp (vs++dvs) H1 Q E
def Binds(K:θ)(fd:aB)(ps:List ν)(ds:List δ):Prop:=
 ∀(s:η) (us:List δ),K.In s.heap->(us++ds).length=ps.length->oG s fd ⟨us,[]⟩ (ps.zip (us++ds))
theorem Binds.all{K:θ}{fd:aB}{ps:List ν}(h:∀us:List δ,us.length=ps.length->bindArgs fd ⟨us,[]⟩=pure (ps.zip us)):Binds K fd ps []:=fun s us _ hl=>by
 rw[bF] at hl ⊢;exact .of_eq (h us hl)
def jS(CX:qF)(X:Cx)(E:XK):Prop:=∀(pins:List (ζ×aW)) (σ:St) (H:Hp) (s:η) (e:δ) (s':η),Inv X pins σ H s->CX X.stack H s E e s'->X.xe e s'
section
variable {X:Cx} {CX:qF} {k:Nat} {f C:ζ} {fd:aB} {ps:List ν} {sp:Sp} {dvs:List V} {ds:List δ} {E:XK} {x m:ν} {p pos apos:aV} {e o:υ} {es:List υ} {ta:TE} {t:TA}
theorem UT{pins:List (ζ×aW)}{σ:St}{H:Hp}{s:η}{Q:VK}{us:List δ}{vs:List V}(F:je X.prog X.w X.K X.mg X.base CX k f fd ps sp)(hr:dz k X.A)(hb:Binds X.K fd ps ds)(hd:bt dvs ds)(hx:jS CX X E)
  (I:Inv X pins σ H s) (r:bt vs us) (h:sp (vs++dvs) H Q E):ρ (model X.prog X.w) X.A (call (.ref f) us) (EP X pins σ Q) X.xe s:=by
 have r2:bt (vs++dvs) (us++ds):=r.append hd;have hl:(us++ds).length=ps.length:=by rw[←r2.length];exact F.len _ _ _ _ h
 refine gv (dP (F.run X.A X.stack s H ⟨us,[]⟩ (us++ds) (vs++dvs) Q E hr I.K5 (hb s us I.gI hl) r2 h) fun r s' hq=>?_);cases r with
 |error e=>exact hx pins σ H s e s' I hq
 |ok fl=>
  cases fl with
  |ret u=>exact I.after hq
  |next=>exact bU hq
  |brk=>exact bU hq
  |cont=>exact bU hq
theorem US(F:je X.prog X.w X.K X.mg X.base CX k f fd ps sp)(hr:dz k X.A)(hg:Gl X x)(hm:X.mg x=some (.ref f))(hk:bN X.K (.ref f)=true)(hb:Binds X.K fd ps ds)(hd:bt dvs ds)(hx:jS CX X E)
  (ha:PA X (e::es) t) (hdb:(x==("__debug__":ν))=false:=by decide) (he:bK (e::es) X.env=(false,eval e X.env)::bK es X.env:=by rfl) (hpl:(backTo pos (bK es X.env)).any (·.1)=false:=by rfl):
  PE X (.Call (.Name x p) (e::es) [] pos) (zJ sp dvs E t):=by
 intro pins s σ H Q I h;refine dO (rh I hg hm ?_ hdb);refine fQ (h₀:=X.base) I.ok.mod.tz hk (bS (ha pos pins s σ H _ I h) fun us s1 ⟨vs,H1,I1,r,q⟩=>⟨I1.gI,?_⟩) he hpl;exact UT F hr hb hd hx I1 r q
end
structure bP(N P:List ν)(sc:fh):Prop where
 kind:sc.kind=.function
 co:sc.isCoroutine=false
 gen:sc.isGenerator=false
 nd:N.Nodup
 pre:N.take P.length=P
 par:∀x∈P,sc.names.lookup x=some .local∨sc.names.lookup x=some .cell
 KI:∀y∈sc.names,y.2≠.free
theorem Kd{kindOf:ν->Option fH}{x:ν}:∀{binds:List (ν×δ)} {m:ν->Option δ},(∀v,(x,v)∉binds)->bindL kindOf binds m x=m x
 |[],_,_=>rfl
 | (n,v)::r,m,h=>by
  unfold bindL;rw[Kd fun w hw=>h w (ai _ hw)];split
  ·have:x≠n:=by rintro rfl;exact h v aj
   simp[this]
  ·rfl
theorem Kc{kindOf:ν->Option fH}{x:ν}:∀{binds:List (ν×δ)} {m:ν->Option δ},(∀v,(x,v)∉binds)->bindC kindOf binds m x=m x
 |[],_,_=>rfl
 | (n,v)::r,m,h=>by
  unfold bindC;rw[Kc fun w hw=>h w (ai _ hw)];split
  ·rfl
  ·have:x≠n:=by rintro rfl;exact h v aj
   simp[this]
theorem AG{kindOf:ν->Option fH}{x:ν}{v:δ}:∀{P:List ν} {vs:List δ} {i:Nat} {m:ν->Option δ},P.Nodup->P[i]?=some x->vs[i]?=some v->kindOf x=some .local ->
  bindL kindOf (P.zip vs) m x=some v
 |[],_,_,_,_,h,_,_=>by simp at h
 |_::_,[],_,_,_,_,h,_=>by simp at h
 |p::P,w::vs,0,m,nd,h1,h2,hk=>by
  simp at h1 h2;subst h1;subst h2;show bindL kindOf ((p,w)::P.zip vs) m p=_;unfold bindL;rw[Kd fun v hv=>(fi.mp nd).1 (gg hv).1,if_pos hk];simp
 |p::P,w::vs,i+1,m,nd,h1,h2,hk=>by
  show bindL kindOf ((p,w)::P.zip vs) m x=_;unfold bindL;exact AG (i:=i) (fi.mp nd).2 (by simpa using h1) (by simpa using h2) hk
theorem Kb{kindOf:ν->Option fH}{x:ν}{v:δ}:∀{P:List ν} {vs:List δ} {i:Nat} {m:ν->Option δ},P.Nodup->P[i]?=some x->vs[i]?=some v->kindOf x≠some .local ->
  bindC kindOf (P.zip vs) m x=some v
 |[],_,_,_,_,h,_,_=>by simp at h
 |_::_,[],_,_,_,_,h,_=>by simp at h
 |p::P,w::vs,0,m,nd,h1,h2,hk=>by
  simp at h1 h2;subst h1;subst h2;show bindC kindOf ((p,w)::P.zip vs) m p=_;unfold bindC;rw[Kc fun v hv=>(fi.mp nd).1 (gg hv).1,if_neg hk];simp
 |p::P,w::vs,i+1,m,nd,h1,h2,hk=>by
  show bindC kindOf ((p,w)::P.zip vs) m x=_;unfold bindC;exact Kb (i:=i) (fi.mp nd).2 (by simpa using h1) (by simpa using h2) hk
def start(N:List ν)(vs:List V):St:=vs.map some++bu (N.length-vs.length) none
def jO(CX:qF)(P:Ω)(w:aw)(K:θ)(mg:ν->Option δ)(base:au)(N:List ν)(qual:ν)(scope:fh)(f:ζ)(cd:δ)(A:aF)(outer:List cW)(s:η)(H:Hp)(E:XK):Cx where
 prog:=P
 w:=w
 K:=K
 mg:=mg
 base:=base
 A:=A.deeper (envOfC qual scope s.heap.objs.size f cd)
 N:=N
 s₀:=s
 H₀:=H
 env:=envOfC qual scope s.heap.objs.size f cd
 outer:=outer
 stack:=envOfC qual scope s.heap.objs.size f cd::outer
 ex:=[]
 calm:=true
 fn:=fun _=>true
 pn:=[]
 xe:=fun e s'=>ρ (model P w) (A.deeper (envOfC qual scope s.heap.objs.size f cd)) (leaving (envOfC qual scope s.heap.objs.size f cd) e) (fun _ s''=>CX outer H s E e s'') (fun e' s''=>CX outer H s E e' s'') s'
theorem Ka{sc:fh}{n:Nat}{x:ν}(h:sc.names.lookup x=some .cell):∃c,(cellsFrom n sc.names []).lookup x=some c:=by
 have q:=kH sc.names n [] (.inl h);exact jX.mp q
theorem J9{CX:qF}{P:Ω}{w:aw}{K:θ}{mg:ν->Option δ}{base:au}{N ps:List ν}{qual:ν}{scope:fh}{f:ζ}{cd:δ}{A:aF}{outer:List cW}{s s1:η}{H:Hp}{E:XK}{us:List δ}{vs:List V}
  (S:bP N ps scope) (hd:A.handled=none) (e0:tS P w K mg base A outer s H) (hl:vs.length=ps.length) (r:bt vs us)
  (x:InCallC s s.heap.objs.size (bindL (envOfC qual scope s.heap.objs.size f cd).kindOf (ps.zip us) fun _=>none) (cellsFrom (s.heap.objs.size+1) scope.names []) (bindC (envOfC qual scope s.heap.objs.size f cd).kindOf (ps.zip us) fun _=>none) s1):
  Inv (jO CX P w K mg base N qual scope f cd A outer s H E) [] (start N vs) H s1:=by
 have hpl:ps.length≤N.length:=by have:=congrArg hU S.pre;rw[br] at this;lia
 obtain⟨h1,tk,rfl,hk⟩:=x.done;have noA:∀b:ζ,b∉(jO CX P w K mg base N qual scope f cd A outer s H E).ex:=fun b z=>absurd (show b∈([]:List ζ) from z) (by simp);refine⟨⟨e0.mod,S.kind,rfl,rfl,Θ _,fun y z c h1 h2=>?_,fun y hy=>?_,fun y c _ h=>?_,fun _=>hd,sg e0.frames,.inr ⟨rfl,rfl⟩,fun b z=>absurd z (noA b),e0.bs,e0.sj,fun b _ _=>noA b,fun b z=>absurd z (noA b),e0.lN,e0.wY⟩,
  rfl,e0.bare,Un.kept hk,⟨_,x.toInCall.ns,fun i y v h1 h2 h3=>?_⟩,fun y c h=>⟨_,x.cell y c h⟩,e0.bI.fresh (Θ _),fun y c h=>?_,fun p hp=>absurd (show p∈([]:List (ζ×aW)) from hp) (by simp),e0.bI.kept hk,?_⟩
 ·exact name_of_addr x.apart (fA h1) (fA h2)
 ·have hy:scope.names.lookup y=some .cell∨scope.names.lookup y=some .free:=hy;rcases hy with hy|hy
  ·exact Ka hy
  ·exact absurd rfl (S.KI _ (fA hy))
 ·exact pC (x.above y c (fA h))
 ·have hi:i<vs.length:=by
   unfold start at h2;by_cases hi:i<vs.length
   ·exact hi
   ·rw[bD (by simpa using hi)] at h2;rw[kr] at h2;split at h2<;>cases h2
  have ha:vs[i]?=some v:=by
   unfold start at h2;rw[cB (by simpa using hi),aT] at h2;cases e:vs[i]? with
   |none=>rw[e] at h2;cases h2
   |some a=>rw[e] at h2;cases h2;rfl
  obtain⟨u,hu,rv⟩:=r.get ha;have hp:ps[i]?=some y:=by
   rw[←S.pre,dQ (by lia)];exact h1
  have ndP:ps.Nodup:=by rw[←S.pre];exact S.nd.sublist (dw _ _)
  refine⟨u,rv,?_⟩;rcases S.par y (bH hp) with k|k
  ·exact .inl ⟨k,AG ndP hp hu k⟩
  ·obtain⟨c,e⟩:=Ka (n:=s.heap.objs.size+1) k;refine .inr ⟨.inl k,c,e,?_⟩;have q:=x.cell y c e;rw[Kb ndP hp hu (by show scope.names.lookup y≠_;rw[k];decide)] at q;exact q
 ·exact e0.bI.fresh (pC (x.above y c (fA h)))
 ·unfold start;show _=N.length;rw[ψ,π,lA];lia
theorem J8{CX:qF}{P:Ω}{w:aw}{K:θ}{mg:ν->Option δ}{base:au}{k:Nat}{f:ζ}{name qual:ν}{params:Arguments}{body:List aY}{scope:fh}{dV kV doc pm cdv ct oc:δ}{an od:Option ζ}
  {osl:Array (Option δ)} {N ps:List ν} {sp:Sp} (lk:K.lookup f=some ⟨oc,od,.func (gM name qual params body scope dV kV doc pm an cdv ct),osl⟩) (iD:j9 K cdv qual=true) (S:bP N ps scope)
  (len:∀vs H Q E,sp vs H Q E->vs.length=ps.length)
  (gV:∀(A:aF) (outer:List cW) (s:η) (H:Hp) (vs:List V) (Q:VK) (E:XK),dz k (A.deeper (envOfC qual scope s.heap.objs.size f cdv))->sp vs H Q E ->
   ∃t,mX (jO CX P w K mg base N qual scope f cdv A outer s H E) body t/\t { nx:=fun _ H'=>Q .aO H',rt:=Q } (start N vs) H):
  je P w K mg base CX (k+1) f (gM name qual params body scope dV kV doc pm an cdv ct) ps sp:=by
 refine⟨len,fun A outer s H args us vs Q E hr e0 hb r tH=>?_⟩;have hl:=len _ _ _ _ tH;have KX:K.In s.heap:=e0.mod.tz.keeps fun b o e=>(e0.bs b o e).1;have lim:s.heap.NoLimit:=e0.mod.nolimit.keeps fun b o e=>(e0.bs b o e).1;have hkind:∀y∈ps.zip us,scope.names.lookup y.1=some .local∨(scope.names.lookup y.1=some .cell/\((cellsFrom (s.heap.objs.size+1) scope.names []).lookup y.1).isSome=true):=fun⟨n,v⟩ hy=>by
  rcases S.par n (gg hy).1 with q|q
  ·exact .inl q
  ·exact .inr ⟨q,kH _ _ _ (.inl q)⟩
 refine ls hr.depth (KX _ _ lk) rfl S.co S.gen rfl (mZ KX iD) (hb _ _ _ _ ?_);refine iY S.kind hkind fun env he s1 x=>?_;subst he;refine⟨lim.keeps x.toInCall.keep,codeAny_func ?_⟩;obtain⟨t,ht,hq⟩:=gV A outer s H vs Q E (hr.deeper _) tH;have I:Inv (jO CX P w K mg base N qual scope f cdv A outer s H E) [] (start N vs) H s1:=J9 S hr.hd e0 hl r x;refine b9 (ht [] s1 (start N vs) H _ I hq) (fun fl s' hs=>?_) fun e s' hs=>hs;have fin:∀{σ':St} {H':Hp} {v:V} {u:δ},Inv (jO CX P w K mg base N qual scope f cdv A outer s H E) [] σ' H' s'->RelV v u->Q v H'->CE outer P w H s Q u s':=
  fun {σ' H' v u} J rv q=>⟨v,H',J.os,J.bare,J.base,J.bI,rv,q⟩
 cases fl with
 |ret u=>
  obtain⟨v,σ',H',J,rv,q⟩:=hs;exact fin J rv q
 |next=>
  obtain⟨σ',H',J,q⟩:=hs;exact fin (v:=V.aO) (u:=bz) J rfl q
 |brk=>
  obtain⟨_,_,_,q⟩:=hs;exact bU q
 |cont=>
  obtain⟨_,_,_,q⟩:=hs;exact bU q
end L2
namespace L2
open PySem PySem.Spec PyProof.Rows
section
variable {X:Cx} {x:ν} {p pos:aV} {e:υ} {es:List υ} {t:TA} {id T:String} {r:List V->Hp->VK->Prop}
def BW(r:List V->Hp->VK->Prop)(t:TA):TE:=fun σ H Q=>t σ H fun vs H1=>r vs H1 Q
theorem oO(hc:ie X (.builtin id) r)(hg:Gl X x)(hm:X.mg x=none)(hv:gL x=some (.builtin id))(ha:PA X (e::es) t)(hn:x≠"__name__":=by decide)(hdb:(x==("__debug__":ν))=false:=by decide)
  (he:bK (e::es) X.env=(false,eval e X.env)::bK es X.env:=by rfl) (hpl:(backTo pos (bK es X.env)).any (·.1)=false:=by rfl):PE X (.Call (.Name x p) (e::es) [] pos) (BW r t):=by
 intro pins s σ H Q I h;refine dO (u9 I hg hm hv ?_ hn hdb);exact PyProof.Rows.callWith_builtin1 (bS (ha pos pins s σ H _ I h) fun us s1 ⟨vs,H1,I1,r1,q1⟩=>hc pins s1 σ H1 vs us Q I1 r1 q1) he hpl
theorem yl(hc:ie X (.type T) r)(hg:Gl X x)(hm:X.mg x=none)(hv:gL x=some (.type T))(ha:PA X (e::es) t)(hn:x≠"__name__":=by decide)(hdb:(x==("__debug__":ν))=false:=by decide)
  (he:bK (e::es) X.env=(false,eval e X.env)::bK es X.env:=by rfl) (hpl:(backTo pos (bK es X.env)).any (·.1)=false:=by rfl):PE X (.Call (.Name x p) (e::es) [] pos) (BW r t):=by
 intro pins s σ H Q I h;refine dO (u9 I hg hm hv ?_ hn hdb);exact eF (bS (ha pos pins s σ H _ I h) fun us s1 ⟨vs,H1,I1,r1,q1⟩=>hc pins s1 σ H1 vs us Q I1 r1 q1) he hpl
end
end L2
namespace HT
open PySem PyProof.Rows
def lexLt:List Int->List Int->Bool
 |[],[]=>false
 |[],_::_=>true
 |_::_,[]=>false
 |x::xs,y::ys=>if x=y then lexLt xs ys else decide (x<y)
theorem UR(x y:Int)(xs ys:List Int):lexLt (x::xs) (y::ys)=if x=y then lexLt xs ys else decide (x<y):=rfl
theorem UQ:lexLt [] []=false:=rfl
theorem UP(y:Int)(ys:List Int):lexLt [] (y::ys)=true:=rfl
theorem UO(x:Int)(xs:List Int):lexLt (x::xs) []=false:=rfl
theorem UN(A:aF)(s:η)(a:Int)(t:Tok)(c:Int)(u:Tok):∃e,SeqAt.EqAt A s (.int a t) (.int c u) e/\(e=true↔a=c):=
 ⟨(a==c),SeqAt.EqAt.int_int a t c u,by simp⟩
theorem UM(A:aF)(s:η)(a:Int)(t:Tok)(c:Int)(u:Tok)(prog:Ω)(w:aw)(E:δ->η->Prop)(Q:δ->η->Prop)(h:Q (.bool (decide (a<c))) s):
  ρ (model prog w) A (richCompare .Lt (.int a t) (.int c u)) Q E s:=
 (PyProof.Rows.lt_int h:ρ (model prog w) A (compareOp .Lt (.int a t) (.int c u)) Q E s)
section
open PySem.SeqAt
open PySem.AutoSeq1 (wpAny_loadPart')
open PySem.MeetsSeq PySem.MeetsSeq2 PySem.MeetsSeq3
theorem UL(l b:ζ)(items items2:Array δ)(n n2:Nat)(dd dd2:Option ζ)(sl sl2:Array (Option δ))(ns ms:List Int)(hi:gG items.toList ns)(hj:gG items2.toList ms):
  Meets (dI.«tuple.__lt__» ⟨[.ref l,.ref b],[]⟩)
   (fun _ R s=>s.heap.get? l=some { cls:=.type "tuple",dict:=dd,data:=.seq items n,slots:=sl }/\s.heap.get? b=some { cls:=.type "tuple",dict:=dd2,data:=.seq items2 n2,slots:=sl2 } ∧
    R (.ok (.ret (.bool (lexLt ns ms)))) s):=
 .of_wp fun prog w A R s h=>by
  obtain⟨hp,g,d,tk,os⟩:=s;obtain⟨hl,hb,h⟩:=h;have f2:=AutoSeq1.sub_tuple_tuple;have z1:items.size=ns.length:=by rw[←hi.length];simp
  have z2:items2.size=ms.length:=by rw[←hj.length];simp
  wp_walk using wpAny_loadPart' hl,wpAny_loadPart' hb,kZ _ (fun rest b s'=>b.1=none/\s'=⟨hp,g,d,tk,os⟩/\∃(vs ws:List δ) (ns' ms':List Int),rest=vs.zip ws ∧
   gG vs ns'/\gG ws ms'/\ns'.length+items2.size=ms'.length+items.size/\R (.ok (.ret (.bool (lexLt ns' ms')))) ⟨hp,g,d,tk,os⟩) _
  case turn=>
   rintro⟨y,x⟩ rest b s' ⟨hb',rfl,vs,ws,ns',ms',hz,hvi,hwi,hlen,hR⟩;cases hvi with
   |nil=>rw[List.zip_nil_left] at hz;cases hz
   |cons a t hvi'=>
    cases hwi with
    |nil=>rw[List.zip_nil_right] at hz;cases hz
    |cons c u hwi'=>
     rw[gZ] at hz;injection hz with hyx hrest;injection hyx with hy hx;subst hy hx;rw[UR] at hR;simp only[aE] at hlen;obtain⟨e,he,hiff⟩:=UN A.in1 ⟨hp,g,d,tk,os⟩ a t c u;refine ε (he prog w _ _ ?_);cases e with
     |true=>
      rw[if_pos (hiff.mp rfl)] at hR;wp_walk;exact⟨rfl,rfl,_,_,_,_,hrest,hvi',hwi',by lia,hR⟩
     |false=>
      rw[if_neg (fun q=>absurd (hiff.mpr q) Ψ)] at hR;have hri:=UM A.in1 ⟨hp,g,d,tk,os⟩ a t c u prog w;wp_walk using hri;exact⟨_,rfl,by simpa using hR⟩
  case fin=>
   rintro⟨b1,b2⟩ s' ⟨hb',rfl,vs,ws,ns',ms',hz,hvi,hwi,hlen,hR⟩;simp only at hb';subst hb';have hv:lexLt ns' ms'=decide (items.size<items2.size):=by
    cases hvi with
    |nil=>
     cases hwi with
     |nil=>
      simp only[dC] at hlen;rw[UQ];exact (decide_eq_false (by lia)).symm
     |cons c u hw=>
      simp only[dC,aE] at hlen;rw[UP];exact (decide_eq_true (by lia)).symm
    |cons a t hv=>
     cases hwi with
     |nil=>
      simp only[dC,aE] at hlen;rw[UO];exact (decide_eq_false (by lia)).symm
     |cons c u hw=>
      rw[gZ] at hz;cases hz
   rw[hv] at hR;wp_walk;exact⟨_,rfl,by simpa [dI.Tuple.tupleCompareSizes] using hR⟩
  case h=>
   exact⟨rfl,rfl,items.toList,items2.toList,ns,ms,rfl,hi,hj,by lia,h⟩
end
section
variable {prog:Ω} {w:aw} {A:aF} {E:δ->η->Prop} {s:η}
theorem A4{l b:ζ}{items items2:Array δ}{ns ms:List Int}{Q:δ->η->Prop}(hl:oo s.heap l items)(hb:oo s.heap b items2)(hi:gG items.toList ns)(hj:gG items2.toList ms)
  (hu:A.units<cLine) (h:Q (.bool (lexLt ns ms)) s):ρ (model prog w) A (compareOp .Lt (.ref l) (.ref b)) Q E s:=by
 obtain⟨⟨cls,dd,data,sl⟩,ho,hc,n,hd⟩:=id hl;obtain⟨⟨cls2,dd2,data2,sl2⟩,ho2,hc2,n2,hd2⟩:=id hb;simp only at hc hd hc2 hd2;subst hc hd hc2 hd2;exact richCompare_meets_room (op:=.Lt) ⟨_,ho,rfl⟩ ⟨_,ho2,rfl⟩ PySem.F.slot_tuple_lt PySem.F.entry_tuple_lt (PySem.F.args_tuple_lt_2 _ _) (UL l b items items2 n n2 dd dd2 sl sl2 ns ms hi hj)
  ⟨ho,ho2,show da (lexLt ns ms)≠δ.notImplemented/\Q (.bool (lexLt ns ms)) s from⟨(fun x=>nomatch x),h⟩⟩ hu
theorem FN{t b:ζ}{vs ws:List δ}{Q:δ->η->Prop}(ht:oo s.heap t vs.toArray)(hb:oo s.heap b ws.toArray)(hv:vs≠[])
  (h1:ws=[]->Q (.ref t) s) (h2:ws≠[]->Q (.ref s.heap.objs.size) { s with heap:=s.heap.push { cls:=.type "tuple",data:=.seq (vs++ws).toArray }})
  (fz:vs.length+ws.length≤aC):ρ (model prog w) A (binaryOp .Add (.ref t) (.ref b)) Q E s:=by
 obtain⟨⟨cls,dd,data,sl⟩,ho,hc,n,hd⟩:=id ht;obtain⟨⟨cls2,dd2,data2,sl2⟩,ho2,hc2,n2,hd2⟩:=id hb;simp only at hc hd hc2 hd2;subst hc hd hc2 hd2;have e:vs.toArray++ws.toArray=(vs++ws).toArray:=by simp
 by_cases hw:ws=[]
 ·exact concat_meets ⟨_,ho,rfl⟩ ⟨_,ho2,rfl⟩ pj sk kI ko (jV _ _)
   (tuple_addW1 t b vs.toArray ws.toArray n n2 dd dd2 sl sl2 (by simpa using hv) (by simp[hw])) ⟨ho,ho2,h1 hw⟩
 ·refine concat_meets ⟨_,ho,rfl⟩ ⟨_,ho2,rfl⟩ pj sk kI ko (jV _ _)
   (tuple_addW2 t b vs.toArray ws.toArray n n2 dd dd2 sl sl2 (by simpa using hv) (by simpa using hw) (by rw[Γ,Γ];exact fz)) ⟨ho,ho2,?_⟩
  rw[e];exact h2 hw
def cg(n d:Nat):Option Int->Nat
 |none=>d
 |some v=>if v<0 then (v+(n:Int)).toNat else min v.toNat n
theorem xE(n d:Nat):cg n d none=d:=rfl
theorem zk(n d k:Nat):cg n d (some (k:Int))=min k n:=by
 show (if (k:Int)<0 then ((k:Int)+(n:Int)).toNat else min (k:Int).toNat n)=min k n;rw[if_neg (by lia),Int.toNat_natCast]
theorem UK(n d:Nat)(hd:d≤n)(o:Option Int):cg n d o≤n:=by
 cases o with
 |none=>exact hd
 |some v=>
  show (if v<0 then (v+(n:Int)).toNat else min v.toNat n)≤n;by_cases hv:v<0
  ·rw[if_pos hv];lia
  ·rw[if_neg hv];exact Nat.min_le_right _ _
theorem J7(v:Int)(n d:Nat):(if v<0 then max (v+(n:Int)) 0 else min v (n:Int))=((cg n d (some v):Nat):Int):=by
 show (if v<0 then max (v+(n:Int)) 0 else min v (n:Int))=(((if v<0 then (v+(n:Int)).toNat else min v.toNat n):Nat):Int);by_cases hv:v<0
 ·simp only[if_pos hv];lia
 ·simp only[if_neg hv];lia
theorem UJ(lo hi:Option Int)(n:Nat):jz lo hi 1 (n:Int)=(((cg n 0 lo:Nat):Int),((cg n n hi:Nat):Int)):=by
 have h1:¬((1:Int)<0):=by lia
 unfold jz;simp only[h1,if_false];refine Prod.ext ?_ ?_
 ·cases lo with
  |none=>rfl
  |some v=>exact J7 v n 0
 ·cases hi with
  |none=>rfl
  |some v=>exact J7 v n n
theorem UI(i j:Nat):gx (i:Int) (j:Int) 1=j-i:=by
 unfold gx;have h1:(1:Int) > 0:=by lia
 simp only[h1,if_true,Int.ediv_one];split<;>lia
theorem J6{v:δ}{o:Option Int}{Q:Option Int->η->Prop}(p:md v o)(h:Q o s):ρ (model prog w) A (dI.Slice.slicePartIndex v) Q E s:=by
 cases p with
 |none=>exact slicePart_none h
 |int i t=>exact slicePart_int h
theorem oH{sl:ζ}{vl vu:δ}{lo hi:Option Int}{n:Nat}{Q:Int×Int×Nat->η->Prop}(hs:s.heap.IsSliceOf sl vl vu .none)(pl:md vl lo)(pu:md vu hi)
  (h:Q (((cg n 0 lo:Nat):Int),1,cg n n hi-cg n 0 lo) s):ρ (model prog w) A (nQ (.ref sl) (pure (n:Int))) Q E s:=by
 obtain⟨os,hos,hcs,hds⟩:=id hs;unfold nQ dI.Slice.sliceFields;refine ε (ε (dU hos hds (x:=vl) rfl (ε (dU hos hds (x:=vu) rfl (ε (dU hos hds (x:=.none) rfl (ο ?_)))))));refine ε (slicePart_none ?_);show ρ _ _ (if ((1:Int)==0)=true then _ else _) _ _ s;rw[if_neg (by decide)];refine ε (J6 pl (ε (J6 pu (ε (ο ?_)))));show ρ _ _ (match jz lo hi 1 (n:Int) with|(lo,hi)=>pure (lo,(1:Int),gx lo hi 1)) _ _ s
 rw[UJ lo hi n];show ρ _ _ (pure (((cg n 0 lo:Nat):Int),(1:Int),gx ((cg n 0 lo:Nat):Int) ((cg n n hi:Nat):Int) 1)) _ _ s;rw[UI];exact ο h
theorem UH(xs:Array δ)(i k:Nat):((bM k).filterMap fun (m:Nat)=>xs[((i:Int)+(m:Int)*1).toNat]?).toArray=((xs.toList.drop i).take k).toArray:=by
 have e:(fun (m:Nat)=>xs[((i:Int)+(m:Int)*1).toNat]?)=fun m=>xs[i+m]?:=by
  funext m;have:((i:Int)+(m:Int)*1).toNat=i+m:=by lia
  rw[this]
 rw[e];have:=pick_run xs i k;rw[ua] at this;have e2:((fun x=>xs[x]?) ∘ fun x=>i+x)=fun m=>xs[i+m]?:=rfl;rw[e2] at this;rw[this]
theorem uA{t sl:ζ}{items:Array δ}{vl vu:δ}{lo hi:Option Int}{Q:δ->η->Prop}(ht:oo s.heap t items)(hs:s.heap.IsSliceOf sl vl vu .none)(pl:md vl lo)(pu:md vu hi)
  (hw:¬(cg items.size 0 lo=0/\cg items.size items.size hi=items.size))
  (h:Q (.ref s.heap.objs.size) { s with heap:=s.heap.push { cls:=.type "tuple",data:=.seq ((items.toList.drop (cg items.size 0 lo)).take (cg items.size items.size hi-cg items.size 0 lo)).toArray }})
  (fz:items.size≤aC):ρ (model prog w) A (getItem (.ref t) (.ref sl)) Q E s:=by
 have htake:sizeOk (.seq ((items.toList.drop (cg items.size 0 lo)).take (cg items.size items.size hi-cg items.size 0 lo)).toArray):=by
  show ((items.toList.drop (cg items.size 0 lo)).take (cg items.size items.size hi-cg items.size 0 lo)).toArray.size≤aC;rw[Γ,br,bC,aN];lia
 have hj:cg items.size items.size hi≤items.size:=UK _ _ (Θ _) hi;obtain⟨os,hos,hcs,hds⟩:=id hs;have hTs:s.TypeIs (.ref sl) "slice":=⟨os,hos,hcs⟩;unfold getItem
 try with_reducible refine bT ?_
 first|refine ε (ο ?_)|skip
 refine ε (wpAny_sequenceKey ht.typeIs (by decide) ?_);refine ε (gR (name:=pk "__getitem__") ht.typeIs cL
  (dN cL ht.typeIs entry_tuple_getitem ?_ (args_tuple_getitem _ _)))
 show ρ _ _ (nP (.ref t) >>= _) _ _ s;refine ε (tupleItemsOf_ ht ?_);refine ε (jU hTs ?_);rw[if_pos (by decide)];refine ε (oH hs pl pu ?_);have hno:¬((((cg items.size 0 lo:Nat):Int)==0&&(1:Int)==1&&(cg items.size items.size hi-cg items.size 0 lo)==items.size)=true):=by
  intro q;rw[cA,cA] at q;have q1:((cg items.size 0 lo:Nat):Int)=0:=eq_of_beq q.1.1;have q2:cg items.size items.size hi-cg items.size 0 lo=items.size:=eq_of_beq q.2;exact hw ⟨by lia,by lia⟩
 show ρ _ _ (if (((cg items.size 0 lo:Nat):Int)==0&&(1:Int)==1&&(cg items.size items.size hi-cg items.size 0 lo)==items.size)=true then _ else _) _ _ s;rw[if_neg hno,UH]
 first
  |exact ε (m:=gN _) (cZ (ο ⟨_,rfl,ο h⟩) htake)
  |exact ε (m:=gN _) (cZ (ε (ο (ο ⟨_,rfl,ο h⟩))) htake)
  |exact ε (ε (m:=gN _) (cZ (ο (ο ⟨_,rfl,ο h⟩)) htake))
  |exact ε (ε (m:=gN _) (cZ (ο ⟨_,rfl,ο h⟩) htake))
end
end HT
namespace L2
open PySem PySem.Spec PyProof.Rows
abbrev TO:=St->Hp->(Option Int->Hp->Prop)->Prop
def PO(X:Cx)(e:Option υ)(t:TO):Prop:=
 ∀(pins:List (ζ×aW)) (s:η) (σ:St) (H:Hp) (Q:Option Int->Hp->Prop),Inv X pins σ H s->t σ H Q ->
  ρ (model X.prog X.w) X.A (evalPart e X.env) (fun u s'=>∃o H',Inv X pins σ H' s'/\md u o/\Q o H') X.xe s
def FC:TO:=fun _ H Q=>Q none H
def Lx(t:TE):TO:=fun σ H Q=>t σ H fun x H1=>∃i,x=.int i/\Q (some i) H1
theorem intsAre_of{ns:List Int}:∀{us:List δ},bt (ns.map V.int) us->gG us ns:=by
 induction ns with
 |nil=>intro us r;rw[List.map_nil] at r;cases r;exact .nil
 |cons n ns ih=>
  intro us r;rw[du] at r;cases r with
  |cons r1 r2=>
   obtain⟨t,e⟩:=r1;subst e;exact .cons n t (ih r2)
section
variable {X:Cx} {e:υ} {te:TE} {lo hi:Option υ} {tl th:TO} {pos p2:aV}
theorem UG:PO X none FC:=by
 intro pins s σ H Q I h;rw[evalPart_none];exact ο ⟨none,H,I,.none,h⟩
theorem UE(h:PE X e te):PO X (some e) (Lx te):=by
 intro pins s σ H Q I hw;rw[evalPart_some];refine bS (h pins s σ H _ I hw) fun u s1 ⟨x,H1,I1,r1,q1⟩=>?_;obtain⟨i,rfl,q⟩:=q1;obtain⟨t,rfl⟩:=r1;exact⟨some i,H1,I1,.int i t,q⟩
def xb(X:Cx)(r:V->Option Int->Option Int->Hp->VK->Prop):Prop:=
 ∀(pins:List (ζ×aW)) (s:η) (σ:St) (H:Hp) (x:V) (v vl vu:δ) (lo hi:Option Int) (sl:ζ) (Q:VK),Inv X pins σ H s->RelV x v->s.heap.IsSliceOf sl vl vu .none->md vl lo->md vu hi->r x lo hi H Q ->
  ∃T id,typeLookup (.type T) "__getitem__" = pure (some (.builtin id))/\s.TypeIs v T/\ρ (model X.prog X.w) X.A (getItem v (.ref sl)) (EP X pins σ Q) X.xe s
theorem xb.or{r r':V->Option Int->Option Int->Hp->VK->Prop}(h:xb X r)(h':xb X r'):xb X (fun x lo hi H Q=>r x lo hi H Q∨r' x lo hi H Q):=by
 intro pins s σ H x v vl vu lo hi sl Q I rx hs pl pu q;rcases q with q|q
 ·exact h pins s σ H x v vl vu lo hi sl Q I rx hs pl pu q
 ·exact h' pins s σ H x v vl vu lo hi sl Q I rx hs pl pu q
def W6(r:V->Option Int->Option Int->Hp->VK->Prop)(te:TE)(tl th:TO):TE:=fun σ H Q=>te σ H fun x H1=>tl σ H1 fun l H2=>th σ H2 fun u H3=>r x l u H3 Q
theorem UD{r:V->Option Int->Option Int->Hp->VK->Prop}(hr:xb X r)(he:PE X e te)(hl:PO X lo tl)(hu:PO X hi th):PE X (.Subscript e (.Slice lo hi none p2) pos) (W6 r te tl th):=by
 intro pins s σ H Q I h;refine Subscript_ (bS (he pins s σ H _ I h) fun v s1 ⟨x,H1,I1,r1,q1⟩=>?_);refine wpAny_Slice (bS (hl pins s1 σ H1 _ I1 q1) fun vl s2 ⟨l,H2,I2,pl,q2⟩=>bS (hu pins s2 σ H2 _ I2 q2) fun vu s3 ⟨u,H3,I3,pu,q3⟩=>?_);rw[evalPart_none];refine ο ?_;have I4:Inv X pins σ H3 { s3 with heap:=s3.heap.push { cls:=.type "slice",data:=.fields #[vl,vu,.none]}}:=I3.kept (t':=s3.toks) fun b ob q=>μ _ q;obtain⟨T,id,hT,ht,hg⟩:=hr pins { s3 with heap:=s3.heap.push { cls:=.type "slice",data:=.fields #[vl,vu,.none]}} σ H3 x v vl vu l u s3.heap.objs.size Q I4 r1 (au.IsSliceOf.new ..) pl pu q3;show ρ (model X.prog X.w) X.A (subscriptTail e (.Slice lo hi none p2) v (.ref s3.heap.objs.size)) (EP X pins σ Q) X.xe { s3 with heap:=s3.heap.push { cls:=.type "slice",data:=.fields #[vl,vu,.none]}};exact tail_any (ops:=[.ref s3.heap.objs.size,v]) ht hT hg (by with_unfolding_all rfl)
def tM(xs:List V)(lo hi:Option Int):List V:=(xs.drop (HT.cg xs.length 0 lo)).take (HT.cg xs.length xs.length hi-HT.cg xs.length 0 lo)
theorem J5(xs:List V)(lo hi:Option Int):(tM xs lo hi).length≤xs.length:=by
 unfold tM;rw[br,bC];lia
def MG(K:θ):V->Option Int->Option Int->Hp->VK->Prop:=fun x lo hi H Q=>∃a xs,x=.ref a/\dh K H a xs ∧
 ¬(HT.cg xs.length 0 lo=0/\HT.cg xs.length xs.length hi=xs.length)/\∀p,H p=none->Q (.ref p) (upd H p (.tup (tM xs lo hi)))
theorem FY:xb X (MG X.K):=by
 intro pins s σ H x v vl vu lo hi sl Q I rx hs pl pu h;obtain⟨a,xs,rfl,hx,hw,q⟩:=h;cases rx;obtain⟨its,r,ht,hz⟩:=I.tuple hx;have hlen:its.toArray.size=xs.length:=by rw[Γ];exact r.length.symm
 refine⟨"tuple",_,cL.lookup,ht.typeIs,?_⟩;refine HT.uA ht hs pl pu (by rw[hlen];exact hw) ?_ (by rw[hlen];exact hz);rw[hlen];refine⟨.ref s.heap.objs.size,_,I.laid (t':=s.toks) (o:=.tup (tM xs lo hi)) (fun b ob q=>μ _ q) (Θ _) ?_,rfl,q _ (I.bI.fresh (Θ _))⟩;exact⟨bB (J5 xs lo hi) hz,_,(r.drop (HT.cg xs.length 0 lo)).take (HT.cg xs.length xs.length hi-HT.cg xs.length 0 lo),kF.new _ _⟩
def Gc(K:θ):R2:=fun x y H Q=>∃a b ns ms,x=.ref a/\y=.ref b/\dh K H a (ns.map V.int)/\dh K H b (ms.map V.int)/\Q (.bl (HT.lexLt ns ms)) H
theorem UC(hu:X.A.units<cLine):eS X (compareOp .Lt) (Gc X.K):=by
 intro pins s σ H x y v u Q I rx ry h;obtain⟨a,b,ns,ms,rfl,rfl,ha,hb,q⟩:=h;cases rx;cases ry;obtain⟨its,r1,p1,_⟩:=I.tuple ha;obtain⟨its2,r2,p2,_⟩:=I.tuple hb;have i1:gG its.toArray.toList ns:=intsAre_of r1;have i2:gG its2.toArray.toList ms:=intsAre_of r2;exact HT.A4 p1 p2 i1 i2 hu ⟨.bl (HT.lexLt ns ms),H,I,rfl,q⟩
def EU(K:θ):R2:=fun x y H Q=>∃a b xs ys,x=.ref a/\y=.ref b/\dh K H a xs/\dh K H b ys/\xs≠[]/\xs.length+ys.length≤aC ∧
 (ys=[]->Q (.ref a) H)/\(ys≠[]->∀p,H p=none->Q (.ref p) (upd H p (.tup (xs++ys))))
theorem bt.wH{xs:List V}{us:List δ}(r:bt xs us):us=[]↔xs=[]:=by
 cases r with
 |nil=>simp
 |cons _ _=>simp
theorem FH:eS X (binaryOp .Add) (EU X.K):=by
 intro pins s σ H x y v u Q I rx ry h;obtain⟨a,b,xs,ys,rfl,rfl,ha,hb,hx,hz,q1,q2⟩:=h;cases rx;cases ry;obtain⟨its,r1,p1,_⟩:=I.tuple ha;obtain⟨its2,r2,p2,_⟩:=I.tuple hb;refine HT.FN p1 p2 (fun z=>hx (r1.wH.mp z)) (fun z=>⟨.ref a,H,I,rfl,q1 (r2.wH.mp z)⟩) (fun z=>?_) (by rw[←r1.length,←r2.length];exact hz);refine⟨.ref s.heap.objs.size,_,I.laid (t':=s.toks) (o:=.tup (xs++ys)) (fun b ob q=>μ _ q) (Θ _) ?_,rfl,q2 (fun w=>z (r2.wH.mpr w)) _ (I.bI.fresh (Θ _))⟩;exact⟨by rw[ψ];exact hz,_,r1.append r2,kF.new _ _⟩
end
end L2
namespace L2
open PySem PySem.Spec PyProof.Rows
def vH(n:Nat)(i:Int):Option Nat:=if 0≤i then (if i<n then some i.toNat else none) else if -(n:Int)≤i then some (i+n).toNat else none
def lp{α:Type}(xs:List α)(i:Int):Option α:=(vH xs.length i).bind fun j=>xs[j]?
theorem J4{n:Nat}{i:Int}{j:Nat}(h:vH n i=some j):seqIndex? i n=some j/\j<n/\-(n:Int)≤i/\i<n:=by
 unfold vH at h;by_cases h0:0≤i
 ·rw[if_pos h0] at h;by_cases h1:i<n
  ·rw[if_pos h1] at h;have e:i.toNat=j:=aD h;exact⟨by rw[seqIndex_of h0 h1,e],by lia,by lia,h1⟩
  ·rw[if_neg h1] at h;cases h
 ·rw[if_neg h0] at h;by_cases h1:-(n:Int)≤i
  ·rw[if_pos h1] at h;have e:(i+n).toNat=j:=aD h;exact⟨by rw[seqIndex_neg (by lia) h1,e],by lia,h1,by lia⟩
  ·rw[if_neg h1] at h;cases h
theorem D7{α:Type}{xs:List α}{i:Int}{v:α}(h:lp xs i=some v):∃j,seqIndex? i xs.length=some j/\xs[j]?=some v/\j<xs.length/\-(xs.length:Int)≤i/\i<xs.length:=by
 unfold lp at h;cases e:vH xs.length i with
 |none=>rw[e] at h;cases h
 |some j=>
  rw[e] at h;obtain⟨h1,h2,h3,h4⟩:=J4 e;exact⟨j,h1,h,h2,h3,h4⟩
theorem yk{α:Type}{xs:List α}{j:Nat}{v:α}(h:xs[j]?=some v):lp xs (j:Int)=some v:=by
 have hj:j<xs.length:=(ax.mp h).1;have e:vH xs.length (j:Int)=some j:=by
  unfold vH;rw[if_pos (by lia),if_pos (by lia)];simp
 unfold lp;rw[e];exact h
def qy(b:υ):Prop:=∀o i,subscripted b false o i=operate [o,i] (getItem o i)
def vT(X:Cx)(r:R2):Prop:=
 ∀(value slice:υ) (pins:List (ζ×aW)) (s:η) (σ:St) (H:Hp) (x y:V) (v u:δ) (Q:VK),Inv X pins σ H s->RelV x v->RelV y u->r x y H Q ->
  subscripted slice false v u=operate [v,u] (getItem v u)->ρ (model X.prog X.w) X.A (subscriptTail value slice v u) (EP X pins σ Q) X.xe s
def Cr(X:Cx)(id:String)(r:V->List V->Hp->VK->Prop):Prop:=
 ∀(pins:List (ζ×aW)) (s:η) (σ:St) (H:Hp) (x:V) (xs:List V) (v:δ) (us:List δ) (Q:VK),Inv X pins σ H s->RelV x v->bt xs us->r x xs H Q ->
  ρ (model X.prog X.w) X.A (call (.builtin id) (v::us)) (EP X pins σ Q) X.xe s
section
variable {X:Cx} {a b:υ} {ta tb:TE} {pos:aV}
theorem vT.or{r r':R2}(h:vT X r)(h':vT X r'):vT X (fun x y H Q=>r x y H Q∨r' x y H Q):=by
 intro value slice pins s σ H x y v u Q I rx ry q hs;rcases q with q|q
 ·exact h value slice pins s σ H x y v u Q I rx ry q hs
 ·exact h' value slice pins s σ H x y v u Q I rx ry q hs
theorem J3{r:R2}(hr:vT X r)(ha:PE X a ta)(hb:PE X b tb)(hs:qy b):PE X (.Subscript a b pos) (BV r ta tb):=by
 intro pins s σ H Q I h;exact Subscript_ (ED ha hb I h fun v u s2 x y H2 I2 rx ry q=>hr a b pins s2 σ H2 x y v u Q I2 rx ry q (hs _ _))
def Gh(K:θ):R2:=fun x y H Q=>∃p xs i v,x=.ref p/\y=.int i/\gJ K H p xs/\lp xs i=some v/\Q v H
def Gf(K:θ):R2:=fun x y H Q=>∃p xs i v,x=.ref p/\y=.int i/\dh K H p xs/\lp xs i=some v/\Q v H
def Gg:R2:=fun x y H Q=>∃z i c,x=.str z/\y=.int i/\z.length≤aC/\lp z.cps.toList i=some c/\Q (.str ⟨#[c]⟩) H
theorem FJ:vT X (Gh X.K):=by
 intro value slice pins s σ H x y v u Q I rx ry h hs;obtain⟨p,xs,i,z,rfl,rfl,hq,he,q⟩:=h;cases rx;obtain⟨t,rfl⟩:=ry;obtain⟨its,r,pl,hz⟩:=I.list hq;obtain⟨j,h1,h2,h3,h4,h5⟩:=D7 he;obtain⟨w,ew,rw'⟩:=r.get h2;have hl:=r.length;have hn:=qo;have fin:EP X pins σ Q w s:=⟨z,H,I,rw',q⟩;by_cases h0:0≤i
 ·have hj:i.toNat=j:=by
   rw[seqIndex_of h0 h5] at h1;exact aD h1
  exact item_listR pl.isList h0 (by lia) (by rw[hj];simpa using ew) fin hs
 ·have hj:(i+(its.toArray.size:Int)).toNat=j:=by
   rw[seqIndex_neg (by lia) h4] at h1;rw[Γ,←hl];exact aD h1
  exact subscriptTail_builtinR (x:=w) pl.isList.typeIs slot_list_getitem.lookup
   (wpAny_getItem_list_neg (Q:=fun r s'=>r=w/\EP X pins σ Q r s') pl.isList (by lia) (by rw[Γ]<;>lia) (by lia) (by rw[hj];simpa using ew) ⟨rfl,fin⟩) hs
theorem KW:vT X (Gf X.K):=by
 intro value slice pins s σ H x y v u Q I rx ry h hs;obtain⟨p,xs,i,z,rfl,rfl,hq,he,q⟩:=h;cases rx;obtain⟨t,rfl⟩:=ry;obtain⟨its,r,pl,hz⟩:=I.tuple hq;obtain⟨j,h1,h2,h3,h4,h5⟩:=D7 he;obtain⟨w,ew,rw'⟩:=r.get h2;have hl:=r.length;have hn:=qo;have fin:EP X pins σ Q w s:=⟨z,H,I,rw',q⟩;exact subscriptTail_builtinR (x:=w) pl.typeIs slot_tuple_getitem.lookup
  (getItem_tuple (j:=j) (Q:=fun r s'=>r=w/\EP X pins σ Q r s') pl (by lia) (by lia) (by rw[Γ,←hl];exact h1) (by simpa using ew) ⟨rfl,fin⟩) hs
theorem Ve:vT X Gg:=by
 intro value slice pins s σ H x y v u Q I rx ry h hs;obtain⟨z,i,c,rfl,rfl,hz,he,q⟩:=h;obtain⟨t,rfl⟩:=rx;obtain⟨t',rfl⟩:=ry;obtain⟨j,h1,h2,h3,h4,h5⟩:=D7 he;have hl:z.cps.toList.length=z.length:=by simp[ν.length]
 rw[hl] at h1 h4 h5;have hn:=qo;exact tail_any (typeIs_str s z t) slot_str_getitem.lookup (getItem_str (c:=c) (by
  have e1:decide (i < -(2^63:Int))=false:=decide_eq_false (by lia);have e2:decide (i≥2^63)=false:=decide_eq_false (by lia);rw[e1,e2,Bool.or_false]) (by rw[h1];simpa using h2) ⟨.str ⟨#[c]⟩,H,I.tok _,⟨_,rfl⟩,q⟩) hs
def Mh(K:θ):R2:=fun x y H Q=>Gh K x y H Q∨Gf K x y H Q∨Gg x y H Q
theorem J2:vT X (Mh X.K):=FJ.or (KW.or Ve)
theorem Vd(its:List δ)(n j:Nat)(u:δ):ba (·.setIfInBounds j u) { cls:=.type "list",data:=.seq its.toArray n }={ cls:=.type "list",data:=.seq (its.set j u).toArray n }:=by
 simp[ba]
theorem Inv.lst{pins:List (ζ×aW)}{σ:St}{H:Hp}{s:η}{p:ζ}{xs:List V}(I:Inv X pins σ H s)(h:H p=some (.lst xs)):
  ∃(its:List δ) (n:Nat),bt xs its/\s.heap.get? p=some { cls:=.type "list",data:=.seq its.toArray n }/\xs.length≤aC:=by
 obtain⟨z,its,n,r,e⟩:=I.bI p _ h;exact⟨its,n,r,e,z⟩
theorem Inv.KR{pins:List (ζ×aW)}{σ:St}{H:Hp}{s:η}{p:ζ}{xs ys:List V}{its its':List δ}{n n':Nat}{f:aW->aW}(I:Inv X pins σ H s)(h:H p=some (.lst xs))
  (ho:s.heap.get? p=some { cls:=.type "list",data:=.seq its.toArray n }) (hf:f { cls:=.type "list",data:=.seq its.toArray n }={ cls:=.type "list",data:=.seq its'.toArray n' }) (r:bt ys its') (hz:ys.length≤aC) (t:Nat):
  Inv X pins σ (upd H p (.lst ys)) { s with heap:=s.heap.update p f,toks:=t }:=by
 have e:(s.heap.update p f).get? p=some { cls:=.type "list",data:=.seq its'.toArray n' }:=by
  rw[cq f ho (by rw[hf]<;>rfl),hf]
 refine I.write (x:=p) (e:=p) (by rw[h];trivial) (.inl rfl) (fun b u hb q=>(bE _ _ (eV hb)).trans q) ⟨_,e⟩ ?_;exact⟨hz,its',n',r,e⟩
def ER:V->V->V->Hp->(Hp->Prop)->Prop:=fun o i v H Q=>∃p xs k j,o=.ref p/\i=.int k/\H p=some (.lst xs)/\vH xs.length k=some j/\Q (upd H p (.lst (xs.set j v)))
theorem set_list:Lf X ER:=by
 intro pins s σ H o i v ov iv u Q I ro ri rv h;obtain⟨p,xs,k,j,rfl,rfl,hp,hj,q⟩:=h;cases ro;obtain⟨t,rfl⟩:=ri;obtain⟨its,n,r,ho,hz⟩:=I.lst hp;obtain⟨h1,h2,h3,h4⟩:=J4 hj;have hl:=r.length;have hn:=qo;have I':Inv X pins σ (upd H p (.lst (xs.set j v))) { s with heap:=s.heap.update p (ba (·.setIfInBounds j u))}:=
  I.KR hp ho (Vd its n j u) (r.set rv j) (by rw[List.length_set];exact hz) s.toks
 by_cases h0:0≤k
 ·have hk:k.toNat=j:=by
   rw[seqIndex_of h0 h4] at h1;exact aD h1
  exact PySem.W.ki_setAt ho h0 (by lia) (by rw[Γ,←hl];exact h4) (by rw[hk];exact⟨_,I',q⟩)
 ·have hk:(k+(its.toArray.size:Int)).toNat=j:=by
   rw[seqIndex_neg (by lia) h3] at h1;rw[Γ,←hl];exact aD h1
  exact PySem.W.ki_setBack ho (by lia) (by rw[Γ,←hl];exact h3) (by lia) (by rw[hk];exact⟨_,I',q⟩)
theorem Vc(lo hi:Option Int)(n:Nat):(sliceBounds lo hi none n).1=((HT.cg n 0 lo:Nat):Int)/\(sliceBounds lo hi none n).2.1=((HT.cg n n hi:Nat):Int)/\(sliceBounds lo hi none n).2.2=1:=by
 refine⟨?_,?_,rfl⟩
 ·cases lo with
  |none=>simp[sliceBounds,HT.cg]
  |some i=>
   simp only[sliceBounds,HT.cg,vp,show (1:Int) > 0 by decide,if_true];by_cases h:i<0
   ·simp only[h,if_true]<;>lia
   ·simp only[h,if_false]<;>lia
 ·cases hi with
  |none=>simp[sliceBounds,HT.cg]
  |some i=>
   simp only[sliceBounds,HT.cg,vp,show (1:Int) > 0 by decide,if_true];by_cases h:i<0
   ·simp only[h,if_true]<;>lia
   ·simp only[h,if_false]<;>lia
theorem Vb(its:List δ)(lo hi:Option Int):slicePick its.toArray lo hi none=((its.drop (HT.cg its.length 0 lo)).take (HT.cg its.length its.length hi-HT.cg its.length 0 lo)).toArray:=by
 obtain⟨h1,h2,h3⟩:=Vc lo hi its.toArray.size;unfold slicePick;rw[h1,h2,h3];simp only[sliceRange_one,pick_run,Γ]<;>rfl
def MK(K:θ):V->Option Int->Option Int->Hp->VK->Prop:=fun x lo hi H Q=>∃a xs,x=.ref a/\gJ K H a xs/\∀p,H p=none->Q (.ref p) (upd H p (.lst (tM xs lo hi)))
theorem U9:xb X (MK X.K):=by
 intro pins s σ H x v vl vu lo hi sl Q I rx hs pl pu h;obtain⟨a,xs,rfl,hx,q⟩:=h;cases rx;obtain⟨its,r,ht,hz⟩:=I.list hx;have hlen:=r.length;refine⟨"list",_,slot_list_getitem.lookup,ht.isList.typeIs,?_⟩;refine wpAny_getItem_list_slice ht.isList hs pl pu .none (by simp) ?_ (by rw[Γ]<;>lia)
 rw[Vb,←hlen];refine⟨.ref s.heap.objs.size,_,I.laid (t':=s.toks) (o:=.lst (tM xs lo hi)) (fun b ob q=>μ _ q) (Θ _) ?_,rfl,q _ (I.bI.fresh (Θ _))⟩;exact⟨bB (J5 xs lo hi) hz,_,0,(r.drop (HT.cg xs.length 0 lo)).take (HT.cg xs.length xs.length hi-HT.cg xs.length 0 lo),aM _ rfl⟩
theorem U8:ie X (.builtin "len") (fun xs H Q=>∃p ys,xs=[.ref p]/\(gJ X.K H p ys∨dh X.K H p ys)/\Q (.int ys.length) H):=by
 intro pins s σ H xs us Q I r h;obtain⟨p,ys,rfl,hq,q⟩:=h;obtain⟨u,rfl,rx⟩:=vals1 r;cases rx;have hn:=qo;rcases hq with hq|hq
 ·obtain⟨its,r',pl,hz⟩:=I.list hq;have hlen:=r'.length;exact Calls.call_len_list pl.isList (by simp only[Γ]<;>lia) ⟨.int ys.length,H,I.tok _,⟨s.toks+1,by rw[Γ,hlen]⟩,q⟩
 ·obtain⟨its,r',pl,hz⟩:=I.tuple hq;have hlen:=r'.length;exact len_tuple pl (by simp only[Γ]<;>lia) ⟨.int ys.length,H,I.tok _,⟨s.toks+1,by rw[Γ,hlen]⟩,q⟩
theorem U7:ie X (.type "tuple") (fun xs H Q=>∃p ys,xs=[.ref p]/\((gJ X.K H p ys/\∀l,H l=none->Q (.ref l) (upd H l (.tup ys)))∨(dh X.K H p ys/\Q (.ref p) H))):=by
 intro pins s σ H xs us Q I r h;obtain⟨p,ys,rfl,h⟩:=h;obtain⟨u,rfl,rx⟩:=vals1 r;cases rx;rcases h with⟨hq,q⟩|⟨hq,q⟩
 ·obtain⟨its,r',pl,hz⟩:=I.list hq;have hlen:=r'.length;refine call_tuple_list pl.isList (fun h' kp=>?_) (by simp only[Γ]<;>lia)
  have I1:Inv X pins σ H { s with heap:=h' }:=I.kept (t':=s.toks) kp;have I2:Inv X pins σ (upd H h'.objs.size (.tup ys)) { s with heap:=h'.push { cls:=.type "tuple",data:=.seq its.toArray }}:=
   I1.laid (t':=s.toks) (fun b o e=>μ _ e) (Θ _) (show b8 X.prog X.w _ _ _ (.tup ys) from⟨hz,its,r',kF.new _ _⟩)
  exact⟨.ref h'.objs.size,_,I2,rfl,q _ (I1.bI.fresh (Θ _))⟩
 ·obtain⟨its,r',pl,hz⟩:=I.tuple hq;exact call_tuple_same pl ⟨.ref p,H,I,rfl,q⟩
def Mg(K:θ)(T:String)(x:V)(H:Hp):Prop:=match x with
 |.str _=>T="str"
 |.int _=>T="int"
 |.ref p=>(T="list"/\∃xs,gJ K H p xs)∨(T="tuple"/\∃o,K.lookup p=some o/\o.cls=.type "tuple"/\o.dict=none) ∨
   (T="dict"/\((∃kvs,H p=some (.dK kvs))∨∃kvs,H p=some (.dT kvs)))∨(T="set"/\∃S n,H p=some (.set S n))
 |_=>False
theorem U6{pins:List (ζ×aW)}{σ:St}{H:Hp}{s:η}{T:String}{x:V}{v:δ}(I:Inv X pins σ H s)(r:RelV x v)(ty:Mg X.K T x H):
  s.TypeIs v T/\∀a,v=.ref a->∃ob,s.heap.get? a=some ob/\ob.dict=none:=by
 cases x with
 |str z=>
  obtain⟨t,rfl⟩:=r;cases (show T="str" from ty);exact⟨typeIs_str s z t,fun _ e=>nomatch e⟩
 |int i=>
  obtain⟨t,rfl⟩:=r;cases (show T="int" from ty);exact⟨typeIs_int s i t,fun _ e=>nomatch e⟩
 |ref p=>
  cases r;rcases ty with⟨rfl,xs,hq⟩|⟨rfl,o,hk,hc,hd⟩|⟨rfl,hk⟩|⟨rfl,S,n,hk⟩
  ·obtain⟨its,_,pl,_⟩:=I.list hq;refine⟨pl.isList.typeIs,fun a e=>?_⟩;cases e;obtain⟨o,n,e,c,hd,_⟩:=pl;exact⟨o,e,hd⟩
  ·refine⟨⟨o,I.gI p o hk,hc⟩,fun a e=>?_⟩;cases e;exact⟨o,I.gI _ o hk,hd⟩
  ·have z:∃o,s.heap.get? p=some o/\o.ExactDict:=by
    rcases hk with⟨kvs,hk⟩|⟨kvs,hk⟩
    ·obtain⟨_,_,_,_,o,_,_,e,ex,_⟩:=I.bI p _ hk;exact⟨o,e,ex⟩
    ·obtain⟨_,_,_,_,o,_,_,e,ex,_⟩:=I.bI p _ hk;exact⟨o,e,ex⟩
   obtain⟨o,e,ex⟩:=z;refine⟨⟨o,e,ex.1⟩,fun a e2=>?_⟩;cases e2;exact⟨o,e,ex.2.1⟩
  ·obtain⟨o,_,_,_,e,ex,_⟩:=I.bI p _ hk;refine⟨⟨o,e,ex.1⟩,fun a e2=>?_⟩;cases e2;exact⟨o,e,ex.2.1⟩
 |_=>exact bU ty
def FW(K:θ)(T:String)(r:V->List V->Hp->VK->Prop)(to:TE)(t:TA):TE:=fun σ H Q=>to σ H fun x H1=>Mg K T x H1/\t σ H1 fun xs H2=>r x xs H2 Q
variable {o e:υ} {es:List υ} {to:TE} {t:TA} {name:ν} {apos cpos:aV} {T id:String} {r:V->List V->Hp->VK->Prop}
theorem U5(pa:PlainAttrs T)(slot:Slot T name id)(hty:typeOf (.builtin id)=pure (.type "method_descriptor"))(hm:Cr X id r)(ho:PE X o to)(ha:PA X (e::es) t)
  (rM:attributeBase o name X.env (eval o X.env)=eval o X.env:=by rfl)
  (Ef:((backTo cpos (bK (e::es) X.env)).all (fun x=>!x.1)&&(backToKw cpos (keywordEach [] X.env)).all (fun x=>x.1.isSome)
   && decide ((e::es).length+([]:List Keyword).length+(if ([]:List Keyword).isEmpty then 0 else 1)<30))=true:=by rfl)
  (A8:(apos.endLine==cpos.line)=true:=by rfl) (hs:bK (e::es) X.env=(false,eval e X.env)::bK es X.env:=by rfl) (hplain:(backTo cpos (bK es X.env)).any (·.1)=false:=by rfl):
  PE X (.Call (.Attribute o name apos) (e::es) [] cpos) (FW X.K T r to t):=by
 intro pins s σ H Q I h;refine wpAny_Call_method_late rM Ef A8 rfl (bS (ho pins s σ H _ I h) fun v s1 ⟨x,H1,I1,r1,ty,q1⟩=>?_);obtain⟨h1,h2⟩:=U6 I1 r1 ty;refine⟨T,id,pa,slot,hty,h1,h2,?_⟩;have hA:=ha cpos pins s1 σ H1 _ I1 q1;rw[hs] at hA ⊢;refine Calls.callWith_builtin (by show (false||(backTo cpos (bK es X.env)).any (·.1))=false;rw[hplain]<;>rfl) (Calls.evalArgs_plain ?_)
 exact bS hA fun us s2 ⟨vs,H2,I2,r2,q2⟩=>hm pins s2 σ H2 x vs v us Q I2 r1 r2 q2
/- xs.append(e),list.index on a module's tuple .. are Cr facts of 06m -/
end
end L2
namespace L2
open PySem PySem.Spec PyProof.Rows
def Li(X:Cx)(id:String)(r:V->List V->Hp->VK->Prop):Prop:=
 ∀(pins:List (ζ×aW)) (s:η) (σ:St) (H:Hp) (x:V) (xs:List V) (v:δ) (us:List δ) (Q:VK),Inv X pins σ H s->RelV x v->bt xs us->r x xs H Q ->
  ρ (model X.prog X.w) X.A (call (.builtin id) (v::us)) (EP X pins σ Q) X.xe s
theorem bt.one:∀{x:V} {us:List δ},bt [x] us->∃u,us=[u]/\RelV x u
 |_,_,.cons r .nil=>⟨_,rfl,r⟩
theorem bt.zero:∀{us:List δ},bt [] us->us=[]
 |_,.nil=>rfl
theorem bt.eraseIdx:∀{xs:List V} {us:List δ} (i:Nat),bt xs us->bt (xs.eraseIdx i) (us.eraseIdx i)
 |_,_,_,.nil=>.nil
 |_,_,0,.cons _ t=>t
 |_,_,i+1,.cons r t=>.cons r (bt.eraseIdx i t)
theorem bt.rep{xs:List V}{us:List δ}(h:bt xs us):∀k:Nat,bt (bu k xs).flatten (bu k us).flatten
 |0=>.nil
 |k+1=>by
  rw[fB,fB,eE,eE];exact bt.append h (bt.rep h k)
theorem D6{α:Type}:∀(l:List α) (i:Nat),(l.eraseIdx i).length≤l.length
 |[],_=>Θ _
 |_::_,0=>uL _
 |_::r,i+1=>Nat.succ_le_succ (D6 r i)
theorem foldl_rep(its:List δ):∀(k:Nat) (acc:List δ),
  v7 (fun x1 x2=>x1++x2) acc.toArray (bu k its.toArray)=(acc++(bu k its).flatten).toArray
 |0,acc=>by simp
 |k+1,acc=>by
  have e:acc.toArray++its.toArray=(acc++its).toArray:=by simp
  have e2:(acc++its)++(bu k its).flatten=acc++(bu (k+1) its).flatten:=by
   rw[fB,eE,aq]
  rw[←e2,←foldl_rep its k (acc++its),←e,fB,List.foldl_cons]
section
variable {X:Cx} {pins:List (ζ×aW)} {σ:St} {H:Hp} {s:η} {l b:ζ} {xs ys zs:List V}
theorem Inv.Ea{its its':List δ}{n:Nat}{f:Array δ->Array δ}{t':Nat}(I:Inv X pins σ H s)(hH:H l=some (.lst xs))
  (e:s.heap.get? l=some { cls:=.type "list",data:=.seq its.toArray n }) (hf:f its.toArray=its'.toArray) (hv:bt ys its') (hz:ys.length≤aC):
  Inv X pins σ (upd H l (.lst ys)) { s with heap:=s.heap.update l (ba f),toks:=t' }:=by
 have q:=PySem.IsL.update e f;rw[hf] at q;refine I.write (x:=l) (e:=l) (by rw[hH];exact trivial) (.inl rfl) (fun b' u hb hu=>(bE s.heap (ba f) (eV hb)).trans hu) ⟨_,q⟩ ?_;exact⟨hz,its',_,hv,q⟩
theorem Inv.Ed{its:List δ}{t':Nat}(I:Inv X pins σ H s)(hv:bt ys its)(hz:ys.length≤aC):
  Inv X pins σ (upd H s.heap.objs.size (.lst ys)) { s with heap:=s.heap.push { cls:=.type "list",data:=.seq its.toArray },toks:=t' }:=
 I.laid (fun _ _ q=>μ _ q) (Θ _) ⟨hz,its,0,hv,aM _ rfl⟩
theorem Inv.fresh(I:Inv X pins σ H s):H s.heap.objs.size=none:=I.bI.fresh (Θ _)
theorem Inv.rD(I:Inv X pins σ H s)(hH:H l=some (.lst xs)):xs.length≤aC/\∃(its:List δ) (n:Nat),bt xs its/\xs.length=its.length/\s.heap.get? l=some { cls:=.type "list",data:=.seq its.toArray n }:=by
 obtain⟨z,its,n,r,e⟩:=I.bI l _ hH;exact⟨z,its,n,r,r.length,e⟩
theorem yz{n:Nat}(h:n≤aC):gO n=false:=by
 unfold gO;exact decide_eq_false (by lia)
end
section
variable {X:Cx}
def zo:V->List V->Hp->VK->Prop:=fun x vs H Q=>∃l xs y,x=.ref l/\vs=[y]/\H l=some (.lst xs)/\xs.length<aC/\Q .aO (upd H l (.lst (xs++[y])))
theorem J1:Li X "list.append" zo:=by
 intro pins s σ H x vs v us Q I rx rv h;obtain⟨l,xs,y,rfl,rfl,hH,hz,q⟩:=h;cases rx;obtain⟨u,rfl,ru⟩:=rv.one;obtain⟨z,its,n,r,hl,e⟩:=I.rD hH;refine j7 F.slot_list_append ⟨_,e,rfl⟩ F.entry_list_append (F.args_list_append_2 _ _) (PySem.list_append l its.toArray n u (by rw[Γ];lia)) ⟨e,?_⟩;refine⟨.aO,_,I.Ea (its':=its++[u]) hH e (by simp) (r.append (.cons ru .nil)) ?_,rfl,q⟩;rw[ψ,dH];lia
def FE:V->List V->Hp->VK->Prop:=fun x vs H Q=>∃l b xs zs,x=.ref l/\vs=[.ref b]/\H l=some (.lst xs)/\H b=some (.lst zs)/\xs.length+zs.length≤aC/\Q .aO (upd H l (.lst (xs++zs)))
theorem XB:Li X "list.extend" FE:=by
 intro pins s σ H x vs v us Q I rx rv h;obtain⟨l,b,xs,zs,rfl,rfl,hH,hB,hz,q⟩:=h;cases rx;obtain⟨u,rfl,ru⟩:=rv.one;cases ru;obtain⟨z,its,n,r,hl,e⟩:=I.rD hH;obtain⟨z2,its2,n2,r2,hl2,e2⟩:=I.rD hB;have fz:its.toArray.size+its2.toArray.size≤aC:=by rw[Γ,Γ];lia
 have hlong:¬(!its.toArray.isEmpty&&gO (its.toArray.size+its2.toArray.size))=true:=by
  rw[yz fz,qV];exact Ψ
 refine j7 F.slot_list_extend ⟨_,e,rfl⟩ F.entry_list_extend (F.args_list_extend_2 _ _)
  (AutoSeq1.list_extend_list_list_0 l its.toArray n b its2.toArray n2 hlong (by rw[Γ];lia) (by lia)) ⟨e,e2,?_⟩
 refine⟨.aO,_,I.Ea (its':=its++its2) hH e (by simp) (r.append r2) ?_,rfl,q⟩;rw[ψ];lia
def B5:V->List V->Hp->VK->Prop:=fun x vs H Q=>∃l xs i k y,x=.ref l/\vs=[.int i]/\H l=some (.lst xs)/\-(2^63)≤i/\i<2^63/\seqIndex? i xs.length=some k/\xs[k]?=some y/\Q y (upd H l (.lst (xs.eraseIdx k)))
theorem J0:Li X "list.pop" B5:=by
 intro pins s σ H x vs v us Q I rx rv h;obtain⟨l,xs,i,k,y,rfl,rfl,hH,h1,h2,hk,hy,q⟩:=h;cases rx;obtain⟨u,rfl,ru⟩:=rv.one;obtain⟨t,rfl⟩:=ru;obtain⟨z,its,n,r,hl,e⟩:=I.rD hH;obtain⟨w,hw,rw'⟩:=r.get hy;refine j7 F.slot_list_pop ⟨_,e,rfl⟩ F.entry_list_pop (F.args_list_pop_2 _ _)
  (MeetsSeq.list_pop_at l its.toArray n i t k w (fitsIndex_both h1 h2) (by rw[Γ,←hl];exact hk) (by rw[←af];exact hw) (by rw[Γ];lia)) ⟨e,?_⟩
 refine⟨y,_,I.Ea (its':=its.eraseIdx k) hH e ?_ (r.eraseIdx k) ?_,rw',q⟩
 ·show its.toArray.eraseIdxIfInBounds k=(its.eraseIdx k).toArray;rw[List.eraseIdxIfInBounds_toArray]
 ·have:=D6 xs k;lia
def Gj:R2:=fun x y H Q=>∃l b xs zs,x=.ref l/\y=.ref b/\H l=some (.lst xs)/\H b=some (.lst zs)/\xs.length+zs.length≤aC/\∀p,H p=none->Q (.ref p) (upd H p (.lst (xs++zs)))
theorem KA:eS X (binaryOp .Add) Gj:=by
 intro pins s σ H x y v u Q I rx ry h;obtain⟨l,b,xs,zs,rfl,rfl,hH,hB,hz,q⟩:=h;cases rx;cases ry;obtain⟨z,its,n,r,hl,e⟩:=I.rD hH;obtain⟨z2,its2,n2,r2,hl2,e2⟩:=I.rD hB;refine PySem.P.add_list e e2 ?_ (by rw[Γ,Γ];lia);have ea:its.toArray++its2.toArray=(its++its2).toArray:=by simp
 rw[ea];exact⟨.ref _,_,I.Ed (t':=s.toks) (r.append r2) (by rw[ψ];lia),rfl,q _ I.fresh⟩
def FZ:R2:=fun x y H Q=>∃l k xs,x=.ref l/\y=.int k/\H l=some (.lst xs)/\-(2^63)≤k/\k<2^63/\xs.length*k.toNat≤aC ∧
 ∀p,H p=none->Q (.ref p) (upd H p (.lst (bu k.toNat xs).flatten))
theorem len_rep{α:Type}(xs:List α)(k:Nat):(bu k xs).flatten.length=k*xs.length:=by
 induction k with
 |zero=>simp
 |succ k ih=>rw[fB,eE,ψ,ih,Nat.succ_mul,Nat.add_comm]
theorem U4:eS X (binaryOp .Mult) FZ:=by
 intro pins s σ H x y v u Q I rx ry h;obtain⟨l,k,xs,rfl,rfl,hH,h1,h2,hz,q⟩:=h;cases rx;obtain⟨t,rfl⟩:=ry;obtain⟨z,its,n,r,hl,e⟩:=I.rD hH;have hlen:its.toArray.size*k.toNat≤aC:=by rw[Γ,←hl];exact hz
 have hcap:¬its.toArray.size*k.toNat > (2^63-1) / 8:=by
  have:(aC:Nat)≤(2^63-1) / 8:=by decide
  lia
 have hfit:¬(!dI.List.listFitsIndex k)=true:=by
  rw[fitsIndex_both h1 h2];exact Ψ
 have hlong:¬gO (its.toArray.size*k.toNat)=true:=by
  rw[yz hlen];exact Ψ
 have hnew:v7 (fun x1 x2=>x1++x2) #[] (bu (if its.toArray.isEmpty=true then 0 else k.toNat) its.toArray)=(bu k.toNat its).flatten.toArray:=by
  have f0:∀m:Nat,v7 (fun x1 x2=>x1++x2) #[] (bu m its.toArray)=(bu m its).flatten.toArray:=fun m=>by
   have:=foldl_rep its m [];rw[cS] at this;exact this
  rw[f0];cases its with
  |nil=>simp
  |cons a r'=>rw[if_neg (by simp)]
 refine wpAny_binaryOp_repeat_ref (T:="list") (U:="int") (by decide) ⟨_,e,rfl⟩ (fun s'=>typeIs_int s' k t) noFill_list_mul F.fills_int_mul F.slot_int_rmul repeat_list F.slot_int_index.lookup
  (j7 F.slot_int_rmul (typeIs_int s k t) F.entry_int_rmul (F.args_int_rmul_2 _ _) (int___rmul___int_list k t l its.toArray n)
   ⟨e,rfl,⟨_,e,rfl⟩,j7 F.slot_list_mul ⟨_,e,rfl⟩ F.entry_list_mul (F.args_list_mul_2 _ _) (AutoListH.list___mul___list_int_3 l its.toArray n k t hfit hcap hlong) ⟨e,?_⟩⟩)
 rw[hnew];exact⟨.ref _,_,I.Ed (t':=s.toks) (r.rep k.toNat) (by rw[len_rep,pz];exact hz),rfl,q _ I.fresh⟩
end
end L2
namespace Mp
open PySem PySem.W PySem.Calls PyProof.Rows
theorem Ur{P:Params}{h:au}:∀(ns:List Int) (vs:List δ),WellAll P h vs (ns.map WData.int)->gG vs ns:=by
 intro ns
 induction ns with
 |nil=>
  intro vs w;rw[List.map_nil] at w;cases w;exact .nil
 |cons n ns ih=>
  intro vs w;rw[du] at w;cases w with
  |cons a b=>
   cases a;exact .cons _ _ (ih _ b)
theorem Uq{l:OpenLaw}{n:Nat}(hn:l.most=some n){P:Params}{h:au}{args:List WData}{vals:List δ}
  (A7:l.row.toRowW.claim.pre args=true) (hwl:WellAll P h vals args):
  ∃a vs ns,vals=[bo a]/\args=[WData.list (ns.map WData.int)]/\h.get? a=some { cls:=.type "list",data:=.seq vs.toArray }/\gG vs ns/\ns.length≤n:=by
 have hsh:WShape.hasAll [] args [.list .int]=true:=(pre_splitW A7).1;have hc:l.pre.holds [] { args:=args }=true:=(pre_splitW A7).2;obtain⟨d,r,rfl,h1,h2⟩:=hasAllW_cons hsh;obtain rfl:=hasAllW_nil h2;obtain⟨xs,rfl,h3⟩:=hasW_list h1;obtain⟨ns,rfl⟩:=items_int h3;have hlen:ns.length≤n:=by
  unfold OpenLaw.pre at hc;have h4:(WTm.not (.lt (.lit (.int (n:Int))) (.len (.arg 0)))).holds [] { args:=[.list (ns.map .int)]}=true:=by
   have h4:=(holds_andW hc).1;rw[hn] at h4;exact h4
  have h5:=condW_of h4 (w_not (w_lt w_lit (w_len_list (w_arg rfl))));rw[π] at h5;refine Nat.le_of_not_lt fun q=>?_;have q':(n:Int)<((ns.length:Nat):Int):=by lia
  first
   | (rw[decide_eq_true q'] at h5;exact absurd h5 (by decide))
   | (simp at h5;lia)
 cases hwl with
 |cons w1 w2=>
  cases w2;cases w1 with
  |list ho hall=>exact⟨_,_,ns,rfl,rfl,ho,Ur ns _ hall,hlen⟩
theorem Up(l:OpenLaw)(args:List WData):l.row.toRowW.claim.post args (.bool true) args=true:=
 postW_of (r:=l.row.toRowW) (X:=(true==true))
  (show WShape.has [] (.bool true) .bool=true by first|rfl|decide|simp[WShape.has,WShape.arms,WShape.armsAll])
  (show (WTm.eq .res (.lit (.bool true))).value [] { args:=args,res:=some (.bool true),after:=args }=some (.bool (true==true)) from w_eq_bool (w_res rfl) w_lit) rfl
theorem zg{l:OpenLaw}{n:Nat}{q:Ω}{loose:List ν}{XP:(ν->Option δ)->au->Prop}{YP:aw->au->Prop}{d:DefRec}
  (hn:l.most=some n) (hdf:d.params.defaults=[])
  (call:∀(w:aw) (s₀ s₁:η) (mg mb:ν->Option δ) (fa:ζ) (o:aW) (pm cd doc:δ) (a:ζ) (vs:List δ) (ns:List Int),
   Ground q loose [] XP w s₀ mg mb s₁.heap->YP w s₁.heap ->
   s₁.heap.get? fa=some o->o.data=.func (docDef d.name d.params d.body d.scope pm cd doc)->s₁.heap.CodeRec cd d.name->mg d.name=some (.ref fa) ->
   s₁.heap.get? a=some { cls:=.type "list",data:=.seq vs.toArray }->gG vs ns->ns.length≤n->s₁.gens = #[] ->
   iu (model l.prog w) callerA (.call (.ref fa) ⟨[.ref a],[]⟩) (fun r s'=>r=.ok (.ret (.bool true))/\OldK s₁.heap s'.heap/\s'.os=s₁.os/\kg s'.gens) s₁):
  WalkO q loose XP YP l.row.toRowW d [] (fun f vs=>vX f vs):=by
 intro w s₀ s₁ mg mb G Y fa o pm cd doc dV kV ho hd iD hD hmg hg args vals as A7 hlay sh hwl hlo;obtain rfl:dV=.none:=Dflts.none hD hdf;obtain rfl:kV=.none:=Dflts.noKw hD;obtain⟨a,vs,ns,rfl,rfl,hobj,hints,hlen⟩:=Uq hn A7 hwl;refine enter_call (dP (call w s₀ s₁ mg mb fa o pm cd doc a vs ns G Y ho (fd_plain hd) iD hmg hobj hints hlen hg) fun r s' hq=>?_);obtain⟨rfl,h2,h3,h4⟩:=hq;exact⟨.inl ⟨.bool true,.bool true,[],rfl,fun _=>rfl,.bool true,Up l _,fun _=>⟨gm,fun _ hm=>(nomatch hm)⟩⟩,h2,h3,h4⟩
end Mp
namespace L2
open PySem PySem.Spec PyProof.Rows
theorem JZ:∀{vs:List δ} {ns:List Int},gG vs ns->bt (ns.map V.int) vs
 |_,_,.nil=>.nil
 |_,_,.cons n t h=>.cons ⟨t,rfl⟩ (JZ h)
def BN(H:Hp):Prop:=∀b,H b=none∨∃o xs,H b=some (.cP o (.lst xs))
theorem Uo{P:Ω}{w:aw}{K:θ}{mg mb:ν->Option δ}{CX:qF}{k:Nat}{fa a:ζ}{fd:aB}{x:ν}{sp:Sp}{s₁:η}{vs:List δ}{ns:List Int}
  (KX:K.In s₁.heap) (hns:s₁.heap.Ns aX mg) (hb:s₁.heap.Ns builtinsNs mb) (hbb:∀x:ν,x≠"__name__"->mb x=gL x) (hlim:s₁.heap.NoLimit) (hg:s₁.gens = #[])
  (ha:s₁.heap.get? a=some { cls:=.type "list",data:=.seq vs.toArray }) (hi:gG vs ns) (hl:ns.length≤aC) (hr:dz k callerA)
  (F:∀base:au,K.In base->base.Ns aX mg->je P w K mg base CX k fa fd [x] sp) (hbind:∀(s:η) (u:δ),oG s fd ⟨[u],[]⟩ [(x,u)])
  (tH:∀H:Hp,BN H->gJ K H a (ns.map V.int)->sp [.ref a] H (fun v _=>v=.bl true) fun _ _ _=>False)
  (KZ:∀H e s',CX [] H s₁ (fun _ _ _=>False) e s'->False):
  iu (model P w) callerA (.call (.ref fa) ⟨[.ref a],[]⟩) (fun r s'=>r=.ok (.ret (.bool true))/\OldK s₁.heap s'.heap/\s'.os=s₁.os/\kg s'.gens) s₁:=by
 have rv:=JZ hi;have lenV:=hi.length
 -- from an abstract heap in which nothing but the script may be tracked
 have core:∀H:Hp,BN H->gJ K H a (ns.map V.int)->dM P w H s₁.heap->(∀b,H b≠none->b=a)->(H a≠none->K.lookup a=none) ->
   iu (model P w) callerA (.call (.ref fa) ⟨[.ref a],[]⟩) (fun r s'=>r=.ok (.ret (.bool true))/\OldK s₁.heap s'.heap/\s'.os=s₁.os/\kg s'.gens) s₁:=by
  intro H hO hS bI hA hK;have base_of:∀{b:ζ} {o:aW},s₁.heap.get? b=some o->H b=none->(rL s₁.heap H).get? b=some o:=fun e n=>VU e n;have noA:∀{b:ζ} {o:aW} {es:Array DictEntry} {ep:Nat},s₁.heap.get? b=some o->o.data=.dict es ep->H b=none:=fun {b o es ep} e d=>by
   cases q:H b with
   |none=>rfl
   |some u=>
    have e':b=a:=hA b (by rw[q];simp);subst e';rw[ha] at e;cases e;have d':Data.seq vs.toArray _=Data.dict es ep:=d;cases d'
  have nsK:∀{b:ζ} {m:ν->Option δ},s₁.heap.Ns b m->(rL s₁.heap H).Ns b m:=fun {b m} ⟨o,es,ep,e,d,r⟩=>⟨o,es,ep,base_of e (noA e d),d,r⟩;have hKb:K.In (rL s₁.heap H):=fun b o e=>base_of (KX b o e) (by
   cases q:H b with
   |none=>rfl
   |some u=>
    have e':b=a:=hA b (by rw[q];simp);subst e';rw[hK (by rw[q];simp)] at e;cases e)
  have hM:Mod K mg (rL s₁.heap H):=⟨hKb,nsK hns,⟨mb,nsK hb,hbb⟩,let ⟨mc,h1,h2⟩:=hlim;⟨mc,nsK h1,h2⟩⟩
  have e0:tS P w K mg (rL s₁.heap H) callerA [] s₁ H:=⟨rfl,hM,fun b o e=>VT e,t7 (VV _ _),trivial,fun b hb=>absurd (show b∈([]:List ζ) from hb) (by simp),bI,.of_eq hg⟩;refine dP ((F _ hKb (nsK hns)).run callerA [] s₁ H ⟨[.ref a],[]⟩ [.ref a] [.ref a] _ _ hr e0 (hbind s₁ (.ref a)) (.cons rfl .nil) (tH H hO hS)) fun r s' h=>?_;cases r with
  |error e=>exact (KZ H e s' h).elim
  |ok fl=>
   cases fl with
   |next=>exact bU h
   |brk=>exact bU h
   |cont=>exact bU h
   |ret u=>
    obtain⟨v,H',os,bare,un,hok',r',q⟩:=h;have q':v=.bl true:=q;subst q';obtain rfl:u=da true:=r';refine⟨rfl,OldK.of_keep fun b o e=>?_,os,bare⟩;cases q:H b with
    |none=>exact un.keep b o e q (by intro z;exact absurd (show b∈([]:List ζ) from z) (by simp)) (by simp)
    |some u=>
     rcases hO b with z|⟨ob,xs,z⟩
     ·rw[q] at z;cases z
     ·have z2:=un.ip b ob _ z;obtain⟨e1,_⟩:=bI b _ z;obtain⟨e2,_⟩:=hok' b _ z2;rw[e] at e1;cases e1;exact e2
 cases hk:K.lookup a with
 |some o=>
  -- the script is one of the module's own objects
  have e:=KX a o hk;rw[ha] at e;cases e;refine core (fun _=>none) (fun _=>.inl rfl) (.inr ⟨_,vs.toArray,_,hk,rfl,rfl,rfl,by rw[Γ,lenV];exact hl,by simpa using rv⟩) (fun b u z=>by have z':(none:Option HO)=some u:=z;cases z') (fun b z=>absurd rfl z) fun z=>absurd rfl z
 |none=>
  refine core (fun b=>if b=a then some (.cP { cls:=.type "list",data:=.seq vs.toArray } (.lst (ns.map V.int))) else none) (fun b=>?_) (.inl (.inr ⟨{ cls:=.type "list",data:=.seq vs.toArray },if_pos rfl⟩)) (fun b u z=>?_) (fun b z=>?_) fun _=>hk
  ·by_cases hb:b=a
   ·exact .inr ⟨_,_,if_pos hb⟩
   ·exact .inl (if_neg hb)
  ·by_cases hb:b=a
   ·have z':=(if_pos hb).symm.trans z;cases z';subst hb;exact⟨ha,by rw[π];exact hl,vs,_,rv,ha⟩
   ·have z':=(if_neg hb).symm.trans z;cases z'
  ·by_cases hb:b=a
   ·exact hb
   ·exact absurd (if_neg hb) z
end L2
namespace L2
open PySem PySem.Spec PyProof.Rows
theorem zh{l:v5}{n k:Nat}{q:Ω}{loose:List ν}{XP:(ν->Option δ)->au->Prop}{YP:aw->au->Prop}{d:DefRec}{K:Params->θ}{CX:aw->qF}{sp:aw->Sp}{x:ν}
  (hn:l.most=some n) (hn2:n≤aC) (hdf:d.params.defaults=[]) (hr:dz k callerA)
  (hY:∀(w:aw) (h:au),YP w h->(K w.params).In h)
  (F:∀(w:aw) (mg:ν->Option δ) (fa:ζ) (h:au),(K w.params).In h->h.Ns aX mg->mg d.name=some (.ref fa) ->
   ∃fd:aB,(∀(s:η) (u:δ),oG s fd ⟨[u],[]⟩ [(x,u)]) ∧
    ∀base:au,(K w.params).In base->base.Ns aX mg->je l.prog w (K w.params) mg base (CX w) k fa fd [x] (sp w))
  (tH:∀(w:aw) (H:Hp) (a:ζ) (ns:List Int),ns.length≤n->BN H->gJ (K w.params) H a (ns.map V.int)->sp w [.ref a] H (fun v _=>v=.bl true) fun _ _ _=>False)
  (KZ:∀(w:aw) (H:Hp) (s:η) (e:δ) (s':η),CX w [] H s (fun _ _ _=>False) e s'->False):
  PySem.W.WalkO q loose XP YP l.row.toRowW d [] (fun f vs=>vX f vs):=by
 refine Mp.zg hn hdf fun w s₀ s₁ mg mb fa o pm cd doc a vs ns G Y ho hd iD hmg hobj hints hlen hg=>?_;have KX:=hY w _ Y;obtain⟨fd,hb,hF⟩:=F w mg fa _ KX G.T.g hmg;exact Uo KX G.T.g G.T.b G.T.builtins G.T.nolimit hg hobj hints (bB hlen hn2) hr hF hb (fun H hO hS=>tH w H a ns hlen hO hS) fun H e s'=>KZ w H s₁ e s'
end L2
/- THE LAST THEOREM (shape;LID,My.* are yours):
  My.Fz: a structure of the addresses that your layer names (classes,functions);My.Txt K t: a structure (Prop) of the equations over K;
  My.xt:{K} {implicit addresses ..} (e1:nsIn K aX "law" = some (some (.ref f))) (e2:K.lookup f=some ⟨oc,od,.func (fnOf "law" "law" params body scope dV kV doc pm an cdv ct),sl⟩) (e3:codeIn K cdv "law" = true) ..:∃t,My.Txt K t
set_option maxRecDepth 100000 in
set_option maxHeartbeats 0 in
theorem PySem.Challenge.cw_LID_holds : PySem.Challenge.rw_LID.Holds := by
 w_on;o_law;k_head;(case hw=>w_witness2)
 k_fill
 refine L2.zh (l:=PySem.Challenge.rw_LID) (n:=63) (k:=40) (x:="script") (CX:=fun w=>..) (sp:=fun _=>My.mV) rfl (by decide) rfl ⟨rfl,by decide,by decide⟩ (fun w h Y=>PySem.W.kIn_of Y) ?F ?S ?C
 case F=>
  intro w mg fa h KX G hmg
  have T:∃t,My.Txt (L2.KOf KX) t:=by
   dsimp only[L2.KOf]                          -- K must stand as «<heap const> w.params» for k_is
   refine' My.xt ?e1 ?e2 ?e3 ..
   (case e1=>PySem.W.k_is)                    -- in the order: a name -> its address -> its object -> its parts
   (case e2=>PySem.W.k_is)
   ..
  obtain⟨t,T⟩:=T
  have e0:=hmg.symm.trans (aK KX G T.law)
  cases e0                                       -- fa is the law's own address
  exact⟨_,fun s u=>.of_eq rfl,fun base kb nb=>My.law_fn T kb nb⟩     -- if «.of_eq rfl» comes too early: refine' ⟨_,?b,fun base kb nb=>My.law_fn T kb nb⟩;exact fun s u=>.of_eq rfl
 case S=>exact fun w H a ns hl hO hS=>..
 case C=>exact ..
(the tactic k_is has no namespace: write k_is) -/
namespace L2
open PySem PySem.Spec PyProof.Rows
def oA(s:aY):Arguments:=match s with
 |.FunctionDef _ a _ _ _ _ _ _ _ _=>a
 |_=>{ posonlyargs:=[],args:=[],vararg:=none,kwonlyargs:=[],kw_defaults:=[],kwarg:=none,defaults:=[]}
def fm(s:aY):List aY:=match s with
 |.FunctionDef _ _ b _ _ _ _ _ _ _=>b
 |_=>[]
def ar(s:aY):fh:=match s with
 |.FunctionDef _ _ _ _ _ _ sc _ _ _=>sc
 |_=>{ kind:=.function,names:=[],isGenerator:=false,isCoroutine:=false }
abbrev pT:qF:=fun _ _ _ _ _ _=>False
abbrev E0:XK:=fun _ _ _=>False
theorem LI{X:Cx}:jS pT X E0:=fun _ _ _ _ _ _ _ h=>h.elim
structure fv(K:θ)(x qual:ν)(st:aY)(f:ζ)(fd:aB):Prop where
 ex:∃(oc:δ) (od:Option ζ) (kV doc pm:δ) (an:Option ζ) (cdv ct:δ) (osl:Array (Option δ)),
  fd=gM x qual (oA st) (fm st) (ar st) .none kV doc pm an cdv ct/\K.lookup f=some ⟨oc,od,.func fd,osl⟩/\j9 K cdv qual=true
 kp:bN K (.ref f)=true
section
variable {P:Ω} {w:aw} {K:θ} {mg:ν->Option δ} {base:au}
theorem fv.ok{x qual:ν}{st:aY}{f:ζ}{fd:aB}{N ps:List ν}{k:Nat}{sp:Sp}(F:fv K x qual st f fd)(S:bP N ps (ar st))(len:∀vs H Q E,sp vs H Q E->vs.length=ps.length)
  (gV:∀(cdv:δ) (A:aF) (outer:List cW) (s:η) (H:Hp) (vs:List V) (Q:VK) (E:XK),dz k (A.deeper (envOfC qual (ar st) s.heap.objs.size f cdv))->sp vs H Q E ->
   ∃t,mX (jO pT P w K mg base N qual (ar st) f cdv A outer s H E).lj (fm st) t/\t { nx:=fun _ H'=>Q .aO H',rt:=Q } (start N vs) H):je P w K mg base pT (k+1) f fd ps sp:=by
 obtain⟨oc,od,kV,doc,pm,an,cdv,ct,osl,rfl,lk,iD⟩:=F.ex;refine J8 lk iD S len fun A outer s H vs Q E hr tH=>?_;obtain⟨t,h,q⟩:=gV cdv A outer s H vs Q E hr tH;exact⟨t,h.lj,q⟩
theorem fv.binds{x qual:ν}{st:aY}{f:ζ}{fd:aB}{ps:List ν}(F:fv K x qual st f fd)
  (h:∀(kV doc pm:δ) (an:Option ζ) (cdv ct:δ) (us:List δ),us.length=ps.length->bindArgs (gM x qual (oA st) (fm st) (ar st) .none kV doc pm an cdv ct) ⟨us,[]⟩=pure (ps.zip us)):Binds K fd ps []:=by
 obtain⟨oc,od,kV,doc,pm,an,cdv,ct,osl,rfl,lk,iD⟩:=F.ex;exact .all (h kV doc pm an cdv ct)
theorem Kx{x qual:ν}{st:aY}{f:ζ}{oc:δ}{od an:Option ζ}{osl:Array (Option δ)}{kV doc pm cdv ct:δ}(l:K.lookup f=some ⟨oc,od,.func (gM x qual (oA st) (fm st) (ar st) .none kV doc pm an cdv ct),osl⟩)
  (c:j9 K cdv qual=true) (k:bN K (.ref f)=true):fv K x qual st f (gM x qual (oA st) (fm st) (ar st) .none kV doc pm an cdv ct):=⟨⟨oc,od,kV,doc,pm,an,cdv,ct,osl,rfl,l,c⟩,k⟩
end
section
variable {X:Cx}
theorem pv(i:Nat){x:ν}{pos:aV}(hN:X.N[i]?=some x:=by rfl)(hv:La X.env.scope x:=by first|exact tX rfl|exact qO (tX rfl)|exact qO (qO rfl))(hd:(x==("__debug__":ν))=false:=by decide)
  (iD:(x==("__classdict__":ν))=false:=by decide):PE X (.Name x pos) (zH i):=VS hN hv hd iD
end
end L2
namespace L3
open PySem PySem.Spec PyProof.Rows L2
inductive D where
 |aO|bl (b:Bool)|int (i:Int)|str (x:ν)|tup (xs:List D)|fM (xs:List D)|obj (a:ζ)|dc (a:ζ)
def lR(K:θ)(H:Hp)(a:ζ)(xs:List V):Prop:=
 (∃o,H a=some (.cP o (.lst xs))) ∨
  ∃(o:aW) (its:Array δ) (n:Nat),K.lookup a=some o/\o.cls=.type "list"/\o.dict=none/\o.data=.seq its n/\its.size≤aC/\bt xs its.toList
theorem lR.l{K:θ}{H:Hp}{a:ζ}{xs:List V}(h:lR K H a xs):gJ K H a xs:=by
 rcases h with h|h
 ·exact .inl (.inr h)
 ·exact .inr h
mutual
def Hv(K:θ)(H:Hp):D->V->Prop
 |.aO,v=>v=.aO
 |.bl b,v=>v=.bl b
 |.int i,v=>v=.int i
 |.str x,v=>v=.str x
 |.tup ds,v=>∃a vs,v=.ref a/\dh K H a vs/\aJ K H ds vs
 |.fM ds,v=>∃a vs,v=.ref a/\lR K H a vs/\aJ K H ds vs
 |.obj a,v=>v=.ref a
 |.dc a,v=>v=.ref a/\∃ob φ,H a=some (.cP ob (.ext φ))/\ob.cls=.type "dict"
def aJ(K:θ)(H:Hp):List D->List V->Prop
 |[],vs=>vs=[]
 |d::ds,vs=>∃v r,vs=v::r/\Hv K H d v/\aJ K H ds r
end
inductive GO where
 |lst (ds:List D)|lK|fZ
 |gen (R:θ->ζ->Hp->Prop)
def GO.plain:GO->Prop
 |.gen _=>False
 |_=>True
abbrev Gp:=ζ->Option GO
def eH(G:Gp)(a:ζ)(o:GO):Gp:=fun b=>if b=a then some o else G b
theorem nE{G:Gp}{a:ζ}{o:GO}:eH G a o a=some o:=by simp[eH]
theorem lH{G:Gp}{a b:ζ}{o:GO}(h:b≠a):eH G a o b=G b:=by simp[eH,h]
theorem Um{G:Gp}{a b:ζ}{o u:GO}(hn:G a=none)(h:G b=some u):eH G a o b=some u:=by
 rw[lH]
 ·exact h
 ·intro e;rw[e,hn] at h;cases h
theorem Ul{G:Gp}{a:ζ}{o u:GO}:eH (eH G a o) a u=eH G a u:=by
 funext b;unfold eH;by_cases h:b=a
 ·rw[if_pos h,if_pos h]
 ·rw[if_neg h,if_neg h,if_neg h]
def uv(a b c:Int):Prop:=0≤a/\0≤c/\c<2147483647
def vU(K:θ)(H:Hp)(a:ζ):GO->Prop
 |.lst ds=>∃vs,H a=some (.lst vs)/\aJ K H ds vs
 |.lK=>∃i j k,H a=some (.lst [.int i,.int j,.int k])/\uv i j k
 |.fZ=>H a=some (.ext fun h=>∃o,h.get? a=some o/\o.cls=.type "dict")
 |.gen R=>R K a H/\(∃o,H a=some o/\(∀xs,o≠.tup xs)/\∀ob u,o≠.cP ob u)/\∀H1 H2:Hp,(∀b xs,H1 b=some (.tup xs)->H2 b=some (.tup xs))->(∀b o u,H1 b=some (.cP o u)->H2 b=some (.cP o u))->H2 a=H1 a->R K a H1->R K a H2
def aS(K:θ)(G:Gp)(H:Hp):Prop:=∀a o,G a=some o->vU K H a o
structure Ext(H H':Hp):Prop where
 tup:∀b xs,H b=some (.tup xs)->H' b=some (.tup xs)
 cP:∀b o u,H b=some (.cP o u)->H' b=some (.cP o u)
theorem Ext.refl(H:Hp):Ext H H:=⟨fun _ _ h=>h,fun _ _ _ h=>h⟩
theorem Ext.trans{H H1 H2:Hp}(a:Ext H H1)(b:Ext H1 H2):Ext H H2:=⟨fun c x h=>b.tup c x (a.tup c x h),fun c o u h=>b.cP c o u (a.cP c o u h)⟩
structure Step(H:Hp)(G:Gp)(H':Hp)(G':Gp):Prop where
 fr:∀a o,H a=some o->G a=none->H' a=some o
 nS:∀a,H a≠none->H' a≠none
 new:∀a,G a=none->G' a≠none->H a=none
theorem Step.refl(H:Hp)(G:Gp):Step H G H G:=⟨fun _ _ h _=>h,fun _ h=>h,fun _ h1 h2=>absurd h1 h2⟩
theorem Step.trans{H H1 H2:Hp}{G G1 G2:Gp}(a:Step H G H1 G1)(b:Step H1 G1 H2 G2):Step H G H2 G2 where
 fr:=fun c o h n=>b.fr c o (a.fr c o h n) (by
  refine bh fun q=>?_;rw[a.new c n q] at h;cases h)
 nS:=fun c h=>b.nS c (a.nS c h)
 new:=fun c n q=>by
  by_cases h1:G1 c=none
  ·have h2:=b.new c h1 q;refine bh fun z=>?_;exact a.nS c z h2
  ·exact a.new c n h1
def Sub(G' G:Gp):Prop:=∀a o,G' a=some o->G a=some o
theorem Sub.refl(G:Gp):Sub G G:=fun _ _ h=>h
theorem Sub.trans{A B C:Gp}(a:Sub A B)(b:Sub B C):Sub A C:=fun x o h=>b x o (a x o h)
theorem Sub.upd{G:Gp}{a:ζ}{o:GO}(h:G a=none):Sub G (eH G a o):=fun _ _ e=>Um h e
theorem Sub.of_none{G' G:Gp}(s:Sub G' G){a:ζ}(h:G a=none):G' a=none:=by
 cases e:G' a with
 |none=>rfl
 |some o=>
  rw[s a o e] at h;cases h
structure gk(G:Gp)(p:ζ)(o:GO)(G':Gp):Prop where
 aO:G p=none
 sub:Sub G G'
 at_:G' p=some o
theorem gk.mk'{G:Gp}{p:ζ}{o:GO}(h:G p=none):gk G p o (eH G p o):=⟨h,Sub.upd h,nE⟩
theorem Step.sub{H:Hp}{G G':Gp}(s:Sub G' G):Step H G H G':=⟨fun _ _ h _=>h,fun _ h=>h,fun a n q=>by
 exact absurd (s.of_none n) q⟩
section
variable {K:θ} {H H':Hp} {G G':Gp}
theorem aS.sub(R:aS K G H)(s:Sub G' G):aS K G' H:=fun a o e=>R a o (s a o e)
theorem vU.mut{a:ζ}{o:GO}(h:vU K H a o):∃o,H a=some o/\(∀xs,o≠.tup xs)/\∀ob u,o≠.cP ob u:=by
 cases o with
 |lst ds=>obtain⟨vs,e,_⟩:=h;exact⟨_,e,fun _=>nofun,fun _ _=>nofun⟩
 |lK=>obtain⟨i,j,k,e,_⟩:=h;exact⟨_,e,fun _=>nofun,fun _ _=>nofun⟩
 |fZ=>exact⟨_,h,fun _=>nofun,fun _ _=>nofun⟩
 |gen R=>exact h.2.1
theorem aS.Wt(R:aS K G H){a:ζ}{xs:List V}(e:H a=some (.tup xs)):G a=none:=by
 cases q:G a with
 |none=>rfl
 |some u=>
  obtain⟨o,z,h1,_⟩:=(R a u q).mut;rw[e] at z;exact absurd (aD z).symm (h1 xs)
theorem aS.outF(R:aS K G H){a:ζ}{ob:aW}{u:HO}(e:H a=some (.cP ob u)):G a=none:=by
 cases q:G a with
 |none=>rfl
 |some g=>
  obtain⟨o,z,_,h1⟩:=(R a g q).mut;rw[e] at z;exact absurd (aD z).symm (h1 ob u)
theorem aS.free(R:aS K G H){a:ζ}(e:H a=none):G a=none:=by
 cases q:G a with
 |none=>rfl
 |some u=>
  obtain⟨o,z,_⟩:=(R a u q).mut;rw[e] at z;cases z
theorem Step.ext(S:Step H G H' G')(R:aS K G H):Ext H H':=⟨fun b xs h=>S.fr b _ h (R.Wt h),fun b o u h=>S.fr b _ h (R.outF h)⟩
theorem dh.ext{a:ζ}{xs:List V}(E:Ext H H')(h:dh K H a xs):dh K H' a xs:=by
 rcases h with (h|⟨o,h⟩)|h
 ·exact .inl (.inl (E.tup _ _ h))
 ·exact .inl (.inr ⟨o,E.cP _ _ _ h⟩)
 ·exact .inr h
theorem lR.ext{a:ζ}{xs:List V}(E:Ext H H')(h:lR K H a xs):lR K H' a xs:=by
 rcases h with⟨o,h⟩|h
 ·exact .inl ⟨o,E.cP _ _ _ h⟩
 ·exact .inr h
mutual
theorem Hv.ext(E:Ext H H'):∀{d:D} {v:V},Hv K H d v->Hv K H' d v
 |.aO,_,h=>by simpa [Hv] using h
 |.bl _,_,h=>by simpa [Hv] using h
 |.int _,_,h=>by simpa [Hv] using h
 |.str _,_,h=>by simpa [Hv] using h
 |.obj _,_,h=>by simpa [Hv] using h
 |.dc a,v,h=>by
  unfold Hv at h ⊢;obtain⟨e,ob,φ,q,c⟩:=h;exact⟨e,ob,φ,E.cP _ _ _ q,c⟩
 |.tup ds,v,h=>by
  unfold Hv at h ⊢;obtain⟨a,vs,e,q,r⟩:=h;exact⟨a,vs,e,dh.ext E q,aJ.ext E r⟩
 |.fM ds,v,h=>by
  unfold Hv at h ⊢;obtain⟨a,vs,e,q,r⟩:=h;exact⟨a,vs,e,lR.ext E q,aJ.ext E r⟩
theorem aJ.ext(E:Ext H H'):∀{ds:List D} {vs:List V},aJ K H ds vs->aJ K H' ds vs
 |[],_,h=>by simpa [aJ] using h
 |d::ds,vs,h=>by
  unfold aJ at h ⊢;obtain⟨v,r,e,q,z⟩:=h;exact⟨v,r,e,Hv.ext E q,aJ.ext E z⟩
end
theorem aJ.nil:aJ K H [] []:=by simp[aJ]
theorem aJ.cons{d:D}{v:V}{ds:List D}{vs:List V}(h:Hv K H d v)(r:aJ K H ds vs):aJ K H (d::ds) (v::vs):=by
 unfold aJ;exact⟨v,vs,rfl,h,r⟩
theorem aJ.inv{d:D}{ds:List D}{vs:List V}(h:aJ K H (d::ds) vs):∃v r,vs=v::r/\Hv K H d v/\aJ K H ds r:=by
 unfold aJ at h;exact h
theorem aJ.il{vs:List V}(h:aJ K H [] vs):vs=[]:=by
 unfold aJ at h;exact h
theorem aJ.length:∀{ds:List D} {vs:List V},aJ K H ds vs->ds.length=vs.length
 |[],_,h=>by rw[h.il];rfl
 |d::ds,vs,h=>by
  obtain⟨v,r,rfl,_,q⟩:=h.inv;simp[q.length]
theorem aJ.get:∀{ds:List D} {vs:List V} {i:Nat} {d:D},aJ K H ds vs->ds[i]?=some d->∃v,vs[i]?=some v/\Hv K H d v
 |[],_,_,_,_,e=>by simp at e
 |x::ds,vs,0,d,h,e=>by
  obtain⟨v,r,rfl,q,_⟩:=h.inv;simp at e;subst e;exact⟨v,rfl,q⟩
 |x::ds,vs,i+1,d,h,e=>by
  obtain⟨v,r,rfl,_,q⟩:=h.inv;simp at e;obtain⟨u,e2,q2⟩:=q.get e;exact⟨u,by simpa using e2,q2⟩
theorem aJ.append:∀{ds es:List D} {vs us:List V},aJ K H ds vs->aJ K H es us->aJ K H (ds++es) (vs++us)
 |[],es,_,_,h,q=>by rw[h.il];exact q
 |d::ds,es,vs,us,h,q=>by
  obtain⟨v,r,rfl,z,w⟩:=h.inv;exact .cons z (w.append q)
theorem aJ.drop:∀{ds:List D} {vs:List V} (n:Nat),aJ K H ds vs->aJ K H (ds.drop n) (vs.drop n)
 |ds,vs,0,h=>h
 |[],_,n+1,h=>by rw[h.il];exact .nil
 |d::ds,vs,n+1,h=>by
  obtain⟨v,r,rfl,_,q⟩:=h.inv;exact q.drop n
theorem aJ.take:∀{ds:List D} {vs:List V} (n:Nat),aJ K H ds vs->aJ K H (ds.take n) (vs.take n)
 |ds,vs,0,h=>by simpa using aJ.nil
 |[],_,n+1,h=>by rw[h.il];exact .nil
 |d::ds,vs,n+1,h=>by
  obtain⟨v,r,rfl,q,z⟩:=h.inv;exact .cons q (z.take n)
theorem aJ.set:∀{ds:List D} {vs:List V} (i:Nat) {d:D} {v:V},aJ K H ds vs->Hv K H d v->aJ K H (ds.set i d) (vs.set i v)
 |[],_,i,d,v,h,_=>by rw[h.il];exact .nil
 |x::ds,vs,0,d,v,h,q=>by
  obtain⟨u,r,rfl,_,z⟩:=h.inv;exact .cons q z
 |x::ds,vs,i+1,d,v,h,q=>by
  obtain⟨u,r,rfl,y,z⟩:=h.inv;exact .cons y (z.set i q)
theorem aJ.erase:∀{ds:List D} {vs:List V} (i:Nat),aJ K H ds vs->aJ K H (ds.eraseIdx i) (vs.eraseIdx i)
 |[],_,i,h=>by rw[h.il];exact .nil
 |x::ds,vs,0,h=>by
  obtain⟨u,r,rfl,_,z⟩:=h.inv;exact z
 |x::ds,vs,i+1,h=>by
  obtain⟨u,r,rfl,y,z⟩:=h.inv;exact .cons y (z.erase i)
theorem aJ.rep{ds:List D}{vs:List V}(h:aJ K H ds vs):∀k:Nat,aJ K H (bu k ds).flatten (bu k vs).flatten
 |0=>.nil
 |k+1=>by
  simp only[fB,eE];exact h.append (h.rep k)
theorem aJ.ints:∀(ns:List Int),aJ K H (ns.map D.int) (ns.map V.int)
 |[]=>.nil
 |n::ns=>.cons (by simp[Hv]) (aJ.ints ns)
theorem Ext.laid{p:ζ}{o:HO}(h:H p=none):Ext H (upd H p o):=⟨fun b xs e=>by rw[dX (mz e h)];exact e,fun b x u e=>by rw[dX (mz e h)];exact e⟩
theorem vU.ext{a:ζ}{o:GO}(h:vU K H a o)(E:Ext H H')(e:H' a=H a):vU K H' a o:=by
 cases o with
 |lst ds=>
  obtain⟨vs,z,q⟩:=h;exact⟨vs,e.trans z,q.ext E⟩
 |lK=>
  obtain⟨i,j,k,z,q⟩:=h;exact⟨i,j,k,e.trans z,q⟩
 |fZ=>exact e.trans h
 |gen R=>
  obtain⟨h1,h2,h3⟩:=h;exact⟨h3 H H' E.tup E.cP e h1,by rw[e];exact h2,h3⟩
theorem aS.laid{p:ζ}{o:HO}(R:aS K G H)(h:H p=none):aS K G (upd H p o):=fun a u e=>by
 have b7:a≠p:=fun z=>by
  rw[z,R.free h] at e;cases e
 exact (R a u e).ext (Ext.laid h) (dX b7)
theorem aS.jq{p:ζ}{o:HO}{g:GO}(R:aS K G H)(h:H p=none)(new:vU K (upd H p o) p g):aS K (eH G p g) (upd H p o):=fun a u e=>by
 by_cases z:a=p
 ·subst z;rw[nE] at e;cases e;exact new
 ·rw[lH z] at e;exact (R.laid h) a u e
theorem Step.laid{p:ζ}{o:HO}(h:H p=none):Step H G (upd H p o) G:=⟨fun a u e _=>by rw[dX (mz e h)];exact e,fun a q=>by
 by_cases z:a=p
 ·rw[z,iV];simp
 ·rw[dX z];exact q,fun a n q=>absurd n q⟩
theorem Step.jq{p:ζ}{o:HO}{g:GO}(h:H p=none):Step H G (upd H p o) (eH G p g):=⟨(Step.laid (G:=G) h).fr,(Step.laid (G:=G) h).nS,fun a n q=>by
 by_cases z:a=p
 ·rw[z];exact h
 ·rw[lH z] at q;exact absurd n q⟩
theorem Uk{p b:ζ}{xs ys:List V}(h:H p=some (.lst xs))(e:H b=some (.tup ys)):b≠p:=fun z=>by
 rw[z,h] at e;cases e
theorem Uj{p b:ζ}{xs:List V}{o:aW}{u:HO}(h:H p=some (.lst xs))(e:H b=some (.cP o u)):b≠p:=fun z=>by
 rw[z,h] at e;cases e
theorem Ext.wrote{p:ζ}{xs:List V}{o:HO}(h:H p=some (.lst xs)):Ext H (upd H p o):=
 ⟨fun b ys e=>by rw[dX (Uk h e)];exact e,fun b x u e=>by rw[dX (Uj h e)];exact e⟩
theorem aS.wrote{p:ζ}{xs:List V}{o:HO}{g:GO}(R:aS K G H)(h:H p=some (.lst xs))(new:vU K (upd H p o) p g):aS K (eH G p g) (upd H p o):=fun a u e=>by
 by_cases z:a=p
 ·subst z;rw[nE] at e;cases e;exact new
 ·rw[lH z] at e;exact (R a u e).ext (Ext.wrote h) (dX z)
theorem aS.tu{p:ζ}{xs:List V}{ds:List D}(R:aS K G H)(h:H p=none)(hv:aJ K H ds xs):aS K (eH G p (.lst ds)) (upd H p (.lst xs)):=R.jq h ⟨xs,iV,hv.ext (.laid h)⟩
theorem aS.BS{p:ζ}{xs ys:List V}{ds:List D}(R:aS K G H)(e:H p=some (.lst xs))(hv:aJ K H ds ys):aS K (eH G p (.lst ds)) (upd H p (.lst ys)):=R.wrote e ⟨ys,iV,hv.ext (.wrote e)⟩
theorem Step.wrote{p:ζ}{o:HO}{g u:GO}(h:G p=some u):Step H G (upd H p o) (eH G p g):=⟨fun a x e n=>by
 have b7:a≠p:=fun z=>by
  rw[z,h] at n;cases n
 rw[dX b7];exact e,fun a q=>by
 by_cases z:a=p
 ·rw[z,iV];simp
 ·rw[dX z];exact q,fun a n q=>by
 have b7:a≠p:=fun z=>by
  rw[z,h] at n;cases n
 rw[lH b7] at q;exact absurd n q⟩
end
abbrev S3:=List (Option D)
def iW:S3->Nat->Option D
 |[],_=>none
 |x::_,0=>x
 |_::r,n+1=>iW r n
def kU:S3->Nat->D->S3
 |[],_,_=>[]
 |_::r,0,d=>some d::r
 |x::r,n+1,d=>x::kU r n d
structure dZ(K:θ)(τ:S3)(σ:L2.St)(H:Hp):Prop where
 len:τ.length=σ.length
 at_:∀(i:Nat) d,iW τ i=some d->∃v,σ[i]?=some (some v)/\Hv K H d v
theorem Kw:∀(τ:S3) (i:Nat) (d:D),(kU τ i d).length=τ.length
 |[],_,_=>rfl
 |_::r,0,d=>rfl
 |x::r,n+1,d=>by simp[kU,Kw r n d]
theorem Kv:∀(τ:S3) (i j:Nat) (d:D),iW (kU τ i d) j=if j=i/\i<τ.length then some d else iW τ j
 |[],i,j,d=>by simp[kU,iW]
 |x::r,0,0,d=>by simp[kU,iW]
 |x::r,0,j+1,d=>by simp[kU,iW]
 |x::r,i+1,0,d=>by simp[kU,iW]
 |x::r,i+1,j+1,d=>by
  simp only[kU,iW,Kv r i j d,aE];by_cases h:j=i/\i<r.length
  ·rw[if_pos h,if_pos (by lia)]
  ·rw[if_neg h,if_neg (by lia)]
section
variable {K:θ} {τ:S3} {σ:L2.St} {H H':Hp}
theorem dZ.ext(R:dZ K τ σ H)(E:Ext H H'):dZ K τ σ H':=⟨R.len,fun i d h=>by
 obtain⟨v,e,q⟩:=R.at_ i d h;exact⟨v,e,q.ext E⟩⟩
theorem dZ.set(R:dZ K τ σ H){i:Nat}{d:D}{v:V}(h:Hv K H d v):dZ K (kU τ i d) (σ.set i (some v)) H:=⟨by rw[Kw,List.length_set];exact R.len,fun j e q=>by
 rw[Kv] at q;by_cases c:j=i/\i<τ.length
 ·rw[if_pos c] at q;cases q;refine⟨v,?_,h⟩;rw[c.1,kK (by rw[←R.len];exact c.2)]
 ·rw[if_neg c] at q;obtain⟨u,e1,e2⟩:=R.at_ j e q;refine⟨u,?_,e2⟩;by_cases hij:i=j
  ·subst hij;have:σ.length≤i:=by
    have:=R.len;have:¬i<τ.length:=fun z=>c ⟨rfl,z⟩;lia
   rw[dD.mpr this] at e1;cases e1
  ·rw[ma hij];exact e1⟩
end
def bA:List ν->List D->S3
 |[],_=>[]
 |_::N,[]=>none::bA N []
 |_::N,d::ds=>some d::bA N ds
theorem D5:∀(N:List ν) (ds:List D),(bA N ds).length=N.length
 |[],_=>rfl
 |_::N,[]=>by simp[bA,D5 N []]
 |_::N,d::ds=>by simp[bA,D5 N ds]
theorem Ku:∀(N:List ν) (i:Nat),iW (bA N []) i=none
 |[],i=>rfl
 |_::N,0=>rfl
 |_::N,i+1=>Ku N i
theorem Kt:∀(N:List ν) (ds:List D) (i:Nat) (d:D),iW (bA N ds) i=some d->ds[i]?=some d
 |[],_,_,_,h=>by cases h
 |_::N,[],i,d,h=>by
  rw[Ku] at h;cases h
 |_::N,x::ds,0,d,h=>by
  simp only[bA,iW] at h;simpa using h
 |_::N,x::ds,i+1,d,h=>by
  simp only[bA,iW] at h;simpa using Kt N ds i d h
theorem dZ.start{K:θ}{N:List ν}{ds:List D}{vs:List V}{H:Hp}(h:aJ K H ds vs)(hl:vs.length≤N.length):dZ K (bA N ds) (L2.start N vs) H:=⟨by
 rw[D5];simp[L2.start];lia,fun i d e=>by
 obtain⟨v,e1,q⟩:=h.get (Kt N ds i d e);refine⟨v,?_,q⟩;unfold L2.start;have hi:i<vs.length:=(ax.mp e1).1;rw[cB (by simpa using hi),aT,e1];rfl⟩
abbrev V3:=D->Gp->Prop
abbrev aP:=S3->Gp->V3->Prop
abbrev cI:=S3->Gp->(Bool->Gp->Prop)->Prop
abbrev cM:=S3->Gp->(List D->Gp->Prop)->Prop
structure gu where
 nx:S3->Gp->Prop
 rt:V3
 bk:S3->Gp->Prop:=fun _ _=>False
 ct:S3->Gp->Prop:=fun _ _=>False
abbrev bj:=gu->S3->Gp->Prop
def low(K:θ)(t:aP):TE:=fun σ H Q=>∃τ G Q3,dZ K τ σ H/\aS K G H/\t τ G Q3/\∀v H' d G',Hv K H' d v->Step H G H' G'->aS K G' H'->Q3 d G'->Q v H'
def rE(K:θ)(t:cI):TT:=fun σ H Q=>∃τ G Q3,dZ K τ σ H/\aS K G H/\t τ G Q3/\∀b H' G',Step H G H' G'->aS K G' H'->Q3 b G'->Q b H'
def tw(K:θ)(t:cM):TA:=fun σ H Q=>∃τ G Q3,dZ K τ σ H/\aS K G H/\t τ G Q3/\∀vs H' ds G',aJ K H' ds vs->Step H G H' G'->aS K G' H'->Q3 ds G'->Q vs H'
structure oC(K:θ)(H:Hp)(G:Gp)(D3:gu)(D2:Ends):Prop where
 nx:∀τ σ G' H',dZ K τ σ H'->Step H G H' G'->aS K G' H'->D3.nx τ G'->D2.nx σ H'
 bk:∀τ σ G' H',dZ K τ σ H'->Step H G H' G'->aS K G' H'->D3.bk τ G'->D2.bk σ H'
 ct:∀τ σ G' H',dZ K τ σ H'->Step H G H' G'->aS K G' H'->D3.ct τ G'->D2.ct σ H'
 rt:∀d v G' H',Hv K H' d v->Step H G H' G'->aS K G' H'->D3.rt d G'->D2.rt v H'
theorem oC.step{K:θ}{H H1:Hp}{G G1:Gp}{D3:gu}{D2:Ends}(E:oC K H G D3 D2)(S:Step H G H1 G1):oC K H1 G1 D3 D2:=
 ⟨fun τ σ G' H' a b c q=>E.nx τ σ G' H' a (S.trans b) c q,fun τ σ G' H' a b c q=>E.bk τ σ G' H' a (S.trans b) c q,fun τ σ G' H' a b c q=>E.ct τ σ G' H' a (S.trans b) c q,fun d v G' H' a b c q=>E.rt d v G' H' a (S.trans b) c q⟩
def Ec(K:θ)(t:bj):TS:=fun D2 σ H=>∃τ G D3,dZ K τ σ H/\aS K G H/\t D3 τ G/\oC K H G D3 D2
abbrev bW(X:Cx)(e:υ)(t:aP):Prop:=PE X e (low X.K t)
abbrev qz(X:Cx)(e:υ)(t:cI):Prop:=PT X e (rE X.K t)
abbrev xc(X:Cx)(e:υ)(t:cI):Prop:=PW X e (rE X.K t)
abbrev jt(X:Cx)(es:List υ)(t:cM):Prop:=PA X es (tw X.K t)
abbrev qA(X:Cx)(st:aY)(t:bj):Prop:=PS X st (Ec X.K t)
abbrev jd(X:Cx)(st:List aY)(t:bj):Prop:=mX X st (Ec X.K t)
section
variable {X:Cx} {e:υ}
theorem iC{t t':TE}(h:PE X e t)(f:∀σ H Q,t' σ H Q->t σ H Q):PE X e t':=fun pins s σ H Q I q=>h pins s σ H Q I (f σ H Q q)
theorem D4{t t':TT}(h:PT X e t)(f:∀σ H Q,t' σ H Q->t σ H Q):PT X e t':=fun pins s σ H Q I q=>h pins s σ H Q I (f σ H Q q)
theorem pw_of{t t':TT}(h:PW X e t)(f:∀σ H Q,t' σ H Q->t σ H Q):PW X e t':=fun w pins s σ H Q I q=>h w pins s σ H Q I (f σ H Q q)
theorem Ks{es:List υ}{t t':TA}(h:PA X es t)(f:∀σ H Q,t' σ H Q->t σ H Q):PA X es t':=fun p pins s σ H Q I q=>h p pins s σ H Q I (f σ H Q q)
theorem rb{st:aY}{t t':TS}(h:PS X st t)(f:∀D σ H,t' D σ H->t D σ H):PS X st t':=fun pins s σ H Q I q=>h pins s σ H Q I (f Q σ H q)
theorem Kr{st:List aY}{t t':TS}(h:mX X st t)(f:∀D σ H,t' D σ H->t D σ H):mX X st t':=fun pins s σ H Q I q=>h pins s σ H Q I (f Q σ H q)
end
def Br(b:Bool)(A B:Prop):Prop:=(b=true->A)/\(b=false->B)
theorem Br.ite{b:Bool}{A B A' B':Prop}(h:Br b A B)(f:A->A')(g:B->B'):if b=true then A' else B':=by
 cases b with
 |true=>rw[if_pos rfl];exact f (h.1 rfl)
 |false=>rw[if_neg Ψ];exact g (h.2 rfl)
section
variable {X:Cx} {a b e c:υ} {ta tb te:aP} {tA tB:cI} {pos:aV} {es rest:List υ}
def eC(d:D):aP:=fun _ G Q=>Q d G
def χ(i:Nat):aP:=fun τ G Q=>match iW τ i with
 |some d=>Q d G
 |none=>False
theorem Ui{i:Nat}{x:ν}(h:PE X (.Name x pos) (zH i)):bW X (.Name x pos) (χ i):=iC h fun σ H Q ⟨τ,G,Q3,RS,RG,h,k⟩=>by
 unfold χ at h;cases hd:iW τ i with
 |none=>rw[hd] at h;exact h.elim
 |some d=>
  rw[hd] at h;obtain⟨v,e1,e2⟩:=RS.at_ i d hd;exact⟨v,e1,k v H d G e2 (.refl H G) RG h⟩
theorem yj{v:V}{d:D}(h:PE X e (tC v))(r:∀H,Hv X.K H d v):bW X e (eC d):=iC h fun σ H Q ⟨τ,G,Q3,RS,RG,h,k⟩=>k v H d G (r H) (.refl H G) RG h
theorem Uh{i:Int}{j}:bW X (.Constant (.int i) j pos) (eC (.int i)):=yj VR fun H=>by simp[Hv]
theorem WR{i:Bool}{j}:bW X (.Constant (.bool i) j pos) (eC (.bl i)):=yj VQ fun H=>by simp[Hv]
theorem Ug{j}:bW X (.Constant .none j pos) (eC .aO):=yj VE fun H=>by simp[Hv]
theorem Ue{x:ν}{j}:bW X (.Constant (.str x) j pos) (eC (.str x)):=yj VD fun H=>by simp[Hv]
theorem Ud{x:ν}{i:Int}{u:Tok}(hm:X.mg x=some (.int i u))(hg:Gl X x:=by rfl)(hd:(x==("__debug__":ν))=false:=by decide):bW X (.Name x pos) (eC (.int i)):=yj (v:=.int i) (Kk hg hm ⟨u,rfl⟩ hd) fun H=>by simp[Hv]
abbrev R3:=D->D->Gp->V3->Prop
def aR(r:R3)(ta tb:aP):aP:=fun τ G Q=>ta τ G fun x G1=>tb τ G1 fun y G2=>r x y G2 Q
def fg(K:θ)(r:R3)(r2:R2):Prop:=∀x y vx vy G H Q3 Q,Hv K H x vx->Hv K H y vy->aS K G H->r x y G Q3->(∀v H' d G',Hv K H' d v->Step H G H' G'->aS K G' H'->Q3 d G'->Q v H')->r2 vx vy H Q
theorem AF{K:θ}{r:R3}{r2:R2}(L:fg K r r2){σ:L2.St}{H:Hp}{Q:VK}(h:low K (aR r ta tb) σ H Q):BV r2 (low K ta) (low K tb) σ H Q:=by
 obtain⟨τ,G,Q3,RS,RG,h,k⟩:=h;refine⟨τ,G,_,RS,RG,h,fun v1 H1 d1 G1 h1 S1 R1 q1=>?_⟩;refine⟨τ,G1,_,RS.ext (S1.ext RG),R1,q1,fun v2 H2 d2 G2 h2 S2 R2 q2=>?_⟩;exact L _ _ _ _ _ _ _ _ (h1.ext (S2.ext R1)) h2 R2 q2 fun v H' d G' z1 z2 z3 z4=>k v H' d G' z1 ((S1.trans S2).trans z2) z3 z4
theorem WO{op:Operator}{r:R3}{r2:R2}(L:fg X.K r r2)(ho:eS X (binaryOp op) r2)(ha:bW X a ta)(hb:bW X b tb):bW X (.BinOp a op b pos) (aR r ta tb):=
 iC (VO ho ha hb) fun _ _ _ h=>AF L h
theorem Uc{op:kf}{r:R3}{r2:R2}(L:fg X.K r r2)(ho:eS X (compareOp op) r2)(ha:bW X a ta)(hb:bW X b tb)(hm:behindInMarks op b=false):bW X (.Compare a [op] [b] pos) (aR r ta tb):=
 iC (VI ho ha hb hm) fun _ _ _ h=>AF L h
def bX(t:aP):cI:=fun τ G Q=>t τ G fun x G1=>match x with
 |.bl k=>Q k G1
 |_=>False
theorem Kq{K:θ}{t:aP}{σ:L2.St}{H:Hp}{Q:Bool->Hp->Prop}(h:rE K (bX t) σ H Q):EK (low K t) σ H Q:=by
 obtain⟨τ,G,Q3,RS,RG,h,k⟩:=h;refine⟨τ,G,_,RS,RG,h,fun v H' d G' h1 h2 h3 h4=>?_⟩;cases d with
 |bl c=>
  unfold Hv at h1;exact⟨c,h1,k c H' G' h2 h3 h4⟩
 |_=>exact h4.elim
theorem Ub{op:kf}{r:R3}{r2:R2}(L:fg X.K r r2)(ho:eS X (compareOp op) r2)(ha:bW X a ta)(hb:bW X b tb)(hm:behindInMarks op b=false):qz X (.Compare a [op] [b] pos) (bX (aR r ta tb)):=
 D4 (VH ho ha hb hm) fun σ H Q h=>by
  obtain⟨τ,G,Q3,RS,RG,h,k⟩:=Kq h;exact AF L ⟨τ,G,Q3,RS,RG,h,k⟩
theorem Ua(h:bW X a ta)(he:∀whole,isTrue a X.env whole=(do let v ←whole;standAt a.pos;holding [v] (truthy v)):=by intro _;rfl):qz X a (bX ta):=
 D4 (U2 h he) fun σ H Q h=>by
  obtain⟨τ,G,Q3,RS,RG,h,k⟩:=Kq h;refine⟨τ,G,Q3,RS,RG,h,fun v H' d G' h1 h2 h3 h4=>?_⟩;obtain⟨c,rfl,q⟩:=k v H' d G' h1 h2 h3 h4;exact⟨c,rfl,q⟩
def qt(r r':R3)(ta tb tc:aP):aP:=fun τ G Q=>ta τ G fun x G1=>tb τ G1 fun y G2=>r x y G2 fun z G3=>match z with
 |.bl k=>Br k (tc τ G3 fun w G4=>r' y w G4 Q) (Q (.bl false) G3)
 |_=>False
theorem T9{K:θ}{r r':R3}{r2 r2':R2}(L:fg K r r2)(L':fg K r' r2'){tc:aP}{σ:L2.St}{H:Hp}{Q:VK}(h:low K (qt r r' ta tb tc) σ H Q):xy r2 r2' (low K ta) (low K tb) (low K tc) σ H Q:=by
 obtain⟨τ,G,Q3,RS,RG,h,k⟩:=h;refine⟨τ,G,_,RS,RG,h,fun v1 H1 d1 G1 h1 S1 R1 q1=>?_⟩;refine⟨τ,G1,_,RS.ext (S1.ext RG),R1,q1,fun v2 H2 d2 G2 h2 S2 R2 q2=>?_⟩;refine L _ _ _ _ _ _ _ _ (h1.ext (S2.ext R1)) h2 R2 q2 fun v H3 d G3 z1 S3 R3 z4=>?_;cases d with
 |bl c=>
  unfold Hv at z1;refine⟨c,z1,Br.ite z4 (fun q=>?_) fun q=>?_⟩
  ·refine⟨τ,G3,_,((RS.ext (S1.ext RG)).ext (S2.ext R1)).ext (S3.ext R2),R3,q,fun v4 H4 d4 G4 h4 S4 R4 q4=>?_⟩;exact L' _ _ _ _ _ _ _ _ ((h2.ext (S3.ext R2)).ext (S4.ext R3)) h4 R4 q4 fun v H' d G' y1 y2 y3 y4=>k v H' d G' y1 ((((S1.trans S2).trans S3).trans S4).trans y2) y3 y4
  ·exact k _ H3 (.bl false) G3 (by simp[Hv]) ((S1.trans S2).trans S3) R3 q
 |_=>exact z4.elim
theorem T8{op op':kf}{r r':R3}{r2 r2':R2}{tc:aP}(L:fg X.K r r2)(L':fg X.K r' r2')(h:PE X e (xy r2 r2' (low X.K ta) (low X.K tb) (low X.K tc))):bW X e (qt r r' ta tb tc):=
 iC h fun _ _ _ h=>T9 L L' h
def K6(r:D->Gp->V3->Prop)(ta:aP):aP:=fun τ G Q=>ta τ G fun x G1=>r x G1 Q
def zO:D->Gp->V3->Prop:=fun x G Q=>match x with
 |.int i=>Q (.int (-i)) G
 |_=>False
theorem T6(ha:bW X a ta):bW X (.UnaryOp .USub a pos) (K6 zO ta):=iC (VN VM ha) fun σ H Q h=>by
 obtain⟨τ,G,Q3,RS,RG,h,k⟩:=h;refine⟨τ,G,_,RS,RG,h,fun v H' d G' h1 h2 h3 h4=>?_⟩;cases d with
 |int i=>
  unfold Hv at h1;exact⟨i,h1,k _ H' (.int (-i)) G' (by simp[Hv]) h2 h3 h4⟩
 |_=>exact h4.elim
def vj(t u:cI):cI:=fun τ G Q=>t τ G fun c G1=>Br c (u τ G1 Q) (Q false G1)
def qr(t u:cI):cI:=fun τ G Q=>t τ G fun c G1=>Br c (Q true G1) (u τ G1 Q)
def mE(t:cI):cI:=fun τ G Q=>t τ G fun c G1=>Q (!c) G1
theorem T5(ha:qz X a tA):xc X (.BoolOp .And [a] pos) tA:=pw_and1 ha
theorem T4(ha:qz X a tA):xc X (.BoolOp .Or [a] pos) tA:=pw_or1 ha
theorem TZ(ha:qz X a tA)(hb:xc X (.BoolOp .And (b::rest) pos) tB):xc X (.BoolOp .And (a::b::rest) pos) (vj tA tB):=pw_of (pw_and ha hb) fun σ H Q h=>by
 obtain⟨τ,G,Q3,RS,RG,h,k⟩:=h;refine⟨τ,G,_,RS,RG,h,fun c H1 G1 S1 R1 q1=>?_⟩;exact Br.ite q1 (fun q=>⟨τ,G1,Q3,RS.ext (S1.ext RG),R1,q,fun b' H' G' y1 y2 y3=>k b' H' G' (S1.trans y1) y2 y3⟩) fun q=>k false H1 G1 S1 R1 q
theorem TY(ha:qz X a tA)(hb:xc X (.BoolOp .Or (b::rest) pos) tB):xc X (.BoolOp .Or (a::b::rest) pos) (qr tA tB):=pw_of (pw_or ha hb) fun σ H Q h=>by
 obtain⟨τ,G,Q3,RS,RG,h,k⟩:=h;refine⟨τ,G,_,RS,RG,h,fun c H1 G1 S1 R1 q1=>?_⟩;exact Br.ite q1 (fun q=>k true H1 G1 S1 R1 q) fun q=>⟨τ,G1,Q3,RS.ext (S1.ext RG),R1,q,fun b' H' G' y1 y2 y3=>k b' H' G' (S1.trans y1) y2 y3⟩
theorem Mq(h:xc X a tA):qz X a tA:=h.pt
theorem TX(ha:qz X a tA):qz X (.UnaryOp .Not a pos) (mE tA):=D4 (VC ha) fun σ H Q h=>by
 obtain⟨τ,G,Q3,RS,RG,h,k⟩:=h;exact⟨τ,G,_,RS,RG,h,fun c H1 G1 S1 R1 q1=>k _ H1 G1 S1 R1 q1⟩
def rQ(ta tb:aP):aP:=fun τ G Q=>ta τ G fun x G1=>match x with
 |.bl c=>Br c (tb τ G1 Q) (Q (.bl false) G1)
 |_=>False
def Bv(ta:aP):aP:=fun τ G Q=>ta τ G fun x G1=>match x with
 |.bl c=>Q (.bl (!c)) G1
 |_=>False
theorem TV{op}(h:bW X a ta):bW X (.BoolOp op [a] pos) ta:=VB h
theorem TU(ha:bW X a ta)(hb:bW X (.BoolOp .And (b::rest) pos) tb):bW X (.BoolOp .And (a::b::rest) pos) (rQ ta tb):=iC (VA ha hb) fun σ H Q h=>by
 obtain⟨τ,G,Q3,RS,RG,h,k⟩:=h;refine⟨τ,G,_,RS,RG,h,fun v H1 d G1 h1 S1 R1 q1=>?_⟩;cases d with
 |bl c=>
  unfold Hv at h1;exact⟨c,h1,Br.ite q1 (fun q=>⟨τ,G1,Q3,RS.ext (S1.ext RG),R1,q,fun b' H' d' G' y0 y1 y2 y3=>k b' H' d' G' y0 (S1.trans y1) y2 y3⟩) fun q=>k _ H1 (.bl false) G1 (by simp[Hv]) S1 R1 q⟩
 |_=>exact q1.elim
theorem UB(ha:bW X a ta):bW X (.UnaryOp .Not a pos) (Bv ta):=iC (Vz ha) fun σ H Q h=>by
 obtain⟨τ,G,Q3,RS,RG,h,k⟩:=h;refine⟨τ,G,_,RS,RG,h,fun v H1 d G1 h1 S1 R1 q1=>?_⟩;cases d with
 |bl c=>
  unfold Hv at h1;exact⟨c,h1,k _ H1 (.bl (!c)) G1 (by simp[Hv]) S1 R1 q1⟩
 |_=>exact q1.elim
def notStar:υ->Bool
 |.Starred ..=>false
 |_=>true
theorem dW{e:υ}{es:List υ}{env:cW}(h:notStar e=true):bK (e::es) env=(false,eval e env)::bK es env:=by
 cases e<;>first|rfl|(simp[notStar] at h)
theorem jo{pos:aV}{env:cW}:∀{es:List υ},es.all notStar=true->(backTo pos (bK es env)).any (·.1)=false
 |[],_=>rfl
 |e::es,h=>by
  rw[nN,cA] at h;rw[dW h.1];show (false||(backTo pos (bK es env)).any (·.1))=false;rw[jo h.2];rfl
def av:cM:=fun _ G Q=>Q [] G
def ξ(ta:aP)(tr:cM):cM:=fun τ G Q=>ta τ G fun x G1=>tr τ G1 fun xs G2=>Q (x::xs) G2
theorem UA:jt X [] av:=Ks qd fun σ H Q ⟨τ,G,Q3,RS,RG,h,k⟩=>k [] H [] G .nil (.refl H G) RG h
theorem Uz{tr:cM}(ha:bW X a ta)(hr:jt X es tr)(hs:notStar a=true:=by rfl):jt X (a::es) (ξ ta tr):=Ks (mw ha hr (dW hs)) fun σ H Q h=>by
 obtain⟨τ,G,Q3,RS,RG,h,k⟩:=h;refine⟨τ,G,_,RS,RG,h,fun v1 H1 d1 G1 h1 S1 R1 q1=>?_⟩;refine⟨τ,G1,_,RS.ext (S1.ext RG),R1,q1,fun vs H2 ds G2 h2 S2 R2 q2=>?_⟩;exact k _ H2 _ G2 (.cons (h1.ext (S2.ext R1)) h2) (S1.trans S2) R2 q2
def qm{α:Type}(P:Prop):List α->Nat->Prop
 |[],_=>P
 |_::_,0=>False
 |_::xs,n+1=>qm P xs n
theorem yi{α:Type}{P:Prop}:∀{xs:List α} {n:Nat},qm P xs n->xs.length≤n/\P
 |[],n,h=>⟨aG _,h⟩
 |_::_,0,h=>h.elim
 |_::xs,n+1,h=>by
  obtain⟨h1,h2⟩:=yi (xs:=xs) (n:=n) h;exact⟨Nat.succ_le_succ h1,h2⟩
theorem vG{n:Nat}(h:n≤64):n≤aC:=bB h (by decide)
def eP(t:cM):aP:=fun τ G Q=>t τ G fun ds G1=>qm (Q (.tup ds) G1) ds 64
def mF(t:cM):aP:=fun τ G Q=>t τ G fun ds G1=>qm (∀p G2,gk G1 p (.lst ds) G2->Q (.obj p) G2) ds 64
theorem Uy{t:cM}{x1}(h:jt X es t):bW X (.Tuple es x1 pos) (eP t):=iC (UU h) fun σ H Q h=>by
 obtain⟨τ,G,Q3,RS,RG,h,k⟩:=h;refine⟨τ,G,_,RS,RG,h,fun vs H1 ds G1 h1 S1 R1 q1=>?_⟩;obtain⟨z,q1⟩:=yi q1;refine⟨by rw[←h1.length];exact vG z,fun p hp=>?_⟩;refine k _ _ (.tup ds) G1 ?_ (S1.trans (.laid hp)) (R1.laid hp) q1;unfold Hv;exact⟨p,vs,rfl,.of iV,h1.ext (.laid hp)⟩
theorem Ux{t:cM}(h:jt X es t):bW X (.List es pos) (mF t):=iC (Ke h) fun σ H Q h=>by
 obtain⟨τ,G,Q3,RS,RG,h,k⟩:=h;refine⟨τ,G,_,RS,RG,h,fun vs H1 ds G1 h1 S1 R1 q1=>?_⟩;obtain⟨z,q1⟩:=yi q1;refine⟨by rw[←h1.length];exact vG z,fun p hp=>?_⟩;exact k _ _ (.obj p) (eH G1 p (.lst ds)) (by simp[Hv]) (S1.trans (.jq hp)) (R1.jq hp ⟨vs,iV,h1.ext (.laid hp)⟩) (q1 p _ (.mk' (R1.free hp)))
end
end L3
namespace L2
open PySem PySem.Spec PyProof.Rows
def mG(env:cW):List (ν×fH)->List (ν×ζ)->List (ν×ζ)
 |[],acc=>acc
 | (n,k)::r,acc=>mG env r (if k=.free then (n,(env.cells.lookup n).getD 0)::acc else acc)
theorem Kp{scope:fh}{env:cW}(h:∀y∈scope.names,y.2=.free->∃c,env.cells.lookup y.1=some c):closureFor scope env=pure (mG env scope.names []):=by
 have key:∀(l:List (ν×fH)) (acc:List (ν×ζ)),(∀y∈l,y.2=.free->∃c,env.cells.lookup y.1=some c) ->
   (forIn l acc fun (x:ν×fH) (r:List (ν×ζ))=>(do
    if (x.2==cN)=true then do
     let a ←cellOf env x.1
     pure (gh ((x.1,a)::r))
    else pure (gh r):kn (ForInStep (List (ν×ζ)))))=pure (mG env l acc):=by
  intro l
  induction l with
  |nil=>intro acc _;rfl
  |cons y r ih=>
   intro acc hy;obtain⟨n,k⟩:=y;rw[List.forIn_cons];by_cases hk:k=.free
   ·obtain⟨c,hc⟩:=hy (n,k) aj hk;have e1:cellOf env n=pure c:=by unfold cellOf;rw[show env.cells.lookup n=some c from hc]
    subst hk;simp only[beq_self_eq_true,if_true,e1,pure_bind];rw[ih _ fun y hy'=>hy y (ai _ hy')];show _=pure (mG env r (if cN=cN then (n,(env.cells.lookup n).getD 0)::acc else acc));rw[if_pos rfl,show env.cells.lookup n=some c from hc];rfl
   ·have hb:(k==cN)=false:=by simpa using hk
    simp only[hb,g6,if_false,pure_bind];rw[ih _ fun y hy'=>hy y (ai _ hy')];show _=pure (mG env r (if k=cN then (n,(env.cells.lookup n).getD 0)::acc else acc));rw[if_neg hk]
 have:=key scope.names [] h;unfold closureFor
 first
  |exact (by simpa using this)
  | (simp only[bind_pure];exact this)
theorem Ko{env:cW}{x:ν}{c:ζ}:∀(l:List (ν×fH)) (acc:List (ν×ζ)),(mG env l acc).lookup x=some c ->
  acc.lookup x=some c∨((x,cN)∈l/\c=(env.cells.lookup x).getD 0)
 |[],_,h=>.inl h
 | (n,k)::r,acc,h=>by
  rcases Ko r _ h with q|⟨q1,q2⟩
  ·by_cases hk:k=.free
   ·rw[if_pos hk,cz] at q;by_cases hx:(x==n)=true
    ·rw[hx] at q;have hx':x=n:=by simpa using hx
     subst hx' hk;exact .inr ⟨aj,(aD q).symm⟩
    ·have hx2:(x==n)=false:=by simpa using hx
     rw[hx2] at q;exact .inl q
   ·rw[if_neg hk] at q;exact .inl q
  ·exact .inr ⟨ai _ q1,q2⟩
theorem JO{env:cW}{x:ν}:∀(l:List (ν×fH)) (acc:List (ν×ζ)),acc.lookup x=some ((env.cells.lookup x).getD 0)->(mG env l acc).lookup x=some ((env.cells.lookup x).getD 0)
 |[],_,h=>h
 | (n,k)::r,acc,h=>by
  refine JO r _ ?_;by_cases hk:k=.free
  ·rw[if_pos hk,cz];by_cases hx:(x==n)=true
   ·rw[hx];have hx':x=n:=by simpa using hx
    rw[hx']
   ·have hx2:(x==n)=false:=by simpa using hx
    rw[hx2];exact h
  ·rw[if_neg hk];exact h
theorem JN{env:cW}{x:ν}:∀(l:List (ν×fH)) (acc:List (ν×ζ)),(x,cN)∈l->(mG env l acc).lookup x=some ((env.cells.lookup x).getD 0)
 |[],_,h=>by cases h
 | (n,k)::r,acc,h=>by
  rcases ak.mp h with e|e
  ·cases e;refine JO r _ ?_;rw[if_pos rfl,cz,beq_self_eq_true]
  ·exact JN r _ e
structure eY(N:List ν)(sc scope:fh)(own:List ν)(js:List Nat):Prop where
 kind:scope.kind=.function
 Ca:∀y∈scope.names,y.2≠.cell
 names:∀y∈scope.names,y.2=.local->scope.names.lookup y.1=some .local
 free:∀y∈scope.names,y.2=.free->sc.names.lookup y.1=some .cell/\own.contains y.1=false
 only:∀y∈scope.names,y.2=.free->scope.names.lookup y.1=some .free
 js:∀j∈js,j<N.length/\(N.getD j iF,cN)∈scope.names
def WU(N own:List ν)(js:List Nat):List ν:=own++js.map fun j=>N.getD j iF
def uq(own:List ν)(js:List Nat)(σ:St):St:=bu own.length none++js.map fun j=>(σ[j]?).getD none
def Cx.cmp(X:Cx)(scope:fh)(own:List ν)(js:List Nat)(s:η)(H:Hp)(fp:List ζ):Cx:=
 { X with N:=WU X.N own js,s₀:=s,H₀:=H,env:=compEnvC scope (mG X.env scope.names []) s.heap.objs.size X.env,outer:=X.stack,ex:=fp,fn:=fun x=>own.contains x,pn:=[],xe:=fun _ _=>False }
theorem AE{sc:fh}{env:cW}{x:ν}{k:fH}:∀(names:List (ν×fH)),
  (names.map fun (n,k)=>if (k==cN&&env.scope.kind==.function&&env.kindOf n==some .cell) then (n,sr) else (n,k)).lookup x=some k ->
  (names.lookup x=some k/\(k≠.free∨k=.free))∨(k=.cell/\names.lookup x=some .free)
 |[],h=>by simp at h
 | (n,k')::r,h=>by
  have ih:=@AE sc env x k r;have h':List.lookup x ((if (k'==cN&&env.scope.kind==.function&&env.kindOf n==some .cell)=true then (n,sr) else (n,k'))::_)=some k:=h;rw[cz];by_cases hc:(k'==cN&&env.scope.kind==.function&&env.kindOf n==some .cell)=true
  ·rw[if_pos hc,cz] at h';cases hx:x==n with
   |true=>
    rw[hx] at h';have e:sr=k:=aD h';have hk':k'=.free:=by
     rw[cA,cA] at hc;simpa using hc.1.1
    exact .inr ⟨e.symm,by rw[hk']⟩
   |false=>
    rw[hx] at h';exact ih h'
  ·rw[if_neg hc,cz] at h';cases hx:x==n with
   |true=>
    rw[hx] at h';have e:k'=k:=aD h';subst e;exact .inl ⟨rfl,by by_cases z:k'=.free;exact .inr z;exact .inl z⟩
   |false=>
    rw[hx] at h';exact ih h'
theorem D0{x:ν}{k:fH}{l:List (ν×fH)}(h:l.lookup x=some k):(x,k)∈l:=fA h
section
variable {X:Cx} {pins:List (ζ×aW)} {σ:St} {H:Hp} {s:η} {scope:fh} {own:List ν} {js:List Nat} {fp:List ζ}
theorem eY.cells(C:eY X.N X.env.scope scope own js)(ok:X.Ok):∀y∈scope.names,y.2=.free->∃c,X.env.cells.lookup y.1=some c:=fun y hy e=>
 ok.has y.1 (.inl (C.free y hy e).1)
theorem eY.uu(C:eY X.N X.env.scope scope own js)(ok:X.Ok){x:ν}{c:ζ}(h:(mG X.env scope.names []).lookup x=some c):(x,cN)∈scope.names/\X.env.cells.lookup x=some c:=by
 rcases Ko scope.names [] h with q|⟨q1,q2⟩
 ·cases q
 ·obtain⟨c',e⟩:=C.cells ok _ q1 rfl;refine⟨q1,?_⟩;rw[q2,show X.env.cells.lookup x=some c' from e];rfl
theorem eY.Cm(C:eY X.N X.env.scope scope own js)(ok:X.Ok){x:ν}(h:(x,cN)∈scope.names):∃c,(mG X.env scope.names []).lookup x=some c/\X.env.cells.lookup x=some c:=by
 obtain⟨c,e⟩:=C.cells ok _ h rfl;refine⟨c,?_,e⟩;rw[JN scope.names [] h,show X.env.cells.lookup x=some c from e];rfl
theorem Inv.L4(I:Inv X pins σ H s)(C:eY X.N X.env.scope scope own js)(hf:∀b∈fp,nH X pins H b/\b<s.heap.objs.size):(X.cmp scope own js s H fp).Ok where
 mod:=I.ok.mod
 kind:=C.kind
 glob:=I.ok.glob
 blt:=I.ok.blt
 above:=Θ _
 inj:=fun x y c h1 h2=>I.ok.inj x y c (C.uu I.ok h1).2 (C.uu I.ok h2).2
 has:=fun x h=>by
  have hfree:(x,cN)∈scope.names:=by
   rcases h with h|h
   ·rcases AE (sc:=scope) (env:=X.env) scope.names h with⟨q,_⟩|⟨_,q⟩
    ·exact absurd rfl (C.Ca _ (D0 q))
    ·exact D0 q
   ·rcases AE (sc:=scope) (env:=X.env) scope.names h with⟨q,_⟩|⟨q,_⟩
    ·exact D0 q
    ·cases q
  obtain⟨c,e,_⟩:=C.Cm I.ok hfree;exact⟨c,e⟩
 zB:=fun x c h1 h2=>by
  have q:=(C.free _ (C.uu I.ok h2).1 rfl).2;have h1':own.contains x=true:=h1;rw[q] at h1';cases h1'
 hd:=I.ok.hd
 frames:=I.ok.frames
 BX:=.inl rfl
 Cj:=fun b hb=>⟨aZ (hf b hb).2,fun x c e=>(hf b hb).1.2.2.2.2.1 x c (C.uu I.ok e).2⟩
 bs:=I.bs
 sj:=bB I.ok.sj I.sz
 wG:=fun b o e hb=>by
  rcases (hf b hb).1.2.2.2.1 with z|z
  ·exact I.ok.wG b o e z
  ·exact absurd (bL (aa e) (bB I.ok.sj z)) (cw _)
 wO:=fun b hb z=>by
  rcases ak.mp (I.sR b z) with e|e
  ·exact (hf b hb).1.2.1 e
  ·exact (hf b hb).1.2.2.1 e
 lN:=I.stack
 wY:=I.gS
theorem Uw{N:List ν}{js:List Nat}{i:Nat}{x:ν}(h:(js.map fun j=>N.getD j iF)[i]?=some x):∃j,js[i]?=some j/\x=N.getD j iF:=by
 rw[aT] at h;cases e:js[i]? with
 |none=>rw[e] at h;cases h
 |some j=>rw[e] at h;exact⟨j,rfl,(aD h).symm⟩
theorem Inv.cmp(I:Inv X pins σ H s)(C:eY X.N X.env.scope scope own js)(hf:∀b∈fp,nH X pins H b/\b<s.heap.objs.size){h':au}{tk:Nat}(hn:h'.Ns s.heap.objs.size fun _=>none)
  (kept:∀b o,s.heap.get? b=some o->h'.get? b=some o):Inv (X.cmp scope own js s H fp) [] (uq own js σ) H { s with heap:=h',toks:=tk }:=by
 have ok:=I.L4 C hf;refine⟨ok,rfl,I.bare,Un.kept kept,⟨_,hn,fun i x v h1 h2 h3=>?_⟩,fun x c e=>?_,I.bI.fresh (Θ _),fun x c e=>I.j0 x c (C.uu I.ok e).2,fun p hp=>?_,I.bI.kept kept,?_⟩
 ·have h1':(own++js.map fun j=>X.N.getD j iF)[i]?=some x:=h1;have h2':(bu own.length none++js.map fun j=>(σ[j]?).getD none)[i]?=some (some v):=h2;by_cases hi:i<own.length
  ·rw[cB (by simpa using hi),kr,if_pos hi] at h2';cases h2'
  ·rw[bD (by lia)] at h1';rw[bD (by simp;lia),lA] at h2';obtain⟨j,hj,rfl⟩:=Uw h1';rw[aT,hj] at h2';have h2'':(σ[j]?).getD none=some v:=aD h2';have hσ:σ[j]?=some (some v):=by
    cases e:σ[j]? with
    |none=>rw[e] at h2'';cases h2''
    |some o=>
     rw[e] at h2'';have:o=some v:=h2'';rw[this]
   obtain⟨jl,jf⟩:=C.js j (bH hj);have hN:X.N[j]?=some (X.N.getD j iF):=by
    rw[List.getD_eq_getElem?_getD,az jl];rfl
   have hcell:=(C.free _ jf rfl).1;obtain⟨m,hm,hl⟩:=I.loc;obtain⟨u,ru,lk⟩:=hl j _ v hN hσ (.inr (.inl hcell));refine⟨u,ru,?_⟩;obtain⟨c,e1,e2⟩:=C.Cm I.ok jf;rcases lk with⟨z,_⟩|⟨_,c',z1,z2⟩
   ·have z':X.env.scope.names.lookup (X.N.getD j iF)=some .local:=z;rw[show X.env.scope.names.lookup (X.N.getD j iF)=some .cell from hcell] at z';cases z'
   ·rw[e2] at z1;cases z1;have ic:h'.IsCell c (some u):=by
     obtain⟨o,q1,q2⟩:=z2;exact⟨o,kept _ _ q1,q2⟩
    rcases h3 with h3|h3|h3
    ·exfalso;rcases AE (sc:=scope) (env:=X.env) scope.names h3 with⟨q,_⟩|⟨q,_⟩
     ·have z:=C.only _ jf rfl;rw[q] at z;cases z
     ·cases q
    ·exact .inr ⟨.inl h3,c,e1,ic⟩
    ·exact .inr ⟨.inr h3,c,e1,ic⟩
 ·obtain⟨v,o,q1,q2⟩:=I.cell x c (C.uu I.ok e).2;exact⟨v,o,kept _ _ q1,q2⟩
 ·exact absurd (show p∈([]:List (ζ×aW)) from hp) (by simp)
 ·show (bu own.length none++js.map fun j=>(σ[j]?).getD none).length=(own++js.map fun j=>X.N.getD j iF).length;simp
theorem Inv.Lv{σ':St}{H':Hp}{s':η}{pl:List (ζ×aW)}(I:Inv X pins σ H s)(hf:∀b∈fp,nH X pins H b/\b<s.heap.objs.size)(J:Inv (X.cmp scope own js s H fp) pl σ' H' s'):Inv X pins σ H' s':=by
 refine I.BK (ch:=fp) J.os J.base J.bI J.bare fun b hb=>?_;obtain⟨f0,f1,f2,f3,f4,f5⟩:=(hf b hb).1;exact⟨f3,f1,f4,f5⟩
theorem Inv.other{H':Hp}{s':η}{h':au}{b:ζ}(I0:Inv X pins σ H s)(I:Inv X pins σ H' s')(hb:s.heap.objs.size≤b)(hn:H' b=none)(sb:fW b s'.heap h'):Inv X pins σ H' { s' with heap:=h' }:=by
 obtain⟨f0,f1,f2,f3,f4,f5⟩:=I0.wN hb hn;exact I.turned (t':=s'.toks) (fun c o hc e=>(sb.2 c hc).trans e) f0 f1 f3 f4 f5
end
def uH(X:Cx)(ifs:List υ)(t:TT):Prop:=
 ∀(pins:List (ζ×aW)) (s:η) (σ:St) (H:Hp) (Q:Bool->Hp->Prop),Inv X pins σ H s->t σ H Q ->
  ρ (model X.prog X.w) X.A (forIn ifs true fun c r=>if r=true then do let ok ←isTrue c X.env (eval c X.env);pure (gh ok) else pure (gh r)) (TP X pins σ Q) X.xe s
def FA:TT:=fun _ H Q=>Q true H
theorem Uv{X:Cx}:uH X [] FA:=fun _ _ _ H _ I h=>wpAny_tests_nil ⟨H,I,h⟩
theorem Uu{X:Cx}{c:υ}{t:TT}(h:PT X c t):uH X [c] t:=fun pins s σ H Q I hq=>wpAny_tests_one (h pins s σ H Q I hq)
section
variable {prog:Ω} {w:aw} {A:aF} {R:Result->η->Prop} {s:η}
theorem Ut{elt target iter:υ}{ifs:List υ}{scope:fh}{pos:aV}{it acc:δ}{env:cW}(I:Nat->η->Prop)
  (turn:∀n s,I n s->ρ (model prog w) A (pyNext it) (fun r s₁=>match r with
   |none=>R (.ok .next) s₁
   | some v=>ρ (model prog w) A (letOwnedTupleGo target it v) (fun _ s₁'=>ρ (model prog w) A (assign target env v) (fun _ s₂=>
     ρ (model prog w) A (forIn ifs true fun c r=>if r=true then do let ok ←isTrue c env (eval c env);pure (gh ok) else pure (gh r)) (fun ok s₃=>
      if ok=true then ρ (model prog w) A (eval elt env) (fun x s₄=>
       ρ (model prog w) A (call (.builtin "list.append") [acc,x]) (fun _ s₅=>∃m,m<n/\I m s₅) (fun _ _=>False) s₄) (fun _ _=>False) s₃
      else ∃m,m<n/\I m s₃) (fun _ _=>False) s₂) (fun _ _=>False) s₁') (fun _ _=>False) s₁) (fun _ _=>False) s)
  (n:Nat) (h:I n s):
  iu (model prog w) A (.compLoop (.ListComp elt [⟨target,iter,ifs,0⟩] scope pos) 0 it acc env) R s:=by
 refine codeAny_loop rfl I (fun n s hI=>?_) n h;show ρ _ A ((compTurn (.ListComp elt [⟨target,iter,ifs,0⟩] scope pos) 0 it acc env).onRaise (fun x=>do noteFrame x env;theTreesLotGoes x)) _ _ s
 refine wpAny_noted ?_;rw[compTurn_list];refine ε (kO (ε (b9 (turn n s hI) (fun r s₁ h₁=>?_) fun _ _ h'=>h'.elim)));cases r with
 |none=>exact ο h₁
 |some v=>
  refine ε (b9 h₁ (fun _ s₁' h₁'=>?_) fun _ _ h'=>h'.elim);refine ε (b9 h₁' (fun _ s₂ h₂=>ε (b9 h₂ (fun ok s₃ h₃=>?_) fun _ _ h'=>h'.elim)) fun _ _ h'=>h'.elim);cases ok with
  |false=>exact ο ⟨rfl,h₃⟩
  |true=>
   exact ε (ε (b9 h₃ (fun x s₄ h₄=>ε (b9 h₄ (fun _ s₅ h₅=>ο (ο ⟨rfl,h₅⟩)) fun _ _ h'=>h'.elim)) fun _ _ h'=>h'.elim))
end
def Lj(own:List ν)(js:List Nat)(g:TG)(tc:TT)(te:TE)(J:It)(σ:St)(H:Hp)(Q:VK):Prop:=
 ∀D,H D=none->∃W:Nat->Nat->List V->St->Hp->Prop,(∃m,W 0 m [] (uq own js σ) (upd H D (.lst [])))/\∀i m ys σ' H',W i m ys σ' H'->H' D=some (.lst ys) ∧
  ((J.stop i H'/\Q (.ref D) H')∨(J.go i H'/\ys.length<aC/\∀x H2,J.EI i H' x H2->g x σ' H2 fun σ2 H3=>tc σ2 H3 fun b H4=>
   if b=true then te σ2 H4 fun v H5=>H5 D=some (.lst ys)/\∃m',m' < m/\W (i+1) m' (ys++[v]) σ2 (upd H5 D (.lst (ys++[v]))) else ∃m',m' < m/\W (i+1) m' ys σ2 H4))
def FV(own:List ν)(js:List Nat)(wi:TI)(g:TG)(tc:TT)(te:TE):TE:=fun σ H Q=>wi σ H fun J H1=>Lj own js g tc te J σ H1 Q
section
variable {X:Cx} {tg iter elt:υ} {ifs:List υ} {scope:fh} {pos:aV} {own:List ν} {js:List Nat} {g:TG} {tc:TT} {te:TE}
theorem JM{pins:List (ζ×aW)}{σ:St}{H:Hp}{s:η}{Q:VK}{it:ζ}{fp:List ζ}{tn:Nat->au->Prop}{J:It}{E:δ->η->Prop}{RR:δ->ζ->Result->η->Prop}
  (hc:X.calm=true) (C:eY X.N X.env.scope scope own js)
  (hb:∀s H fp,PG (X.cmp scope own js s H fp) tg g/\uH (X.cmp scope own js s H fp) ifs tc/\PE (X.cmp scope own js s H fp) elt te)
  (I:Inv X pins σ H s) (T:Turn X.prog X.w X.K tg J fp it tn) (st:tn 0 s.heap) (hf:∀b∈fp,nH X pins H b) (rd:Lj own js g tc te J σ H Q)
  (Xd:∀D N s' H',Inv X pins σ H' s'->Q (.ref D) H'->s.heap.objs.size≤N->H' N=none->(∃m,s'.heap.Ns N m)->RR (.ref D) N (.ok .next) s'):
  ρ (model X.prog X.w) X.A (newList []) (fun acc s₃=>ρ (model X.prog X.w) X.A (newFunctionEnv scope X.env.globals (mG X.env scope.names []) [] X.env.qual none .none (some X.env)) (fun cenv s₄=>
   iu (model X.prog X.w) X.A (.compStart (.ListComp elt [⟨tg,iter,ifs,0⟩] scope pos) 0 (.ref it) acc { cenv with scope:=relabel scope X.env }) (RR acc cenv.locals) s₄) E s₃) E s:=by
 have hD:H s.heap.objs.size=none:=I.fresh;obtain⟨W,⟨m0,w0⟩,turn⟩:=rd s.heap.objs.size hD;refine cZ ?_;have hI3:Inv X pins σ (upd H s.heap.objs.size (.lst [])) { s with heap:=s.heap.push { cls:=.type "list",data:=.seq ([]:List δ).toArray }}:=
  I.Ed (t':=s.toks) (its:=[]) (ys:=[]) .nil (aG _)
 have hlt:∀b∈fp,b<s.heap.objs.size:=fun b hb=>by
  obtain⟨o,e,_⟩:=T.obj 0 _ st b hb;exact aa e
 have st3:tn 0 (s.heap.push { cls:=.type "list",data:=.seq ([]:List δ).toArray }):=T.keep 0 _ _ st fun b _ o e=>μ _ e;generalize hs3:({ s with heap:=s.heap.push { cls:=.type "list",data:=.seq ([]:List δ).toArray }}:η)=s3 at hI3 ⊢;have hsz3:s3.heap.objs.size=s.heap.objs.size+1:=by rw[←hs3];exact iz ..
 have st3':tn 0 s3.heap:=by rw[←hs3];exact st3
 have hf3:∀b∈fp,nH X pins (upd H s.heap.objs.size (.lst [])) b/\b<s3.heap.objs.size:=fun b hb=>by
  obtain⟨f0,f1⟩:=hf b hb;refine⟨⟨?_,f1⟩,by rw[hsz3];exact et (hlt b hb)⟩;rw[dX (aZ (hlt b hb))];exact f0
 refine wpAny_newFunctionEnv C.Ca (by intro y hy;simp at hy) (fun h₁ hns₁ hsb₁=>?_) C.kind;have kept1:∀b o,s3.heap.get? b=some o->h₁.get? b=some o:=fun b o e=>(hsb₁.2 b (aZ (aa e))).trans (μ _ e);have I4:Inv (X.cmp scope own js s3 (upd H s.heap.objs.size (.lst [])) fp) [] (uq own js σ) (upd H s.heap.objs.size (.lst [])) { s3 with heap:=h₁,toks:=s3.toks+([]:List (ν×δ)).length }:=
  hI3.cmp C hf3 hns₁ kept1
 have st4:tn 0 h₁:=T.keep 0 _ _ st3' fun b _ o e=>kept1 b o e;obtain⟨hg,ht,he⟩:=hb s3 (upd H s.heap.objs.size (.lst [])) fp
 -- the iterator's objects in the block's context
 have stat:∀{H':Hp},(∀b∈fp,H' b=none)->∀b∈fp,nH (X.cmp scope own js s3 (upd H s.heap.objs.size (.lst [])) fp) [] H' b:=fun {H'} hn b hb=>by
  have q:=I4.ok;exact⟨hn b hb,(q.Cj b hb).1,q.wO b hb,.inl hb,(q.Cj b hb).2,fun p hp=>absurd (show p∈([]:List (ζ×aW)) from hp) (by simp)⟩
 have loop:iu (model X.prog X.w) X.A (.compLoop (.ListComp elt [⟨tg,iter,ifs,0⟩] scope pos) 0 (.ref it) (.ref s.heap.objs.size) (compEnvC scope (mG X.env scope.names []) s3.heap.objs.size X.env))
   (RR (.ref s.heap.objs.size) s3.heap.objs.size) { s3 with heap:=h₁,toks:=s3.toks+([]:List (ν×δ)).length }:=by
  refine Ut (fun n s'=>∃i ys σ' H',Inv (X.cmp scope own js s3 (upd H s.heap.objs.size (.lst [])) fp) [] σ' H' s'/\tn i s'.heap/\(∀b∈fp,H' b=none)/\W i n ys σ' H') ?_ m0
   ⟨0,[],_,_,I4,st4,fun b hb=>(hf3 b hb).1.1,w0⟩
  rintro n s5 ⟨i,ys,σ5,H5,I5,st5,fr5,w5⟩;obtain⟨hacc,hcase⟩:=turn i n ys σ5 H5 w5;rcases hcase with⟨stop,qn⟩|⟨go,hys,step⟩
  ·refine bS (T.done (X.cmp scope own js s3 (upd H s.heap.objs.size (.lst [])) fp) rfl rfl rfl hc i [] s5 σ5 H5 (fun _ _=>False) I5 (stat fr5) st5 stop) fun r s6 ⟨hr,I6⟩=>?_;subst hr;have I7:=hI3.Lv hf3 I6;obtain⟨m,hm,_⟩:=I6.loc;exact Xd _ _ _ _ I7 qn (by rw[hsz3];exact uL _) I6.free ⟨m,hm⟩
  ·refine bS (T.item (X.cmp scope own js s3 (upd H s.heap.objs.size (.lst [])) fp) rfl rfl rfl hc i [] s5 σ5 H5 (fun _ _=>False) I5 (stat fr5) st5 go) fun r s6 ⟨u,hr,h6⟩=>?_;subst hr;refine bS h6 fun _ s7 ⟨x,H7,I7,r7,y7,st7,fr7⟩=>?_;have I7':=I7.pinned (stat fr7) (T.obj _ _ st7);refine bS (hg _ s7 σ5 H7 x u _ I7' r7 (step x H7 y7)) fun _ s8 ⟨σ8,H8,I8,q8⟩=>?_;refine bS (ht _ s8 σ8 H8 _ I8 q8) fun ok s9 ⟨H9,I9,q9⟩=>?_;have back:∀{σ':St} {H':Hp} {s':η} {ys':List V},Inv (X.cmp scope own js s3 (upd H s.heap.objs.size (.lst [])) fp) ([]++tm fp s7.heap) σ' H' s'->(∃m',m' < n/\W (i+1) m' ys' σ' H') ->
     ∃m',m' < n/\∃i ys σ' H',Inv (X.cmp scope own js s3 (upd H s.heap.objs.size (.lst [])) fp) [] σ' H' s'/\tn i s'.heap/\(∀b∈fp,H' b=none)/\W i m' ys σ' H':=fun {σ' H' s' ys'} I' ⟨m',hm,w'⟩=>by
    refine⟨m',hm,i+1,ys',σ',H',I'.qX,T.keep _ _ _ st7 fun b hb o e=>(I'.pin (b,o) (ay _ (ay _ (AH hb e)))).1,fun b hb=>?_,w'⟩;obtain⟨o,e,d⟩:=T.obj _ _ st7 b hb;exact (I'.pin (b,o) (ay _ (ay _ (AH hb e)))).2.1
   cases ok with
   |false=>
    rw[if_neg Ψ] at q9 ⊢;exact back I9 q9
   |true=>
    rw[if_pos rfl] at q9 ⊢;refine bS (he _ s9 σ8 H9 _ I9 q9) fun xv s10 ⟨v,H10,I10,r10,hD10,q10⟩=>?_;refine bS (J1 (X:=X.cmp scope own js s3 (upd H s.heap.objs.size (.lst [])) fp) _ s10 σ8 H10 (.ref s.heap.objs.size) [v] (.ref s.heap.objs.size) [xv] (fun _ H'=>H'=upd H10 s.heap.objs.size (.lst (ys++[v]))) I10 rfl (.cons r10 .nil)
     ⟨_,ys,v,rfl,rfl,hD10,hys,rfl⟩) fun _ s11 ⟨_,H11,I11,_,e11⟩=>?_
    subst e11;exact back I11 q10
 exact codeAny_compStart_list loop (T.self _ 0 _ _ _ st4 loop)
theorem Us{wi:TI}(hc:X.calm=true)(C:eY X.N X.env.scope scope own js)(hi:PI X tg iter wi)
  (hb:∀s H fp,PG (X.cmp scope own js s H fp) tg g/\uH (X.cmp scope own js s H fp) ifs tc/\PE (X.cmp scope own js s H fp) elt te)
  (hs:∀x,foldedSetIterable iter X.env x=pure x:=by intro _;rfl):PE X (.ListComp elt [⟨tg,iter,ifs,0⟩] scope pos) (FV own js wi g tc te):=by
 intro pins s σ H Q I h;rw[eval_ListComp];refine pf (use:=none) rfl hs (Kp (C.cells I.ok)) C.kind C.names (bS (hi pins s σ H _ I h) fun xv s₁ h₁=>bS h₁ fun itv s₂ h₂=>?_);obtain⟨it,fp,tn,J,H2,e,I2,T,st2,f2,rd⟩:=h₂;subst e;refine JM (RR:=fun acc C'=>compPost (model X.prog X.w) X.A X.xe none (EP X pins σ Q) acc C') hc C hb I2 T st2 f2 rd fun D N s' H' I' q hN hHN ⟨m,hm⟩=>?_;exact⟨m,hm,fun h' sb=>⟨.ref D,H',I2.other I' hN hHN sb,rfl,q⟩⟩
theorem Tz{wi:TI}{i:Nat}{y:ν}{py spos:aV}(hc:X.calm=true)(hN:X.N.Nodup)(hy:X.N[i]?=some y)(hyl:X.env.scope.names.lookup y=some .local)(C:eY X.N X.env.scope scope own js)(hi:PI X tg iter wi)
  (hb:∀s H fp,PG (X.cmp scope own js s H fp) tg g/\uH (X.cmp scope own js s H fp) ifs tc/\PE (X.cmp scope own js s H fp) elt te)
  (Cg:swapsWith (.ListComp elt [⟨tg,iter,ifs,0⟩] scope pos) (some (.Name y py)) spos.line X.env=pure true:=by rfl)
  (hs:∀x,foldedSetIterable iter X.env x=pure x:=by intro _;rfl):PS X (.Assign [.Name y py] (.ListComp elt [⟨tg,iter,ifs,0⟩] scope pos) spos) (Cy (FV own js wi g tc te) (Ba i)):=by
 intro pins s σ H D I h;rw[exec_Assign_Name_used _ _ _ _ Cg];refine ε (kO (ε ?_));show ρ _ X.A (do let _ ←comprehension (.ListComp elt [⟨tg,iter,ifs,0⟩] scope pos) scope X.env _ (newList []) false (eval iter X.env) (some (assign (.Name y py) X.env))) _ _ s;refine ε (b9 (pf (use:=some (assign (.Name y py) X.env)) (Q:=fun _ s'=>SP X pins D .next s') rfl hs (Kp (C.cells I.ok)) C.kind C.names
  (bS (hi pins s σ H _ I h) fun xv s₁ h₁=>bS h₁ fun itv s₂ h₂=>?_)) (fun _ s' hq=>ο (ο hq)) fun _ _ e=>e)
 obtain⟨it,fp,tn,J,H2,e,I2,T,st2,f2,rd⟩:=h₂;subst e;refine JM (RR:=fun acc C'=>compPost (model X.prog X.w) X.A X.xe (some (assign (.Name y py) X.env)) (fun _ s'=>SP X pins D .next s') acc C') hc C hb I2 T st2 f2 rd fun L N s' H' I' q hN' hHN ⟨m,hm⟩=>?_
 show ρ _ _ (assign (.Name y py) X.env (.ref L)) _ _ _;refine wpAny_assign_Name (DV I' hN hy (.inl hyl) (v:=.ref L) rfl (fun s'' I'' ⟨a,sb,ha⟩=>?_) (.inr hyl));have hNa:N≠a:=by
  obtain⟨f0,f1,f2,f3,f4,f5⟩:=I2.wN hN' hHN;rcases ha with rfl|ha
  ·exact f1
  ·exact eV (f4 _ _ ha)
 refine⟨m,hm.sameBut sb hNa,fun h'' sb''=>?_⟩;refine⟨σ.set i (some (.ref L)),H',?_,q⟩;obtain⟨f0,f1,f2,f3,f4,f5⟩:=I2.wN hN' hHN;exact I''.turned (t':=s''.toks) (fun c o hc e=>(sb''.2 c hc).trans e) f0 f1 f3 f4 f5
end
end L2
namespace L3
open PySem PySem.Spec PyProof.Rows L2
section
variable {X:Cx} {st:aY} {rest:List aY} {t u:bj} {e c:υ} {te:aP} {tc:cI} {pos:aV}
def fc:bj:=fun D τ G=>D.nx τ G
def cm(t u:bj):bj:=fun D τ G=>t { D with nx:=u D } τ G
theorem Tx:jd X [] fc:=Kr Vy fun D σ H ⟨τ,G,D3,RS,RG,h,k⟩=>k.nx τ σ G H RS (.refl H G) RG h
theorem Tw(h1:qA X st t)(h2:jd X rest u):jd X (st::rest) (cm t u):=Kr (Vx h1 h2) fun D σ H ⟨τ,G,D3,RS,RG,h,k⟩=>
 ⟨τ,G,{ D3 with nx:=u D3 },RS,RG,h,⟨fun τ' σ' G' H' a b c q=>⟨τ',G',D3,a,c,q,k.step b⟩,k.bk,k.ct,k.rt⟩⟩
theorem Tv(h1:qA X st t):jd X [st] t:=Vw h1
def qZ(te:aP):bj:=fun D τ G=>te τ G fun _ G1=>D.nx τ G1
theorem Tu(he:bW X e te)(hs:swapsWith e none pos.line X.env=pure false:=by rfl):qA X (.Expr e pos) (qZ te):=rb (Vv he hs) fun D σ H ⟨τ,G,D3,RS,RG,h,k⟩=>
 ⟨τ,G,_,RS,RG,h,fun v H1 d G1 h1 S1 R1 q1=>k.nx τ σ G1 H1 (RS.ext (S1.ext RG)) S1 R1 q1⟩
def di(te:aP):bj:=fun D τ G=>te τ G D.rt
theorem Tt(he:bW X e te):qA X (.Return (some e) pos) (di te):=rb (Vu he) fun D σ H ⟨τ,G,D3,RS,RG,h,k⟩=>
 ⟨τ,G,D3.rt,RS,RG,h,fun v H1 d G1 h1 S1 R1 q1=>k.rt d v G1 H1 h1 S1 R1 q1⟩
def jn(c:cI)(t u:bj):bj:=fun D τ G=>c τ G fun b G1=>Br b (t D τ G1) (u D τ G1)
theorem MB{a b:List aY}(hc:qz X c tc)(ha:jd X a t)(hb:jd X b u):qA X (.If c a b pos) (jn tc t u):=rb (Vt hc ha hb) fun D σ H ⟨τ,G,D3,RS,RG,h,k⟩=>
 ⟨τ,G,_,RS,RG,h,fun b H1 G1 S1 R1 q1=>Br.ite q1 (fun q=>⟨τ,G1,D3,RS.ext (S1.ext RG),R1,q,k.step S1⟩) fun q=>⟨τ,G1,D3,RS.ext (S1.ext RG),R1,q,k.step S1⟩⟩
end
abbrev iE:=D->S3->Gp->(S3->Gp->Prop)->Prop
abbrev oW:=List D->S3->Gp->(S3->Gp->Prop)->Prop
def lowG(K:θ)(t:iE):TG:=fun v σ H Q=>∃d τ G Q3,Hv K H d v/\dZ K τ σ H/\aS K G H/\t d τ G Q3/\∀τ' σ' G' H',dZ K τ' σ' H'->Step H G H' G'->aS K G' H'->Q3 τ' G'->Q σ' H'
def LW(K:θ)(t:oW):vR:=fun vs σ H Q=>∃ds τ G Q3,aJ K H ds vs/\dZ K τ σ H/\aS K G H/\t ds τ G Q3/\∀τ' σ' G' H',dZ K τ' σ' H'->Step H G H' G'->aS K G' H'->Q3 τ' G'->Q σ' H'
abbrev vS(X:Cx)(tg:υ)(t:iE):Prop:=PG X tg (lowG X.K t)
abbrev yU(X:Cx)(tgs:List υ)(t:oW):Prop:=oZ X tgs (LW X.K t)
section
variable {X:Cx} {pos:aV} {e:υ} {es:List υ}
theorem DZ{t t':TG}(h:PG X e t)(f:∀v σ H Q,t' v σ H Q->t v σ H Q):PG X e t':=fun pins s σ H v u Q I r q=>h pins s σ H v u Q I r (f v σ H Q q)
theorem JL{t t':vR}(h:oZ X es t)(f:∀v σ H Q,t' v σ H Q->t v σ H Q):oZ X es t':=fun pins s σ H v u Q I r q=>h pins s σ H v u Q I r (f v σ H Q q)
def hName(i:Nat):iE:=fun d τ G Q=>Q (kU τ i d) G
theorem Ts{i:Nat}{x:ν}(hN:X.N.Nodup)(hi:X.N[i]?=some x:=by rfl)(hx:Loc X.env.scope x:=by first|exact tX rfl|exact qO rfl)(hf:X.fn x=true∨X.env.scope.names.lookup x=some .local:=by first|exact .inl rfl|exact .inr rfl|assumption):vS X (.Name x pos) (hName i):=
 DZ (Vs hN hi hx hf) fun v σ H Q ⟨d,τ,G,Q3,hd,RS,RG,h,k⟩=>k _ _ G H (RS.set hd) (.refl H G) RG h
def Eh:oW:=fun ds τ G Q=>match ds with
 |[]=>Q τ G
 |_::_=>False
def xk(t:iE)(u:oW):oW:=fun ds τ G Q=>match ds with
 |[]=>False
 |d::r=>t d τ G fun τ' G'=>u r τ' G' Q
theorem Tr:yU X [] Eh:=JL Vr fun vs σ H Q ⟨ds,τ,G,Q3,hd,RS,RG,h,k⟩=>by
 cases ds with
 |nil=>exact⟨hd.il,k _ _ G H RS (.refl H G) RG h⟩
 |cons d r=>exact h.elim
theorem Tq{t:iE}{u:oW}(h1:vS X e t)(h2:yU X es u)(hs:(assignEach (e::es) X.env).map (·.2)=assign e X.env::(assignEach es X.env).map (·.2):=by rfl):yU X (e::es) (xk t u):=
 JL (Vq h1 h2 hs) fun vs σ H Q ⟨ds,τ,G,Q3,hd,RS,RG,h,k⟩=>by
  cases ds with
  |nil=>exact h.elim
  |cons d r=>
   obtain⟨v,vr,rfl,q1,q2⟩:=hd.inv;refine⟨v,vr,rfl,d,τ,G,_,q1,RS,RG,h,fun τ' σ' G' H' a b c q=>?_⟩;exact⟨r,τ',G',Q3,q2.ext (b.ext RG),a,c,q,fun τ2 σ2 G2 H2 a2 b2 c2=>k τ2 σ2 G2 H2 a2 (b.trans b2) c2⟩
def Eg(n:Nat)(t:oW):iE:=fun d τ G Q=>match d with
 |.tup ds=>ds.length=n/\t ds τ G Q
 |_=>False
theorem Tp{k:Nat}{t:oW}{n:Nat}(hc:X.calm=true)(h:yU X es t)(hn:(assignEach es X.env).length=n:=by rfl)(hst:(assignEach es X.env).findIdx? (·.1)=none:=by rfl):vS X (.Tuple es k pos) (Eg n t):=
 DZ (Vp hc h hn hst) fun v σ H Q ⟨d,τ,G,Q3,hd,RS,RG,h,k⟩=>by
  cases d with
  |tup ds=>
   unfold Hv at hd;obtain⟨a,vs,e1,e2,e3⟩:=hd;exact⟨a,vs,e1,e2,by rw[←e3.length];exact h.1,ds,τ,G,Q3,e3,RS,RG,h.2,k⟩
  |_=>exact h.elim
def dj(te:aP)(g:iE):bj:=fun D τ G=>te τ G fun x G1=>g x τ G1 D.nx
theorem Tn{tg:υ}{te:aP}{g:iE}(he:bW X e te)(hg:vS X tg g)(hs:swapsWithSole [tg] e pos.line X.env=pure false:=by rfl)(hw:swappedStores [tg] e X.env=pure none:=by rfl)
  (h1:(assignEach [tg] X.env).map (·.2)=[assign tg X.env]:=by rfl):qA X (.Assign [tg] e pos) (dj te g):=rb (Vn he hg hs hw h1) fun D σ H ⟨τ,G,D3,RS,RG,h,k⟩=>
 ⟨τ,G,_,RS,RG,h,fun v H1 d G1 h1 S1 R1 q1=>⟨d,τ,G1,D3.nx,h1,RS.ext (S1.ext RG),R1,q1,fun τ' σ' G' H' a b c q=>k.nx τ' σ' G' H' a (S1.trans b) c q⟩⟩
theorem Tj{i:Nat}{x:ν}{te:aP}{pos':aV}(hN:X.N.Nodup)(he:bW X e te)(hi:X.N[i]?=some x:=by rfl)(hx:Loc X.env.scope x:=by first|exact tX rfl|exact qO rfl)(hs:swapsWith e (some (.Name x pos')) pos.line X.env=pure false:=by rfl)
  (hf:X.fn x=true∨X.env.scope.names.lookup x=some .local:=by first|exact .inl rfl|exact .inr rfl|assumption):qA X (.Assign [.Name x pos'] e pos) (dj te (hName i)):=rb (Vm hN hi hx he hs hf) fun D σ H ⟨τ,G,D3,RS,RG,h,k⟩=>
 ⟨τ,G,_,RS,RG,h,fun v H1 d G1 h1 S1 R1 q1=>k.nx _ _ G1 H1 ((RS.ext (S1.ext RG)).set h1) S1 R1 q1⟩
def ES:D->D->D->Gp->(Gp->Prop)->Prop:=fun o i v G Q=>match o,i with
 |.obj p,.int k=>∃ds j,G p=some (.lst ds)/\vH ds.length k=some j/\Q (eH G p (.lst (ds.set j v)))
 |_,_=>False
def hSub(to ti:aP):iE:=fun v τ G Q=>to τ G fun o G1=>ti τ G1 fun i G2=>ES o i v G2 fun G3=>Q τ G3
theorem Ti{K:θ}{o i v:D}{vo vi vv:V}{G:Gp}{H:Hp}{Q3:Gp->Prop}{Q:Hp->Prop}(ho:Hv K H o vo)(hi:Hv K H i vi)(hv:Hv K H v vv)(RG:aS K G H)(h:ES o i v G Q3)
  (k:∀H' G',Step H G H' G'->aS K G' H'->Q3 G'->Q H'):ER vo vi vv H Q:=by
 match o,i,ho,hi,h with
 |.obj p,.int j,ho,hi,h=>
  unfold Hv at ho hi;obtain⟨ds,n,e1,e2,q⟩:=h;obtain⟨vs,e3,e4⟩:=RG p _ e1;refine⟨p,vs,j,n,ho,hi,e3,by rw[←e4.length];exact e2,k _ _ (Step.wrote (g:=.lst (ds.set n v)) e1) (RG.wrote e3 ⟨_,iV,?_⟩) q⟩;exact (e4.ext (Ext.wrote e3)).set n (hv.ext (Ext.wrote e3))
 |.obj _,.aO,_,_,h=>exact h.elim
 |.obj _,.bl _,_,_,h=>exact h.elim
 |.obj _,.str _,_,_,h=>exact h.elim
 |.obj _,.tup _,_,_,h=>exact h.elim
 |.obj _,.fM _,_,_,h=>exact h.elim
 |.obj _,.obj _,_,_,h=>exact h.elim
 |.obj _,.dc _,_,_,h=>exact h.elim
 |.dc _,_,_,_,h=>exact h.elim
 |.aO,_,_,_,h=>exact h.elim
 |.bl _,_,_,_,h=>exact h.elim
 |.int _,_,_,_,h=>exact h.elim
 |.str _,_,_,_,h=>exact h.elim
 |.tup _,_,_,_,h=>exact h.elim
 |.fM _,_,_,_,h=>exact h.elim
theorem Th{o i:υ}{to ti:aP}(ho:bW X o to)(hi:bW X i ti)
  (ha:∀v,assign (.Subscript o i pos) X.env v=(do
   let ov ←holding [v] (eval o X.env)
   let iv ←holding [v,ov] (eval i X.env)
   standAt pos
   holding [v,ov,iv] (setItem ov iv v)
   release [v,ov,iv] []):=by intro _;rfl):vS X (.Subscript o i pos) (hSub to ti):=DZ (Vo ho hi set_list ha) fun v σ H Q ⟨d,τ,G,Q3,hd,RS,RG,h,k⟩=>
 ⟨τ,G,_,RS,RG,h,fun v1 H1 d1 G1 h1 S1 R1 q1=>⟨τ,G1,_,RS.ext (S1.ext RG),R1,q1,fun v2 H2 d2 G2 h2 S2 R2 q2=>
  Ti (h1.ext (S2.ext R1)) h2 ((hd.ext (S1.ext RG)).ext (S2.ext R1)) R2 q2 fun H' G' y1 y2 y3=>k _ _ G' H' (((RS.ext (S1.ext RG)).ext (S2.ext R1)).ext (y1.ext R2)) ((S1.trans S2).trans y1) y2 y3⟩⟩
def xC(c:cI)(tb:bj):bj:=fun D τ G=>∃W:Nat->S3->Gp->Prop,(∃m,W m τ G)/\∀m τ G,W m τ G ->
 c τ G fun b G1=>Br b (tb { D with nx:=fun τ' G'=>∃m',m' < m/\W m' τ' G',ct:=fun τ' G'=>∃m',m' < m/\W m' τ' G',bk:=D.nx } τ G1) (D.nx τ G1)
theorem Tg{c:υ}{body:List aY}{tc:cI}{tb:bj}(hp:m6 (model X.prog X.w) X.A X.env X.xe)(hc:qz X c tc)(hb:jd X body tb):qA X (.While c body [] pos) (xC tc tb):=
 rb (Vl hp hc hb) fun D σ H ⟨τ,G,D3,RS,RG,⟨W,⟨m0,w0⟩,turn⟩,k⟩=>by
  refine⟨fun m σ' H'=>∃τ' G',W m τ' G'/\dZ X.K τ' σ' H'/\aS X.K G' H'/\Step H G H' G',⟨m0,τ,G,w0,RS,RG,.refl H G⟩,fun m σ1 H1 ⟨τ1,G1,w1,RS1,RG1,S1⟩=>?_⟩;refine⟨τ1,G1,_,RS1,RG1,turn m τ1 G1 w1,fun b H2 G2 S2 R2 q2=>Br.ite q2 (fun q=>?_) fun q=>k.nx _ _ G2 H2 (RS1.ext (S2.ext RG1)) (S1.trans S2) R2 q⟩;refine⟨fun σ' H'=>∃τ' G',(∃m',m' < m/\W m' τ' G')/\dZ X.K τ' σ' H'/\aS X.K G' H'/\Step H G H' G',fun σ' H' ⟨τ',G',⟨m',hm,w'⟩,a,b,c⟩=>⟨m',hm,τ',G',w',a,b,c⟩,?_⟩;refine⟨τ1,G2,_,RS1.ext (S2.ext RG1),R2,q,⟨?_,?_,?_,?_⟩⟩
  ·exact fun τ' σ' G' H' a b c q=>⟨τ',G',q,a,c,(S1.trans S2).trans b⟩
  ·exact fun τ' σ' G' H' a b c q=>k.nx τ' σ' G' H' a ((S1.trans S2).trans b) c q
  ·exact fun τ' σ' G' H' a b c q=>⟨τ',G',q,a,c,(S1.trans S2).trans b⟩
  ·exact fun d v G' H' a b c q=>k.rt d v G' H' a ((S1.trans S2).trans b) c q
end
abbrev fO:=List D->Gp->V3->Prop
def mS(K:θ)(sp:fO):Sp:=fun vs H Q _=>∃ds G Q3,aJ K H ds vs/\aS K G H/\sp ds G Q3/\∀v H' d G',Hv K H' d v->Step H G H' G'->aS K G' H'->Q3 d G'->Q v H'
abbrev eX(P:Ω)(w:aw)(K:θ)(mg:ν->Option δ)(base:au)(k:Nat)(f:ζ)(fd:aB)(ps:List ν)(sp:fO):Prop:=je P w K mg base pT k f fd ps (mS K sp)
def bO(sp:fO)(t:cM):aP:=fun τ G Q=>t τ G fun ds G1=>sp ds G1 Q
section
variable {X:Cx} {k:Nat} {f:ζ} {fd:aB} {ps:List ν} {sp:fO} {x:ν} {p pos:aV} {e:υ} {es:List υ} {t:cM}
theorem JK{K:θ}{σ:L2.St}{H:Hp}{Q:VK}{E:XK}(h:low K (bO sp t) σ H Q):zJ (mS K sp) [] E (tw K t) σ H Q:=by
 obtain⟨τ,G,Q3,RS,RG,h,k⟩:=h;refine⟨τ,G,_,RS,RG,h,fun vs H1 ds G1 h1 S1 R1 q1=>?_⟩;refine⟨ds,G1,Q3,by rw[bF];exact h1,R1,q1,fun v H' d G' z1 z2 z3 z4=>k v H' d G' z1 (S1.trans z2) z3 z4⟩
theorem Tf(F:eX X.prog X.w X.K X.mg X.base k f fd ps sp)(hr:dz k X.A)(hm:X.mg x=some (.ref f))(hk:bN X.K (.ref f)=true)(hb:Binds X.K fd ps [])(ha:jt X (e::es) t)(hg:Gl X x:=by rfl)
  (hdb:(x==("__debug__":ν))=false:=by decide) (he:notStar e=true:=by rfl) (hpl:es.all notStar=true:=by rfl):
  bW X (.Call (.Name x p) (e::es) [] pos) (bO sp t):=iC (US (E:=E0) F hr hg hm hk hb .nil LI ha hdb (dW he) (jo hpl)) fun σ H Q h=>JK h
end
section
variable {P:Ω} {w:aw} {K:θ} {mg:ν->Option δ} {base:au}
def bw(Q:V3):gu:={ nx:=fun _ G'=>∃G0,Sub G0 G'/\Q .aO G0,rt:=fun d G'=>∃G0,Sub G0 G'/\Q d G0 }
theorem Xq{x qual:ν}{st:aY}{f:ζ}{fd:aB}{N ps:List ν}{k:Nat}{sp:fO}(F:fv K x qual st f fd)(S:bP N ps (ar st))(hN:ps.length≤N.length)(len:∀ds G Q,sp ds G Q->ds.length=ps.length)(tb:bj)
  (gV:∀(cdv:δ) (A:aF) (outer:List cW) (s:η) (H:Hp) (E:XK),dz k (A.deeper (envOfC qual (ar st) s.heap.objs.size f cdv)) ->
   jd (jO pT P w K mg base N qual (ar st) f cdv A outer s H E).lj (fm st) tb)
  (sh:∀ds G Q,sp ds G Q->tb (bw Q) (bA N ds) G):eX P w K mg base (k+1) f fd ps sp:=by
 refine F.ok S (fun vs H Q E h=>?_) (fun cdv A outer s H vs Q E hr h=>?_)
 ·obtain⟨ds,G,Q3,h1,h2,h3,h4⟩:=h;rw[←h1.length];exact len _ _ _ h3
 ·obtain⟨ds,G,Q3,h1,h2,h3,h4⟩:=h;refine⟨_,gV cdv A outer s H E hr,bA N ds,G,bw Q3,.start h1 ?_,h2,sh _ _ _ h3,⟨?_,?_,?_,?_⟩⟩
  ·rw[←h1.length,len _ _ _ h3];exact hN
  ·exact fun τ σ G' H' a b c ⟨G0,s0,q⟩=>h4 _ H' .aO G0 (by simp[Hv]) (b.trans (.sub s0)) (c.sub s0) q
  ·exact fun τ σ G' H' a b c q=>q.elim
  ·exact fun τ σ G' H' a b c q=>q.elim
  ·exact fun d v G' H' a b c ⟨G0,s0,q⟩=>h4 _ H' d G0 a (b.trans (.sub s0)) (c.sub s0) q
end
end L3
namespace L3
open PySem PySem.Spec PyProof.Rows L2
structure Src where
 items:List D
 guard:Gp->Prop
structure Fk(K:θ)(H0:Hp)(J:It)(S:Src):Prop where
 go:∀(i:Nat) d H G,Ext H0 H->aS K G H->S.guard G->S.items[i]?=some d->J.go i H/\∀x H',J.EI i H x H'->Hv K H' d x/\Step H G H' G/\aS K G H'
 stop:∀(i:Nat) H G,Ext H0 H->aS K G H->S.guard G->S.items.length≤i->J.stop i H
abbrev pP:=S3->Gp->(Src->Gp->Prop)->Prop
def KU(K:θ)(ti:pP):TI:=fun σ H R=>∃τ G R3,dZ K τ σ H/\aS K G H/\ti τ G R3/\∀J H' S G',Fk K H' J S->Step H G H' G'->aS K G' H'->R3 S G'->R J H'
abbrev yS(X:Cx)(tg iter:υ)(ti:pP):Prop:=PI X tg iter (KU X.K ti)
section
variable {X:Cx} {tg iter:υ} {pos p:aV}
theorem JJ{t t':TI}(h:PI X tg iter t)(f:∀σ H R,t' σ H R->t σ H R):PI X tg iter t':=fun pins s σ H R I q=>h pins s σ H R I (f σ H R q)
def vd(te:aP):pP:=fun τ G R=>te τ G fun x G1=>match x with
 |.obj p=>∃ds,G1 p=some (.lst ds)/\R ⟨ds,fun G=>G p=some (.lst ds)⟩ G1
 |.tup ds=>R ⟨ds,fun _=>True⟩ G1
 |.fM ds=>R ⟨ds,fun _=>True⟩ G1
 |_=>False
theorem Te{l:υ}{te:aP}(hl:bW X l te):yS X tg l (vd te):=by
 intro pins s σ H R I h;obtain⟨τ,G,R3,RS,RG,h,k⟩:=h
 -- the state carries what a list of the heap is
 refine bS (hl pins s σ H (fun v H'=>∃d G',Hv X.K H' d v/\Step H G H' G'/\aS X.K G' H'/\(match d with
  |.obj p=>∃ds,G' p=some (.lst ds)/\R3 ⟨ds,fun G=>G p=some (.lst ds)⟩ G'
  |.tup ds=>R3 ⟨ds,fun _=>True⟩ G'
  |.fM ds=>R3 ⟨ds,fun _=>True⟩ G'
  | _=>False)) I ⟨τ,G,_,RS,RG,h,fun v H' d G' a b c q=>⟨d,G',a,b,c,q⟩⟩) fun v s1 ⟨x,H1,I1,r1,d,G1,hv,S1,R1,q⟩=>?_
 have hlist:∀(a:ζ) (its:List δ) (xs:List V),bt xs its->PlainL s1.heap a its.toArray->R (Mo X.K a) H1->ρ (model X.prog X.w) X.A (pyIter (.ref a)) (Lg X pins σ tg R) X.xe s1:=by
  intro a its xs rv p q;refine nV p.isList ?_;refine⟨s1.heap.objs.size,[s1.heap.objs.size],_,_,H1,rfl,I1.kept (t':=s1.toks) fun b o e=>μ _ e,Vk a _,⟨_,aM _ rfl,rfl,rfl⟩,fun b hb=>?_,q⟩;have e:b=s1.heap.objs.size:=by simpa using hb
  subst e;exact I1.wN (Θ _) (I1.bI.fresh (Θ _))
 cases d with
 |obj a=>
  unfold Hv at hv;subst hv;cases r1;obtain⟨ds,e1,q⟩:=q;obtain⟨vs,e2,e3⟩:=R1 a _ e1;obtain⟨its,rv,p,hz⟩:=I1.list (gJ.of e2);refine hlist a its vs rv p (k _ _ _ _ ⟨?_,?_⟩ S1 R1 q)
  ·intro i d H' G' E' RG' hg hi;obtain⟨vs',z1,z2⟩:=RG' a _ hg;obtain⟨v',y1,y2⟩:=z2.get hi;refine⟨⟨vs',v',.of z1,y1⟩,fun x H'' hy=>?_⟩;obtain⟨rfl,hy⟩:=hy;have:=hy vs' (.of z1);rw[y1] at this;cases this;exact⟨y2,.refl _ _,RG'⟩
  ·intro i H' G' E' RG' hg hi;obtain⟨vs',z1,z2⟩:=RG' a _ hg;exact⟨vs',.of z1,by rw[←z2.length];exact hi⟩
 |tup ds=>
  unfold Hv at hv;obtain⟨a,vs,rfl,e2,e3⟩:=hv;cases r1;obtain⟨its,rv,p,hz⟩:=I1.tuple e2;have hq:R (Mn X.K a) H1:=by
   refine k _ _ _ _ ⟨?_,?_⟩ S1 R1 q
   ·intro i d H' G' E' RG' hg hi;obtain⟨v',y1,y2⟩:=e3.get hi;refine⟨⟨vs,v',dh.ext E' e2,y1⟩,fun x H'' hy=>?_⟩;obtain⟨rfl,hy⟩:=hy;have:=hy vs (dh.ext E' e2);rw[y1] at this;cases this;exact⟨y2.ext E',.refl _ _,RG'⟩
   ·intro i H' G' E' RG' hg hi;exact⟨vs,dh.ext E' e2,by rw[←e3.length];exact hi⟩
  refine wpAny_pyIter_tuple (show s1.heap.IsTuple a its.toArray from p) ?_;refine⟨s1.heap.objs.size,[s1.heap.objs.size],_,_,H1,rfl,I1.kept (t':=s1.toks) fun b o e=>μ _ e,Vj a _,⟨_,aM _ rfl,rfl,rfl⟩,fun b hb=>?_,hq⟩;have e:b=s1.heap.objs.size:=by simpa using hb
  subst e;exact I1.wN (Θ _) (I1.bI.fresh (Θ _))
 |fM ds=>
  unfold Hv at hv;obtain⟨a,vs,rfl,e2,e3⟩:=hv;cases r1;obtain⟨its,rv,p,hz⟩:=I1.list e2.l;refine hlist a its vs rv p (k _ _ _ _ ⟨?_,?_⟩ S1 R1 q)
  ·intro i d H' G' E' RG' hg hi;obtain⟨v',y1,y2⟩:=e3.get hi;refine⟨⟨vs,v',(lR.ext E' e2).l,y1⟩,fun x H'' hy=>?_⟩;obtain⟨rfl,hy⟩:=hy;have:=hy vs (lR.ext E' e2).l;rw[y1] at this;cases this;exact⟨y2.ext E',.refl _ _,RG'⟩
  ·intro i H' G' E' RG' hg hi;exact⟨vs,(lR.ext E' e2).l,by rw[←e3.length];exact hi⟩
 |aO=>exact q.elim
 |bl _=>exact q.elim
 |int _=>exact q.elim
 |str _=>exact q.elim
 |dc _=>exact q.elim
def g7(lo:Int)(n:Nat):List D:=(bM n).map fun i:Nat=>.int (lo+(i:Int))
theorem Td{lo:Int}{n i:Nat}{d:D}(h:(g7 lo n)[i]?=some d):i<n/\d=.int (lo+(i:Int)):=by
 unfold g7 at h;rw[aT] at h;by_cases hi:i<n
 ·rw[sI hi] at h;simp at h;exact⟨hi,h.symm⟩
 ·rw[dD.mpr (by simpa using hi)] at h;cases h
theorem rz(lo:Int)(n:Nat):(g7 lo n).length=n:=by simp[g7]
theorem JI{K:θ}{H:Hp}(lo:Int)(n:Nat):Fk K H (Ct lo n) ⟨g7 lo n,fun _=>True⟩:=⟨by
 intro i d H' G' _ RG _ hi;obtain⟨h1,h2⟩:=Td hi;refine⟨h1,fun x H'' hy=>?_⟩;obtain⟨rfl,rfl⟩:=hy;exact⟨by rw[h2];simp[Hv],.refl _ _,RG⟩,by
 intro i H' G' _ RG _ hi;rw[rz] at hi;exact hi⟩
def kM(ta:cM):pP:=fun τ G R=>ta τ G fun ds G1=>match ds with
 |[.int j]=>(-(2^62)≤j/\j<2^62)/\R ⟨g7 0 j.toNat,fun _=>True⟩ G1
 |_=>False
def vI(ta:cM):pP:=fun τ G R=>ta τ G fun ds G1=>match ds with
 |[.int i,.int j]=>(-(2^62)≤i/\i<2^62/\-(2^62)≤j/\j<2^62)/\R ⟨g7 i (j-i).toNat,fun _=>True⟩ G1
 |_=>False
theorem Tc{a:υ}{ta:cM}(hm:X.mg "range" = none)(ha:jt X [a] ta)(hg:Gl X "range":=by rfl)(hs:notStar a=true:=by rfl):yS X tg (.Call (.Name "range" p) [a] [] pos) (kM ta):=
 JJ (Vh hg hm ha (dW hs)) fun σ H R ⟨τ,G,R3,RS,RG,h,k⟩=>⟨τ,G,_,RS,RG,h,fun vs H1 ds G1 h1 S1 R1 q1=>by
  rcases ds with _|⟨d,_|⟨d2,ds⟩⟩
  ·exact q1.elim
  ·cases d with
   |int j=>
    obtain⟨v,r,rfl,z1,z2⟩:=h1.inv;cases z2.il;unfold Hv at z1;exact⟨j,by rw[z1],q1.1.1,q1.1.2,k _ _ _ _ (JI 0 _) S1 R1 q1.2⟩
   |_=>exact q1.elim
  ·cases d<;>exact q1.elim⟩
theorem Tb{a b:υ}{ta:cM}(hm:X.mg "range" = none)(ha:jt X [a,b] ta)(hg:Gl X "range":=by rfl)(hs:notStar a=true:=by rfl)(hs2:notStar b=true:=by rfl):
  yS X tg (.Call (.Name "range" p) [a,b] [] pos) (vI ta):=
 JJ (Vg hg hm ha (by rw[dW hs,dW hs2];rfl) (dW hs2)) fun σ H R ⟨τ,G,R3,RS,RG,h,k⟩=>⟨τ,G,_,RS,RG,h,fun vs H1 ds G1 h1 S1 R1 q1=>by
  rcases ds with _|⟨d,_|⟨d2,_|⟨d3,ds⟩⟩⟩
  ·exact q1.elim
  ·cases d<;>exact q1.elim
  ·cases d with
   |int i=>
    cases d2 with
    |int j=>
     obtain⟨v,r,rfl,z1,z2⟩:=h1.inv;obtain⟨v',r',rfl,z3,z4⟩:=z2.inv;cases z4.il;unfold Hv at z1 z3;exact⟨i,j,by rw[z1,z3],q1.1,k _ _ _ _ (JI i _) S1 R1 q1.2⟩
    |_=>exact q1.elim
   |_=>exact q1.elim
  ·cases d with
   |int i=>cases d2<;>exact q1.elim
   |_=>exact q1.elim⟩
def rN(guard:Gp->Prop)(g:iE)(tb:bj)(D3:gu):List D->S3->Gp->Prop
 |[],τ,G=>guard G/\D3.nx τ G
 |d::ds,τ,G=>guard G/\g d τ G fun τ2 G2=>tb { D3 with nx:=rN guard g tb D3 ds,ct:=rN guard g tb D3 ds,bk:=D3.nx } τ2 G2
def wc(ti:pP)(g:iE)(tb:bj):bj:=fun D3 τ G=>ti τ G fun S G1=>rN S.guard g tb D3 S.items τ G1
theorem Ta{body:List aY}{ti:pP}{g:iE}{tb:bj}(hp:m6 (model X.prog X.w) X.A X.env X.xe)(hc:X.calm=true)(hi:yS X tg iter ti)(hg:vS X tg g)(hb:jd X body tb)
  (hs:∀x,foldedSetIterable iter X.env x=pure x:=by intro _;rfl):qA X (.For tg iter body [] pos) (wc ti g tb):=rb (VP hp hc hi hg hb hs) fun D2 σ H ⟨τ,G,D3,RS,RG,h,k⟩=>by
 refine⟨τ,G,_,RS,RG,h,fun J H1 S G1 ok S1 R1 q1=>?_⟩;refine⟨fun i m σ' H'=>∃τ' G',dZ X.K τ' σ' H'/\aS X.K G' H'/\Step H G H' G'/\Ext H1 H'/\rN S.guard g tb D3 (S.items.drop i) τ' G'/\m+i=S.items.length,⟨S.items.length,τ,G1,RS.ext (S1.ext RG),R1,S1,.refl H1,by simpa using q1,by lia⟩,?_⟩;rintro i m σ' H' ⟨τ',G',RS',RG',S',E',q,hm⟩;by_cases hlt:i<S.items.length
 ·have hd:S.items.drop i=S.items[i]::S.items.drop (i+1):=dE hlt;have hget:S.items[i]?=some S.items[i]:=az hlt;rw[hd] at q;obtain⟨hgd,q⟩:=q;obtain⟨z1,z2⟩:=ok.go i _ H' G' E' RG' hgd hget;refine .inr ⟨z1,fun σ2 H2=>∃τ2 G2,dZ X.K τ2 σ2 H2/\aS X.K G2 H2/\Step H G H2 G2/\Ext H1 H2/\rN S.guard g tb D3 (S.items.drop (i+1)) τ2 G2,fun σ2 H2 ⟨τ2,G2,a1,a2,a3,a4,a5⟩=>⟨m-1,by lia,τ2,G2,a1,a2,a3,a4,a5,by lia⟩,fun x H2 hy=>?_⟩;obtain⟨y1,y2,y3⟩:=z2 x H2 hy;refine⟨S.items[i],τ',G',_,y1,RS'.ext (y2.ext RG'),y3,q,fun τ3 σ3 G3 H3 b1 b2 b3 b4=>?_⟩;refine⟨τ3,G3,_,b1,b3,b4,⟨?_,?_,?_,?_⟩⟩
  ·exact fun τ4 σ4 G4 H4 c1 c2 c3 c4=>⟨τ4,G4,c1,c3,((S'.trans y2).trans b2).trans c2,((E'.trans (y2.ext RG')).trans (b2.ext y3)).trans (c2.ext b3),c4⟩
  ·exact fun τ4 σ4 G4 H4 c1 c2 c3 c4=>k.nx τ4 σ4 G4 H4 c1 (((S'.trans y2).trans b2).trans c2) c3 c4
  ·exact fun τ4 σ4 G4 H4 c1 c2 c3 c4=>⟨τ4,G4,c1,c3,((S'.trans y2).trans b2).trans c2,((E'.trans (y2.ext RG')).trans (b2.ext y3)).trans (c2.ext b3),c4⟩
  ·exact fun d v G4 H4 c1 c2 c3 c4=>k.rt d v G4 H4 c1 (((S'.trans y2).trans b2).trans c2) c3 c4
 ·have hd:S.items.drop i=[]:=eK (by lia);rw[hd] at q;exact .inl ⟨ok.stop i H' G' E' RG' q.1 (by lia),k.nx τ' σ' G' H' RS' S' RG' q.2⟩
def iq(guard:Gp->Prop)(g:iE)(tc:cI)(te:aP)(Q:List D->Gp->Prop):List D->List D->S3->Gp->Prop
 |[],acc,τ,G=>guard G/\Q acc G
 |d::ds,acc,τ,G=>guard G/\g d τ G fun τ2 G2=>tc τ2 G2 fun b G3=>Br b (te τ2 G3 fun v G4=>iq guard g tc te Q ds (acc++[v]) τ2 G4) (iq guard g tc te Q ds acc τ2 G3)
def yP(own:List ν)(js:List Nat)(τ:S3):S3:=(own.map fun _=>none)++js.map fun j=>iW τ j
def iK(own:List ν)(js:List Nat)(ti:pP)(g:iE)(tc:cI)(te:aP):aP:=fun τ G Q=>ti τ G fun S G1=>S.items.length≤aC ∧
 iq S.guard g tc te (fun ds G2=>∀p G3,gk G2 p (.lst ds) G3->Q (.obj p) G3) S.items [] (yP own js τ) G1
theorem JH:∀(τ:S3) (i:Nat),iW τ i=(τ[i]?).getD none
 |[],i=>by simp[iW]
 |x::r,0=>by simp[iW]
 |x::r,i+1=>by simp[iW,JH r i]
theorem dZ.cmp{K:θ}{τ:S3}{σ:L2.St}{H:Hp}(own:List ν)(js:List Nat)(R:dZ K τ σ H):dZ K (yP own js τ) (uq own js σ) H:=⟨by simp[yP,uq],fun i d h=>by
 rw[JH] at h;unfold yP at h;by_cases hi:i<own.length
 ·rw[cB (by simpa using hi)] at h;rw[aT,az hi] at h;cases h
 ·rw[bD (by simpa using hi),aT] at h;simp only[π] at h;cases hj:js[i-own.length]? with
  |none=>rw[hj] at h;cases h
  |some j=>
   rw[hj] at h;have h':iW τ j=some d:=h;obtain⟨v,e1,e2⟩:=R.at_ j d h';refine⟨v,?_,e2⟩;unfold uq;rw[bD (by simpa using hi),aT];simp only[lA,hj,Option.map_some,e1,Option.getD_some]⟩
def gi:cI:=fun _ G Q=>Q true G
theorem S9:uH X [] (rE X.K gi):=fun pins s σ H Q I ⟨τ,G,Q3,RS,RG,h,k⟩=>Uv pins s σ H Q I (k true H G (.refl H G) RG h)
theorem S8{c:υ}{t:cI}(h:qz X c t):uH X [c] (rE X.K t):=Uu h
theorem JG{K:θ}{own:List ν}{js:List Nat}{ti:pP}{g:iE}{tc:cI}{te:aP}{σ:L2.St}{H:Hp}{Q:VK}(h:low K (iK own js ti g tc te) σ H Q):FV own js (KU K ti) (lowG K g) (rE K tc) (low K te) σ H Q:=by
 obtain⟨τ,G,Q3,RS,RG,h,k⟩:=h;refine⟨τ,G,_,RS,RG,h,fun J H1 S G1 ok S1 R1 q1=>?_⟩;obtain⟨hz,q1⟩:=q1;intro p hp;have hGp:G1 p=none:=R1.free hp;refine⟨fun i m ys σ' H'=>∃τ' G' acc,dZ K τ' σ' H'/\aS K G' H'/\Step H G H' G'/\Ext H1 H'/\H' p=some (.lst ys)/\G' p=none/\aJ K H' acc ys ∧
  iq S.guard g tc te (fun ds G2=>∀p G3,gk G2 p (.lst ds) G3->Q3 (.obj p) G3) (S.items.drop i) acc τ' G'/\m+i=S.items.length/\ys.length≤i,?_,?_⟩
 ·have E1:Ext H1 (upd H1 p (.lst [])):=.laid hp;exact⟨S.items.length,yP own js τ,G1,[],((RS.ext (S1.ext RG)).cmp own js).ext E1,R1.laid hp,S1.trans (.laid hp),E1,iV,hGp,.nil,by simpa using q1,by lia,aG _⟩
 rintro i m ys σ' H' ⟨τ',G',acc,RS',RG',S',E',hpl,hG',hacc,q,hm,hy⟩;refine⟨hpl,?_⟩;by_cases hlt:i<S.items.length
 ·have hd:S.items.drop i=S.items[i]::S.items.drop (i+1):=dE hlt;have hget:S.items[i]?=some S.items[i]:=az hlt;rw[hd] at q;obtain⟨hgd,q⟩:=q;obtain⟨z1,z2⟩:=ok.go i _ H' G' E' RG' hgd hget;refine .inr ⟨z1,by lia,fun x H2 hyl=>?_⟩;obtain⟨y1,y2,y3⟩:=z2 x H2 hyl
  -- what is not in G stays
  have keep:∀{Ha Hb:Hp} {Ga Gb:Gp},Step Ha Ga Hb Gb->Ha p=some (.lst ys)->Ga p=none->Hb p=some (.lst ys)/\Gb p=none:=fun {Ha Hb Ga Gb} st e n=>by
   refine⟨st.fr p _ e n,?_⟩;refine bh fun z=>?_;rw[st.new p n z] at e;cases e
  obtain⟨p2,n2⟩:=keep y2 hpl hG';refine⟨S.items[i],τ',G',_,y1,RS'.ext (y2.ext RG'),y3,q,fun τ3 σ3 G3 H3 b1 b2 b3 b4=>?_⟩;obtain⟨p3,n3⟩:=keep b2 p2 n2;refine⟨τ3,G3,_,b1,b3,b4,fun bb H4 G4 c1 c2 c3=>?_⟩;obtain⟨p4,n4⟩:=keep c1 p3 n3;have E4:Ext H' H4:=((y2.ext RG').trans (b2.ext y3)).trans (c1.ext b3);have S4:Step H G H4 G4:=((S'.trans y2).trans b2).trans c1;have RS4:=b1.ext (c1.ext b3);refine Br.ite c3 (fun c3=>?_) fun c3=>?_
  ·refine⟨τ3,G4,_,RS4,c2,c3,fun v H5 d G5 e1 e2 e3 e4=>?_⟩;obtain⟨p5,n5⟩:=keep e2 p4 n4;refine⟨p5,m-1,by lia,τ3,G5,acc++[d],?_,?_,?_,?_,iV,n5,?_,e4,by lia,by rw[ψ];simp;lia⟩
   ·exact (RS4.ext (e2.ext c2)).ext (.wrote p5)
   ·intro a o e;have b7:a≠p:=fun z=>by
     rw[z,n5] at e;cases e
    exact (e3 a o e).ext (.wrote p5) (dX b7)
   ·refine⟨fun a o e n=>?_,fun a q=>?_,fun a n q=>((S4.trans e2).new a n q)⟩
    ·by_cases b7:a=p
     ·exfalso;rw[b7] at e n;have hh:=S1.fr p o e n;rw[hp] at hh;cases hh
     ·rw[dX b7];exact (S4.trans e2).fr a o e n
    ·by_cases b7:a=p
     ·rw[b7,iV];simp
     ·rw[dX b7];exact (S4.trans e2).nS a q
   ·exact ((E'.trans E4).trans (e2.ext c2)).trans (.wrote p5)
   ·have E5:Ext H' (upd H5 p (.lst (ys++[v]))):=(E4.trans (e2.ext c2)).trans (.wrote p5);exact (hacc.ext E5).append (.cons (e1.ext (.wrote p5)) .nil)
  ·exact⟨m-1,by lia,τ3,G4,acc,RS4,c2,S4,E'.trans E4,p4,n4,hacc.ext E4,c3,by lia,by lia⟩
 ·have hd:S.items.drop i=[]:=eK (by lia);rw[hd] at q;refine .inl ⟨ok.stop i H' G' E' RG' q.1 (by lia),?_⟩;refine k _ H' (.obj p) (eH G' p (.lst acc)) (by simp[Hv]) ?_ ?_ (q.2 p _ (.mk' hG'))
  ·refine⟨S'.fr,S'.nS,fun a n z=>?_⟩;by_cases b7:a=p
   ·rw[b7];cases hh:H p with
    |none=>rfl
    |some o=>
     exfalso;rw[b7] at n;have:=S1.fr p o hh n;rw[hp] at this;cases this
   ·rw[lH b7] at z;exact S'.new a n z
  ·intro a o e;by_cases b7:a=p
   ·rw[b7,nE] at e;cases e;rw[b7];exact⟨ys,hpl,hacc⟩
   ·rw[lH b7] at e;exact RG' a o e
theorem S7{elt:υ}{ifs:List υ}{scope:fh}{own:List ν}{js:List Nat}{ti:pP}{g:iE}{tc:cI}{te:aP}(hc:X.calm=true)(C:eY X.N X.env.scope scope own js)(hi:yS X tg iter ti)
  (hb:∀s H fp,vS (X.cmp scope own js s H fp) tg g/\uH (X.cmp scope own js s H fp) ifs (rE X.K tc)/\bW (X.cmp scope own js s H fp) elt te)
  (hs:∀x,foldedSetIterable iter X.env x=pure x:=by intro _;rfl):bW X (.ListComp elt [⟨tg,iter,ifs,0⟩] scope pos) (iK own js ti g tc te):=
 iC (Us hc C hi hb hs) fun σ H Q h=>JG h
theorem S6{elt:υ}{ifs:List υ}{scope:fh}{own:List ν}{js:List Nat}{ti:pP}{g:iE}{tc:cI}{te:aP}{i:Nat}{y:ν}{py spos:aV}(hc:X.calm=true)(hN:X.N.Nodup)(C:eY X.N X.env.scope scope own js)(hi:yS X tg iter ti)
  (hb:∀s H fp,vS (X.cmp scope own js s H fp) tg g/\uH (X.cmp scope own js s H fp) ifs (rE X.K tc)/\bW (X.cmp scope own js s H fp) elt te) (hy:X.N[i]?=some y:=by rfl) (hyl:X.env.scope.names.lookup y=some .local:=by rfl)
  (Cg:swapsWith (.ListComp elt [⟨tg,iter,ifs,0⟩] scope pos) (some (.Name y py)) spos.line X.env=pure true:=by rfl)
  (hs:∀x,foldedSetIterable iter X.env x=pure x:=by intro _;rfl):qA X (.Assign [.Name y py] (.ListComp elt [⟨tg,iter,ifs,0⟩] scope pos) spos) (dj (iK own js ti g tc te) (hName i)):=
 rb (Tz hc hN hy hyl C hi hb Cg hs) fun D2 σ H ⟨τ,G,D3,RS,RG,h,k⟩=>
  JG ⟨τ,G,_,RS,RG,h,fun v H1 d G1 h1 S1 R1 q1=>k.nx _ _ G1 H1 ((RS.ext (S1.ext RG)).set h1) S1 R1 q1⟩
theorem S0{guard:Gp->Prop}{g:iE}{tb:bj}{D3:gu}(I:List D->S3->Gp->Prop)(hg:∀ds τ G,I ds τ G->guard G)
  (step:∀d ds τ G,I (d::ds) τ G->g d τ G fun τ2 G2=>tb { D3 with nx:=I ds,ct:=I ds,bk:=D3.nx } τ2 G2) (kY:∀τ G,I [] τ G->D3.nx τ G)
  (mono:∀(N N':S3->Gp->Prop),(∀τ G,N τ G->N' τ G)->∀d τ G,(g d τ G fun τ2 G2=>tb { D3 with nx:=N,ct:=N,bk:=D3.nx } τ2 G2)->g d τ G fun τ2 G2=>tb { D3 with nx:=N',ct:=N',bk:=D3.nx } τ2 G2):
  ∀ds τ G,I ds τ G->rN guard g tb D3 ds τ G
 |[],τ,G,h=>⟨hg _ _ _ h,kY _ _ h⟩
 |d::ds,τ,G,h=>⟨hg _ _ _ h,mono (I ds) _ (fun τ G q=>S0 I hg step kY mono ds τ G q) d τ G (step d ds τ G h)⟩
theorem yh{guard:Gp->Prop}{g:iE}{tb:bj}{D3:gu}(I:List D->S3->Gp->Prop)(hg:∀ds τ G,I ds τ G->guard G)
  (step:∀d ds τ G (N:S3->Gp->Prop),I (d::ds) τ G->(∀τ' G',I ds τ' G'->N τ' G')->g d τ G fun τ2 G2=>tb { D3 with nx:=N,ct:=N,bk:=D3.nx } τ2 G2) (kY:∀τ G,I [] τ G->D3.nx τ G):
  ∀ds τ G,I ds τ G->rN guard g tb D3 ds τ G
 |[],τ,G,h=>⟨hg _ _ _ h,kY _ _ h⟩
 |d::ds,τ,G,h=>⟨hg _ _ _ h,step d ds τ G _ h fun τ' G' q=>yh I hg step kY ds τ' G' q⟩
end
end L3
namespace Dat
open PySem PySem.SeqAt
inductive D where
 |aO|bl (b:Bool)|int (i:Int)|str (x:ν)|tup (xs:List D)|lst (xs:List D)|fZ
mutual
def D.e8:D->D->Bool
 |.aO,.aO=>true
 |.bl a,.bl b=>a==b
 |.bl a,.int b=>(if a then 1 else 0)==b
 |.int a,.bl b=>a==(if b then 1 else 0)
 |.int a,.int b=>a==b
 |.str a,.str b=>a==b
 |.tup xs,.tup ys=>jN xs ys
 |.lst xs,.lst ys=>jN xs ys
 |_,_=>false
def jN:List D->List D->Bool
 |[],[]=>true
 |x::xs,y::ys=>x.e8 y&&jN xs ys
 |_,_=>false
end
mutual
def D.ll:D->Nat
 |.tup xs=>g9 xs+1
 |.lst xs=>g9 xs+1
 |_=>0
def g9:List D->Nat
 |[]=>0
 |x::xs=>max x.ll (g9 xs)
end
theorem u6{d:D}:∀{xs:List D},d∈xs->d.ll≤g9 xs
 |x::xs,h=>by
  unfold g9;rcases ak.mp h with e|e
  ·rw[e];exact Nat.le_max_left _ _
  ·exact bB (u6 e) (Nat.le_max_right _ _)
mutual
def Hv(h:au):D->δ->Prop
 |.aO,u=>u=.none
 |.bl b,u=>u=.bool b
 |.int i,u=>∃t,u=.int i t
 |.str x,u=>∃t,u=.str x t
 |.tup ds,u=>∃(a:ζ) (its:List δ),u=.ref a/\h.IsTuple a its.toArray/\aJ h ds its
 |.lst ds,u=>∃(a:ζ) (its:List δ),u=.ref a/\h.IsList a its.toArray/\aJ h ds its
 |.fZ,_=>False
def aJ(h:au):List D->List δ->Prop
 |[],us=>us=[]
 |d::ds,us=>∃u r,us=u::r/\Hv h d u/\aJ h ds r
end
theorem aJ.length{h:au}:∀{ds:List D} {us:List δ},aJ h ds us->us.length=ds.length
 |[],us,e=>by
  unfold aJ at e;rw[e];rfl
 |d::ds,us,e=>by
  unfold aJ at e;obtain⟨u,r,rfl,_,e2⟩:=e;rw[aE,aE,e2.length]
theorem aJ.get{h:au}:∀{ds:List D} {us:List δ} {j:Nat} {d:D} {u:δ},aJ h ds us->ds[j]?=some d->us[j]?=some u->Hv h d u
 |[],_,_,_,_,_,e,_=>by simp at e
 |d::ds,us,0,_,_,q,e1,e2=>by
  unfold aJ at q;obtain⟨u,r,rfl,q1,_⟩:=q;simp at e1 e2;rw[←e1,←e2];exact q1
 |d::ds,us,j+1,_,_,q,e1,e2=>by
  unfold aJ at q;obtain⟨u,r,rfl,_,q2⟩:=q;exact q2.get (j:=j) (by simpa using e1) (by simpa using e2)
theorem JF{h:au}{a:ζ}{xs ys:Array δ}(hl:h.IsList a xs)(ht:h.IsTuple a ys):False:=by
 obtain⟨o,ho,hc,_⟩:=hl;obtain⟨o',ho',hc',_⟩:=ht;rw[ho] at ho';cases ho';rw[hc] at hc';exact absurd hc' (by decide)
mutual
theorem Hv.inj{h:au}:∀{d e:D} {u:δ},Hv h d u->Hv h e u->d=e
 |d,e,u,p,q=>by
  cases d with
  |aO=>unfold Hv at p;subst p;cases e<;>unfold Hv at q<;>first|rfl|(simp at q)
  |bl b=>unfold Hv at p;subst p;cases e<;>unfold Hv at q<;>first|(simp at q;rw[q])|(simp at q)
  |int b=>unfold Hv at p;obtain⟨t,rfl⟩:=p;cases e<;>unfold Hv at q<;>first|(simp at q;rw[q])|(simp at q)
  |str b=>unfold Hv at p;obtain⟨t,rfl⟩:=p;cases e<;>unfold Hv at q<;>first|(simp at q;rw[q])|(simp at q)
  |fZ=>unfold Hv at p;exact p.elim
  |tup ds=>
   unfold Hv at p;obtain⟨a,its,rfl,ha,p⟩:=p;cases e with
   |tup es=>
    unfold Hv at q;obtain⟨a',its',e1,ha',q⟩:=q;cases e1;have e2:its=its':=by
     obtain⟨o,ho,_,n,hd⟩:=ha;obtain⟨o',ho',_,n',hd'⟩:=ha';rw[ho] at ho';cases ho';rw[hd] at hd';injection hd' with e3 _
     simpa using congrArg pJ e3
    subst e2;rw[aJ.inj p q]
   |lst es=>
    unfold Hv at q;obtain⟨a',its',e1,ha',q⟩:=q;cases e1;exact (JF ha' ha).elim
   |_=>unfold Hv at q<;>simp at q
  |lst ds=>
   unfold Hv at p;obtain⟨a,its,rfl,ha,p⟩:=p;cases e with
   |lst es=>
    unfold Hv at q;obtain⟨a',its',e1,ha',q⟩:=q;cases e1;have e2:its=its':=by
     obtain⟨o,ho,_,n,hd⟩:=ha;obtain⟨o',ho',_,n',hd'⟩:=ha';rw[ho] at ho';cases ho';rw[hd] at hd';injection hd' with e3 _
     simpa using congrArg pJ e3
    subst e2;rw[aJ.inj p q]
   |tup es=>
    unfold Hv at q;obtain⟨a',its',e1,ha',q⟩:=q;cases e1;exact (JF ha ha').elim
   |_=>unfold Hv at q<;>simp at q
theorem aJ.inj{h:au}:∀{ds es:List D} {us:List δ},aJ h ds us->aJ h es us->ds=es
 |[],[],_,_,_=>rfl
 |[],e::es,us,p,q=>by
  unfold aJ at p q;subst p;obtain⟨_,_,e1,_⟩:=q;cases e1
 |d::ds,[],us,p,q=>by
  unfold aJ at p q;subst q;obtain⟨_,_,e1,_⟩:=p;cases e1
 |d::ds,e::es,us,p,q=>by
  unfold aJ at p q;obtain⟨u,r,rfl,p1,p2⟩:=p;obtain⟨u',r',e1,q1,q2⟩:=q;cases e1;rw[Hv.inj p1 q1,aJ.inj p2 q2]
end
theorem u5:∀(ds es:List D),((bM (min ds.length es.length)).all (fun j=>(ds.getD j .aO).e8 (es.getD j .aO))&&ds.length==es.length)=jN ds es
 |[],[]=>by simp[jN]
 |[],e::es=>by simp[jN]
 |d::ds,[]=>by simp[jN]
 |d::ds,e::es=>by
  have ih:=u5 ds es;unfold jN;rw[←ih];rw[aE,aE,show min (ds.length+1) (es.length+1)=min ds.length es.length+1 by lia,kJ,nN,ub];have e1:((ds.length+1==es.length+1):Bool)=(ds.length==es.length):=by simp
  rw[e1,Bool.and_assoc];rfl
theorem AD:∀(ds es:List D),ds.length≠es.length->jN ds es=false
 |[],[],h=>absurd rfl h
 |[],e::es,_=>rfl
 |d::ds,[],_=>rfl
 |d::ds,e::es,h=>by
  unfold jN;rw[AD ds es (by simpa using h),qV]
mutual
theorem Hv.refl{h:au}:∀{d:D} {u:δ},Hv h d u->d.e8 d=true
 |.aO,_,_=>rfl
 |.bl b,_,_=>by unfold D.e8;simp
 |.int b,_,_=>by unfold D.e8;simp
 |.str b,_,_=>by unfold D.e8;simp
 |.fZ,_,p=>by unfold Hv at p;exact p.elim
 |.tup ds,_,p=>by
  unfold Hv at p;obtain⟨_,_,_,_,p⟩:=p;unfold D.e8;exact aJ.refl p
 |.lst ds,_,p=>by
  unfold Hv at p;obtain⟨_,_,_,_,p⟩:=p;unfold D.e8;exact aJ.refl p
theorem aJ.refl{h:au}:∀{ds:List D} {us:List δ},aJ h ds us->jN ds ds=true
 |[],_,_=>rfl
 |d::ds,us,p=>by
  unfold aJ at p;obtain⟨u,r,_,p1,p2⟩:=p;unfold jN;rw[Hv.refl p1,aJ.refl p2];rfl
end
theorem mn{h:au}{ds:List D}{us:List δ}(p:aJ h ds us){j:Nat}(hj:j<us.toArray.size):Hv h (ds.getD j .aO) (us.toArray[j])/\ds.getD j .aO∈ds:=by
 have hl:=p.length;have hj':j<ds.length:=by simp at hj;lia
 have e1:ds[j]?=some (ds.getD j .aO):=by simp[hj']
 exact⟨p.get e1 (by simp at hj;simp[hj]),bH e1⟩
theorem wR{s:η}:∀(d e:D) (u v:δ) (A:aF),Hv s.heap d u->Hv s.heap e v->A.units+d.ll+1<cLine->EqAt A s u v (d.e8 e)
 |.aO,.aO,u,v,A,p1,p2,hu=>by
  unfold Hv at p1;subst p1;unfold Hv at p2;subst p2;exact EqAt.same _
 |.aO,.bl b2,u,v,A,p1,p2,hu=>by
  unfold Hv at p1;subst p1;unfold Hv at p2;subst p2;exact EqAt.none_bool  b2
 |.aO,.int b2,u,v,A,p1,p2,hu=>by
  unfold Hv at p1;subst p1;unfold Hv at p2;obtain⟨t2,rfl⟩:=p2;exact EqAt.none_int  b2 t2
 |.aO,.str b2,u,v,A,p1,p2,hu=>by
  unfold Hv at p1;subst p1;unfold Hv at p2;obtain⟨t2,rfl⟩:=p2;exact EqAt.none_str  b2 t2
 |.aO,.tup ds2,u,v,A,p1,p2,hu=>by
  unfold Hv at p1;subst p1;unfold Hv at p2;obtain⟨a2,its2,rfl,l2,p2⟩:=p2;exact EqAt.none_tuple  l2 (by lia)
 |.aO,.lst ds2,u,v,A,p1,p2,hu=>by
  unfold Hv at p1;subst p1;unfold Hv at p2;obtain⟨a2,its2,rfl,l2,p2⟩:=p2;exact EqAt.none_list  l2 (by lia)
 |.bl b1,.aO,u,v,A,p1,p2,hu=>by
  unfold Hv at p1;subst p1;unfold Hv at p2;subst p2;exact EqAt.bool_none b1
 |.bl b1,.bl b2,u,v,A,p1,p2,hu=>by
  unfold Hv at p1;subst p1;unfold Hv at p2;subst p2;exact EqAt.bool_bool b1 b2
 |.bl b1,.int b2,u,v,A,p1,p2,hu=>by
  unfold Hv at p1;subst p1;unfold Hv at p2;obtain⟨t2,rfl⟩:=p2;exact EqAt.bool_int b1 b2 t2
 |.bl b1,.str b2,u,v,A,p1,p2,hu=>by
  unfold Hv at p1;subst p1;unfold Hv at p2;obtain⟨t2,rfl⟩:=p2;exact EqAt.bool_str b1 b2 t2
 |.bl b1,.tup ds2,u,v,A,p1,p2,hu=>by
  unfold Hv at p1;subst p1;unfold Hv at p2;obtain⟨a2,its2,rfl,l2,p2⟩:=p2;exact EqAt.bool_tuple b1 l2 (by lia)
 |.bl b1,.lst ds2,u,v,A,p1,p2,hu=>by
  unfold Hv at p1;subst p1;unfold Hv at p2;obtain⟨a2,its2,rfl,l2,p2⟩:=p2;exact EqAt.bool_list b1 l2 (by lia)
 |.int b1,.aO,u,v,A,p1,p2,hu=>by
  unfold Hv at p1;obtain⟨t1,rfl⟩:=p1;unfold Hv at p2;subst p2;exact EqAt.int_none b1 t1
 |.int b1,.bl b2,u,v,A,p1,p2,hu=>by
  unfold Hv at p1;obtain⟨t1,rfl⟩:=p1;unfold Hv at p2;subst p2;exact EqAt.int_bool b1 t1 b2
 |.int b1,.int b2,u,v,A,p1,p2,hu=>by
  unfold Hv at p1;obtain⟨t1,rfl⟩:=p1;unfold Hv at p2;obtain⟨t2,rfl⟩:=p2;exact EqAt.int_int b1 t1 b2 t2
 |.int b1,.str b2,u,v,A,p1,p2,hu=>by
  unfold Hv at p1;obtain⟨t1,rfl⟩:=p1;unfold Hv at p2;obtain⟨t2,rfl⟩:=p2;exact EqAt.int_str b1 t1 b2 t2
 |.int b1,.tup ds2,u,v,A,p1,p2,hu=>by
  unfold Hv at p1;obtain⟨t1,rfl⟩:=p1;unfold Hv at p2;obtain⟨a2,its2,rfl,l2,p2⟩:=p2;exact EqAt.int_tuple b1 t1 l2 (by lia)
 |.int b1,.lst ds2,u,v,A,p1,p2,hu=>by
  unfold Hv at p1;obtain⟨t1,rfl⟩:=p1;unfold Hv at p2;obtain⟨a2,its2,rfl,l2,p2⟩:=p2;exact EqAt.int_list b1 t1 l2 (by lia)
 |.str b1,.aO,u,v,A,p1,p2,hu=>by
  unfold Hv at p1;obtain⟨t1,rfl⟩:=p1;unfold Hv at p2;subst p2;exact EqAt.str_none b1 t1
 |.str b1,.bl b2,u,v,A,p1,p2,hu=>by
  unfold Hv at p1;obtain⟨t1,rfl⟩:=p1;unfold Hv at p2;subst p2;exact EqAt.str_bool b1 t1 b2
 |.str b1,.int b2,u,v,A,p1,p2,hu=>by
  unfold Hv at p1;obtain⟨t1,rfl⟩:=p1;unfold Hv at p2;obtain⟨t2,rfl⟩:=p2;exact EqAt.str_int b1 t1 b2 t2
 |.str b1,.str b2,u,v,A,p1,p2,hu=>by
  unfold Hv at p1;obtain⟨t1,rfl⟩:=p1;unfold Hv at p2;obtain⟨t2,rfl⟩:=p2;exact EqAt.str_str b1 t1 b2 t2
 |.str b1,.tup ds2,u,v,A,p1,p2,hu=>by
  unfold Hv at p1;obtain⟨t1,rfl⟩:=p1;unfold Hv at p2;obtain⟨a2,its2,rfl,l2,p2⟩:=p2;exact EqAt.str_tuple b1 t1 l2 (by lia)
 |.str b1,.lst ds2,u,v,A,p1,p2,hu=>by
  unfold Hv at p1;obtain⟨t1,rfl⟩:=p1;unfold Hv at p2;obtain⟨a2,its2,rfl,l2,p2⟩:=p2;exact EqAt.str_list b1 t1 l2 (by lia)
 |.tup ds1,.aO,u,v,A,p1,p2,hu=>by
  unfold Hv at p1;obtain⟨a1,its1,rfl,l1,p1⟩:=p1;unfold Hv at p2;subst p2;exact EqAt.tuple_none  l1 (by lia)
 |.tup ds1,.bl b2,u,v,A,p1,p2,hu=>by
  unfold Hv at p1;obtain⟨a1,its1,rfl,l1,p1⟩:=p1;unfold Hv at p2;subst p2;exact EqAt.tuple_bool b2 l1 (by lia)
 |.tup ds1,.int b2,u,v,A,p1,p2,hu=>by
  unfold Hv at p1;obtain⟨a1,its1,rfl,l1,p1⟩:=p1;unfold Hv at p2;obtain⟨t2,rfl⟩:=p2;exact EqAt.tuple_int b2 t2 l1 (by lia)
 |.tup ds1,.str b2,u,v,A,p1,p2,hu=>by
  unfold Hv at p1;obtain⟨a1,its1,rfl,l1,p1⟩:=p1;unfold Hv at p2;obtain⟨t2,rfl⟩:=p2;exact EqAt.tuple_str b2 t2 l1 (by lia)
 |.tup ds1,.tup ds2,u,v,A,p1,p2,hu=>by
  unfold Hv at p1;obtain⟨a1,its1,rfl,l1,p1⟩:=p1;unfold Hv at p2;obtain⟨a2,its2,rfl,l2,p2⟩:=p2;unfold D.e8;by_cases ha:a1=a2
  ·subst ha;have e0:(.tup ds1:D)=.tup ds2:=Hv.inj (h:=s.heap) (u:=.ref a1) (by unfold Hv;exact⟨a1,its1,rfl,l1,p1⟩) (by unfold Hv;exact⟨a1,its2,rfl,l2,p2⟩);injection e0 with e0;subst e0;rw[p1.refl];exact EqAt.same _
  ·refine EqAt.of_refs ha ?_;have hdep:A.units+g9 ds1+1+1<cLine:=by
    have e9:(.tup ds1:D).ll=g9 ds1+1:=by first|rfl|(unfold D.ll;rfl)
    lia
   have q:=RcAt.tuples (e:=fun j=>(ds1.getD j .aO).e8 (ds2.getD j .aO)) l1 l2 (by lia) fun j h1 h2=>
    have m:=(mn p1 h1).2
    wR (ds1.getD j .aO) (ds2.getD j .aO) _ _ A.in1 (mn p1 h1).1 (mn p2 h2).1 (by
     have:=u6 m;show A.units+1+_+1<cLine;lia)
   rw[Γ,Γ,p1.length,p2.length,u5] at q;exact q
 |.tup ds1,.lst ds2,u,v,A,p1,p2,hu=>by
  unfold Hv at p1;obtain⟨a1,its1,rfl,l1,p1⟩:=p1;unfold Hv at p2;obtain⟨a2,its2,rfl,l2,p2⟩:=p2;exact EqAt.tuple_list l1 l2 (by lia)
 |.lst ds1,.aO,u,v,A,p1,p2,hu=>by
  unfold Hv at p1;obtain⟨a1,its1,rfl,l1,p1⟩:=p1;unfold Hv at p2;subst p2;exact EqAt.list_none  l1 (by lia)
 |.lst ds1,.bl b2,u,v,A,p1,p2,hu=>by
  unfold Hv at p1;obtain⟨a1,its1,rfl,l1,p1⟩:=p1;unfold Hv at p2;subst p2;exact EqAt.list_bool b2 l1 (by lia)
 |.lst ds1,.int b2,u,v,A,p1,p2,hu=>by
  unfold Hv at p1;obtain⟨a1,its1,rfl,l1,p1⟩:=p1;unfold Hv at p2;obtain⟨t2,rfl⟩:=p2;exact EqAt.list_int b2 t2 l1 (by lia)
 |.lst ds1,.str b2,u,v,A,p1,p2,hu=>by
  unfold Hv at p1;obtain⟨a1,its1,rfl,l1,p1⟩:=p1;unfold Hv at p2;obtain⟨t2,rfl⟩:=p2;exact EqAt.list_str b2 t2 l1 (by lia)
 |.lst ds1,.tup ds2,u,v,A,p1,p2,hu=>by
  unfold Hv at p1;obtain⟨a1,its1,rfl,l1,p1⟩:=p1;unfold Hv at p2;obtain⟨a2,its2,rfl,l2,p2⟩:=p2;exact EqAt.list_tuple l1 l2 (by lia)
 |.lst ds1,.lst ds2,u,v,A,p1,p2,hu=>by
  unfold Hv at p1;obtain⟨a1,its1,rfl,l1,p1⟩:=p1;unfold Hv at p2;obtain⟨a2,its2,rfl,l2,p2⟩:=p2;unfold D.e8;by_cases ha:a1=a2
  ·subst ha;have e0:(.lst ds1:D)=.lst ds2:=Hv.inj (h:=s.heap) (u:=.ref a1) (by unfold Hv;exact⟨a1,its1,rfl,l1,p1⟩) (by unfold Hv;exact⟨a1,its2,rfl,l2,p2⟩);injection e0 with e0;subst e0;rw[p1.refl];exact EqAt.same _
  ·refine EqAt.of_refs ha ?_;have hdep:A.units+g9 ds1+1+1<cLine:=by
    have e9:(.lst ds1:D).ll=g9 ds1+1:=by first|rfl|(unfold D.ll;rfl)
    lia
   by_cases hn:ds1.length=ds2.length
   ·have q:=RcAt.lists (e:=fun j=>(ds1.getD j .aO).e8 (ds2.getD j .aO)) l1 l2 (by simp[p1.length,p2.length,hn]) (by lia) fun j h1 h2=>
     have m:=(mn p1 h1).2
     wR (ds1.getD j .aO) (ds2.getD j .aO) _ _ A.in1 (mn p1 h1).1 (mn p2 h2).1 (by
      have:=u6 m;show A.units+1+_+1<cLine;lia)
    have q2:=u5 ds1 ds2;rw[hn,t5,beq_self_eq_true,sx] at q2;rw[Γ,p1.length,hn,q2] at q;exact q
   ·rw[AD _ _ hn];exact tV l1 l2 (by simp[p1.length,p2.length,hn]) (by lia)
 |.aO,.fZ,u,v,A,p1,p2,hu=>by
  unfold Hv at p2;exact p2.elim
 |.bl b1,.fZ,u,v,A,p1,p2,hu=>by
  unfold Hv at p2;exact p2.elim
 |.int b1,.fZ,u,v,A,p1,p2,hu=>by
  unfold Hv at p2;exact p2.elim
 |.str b1,.fZ,u,v,A,p1,p2,hu=>by
  unfold Hv at p2;exact p2.elim
 |.tup ds1,.fZ,u,v,A,p1,p2,hu=>by
  unfold Hv at p2;exact p2.elim
 |.lst ds1,.fZ,u,v,A,p1,p2,hu=>by
  unfold Hv at p2;exact p2.elim
 |.fZ,e,u,v,A,p1,p2,hu=>by
  unfold Hv at p1;exact p1.elim
termination_by d=>sizeOf d
decreasing_by
 all_goals (have:=List.sizeOf_lt_of_mem m;first|(rw[D.tup.sizeOf_spec];lia)|(rw[D.lst.sizeOf_spec];lia))
theorem MF{s:η}(d e:D)(u v:δ)(A:aF)(p1:Hv s.heap d u)(p2:Hv s.heap e v)(hu:A.units+d.ll+1<cLine):RcAt A s u v (d.e8 e):=
 match d,e,p1,p2,hu with
 |.aO,.aO,p1,p2,hu=>by
  unfold Hv at p1;subst p1;unfold Hv at p2;subst p2;exact RcAt.none_none
 |.aO,.bl b2,p1,p2,hu=>by
  unfold Hv at p1;subst p1;unfold Hv at p2;subst p2;exact RcAt.none_bool  b2
 |.aO,.int b2,p1,p2,hu=>by
  unfold Hv at p1;subst p1;unfold Hv at p2;obtain⟨t2,rfl⟩:=p2;exact RcAt.none_int  b2 t2
 |.aO,.str b2,p1,p2,hu=>by
  unfold Hv at p1;subst p1;unfold Hv at p2;obtain⟨t2,rfl⟩:=p2;exact RcAt.none_str  b2 t2
 |.aO,.tup ds2,p1,p2,hu=>by
  unfold Hv at p1;subst p1;unfold Hv at p2;obtain⟨a2,its2,rfl,l2,p2⟩:=p2;exact RcAt.none_tuple  l2 (by lia)
 |.aO,.lst ds2,p1,p2,hu=>by
  unfold Hv at p1;subst p1;unfold Hv at p2;obtain⟨a2,its2,rfl,l2,p2⟩:=p2;exact RcAt.none_list  l2 (by lia)
 |.bl b1,.aO,p1,p2,hu=>by
  unfold Hv at p1;subst p1;unfold Hv at p2;subst p2;exact RcAt.bool_none b1
 |.bl b1,.bl b2,p1,p2,hu=>by
  unfold Hv at p1;subst p1;unfold Hv at p2;subst p2;exact RcAt.bool_bool b1 b2
 |.bl b1,.int b2,p1,p2,hu=>by
  unfold Hv at p1;subst p1;unfold Hv at p2;obtain⟨t2,rfl⟩:=p2;exact RcAt.bool_int b1 b2 t2
 |.bl b1,.str b2,p1,p2,hu=>by
  unfold Hv at p1;subst p1;unfold Hv at p2;obtain⟨t2,rfl⟩:=p2;exact RcAt.bool_str b1 b2 t2
 |.bl b1,.tup ds2,p1,p2,hu=>by
  unfold Hv at p1;subst p1;unfold Hv at p2;obtain⟨a2,its2,rfl,l2,p2⟩:=p2;exact RcAt.bool_tuple b1 l2 (by lia)
 |.bl b1,.lst ds2,p1,p2,hu=>by
  unfold Hv at p1;subst p1;unfold Hv at p2;obtain⟨a2,its2,rfl,l2,p2⟩:=p2;exact RcAt.bool_list b1 l2 (by lia)
 |.int b1,.aO,p1,p2,hu=>by
  unfold Hv at p1;obtain⟨t1,rfl⟩:=p1;unfold Hv at p2;subst p2;exact RcAt.int_none b1 t1
 |.int b1,.bl b2,p1,p2,hu=>by
  unfold Hv at p1;obtain⟨t1,rfl⟩:=p1;unfold Hv at p2;subst p2;exact RcAt.int_bool b1 t1 b2
 |.int b1,.int b2,p1,p2,hu=>by
  unfold Hv at p1;obtain⟨t1,rfl⟩:=p1;unfold Hv at p2;obtain⟨t2,rfl⟩:=p2;exact RcAt.int_int b1 t1 b2 t2
 |.int b1,.str b2,p1,p2,hu=>by
  unfold Hv at p1;obtain⟨t1,rfl⟩:=p1;unfold Hv at p2;obtain⟨t2,rfl⟩:=p2;exact RcAt.int_str b1 t1 b2 t2
 |.int b1,.tup ds2,p1,p2,hu=>by
  unfold Hv at p1;obtain⟨t1,rfl⟩:=p1;unfold Hv at p2;obtain⟨a2,its2,rfl,l2,p2⟩:=p2;exact RcAt.int_tuple b1 t1 l2 (by lia)
 |.int b1,.lst ds2,p1,p2,hu=>by
  unfold Hv at p1;obtain⟨t1,rfl⟩:=p1;unfold Hv at p2;obtain⟨a2,its2,rfl,l2,p2⟩:=p2;exact RcAt.int_list b1 t1 l2 (by lia)
 |.str b1,.aO,p1,p2,hu=>by
  unfold Hv at p1;obtain⟨t1,rfl⟩:=p1;unfold Hv at p2;subst p2;exact RcAt.str_none b1 t1
 |.str b1,.bl b2,p1,p2,hu=>by
  unfold Hv at p1;obtain⟨t1,rfl⟩:=p1;unfold Hv at p2;subst p2;exact RcAt.str_bool b1 t1 b2
 |.str b1,.int b2,p1,p2,hu=>by
  unfold Hv at p1;obtain⟨t1,rfl⟩:=p1;unfold Hv at p2;obtain⟨t2,rfl⟩:=p2;exact RcAt.str_int b1 t1 b2 t2
 |.str b1,.str b2,p1,p2,hu=>by
  unfold Hv at p1;obtain⟨t1,rfl⟩:=p1;unfold Hv at p2;obtain⟨t2,rfl⟩:=p2;exact RcAt.str_str b1 t1 b2 t2
 |.str b1,.tup ds2,p1,p2,hu=>by
  unfold Hv at p1;obtain⟨t1,rfl⟩:=p1;unfold Hv at p2;obtain⟨a2,its2,rfl,l2,p2⟩:=p2;exact RcAt.str_tuple b1 t1 l2 (by lia)
 |.str b1,.lst ds2,p1,p2,hu=>by
  unfold Hv at p1;obtain⟨t1,rfl⟩:=p1;unfold Hv at p2;obtain⟨a2,its2,rfl,l2,p2⟩:=p2;exact RcAt.str_list b1 t1 l2 (by lia)
 |.tup ds1,.aO,p1,p2,hu=>by
  unfold Hv at p1;obtain⟨a1,its1,rfl,l1,p1⟩:=p1;unfold Hv at p2;subst p2;exact RcAt.tuple_none  l1 (by lia)
 |.tup ds1,.bl b2,p1,p2,hu=>by
  unfold Hv at p1;obtain⟨a1,its1,rfl,l1,p1⟩:=p1;unfold Hv at p2;subst p2;exact RcAt.tuple_bool b2 l1 (by lia)
 |.tup ds1,.int b2,p1,p2,hu=>by
  unfold Hv at p1;obtain⟨a1,its1,rfl,l1,p1⟩:=p1;unfold Hv at p2;obtain⟨t2,rfl⟩:=p2;exact RcAt.tuple_int b2 t2 l1 (by lia)
 |.tup ds1,.str b2,p1,p2,hu=>by
  unfold Hv at p1;obtain⟨a1,its1,rfl,l1,p1⟩:=p1;unfold Hv at p2;obtain⟨t2,rfl⟩:=p2;exact RcAt.tuple_str b2 t2 l1 (by lia)
 |.tup ds1,.tup ds2,p1,p2,hu=>by
  unfold Hv at p1;obtain⟨a1,its1,rfl,l1,p1⟩:=p1;unfold Hv at p2;obtain⟨a2,its2,rfl,l2,p2⟩:=p2;unfold D.e8;have hdep:A.units+g9 ds1+1+1<cLine:=by
   have e9:(.tup ds1:D).ll=g9 ds1+1:=by first|rfl|(unfold D.ll;rfl)
   lia
  have q:=RcAt.tuples (e:=fun j=>(ds1.getD j .aO).e8 (ds2.getD j .aO)) l1 l2 (by lia) fun j h1 h2=>
   wR (ds1.getD j .aO) (ds2.getD j .aO) _ _ A.in1 (mn p1 h1).1 (mn p2 h2).1 (by
    have:=u6 (mn p1 h1).2;show A.units+1+_+1<cLine;lia)
  rw[Γ,Γ,p1.length,p2.length,u5] at q;exact q
 |.tup ds1,.lst ds2,p1,p2,hu=>by
  unfold Hv at p1;obtain⟨a1,its1,rfl,l1,p1⟩:=p1;unfold Hv at p2;obtain⟨a2,its2,rfl,l2,p2⟩:=p2;exact RcAt.tuple_list l1 l2 (by lia)
 |.lst ds1,.aO,p1,p2,hu=>by
  unfold Hv at p1;obtain⟨a1,its1,rfl,l1,p1⟩:=p1;unfold Hv at p2;subst p2;exact RcAt.list_none  l1 (by lia)
 |.lst ds1,.bl b2,p1,p2,hu=>by
  unfold Hv at p1;obtain⟨a1,its1,rfl,l1,p1⟩:=p1;unfold Hv at p2;subst p2;exact RcAt.list_bool b2 l1 (by lia)
 |.lst ds1,.int b2,p1,p2,hu=>by
  unfold Hv at p1;obtain⟨a1,its1,rfl,l1,p1⟩:=p1;unfold Hv at p2;obtain⟨t2,rfl⟩:=p2;exact RcAt.list_int b2 t2 l1 (by lia)
 |.lst ds1,.str b2,p1,p2,hu=>by
  unfold Hv at p1;obtain⟨a1,its1,rfl,l1,p1⟩:=p1;unfold Hv at p2;obtain⟨t2,rfl⟩:=p2;exact RcAt.list_str b2 t2 l1 (by lia)
 |.lst ds1,.tup ds2,p1,p2,hu=>by
  unfold Hv at p1;obtain⟨a1,its1,rfl,l1,p1⟩:=p1;unfold Hv at p2;obtain⟨a2,its2,rfl,l2,p2⟩:=p2;exact RcAt.list_tuple l1 l2 (by lia)
 |.lst ds1,.lst ds2,p1,p2,hu=>by
  unfold Hv at p1;obtain⟨a1,its1,rfl,l1,p1⟩:=p1;unfold Hv at p2;obtain⟨a2,its2,rfl,l2,p2⟩:=p2;unfold D.e8;have hdep:A.units+g9 ds1+1+1<cLine:=by
   have e9:(.lst ds1:D).ll=g9 ds1+1:=by first|rfl|(unfold D.ll;rfl)
   lia
  by_cases hn:ds1.length=ds2.length
  ·have q:=RcAt.lists (e:=fun j=>(ds1.getD j .aO).e8 (ds2.getD j .aO)) l1 l2 (by simp[p1.length,p2.length,hn]) (by lia) fun j h1 h2=>
    wR (ds1.getD j .aO) (ds2.getD j .aO) _ _ A.in1 (mn p1 h1).1 (mn p2 h2).1 (by
     have:=u6 (mn p1 h1).2;show A.units+1+_+1<cLine;lia)
   have q2:=u5 ds1 ds2;rw[hn,t5,beq_self_eq_true,sx] at q2;rw[Γ,p1.length,hn,q2] at q;exact q
  ·rw[AD _ _ hn];exact tV l1 l2 (by simp[p1.length,p2.length,hn]) (by lia)
 |d,.fZ,p1,p2,hu=>by
  unfold Hv at p2;exact p2.elim
 |.fZ,e,p1,p2,hu=>by
  unfold Hv at p1;exact p1.elim
theorem ME{s:η}(d e:D)(u v:δ)(A:aF)(p1:Hv s.heap d u)(p2:Hv s.heap e v)(hu:A.units+d.ll+1<cLine):RcNeAt A s u v (!d.e8 e):=
 match d,e,p1,p2,hu with
 |.aO,.aO,p1,p2,hu=>by
  unfold Hv at p1;subst p1;unfold Hv at p2;subst p2;exact RcNeAt.none_none
 |.aO,.bl b2,p1,p2,hu=>by
  unfold Hv at p1;subst p1;unfold Hv at p2;subst p2;exact RcNeAt.none_bool  b2
 |.aO,.int b2,p1,p2,hu=>by
  unfold Hv at p1;subst p1;unfold Hv at p2;obtain⟨t2,rfl⟩:=p2;exact RcNeAt.none_int  b2 t2
 |.aO,.str b2,p1,p2,hu=>by
  unfold Hv at p1;subst p1;unfold Hv at p2;obtain⟨t2,rfl⟩:=p2;exact RcNeAt.none_str  b2 t2
 |.aO,.tup ds2,p1,p2,hu=>by
  unfold Hv at p1;subst p1;unfold Hv at p2;obtain⟨a2,its2,rfl,l2,p2⟩:=p2;exact RcNeAt.none_tuple  l2 (by lia)
 |.aO,.lst ds2,p1,p2,hu=>by
  unfold Hv at p1;subst p1;unfold Hv at p2;obtain⟨a2,its2,rfl,l2,p2⟩:=p2;exact RcNeAt.none_list  l2 (by lia)
 |.bl b1,.aO,p1,p2,hu=>by
  unfold Hv at p1;subst p1;unfold Hv at p2;subst p2;exact RcNeAt.bool_none b1
 |.bl b1,.bl b2,p1,p2,hu=>by
  unfold Hv at p1;subst p1;unfold Hv at p2;subst p2;exact RcNeAt.bool_bool b1 b2
 |.bl b1,.int b2,p1,p2,hu=>by
  unfold Hv at p1;subst p1;unfold Hv at p2;obtain⟨t2,rfl⟩:=p2;exact RcNeAt.bool_int b1 b2 t2
 |.bl b1,.str b2,p1,p2,hu=>by
  unfold Hv at p1;subst p1;unfold Hv at p2;obtain⟨t2,rfl⟩:=p2;exact RcNeAt.bool_str b1 b2 t2
 |.bl b1,.tup ds2,p1,p2,hu=>by
  unfold Hv at p1;subst p1;unfold Hv at p2;obtain⟨a2,its2,rfl,l2,p2⟩:=p2;exact RcNeAt.bool_tuple b1 l2 (by lia)
 |.bl b1,.lst ds2,p1,p2,hu=>by
  unfold Hv at p1;subst p1;unfold Hv at p2;obtain⟨a2,its2,rfl,l2,p2⟩:=p2;exact RcNeAt.bool_list b1 l2 (by lia)
 |.int b1,.aO,p1,p2,hu=>by
  unfold Hv at p1;obtain⟨t1,rfl⟩:=p1;unfold Hv at p2;subst p2;exact RcNeAt.int_none b1 t1
 |.int b1,.bl b2,p1,p2,hu=>by
  unfold Hv at p1;obtain⟨t1,rfl⟩:=p1;unfold Hv at p2;subst p2;exact RcNeAt.int_bool b1 t1 b2
 |.int b1,.int b2,p1,p2,hu=>by
  unfold Hv at p1;obtain⟨t1,rfl⟩:=p1;unfold Hv at p2;obtain⟨t2,rfl⟩:=p2;exact RcNeAt.int_int b1 t1 b2 t2
 |.int b1,.str b2,p1,p2,hu=>by
  unfold Hv at p1;obtain⟨t1,rfl⟩:=p1;unfold Hv at p2;obtain⟨t2,rfl⟩:=p2;exact RcNeAt.int_str b1 t1 b2 t2
 |.int b1,.tup ds2,p1,p2,hu=>by
  unfold Hv at p1;obtain⟨t1,rfl⟩:=p1;unfold Hv at p2;obtain⟨a2,its2,rfl,l2,p2⟩:=p2;exact RcNeAt.int_tuple b1 t1 l2 (by lia)
 |.int b1,.lst ds2,p1,p2,hu=>by
  unfold Hv at p1;obtain⟨t1,rfl⟩:=p1;unfold Hv at p2;obtain⟨a2,its2,rfl,l2,p2⟩:=p2;exact RcNeAt.int_list b1 t1 l2 (by lia)
 |.str b1,.aO,p1,p2,hu=>by
  unfold Hv at p1;obtain⟨t1,rfl⟩:=p1;unfold Hv at p2;subst p2;exact RcNeAt.str_none b1 t1
 |.str b1,.bl b2,p1,p2,hu=>by
  unfold Hv at p1;obtain⟨t1,rfl⟩:=p1;unfold Hv at p2;subst p2;exact RcNeAt.str_bool b1 t1 b2
 |.str b1,.int b2,p1,p2,hu=>by
  unfold Hv at p1;obtain⟨t1,rfl⟩:=p1;unfold Hv at p2;obtain⟨t2,rfl⟩:=p2;exact RcNeAt.str_int b1 t1 b2 t2
 |.str b1,.str b2,p1,p2,hu=>by
  unfold Hv at p1;obtain⟨t1,rfl⟩:=p1;unfold Hv at p2;obtain⟨t2,rfl⟩:=p2;exact RcNeAt.str_str b1 t1 b2 t2
 |.str b1,.tup ds2,p1,p2,hu=>by
  unfold Hv at p1;obtain⟨t1,rfl⟩:=p1;unfold Hv at p2;obtain⟨a2,its2,rfl,l2,p2⟩:=p2;exact RcNeAt.str_tuple b1 t1 l2 (by lia)
 |.str b1,.lst ds2,p1,p2,hu=>by
  unfold Hv at p1;obtain⟨t1,rfl⟩:=p1;unfold Hv at p2;obtain⟨a2,its2,rfl,l2,p2⟩:=p2;exact RcNeAt.str_list b1 t1 l2 (by lia)
 |.tup ds1,.aO,p1,p2,hu=>by
  unfold Hv at p1;obtain⟨a1,its1,rfl,l1,p1⟩:=p1;unfold Hv at p2;subst p2;exact RcNeAt.tuple_none  l1 (by lia)
 |.tup ds1,.bl b2,p1,p2,hu=>by
  unfold Hv at p1;obtain⟨a1,its1,rfl,l1,p1⟩:=p1;unfold Hv at p2;subst p2;exact RcNeAt.tuple_bool b2 l1 (by lia)
 |.tup ds1,.int b2,p1,p2,hu=>by
  unfold Hv at p1;obtain⟨a1,its1,rfl,l1,p1⟩:=p1;unfold Hv at p2;obtain⟨t2,rfl⟩:=p2;exact RcNeAt.tuple_int b2 t2 l1 (by lia)
 |.tup ds1,.str b2,p1,p2,hu=>by
  unfold Hv at p1;obtain⟨a1,its1,rfl,l1,p1⟩:=p1;unfold Hv at p2;obtain⟨t2,rfl⟩:=p2;exact RcNeAt.tuple_str b2 t2 l1 (by lia)
 |.tup ds1,.tup ds2,p1,p2,hu=>by
  unfold Hv at p1;obtain⟨a1,its1,rfl,l1,p1⟩:=p1;unfold Hv at p2;obtain⟨a2,its2,rfl,l2,p2⟩:=p2;unfold D.e8;have hdep:A.units+g9 ds1+1+1<cLine:=by
   have e9:(.tup ds1:D).ll=g9 ds1+1:=by first|rfl|(unfold D.ll;rfl)
   lia
  have q:=RcNeAt.tuples (e:=fun j=>(ds1.getD j .aO).e8 (ds2.getD j .aO)) l1 l2 (by lia) fun j h1 h2=>
   wR (ds1.getD j .aO) (ds2.getD j .aO) _ _ A.in1 (mn p1 h1).1 (mn p2 h2).1 (by
    have:=u6 (mn p1 h1).2;show A.units+1+_+1<cLine;lia)
  rw[Γ,Γ,p1.length,p2.length,u5] at q;exact q
 |.tup ds1,.lst ds2,p1,p2,hu=>by
  unfold Hv at p1;obtain⟨a1,its1,rfl,l1,p1⟩:=p1;unfold Hv at p2;obtain⟨a2,its2,rfl,l2,p2⟩:=p2;exact RcNeAt.tuple_list l1 l2 (by lia)
 |.lst ds1,.aO,p1,p2,hu=>by
  unfold Hv at p1;obtain⟨a1,its1,rfl,l1,p1⟩:=p1;unfold Hv at p2;subst p2;exact RcNeAt.list_none  l1 (by lia)
 |.lst ds1,.bl b2,p1,p2,hu=>by
  unfold Hv at p1;obtain⟨a1,its1,rfl,l1,p1⟩:=p1;unfold Hv at p2;subst p2;exact RcNeAt.list_bool b2 l1 (by lia)
 |.lst ds1,.int b2,p1,p2,hu=>by
  unfold Hv at p1;obtain⟨a1,its1,rfl,l1,p1⟩:=p1;unfold Hv at p2;obtain⟨t2,rfl⟩:=p2;exact RcNeAt.list_int b2 t2 l1 (by lia)
 |.lst ds1,.str b2,p1,p2,hu=>by
  unfold Hv at p1;obtain⟨a1,its1,rfl,l1,p1⟩:=p1;unfold Hv at p2;obtain⟨t2,rfl⟩:=p2;exact RcNeAt.list_str b2 t2 l1 (by lia)
 |.lst ds1,.tup ds2,p1,p2,hu=>by
  unfold Hv at p1;obtain⟨a1,its1,rfl,l1,p1⟩:=p1;unfold Hv at p2;obtain⟨a2,its2,rfl,l2,p2⟩:=p2;exact RcNeAt.list_tuple l1 l2 (by lia)
 |.lst ds1,.lst ds2,p1,p2,hu=>by
  unfold Hv at p1;obtain⟨a1,its1,rfl,l1,p1⟩:=p1;unfold Hv at p2;obtain⟨a2,its2,rfl,l2,p2⟩:=p2;unfold D.e8;have hdep:A.units+g9 ds1+1+1<cLine:=by
   have e9:(.lst ds1:D).ll=g9 ds1+1:=by first|rfl|(unfold D.ll;rfl)
   lia
  by_cases hn:ds1.length=ds2.length
  ·have q:=RcNeAt.lists (e:=fun j=>(ds1.getD j .aO).e8 (ds2.getD j .aO)) l1 l2 (by simp[p1.length,p2.length,hn]) (by lia) fun j h1 h2=>
    wR (ds1.getD j .aO) (ds2.getD j .aO) _ _ A.in1 (mn p1 h1).1 (mn p2 h2).1 (by
     have:=u6 (mn p1 h1).2;show A.units+1+_+1<cLine;lia)
   have q2:=u5 ds1 ds2;rw[hn,t5,beq_self_eq_true,sx] at q2;rw[Γ,p1.length,hn,q2] at q;exact q
  ·rw[AD _ _ hn];exact RcNeAt.lists_lengths l1 l2 (by simp[p1.length,p2.length,hn]) (by lia)
 |d,.fZ,p1,p2,hu=>by
  unfold Hv at p2;exact p2.elim
 |.fZ,e,p1,p2,hu=>by
  unfold Hv at p1;exact p1.elim
end Dat
namespace L3
open PySem PySem.Spec PyProof.Rows L2
section
variable {X:Cx} {K:θ}
def B6(f:Int->Int->D):R3:=fun x y G Q=>match x,y with
 |.int i,.int j=>Q (f i j) G
 |_,_=>False
theorem kC{H:Hp}{i:Int}{v:V}(h:Hv K H (.int i) v):v=.int i:=by unfold Hv at h;exact h
theorem wo{H:Hp}{i:Bool}{v:V}(h:Hv K H (.bl i) v):v=.bl i:=by unfold Hv at h;exact h
theorem jJ{H:Hp}{a:ζ}{v:V}(h:Hv K H (.obj a) v):v=.ref a:=by unfold Hv at h;exact h
theorem nC{H:Hp}{ds:List D}{v:V}(h:Hv K H (.tup ds) v):∃a vs,v=.ref a/\dh K H a vs/\aJ K H ds vs:=by unfold Hv at h;exact h
theorem wm{H:Hp}{ds:List D}{v:V}(h:Hv K H (.fM ds) v):∃a vs,v=.ref a/\lR K H a vs/\aJ K H ds vs:=by unfold Hv at h;exact h
theorem oQ{H:Hp}{i:Int}:Hv K H (.int i) (.int i):=by simp[Hv]
theorem mv{H:Hp}{i:Bool}:Hv K H (.bl i) (.bl i):=by simp[Hv]
theorem tj{H:Hp}{a:ζ}:Hv K H (.obj a) (.ref a):=by simp[Hv]
theorem rq{H:Hp}{ds:List D}{a:ζ}{vs:List V}(h:dh K H a vs)(q:aJ K H ds vs):Hv K H (.tup ds) (.ref a):=by
 unfold Hv;exact⟨a,vs,rfl,h,q⟩
theorem low_ints{f:Int->Int->D}{g:Int->Int->V}(hf:∀i j H,Hv K H (f i j) (g i j)):fg K (B6 f) (oI g):=fun x y vx vy G H Q3 Q hx hy RG h k=>by
 cases x with
 |int i=>
  cases y with
  |int j=>
   rw[kC hx,kC hy];exact⟨i,j,rfl,rfl,k _ H _ G (hf i j H) (.refl H G) RG h⟩
  |_=>exact h.elim
 |_=>exact h.elim
abbrev uj:R3:=B6 fun i j=>.int (i-j)
theorem yg:fg K uj (oI fun i j=>.int (i-j)):=low_ints fun _ _ _=>oQ
abbrev xF:R3:=B6 fun i j=>.bl (decide (i≤j))
theorem WD:fg K xF (oI fun i j=>.bl (decide (i≤j))):=low_ints fun _ _ _=>mv
abbrev uO:R3:=B6 fun i j=>.bl (decide (j<i))
theorem wL:fg K uO (oI fun i j=>.bl (decide (j<i))):=low_ints fun _ _ _=>mv
abbrev Gi:R3:=B6 fun i j=>.bl (decide (j≤i))
theorem WG:fg K Gi (oI fun i j=>.bl (decide (j≤i))):=low_ints fun _ _ _=>mv
def lq(i:Int):Prop:=i.natAbs<2^4000
theorem JE{i:Int}(h:lq i):i.natAbs.log2<4000:=by
 by_cases h0:i.natAbs=0
 ·rw[h0];decide
 ·exact (Nat.log2_lt h0).mpr h
theorem JD{i:Int}(h:lq i):jj i≤4000:=by
 unfold jj;split
 ·exact aG _
 ·exact JE h
theorem TQ{i j:Int}(h1:lq i)(h2:lq j):IntMulOk i j:=by
 unfold IntMulOk dI.Int.intTooBig;have b1:=JD h1;have b2:=JD h2;have:¬((jj i:Int)+(jj j:Int) > (bitsLine:Int)):=by
  have:(bitsLine:Int)=134217728:=by decide
  lia
 rw[decide_eq_false this];simp
theorem JC:eS X (binaryOp .FloorDiv) (rI (fun _ j=>0<j/\lq j) fun i j=>.int (i / j)):=EX fun i j _ _ _ _ _ hc q=>by
 have h1:(0:Int)<j:=hc.1;exact floordiv_int (by lia) (by rw[Int.fdiv_eq_ediv_of_nonneg i (by lia)];exact q) (.inl (PyProof.noPylong_of_log2 (t6 (JE hc.2) (by decide))))
theorem FG:eS X (binaryOp .Mult) (rI (fun i j=>lq i/\lq j) fun i j=>.int (i*j)):=EX fun _ _ _ _ _ _ _ hc q=>mul_int q (TQ hc.1 hc.2)
def zP(C:Int->Int->Prop)(f:Int->Int->D):R3:=fun x y G Q=>match x,y with
 |.int i,.int j=>C i j/\Q (f i j) G
 |_,_=>False
theorem DY{C:Int->Int->Prop}{f:Int->Int->D}{g:Int->Int->V}(hf:∀i j H,Hv K H (f i j) (g i j)):fg K (zP C f) (rI C g):=fun x y vx vy G H Q3 Q hx hy RG h k=>by
 cases x with
 |int i=>
  cases y with
  |int j=>
   rw[kC hx,kC hy];exact⟨i,j,rfl,rfl,h.1,k _ H _ G (hf i j H) (.refl H G) RG h.2⟩
  |_=>exact h.elim
 |_=>exact h.elim
abbrev zQ:R3:=zP (fun _ j=>0<j/\lq j) fun i j=>.int (i / j)
theorem JB:fg K zQ (rI (fun _ j=>0<j/\lq j) fun i j=>.int (i / j)):=DY fun _ _ _=>oQ
abbrev pN:R3:=zP (fun _ j=>0<j) fun i j=>.int (i%j)
theorem u4:fg K pN (rI (fun _ j=>0<j) fun i j=>.int (i%j)):=DY fun _ _ _=>oQ
abbrev zN:R3:=zP EH fun i j=>.int (i^j.toNat)
theorem JA:fg K zN (rI EH fun i j=>.int (i^j.toNat)):=DY fun _ _ _=>oQ
theorem TN{prog:Ω}{w:aw}{A:aF}{E:δ->η->Prop}{s:η}{t b:ζ}{ws:List δ}{Q:δ->η->Prop}(ht:oo s.heap t #[])(hb:oo s.heap b ws.toArray)(h1:Q (.ref b) s):
  ρ (model prog w) A (binaryOp .Add (.ref t) (.ref b)) Q E s:=by
 obtain⟨⟨cls,dd,data,sl⟩,ho,hc,n,hd⟩:=id ht;obtain⟨⟨cls2,dd2,data2,sl2⟩,ho2,hc2,n2,hd2⟩:=id hb;simp only at hc hd hc2 hd2;subst hc hd hc2 hd2;exact concat_meets ⟨_,ho,rfl⟩ ⟨_,ho2,rfl⟩ pj sk kI ko (jV _ _)
   (tuple_addW0 t b #[] ws.toArray n n2 dd dd2 sl sl2 rfl) ⟨ho,ho2,h1⟩
def B7(K:θ):R2:=fun x y H Q=>∃a b ys,x=.ref a/\y=.ref b/\dh K H a []/\dh K H b ys/\Q (.ref b) H
theorem TM:eS X (binaryOp .Add) (B7 X.K):=by
 intro pins s σ H x y v u Q I rx ry h;obtain⟨a,b,ys,rfl,rfl,ha,hb,q⟩:=h;cases rx;cases ry;obtain⟨its,r1,p1,_⟩:=I.tuple ha;obtain⟨its2,r2,p2,_⟩:=I.tuple hb;cases r1;exact TN p1 p2 ⟨.ref b,H,I,rfl,q⟩
def eL:R3:=fun x y G Q=>match x,y with
 |.int i,.int j=>Q (.int (i+j)) G
 |.obj a,.obj b=>∃ds es,G a=some (.lst ds)/\G b=some (.lst es)/\ds.length+es.length≤aC/\∀p G',gk G p (.lst (ds++es)) G'->Q (.obj p) G'
 |.tup ds,.tup es=>ds.length+es.length≤aC/\Q (.tup (ds++es)) G
 |_,_=>False
abbrev EV(K:θ):R2:=fun x y H Q=>oI (fun i j=>.int (i+j)) x y H Q∨(Gj x y H Q∨(EU K x y H Q∨B7 K x y H Q))
theorem kj:eS X (binaryOp .Add) (EV X.K):=KC.or (KA.or (FH.or TM))
theorem ki:fg K eL (EV K):=fun x y vx vy G H Q3 Q hx hy RG h k=>by
 cases x with
 |int i=>
  cases y with
  |int j=>
   rw[kC hx,kC hy];exact .inl ⟨i,j,rfl,rfl,k _ H _ G oQ (.refl H G) RG h⟩
  |_=>exact h.elim
 |obj a=>
  cases y with
  |obj b=>
   rw[jJ hx,jJ hy];obtain⟨ds,es,e1,e2,hz,q⟩:=h;obtain⟨vs,z1,z2⟩:=RG a _ e1;obtain⟨us,y1,y2⟩:=RG b _ e2;refine .inr (.inl ⟨a,b,vs,us,rfl,rfl,z1,y1,by rw[←z2.length,←y2.length];exact hz,fun p hp=>?_⟩);exact k _ _ (.obj p) _ tj (.jq hp) (RG.tu hp (z2.append y2)) (q p _ (.mk' (RG.free hp)))
  |_=>exact h.elim
 |tup ds=>
  cases y with
  |tup es=>
   obtain⟨a,vs,rfl,e1,e2⟩:=nC hx;obtain⟨b,us,rfl,y1,y2⟩:=nC hy;by_cases h0:vs=[]
   ·subst h0;have:ds=[]:=by
     have:=e2.length;exact cV (by simpa using this)
    subst this;exact .inr (.inr (.inr ⟨a,b,us,rfl,rfl,e1,y1,k _ H (.tup es) G (rq y1 y2) (.refl H G) RG h.2⟩))
   ·refine .inr (.inr (.inl ⟨a,b,vs,us,rfl,rfl,e1,y1,h0,by rw[←e2.length,←y2.length];exact h.1,fun z=>?_,fun z p hp=>?_⟩))
    ·subst z;have:es=[]:=cV (by simpa using y2.length);subst this;refine k _ H (.tup ds) G (rq e1 e2) (.refl H G) RG ?_;have:=h.2;rwa [bF] at this
    ·exact k _ _ (.tup (ds++es)) G (rq (.of iV) ((e2.append y2).ext (.laid hp))) (.laid hp) (RG.laid hp) h.2
  |_=>exact h.elim
 |_=>exact h.elim
def iH:R3:=fun x y G Q=>match x,y with
 |.int i,.int j=>(lq i/\lq j)/\Q (.int (i*j)) G
 |.obj a,.int k=>∃ds,G a=some (.lst ds)/\(-(2^63)≤k/\k<2^63)/\ds.length*k.toNat≤aC/\∀p G',gk G p (.lst (bu k.toNat ds).flatten) G'->Q (.obj p) G'
 |_,_=>False
abbrev ET:R2:=fun x y H Q=>rI (fun i j=>lq i/\lq j) (fun i j=>.int (i*j)) x y H Q∨FZ x y H Q
theorem nz:eS X (binaryOp .Mult) ET:=FG.or U4
theorem ny:fg K iH ET:=fun x y vx vy G H Q3 Q hx hy RG h k=>by
 cases x with
 |int i=>
  cases y with
  |int j=>
   rw[kC hx,kC hy];exact .inl ⟨i,j,rfl,rfl,h.1,k _ H _ G oQ (.refl H G) RG h.2⟩
  |_=>exact h.elim
 |obj a=>
  cases y with
  |int j=>
   rw[jJ hx,kC hy];obtain⟨ds,e1,hk,hz,q⟩:=h;obtain⟨vs,z1,z2⟩:=RG a _ e1;refine .inr ⟨a,j,vs,rfl,rfl,z1,hk.1,hk.2,by rw[←z2.length];exact hz,fun p hp=>?_⟩;exact k _ _ (.obj p) _ tj (.jq hp) (RG.tu hp (z2.rep _)) (q p _ (.mk' (RG.free hp)))
  |_=>exact h.elim
 |_=>exact h.elim
def intsOf:List D->Option (List Int)
 |[]=>some []
 |.int i::r=>(intsOf r).map (i::·)
 |_::_=>none
theorem wj{H:Hp}:∀{ds:List D} {vs:List V} {ns:List Int},aJ K H ds vs->intsOf ds=some ns->vs=ns.map V.int
 |[],vs,ns,h,e=>by
  cases e;exact h.il
 |d::ds,vs,ns,h,e=>by
  cases d with
  |int i=>
   obtain⟨v,r,rfl,z1,z2⟩:=h.inv;unfold intsOf at e;cases hm:intsOf ds with
   |none=>rw[hm] at e;cases e
   |some ms=>
    rw[hm] at e;cases e;rw[kC z1,wj z2 hm];rfl
  |_=>cases e
def ra:R3:=fun x y G Q=>match x,y with
 |.int i,.int j=>Q (.bl (decide (i<j))) G
 |.tup ds,.tup es=>∃ns ms,intsOf ds=some ns/\intsOf es=some ms/\Q (.bl (HT.lexLt ns ms)) G
 |_,_=>False
abbrev Gd(K:θ):R2:=fun x y H Q=>oI (fun i j=>.bl (decide (i<j))) x y H Q∨Gc K x y H Q
theorem yf(hu:X.A.units<cLine):eS X (compareOp .Lt) (Gd X.K):=LJ.or (UC hu)
theorem ye:fg K ra (Gd K):=fun x y vx vy G H Q3 Q hx hy RG h k=>by
 cases x with
 |int i=>
  cases y with
  |int j=>
   rw[kC hx,kC hy];exact .inl ⟨i,j,rfl,rfl,k _ H _ G mv (.refl H G) RG h⟩
  |_=>exact h.elim
 |tup ds=>
  cases y with
  |tup es=>
   obtain⟨a,vs,rfl,e1,e2⟩:=nC hx;obtain⟨b,us,rfl,y1,y2⟩:=nC hy;obtain⟨ns,ms,z1,z2,q⟩:=h;have q1:=wj e2 z1;have q2:=wj y2 z2;subst q1 q2;exact .inr ⟨a,b,ns,ms,rfl,rfl,e1,y1,k _ H _ G mv (.refl H G) RG q⟩
  |_=>exact h.elim
 |_=>exact h.elim
def cF:R3:=fun x y G Q=>match x,y with
 |.tup ds,.int i=>∃d,lp ds i=some d/\Q d G
 |.fM ds,.int i=>∃d,lp ds i=some d/\Q d G
 |.obj p,.int i=>∃ds d,G p=some (.lst ds)/\lp ds i=some d/\Q d G
 |_,_=>False
theorem AB{H:Hp}{ds:List D}{vs:List V}{i:Int}{d:D}(h:aJ K H ds vs)(e:lp ds i=some d):∃v,lp vs i=some v/\Hv K H d v:=by
 unfold lp at e ⊢;rw[←h.length];cases hx:vH ds.length i with
 |none=>rw[hx] at e;cases e
 |some j=>
  rw[hx] at e;exact h.get e
theorem WE:fg K cF (Mh K):=fun x y vx vy G H Q3 Q hx hy RG h k=>by
 cases y with
 |int i=>
  rw[kC hy];cases x with
  |tup ds=>
   obtain⟨d,e,q⟩:=h;obtain⟨a,vs,rfl,e1,e2⟩:=nC hx;obtain⟨v,z1,z2⟩:=AB e2 e;exact .inr (.inl ⟨a,vs,i,v,rfl,rfl,e1,z1,k _ H d G z2 (.refl H G) RG q⟩)
  |fM ds=>
   obtain⟨d,e,q⟩:=h;obtain⟨a,vs,rfl,e1,e2⟩:=wm hx;obtain⟨v,z1,z2⟩:=AB e2 e;exact .inl ⟨a,vs,i,v,rfl,rfl,e1.l,z1,k _ H d G z2 (.refl H G) RG q⟩
  |obj p=>
   obtain⟨ds,d,e0,e,q⟩:=h;rw[jJ hx];obtain⟨vs,e1,e2⟩:=RG p _ e0;obtain⟨v,z1,z2⟩:=AB e2 e;exact .inl ⟨p,vs,i,v,rfl,rfl,.of e1,z1,k _ H d G z2 (.refl H G) RG q⟩
  |_=>exact h.elim
 |_=>cases x<;>exact h.elim
theorem WQ{a b:υ}{ta tb:aP}{pos:aV}(ha:bW X a ta)(hb:bW X b tb)(hs:qy b:=by intro _ _;rfl):bW X (.Subscript a b pos) (aR cF ta tb):=iC (J3 J2 ha hb hs) fun _ _ _ h=>AF WE h
def tJ(ta:cM)(tb:aP):aP:=fun τ G Q=>ta τ G fun ds G1=>qm (tb τ G1 fun y G2=>match y with
 |.int i=>∃d,lp ds i=some d/\Q d G2
 | _=>False) ds 64
theorem TL{es:List υ}{b:υ}{ta:cM}{tb:aP}{pos pos':aV}(ha:jt X es ta)(hb:bW X b tb)(hs:qy b:=by intro _ _;rfl):bW X (.Subscript (.List es pos') b pos) (tJ ta tb):=
 iC (J3 J2 (Ke ha) hb hs) fun σ H Q ⟨τ,G,Q3,RS,RG,h,k⟩=>by
  refine⟨τ,G,_,RS,RG,h,fun vs H1 ds G1 h1 S1 R1 q1=>?_⟩;obtain⟨z,q1⟩:=yi q1;refine⟨by rw[←h1.length];exact vG z,fun p hp=>?_⟩;refine⟨τ,G1,_,(RS.ext (S1.ext RG)).ext (.laid hp),R1.laid hp,q1,fun v2 H2 d2 G2 h2 S2 R2 q2=>?_⟩;have e2:H2 p=some (.lst vs):=S2.fr p _ iV (R1.free hp);cases d2 with
  |int i=>
   obtain⟨d,e,q⟩:=q2;obtain⟨v,z1,z2⟩:=AB ((h1.ext (.laid hp)).ext (S2.ext (R1.laid hp))) e;rw[kC h2];exact .inl ⟨p,vs,i,v,rfl,rfl,.of e2,z1,k _ H2 d G2 z2 ((S1.trans (.laid hp)).trans S2) R2 q⟩
  |_=>exact q2.elim
end
end L3
namespace L3
open PySem PySem.Spec PyProof.Rows L2
mutual
def iT:D->Option Dat.D
 |.aO=>some .aO
 |.bl b=>some (.bl b)
 |.int i=>some (.int i)
 |.str x=>some (.str x)
 |.tup ds=>match fE ds with
  |some xs=>some (.tup xs)
  |none=>none
 |.fM ds=>match fE ds with
  |some xs=>some (.lst xs)
  |none=>none
 |.obj _=>none
 |.dc _=>none
def fE:List D->Option (List Dat.D)
 |[]=>some []
 |d::ds=>match iT d with
  |some x=>match fE ds with
   |some xs=>some (x::xs)
   |none=>none
  |none=>none
end
def ui(G:Gp):D->Option Dat.D
 |.obj a=>match G a with
  |some (.lst ds)=>match fE ds with
   |some xs=>some (.lst xs)
   |none=>none
  |_=>none
 |d=>iT d
section
variable {X:Cx} {pins:List (ζ×aW)} {σ:L2.St} {H:Hp} {s:η}
mutual
theorem tf(I:Inv X pins σ H s):∀{d:D} {v:V} {u:δ} {x:Dat.D},Hv X.K H d v->RelV v u->iT d=some x->Dat.Hv s.heap x u
 |.aO,v,u,x,h,r,e=>by
  unfold Hv at h;subst h;cases e;unfold Dat.Hv;exact r
 |.bl b,v,u,x,h,r,e=>by
  unfold Hv at h;subst h;cases e;unfold Dat.Hv;exact r
 |.int b,v,u,x,h,r,e=>by
  unfold Hv at h;subst h;cases e;unfold Dat.Hv;exact r
 |.str b,v,u,x,h,r,e=>by
  unfold Hv at h;subst h;cases e;unfold Dat.Hv;exact r
 |.obj a,v,u,x,h,r,e=>by cases e
 |.dc a,v,u,x,h,r,e=>by cases e
 |.tup ds,v,u,x,h,r,e=>by
  obtain⟨a,vs,rfl,q1,q2⟩:=nC h;cases r;unfold iT at e;cases hd:fE ds with
  |none=>rw[hd] at e;cases e
  |some xs=>
   rw[hd] at e;cases e;obtain⟨its,rv,p,_⟩:=I.tuple q1;unfold Dat.Hv;exact⟨a,its,rfl,p,AA I q2 rv hd⟩
 |.fM ds,v,u,x,h,r,e=>by
  obtain⟨a,vs,rfl,q1,q2⟩:=wm h;cases r;unfold iT at e;cases hd:fE ds with
  |none=>rw[hd] at e;cases e
  |some xs=>
   rw[hd] at e;cases e;obtain⟨its,rv,p,_⟩:=I.list q1.l;unfold Dat.Hv;exact⟨a,its,rfl,p.isList,AA I q2 rv hd⟩
theorem AA(I:Inv X pins σ H s):∀{ds:List D} {vs:List V} {us:List δ} {xs:List Dat.D},aJ X.K H ds vs->bt vs us->fE ds=some xs->Dat.aJ s.heap xs us
 |[],vs,us,xs,h,r,e=>by
  cases h.il;cases r;cases e;unfold Dat.aJ;rfl
 |d::ds,vs,us,xs,h,r,e=>by
  obtain⟨v,vr,rfl,q1,q2⟩:=h.inv;unfold fE at e;cases hd:iT d with
  |none=>rw[hd] at e;cases e
  |some x=>
   rw[hd] at e;cases hr:fE ds with
   |none=>rw[hr] at e;cases e
   |some xr=>
    rw[hr] at e;cases e;cases r with
    |cons r1 r2=>
     unfold Dat.aJ;exact⟨_,_,rfl,tf I q1 r1 hd,AA I q2 r2 hr⟩
end
theorem Az{G:Gp}(I:Inv X pins σ H s)(RG:aS X.K G H){d:D}{v:V}{u:δ}{x:Dat.D}(h:Hv X.K H d v)(r:RelV v u)(e:ui G d=some x):Dat.Hv s.heap x u:=by
 cases d with
 |obj a=>
  rw[jJ h] at r;cases r;unfold ui at e;cases hG:G a with
  |none=>simp[hG] at e
  |some o=>
   cases o with
   |lst ds=>
    simp only[hG] at e;cases hr:fE ds with
    |none=>rw[hr] at e;cases e
    |some xs=>
     rw[hr] at e;cases e;obtain⟨vs,e1,e2⟩:=RG a _ hG;obtain⟨its,rv,p,_⟩:=I.list (gJ.of e1);unfold Dat.Hv;exact⟨a,its,rfl,p.isList,AA I e2 rv hr⟩
   |lK=>simp[hG] at e
   |fZ=>simp[hG] at e
   |gen R=>simp[hG] at e
 |aO=>exact tf I h r e
 |bl _=>exact tf I h r e
 |int _=>exact tf I h r e
 |str _=>exact tf I h r e
 |tup _=>exact tf I h r e
 |fM _=>exact tf I h r e
 |dc _=>exact tf I h r e
end
section
variable {X:Cx} {a b e:υ} {ta tb:aP} {pos:aV}
def fw(neg:Bool):R3:=fun x y G Q=>∃u v,ui G x=some u/\ui G y=some v/\u.ll≤50/\Q (.bl (if neg then !u.e8 v else u.e8 v)) G
def BQ(X:Cx)(f:δ->δ->kn δ)(r:R3):Prop:=
 ∀(pins:List (ζ×aW)) (s:η) (σ:L2.St) (H:Hp) (G:Gp) (x y:D) (vx vy:V) (u v:δ) (Q3:V3),Inv X pins σ H s->aS X.K G H->Hv X.K H x vx->Hv X.K H y vy->RelV vx u->RelV vy v->r x y G Q3 ->
  ρ (model X.prog X.w) X.A (f u v) (EP X pins σ fun w H'=>∃d G',Hv X.K H' d w/\Step H G H' G'/\aS X.K G' H'/\Q3 d G') X.xe s
theorem Xs(hu:X.A.units+64<cLine):BQ X (compareOp .Eq) (fw false):=by
 intro pins s σ H G x y vx vy u v Q3 I RG hx hy rx ry ⟨p,q,e1,e2,hd,h⟩;have:=Dat.MF p q u v X.A (Az I RG hx rx e1) (Az I RG hy ry e2) (by lia);exact this _ _ _ _ ⟨.bl (p.e8 q),H,I,rfl,.bl (p.e8 q),G,mv,.refl H G,RG,h⟩
theorem W9(hu:X.A.units+64<cLine):BQ X (compareOp .NotEq) (fw true):=by
 intro pins s σ H G x y vx vy u v Q3 I RG hx hy rx ry ⟨p,q,e1,e2,hd,h⟩;have:=Dat.ME p q u v X.A (Az I RG hx rx e1) (Az I RG hy ry e2) (by lia);exact this _ _ _ _ ⟨.bl (!p.e8 q),H,I,rfl,.bl (!p.e8 q),G,mv,.refl H G,RG,h⟩
def ur(K:θ)(r:R3):R2:=fun vx vy H Q=>∃x y G Q3,aS K G H/\Hv K H x vx/\Hv K H y vy/\r x y G Q3/\∀v H' d G',Hv K H' d v->Step H G H' G'->aS K G' H'->Q3 d G'->Q v H'
theorem BQ.op{f:δ->δ->kn δ}{r:R3}(h:BQ X f r):eS X f (ur X.K r):=by
 intro pins s σ H vx vy u v Q I rx ry ⟨x,y,G,Q3,RG,hx,hy,q,k⟩;refine bS (h pins s σ H G x y vx vy u v Q3 I RG hx hy rx ry q) fun w s' ⟨v',H',I',r',d,G',z1,z2,z3,z4⟩=>⟨v',H',I',r',k v' H' d G' z1 z2 z3 z4⟩
theorem Jz{K:θ}{r:R3}:fg K r (ur K r):=fun x y vx vy G H Q3 Q hx hy RG h k=>⟨x,y,G,Q3,RG,hx,hy,h,k⟩
theorem nv(hu:X.A.units+64<cLine):eS X (compareOp .Eq) (ur X.K (fw false)):=(Xs hu).op
theorem u3(hu:X.A.units+64<cLine):eS X (compareOp .NotEq) (ur X.K (fw true)):=(W9 hu).op
theorem nG{K:θ}:fg K (fw false) (ur K (fw false)):=Jz
theorem vb{K:θ}:fg K (fw true) (ur K (fw true)):=Jz
abbrev xa:=S3->Gp->(Option Int->Gp->Prop)->Prop
def WC(K:θ)(t:xa):TO:=fun σ H Q=>∃τ G Q3,dZ K τ σ H/\aS K G H/\t τ G Q3/\∀o H' G',Step H G H' G'->aS K G' H'->Q3 o G'->Q o H'
abbrev Cp(X:Cx)(e:Option υ)(t:xa):Prop:=PO X e (WC X.K t)
theorem Jy{o:Option υ}{t t':TO}(h:PO X o t)(f:∀σ H Q,t' σ H Q->t σ H Q):PO X o t':=fun pins s σ H Q I q=>h pins s σ H Q I (f σ H Q q)
def vC:xa:=fun _ G Q=>Q none G
def rA(t:aP):xa:=fun τ G Q=>t τ G fun x G1=>match x with
 |.int i=>Q (some i) G1
 |_=>False
theorem TK:Cp X none vC:=Jy UG fun σ H Q ⟨τ,G,Q3,RS,RG,h,k⟩=>k none H G (.refl H G) RG h
theorem TJ(h:bW X e ta):Cp X (some e) (rA ta):=Jy (UE h) fun σ H Q ⟨τ,G,Q3,RS,RG,h,k⟩=>
 ⟨τ,G,_,RS,RG,h,fun v H1 d G1 h1 S1 R1 q1=>by
  cases d with
  |int i=>exact⟨i,kC h1,k (some i) H1 G1 S1 R1 q1⟩
  |_=>exact q1.elim⟩
def kz(ds:List D)(lo hi:Option Int):List D:=(ds.drop (HT.cg ds.length 0 lo)).take (HT.cg ds.length ds.length hi-HT.cg ds.length 0 lo)
def zz(ta:aP)(tl th:xa):aP:=fun τ G Q=>ta τ G fun x G1=>tl τ G1 fun lo G2=>th τ G2 fun hi G3=>match x with
 |.tup ds=>Q (.tup (kz ds lo hi)) G3
 |.fM ds=>∀p G4,gk G3 p (.lst (kz ds lo hi)) G4->Q (.obj p) G4
 |.obj a=>∃ds,G3 a=some (.lst ds)/\∀p G4,gk G3 p (.lst (kz ds lo hi)) G4->Q (.obj p) G4
 |_=>False
theorem DX{K:θ}{H:Hp}{ds:List D}{vs:List V}(h:aJ K H ds vs)(lo hi:Option Int):aJ K H (kz ds lo hi) (tM vs lo hi):=by
 unfold kz tM;rw[h.length];exact (h.drop _).take _
theorem TH{prog:Ω}{w:aw}{A:aF}{E:δ->η->Prop}{s:η}{t sl:ζ}{items:Array δ}{vl vu:δ}{lo hi:Option Int}{Q:δ->η->Prop}(ht:oo s.heap t items)(hs:s.heap.IsSliceOf sl vl vu .none)(pl:md vl lo)(pu:md vu hi)
  (hw:HT.cg items.size 0 lo=0/\HT.cg items.size items.size hi=items.size) (h:Q (.ref t) s):ρ (model prog w) A (getItem (.ref t) (.ref sl)) Q E s:=by
 obtain⟨os,hos,hcs,hds⟩:=id hs;have hTs:s.TypeIs (.ref sl) "slice":=⟨os,hos,hcs⟩;unfold getItem
 try with_reducible refine bT ?_
 first|refine ε (ο ?_)|skip
 refine ε (wpAny_sequenceKey ht.typeIs (by decide) ?_);refine ε (gR (name:=pk "__getitem__") ht.typeIs cL
  (dN cL ht.typeIs entry_tuple_getitem ?_ (args_tuple_getitem _ _)))
 show ρ _ _ (nP (.ref t) >>= _) _ _ s;refine ε (tupleItemsOf_ ht ?_);refine ε (jU hTs ?_);rw[if_pos (by decide)];refine ε (HT.oH hs pl pu ?_);have hyes:(((HT.cg items.size 0 lo:Nat):Int)==0&&(1:Int)==1&&(HT.cg items.size items.size hi-HT.cg items.size 0 lo)==items.size)=true:=by
  rw[hw.1,hw.2];simp
 show ρ _ _ (if (((HT.cg items.size 0 lo:Nat):Int)==0&&(1:Int)==1&&(HT.cg items.size items.size hi-HT.cg items.size 0 lo)==items.size)=true then _ else _) _ _ s;rw[if_pos hyes];unfold dI.Tuple.tupleIsExact;refine ε (ε (jU ht.typeIs (ο ?_)));rw[if_pos (by decide)];exact ε (iN (ο ⟨_,rfl,ο h⟩))
def LG(K:θ):V->Option Int->Option Int->Hp->VK->Prop:=fun x lo hi H Q=>∃a xs,x=.ref a/\dh K H a xs ∧
 (HT.cg xs.length 0 lo=0/\HT.cg xs.length xs.length hi=xs.length)/\Q (.ref a) H
theorem FD:xb X (LG X.K):=by
 intro pins s σ H x v vl vu lo hi sl Q I rx hs pl pu h;obtain⟨a,xs,rfl,hx,hw,q⟩:=h;cases rx;obtain⟨its,r,ht,hz⟩:=I.tuple hx;have hlen:its.toArray.size=xs.length:=by rw[Γ];exact r.length.symm
 refine⟨"tuple",_,cL.lookup,ht.typeIs,?_⟩;exact TH ht hs pl pu (by rw[hlen];exact hw) ⟨.ref a,H,I,rfl,q⟩
theorem WN{lo hi:Option υ}{tl th:xa}{p2:aV}(ha:bW X a ta)(hl:Cp X lo tl)(hh:Cp X hi th):bW X (.Subscript a (.Slice lo hi none p2) pos) (zz ta tl th):=
 iC (UD (FY.or (FD.or U9)) ha hl hh) fun σ H Q ⟨τ,G,Q3,RS,RG,h,k⟩=>by
  refine⟨τ,G,_,RS,RG,h,fun v1 H1 d1 G1 h1 S1 R1 q1=>?_⟩;have RS1:=RS.ext (S1.ext RG);refine⟨τ,G1,_,RS1,R1,q1,fun l H2 G2 S2 R2 q2=>?_⟩;have RS2:=RS1.ext (S2.ext R1);refine⟨τ,G2,_,RS2,R2,q2,fun u H3 G3 S3 R3 q3=>?_⟩;have S13:Step H G H3 G3:=(S1.trans S2).trans S3;have hv:=(h1.ext (S2.ext R1)).ext (S3.ext R2);cases d1 with
  |tup ds=>
   obtain⟨a',vs,rfl,e1,e2⟩:=nC hv;by_cases hw:HT.cg vs.length 0 l=0/\HT.cg vs.length vs.length u=vs.length
   ·refine .inr (.inl ⟨a',vs,rfl,e1,hw,k _ H3 (.tup (kz ds l u)) G3 (rq e1 ?_) S13 R3 q3⟩);have:kz ds l u=ds:=by
     unfold kz;rw[e2.length,hw.1,hw.2];simp[←e2.length]
    rw[this];exact e2
   ·refine .inl ⟨a',vs,rfl,e1,hw,fun p hp=>?_⟩;exact k _ _ (.tup (kz ds l u)) G3 (rq (.of iV) ((DX e2 l u).ext (.laid hp))) (S13.trans (.laid hp)) (R3.laid hp) q3
  |fM ds=>
   obtain⟨a',vs,rfl,e1,e2⟩:=wm hv;refine .inr (.inr ⟨a',vs,rfl,e1.l,fun p hp=>?_⟩);exact k _ _ (.obj p) _ tj (S13.trans (.jq hp)) (R3.tu hp (DX e2 l u)) (q3 p _ (.mk' (R3.free hp)))
  |obj a'=>
   rw[jJ hv];obtain⟨ds,e0,q3⟩:=q3;obtain⟨vs,e1,e2⟩:=R3 a' _ e0;refine .inr (.inr ⟨a',vs,rfl,.of e1,fun p hp=>?_⟩);exact k _ _ (.obj p) _ tj (S13.trans (.jq hp)) (R3.tu hp (DX e2 l u)) (q3 p _ (.mk' (R3.free hp)))
  |_=>exact q3.elim
end
end L3
namespace L3
open PySem PySem.Spec PyProof.Rows L2
abbrev C3:=List D->Gp->V3->Prop
def dJ(r:C3)(t:cM):aP:=fun τ G Q=>t τ G fun ds G1=>r ds G1 Q
def tR(K:θ)(r:C3)(r2:List V->Hp->VK->Prop):Prop:=∀ds vs G H Q3 Q,aJ K H ds vs->aS K G H->r ds G Q3->(∀v H' d G',Hv K H' d v->Step H G H' G'->aS K G' H'->Q3 d G'->Q v H')->r2 vs H Q
section
variable {X:Cx} {K:θ} {e:υ} {es:List υ} {t:cM} {ta:aP} {pos p:aV}
theorem TF{r:C3}{r2:List V->Hp->VK->Prop}(L:tR K r r2){σ:L2.St}{H:Hp}{Q:VK}(h:low K (dJ r t) σ H Q):BW r2 (tw K t) σ H Q:=by
 obtain⟨τ,G,Q3,RS,RG,h,k⟩:=h;refine⟨τ,G,_,RS,RG,h,fun vs H1 ds G1 h1 S1 R1 q1=>?_⟩;exact L _ _ _ _ _ _ h1 R1 q1 fun v H' d G' z1 z2 z3 z4=>k v H' d G' z1 (S1.trans z2) z3 z4
theorem vh{r:C3}{r2:List V->Hp->VK->Prop}(L:tR X.K r r2)(h:PE X e (BW r2 (tw X.K t))):bW X e (dJ r t):=iC h fun _ _ _ h=>TF L h
theorem tG{H:Hp}{d:D}{vs:List V}(h:aJ K H [d] vs):∃v,vs=[v]/\Hv K H d v:=by
 obtain⟨v,r,rfl,z1,z2⟩:=h.inv;cases z2.il;exact⟨v,rfl,z1⟩
theorem WI{H:Hp}{d d':D}{vs:List V}(h:aJ K H [d,d'] vs):∃v v',vs=[v,v']/\Hv K H d v/\Hv K H d' v':=by
 obtain⟨v,r,rfl,z1,z2⟩:=h.inv;obtain⟨v',rfl,z3⟩:=tG z2;exact⟨v,v',rfl,z1,z3⟩
def lh:C3:=fun ds G Q=>match ds with
 |[.obj a]=>∃xs,G a=some (.lst xs)/\Q (.int xs.length) G
 |[.tup xs]=>Q (.int xs.length) G
 |[.fM xs]=>Q (.int xs.length) G
 |_=>False
theorem TC:tR K lh (fun xs H Q=>∃p ys,xs=[.ref p]/\(gJ K H p ys∨dh K H p ys)/\Q (.int ys.length) H):=fun ds vs G H Q3 Q h RG q k=>by
 rcases ds with _|⟨d,_|⟨d2,ds⟩⟩
 ·exact q.elim
 ·obtain⟨v,rfl,hv⟩:=tG h;cases d with
  |obj a=>
   obtain⟨xs,e,q⟩:=q;obtain⟨us,e1,e2⟩:=RG a _ e;rw[jJ hv];exact⟨a,us,rfl,.inl (.of e1),by rw[←e2.length];exact k _ H _ G oQ (.refl H G) RG q⟩
  |tup xs=>
   obtain⟨a,us,rfl,e1,e2⟩:=nC hv;exact⟨a,us,rfl,.inr e1,by rw[←e2.length];exact k _ H _ G oQ (.refl H G) RG q⟩
  |fM xs=>
   obtain⟨a,us,rfl,e1,e2⟩:=wm hv;exact⟨a,us,rfl,.inl e1.l,by rw[←e2.length];exact k _ H _ G oQ (.refl H G) RG q⟩
  |_=>exact q.elim
 ·cases d<;>exact q.elim
theorem TB(hu:X.A.units+64<cLine)(hm:X.mg "len" = none)(ha:jt X (e::es) t)(hg:Gl X "len":=by rfl)(he:notStar e=true:=by rfl)(hpl:es.all notStar=true:=by rfl):
  bW X (.Call (.Name "len" p) (e::es) [] pos) (dJ lh t):=vh TC (oO U8 hg hm PySem.boot_len ha (he:=dW he) (hpl:=jo hpl))
def Ay:C3:=fun ds G Q=>match ds with
 |[.bl b]=>Q (.int (if b then 1 else 0)) G
 |[.int i]=>Q (.int i) G
 |_=>False
theorem SJ:tR K Ay (fun xs H Q=>(∃i,xs=[.int i]/\Q (.int i) H)∨∃k,xs=[.bl k]/\Q (.int (if k then 1 else 0)) H):=fun ds vs G H Q3 Q h RG q k=>by
 rcases ds with _|⟨d,_|⟨d2,ds⟩⟩
 ·exact q.elim
 ·obtain⟨v,rfl,hv⟩:=tG h;cases d with
  |bl b=>
   rw[wo hv];exact .inr ⟨b,rfl,k _ H _ G oQ (.refl H G) RG q⟩
  |int b=>
   rw[kC hv];exact .inl ⟨b,rfl,k _ H _ G oQ (.refl H G) RG q⟩
  |_=>exact q.elim
 ·cases d<;>exact q.elim
theorem SI(hu:X.A.units+64<cLine)(hm:X.mg "int" = none)(ha:jt X (e::es) t)(hg:Gl X "int":=by rfl)(he:notStar e=true:=by rfl)(hpl:es.all notStar=true:=by rfl):
  bW X (.Call (.Name "int" p) (e::es) [] pos) (dJ Ay t):=vh SJ (yl UZ hg hm rfl ha (he:=dW he) (hpl:=jo hpl))
def yd:C3:=fun ds G Q=>match ds with
 |[.int i,.int j]=>Q (.int (if j > i then j else i)) G
 |_=>False
def DW:C3:=fun ds G Q=>match ds with
 |[.int i,.int j]=>Q (.int (if j<i then j else i)) G
 |_=>False
theorem Jx{f:Int->Int->Int}:tR K (fun ds G Q=>match ds with
 |[.int i,.int j]=>Q (.int (f i j)) G
 | _=>False) (fun xs H Q=>∃i j,xs=[.int i,.int j]/\Q (.int (f i j)) H):=fun ds vs G H Q3 Q h RG q k=>by
 rcases ds with _|⟨d,_|⟨d2,_|⟨d3,ds⟩⟩⟩
 ·exact q.elim
 ·cases d<;>exact q.elim
 ·obtain⟨v,v',rfl,h1,h2⟩:=WI h;cases d with
  |int i=>
   cases d2 with
   |int j=>
    rw[kC h1,kC h2];exact⟨i,j,rfl,k _ H _ G oQ (.refl H G) RG q⟩
   |_=>exact q.elim
  |_=>exact q.elim
 ·cases d with
  |int i=>cases d2<;>exact q.elim
  |_=>exact q.elim
theorem SH(hu:X.A.units+64<cLine)(hm:X.mg "max" = none)(ha:jt X (e::es) t)(hc:X.calm=true:=by rfl)(hg:Gl X "max":=by rfl)(he:notStar e=true:=by rfl)(hpl:es.all notStar=true:=by rfl):
  bW X (.Call (.Name "max" p) (e::es) [] pos) (dJ yd t):=vh (Jx (f:=fun i j=>if j > i then j else i)) (oO (U1 hc) hg hm rfl ha (he:=dW he) (hpl:=jo hpl))
theorem SG(hu:X.A.units+64<cLine)(hm:X.mg "min" = none)(ha:jt X (e::es) t)(hc:X.calm=true:=by rfl)(hg:Gl X "min":=by rfl)(he:notStar e=true:=by rfl)(hpl:es.all notStar=true:=by rfl):
  bW X (.Call (.Name "min" p) (e::es) [] pos) (dJ DW t):=vh (Jx (f:=fun i j=>if j<i then j else i)) (oO (U0 hc) hg hm rfl ha (he:=dW he) (hpl:=jo hpl))
def td:C3:=fun ds G Q=>match ds with
 |[.obj a]=>∃xs,G a=some (.lst xs)/\Q (.tup xs) G
 |[.tup xs]=>Q (.tup xs) G
 |[.fM xs]=>Q (.tup xs) G
 |_=>False
theorem SE:tR K td (fun xs H Q=>∃p ys,xs=[.ref p]/\((gJ K H p ys/\∀l,H l=none->Q (.ref l) (upd H l (.tup ys)))∨(dh K H p ys/\Q (.ref p) H))):=fun ds vs G H Q3 Q h RG q k=>by
 rcases ds with _|⟨d,_|⟨d2,ds⟩⟩
 ·exact q.elim
 ·obtain⟨v,rfl,hv⟩:=tG h;cases d with
  |obj a=>
   obtain⟨xs,e,q⟩:=q;obtain⟨us,e1,e2⟩:=RG a _ e;rw[jJ hv];exact⟨a,us,rfl,.inl ⟨.of e1,fun l hl=>k _ _ (.tup xs) G (rq (.of iV) (e2.ext (.laid hl))) (.laid hl) (RG.laid hl) q⟩⟩
  |tup xs=>
   obtain⟨a,us,rfl,e1,e2⟩:=nC hv;exact⟨a,us,rfl,.inr ⟨e1,k _ H _ G (rq e1 e2) (.refl H G) RG q⟩⟩
  |fM xs=>
   obtain⟨a,us,rfl,e1,e2⟩:=wm hv;exact⟨a,us,rfl,.inl ⟨e1.l,fun l hl=>k _ _ (.tup xs) G (rq (.of iV) (e2.ext (.laid hl))) (.laid hl) (RG.laid hl) q⟩⟩
  |_=>exact q.elim
 ·cases d<;>exact q.elim
theorem SD(hu:X.A.units+64<cLine)(hm:X.mg "tuple" = none)(ha:jt X (e::es) t)(hg:Gl X "tuple":=by rfl)(he:notStar e=true:=by rfl)(hpl:es.all notStar=true:=by rfl):
  bW X (.Call (.Name "tuple" p) (e::es) [] pos) (dJ td t):=vh SE (yl U7 hg hm rfl ha (he:=dW he) (hpl:=jo hpl))
def eM(r:D->List D->Gp->V3->Prop)(to:aP)(t:cM):aP:=fun τ G Q=>to τ G fun x G1=>(∃a xs,x=.obj a/\G1 a=some (.lst xs))/\t τ G1 fun ds G2=>r x ds G2 Q
def vn(K:θ)(r:D->List D->Gp->V3->Prop)(r2:V->List V->Hp->VK->Prop):Prop:=∀x vx ds vs G H Q3 Q,Hv K H x vx->aJ K H ds vs->aS K G H->r x ds G Q3->(∀v H' d G',Hv K H' d v->Step H G H' G'->aS K G' H'->Q3 d G'->Q v H')->r2 vx vs H Q
theorem SA{r:D->List D->Gp->V3->Prop}{r2:V->List V->Hp->VK->Prop}{to:aP}(L:vn K r r2){σ:L2.St}{H:Hp}{Q:VK}(h:low K (eM r to t) σ H Q):FW K "list" r2 (low K to) (tw K t) σ H Q:=by
 obtain⟨τ,G,Q3,RS,RG,h,k⟩:=h;refine⟨τ,G,_,RS,RG,h,fun v1 H1 d1 G1 h1 S1 R1 q1=>?_⟩;obtain⟨⟨a,xs,rfl,e1⟩,q1⟩:=q1;obtain⟨us,e2,e3⟩:=R1 a _ e1;refine⟨?_,τ,G1,_,RS.ext (S1.ext RG),R1,q1,fun vs H2 ds G2 h2 S2 R2 q2=>?_⟩
 ·rw[jJ h1];exact .inl ⟨rfl,us,.of e2⟩
 ·exact L _ _ _ _ _ _ _ _ (h1.ext (S2.ext R1)) h2 R2 q2 fun v H' d G' z1 z2 z3 z4=>k v H' d G' z1 ((S1.trans S2).trans z2) z3 z4
def Jw:D->List D->Gp->V3->Prop:=fun x ds G Q=>match x,ds with
 |.obj a,[d]=>∃xs,G a=some (.lst xs)/\xs.length<aC/\Q .aO (eH G a (.lst (xs++[d])))
 |_,_=>False
theorem Sz:vn K Jw zo:=fun x vx ds vs G H Q3 Q hx hs RG q k=>by
 rcases ds with _|⟨d,_|⟨d2,ds⟩⟩
 ·cases x<;>exact q.elim
 ·cases x with
  |obj a=>
   obtain⟨xs,e1,hz,q⟩:=q;obtain⟨us,e2,e3⟩:=RG a _ e1;obtain⟨v,rfl,hv⟩:=tG hs;rw[jJ hx];refine⟨a,us,v,rfl,rfl,e2,by rw[←e3.length];exact hz,?_⟩;exact k _ _ .aO _ (by simp[Hv]) (.wrote e1) (RG.BS e2 (e3.append (.cons hv .nil))) q
  |_=>exact q.elim
 ·cases x<;>exact q.elim
theorem Sy{r:D->List D->Gp->V3->Prop}{r2:V->List V->Hp->VK->Prop}{to:aP}(L:vn X.K r r2)(h:PE X e (FW X.K "list" r2 (low X.K to) (tw X.K t))):bW X e (eM r to t):=iC h fun _ _ _ z=>SA L z
def DJ:D->List D->Gp->V3->Prop:=fun x ds G Q=>match x,ds with
 |.obj a,[.int i]=>∃xs k d,G a=some (.lst xs)/\(-(2^63)≤i/\i<2^63)/\seqIndex? i xs.length=some k/\xs[k]?=some d/\Q d (eH G a (.lst (xs.eraseIdx k)))
 |_,_=>False
theorem Jv:vn K DJ B5:=fun x vx ds vs G H Q3 Q hx hs RG q k=>by
 rcases ds with _|⟨d,_|⟨d2,ds⟩⟩
 ·cases x<;>exact q.elim
 ·cases x with
  |obj a=>
   cases d with
   |int i=>
    obtain⟨xs,j,y,e1,hb,hk,hy,q⟩:=q;obtain⟨us,e2,e3⟩:=RG a _ e1;obtain⟨v,rfl,hv⟩:=tG hs;obtain⟨w,e4,e5⟩:=e3.get hy;rw[jJ hx,kC hv];refine⟨a,us,i,j,w,rfl,rfl,e2,hb.1,hb.2,by rw[←e3.length];exact hk,e4,?_⟩;exact k _ _ y _ (e5.ext (.wrote e2)) (.wrote e1) (RG.BS e2 (e3.erase j)) q
   |_=>exact q.elim
  |_=>exact q.elim
 ·cases x with
  |obj a=>cases d<;>exact q.elim
  |_=>exact q.elim
def jZ(T:String)(G:Gp):D->Option Bool
 |.aO=>some false
 |.bl _=>some (T=="bool" || T=="int")
 |.int _=>some (T=="int")
 |.str _=>some (T=="str")
 |.tup _=>some (T=="tuple")
 |.fM _=>some (T=="list")
 |.dc _=>some (T=="dict")
 |.obj a=>match G a with
  |some (.lst _)=>some (T=="list")
  |some .lK=>some (T=="list")
  |some .fZ=>some (T=="dict")
  |some (.gen _)=>none
  |none=>none
def rP(T:String)(ta:aP):aP:=fun τ G Q=>ta τ G fun x G1=>match jZ T G1 x with
 |some b=>Q (.bl b) G1
 |none=>False
end
end L3
namespace Ll
open PySem PySem.W PyProof.Rows
structure Ord(n:Nat)(lt:Nat->Nat->Bool):Prop where
 km:∀a b,a<n->b<n->lt a b=true->lt b a=false
 fu:∀a b c,a<n->b<n->c<n->lt b a=false->lt c b=false->lt c a=false
abbrev g(p:Array Nat)(i:Nat):Nat:=p.getD i 0
structure Va(n:Nat)(p:Array Nat):Prop where
 perm:p.toList.Perm (bM n)
section
variable {n:Nat} {lt:Nat->Nat->Bool} {cmp:Nat->Nat->(Bool->η->Prop)->η->Prop} {s:η}
theorem Va.size{p:Array Nat}(v:Va n p):p.size=n:=by
 have:=v.perm.length_eq;simpa using this
theorem Va.get{p:Array Nat}(v:Va n p){i:Nat}(hi:i<n):p[i]?=some (g p i):=by
 have h:=v.size;simp[g,mh,h,hi]
theorem Va.inr{p:Array Nat}(v:Va n p){i:Nat}(hi:i<n):g p i<n:=by
 have h:=v.get hi;have hm:g p i∈p.toList:=bH (by rw[af];exact h);have:=v.perm.mem_iff.mp hm;simpa using this
theorem Ord.refl(O:Ord n lt){a:Nat}(ha:a<n):lt a a=false:=by
 cases h:lt a a with
 |false=>rfl
 |true=>
  have:=O.km a a ha ha h;rw[h] at this;exact this
def So(lt:Nat->Nat->Bool)(p:Array Nat)(k:Nat):Prop:=∀i j,i≤j->j<k->lt (g p j) (g p i)=false
def Ni(lt:Nat->Nat->Bool)(p:Array Nat)(k:Nat):Prop:=∀i j,i≤j->j<k->lt (g p i) (g p j)=false
def Cu(lt:Nat->Nat->Bool)(p:Array Nat)(lo hi:Nat):Prop:=∀i j,lo≤i->i<hi->lo≤j->j<hi->lt (g p i) (g p j)=false
theorem So.one(O:Ord n lt){p:Array Nat}(v:Va n p)(hn:1≤n):So lt p 1:=fun i j h1 h2=>by
 have e1:i=0:=by lia
 have e2:j=0:=by lia
 rw[e1,e2];exact O.refl (v.inr (by lia))
theorem So.next(O:Ord n lt){p:Array Nat}(v:Va n p){a:Nat}(h1:1≤a)(ha:a<n)(S:So lt p a)(h:lt (g p a) (g p (a-1))=false):So lt p (a+1):=fun i j hij hj=>by
 by_cases hja:j<a
 ·exact S i j hij hja
 ·have e:j=a:=by lia
  subst e;by_cases hij':i=j
  ·rw[hij'];exact O.refl (v.inr ha)
  ·exact O.fu (g p i) (g p (j-1)) (g p j) (v.inr (by lia)) (v.inr (by lia)) (v.inr ha) (S i (j-1) (by lia) (by lia)) h
theorem Ni.next(O:Ord n lt){p:Array Nat}(v:Va n p){a:Nat}(h1:1≤a)(ha:a<n)(S:Ni lt p a)(h:lt (g p (a-1)) (g p a)=false):Ni lt p (a+1):=fun i j hij hj=>by
 by_cases hja:j<a
 ·exact S i j hij hja
 ·have e:j=a:=by lia
  subst e;by_cases hij':i=j
  ·rw[hij'];exact O.refl (v.inr ha)
  ·exact O.fu (g p j) (g p (j-1)) (g p i) (v.inr ha) (v.inr (by lia)) (v.inr (by lia)) h (S i (j-1) (by lia) (by lia))
theorem uZ{p:Array Nat}(v:Va n p)(i j:Nat):Va n (kas_rev p i j):=⟨(mirror_perm p i j _).toList.trans v.perm⟩
theorem Ax{p:Array Nat}(v:Va n p){lo hi k:Nat}(hh:hi≤n)(hk:k<n):g (kas_rev p lo hi) k=if lo≤k/\k<hi then g p (lo+hi-1-k) else g p k:=by
 have h1:=getElem?_mirror_all (xs:=p) (i:=lo) (j:=hi) (by rw[v.size];exact hh) k;have h2:=(uZ v lo hi).get hk;have h3:(kas_rev p lo hi)[k]?=_:=h1;rw[h2] at h3;by_cases hc:lo≤k/\k<hi
 ·rw[if_pos hc] at h3 ⊢;rw[v.get (by lia)] at h3;exact aD h3
 ·rw[if_neg hc] at h3 ⊢;rw[v.get hk] at h3;exact aD h3
theorem DI{p:Array Nat}(v:Va n p){lo hi k:Nat}(hh:hi≤k)(hk:k≤n)(S:Ni lt p k)(e:Cu lt p lo hi):Ni lt (kas_rev p lo hi) k:=fun i j hij hj=>by
 rw[Ax v (by lia) (show i<n by lia),Ax v (by lia) (show j<n by lia)];by_cases hi':lo≤i/\i<hi
 ·rw[if_pos hi'];by_cases hj':lo≤j/\j<hi
  ·rw[if_pos hj'];exact e _ _ (by lia) (by lia) (by lia) (by lia)
  ·rw[if_neg hj'];exact S _ _ (by lia) hj
 ·rw[if_neg hi'];by_cases hj':lo≤j/\j<hi
  ·rw[if_pos hj'];exact S _ _ (by lia) (by lia)
  ·rw[if_neg hj'];exact S _ _ hij hj
theorem Sx{p:Array Nat}(v:Va n p){k:Nat}(hk:k≤n)(S:Ni lt p k):So lt (kas_rev p 0 k) k:=fun i j hij hj=>by
 rw[Ax v hk (show i<n by lia),Ax v hk (show j<n by lia),if_pos (by lia),if_pos (by lia)];exact S _ _ (by lia) (by lia)
variable (O:Ord n lt) (hc:∀i j,i<n->j<n->∀(C:Bool->η->Prop) (s:η),C (lt i j) s->cmp i j C s)
include O hc
theorem qw{p:Array Nat}(v:Va n p){G:Nat->η->Prop}:∀(f a:Nat),1≤a->a+f≤n->So lt p a->(∀m,a≤m->m≤a+f->So lt p m->(m=a+f∨lt (g p m) (g p (m-1))=true)->G m s)->(kas_asc p f a).kasWp cmp G s
 |0,a,_,_,S,h=>h a (Θ _) (by lia) S (.inl (by lia))
 |f+1,a,h1,h2,S,h=>by
  show cmp _ _ _ s;refine hc _ _ (v.inr (by lia)) (v.inr (by lia)) _ s ?_;cases hb:lt (g p a) (g p (a-1)) with
  |true=>
   ((try dsimp only);rw[if_pos rfl])
   exact h a (Θ _) (by lia) S (.inr hb)
  |false=>
   ((try dsimp only);rw[if_neg Ψ])
   exact qw v f (a+1) (by lia) (by lia) (S.next O v h1 (by lia) hb) fun m q1 q2 q3 q4=>h m (by lia) (by lia) q3 (by
    rcases q4 with q4|q4
    ·exact .inl (by lia)
    ·exact .inr q4)
theorem Aw{G:Array Nat×Nat×Nat->η->Prop}:∀(f:Nat) (p:Array Nat) (a q:Nat),Va n p->q+1≤a->a+f≤n->Ni lt p a->Cu lt p (a-(q+1)) a ->
  (∀p' m q',Va n p'->a≤m->m≤a+f->q'+1≤m->Ni lt p' m->Cu lt p' (m-(q'+1)) m->G (p',m,q') s)->(kas_desc f p a q).kasWp cmp G s
 |0,p,a,q,v,h1,h2,S,e,h=>h p a q v (Θ _) (by lia) h1 S e
 |f+1,p,a,q,v,h1,h2,S,e,h=>by
  show cmp _ _ _ s;refine hc _ _ (v.inr (by lia)) (v.inr (by lia)) _ s ?_;have one:∀{p':Array Nat},Va n p'->Cu lt p' (a+1-(0+1)) (a+1):=fun {p'} v' i j i1 i2 j1 j2=>by
   have e1:i=a:=by lia
   have e2:j=a:=by lia
   rw[e1,e2];exact O.refl (v'.inr (by lia))
  cases hb:lt (g p a) (g p (a-1)) with
  |true=>
   ((try dsimp only);rw[if_pos rfl])
   have S':=S.next O v (by lia) (by lia) (O.km _ _ (v.inr (by lia)) (v.inr (by lia)) hb)
   by_cases hq:q > 0
   ·rw[if_pos hq];exact Aw f _ (a+1) 0 (uZ v _ _) (by lia) (by lia) (DI v (by lia) (by lia) S' e) (one (uZ v _ _)) fun p' m q' r1 r2 r3 r4 r5 r6=>h p' m q' r1 (by lia) (by lia) r4 r5 r6
   ·rw[if_neg hq];exact Aw f _ (a+1) 0 v (by lia) (by lia) S' (one v) fun p' m q' r1 r2 r3 r4 r5 r6=>h p' m q' r1 (by lia) (by lia) r4 r5 r6
  |false=>
   ((try dsimp only);rw[if_neg Ψ])
   show cmp _ _ _ s;refine hc _ _ (v.inr (by lia)) (v.inr (by lia)) _ s ?_;cases hd:lt (g p (a-1)) (g p a) with
   |true=>
    ((try dsimp only);rw[if_pos rfl])
    exact h p a q v (Θ _) (by lia) h1 S e
   |false=>
    ((try dsimp only);rw[if_neg Ψ])
    refine Aw f _ (a+1) (q+1) v (by lia) (by lia) (S.next O v (by lia) (by lia) hd) (fun i j i1 i2 j1 j2=>?_) fun p' m q' r1 r2 r3 r4 r5 r6=>h p' m q' r1 (by lia) (by lia) r4 r5 r6
    have L:∀k,k<n->g p k<n:=fun k hk=>v.inr hk;by_cases hi:i=a
    ·by_cases hj:j=a
     ·rw[hi,hj];exact O.refl (L _ (by lia))
     ·rw[hi];exact O.fu (g p j) (g p (a-1)) (g p a) (L _ (by lia)) (L _ (by lia)) (L _ (by lia)) (e (a-1) j (by lia) (by lia) (by lia) (by lia)) hb
    ·by_cases hj:j=a
     ·rw[hj];exact O.fu (g p a) (g p (a-1)) (g p i) (L _ (by lia)) (L _ (by lia)) (L _ (by lia)) hd (e i (a-1) (by lia) (by lia) (by lia) (by lia))
     ·exact e i j (by lia) (by lia) (by lia) (by lia)
theorem Ju{p:Array Nat}(v:Va n p){a:Nat}{G:Nat×Array Nat->η->Prop}(h1:1≤a)(h2:a≤n)(S:Ni lt p a)(h:∀m p',Va n p'->1≤m->m≤n->So lt p' m->G (m,p') s):(kas_tail3 a n p).kasWp cmp G s:=by
 unfold kas_tail3;rw[jy];exact qw O hc (uZ v 0 a) (n-a) a h1 (by lia) (Sx v h2 S) fun m q1 q2 q3 _=>h m _ (uZ v 0 a) (by lia) (by lia) q3
theorem Jt{p:Array Nat}(v:Va n p){a:Nat}{G:Nat×Array Nat->η->Prop}(h1:1≤a)(h2:a+1≤n)(S:Ni lt p (a+1))(h:∀m p',Va n p'->1≤m->m≤n->So lt p' m->G (m,p') s):(kas_descPart a n p).kasWp cmp G s:=by
 unfold kas_descPart;rw[jy];refine Aw O hc (n-(a+1)) p (a+1) 0 v (by lia) (by lia) S (fun i j i1 i2 j1 j2=>?_) fun p' m q' r1 r2 r3 r4 r5 r6=>?_
 ·have e1:i=a:=by lia
  have e2:j=a:=by lia
  rw[e1,e2];exact O.refl (v.inr (by lia))
 ·dsimp only;by_cases hq:q' > 0
  ·rw[if_pos hq];exact Ju O hc (uZ r1 _ _) (by lia) (by lia) (DI r1 (Θ _) (by lia) r5 r6) h
  ·rw[if_neg hq];exact Ju O hc r1 (by lia) (by lia) r5 h
theorem Sw{p:Array Nat}(v:Va n p){G:Nat×Array Nat->η->Prop}(hn:1≤n)(h:∀m p',Va n p'->1≤m->m≤n->So lt p' m->G (m,p') s):(kas_count n p).kasWp cmp G s:=by
 unfold kas_count;rw[jy];refine qw O hc v (n-1) 1 (Θ _) (by lia) (So.one O v hn) fun a q1 q2 q3 q4=>?_;have L:∀k,k<n->g p k<n:=fun k hk=>v.inr hk;by_cases e1:(a==n)=true
 ·rw[if_pos e1];exact h a p v q1 (by lia) q3
 ·rw[if_neg e1];have b7:a≠n:=fun z=>e1 (by rw[z];exact beq_self_eq_true _);have hlt:lt (g p a) (g p (a-1))=true:=by
   rcases q4 with q4|q4
   ·lia
   ·exact q4
  have hle:=O.km _ _ (L a (by lia)) (L (a-1) (by lia)) hlt;by_cases e2:a > 1
  ·rw[if_pos e2];show cmp _ _ _ s;refine hc _ _ (v.inr (by lia)) (v.inr (by lia)) _ s ?_;cases hb:lt (g p 0) (g p (a-1)) with
   |true=>
    ((try dsimp only);rw[if_pos rfl])
    exact h a p v q1 (by lia) q3
   |false=>
    ((try dsimp only);rw[if_neg Ψ])
    -- all of the run are alike
    have eqv:Cu lt p 0 a:=fun i j i1 i2 j1 j2=>by
     have h1:lt (g p i) (g p 0)=false:=q3 0 i (by lia) i2;have h2:lt (g p (a-1)) (g p j)=false:=q3 j (a-1) (by lia) (by lia);have h3:lt (g p 0) (g p j)=false:=O.fu _ _ _ (L j (by lia)) (L (a-1) (by lia)) (L 0 (by lia)) h2 hb;have h4:lt (g p (a-1)) (g p i)=false:=q3 i (a-1) (by lia) (by lia);exact O.fu _ _ _ (L j (by lia)) (L 0 (by lia)) (L i (by lia)) h3 h1
    have ni:Ni lt p (a+1):=Ni.next O v (by lia) (by lia) (fun i j hij hj=>eqv i j (by lia) (by lia) (by lia) hj) hle
    exact Jt O hc (uZ v _ _) (by lia) (by lia) (DI v (by lia) (by lia) ni eqv) h
  ·rw[if_neg e2];have ea:a=1:=by lia
   subst ea;refine Jt O hc v (Θ _) (by lia) (Ni.next O v (by lia) (by lia) (fun i j hij hj=>?_) hle) h
   have e3:i=0:=by lia
   have e4:j=0:=by lia
   rw[e3,e4];exact O.refl (L 0 (by lia))
theorem DH{p:Array Nat}(v:Va n p){k:Nat}(hk:k<n)(S:So lt p k){G:Nat->η->Prop}:∀(f l r:Nat),l≤r->r≤k->r-l≤f->(∀i,i<l->lt (g p k) (g p i)=false)->(∀i,r≤i->i<k->lt (g p k) (g p i)=true) ->
  (∀l,l≤k->(∀i,i<l->lt (g p k) (g p i)=false)->(∀i,l≤i->i<k->lt (g p k) (g p i)=true)->G l s)->(kas_place p k f l r).kasWp cmp G s
 |0,l,r,h1,h2,h3,h4,h5,h=>by
  have e:l=r:=by lia
  subst e;exact h l h2 h4 h5
 |f+1,l,r,h1,h2,h3,h4,h5,h=>by
  unfold kas_place;by_cases hlr:l≥r
  ·rw[if_pos hlr];have e:l=r:=by lia
   subst e;exact h l h2 h4 h5
  ·rw[if_neg hlr];show cmp _ _ _ s;refine hc _ _ (v.inr hk) (v.inr (by lia)) _ s ?_;have L:∀k,k<n->g p k<n:=fun k hk=>v.inr hk;cases hb:lt (g p k) (g p ((l+r) / 2)) with
   |true=>
    ((try dsimp only);rw[if_pos rfl])
    refine DH v hk S f l ((l+r) / 2) (by lia) (by lia) (by lia) h4 (fun i i1 i2=>?_) h;by_cases hri:r≤i
    ·exact h5 i hri i2
    ·cases hx:lt (g p k) (g p i) with
     |true=>rfl
     |false=>
      have h6:lt (g p i) (g p ((l+r) / 2))=false:=S _ _ i1 i2;have:=O.fu _ _ _ (L ((l+r) / 2) (by lia)) (L i (by lia)) (L k hk) h6 hx;rw[hb] at this;exact this.symm
   |false=>
    ((try dsimp only);rw[if_neg Ψ])
    refine DH v hk S f ((l+r) / 2+1) r (by lia) h2 (by lia) (fun i hi=>?_) h5 h;exact O.fu _ _ _ (L i (by lia)) (L ((l+r) / 2) (by lia)) (L k hk) (S i ((l+r) / 2) (by lia) (by lia)) hb
theorem Js{G:Array Nat->η->Prop}:∀(f:Nat) (p:Array Nat) (k:Nat),Va n p->k+f=n->So lt p k->(∀p',Va n p'->So lt p' n->G p' s)->(kas_bin f p k).kasWp cmp G s
 | 0,p,k,v,hk,S,h=>h p v (by
  have e:k=n:=by lia
  rw[←e];exact S)
 |f+1,p,k,v,hk,S,h=>by
  show ((kas_place p k k 0 k).bind fun l=>kas_bin f (bubble p k (k-l)) (k+1)).kasWp cmp G s;rw[jy];refine DH O hc v (by lia) S k 0 k (by lia) (Θ _) (by lia) (fun i hi=>by lia) (fun i i1 i2=>by lia) fun l hl q1 q2=>?_;have v':Va n (bubble p k (k-l)):=⟨(bubble_perm p k (k-l)).toList.trans v.perm⟩;have L:∀k,k<n->g p k<n:=fun k hk=>v.inr hk;have bg:∀i,i<n->g (bubble p k (k-l)) i=if i=l then g p k else if l<i/\i≤k then g p (i-1) else g p i:=fun i hi=>by
   have h1:=getElem?_bubble (xs:=p) (src:=k) (by rw[v.size];lia) (k-l) (by lia) i;rw[v'.get hi,show k-(k-l)=l by lia] at h1;by_cases c1:i=l
   ·rw[if_pos c1] at h1 ⊢;rw[v.get (by lia)] at h1;exact aD h1
   ·rw[if_neg c1] at h1 ⊢;by_cases c2:l<i/\i≤k
    ·rw[if_pos c2] at h1 ⊢;rw[v.get (by lia)] at h1;exact aD h1
    ·rw[if_neg c2] at h1 ⊢;rw[v.get hi] at h1;exact aD h1
  refine Js f _ (k+1) v' (by lia) (fun i j hij hj=>?_) h;rw[bg i (by lia),bg j (by lia)];by_cases ci:i=l
  ·rw[if_pos ci];by_cases cj:j=l
   ·rw[if_pos cj];exact O.refl (L k (by lia))
   ·rw[if_neg cj,if_pos (by lia)];exact O.km _ _ (L k (by lia)) (L _ (by lia)) (q2 (j-1) (by lia) (by lia))
  ·rw[if_neg ci];by_cases cj:j=l
   ·rw[if_pos cj,if_neg (by lia)];exact q1 i (by lia)
   ·rw[if_neg cj];by_cases c3:l<i/\i≤k
    ·rw[if_pos c3,if_pos (by lia)];exact S (i-1) (j-1) (by lia) (by lia)
    ·rw[if_neg c3];by_cases c4:l<j/\j≤k
     ·rw[if_pos c4];exact S i (j-1) (by lia) (by lia)
     ·rw[if_neg c4];exact S i j hij (by lia)
theorem Sv{G:Array Nat->η->Prop}(hn:1≤n)(h:∀p,Va n p->So lt p n->G p s):(kas_sort n).kasWp cmp G s:=by
 unfold kas_sort;rw[jy];have v0:Va n (eJ (bM n)):=⟨by simp⟩;refine Sw O hc v0 hn fun m p' v m1 m2 S=>?_;dsimp only;by_cases hm:m<n
 ·rw[if_pos hm];have e:max m 1=m:=by lia
  rw[e];exact Js O hc (n-m) p' m v (by lia) S h
 ·rw[if_neg hm];have e:m=n:=by lia
  subst e;exact h p' v S
end
end Ll
namespace mI
open PySem PySem.SetTable
def iM(m:Nat):Prop:=m=7∨m=31∨m=127∨m=511∨m=2047
def tP(m:Nat)(p:Probe):Probe:=
 if p.more > 0 then { p with j:=p.j+1,more:=p.more-1 } else
 { p with j:=(leap m p.i p.perturb).1,more:=runEnd m (leap m p.i p.perturb).1-(leap m p.i p.perturb).1,i:=(leap m p.i p.perturb).1,perturb:=(leap m p.i p.perturb).2 }
def rs(m:Nat)(q:Nat×Nat):Probe:={ j:=q.1,more:=runEnd m q.1-q.1,i:=q.1,perturb:=q.2,dummy:=none }
def W8(m:Nat)(h:Int):Probe:=rs m (bits h%(m+1),bits h)
def sq(m:Nat)(h:Int):Nat->Probe
 |0=>W8 m h
 |k+1=>tP m (sq m h k)
def rn(m:Nat)(h:Int):Nat->Nat×Nat
 |0=>(bits h%(m+1),bits h)
 |r+1=>leap m (rn m h r).1 (rn m h r).2
theorem Jr(m:Nat)(h:Int):∀k,(sq m h k).dummy=none
 |0=>rfl
 |k+1=>by
  show (tP m (sq m h k)).dummy=none;have ih:=Jr m h k;unfold tP;split<;>simpa using ih
theorem Su(m i:Nat):runEnd m i-i≤9:=by
 unfold runEnd;split<;>lia
theorem DG(m:Nat)(h:Int)(n:Nat)(q:Nat×Nat)(e:sq m h n=rs m q):∀d,d≤runEnd m q.1-q.1->sq m h (n+d)={ j:=q.1+d,more:=runEnd m q.1-q.1-d,i:=q.1,perturb:=q.2,dummy:=none }
 |0,_=>by rw[Nat.add_zero,e];rfl
 |d+1,hd=>by
  have ih:=DG m h n q e d (by lia);show tP m (sq m h (n+d))=_;rw[ih];unfold tP;rw[if_pos (show runEnd m q.1-q.1-d > 0 by lia)];simp only[Probe.mk.injEq,and_true,true_and];lia
theorem Jq(m:Nat)(h:Int)(n:Nat)(q:Nat×Nat)(e:sq m h n=rs m q):sq m h (n+(runEnd m q.1-q.1)+1)=rs m (leap m q.1 q.2):=by
 show tP m (sq m h (n+(runEnd m q.1-q.1)))=_;rw[DG m h n q e _ (Θ _)];unfold tP;rw[if_neg (by simp)];rfl
theorem Jp(m:Nat)(h:Int):∀r,∃n,n≤10*r/\sq m h n=rs m (rn m h r)
 |0=>⟨0,by lia,rfl⟩
 |r+1=>by
  obtain⟨n,hn,e⟩:=Jp m h r;have:=Su m (rn m h r).1;exact⟨n+(runEnd m (rn m h r).1-(rn m h r).1)+1,by lia,Jq m h n _ e⟩
theorem Ss(h:Int):bits h<2^64:=by
 unfold bits;have h1:h%(2^64:Int)<2^64:=fV _ (by decide);have h2:0≤h%(2^64:Int):=g5 _ (by decide);lia
theorem JY(m:Nat)(h:Int):∀r,(rn m h r).2=bits h / 32^r
 |0=>by simp[rn]
 |r+1=>by
  show (rn m h r).2 / 32=_;rw[JY m h r,Nat.div_div_eq_div_mul,t4]
theorem Sr(m:Nat)(h:Int)(r:Nat)(hr:13≤r):(rn m h r).2=0:=by
 rw[JY];have h1:=Ss h;have h2:(32:Nat)^13≤32^r:=Nat.pow_le_pow_right (by decide) hr;have h3:(2:Nat)^64<32^13:=by decide
 exact Nat.div_eq_of_lt (by lia)
def fl(m x:Nat):Nat:=(x*5+1)%(m+1)
def it(m:Nat):Nat->Nat->Nat
 |0,x=>x
 |n+1,x=>fl m (it m n x)
theorem Av(m:Nat)(a:Nat):∀b x,it m (b+a) x=it m b (it m a x)
 |0,x=>by rw[tY];rfl
 |b+1,x=>by
  rw[show b+1+a=(b+a)+1 by lia];show fl m (it m (b+a) x)=fl m (it m b (it m a x));rw[Av m a b x]
theorem DF(m:Nat)(h:Int):∀n,(rn m h (13+n)).1=it m n (rn m h 13).1
 |0=>rfl
 |n+1=>by
  show ((rn m h (13+n)).1*5+1+(rn m h (13+n)).2 / 32)%(m+1)=fl m (it m n (rn m h 13).1);rw[Sr m h (13+n) (by lia),DF m h n];rfl
theorem DE(m:Nat)(h:Int):∀r,(rn m h r).1<m+1
 |0=>ka _ (px _)
 |r+1=>ka _ (px _)
def un:Nat->Nat
 |0=>0
 |n+1=>5*un n+1
theorem DD(m:Nat):∀n,it m n 0=un n%(m+1)
 |0=>by simp[it,un]
 |n+1=>by
  show (it m n 0*5+1)%(m+1)=(5*un n+1)%(m+1);rw[DD m n,pz 5,Nat.add_mod,Nat.mul_mod,Nat.mod_mod,←Nat.mul_mod,←Nat.add_mod]
theorem DC(a:Nat):∀b,un (a+b)=un a+un b*(4*un a+1)
 |0=>by simp[un]
 |b+1=>by
  show 5*un (a+b)+1=un a+(5*un b+1)*(4*un a+1);rw[DC a b];generalize un a=x;generalize un b=y;have h1:(5*y+1)*(4*x+1)=5*(y*(4*x+1))+(4*x+1):=by rw[Nat.add_mul,Nat.mul_assoc,Nat.one_mul]
  lia
theorem DB:∀k,∃c,un (2^k)=2^k+2^k*(2*c)
 |0=>⟨0,rfl⟩
 |k+1=>by
  obtain⟨c,hc⟩:=DB k;refine⟨c+un (2^k)+2*c*un (2^k),?_⟩;rw[show 2^(k+1)=2^k+2^k by rw[t4];lia,DC];generalize un (2^k)=u at *;generalize 2^k=N at *;have e1:u+u*(4*u+1)=2*(u*(2*u+1)):=by grind
  rw[e1];have e2:u*(2*u+1)=N*((1+2*c)*(2*u+1)):=by
   rw[←Nat.mul_assoc];congr 1;rw[hc];grind
  rw[e2];grind
theorem JX:∀k y,y<2^k->∃n,n<2^k/\un n%2^k=y
 |0,y,h=>⟨0,by simp,by simp at h;subst h;rfl⟩
 |k+1,y,h=>by
  have hp:0<2^k:=Nat.pow_pos (by decide);have e:2^(k+1)=2*2^k:=by rw[t4,pz]
  rw[e] at h ⊢;obtain⟨n,hn,hy⟩:=JX k (y%2^k) (ka _ hp);obtain⟨c,hc⟩:=DB k;have ha:=DC n (2^k);have hu:=pW (un n) (2^k);rw[hy] at hu;have hyd:=pW y (2^k);have hq:y / 2^k<2:=Nat.div_lt_of_lt_mul (by rw[pz];exact h);have hlt:=ka y hp;generalize hN:2^k=N at *;have key:un (n+N)=un n+N+2*N*(c*(4*un n+1)+2*un n):=by
   rw[ha,hc];grind
  have two:∀(z q:Nat),z<N->(z+N*q)%(2*N)=z+N*(q%2):=by
   intro z q hz;have hq2:=pW q 2;have e3:z+N*q=(z+N*(q%2))+2*N*(q / 2):=by
    have:N*q=N*(q%2+2*(q / 2)):=by rw[hq2]
    rw[this];grind
   rw[e3,jw,Nat.mod_eq_of_lt];rcases Nat.mod_two_eq_zero_or_one q with h0|h0<;>rw[h0]<;>lia
  by_cases hpar:un n / N%2=y / N
  ·refine⟨n,by lia,?_⟩;rw[←hu,two _ _ hlt,hpar];exact hyd
  ·refine⟨n+N,by lia,?_⟩;rw[key,jw,←hu,nL,show N*(un n / N)+N=N*(un n / N+1) by rw[Nat.mul_add,Nat.mul_one],two _ _ hlt];rw[show (un n / N+1)%2=y / N by clear hyd hu key ha hc hlt hy;generalize un n / N=q1 at *;generalize y / N=q2 at *;lia];exact hyd
theorem iM.pow{m:Nat}:iM m->∃k,m+1=2^k
 |.inl h=>⟨3,by rw[h]⟩
 |.inr (.inl h)=>⟨5,by rw[h]⟩
 |.inr (.inr (.inl h))=>⟨7,by rw[h]⟩
 |.inr (.inr (.inr (.inl h)))=>⟨9,by rw[h]⟩
 |.inr (.inr (.inr (.inr h)))=>⟨11,by rw[h]⟩
theorem EW{m:Nat}(hm:iM m){x:Nat}(hx:x<m+1):∃k,k<m+1/\x=it m k 0:=by
 obtain⟨k,e⟩:=hm.pow;rw[e] at hx;obtain⟨n,hn,h⟩:=JX k x hx;exact⟨n,by rw[e];exact hn,by rw[DD,e,h]⟩
theorem back{m:Nat}(hm:iM m):it m (m+1) 0=0:=by
 obtain⟨k,e⟩:=hm.pow;rw[DD,e];obtain⟨c,hc⟩:=DB k;rw[hc,jw,Nat.mod_self]
theorem B9{m:Nat}(hm:iM m){x y:Nat}(hx:x<m+1)(hy:y<m+1):∃n,n≤m/\it m n x=y:=by
 obtain⟨a,ha,ea⟩:=EW hm hx;obtain⟨b,hb,eb⟩:=EW hm hy;by_cases hab:a≤b
 ·refine⟨b-a,by lia,?_⟩;rw[ea,←Av,eb];congr 1;lia
 ·refine⟨m+1-a+b,by lia,?_⟩;rw[ea,←Av,eb,show m+1-a+b+a=b+(m+1) by lia,Av,back hm]
theorem comes{m:Nat}(hm:iM m)(h:Int){e:Nat}(he:e≤m):∃k,k≤10*m+130/\(sq m h k).j=e:=by
 obtain⟨n,hn,en⟩:=B9 hm (DE m h 13) (show e<m+1 by lia);obtain⟨k,hk,ek⟩:=Jp m h (13+n);refine⟨k,by lia,?_⟩;rw[ek];show (rn m h (13+n)).1=e;rw[DF,en]
theorem DA{xs:Array Nat}{j:Nat}(hr:xs.toList.Pairwise (· < ·)):∀(fuel lo hi:Nat),hi-lo≤fuel->lo≤hi->hi≤xs.size->(∀i x,i<lo->xs[i]?=some x->x<j)->(∀i x,hi≤i->xs[i]?=some x->j≤x) ->
  below.go xs j fuel lo hi≤xs.size/\(∀i x,i<below.go xs j fuel lo hi->xs[i]?=some x->x<j)/\(∀i x,below.go xs j fuel lo hi≤i->xs[i]?=some x->j≤x)
 |0,lo,hi,hf,hl,hs,h1,h2=>by
  have e:lo=hi:=by lia
  subst e;exact⟨hs,h1,h2⟩
 |fuel+1,lo,hi,hf,hl,hs,h1,h2=>by
  unfold below.go;by_cases hlt:lo<hi
  ·rw[if_pos hlt];dsimp only;have hmid:(lo+hi) / 2<xs.size:=by lia
   have hg:xs.getD ((lo+hi) / 2) j=xs[(lo+hi) / 2]:=by simp[mh,hmid]
   rw[hg];have pw:∀a b x y,a<b->xs[a]?=some x->xs[b]?=some y->x<y:=fun a b x y hab ea eb=>by
    have ha':a<xs.toList.length:=by
     have:=(aH.mp ea).1;simpa using this
    have hb':b<xs.toList.length:=by
     have:=(aH.mp eb).1;simpa using this
    have:=eZ.mp hr a b ha' hb' hab;obtain⟨_,e1⟩:=aH.mp ea;obtain⟨_,e2⟩:=aH.mp eb;simpa [e1,e2] using this
   have em:xs[(lo+hi) / 2]?=some xs[(lo+hi) / 2]:=by simp[hmid]
   by_cases hc:xs[(lo+hi) / 2]<j
   ·rw[if_pos hc];refine DA hr fuel _ hi (by lia) (by lia) hs (fun i x hi' e=>?_) h2;by_cases kl:i=(lo+hi) / 2
    ·subst kl;rw[em] at e;cases e;exact hc
    ·exact t6 (pw i _ x _ (by lia) e em) hc
   ·rw[if_neg hc];refine DA hr fuel lo _ (by lia) (by lia) (by lia) h1 (fun i x hi' e=>?_);by_cases kl:i=(lo+hi) / 2
    ·subst kl;rw[em] at e;cases e;lia
    ·have:=pw _ i _ x (by lia) em e;lia
  ·rw[if_neg hlt];have e:lo=hi:=by lia
   subst e;exact⟨hs,h1,h2⟩
theorem Au{xs:Array Nat}{j:Nat}(hr:xs.toList.Pairwise (· < ·)):below xs j≤xs.size/\(∀i x,i<below xs j->xs[i]?=some x->x<j)/\(∀i x,below xs j≤i->xs[i]?=some x->j≤x):=
 DA hr xs.size 0 xs.size (by lia) (by lia) (by lia) (fun i _ h=>by lia) fun i x h e=>by
  have:=(aH.mp e).1;lia
theorem below_at{xs:Array Nat}{j i:Nat}(hr:xs.toList.Pairwise (· < ·))(e:xs[i]?=some j):below xs j=i:=by
 obtain⟨h0,h1,h2⟩:=Au (j:=j) hr;have hi:=(aH.mp e).1;by_cases hlt:i<below xs j
 ·exact absurd (h1 i j hlt e) (cw _)
 ·by_cases hgt:below xs j<i
  ·have hb:below xs j<xs.size:=by lia
   have eb:xs[below xs j]?=some xs[below xs j]:=by simp[hb]
   have q1:=h2 _ _ (Θ _) eb;have pw:=eZ.mp hr (below xs j) i (by simpa using hb) (by simpa using hi) hgt;obtain⟨_,e1⟩:=aH.mp e;simp[e1] at pw;lia
  ·lia
end mI
namespace mI
open PySem PySem.SetTable
structure Tab(t:bG)(hs:List Int):Prop where
 mask:iM t.mask
 size:t.place.size=hs.length
 rise:t.place.toList.Pairwise (· < ·)
 bound:∀j∈t.place.toList,j≤t.mask
 n9:t.dummies = #[]
 room:hs.length*5<t.mask*3
 reach:∀j h,(j,h)∈t.place.toList.zip hs->∃k,(sq t.mask h k).j=j/\∀k',k' < k->(sq t.mask h k').j∈t.place.toList
theorem JW{t:bG}{j i:Nat}(hr:t.place.toList.Pairwise (· < ·))(e:t.place[i]?=some j):t.slot j=.live i:=by
 unfold slot;dsimp only;rw[below_at hr e,e];simp
theorem Sq{t:bG}{j:Nat}(hd:t.dummies = #[])(e:j∉t.place.toList):t.slot j=.empty:=by
 unfold slot;dsimp only;have h1:¬(t.place[below t.place j]?==some j)=true:=by
  intro h;have h':t.place[below t.place j]?=some j:=by simpa using h
  exact e (by
   rw[←af] at h';exact bH h')
 rw[if_neg h1];have h2:has t.dummies j=false:=by
  rw[hd];rfl
 rw[h2];rfl
theorem Dz:∀(n:Nat) (L:List Nat),(∀e,e<n->e∈L)->n≤L.length
 |0,_,_=>aG _
 |n+1,L,h=>by
  have h1:=h n (iS n);have h2:=Dz n (L.erase n) fun e he=>(List.mem_erase_of_ne (by lia)).mpr (h e (by lia));have h3:=List.length_erase_of_mem h1;have h4:=List.length_pos_of_mem h1;lia
theorem Sn{t:bG}{hs:List Int}(T:Tab t hs)(h:Int):∃ke,ke≤10*t.mask+130/\(sq t.mask h ke).j∉t.place.toList/\∀k,k<ke->(sq t.mask h k).j∈t.place.toList:=by
 -- some slot is empty
 have hex:∃e,e≤t.mask/\e∉t.place.toList:=by
  refine bh fun hn=>?_;have hall:∀e,e≤t.mask->e∈t.place.toList:=fun e he=>bh fun q=>hn ⟨e,he,q⟩;have hl:=Dz (t.mask+1) t.place.toList fun e he=>hall e (by lia);have e1:t.place.toList.length=t.place.size:=by simp
  have:=T.size;have:=T.room;lia
 obtain⟨e,he,ne⟩:=hex;obtain⟨k,hk,ek⟩:=comes T.mask h he;have hP:∃k,(sq t.mask h k).j∉t.place.toList:=⟨k,by rw[ek];exact ne⟩
 -- the least one
 have least:∀n,(∃k,k≤n/\(sq t.mask h k).j∉t.place.toList)->∃ke,ke≤n/\(sq t.mask h ke).j∉t.place.toList/\∀k,k<ke->(sq t.mask h k).j∈t.place.toList:=by
  intro n
  induction n with
  |zero=>
   rintro⟨k,hk,q⟩;have:k=0:=by lia
   subst this;exact⟨0,Θ _,q,fun k hk=>by lia⟩
  |succ n ih=>
   rintro⟨k,hk,q⟩;by_cases hp:∃k,k≤n/\(sq t.mask h k).j∉t.place.toList
   ·obtain⟨ke,h1,h2,h3⟩:=ih hp;exact⟨ke,by lia,h2,h3⟩
   ·have hk':k=n+1:=by
     refine bh fun z=>hp ⟨k,by lia,q⟩
    subst hk';exact⟨n+1,Θ _,q,fun k' hk'=>bh fun z=>hp ⟨k',by lia,z⟩⟩
 obtain⟨ke,h1,h2,h3⟩:=least k ⟨k,Θ _,by rw[ek];exact ne⟩;exact⟨ke,by lia,h2,h3⟩
inductive Meets(t:bG)(hashAt:Nat->Int)(h:Int)(n ke:Nat):Met->Prop where
 |BJ {k i:Nat} (h1:n≤k) (h2:k<ke) (h3:t.place[i]?=some (sq t.mask h k).j) (h4:hashAt i=h) (h5:∀k' i',n≤k'->k' < k->t.place[i']?=some (sq t.mask h k').j->hashAt i'≠h):
   Meets t hashAt h n ke (.candidate (sq t.mask h k).j i (sq t.mask h (k+1)))
 |free (h1:n≤ke) (h5:∀k' i',n≤k'->k' < ke->t.place[i']?=some (sq t.mask h k').j->hashAt i'≠h):Meets t hashAt h n ke (.empty (sq t.mask h ke).j none)
theorem JV{t:bG}{hashAt:Nat->Int}{h:Int}{ke:Nat}(hr:t.place.toList.Pairwise (· < ·))(hd:t.dummies = #[])(he:(sq t.mask h ke).j∉t.place.toList)(hl:∀k,k<ke->(sq t.mask h k).j∈t.place.toList):
  ∀(fuel n:Nat),n≤ke->ke-n<fuel->∃met,probe.go t hashAt h fuel (sq t.mask h n)=some met/\Meets t hashAt h n ke met
 |0,n,_,hf=>by lia
 |fuel+1,n,hn,hf=>by
  unfold probe.go;by_cases hlast:n=ke
  ·subst hlast;rw[Sq hd he,Jr];exact⟨_,rfl,.free (Θ _) fun k' i' h1 h2=>by lia⟩
  ·have hmem:=hl n (by lia);obtain⟨i,hi⟩:=gw hmem;have hi':t.place[i]?=some (sq t.mask h n).j:=by rw[←af];exact hi
   rw[JW hr hi'];dsimp only;by_cases hh:hashAt i=h
   ·rw[if_pos (by simpa using hh)];exact⟨_,rfl,.BJ (Θ _) (by lia) hi' hh fun k' i' h1 h2=>by lia⟩
   ·rw[if_neg (by simpa using hh)];obtain⟨met,e,m⟩:=JV (hashAt:=hashAt) hr hd he hl fuel (n+1) (by lia) (by lia);refine⟨met,e,?_⟩;have one:∀i',t.place[i']?=some (sq t.mask h n).j->hashAt i'≠h:=fun i' e'=>by
     have e1:=below_at hr hi';have e2:=below_at hr e';have:i'=i:=by lia
     rw[this];exact hh
    cases m with
    |BJ h1 h2 h3 h4 h5=>
     refine .BJ (by lia) h2 h3 h4 fun k' i' q1 q2 q3=>?_;by_cases hk:k'=n
     ·subst hk;exact one i' q3
     ·exact h5 k' i' (by lia) q2 q3
    |free h1 h5=>
     refine .free (by lia) fun k' i' q1 q2 q3=>?_;by_cases hk:k'=n
     ·subst hk;exact one i' q3
     ·exact h5 k' i' (by lia) q2 q3
theorem Sm{t:bG}{hs:List Int}(T:Tab t hs){hashAt:Nat->Int}{h:Int}{ke n:Nat}(hk:ke≤10*t.mask+130)(he:(sq t.mask h ke).j∉t.place.toList)(hl:∀k,k<ke->(sq t.mask h k).j∈t.place.toList)(hn:n≤ke):
  ∃met,t.probe hashAt h (sq t.mask h n)=some met/\Meets t hashAt h n ke met:=by
 unfold probe;exact JV T.rise T.n9 he hl _ n hn (by unfold turns;lia)
theorem uY{α:Type}(xs:Array α)(p:Nat)(x:α):(insertAt xs p x).toList=xs.toList.take p++x::xs.toList.drop p:=by
 unfold insertAt;have e:(xs.extract p xs.size).toList=xs.toList.drop p:=by
  rw[mf];simp[List.extract];exact cC (by simp)
 simp[mf,List.extract];exact cC (by simp)
theorem JU{α β:Type}:∀(p:Nat) (xs:List α) (ys:List β) (x:α) (y:β),xs.length=ys.length->((xs.take p++x::xs.drop p).zip (ys.take p++y::ys.drop p)).Perm ((x,y)::xs.zip ys)
 |0,xs,ys,x,y,_=>by simp
 |p+1,[],ys,x,y,h=>by
  have:ys=[]:=pK.mp (by simpa using h.symm);subst this;simp
 |p+1,a::xs,[],x,y,h=>by simp at h
 |p+1,a::xs,b::ys,x,y,h=>by
  have ih:=JU p xs ys x y (by simpa using h);simp only[List.take_succ_cons,List.drop_succ_cons,pG,gZ];exact (List.Perm.cons (a,b) ih).trans (List.Perm.swap _ _ _)
theorem wF{α:Type}(p:Nat)(xs:List α)(x:α):(xs.take p++x::xs.drop p).Perm (x::xs):=by
 have:=pD (a:=x) (l₁:=xs.take p) (l₂:=xs.drop p);rw[bY] at this;exact this
theorem Sl{t:bG}{j:Nat}(hd:t.dummies = #[]):t.put j=({ t with place:=insertAt t.place (below t.place j) j,dummies:=#[]},below t.place j):=by
 unfold put;dsimp only;have h2:has t.dummies j=false:=by
  rw[hd];rfl
 rw[h2];simp[hd]
structure tQ(t:bG)(hs:List Int):Prop where
 mask:iM t.mask
 size:t.place.size=hs.length
 rise:t.place.toList.Pairwise (· < ·)
 bound:∀j∈t.place.toList,j≤t.mask
 n9:t.dummies = #[]
 K4:hs.length≤t.mask
 reach:∀j h,(j,h)∈t.place.toList.zip hs->∃k,(sq t.mask h k).j=j/\∀k',k' < k->(sq t.mask h k').j∈t.place.toList
theorem JT{m:Nat}(hm:iM m)(h:Int):∀k,(sq m h k).j≤m/\(sq m h k).j+(sq m h k).more≤m:=by
 have hrun:∀i,i≤m->runEnd m i≤m:=fun i hi=>by
  unfold runEnd;split<;>lia
 have hrs:∀q:Nat×Nat,q.1≤m->(rs m q).j≤m/\(rs m q).j+(rs m q).more≤m:=fun q hq=>by
  have:=hrun q.1 hq;have h2:q.1≤runEnd m q.1:=by unfold runEnd;split<;>lia
  show q.1≤m/\q.1+(runEnd m q.1-q.1)≤m;lia
 intro k
 induction k with
 |zero=>exact hrs _ (by show bits h%(m+1)≤m;have:bits h%(m+1)<m+1:=ka (bits h) (px m);lia)
 |succ k ih=>
  show (tP m (sq m h k)).j≤m/\(tP m (sq m h k)).j+(tP m (sq m h k)).more≤m;unfold tP;by_cases hc:(sq m h k).more > 0
  ·rw[if_pos hc];show (sq m h k).j+1≤m/\(sq m h k).j+1+((sq m h k).more-1)≤m;lia
  ·rw[if_neg hc];have hlt:(leap m (sq m h k).i (sq m h k).perturb).1≤m:=by
    show ((sq m h k).i*5+1+(sq m h k).perturb / 32)%(m+1)≤m;have:((sq m h k).i*5+1+(sq m h k).perturb / 32)%(m+1)<m+1:=ka _ (px m);lia
   exact hrs (leap m (sq m h k).i (sq m h k).perturb) hlt
theorem Tab.put{t:bG}{hs:List Int}(T:Tab t hs){h:Int}{ke:Nat}(he:(sq t.mask h ke).j∉t.place.toList)(hl:∀k,k<ke->(sq t.mask h k).j∈t.place.toList):
  tQ { t with place:=insertAt t.place (below t.place (sq t.mask h ke).j) (sq t.mask h ke).j,dummies:=#[]} (hs.take (below t.place (sq t.mask h ke).j)++h::hs.drop (below t.place (sq t.mask h ke).j)):=by
 obtain⟨b0,b1,b2⟩:=Au (j:=(sq t.mask h ke).j) T.rise;have hlen:t.place.toList.length=hs.length:=by simpa using T.size
 have hmem:∀x,x∈(insertAt t.place (below t.place (sq t.mask h ke).j) (sq t.mask h ke).j).toList↔x=(sq t.mask h ke).j∨x∈t.place.toList:=fun x=>by
  rw[uY,(wF _ t.place.toList _).mem_iff,ak]
 refine⟨T.mask,?_,?_,fun j hj=>?_,rfl,?_,fun j h' hj=>?_⟩
 ·show (insertAt t.place (below t.place (sq t.mask h ke).j) (sq t.mask h ke).j).size=_;have e1:(insertAt t.place (below t.place (sq t.mask h ke).j) (sq t.mask h ke).j).size=(insertAt t.place (below t.place (sq t.mask h ke).j) (sq t.mask h ke).j).toList.length:=by simp
  rw[e1,uY,(wF _ t.place.toList _).length_eq,(wF _ hs _).length_eq];simp only[aE];lia
 ·show (insertAt t.place (below t.place (sq t.mask h ke).j) (sq t.mask h ke).j).toList.Pairwise (· < ·);rw[uY];refine ao.mpr ⟨T.rise.sublist (dw _ _),cR.mpr ⟨fun x hx=>?_,T.rise.sublist (ft _ _)⟩,fun a ha b hb=>?_⟩
  ·obtain⟨i,hi⟩:=gw hx;rw[g0] at hi;have q:=b2 (below t.place (sq t.mask h ke).j+i) x (by lia) (by rw[←af];exact hi);have ne:x≠(sq t.mask h ke).j:=fun e=>he (e▸bH hi);lia
  ·obtain⟨i,hi⟩:=gw ha;have hil:i<below t.place (sq t.mask h ke).j:=by
    have:=(ax.mp hi).1;rw[br] at this;lia
   rw[dQ hil] at hi;have qa:=b1 i a hil (by rw[←af];exact hi);rcases ak.mp hb with e|hb
   ·rw[e];exact qa
   ·obtain⟨i2,kl⟩:=gw hb;rw[g0] at kl;have q:=b2 (below t.place (sq t.mask h ke).j+i2) b (by lia) (by rw[←af];exact kl);lia
 ·rcases (hmem j).mp hj with e|e
  ·rw[e];exact (JT T.mask h ke).1
  ·exact T.bound j e
 ·rw[(wF _ hs _).length_eq];have:=T.room;rcases T.mask with e|e|e<;>(simp only[aE];show _≤t.mask;lia)
 ·have hp:(j,h')∈(t.place.toList.take (below t.place (sq t.mask h ke).j)++(sq t.mask h ke).j::t.place.toList.drop (below t.place (sq t.mask h ke).j)).zip
    (hs.take (below t.place (sq t.mask h ke).j)++h::hs.drop (below t.place (sq t.mask h ke).j)):=by
   rw[←uY];exact hj
  rw[(JU _ _ _ _ _ hlen).mem_iff] at hp;rcases ak.mp hp with e|e
  ·cases e;exact⟨ke,rfl,fun k' hk'=>(hmem _).mpr (.inr (hl k' hk'))⟩
  ·obtain⟨k,e1,e2⟩:=T.reach j h' e;exact⟨k,e1,fun k' hk'=>(hmem _).mpr (.inr (e2 k' hk'))⟩
theorem tQ.tab{t:bG}{hs:List Int}(T:tQ t hs)(h:t.tooFull=false):Tab t hs:=by
 refine⟨T.mask,T.size,T.rise,T.bound,T.n9,?_,T.reach⟩;have h':¬(t.fill*5≥t.mask*3):=by simpa [tooFull] using h
 have e:t.fill=hs.length:=by
  unfold fill;rw[T.size,T.n9];rfl
 rw[e] at h';lia
end mI
namespace mI
open PySem PySem.SetTable
def Taken(ow:Array (Option Nat))(j:Nat):Prop:=∃k,ow[j]?=some (some k)
theorem Dy{ow:Array (Option Nat)}{j:Nat}(hj:j<ow.size):(ow.getD j (some 0)).isNone=true↔¬Taken ow j:=by
 have e:ow.getD j (some 0)=ow[j]:=by simp[mh,hj]
 rw[e];unfold Taken;rw[e6 hj];cases ow[j] with
 |none=>simp
 |some k=>simp
theorem JS{m:Nat}(hm:iM m){h:Int}{ow:Array (Option Nat)}(hs:ow.size=m+1):∀(fuel r n:Nat),sq m h n=rs m (rn m h r)->(∀k,k<n->Taken ow (sq m h k).j) ->
  (∃r',r≤r'/\r' < r+fuel/\¬Taken ow (rn m h r').1)->∃ke,layClean.free m ow fuel (rn m h r).1 (rn m h r).2=some (sq m h ke).j/\¬Taken ow (sq m h ke).j/\∀k,k<ke->Taken ow (sq m h k).j
 |0,r,n,_,_,hx=>by
  obtain⟨r',h1,h2,_⟩:=hx;lia
 |fuel+1,r,n,hn,hk,hx=>by
  have hi:=DE m h r;have hre:runEnd m (rn m h r).1≤m:=by unfold runEnd;split<;>lia
  have hre2:(rn m h r).1≤runEnd m (rn m h r).1:=by unfold runEnd;split<;>lia
  have at_d:∀d,d≤runEnd m (rn m h r).1-(rn m h r).1->(sq m h (n+d)).j=(rn m h r).1+d:=fun d hd=>by
   rw[DG m h n _ hn d hd]
  unfold layClean.free;cases hf:(bM (runEnd m (rn m h r).1+1-(rn m h r).1)).find? (fun k=>(ow.getD ((rn m h r).1+k) (some 0)).isNone) with
  |some k=>
   obtain⟨p1,p2,p3⟩:=List.find?_range_eq_some.mp hf;have hkr:=de.mp p2;refine⟨n+k,?_,?_,fun k' hk'=>?_⟩
   ·rw[at_d k (by lia)]
   ·rw[at_d k (by lia)];exact (Dy (by lia)).mp p1
   ·by_cases hlt:k' < n
    ·exact hk k' hlt
    ·obtain⟨d,rfl⟩:∃d,k'=n+d:=⟨k' - n,by lia⟩;rw[at_d d (by lia)];have q:=p3 d (by lia);refine bh fun z=>?_;rw[(Dy (by lia)).mpr z] at q;cases q
  |none=>
   have hnone:=t9.mp hf;have occ:∀d,d≤runEnd m (rn m h r).1-(rn m h r).1->Taken ow ((rn m h r).1+d):=fun d hd=>
    bh fun z=>hnone d (de.mpr (by lia)) ((Dy (by lia)).mpr z)
   refine JS hm hs fuel (r+1) (n+(runEnd m (rn m h r).1-(rn m h r).1)+1) (Jq m h n _ hn) (fun k hk'=>?_) ?_
   ·by_cases hlt:k<n
    ·exact hk k hlt
    ·obtain⟨d,rfl⟩:∃d,k=n+d:=⟨k-n,by lia⟩;rw[at_d d (by lia)];exact occ d (by lia)
   ·obtain⟨r',h1,h2,h3⟩:=hx;refine⟨r',?_,by lia,h3⟩;have:r'≠r:=fun e=>h3 (by
     rw[e];have:=occ 0 (aG _);simpa using this)
    lia
structure uI(m:Nat)(ow:Array (Option Nat))(l:List Int):Prop where
 size:ow.size=m+1
 all:∀(k:Nat),k<l.length->∃j:Nat,ow[j]?=some (some k)
 one:∀(j j' k:Nat),ow[j]?=some (some k)->ow[j']?=some (some k)->j=j'
 reach:∀(j k:Nat),ow[j]?=some (some k)->∃h,l[k]?=some h/\∃n,(sq m h n).j=j/\∀n',n' < n->Taken ow (sq m h n').j
theorem uI.nil(m:Nat):uI m (Array.replicate (m+1) none) []:=by
 have hno:∀(j k:Nat),¬(Array.replicate (m+1) (none:Option Nat))[j]?=some (some k):=fun j k e=>by
  rw[Array.getElem?_replicate] at e;split at e<;>simp at e
 exact⟨by simp,fun k hk=>by simp at hk,fun j j' k e=>absurd e (hno j k),fun j k e=>absurd e (hno j k)⟩
theorem uI.room{m:Nat}{ow:Array (Option Nat)}{l:List Int}(O:uI m ow l)(hl:l.length≤m):∃e,e≤m/\¬Taken ow e:=by
 refine bh fun hn=>?_;have hall:∀e,e≤m->Taken ow e:=fun e he=>bh fun q=>hn ⟨e,he,q⟩;obtain⟨g,hg⟩:∃g:Nat->Nat,∀k,k<l.length->ow[g k]?=some (some k):=by
  refine⟨fun k=>if q:k<l.length then (O.all k q).choose else 0,fun k hk=>?_⟩;dsimp only;rw[dif_pos hk];exact (O.all k hk).choose_spec
 have hlen:=Dz (m+1) ((bM l.length).map g) fun e he=>by
  obtain⟨k,hk⟩:=hall e (by lia);obtain⟨h,e1,_⟩:=O.reach e k hk;have hkl:=(ax.mp e1).1;exact aQ.mpr ⟨k,de.mpr hkl,O.one _ _ k (hg k hkl) hk⟩
 simp at hlen;lia
theorem uI.add{m:Nat}(hm:iM m){ow:Array (Option Nat)}{l:List Int}{h:Int}(O:uI m ow l)(hl:l.length≤m):
  ∃j,layClean.free m ow (turns m) (bits h%(m+1)) (bits h)=some j/\uI m (ow.setIfInBounds j (some l.length)) (l++[h]):=by
 obtain⟨e,he,ne⟩:=O.room hl;obtain⟨n0,hn0,en0⟩:=B9 hm (DE m h 13) (show e<m+1 by lia);obtain⟨ke,h1,h2,h3⟩:=JS hm (h:=h) O.size (turns m) 0 0 rfl (fun k hk=>by lia) ⟨13+n0,by lia,by unfold turns;lia,by rw[DF,en0];exact ne⟩;refine⟨(sq m h ke).j,h1,?_⟩;have hj:(sq m h ke).j<ow.size:=by
  have:=(JT hm h ke).1;rw[O.size];lia
 have hget:∀j:Nat,(ow.setIfInBounds (sq m h ke).j (some l.length))[j]?=if (sq m h ke).j=j then some (some l.length) else ow[j]?:=fun j=>by
  rw[Array.getElem?_setIfInBounds];by_cases e:(sq m h ke).j=j
  ·rw[if_pos e,if_pos e,if_pos (by lia)]
  ·rw[if_neg e,if_neg e]
 have tk:∀j,Taken ow j->Taken (ow.setIfInBounds (sq m h ke).j (some l.length)) j:=fun j ⟨k,hk⟩=>by
  unfold Taken;rw[hget];by_cases e:(sq m h ke).j=j
  ·exact⟨_,if_pos e⟩
  ·exact⟨k,by rw[if_neg e];exact hk⟩
 have lt_of:∀j k:Nat,ow[j]?=some (some k)->k<l.length:=fun j k e=>by
  obtain⟨h',e1,_⟩:=O.reach j k e;exact (ax.mp e1).1
 refine⟨by rw[Array.size_setIfInBounds];exact O.size,fun k hk=>?_,fun j j' k q q'=>?_,fun j k q=>?_⟩
 ·rw[ψ,dH] at hk;by_cases hkl:k<l.length
  ·obtain⟨j,hj'⟩:=O.all k hkl;refine⟨j,?_⟩;rw[hget,if_neg (fun e=>h2 ⟨k,by rw[e];exact hj'⟩)];exact hj'
  ·have:k=l.length:=by lia
   exact⟨(sq m h ke).j,by rw[hget,if_pos rfl,this]⟩
 ·rw[hget] at q q';by_cases e:(sq m h ke).j=j
  ·rw[if_pos e] at q;by_cases e':(sq m h ke).j=j'
   ·lia
   ·rw[if_neg e'] at q';cases q;exact absurd (lt_of _ _ q') (cw _)
  ·rw[if_neg e] at q;by_cases e':(sq m h ke).j=j'
   ·rw[if_pos e'] at q';cases q';exact absurd (lt_of _ _ q) (cw _)
   ·rw[if_neg e'] at q';exact O.one j j' k q q'
 ·rw[hget] at q;by_cases e:(sq m h ke).j=j
  ·rw[if_pos e] at q;cases q;exact⟨h,by simp,ke,e,fun n' hn'=>tk _ (h3 n' hn')⟩
  ·rw[if_neg e] at q;obtain⟨h',e1,n,e2,e3⟩:=O.reach j k q;exact⟨h',by rw[cB (lt_of j k q)];exact e1,n,e2,fun n' hn'=>tk _ (e3 n' hn')⟩
theorem JR{m:Nat}(hm:iM m):∀(l' l:List Int) (ow:Array (Option Nat)),uI m ow l->l.length+l'.length≤m+1 ->
  ∃ow',(l'.foldl (fun (acc:Option (Array (Option Nat)×Nat)) h=>do
   let (owner,k) ←acc
   let j ←layClean.free m owner (turns m) (bits h%(m+1)) (bits h)
   pure (owner.setIfInBounds j (some k),k+1)) (some (ow,l.length)))=some (ow',(l++l').length)/\uI m ow' (l++l')
 |[],l,ow,O,_=>⟨ow,by simp,by simpa using O⟩
 |h::l',l,ow,O,hl=>by
  rw[aE] at hl
  obtain⟨j,e,O'⟩:=O.add hm (h:=h) (by lia)
  obtain⟨ow',e2,O2⟩:=JR hm l' (l++[h]) _ O' (by simp;lia)
  refine⟨ow',?_,by simpa using O2⟩
  rw[List.foldl_cons]
  have hs:(do
   let (owner,k) ←(some (ow,l.length):Option (Array (Option Nat)×Nat))
   let j ←layClean.free m owner (turns m) (bits h%(m+1)) (bits h)
   pure (owner.setIfInBounds j (some k),k+1))=some (ow.setIfInBounds j (some l.length),(l++[h]).length):=by
   show (do
    let j ←layClean.free m ow (turns m) (bits h%(m+1)) (bits h)
    pure (ow.setIfInBounds j (some l.length),l.length+1))=_
   rw[e]
   simp
  rw[hs,e2]
  simp
theorem Dx{α:Type}:∀l:List α,((bM l.length).filterMap fun k=>l[k]?)=l
 |[]=>rfl
 |a::l=>by
  rw[aE,kJ,pF (b:=a) (by simp),ua];have ih:=Dx l;congr 1
theorem Sk{α:Type}(xs:Array α):((bM xs.size).filterMap fun k=>xs[k]?)=xs.toList:=by
 have:=Dx xs.toList;simpa using this
theorem Sj{m finger moves:Nat}{led plain:Bool}(hm:iM m)(hs:Array Int)(hl:hs.size*5<m*3):
  ∃t order,laid m finger moves led plain hs=some (t,order)/\t.mask=m/\t.led=led/\t.plain=plain/\t.finger=finger/\order.toList.Perm (bM hs.size)/\Tab t (order.toList.filterMap fun k=>hs[k]?):=by
 obtain⟨ow,e,O⟩:=JR hm hs.toList [] _ (uI.nil m) (by simp;lia);rw[cS] at e O;have hlc:layClean m hs=some ow:=by
  unfold layClean;rw[←Array.foldl_toList];have e':=congrArg (r9 fun x:Array (Option Nat)×Nat=>x.1) e;exact e'
 have hmem:∀j k,(j,k)∈((bM (m+1)).filterMap fun j=>(ow.getD j none).map (j,·))↔ow[j]?=some (some k):=fun j k=>by
  rw[m8];constructor
  ·rintro⟨a,ha,q⟩;have ha':=de.mp ha;cases ho:ow.getD a none with
   |none=>rw[ho] at q;cases q
   |some k'=>
    rw[ho] at q;cases q;have:ow.getD j none=ow[j]'(by rw[O.size];exact ha'):=by simp[mh,O.size,ha']
    rw[this] at ho;rw[e6 (by rw[O.size];exact ha'),ho]
  ·intro q;have hj:=(aH.mp q).1;rw[O.size] at hj;refine⟨j,de.mpr hj,?_⟩;have:ow.getD j none=some k:=by
    rw[Array.getD_eq_getD_getElem?,q];rfl
   rw[this];rfl
 generalize hL:((bM (m+1)).filterMap fun j=>(ow.getD j none).map (j,·))=L at hmem;have rise:L.Pairwise fun a b=>a.1<b.1:=by
  rw[←hL];refine List.Pairwise.filterMap _ (fun a a' hlt b hb b' hb'=>?_) (List.pairwise_lt_range (n:=m+1));cases ho:ow.getD a none with
  |none=>rw[ho] at hb;cases hb
  |some k=>
   rw[ho] at hb;cases hb;cases ho':ow.getD a' none with
   |none=>rw[ho'] at hb';cases hb'
   |some k'=>
    rw[ho'] at hb';cases hb';exact hlt
 have nd:(L.map (·.2)).Nodup:=by
  refine uD _ (R:=fun a b=>a.2≠b.2) (fun _ _ z=>z) ?_;refine fj (fun {a b} ha hb hab=>?_) rise;intro q;obtain⟨j,k⟩:=a;obtain⟨j',k'⟩:=b;have ea:=(hmem j k).mp ha;have eb:=(hmem j' k').mp hb;have hab':j<j':=hab;have q':k=k':=q;subst q';have:=O.one j j' k ea eb;lia
 have hperm:(L.map (·.2)).Perm (bM hs.size):=by
  refine (nM nd List.nodup_range).mpr fun k=>?_;rw[aQ,de];constructor
  ·rintro⟨⟨j,k'⟩,hjk,rfl⟩;obtain⟨h,e1,_⟩:=O.reach j k' ((hmem j k').mp hjk);have:=(ax.mp e1).1;simpa using this
  ·intro hk;obtain⟨j,ej⟩:=O.all k (by simpa using hk);exact⟨(j,k),(hmem j k).mpr ej,rfl⟩
 -- the hashes in the slots' order
 have hzip:∀j h,(j,h)∈(L.map (·.1)).zip ((L.map (·.2)).filterMap fun k=>hs[k]?)->∃k,(j,k)∈L/\hs[k]?=some h:=by
  have hall:∀p∈L,∃h,hs[p.2]?=some h:=fun p hp=>by
   obtain⟨h,e1,_⟩:=O.reach p.1 p.2 ((hmem p.1 p.2).mp hp);exact⟨h,by rw[←af];exact e1⟩
  clear hmem rise nd hperm hL
  induction L with
  |nil=>intro j h q;cases q
  |cons p L ih=>
   intro j h q;obtain⟨h0,e0⟩:=hall p aj;rw[du,du,pF e0,gZ] at q;rcases ak.mp q with q|q
   ·cases q;exact⟨p.2,aj,e0⟩
   ·obtain⟨k,q1,q2⟩:=ih (fun p hp=>hall p (ai _ hp)) j h q;exact⟨k,ai _ q1,q2⟩
 have hlenL:((L.map (·.2)).filterMap fun k=>hs[k]?).length=L.length:=by
  have h1:=(hperm.filterMap fun k=>hs[k]?).length_eq;rw[Sk] at h1;have h3:=hperm.length_eq;rw[π,nZ] at h3;rw[h1,h3];simp
 refine⟨_,_,by unfold laid;rw[hlc];rfl,rfl,rfl,rfl,rfl,?_,?_⟩
 ·rw[hL];exact hperm
 ·rw[hL];have hlen:L.length=hs.size:=by
   have:=hperm.length_eq;simpa using this
  refine⟨hm,?_,?_,fun j hj=>?_,rfl,?_,fun j h hj=>?_⟩
  ·rw[hlenL];simp
  ·exact uD _ (fun _ _ z=>z) rise
  ·obtain⟨⟨j',k⟩,hp,rfl⟩:=aQ.mp hj;have:=(aH.mp ((hmem j' k).mp hp)).1;rw[O.size] at this;show j'≤m;lia
  ·rw[hlenL,hlen];exact hl
  ·obtain⟨k,q1,q2⟩:=hzip j h hj;obtain⟨h',e1,n,e2,e3⟩:=O.reach j k ((hmem j k).mp q1);have eh:h'=h:=by
    rw[af,q2] at e1;exact (aD e1).symm
   subst eh;refine⟨n,e2,fun n' hn'=>?_⟩;obtain⟨k',hk'⟩:=e3 n' hn';exact aQ.mpr ⟨(_,k'),(hmem _ k').mpr hk',rfl⟩
end mI
namespace ff
open PySem mI
section
variable {prog:Ω} {w:aw} {A:aF} {E:δ->η->Prop} {s:η}
abbrev hk(prog:Ω)(w:aw)(ks:List Int):Int:=tupleKeyHash (intKind prog w) ks
abbrev gQ(prog:Ω)(w:aw)(h:au)(ks:List Int)(a:ζ):Prop:=IsTupleKey (intKind prog w) h ks a
def ent(prog:Ω)(w:aw)(p:List Int×ζ):Int×δ:=(hk prog w p.1,.ref p.2)
structure lT(prog:Ω)(w:aw)(h:au)(a:ζ)(o:aW)(es:Array (Int×δ))(ep:Nat)(t:bG)(xs:List (List Int×ζ)):Prop where
 at_:h.get? a=some o
 ex:o.ExactSet
 dat:o.data=.set es ep t
 ents:es.toList=xs.map (ent prog w)
 keys:∀p∈xs,gQ prog w h p.1 p.2
 nd:(xs.map (·.1)).Nodup
 plain:t.plain=true
 led:t.led = !(w.params.followText "set-order")
structure lS(w:aw)(h:au)(a:ζ)(o:aW)(es:Array (Int×δ))(ep:Nat)(t:bG):Prop where
 at_:h.get? a=some o
 ex:o.ExactSet
 dat:o.data=.set es ep t
 plain:t.plain=true
 led:t.led = !(w.params.followText "set-order")
theorem lT.wk{prog:Ω}{w:aw}{h:au}{a:ζ}{o:aW}{es:Array (Int×δ)}{ep:Nat}{t:bG}{xs:List (List Int×ζ)}(S:lT prog w h a o es ep t xs):lS w h a o es ep t:=⟨S.at_,S.ex,S.dat,S.plain,S.led⟩
theorem yc{es:Array (Int×δ)}:(es.toList.map (·.1)).length=es.size:=by simp
theorem uX{es:Array (Int×δ)}{t:bG}(T:tQ t (es.toList.map (·.1))):t.fits es.size=true:=by
 unfold bG.fits;have h1:=T.size;rw[yc] at h1;have h2:=T.K4;rw[yc] at h2;have h3:t.fill=es.size:=by
  unfold bG.fill;rw[h1,T.n9];rfl
 rw[h3,h1];simp;exact h2
theorem Tab.r{t:bG}{hs:List Int}(T:Tab t hs):tQ t hs:=by
 refine⟨T.mask,T.size,T.rise,T.bound,T.n9,?_,T.reach⟩;have:=T.room;lia
theorem Si{t:bG}(h:iM t.mask):t.gaveWay=false:=by
 unfold bG.gaveWay;rcases h with e|e|e|e|e<;>rw[e]<;>rfl
theorem Sh(n:Nat){v:δ}(h:carriedByValue v=true):ofAClassStatement n v=pure false:=by
 cases v with
 |ref a=>simp[carriedByValue] at h
 |_=>first|rfl|(cases n<;>rfl)
theorem JQ{ks:List Int}{a:ζ}{Q:Bool->η->Prop}(hx:gQ prog w s.heap ks a)(h:Q false s):ρ (model prog w) A (ofAClassStatement 8 (.ref a)) Q E s:=by
 have hT:=hx.typeIs;obtain⟨o,items,n,ho,hc,hd,hi⟩:=hx;unfold ofAClassStatement;refine ε (jU hT ?_);dsimp only;rw[if_pos (by decide)];refine ε (ο ?_);rw[if_neg (by decide)];refine ε (wpAny_seqItems ho hd ?_);dsimp only;refine ε ?_;rw[←ue];refine kZ _ (fun rest r s'=>r.1=none/\s'=s/\∀v∈rest,carriedByValue v=true) _ ?_ ?_ _ _ ⟨rfl,rfl,hi.byValue⟩
 ·rintro v rest r s' ⟨hr,rfl,hall⟩;rw[Sh _ (hall v aj)];refine ε (ο ?_);rw[if_neg Ψ];exact ο ⟨rfl,rfl,fun u hu'=>hall u (ai _ hu')⟩
 ·rintro⟨r1,r2⟩ s' ⟨hr,rfl,_⟩;simp only at hr;subst hr;exact ο h
theorem Sg{ks:List Int}{a:ζ}{Q:Bool->η->Prop}(hx:gQ prog w s.heap ks a)(l:List δ)(hl:∀v∈l,∃k y,v=.ref y/\gQ prog w s.heap k y)(h:Q false s):
  ρ (model prog w) A (searchCouldBeSeen (.ref a) l) Q E s:=by
 unfold searchCouldBeSeen;refine ε ?_;refine kZ _ (fun rest r s'=>r.1=none/\s'=s/\∀v∈rest,∃k y,v=.ref y/\gQ prog w s.heap k y) _ ?_ ?_ _ _ ⟨rfl,rfl,hl⟩
 ·rintro v rest r s' ⟨hr,rfl,hall⟩;obtain⟨k,y,rfl,hy⟩:=hall v aj;have hrest:∀v∈rest,∃k y,v=bo y/\gQ prog w s'.heap k y:=fun v hv=>hall v (ai _ hv);dsimp only;by_cases hc:((a==y)||(carriedByValue (.ref a)&&carriedByValue (.ref y)))=true
  ·rw[if_pos hc];exact ο ⟨rfl,rfl,hrest⟩
  ·rw[if_neg hc];refine ε (wpAny_eqIsQuiet_tuple hx ?_);rw[if_neg (by decide)];refine ε (wpAny_eqIsQuiet_tuple hy ?_);rw[if_neg (by decide)];refine ε (JQ hx ?_);rw[if_neg Ψ];refine ε (JQ hy ?_);rw[if_neg Ψ];exact ο ⟨rfl,rfl,hrest⟩
 ·rintro⟨r1,r2⟩ s' ⟨hr,rfl,_⟩;simp only at hr;subst hr;exact ο h
theorem Sf{ks:List Int}{a:ζ}{Q:Bool->η->Prop}(hx:gQ prog w s.heap ks a)(h:Q true s):ρ (model prog w) A (hashByValue 8 (.ref a)) Q E s:=by
 have hT:=hx.typeIs;obtain⟨o,items,n,ho,hc,hd,hi⟩:=hx;unfold hashByValue;refine ε (wpAny_specialOf hT F.slot_tuple_hash.lookup ?_);dsimp only;refine ε (wpAny_seqItems ho hd ?_);refine ε ?_;show ρ _ _ (forIn items _ _) _ _ s;rw[←ue];refine kZ _ (fun rest r s'=>r.1=none/\s'=s/\∃l,ItemsAre (intKind prog w) l rest) _ ?_ ?_ _ _ ⟨rfl,rfl,ks,hi⟩
 ·rintro v rest r s' ⟨hr,rfl,l,hl⟩;cases hl with
  |@cons k v' _ _ h1 h2=>
   obtain⟨tk,rfl⟩:=ig (k:=k) h1;have e:hashByValue 7 (.int k tk)=pure true:=by rfl
   rw[e];refine ε (ο ?_);rw[if_neg (by decide)];exact ο ⟨rfl,rfl,_,h2⟩
 ·rintro⟨r1,r2⟩ s' ⟨hr,rfl,_⟩;simp only at hr;subst hr;exact ο h
theorem Se{es:Array (Int×δ)}{xs:List (List Int×ζ)}(he:es.toList=xs.map (ent prog w)){i:Nat}(hi:i<es.size):∃p,xs[i]?=some p/\es[i]?=some (ent prog w p):=by
 have hl:xs.length=es.size:=by
  have:=congrArg hU he;simpa using this.symm
 obtain⟨p,hp⟩:∃p,xs[i]?=some p:=⟨xs[i]'(by lia),az (by lia)⟩;refine⟨p,hp,?_⟩;rw[←af,he,aT,hp];rfl
theorem JP{a:ζ}{o:aW}{es:Array (Int×δ)}{ep:Nat}{t:bG}{xs:List (List Int×ζ)}(S:lT prog w s.heap a o es ep t xs)(T:Tab t (es.toList.map (·.1)))(hu:A.units<cLine)
  {ks:List Int} {x:ζ} (hx:gQ prog w s.heap ks x) {ke:Nat} (hke:ke≤10*t.mask+130) (hemp:(sq t.mask (hk prog w ks) ke).j∉t.place.toList) (hliv:∀k,k<ke->(sq t.mask (hk prog w ks) k).j∈t.place.toList)
  {Q:SetFound->η->Prop} (hin:ks∈xs.map (·.1)->Q (.there none) s) (hout:ks∉xs.map (·.1)->Q (.free (sq t.mask (hk prog w ks) ke).j false) s):
  ∀(fuel n:Nat) (stand:Option bG.Probe),stand.getD (t.probeStart (hk prog w ks))=sq t.mask (hk prog w ks) n->n≤ke->ke-n<fuel ->
   (∀(k' i':Nat) p,k' < n->t.place[i']?=some (sq t.mask (hk prog w ks) k').j->xs[i']?=some p->p.1≠ks) ->
   ρ (model prog w) A (setSearchFrom a (.ref x) (hk prog w ks) true fuel stand) Q E s
 |0,n,stand,_,_,hf,_=>by lia
 |fuel+1,n,stand,hst,hn,hf,hprev=>by
  have fz:t.place.size=es.size:=by
   have:=T.size
   rw[yc] at this
   exact this
  have hfit:=uX (Tab.r T)
  have hal:∀(i:Nat) (p:List Int×ζ),xs[i]?=some p->((es[i]?).map fun z:Int×δ=>z.1).getD 0=hk prog w p.1:=fun i p hp=>by
   rw[←af,S.ents,aT,hp]
   rfl
  unfold setSearchFrom
  refine ε (cY S.at_ S.dat hfit ?_)
  dsimp only
  rw[Si T.mask,if_neg Ψ,hst]
  obtain⟨met,e,m⟩:=Sm T (hashAt:=fun i=>((es[i]?).map fun z:Int×δ=>z.1).getD 0) hke hemp hliv hn
  erw [e]
  dsimp only
  cases m with
  |free h1 h5=>
   dsimp only
   refine ο (hout fun hmem=>?_)
   obtain⟨p,hp,rfl⟩:=aQ.mp hmem
   obtain⟨i,hi⟩:=gw hp
   have hil:i<es.size:=by
    have h1:=(ax.mp hi).1
    have h2:=congrArg hU S.ents
    simp at h2
    lia
   have hj:∃j,t.place[i]?=some j:=⟨t.place[i]'(by lia),by simp⟩
   obtain⟨j,hj⟩:=hj
   have hz:(j,hk prog w p.1)∈t.place.toList.zip (es.toList.map (·.1)):=by
    refine bH (i:=i) ?_
    rw[List.getElem?_zip_eq_some]
    refine⟨by rw[af];exact hj,?_⟩
    rw[S.ents,fS,aT,hi]
    rfl
   obtain⟨k,hk1,hk2⟩:=T.reach _ _ hz
   have hkke:k<ke:=by
    refine bh fun z=>hemp ?_
    by_cases q:k=ke
    ·rw[←q,hk1]
     exact bH (by rw[af];exact hj)
    ·exact hk2 ke (by lia)
   rw[←hk1] at hj
   by_cases hkn:k<n
   ·exact hprev k i p hkn hj hi rfl
   ·exact h5 k i (by lia) hkke hj (hal i p hi)
  |@BJ k i h1 h2 h3 h4 h5=>
   dsimp only
   have hil:i<es.size:=by
    have:=(aH.mp h3).1
    lia
   obtain⟨p,hp,hesi⟩:=Se S.ents hil
   have hyk:=S.keys p (bH hp)
   have hpk:p∈xs:=bH hp
   have go:ρ (model prog w) A (do
     let some (_,y):=es[i]? | unsupported "internal:set-entry"
     let equal ←holding [y] (eqBool y (.ref x))
     let (es',_,t') ←setState a
     if true&&equal then return .there none
     let some same:=t'.sameMemory t.moves t.mask|unsupported "set.changed-during-lookup:is-the-new-block-at-the-old-address"
     let still ←match (if same then t'.slot (sq t.mask (hk prog w ks) k).j else .empty) with
      |.live i'=>match es'[i']? with
       |some (_,y')=>do pure (if ←isSame y' y then some i' else none)
       |none=>pure none
      |_=>pure none
     match still with
     |none=>rule "set.search.anew";setSearchFrom a (.ref x) (hk prog w ks) true fuel none
     | some i'=>if equal then return .there (some i') else setSearchFrom a (.ref x) (hk prog w ks) true fuel (some (sq t.mask (hk prog w ks) (k+1)))) Q E s:=by
    rw[hesi]
    dsimp only[ent]
    refine ε (bT (wpAny_eqBool_tuple hu hyk hx ?_))
    refine ε (cY S.at_ S.dat hfit ?_)
    dsimp only
    by_cases heq:p.1=ks
    ·rw[decide_eq_true heq,if_pos (by decide)]
     exact ο (hin (aQ.mpr ⟨p,hpk,heq⟩))
    ·rw[decide_eq_false heq,if_neg (by decide)]
     have hsm:t.sameMemory t.moves t.mask=some true:=by unfold bG.sameMemory;simp
     rw[hsm]
     dsimp only
     rw[if_pos rfl,JW T.rise h3]
     dsimp only
     rw[hesi]
     dsimp only[ent]
     refine ε (wpAny_isSame_ref_self ?_)
     rw[if_pos rfl]
     refine ε (ο ?_)
     dsimp only
     rw[if_neg Ψ]
     refine JP S T hu hx hke hemp hliv hin hout fuel (k+1) _ rfl (by lia) (by lia) fun k' i' p' hk' hpl hp'=>?_
     by_cases hkn:k' < n
     ·exact hprev k' i' p' hkn hpl hp'
     ·by_cases hkk:k'=k
      ·subst hkk
       have e1:=below_at T.rise h3
       have e2:=below_at T.rise hpl
       have:i'=i:=by lia
       subst this
       rw[hp] at hp'
       cases hp'
       exact heq
      ·intro he
       exact h5 k' i' (by lia) (by lia) hpl (by rw[hal i' p' hp',he])
   by_cases hled:t.led=true
   ·rw[hled]
    rw[if_neg (by decide)]
    exact go
   ·have hled':t.led=false:=by simpa using hled
    rw[hled']
    rw[if_pos (by decide)]
    refine ε (Sg hx _ (fun v hv=>?_) ?_)
    ·obtain⟨e0,he0,rfl⟩:=aQ.mp hv
     have he1:e0∈es.toList:=by
      have:=ee.mp he0
      exact ee.mpr (Array.mem_filter.mp this).1
     rw[S.ents] at he1
     obtain⟨p0,hp0,rfl⟩:=aQ.mp he1
     exact⟨p0.1,p0.2,rfl,S.keys p0 hp0⟩
    ·rw[if_neg Ψ]
     exact go
end
end ff
namespace ff
open PySem mI
section
variable {prog:Ω} {w:aw} {A:aF} {E:δ->η->Prop} {s:η}
def kN(prog:Ω)(w:aw)(h:au)(a:ζ)(xs:List (List Int×ζ)):Prop:=
 ∃o es ep t,lT prog w h a o es ep t xs/\Tab t (es.toList.map (·.1))
theorem As{h h':au}{a y:ζ}{ks:List Int}{o:aW}{es:Array (Int×δ)}{ep:Nat}{t:bG}(ho:h.get? a=some o)(hd:o.data=.set es ep t)(sb:fW a h h')(hy:gQ prog w h ks y):gQ prog w h' ks y:=by
 obtain⟨oy,items,n,hoy,hc,hdy,hi⟩:=hy;have ne:y≠a:=by
  intro e;subst e;rw[ho] at hoy;cases hoy;rw[hd] at hdy;cases hdy
 exact⟨oy,items,n,(sb.2 y ne).trans hoy,hc,hdy,hi⟩
theorem Je{h:au}{a:ζ}{o:aW}{es es':Array (Int×δ)}{ep:Nat}{t t':bG}(ho:h.get? a=some o)(hd:o.data=.set es ep t):
  (h.update a (om es' t')).get? a=some { o with data:=.set es' (ep+1) t' }:=by
 have q:=cq (om es' t') ho (by rw[putSet_of es' t' hd];rfl);rw[putSet_of es' t' hd] at q;exact q
theorem SY:∀n,n<8->5≤n->gY (fG n)=32:=by decide +kernel
theorem SX:∀n,n<32->19≤n->gY (fG n)=128:=by decide +kernel
theorem SW:∀n,n<128->77≤n->gY (fG n)=512:=by decide +kernel
theorem SV:∀n,n<512->307≤n->gY (fG n)=2048:=by decide +kernel
theorem SU{t:bG}{hs:List Int}(T:tQ t hs)(hf:t.tooFull=true)(h64:hs.length≤1200):∃m,gY (fG hs.length)=m+1/\iM m/\hs.length*5<m*3/\m+1≤2048:=by
 have hfill:t.fill=hs.length:=by
  unfold bG.fill;rw[T.size,T.n9];rfl
 have h':hs.length*5≥t.mask*3:=by
  unfold bG.tooFull at hf;rw[hfill] at hf;simpa using hf
 have hfit:=T.K4;rcases T.mask with e|e|e|e|e
 ·rw[e] at h' hfit;exact⟨31,SY _ (by lia) (by lia),.inr (.inl rfl),by lia,by lia⟩
 ·rw[e] at h' hfit;exact⟨127,SX _ (by lia) (by lia),.inr (.inr (.inl rfl)),by lia,by lia⟩
 ·rw[e] at h' hfit;exact⟨511,SW _ (by lia) (by lia),.inr (.inr (.inr (.inl rfl))),by lia,by lia⟩
 ·rw[e] at h' hfit;exact⟨2047,SV _ (by lia) (by lia),.inr (.inr (.inr (.inr rfl))),by lia,by lia⟩
 ·rw[e] at h';lia
theorem SR{α β:Type}(f:α->β)(l:List α)(o:List Nat):(o.filterMap fun k=>(l.map f)[k]?)=(o.filterMap fun k=>l[k]?).map f:=by
 rw[t8];congr 1;funext k;rw[aT]
theorem SQ{a:ζ}{o:aW}{es:Array (Int×δ)}{ep:Nat}{t:bG}{xs:List (List Int×ζ)}(S:lT prog w s.heap a o es ep t xs)(T:tQ t (es.toList.map (·.1)))(hf:t.tooFull=true)(h64:es.size≤1200)
  {Q:Unit->η->Prop} (h:∀h' xs',fW a s.heap h'->kN prog w h' a xs'->xs'.Perm xs->Q () { s with heap:=h' }):
  ρ (model prog w) A (setRelay a (fG es.size)) Q E s:=by
 have fz:(es.toList.map (·.1)).length=es.size:=yc
 obtain⟨m,hm1,hm2,hm3,hm4⟩:=SU T hf (by rw[fz];exact h64)
 rw[fz] at hm1 hm3
 unfold setRelay
 refine ε (cY S.at_ S.dat (uX T) ?_)
 dsimp only
 rw[hm1,if_neg (by rw[cu];lia)]
 obtain⟨t2,order,e2,em,el,ep2,ef,hperm,T2⟩:=Sj (finger:=t.finger) (moves:=t.movedTo m) (led:=t.led) (plain:=t.plain) hm2 (es.map (·.1)) (by simpa using hm3)
 have erel:t.relaid (es.map (·.1)) (fG es.size)=some (t2,order):=by
  unfold bG.relaid
  rw[hm1,Nat.add_sub_cancel]
  exact e2
 have hosz:(es.map (·.1)).size=es.size:=by simp
 rw[hosz] at hperm
 have hes2:(order.filterMap (es[·]?)).toList=(order.toList.filterMap fun k=>xs[k]?).map (ent prog w):=by
  rw[qk,←SR,←S.ents]
  congr 1
  funext k
  rw[af]
 have hxl:xs.length=es.size:=by
  have:=congrArg hU S.ents
  simpa using this.symm
 have hxp:(order.toList.filterMap fun k=>xs[k]?).Perm xs:=by
  have:=hperm.filterMap fun k=>xs[k]?
  rw[←hxl,Dx] at this
  exact this
 have hsz2:(order.filterMap (es[·]?)).size=es.size:=by
  have:=congrArg hU hes2
  simp only[π] at this
  rw[hxp.length_eq,hxl] at this
  rw[←aN]
  exact this
 refine ε ?_
 show ρ _ _ (do
  let some (t,order):=t.relaid (es.map (·.1)) (fG es.size)|unsupported "internal:set-table-without-room"
  let es':=order.filterMap (es[·]?)
  if es'.size != es.size then unsupported "internal:set-table-lost-an-element"
  pure (es',t)) _ _ _
 rw[erel]
 dsimp only
 rw[hsz2,if_neg (by simp)]
 refine ο ?_
 dsimp only
 refine wpAny_storeSet_of S.at_ S.dat ?_ (by rw[hsz2,cu];lia)
 have sb:=dA s.heap a (om (order.filterMap (es[·]?)) t2)
 refine h _ _ sb ⟨_,_,_,_,⟨Je S.at_ S.dat,⟨S.ex.1,S.ex.2.1,S.ex.2.2⟩,rfl,hes2,fun p hp=>As S.at_ S.dat sb (S.keys p (hxp.mem_iff.mp hp)),?_,ep2.trans S.plain,el.trans S.led⟩,?_⟩ hxp
 ·exact (hxp.map _).nodup_iff.mpr S.nd
 ·have eT:(order.filterMap (es[·]?)).toList.map (·.1)=order.toList.filterMap fun k=>(es.map (·.1))[k]?:=by
   rw[qk,t8]
   congr 1
   funext k
   simp
  rw[eT]
  exact T2
theorem SO{a:ζ}{xs:List (List Int×ζ)}(S:kN prog w s.heap a xs)(h64:xs.length<1200)(hu:A.units<cLine){ks:List Int}{x:ζ}(hx:gQ prog w s.heap ks x)
  {Q:Bool->η->Prop} (h:∀b h' tk xs',s.toks≤tk->fW a s.heap h'->kN prog w h' a xs'->(ks∈xs.map (·.1)->xs'.Perm xs)->(ks∉xs.map (·.1)->xs'.Perm ((ks,x)::xs))->Q b { s with heap:=h',toks:=tk }):
  ρ (model prog w) A (setAdd a (.ref x)) Q E s:=by
 obtain⟨o,es,ep,t,S,T⟩:=S;have hxl:xs.length=es.size:=by
  have:=congrArg hU S.ents;simpa using this.symm
 unfold setAdd;refine bT (ε (wpAny_pyHash_tuple hu hx ?_));unfold setAddHashed;refine bT ?_;have kY:∀b h' xs',fW a s.heap h'->kN prog w h' a xs'->(ks∈xs.map (·.1)->xs'.Perm xs)->(ks∉xs.map (·.1)->xs'.Perm ((ks,x)::xs))->Q b { s with heap:=h',toks:=s.toks+(ks.length+1)}:=
  fun b h' xs' q1 q2 q3 q4=>h b h' _ xs' (Nat.le_add_right _ _) q1 q2 q3 q4
 obtain⟨ke,hke,hemp,hliv⟩:=Sn T (hk prog w ks);unfold setAddHashedIn;refine ε (cY (s:={ s with toks:=s.toks+(ks.length+1)}) S.at_ S.dat (uX (Tab.r T)) ?_);dsimp only;rw[show byScan (.ref x) es=false from rfl,if_neg Ψ];refine ε ?_;unfold setSearch;refine JP (s:={ s with toks:=s.toks+(ks.length+1)}) S T hu hx hke hemp hliv (fun hin=>?_) (fun hout=>?_) 100000 0 none rfl (aG _) (by rcases T.mask with e|e|e|e|e<;>rw[e] at hke<;>lia) fun k' i' p hk'=>absurd hk' (Nat.not_lt_zero _)
 ·dsimp only;exact ο (kY false s.heap xs (.refl _ _) ⟨o,es,ep,t,S,T⟩ (fun _=>.refl _) fun z=>absurd hin z)
 ·dsimp only;refine ε (cY (s:={ s with toks:=s.toks+(ks.length+1)}) S.at_ S.dat (uX (Tab.r T)) ?_);dsimp only;rw[Sl T.n9];dsimp only;rw[S.plain,if_pos rfl];refine ε (Sf (s:={ s with toks:=s.toks+(ks.length+1)}) hx ?_);rw[if_pos rfl];have TR:=T.put hemp hliv;generalize hp:iw t.place (sq t.mask (hk prog w ks) ke).j=p at TR ⊢;have hes1:(bQ es p (hk prog w ks,bo x)).toList=(xs.take p++(ks,x)::xs.drop p).map (ent prog w):=by
   rw[uY,S.ents,eG,du,su,sv];rfl
  have hhs:(bQ es p (hk prog w ks,bo x)).toList.map (·.1)=(es.toList.map (·.1)).take p++hk prog w ks::(es.toList.map (·.1)).drop p:=by
   rw[uY,eG,du,su,sv]
  have hsz1:(bQ es p (hk prog w ks,bo x)).size=es.size+1:=by
   rw[←aN,uY,(wF p es.toList _).length_eq,aE,aN]
  rw[←hhs] at TR;refine ε (wpAny_storeSet_of (s:={ s with toks:=s.toks+(ks.length+1)}) S.at_ S.dat ?_ (by rw[hsz1,cu];lia));have sb:=dA s.heap a (om (bQ es p (hk prog w ks,bo x)) { t with place:=bQ t.place p (sq t.mask (hk prog w ks) ke).j,dummies:=#[],plain:=true });have hpx:(xs.take p++(ks,x)::xs.drop p).Perm ((ks,x)::xs):=wF p xs _;have S1:lT prog w (s.heap.update a (om (bQ es p (hk prog w ks,bo x)) { t with place:=bQ t.place p (sq t.mask (hk prog w ks) ke).j,dummies:=#[],plain:=true })) a { o with data:=.set (bQ es p (hk prog w ks,bo x)) (ep+1) { t with place:=bQ t.place p (sq t.mask (hk prog w ks) ke).j,dummies:=#[],plain:=true }} (bQ es p (hk prog w ks,bo x)) (ep+1)
    { t with place:=bQ t.place p (sq t.mask (hk prog w ks) ke).j,dummies:=#[],plain:=true } (xs.take p++(ks,x)::xs.drop p):=by
   refine⟨Je S.at_ S.dat,⟨S.ex.1,S.ex.2.1,S.ex.2.2⟩,rfl,hes1,fun q hq=>?_,?_,rfl,S.led⟩
   ·rcases ak.mp (hpx.mem_iff.mp hq) with e|e
    ·rw[e];exact As S.at_ S.dat sb hx
    ·exact As S.at_ S.dat sb (S.keys q e)
   ·refine (hpx.map _).nodup_iff.mpr ?_;rw[du,fi];exact⟨hout,S.nd⟩
  have TR':tQ { t with place:=bQ t.place p (sq t.mask (hk prog w ks) ke).j,dummies:=#[],plain:=true } ((bQ es p (hk prog w ks,bo x)).toList.map (·.1)):=
   ⟨TR.mask,TR.size,TR.rise,TR.bound,TR.n9,TR.K4,TR.reach⟩
  by_cases hfull:({ t with place:=bQ t.place p (sq t.mask (hk prog w ks) ke).j,dummies:=#[],plain:=true }:bG).tooFull=true
  ·rw[hfull,if_pos (by decide)];refine ε ?_;rw[←hsz1];refine SQ (s:={ s with heap:=s.heap.update a _,toks:=s.toks+(ks.length+1)}) S1 TR' hfull (by rw[hsz1];lia) fun h' xs' sb' S2 pm=>?_;exact ο (kY true h' xs' (sb.trans sb') S2 (fun z=>absurd z hout) fun _=>pm.trans hpx)
  ·have hfull':({ t with place:=bQ t.place p (sq t.mask (hk prog w ks) ke).j,dummies:=#[],plain:=true }:bG).tooFull=false:=by simpa using hfull
   rw[hfull',if_neg (by decide)];exact ο (kY true _ _ sb ⟨_,_,_,_,S1,TR'.tab hfull'⟩ (fun z=>absurd z hout) fun _=>hpx)
end
end ff
namespace ff
open PySem mI
theorem gT:Slot "set_iterator" "__next__" "set_iterator.__next__":=
 .of (owner:="set_iterator") (n:="__next__")
  (by rw[typeLookup_type,builtinLookup_eq_fast];kernel_rfl)
  (by decide +kernel) (by decide +kernel) (by decide +kernel)
  (by first|exact .inl (by decide +kernel)|exact .inr (by decide +kernel))
  (by rw[qI];kernel_rfl)
theorem Jd:Slot "set_iterator" "__iter__" "set_iterator.__iter__":=
 .of (owner:="set_iterator") (n:="__iter__")
  (by rw[typeLookup_type,builtinLookup_eq_fast];kernel_rfl)
  (by decide +kernel) (by decide +kernel) (by decide +kernel)
  (by first|exact .inl (by decide +kernel)|exact .inr (by decide +kernel))
  (by rw[qI];kernel_rfl)
theorem Jc:entryFor table "set_iterator.__next__" = some dI.«set_iterator.__next__»:=entryFor_of_tree (by kernel_rfl)
theorem SN:entryFor table "set.__iter__" = some dI.«frozenset.__iter__»:=
 entryFor_alias (id':="frozenset.__iter__") (by rw[fastTable_eq_tree];kernel_rfl) (by decide +kernel) (by decide +kernel) (by rw[fastTable_eq_tree];kernel_rfl)
theorem Jb:Manifest.owners.lookup (String.ofList ['r','o','t','a','r','e','t','i','_','t','e','s'].reverse)=some Manifest.sig_set_iterator:=by kernel_rfl
theorem Ja(a:δ):argsOk "set_iterator.__next__" ⟨[a],[]⟩:=by
 unfold argsOk;rw[signature?_of (id:="set_iterator.__next__") (n:=['_','_','t','x','e','n','_','_']) (o:=['r','o','t','a','r','e','t','i','_','t','e','s']) (by kernel_rfl) Jb]
 kernel_rfl
theorem IZ{α:Type}(next:Nat->Nat):∀(fuel k:Nat) (left:List α) (out:Array α),left.length≤fuel->(pickOrder.go next fuel k left out).toList.Perm (out.toList++left)
 |0,k,left,out,h=>by
  have:left=[]:=pK.mp (by lia);subst this;show out.toList.Perm (out.toList++[]);rw[bF]
 |fuel+1,k,left,out,h=>by
  unfold pickOrder.go;cases hl:left[next k%left.length]? with
  |none=>
   have:left=[]:=by
    cases left with
    |nil=>rfl
    |cons a l=>
     have:=ka (next k) (show 0<(a::l).length by simp)
     rw[az this] at hl;cases hl
   subst this;show out.toList.Perm (out.toList++[]);rw[bF]
  |some x=>
   have hlt:=(ax.mp hl).1;have ih:=IZ next fuel (k+1) (left.eraseIdx (next k%left.length)) (out.push x) (by rw[List.length_eraseIdx];split<;>lia)
   refine ih.trans ?_;rw[n6,aq];refine cp _ ?_;obtain⟨_,e⟩:=ax.mp hl;rw[←e,lB];have q:=pD (a:=left[next k%left.length]) (l₁:=left.take (next k%left.length)) (l₂:=left.drop (next k%left.length+1))
   rw[qj,bY] at q;exact q.symm
theorem SK{α:Type}(next:Nat->Nat)(xs:Array α):(pickOrder next xs).toList.Perm xs.toList:=by
 have:=IZ next xs.size 0 xs.toList #[] (by simp)
 unfold pickOrder;simpa using this
def jR(w:aw):Bool:=w.params.followText "set-order"
def iG(w:aw)(a:ζ)(ep:Nat)(es:Array (Int×δ)):List (Int×δ):=if jR w then (pickOrder (w.params.setOrder a ep) es).toList else es.toList
theorem lD(w:aw)(a:ζ)(ep:Nat)(es:Array (Int×δ)):(iG w a ep es).Perm es.toList:=by
 unfold iG;split
 ·exact SK _ _
 ·exact .refl _
def mU(h:au)(it a:ζ)(slot i n ep:Nat):Prop:=h.get? it=some { cls:=.type "set_iterator",data:=.fields #[rawInt slot,rawInt i,.ref a,rawInt n,rawInt ep]}
def qx(w:aw)(t:bG)(slot i:Nat):Prop:=jR w=true∨iw t.place slot=i
section
variable {prog:Ω} {w:aw} {A:aF} {E:δ->η->Prop} {s:η}
theorem Dv{Q:Bool->η->Prop}(h:Q (jR w) s):ρ (model prog w) A setsByText Q E s:=by
 unfold setsByText;exact ε (pg (ο h))
theorem RX{a:ζ}{o:aW}{es:Array (Int×δ)}{ep:Nat}{t:bG}(S:lS w s.heap a o es ep t)(T:Tab t (es.toList.map (·.1)))
  {Q:δ->η->Prop} (h:Q (.ref s.heap.objs.size) { s with heap:=s.heap.push { cls:=.type "set_iterator",data:=.fields #[rawInt (0:Nat),rawInt (0:Nat),.ref a,rawInt es.size,rawInt ep]}}):
  ρ (model prog w) A (pyIter (.ref a)) Q E s:=by
 have hT:s.TypeIs (.ref a) "set":=⟨o,S.at_,S.ex.1⟩;have hfit:=uX (Tab.r T);refine wpAny_pyIter_slot hT F.slot_set_iter (dN F.slot_set_iter hT SN ?_ (F.args_set_iter_1 _));unfold dI.«frozenset.__iter__»;show ρ _ _ (pL "__iter__" ⟨[.ref a],[]⟩ >>= _) _ _ s;refine ε (m:=pL "__iter__" ⟨[.ref a],[]⟩) (qi (a:=a) rfl ?_);unfold dI.Frozenset.sizeOf setEntries;refine ε (ε (ε (cY S.at_ S.dat hfit (ο (ο ?_)))));unfold setDrawn;refine ε (ε (cY S.at_ S.dat hfit ?_));refine ε (Dv (ο ?_));have hnd:(!jR w&&(!t.plain&&decide (es.size > 1)))=false:=by rw[S.plain];simp
 show ρ _ _ (if (!jR w&&(!t.plain&&decide (es.size > 1)))=true then _ else _) _ _ s;rw[hnd,if_neg Ψ];refine ε (ο ?_);refine ε (wpAny_setEpoch_of S.at_ S.dat hfit ?_);refine ε ?_;unfold newFields;refine cZ ?_;refine ο ⟨_,rfl,"set_iterator",_,⟨_,aM _ rfl,rfl⟩,gT.lookup,h⟩
theorem IY{a:ζ}{o:aW}{es:Array (Int×δ)}{ep:Nat}{t:bG}(S:lS w s.heap a o es ep t)(T:Tab t (es.toList.map (·.1))){slot i:Nat}(hsl:qx w t slot i)
  {Q:Option (δ×Nat)->η->Prop} (h1:∀p slot',(iG w a ep es)[i]?=some p->qx w t slot' (i+1)->Q (some (p.2,slot')) s) (h2:(iG w a ep es)[i]?=none->Q none s):
  ρ (model prog w) A (setNext a slot i ep) Q E s:=by
 have hfit:=uX (Tab.r T);have fz:t.place.size=es.size:=by
  have:=T.size;rw[yc] at this;exact this
 unfold setNext;refine ε (cY S.at_ S.dat hfit ?_);dsimp only;refine ε (Dv ?_);unfold iG at h1 h2;cases hbt:jR w with
 |true=>
  rw[hbt] at h1 h2;rw[if_pos rfl];simp only[if_true,af] at h1 h2;rw[if_neg (by simp)];unfold setWalk;refine ε (ε (cY S.at_ S.dat hfit ?_));dsimp only;refine ε (Dv ?_);rw[hbt,if_pos rfl];refine ε (pg (ο ?_));refine ο ?_;show Q (r9 (fun e=>(e.snd,slot)) (pickOrder (w.params.setOrder a ep) es)[i]?) s;cases hp:(pickOrder (w.params.setOrder a ep) es)[i]? with
  |none=>exact h2 hp
  |some p=>exact h1 p slot hp (.inl hbt)
 |false=>
  rw[hbt] at h1 h2;rw[if_neg Ψ];simp only[g6,if_false,af] at h1 h2;have hled:t.led=true:=by
   rw[S.led];show (!jR w)=true;rw[hbt];rfl
  have hb:iw t.place slot=i:=by
   rcases hsl with z|z
   ·rw[hbt] at z;cases z
   ·exact z
  have hnd:(!t.plain&&decide (es.size > 1))=false:=by rw[S.plain];simp
  show ρ _ _ (if (!t.plain&&decide (es.size > 1))=true then _ else _) _ _ s;rw[hnd,if_neg Ψ];refine ε ?_;show ρ _ _ (if (!t.led && !es.isEmpty)=true then _ else _) _ _ s;rw[hled,if_neg (by simp)];refine ο ?_;rw[hb];cases hp:es[i]? with
  |none=>
   refine ο ?_;have hpl:t.place[i]?=none:=by
    have:=i8.mp hp;exact i8.mpr (by lia)
   exact h2 hp
  |some p=>
   have hil:=(aH.mp hp).1;have hj:t.place[i]?=some (t.place[i]'(by lia)):=by simp[fz,hil]
   rw[hj];obtain⟨ph,pv⟩:=p;refine ο (h1 (ph,pv) _ hp (.inr ?_))
   -- the next place
   obtain⟨b0,b1,b2⟩:=Au (j:=t.place[i]'(by lia)+1) T.rise;refine bh fun b7=>?_;by_cases hlt:iw t.place (t.place[i]'(by lia)+1)≤i
   ·have:=b2 i _ hlt hj;lia
   ·have hgt:i+1<iw t.place (t.place[i]'(by lia)+1):=by lia
    have zv:i+1<t.place.size:=by lia
    have e1:t.place[i+1]?=some (t.place[i+1]):=by simp[zv]
    have q:=b1 (i+1) _ hgt e1;have pw:=eZ.mp T.rise i (i+1) (by simp;lia) (by simpa using zv) (iS i);simp at pw;lia
theorem Du{it a:ζ}{slot i n ep:Nat}(hit:mU s.heap it a slot i n ep):s.TypeIs (.ref it) "set_iterator":=⟨_,hit,rfl⟩
theorem IX{a it:ζ}{o:aW}{es:Array (Int×δ)}{ep:Nat}{t:bG}(S:lS w s.heap a o es ep t)(T:Tab t (es.toList.map (·.1))){slot i:Nat}(hit:mU s.heap it a slot i es.size ep)
  {P:tW->η->Prop} (h:ρ (model prog w) A (do
   match ←setNext a slot i ep with
   |some (x,next)=>
    setField (.ref it) 0 (rawInt next)
    setField (.ref it) 1 (rawInt ((i:Int)+1))
    ret x
   | none=>setField (.ref it) 2 .none;raiseNew (←newExc (.type "StopIteration") [])) P E s):
  ρ (model prog w) A (dI.«set_iterator.__next__» ⟨[.ref it],[]⟩) P E s:=by
 have hfit:=uX (Tab.r T);unfold dI.«set_iterator.__next__»;refine ε (m:=slotArgs "__next__" 0 ⟨[.ref it],[]⟩) (qi (a:=(.ref it,[])) rfl ?_);refine ε (wpAny_fieldsOf hit rfl ?_);dsimp only[rawInt];unfold setEntries;refine ε (ε (cY S.at_ S.dat hfit (ο ?_)));rw[if_neg (by simp)];exact h
theorem RW{a it:ζ}{o:aW}{es:Array (Int×δ)}{ep:Nat}{t:bG}(S:lS w s.heap a o es ep t)(T:Tab t (es.toList.map (·.1))){slot i:Nat}(hsl:qx w t slot i)(hit:mU s.heap it a slot i es.size ep)
  {p:Int×δ} (hp:(iG w a ep es)[i]?=some p) {Q:Option δ->η->Prop}
  (h:∀h' slot',mU h' it a slot' (i+1) es.size ep->qx w t slot' (i+1)->fW it s.heap h'->Q (some p.2) { s with heap:=h' }):ρ (model prog w) A (pyNext (.ref it)) Q E s:=by
 have hT:=Du hit;unfold pyNext;refine ε (kQ (gR (name:=pk "__next__") hT gT
  (dN gT hT Jc (IX S T hit (ε (IY S T hsl (fun q slot' hq hs'=>?_) fun hn=>?_))) (Ja _))))
 ·rw[hp] at hq;cases hq;dsimp only;refine ε (mY hit (by simp) fun h1 e1 sb1=>?_);refine ε (mY (s:={ s with heap:=h1 }) e1 (by simp) fun h2 e2 sb2=>?_)
  refine ο ⟨_,rfl,ο (h h2 slot' ?_ hs' (sb1.trans sb2))⟩;unfold mU;rw[e2];rfl
 ·rw[hp] at hn;cases hn
theorem RV{a it:ζ}{o:aW}{es:Array (Int×δ)}{ep:Nat}{t:bG}(hh:A.handled=none)(S:lS w s.heap a o es ep t)(T:Tab t (es.toList.map (·.1))){slot i:Nat}(hsl:qx w t slot i)(hit:mU s.heap it a slot i es.size ep)
  (hp:(iG w a ep es)[i]?=none) {Q:Option δ->η->Prop}
  (h:∀h',au.ExtBut it s.heap h'->Q none { s with heap:=h' }):ρ (model prog w) A (pyNext (.ref it)) Q E s:=by
 have hT:=Du hit;unfold pyNext;refine ε (kQ (gR (name:=pk "__next__") hT gT
  (dN gT hT Jc (IX S T hit (ε (IY S T hsl (fun q slot' hq hs'=>?_) fun hn=>?_))) (Ja _))))
 ·rw[hp] at hq;cases hq
 ·dsimp only;refine ε (mY hit (by simp) fun h1 e1 sb1=>?_);refine ε ?_;simp only[newExc,newTuple];refine ε (cZ ?_ (by size_fits));refine ε (m:=firstArgMember _ _) (qi (a:=bz) (by first|rfl|(simp only[firstArgMember];rfl)) ?_)
  refine cZ ?_ (by size_fits);simp only[raiseNew];refine ε (wpAny_handled ?_);rw[show A.in1.handled=none from hh];refine ε (ο (wpAny_throw ?_));refine ε (wpAny_isInstance (T:="StopIteration") (b:=true) ⟨_,aM _ rfl,rfl⟩ isSubtype_stop ?_);refine ο (h _ fun b ob hb e=>?_);exact μ _ (μ _ ((sb1.2 b hb).trans e))
end
end ff
namespace ff
open PySem mI
section
variable {prog:Ω} {w:aw} {A:aF} {E:δ->η->Prop} {s:η}
theorem lT.kept{h h':au}{a:ζ}{o:aW}{es:Array (Int×δ)}{ep:Nat}{t:bG}{xs:List (List Int×ζ)}(S:lT prog w h a o es ep t xs)
  (k:∀b∈a::xs.map (·.2),∀ob,h.get? b=some ob->h'.get? b=some ob):lT prog w h' a o es ep t xs:=by
 refine⟨k a aj _ S.at_,S.ex,S.dat,S.ents,fun p hp=>?_,S.nd,S.plain,S.led⟩;obtain⟨oy,items,n,ho,r⟩:=S.keys p hp;exact⟨oy,items,n,k _ (ai _ (aQ.mpr ⟨p,hp,rfl⟩)) _ ho,r⟩
theorem lS.kept{h h':au}{a:ζ}{o:aW}{es:Array (Int×δ)}{ep:Nat}{t:bG}(S:lS w h a o es ep t)
  (k:∀b∈[a],∀ob,h.get? b=some ob->h'.get? b=some ob):lS w h' a o es ep t:=⟨k a aj _ S.at_,S.ex,S.dat,S.plain,S.led⟩
theorem lS.KL{h:au}{a it:ζ}{o:aW}{es:Array (Int×δ)}{ep ep':Nat}{t:bG}{slot i n:Nat}{b:ζ}(S:lS w h a o es ep t)(hit:mU h it b slot i n ep'):
  ∀c∈[a],c≠it:=fun c hc e=>by
 subst e;unfold mU at hit;rw[aL.mp hc,S.at_] at hit;cases hit;have:=S.dat;cases this
theorem RU(hh:A.handled=none){a it:ζ}{o:aW}{es:Array (Int×δ)}{ep:Nat}{t:bG}(T:Tab t (es.toList.map (·.1))):
  Walks prog w A it ([it,a]) [it] es.size (fun i v=>∃p,(iG w a ep es)[i]?=some p/\v=p.2)
   (fun i h=>∃slot,mU h it a slot i es.size ep/\qx w t slot i/\lS w h a o es ep t) where
 sub:=fun b hb=>by
  have:b=it:=by simpa using hb
  simp[this]
 frame:=fun i h h' ⟨slot,h1,h2,h3⟩ k=>⟨slot,k it aj _ h1,h2,h3.kept fun b hb ob e=>k b (ai _ hb) ob e⟩
 item:=fun i s Q E hi ⟨slot,h1,h2,h3⟩ hQ=>by
  have hlen:(iG w a ep es).length=es.size:=by rw[(lD w a ep es).length_eq];simp
  have hp:(iG w a ep es)[i]?=some ((iG w a ep es)[i]'(by lia)):=az (by lia);refine RW h3 T h2 h1 hp fun h' slot' q1 q2 sb=>?_;refine hQ _ h' s.toks ⟨_,hp,rfl⟩ ⟨slot',q1,q2,h3.kept fun b hb ob e=>(sb.2 b (h3.KL h1 b hb)).trans e⟩ fun b ob hb e=>?_;exact (sb.2 b (by simpa using hb)).trans e
 done:=fun s Q E ⟨slot,h1,h2,h3⟩ hQ=>by
  have hlen:(iG w a ep es).length=es.size:=by rw[(lD w a ep es).length_eq];simp
  refine RV hh h3 T h2 h1 (dD.mpr (by lia)) fun h' q=>?_;exact hQ h' s.toks fun b ob hb e=>q b ob (by simpa using hb) e
 self:=fun i s Q E ⟨slot,h1,h2,h3⟩ h=>by
  have hT:=Du h1;refine wpAny_pyIter_slot hT Jd (dN Jd hT (b:=dI.«dict_keyiterator.__iter__») ?_ ?_ ?_)
  ·exact entryFor_alias (id':="dict_keyiterator.__iter__") (by kernel_rfl) (by decide +kernel) (by decide +kernel) (by kernel_rfl)
  ·show ρ _ _ (ret (.ref it)) _ _ s;exact ο ⟨_,rfl,"set_iterator",_,hT,gT.lookup,h⟩
  ·unfold argsOk;rw[signature?_of (id:="set_iterator.__iter__") (n:=['_','_','r','e','t','i','_','_']) (o:=['r','o','t','a','r','e','t','i','_','t','e','s']) (by kernel_rfl) Jb]
   kernel_rfl
theorem ql(hh:A.handled=none){a:ζ}{o:aW}{es:Array (Int×δ)}{ep:Nat}{t:bG}(S:lS w s.heap a o es ep t)(T:Tab t (es.toList.map (·.1)))(h64:es.size≤1200)
  {Q:List δ->η->Prop} (h:∀s',pX [] (fun x y=>y=x) s s'->Q ((iG w a ep es).map (·.2)) s'):ρ (model prog w) A (collect (.ref a)) Q E s:=by
 have hT:s.TypeIs (.ref a) "set":=⟨o,S.at_,S.ex.1⟩;have hal:a<s.heap.objs.size:=aa S.at_;unfold collect;refine ε (qG (gd F.entry_proto_collect ?_));rw[gA F.plain_proto_collect _];show ρ _ A.in1 (newList [] >>= fun q=>again (.builtin "list.__iadd__" ⟨[q,.ref a],[]⟩)) _ _ s;refine ε (cZ ?_);refine ο ⟨nI F.plain_list_iadd _,gd F.entry_list_iadd ?_⟩;rw[gA F.plain_list_iadd _];show ρ _ A.in1 (nh (.ref s.heap.objs.size) (.ref a) (.ref s.heap.objs.size)) _ _ _;unfold nh;have S1:lS w (s.heap.push { cls:=.type "list",data:=.seq ([]:List δ).toArray }) a o es ep t:=S.kept fun b _ ob e=>μ _ e;have hT1:nJ { s with heap:=s.heap.push { cls:=.type "list",data:=.seq ([]:List δ).toArray }} (.ref a) "set":=⟨o,S1.at_,S.ex.1⟩;refine ε (jU hT1 ?_);have ne:s.heap.objs.size≠a:=ix hal;have e1:pI (.ref s.heap.objs.size) (.ref a)=false:=by simp[pI,ne]
 rw[if_neg (by rw[e1];decide)];refine ε (RX (s:={ s with heap:=s.heap.push { cls:=.type "list",data:=.seq ([]:List δ).toArray }}) S1 T ?_);have S2:=S1.kept (h':=(s.heap.push { cls:=.type "list",data:=.seq ([]:List δ).toArray }).push { cls:=.type "set_iterator",data:=.fields #[rawInt (0:Nat),rawInt (0:Nat),.ref a,rawInt es.size,rawInt ep]}) fun b _ ob e=>μ _ e;have hit:mU ((s.heap.push { cls:=.type "list",data:=.seq ([]:List δ).toArray }).push { cls:=.type "set_iterator",data:=.fields #[rawInt (0:Nat),rawInt (0:Nat),.ref a,rawInt es.size,rawInt ep]})
   (s.heap.push { cls:=.type "list",data:=.seq ([]:List δ).toArray }).objs.size a 0 0 es.size ep:=aM _ rfl
 have hS0:((s.heap.push { cls:=.type "list",data:=.seq ([]:List δ).toArray }).push { cls:=.type "set_iterator",data:=.fields #[rawInt (0:Nat),rawInt (0:Nat),.ref a,rawInt es.size,rawInt ep]}).get? s.heap.objs.size
   = some { cls:=.type "list",data:=.seq ([]:List δ).toArray }:=μ _ (aM _ rfl)
 have keep0:∀b ob,s.heap.get? b=some ob->((s.heap.push { cls:=.type "list",data:=.seq ([]:List δ).toArray }).push { cls:=.type "set_iterator",data:=.fields #[rawInt (0:Nat),rawInt (0:Nat),.ref a,rawInt es.size,rawInt ep]}).get? b=some ob:=
  fun b ob e=>μ _ (μ _ e)
 have hI:(s.heap.push { cls:=.type "list",data:=.seq ([]:List δ).toArray }).objs.size=s.heap.objs.size+1:=iz ..;generalize (s.heap.push { cls:=.type "list",data:=.seq ([]:List δ).toArray }).objs.size=it at hI hit ⊢;generalize ((s.heap.push { cls:=.type "list",data:=.seq ([]:List δ).toArray }).push { cls:=.type "set_iterator",data:=.fields #[rawInt (0:Nat),rawInt (0:Nat),.ref a,rawInt es.size,rawInt ep]})=hp at S2 hit hS0 keep0 ⊢;refine ε (bT ?_);have hT2:nJ { s with heap:=hp } (.ref a) "set":=⟨o,S2.at_,S.ex.1⟩;unfold dI.List.listLengthHint;refine ε (wpAny_specialOf hT2 F.slot_set_len.lookup ?_);generalize oU:("set.__len__":String)=id0;dsimp only;rw[show splitId id0=some ("set","__len__") from by subst oU;decide +kernel];subst oU;dsimp only;refine ε (wpAny_isInstance (b:=true) hT2 (by rw[qI];kernel_rfl) ?_)
 rw[if_neg (by decide)];show ρ _ A.in1 (typeOf (.ref a) >>= _) _ _ _;refine ε (jU hT2 (ο ?_));show ρ _ A.in1 (rule "list.extend.makes-room" >>= fun _=>dI.List.listTouch (.ref s.heap.objs.size) >>= fun _=>again (.builtin "list.extend.loop" ⟨[.ref s.heap.objs.size,.ref it,.ref s.heap.objs.size],[]⟩)) _ _ _;refine ε (iN (ε ?_));show ρ _ A.in1 (updateSeq s.heap.objs.size (·.push .none) >>= fun _=>updateSeq s.heap.objs.size (·.pop)) _ _ _;refine ε (wpAny_updateSeq (s:={ s with heap:=hp }) hS0 rfl ?_);have q1:=cq (ba (·.push bz)) hS0 rfl;refine wpAny_updateSeq (s:={ s with heap:=hp.update s.heap.objs.size (ba (·.push bz))}) q1 rfl ?_;have q2:=cq (ba (·.pop)) q1 rfl;have oth:∀b ob,b≠s.heap.objs.size->hp.get? b=some ob->((hp.update s.heap.objs.size (ba (·.push bz))).update s.heap.objs.size (ba (·.pop))).get? b=some ob:=
  fun b ob hb e=>(bE _ _ (eV hb)).trans ((bE _ _ (eV hb)).trans e)
 have q3:∃c,((hp.update s.heap.objs.size (ba (·.push bz))).update s.heap.objs.size (ba (·.pop))).get? s.heap.objs.size=some { cls:=.type "list",dict:=none,data:=.seq #[] c,slots:=#[]}:=⟨_,q2⟩;clear q2;generalize (hp.update s.heap.objs.size (ba (·.push bz))).update s.heap.objs.size (ba (·.pop))=hp2 at q3 oth ⊢;obtain⟨c0,q2⟩:=q3;have hfp:∀b∈[it,a],b≠s.heap.objs.size:=fun b hb e=>by
  rcases ak.mp hb with z|z
  ·lia
  ·have hlt:b<s.heap.objs.size:=by
    rw[aL.mp z];exact hal
   lia
 have W:=(RU (prog:=prog) (w:=w) (A:=A.in1) (by simpa using hh) (it:=it) (a:=a) (o:=o) (ep:=ep) T).toS;refine ο ⟨nI F.plain_extend_loop _,codeAny_extend_loopS W (by rw[cu];lia) _ (fun hm=>hfp _ hm rfl) _ es.size 0 _ _ _ rfl (aG _) ?_ q2 (ItemsOf.nil _) fun s' acc' c' hm hS' hacc=>?_⟩
 ·refine⟨0,oth _ _ (hfp _ aj) hit,?_,S2.kept fun b hb ob e=>oth b ob (hfp b (ai _ hb)) e⟩;by_cases hb:jR w=true
  ·exact .inl hb
  ·refine .inr ?_;obtain⟨b0,b1,b2⟩:=Au (j:=0) T.rise;refine bh fun b7=>?_;have hpos:0<iw t.place 0:=by lia
   have h0:0<t.place.size:=by lia
   have:=b1 0 (t.place[0]) hpos (by simp[h0]);lia
 ·show ρ _ A (load s.heap.objs.size >>= _) _ _ s';refine ε (wpAny_load hS' ?_);refine ο ?_;have hlen:(iG w a ep es).length=es.size:=by rw[(lD w a ep es).length_eq];simp
  have eacc:acc'.toList=(iG w a ep es).map (·.2):=by
   refine kB fun i=>?_;rw[aT,af];cases ha:acc'[i]? with
   |none=>
    have h1:=i8.mp ha;rw[hacc.1] at h1;rw[dD.mpr (by lia)];rfl
   |some v=>
    obtain⟨p,e1,e2⟩:=hacc.2 i v ha;rw[e1,e2];rfl
  show Q acc'.toList s';rw[eacc];refine h s' ⟨fun b ob _ e=>?_,hm.gens,hm.drawn,hm.os,?_⟩
  ·have hlt:=aa e;refine hm.heap b ob ?_ (oth b ob (aZ hlt) (keep0 b ob e));intro z;rcases ak.mp z with z|z
   ·rw[z] at hlt;exact cw _ hlt
   ·have:b=it:=by simpa using z
    rw[this,hI] at hlt;exact cw _ (Nat.lt_of_succ_lt hlt)
  ·exact hm.toks
end
end ff
namespace ff
open PySem mI
section
variable {prog:Ω} {w:aw} {A:aF} {E:δ->η->Prop} {s:η}
def cU(w:aw):aW:={ cls:=.type "set",dict:=none,data:=.set #[] 0 (.fresh 0 0 (!(jR w)))}
theorem IW(a:δ){Q₁:δ->η->Prop}(h:Q₁ (.ref s.heap.objs.size) { s with heap:=s.heap.push (cU w)}):
  iu (model prog w) A (.call (.builtin "set.__new__") ⟨[.type "set",a],[]⟩) (wants Q₁ E) s:=by
 refine lW ?_;show ρ _ A.in1 (checkBuiltinCall "set.__new__" ⟨[.type "set",a],[]⟩ >>= fun _=>again (.builtin "set.__new__" ⟨[.type "set",a],[]⟩)) _ _ s;refine ε (qi (F.newCall_set_1 a) (ο ⟨nI F.plain_set_new _,gd F.entry_set_new ?_⟩));rw[gA F.plain_set_new _];unfold dI.«set.__new__» dI.Frozenset.newClass;have hsub:=sub_set_self;obtain⟨hp,g,d,tk,os⟩:=s;dsimp only;wp_walk;refine pg (ο ?_);dsimp only;simp only[newObj];refine ε (wpAny_alloc (ο ?_));exact ο h
theorem IV(led:Bool):Tab (bG.fresh 0 0 led) []:=
 ⟨.inl rfl,rfl,gm,(fun j hj=>(nomatch hj)),rfl,(by show 0*5<7*3;decide),(fun j h hj=>(nomatch hj))⟩
structure tU(ps xs:List (List Int×ζ)):Prop where
 sub:∀p∈xs,p∈ps
 all:∀p∈ps,p.1∈xs.map (·.1)
 len:xs.length≤ps.length
theorem tU.add{ps xs xs':List (List Int×ζ)}{p:List Int×ζ}(d:tU ps xs)(h1:p.1∈xs.map (·.1)->xs'.Perm xs)(h2:p.1∉xs.map (·.1)->xs'.Perm (p::xs)):tU (ps++[p]) xs':=by
 by_cases hm:p.1∈xs.map (·.1)
 ·have pm:=h1 hm;refine⟨fun q hq=>bf _ (d.sub q (pm.mem_iff.mp hq)),fun q hq=>?_,?_⟩
  ·rw[(pm.map _).mem_iff];rcases ag.mp hq with hq|hq
   ·exact d.all q hq
   ·have:q=p:=by simpa using hq
    rw[this];exact hm
  ·rw[pm.length_eq,ψ];have:=d.len;lia
 ·have pm:=h2 hm;refine⟨fun q hq=>?_,fun q hq=>?_,?_⟩
  ·rcases ak.mp (pm.mem_iff.mp hq) with e|e
   ·exact ay _ (by simp[e])
   ·exact bf _ (d.sub q e)
  ·rw[(pm.map _).mem_iff,du];rcases ag.mp hq with hq|hq
   ·exact ai _ (d.all q hq)
   ·have:q=p:=by simpa using hq
    rw[this];exact aj
  ·rw[pm.length_eq,ψ,aE,dH];have:=d.len;lia
theorem IU{I:ζ}{fp:List ζ}{n:Nat}{P:Nat->δ->Prop}{St:Nat->au->Prop}(W:Walks prog w A.in1 I fp [I] n P St)(S:ζ)(hSf:S∉fp)(ps:List (List Int×ζ))(hps:ps.length=n)(hn:n≤1100)
  (hu:A.in1.units<cLine) (hval:∀(i:Nat) v,P i v->∃p,ps[i]?=some p/\v=.ref p.2) (hpf:∀p∈ps,p.2≠I/\p.2≠S) {R:Result->η->Prop}:
  ∀(k i:Nat) (s:η) (xs:List (List Int×ζ)),n-i=k->i≤n->St i s.heap->kN prog w s.heap S xs->tU (ps.take i) xs->(∀p∈ps,gQ prog w s.heap p.1 p.2) ->
   (∀h' tk xs',(∀b ob,b≠S->b≠I->s.heap.get? b=some ob->h'.get? b=some ob)->kN prog w h' S xs'->tU ps xs'->R (.ok (.ret .none)) { s with heap:=h',toks:=tk }) ->
   iu (model prog w) A (.builtin "set.update.loop" ⟨[.ref S,.ref I],[]⟩) R s:=by
 have hSI:S≠I:=fun e=>hSf (W.sub _ (by rw[e];simp));have on_kept:∀{h h':au} {xs:List (List Int×ζ)},kN prog w h S xs->(∀p∈xs,p∈ps)->(∀b ob,b≠I->h.get? b=some ob->h'.get? b=some ob)->kN prog w h' S xs:=fun {h h' xs} ⟨o,es,ep,t,q,T⟩ sub kp=>
  ⟨o,es,ep,t,q.kept fun b hb ob e=>kp b ob (by
   rcases ak.mp hb with z|z
   ·rw[z];exact hSI
   ·obtain⟨p,hp,rfl⟩:=aQ.mp z;exact (hpf p (sub p hp)).1) e,T⟩
 intro k
 induction k with
 |zero=>
  intro i s xs hk hi hst hS hd hkeys hR;have hin:i=n:=by lia
  subst hin;refine gd jW ?_;rw[gA fR _];show ρ _ A.in1 (pyNext (.ref I) >>= _) _ _ s;refine ε (W.done s _ _ hst fun h' tk kp=>?_);show ρ _ A.in1 (ret bz) _ _ _;have hd':tU ps xs:=by
   rw[←hps,List.take_length] at hd;exact hd
  exact ο (hR h' tk xs (fun b ob _ hb e=>kp b ob (by simpa using hb) e) (on_kept hS hd'.sub fun b ob hb e=>kp b ob (by simpa using hb) e) hd')
 |succ k ih=>
  intro i s xs hk hi hst hS hd hkeys hR;have hlt:i<n:=by lia
  refine gd jW ?_;rw[gA fR _];show ρ _ A.in1 (pyNext (.ref I) >>= _) _ _ s;refine ε (W.item i s _ _ hlt hst fun v h1 tk1 hP hst1 kp1=>?_);obtain⟨p,hp,rfl⟩:=hval i v hP;have hpm:p∈ps:=bH hp;have kp1':∀b ob,b≠I->s.heap.get? b=some ob->h1.get? b=some ob:=fun b ob hb e=>kp1 b ob (by simpa using hb) e;have key1:∀q∈ps,gQ prog w h1 q.1 q.2:=fun q hq=>by
   obtain⟨oy,items,m,ho,r⟩:=hkeys q hq;exact⟨oy,items,m,kp1' _ _ (hpf q hq).1 ho,r⟩
  have sub0:∀q∈xs,q∈ps:=fun q hq=>cb (hd.sub q hq);have hS1:=on_kept hS sub0 kp1';show ρ _ A.in1 (holding [bo p.2] (setAdd S (.ref p.2)) >>= _) _ _ _;have hlen:xs.length<1200:=by
   have h1:=hd.len;rw[br] at h1;lia
  refine ε (bT (SO (s:={ s with heap:=h1,toks:=tk1 }) hS1 hlen hu (key1 p hpm) fun b h2 tk2 xs2 _ sb hS2 q1 q2=>?_));have hd2:tU (ps.take (i+1)) xs2:=by
   rw[List.take_add_one,hp];exact hd.add q1 q2
  obtain⟨oS,_,_,_,SS,_⟩:=hS1;refine ο ⟨nI fR _,ih (i+1) _ xs2 (by lia) hlt (W.frame _ _ _ hst1 fun c hc ob e=>(sb.2 c (fun z=>hSf (z▸hc))).trans e) hS2 hd2 (fun q hq=>As SS.at_ SS.dat sb (key1 q hq)) fun h' tk xs' kp' a1 a2=>?_⟩;exact hR h' tk xs' (fun c ob c1 c2 e=>kp' c ob c1 c2 ((sb.2 c c1).trans (kp1' c ob c2 e))) a1 a2
set_option maxHeartbeats 6400000 in
theorem si{l:ζ}{vs:List δ}{ps:List (List Int×ζ)}{Q:δ->η->Prop}(hh:A.handled=none)(hl:s.heap.IsList l vs.toArray)(hv:vs=ps.map fun p=>bo p.2)(hk:∀p∈ps,gQ prog w s.heap p.1 p.2)(hn:ps.length≤1100)
  (hu:A.units+4<cLine)
  (h:∀h' tk xs,(∀b ob,s.heap.get? b=some ob->h'.get? b=some ob)->kN prog w h' s.heap.objs.size xs->tU ps xs->Q (.ref s.heap.objs.size) { s with heap:=h',toks:=tk }):
  ρ (model prog w) A (call (.type "set") [.ref l]) Q E s:=by
 obtain⟨c,tl,hmro⟩:=F.called_set.mro;have hmade:=F.called_set.made;have hsub:=F.called_set.sub;refine gv (lW ?_);show ρ _ _ (callAny (.type "set") _) _ _ _;refine ο ⟨jY _ (by decide +kernel),gd F.entry_type_call ?_⟩;rw[ug (weight_type_call_type "set" [.ref l] []) rfl];have h1:=F.called_set.notType;have h2:=F.called_set.canCreate;have hct:=F.typeCall_set_1 (.ref l)
 repeat (any_goals (first|assumption|wp_step))
 refine dP (IW (.ref l) (E:=E) (Q₁:=fun obj s₁=>obj=.ref s.heap.objs.size/\s₁={ s with heap:=s.heap.push (cU w)}) ⟨rfl,rfl⟩) fun r s₁ hr=>?_;cases r with
 |error e=>exact hr
 |ok fl=>
  cases fl with
  |ret obj=>
   obtain⟨rfl,rfl⟩:=hr;have hS:(s.heap.push (cU w)).get? s.heap.objs.size=some (cU w):=aM _ rfl;have hT:nJ { s with heap:=s.heap.push (cU w)} (.ref s.heap.objs.size) "set":=⟨_,hS,rfl⟩;have hli:=F.called_set.init.lookup;have hbi:=F.called_set.init.bind (.ref s.heap.objs.size)
   repeat (any_goals (first|assumption|wp_step))
   refine dP (iQ (R:=wants (fun r s₂=>r=.none/\∃h' tk xs,s₂={ s with heap:=h',toks:=tk }/\(∀b ob,s.heap.get? b=some ob->h'.get? b=some ob)/\kN prog w h' s.heap.objs.size xs/\tU ps xs) E)
    F.called_set.init.plain F.entry_set_init (check_set_init_1 hT ?_)) fun r₂ s₂ hr₂=>?_
   ·obtain⟨ol,hol,hcl,nl,hdl⟩:=hl;obtain⟨ocls,odict,odata,oslots⟩:=ol;simp only at hcl hdl;subst hcl;subst hdl;have hol':(s.heap.push (cU w)).get? l=some { cls:=.type "list",dict:=odict,data:=.seq vs.toArray nl,slots:=oslots }:=μ _ hol;have hsls:=F.sub_list_set;have hslf:=F.sub_list_frozenset;have b7:(lZ "list" == lZ "dict")=false:=by decide
    have hl1:(s.heap.push (cU w)).IsList l vs.toArray:=⟨_,hol',rfl,nl,rfl⟩;have hS2:(s.heap.push (cU w)).get? s.heap.objs.size=some { cls:=.type "set",dict:=none,data:=.set #[] 0 (.fresh 0 0 (!(jR w)))}:=hS;unfold dI.«set.__init__» noKeywords mQ;generalize hPI:pyIter=PI;wp_walk;subst hPI;refine nV hl1 ?_;refine ε (qG ?_);have hlS:l<s.heap.objs.size:=aa hol;have hh3:A.in1.in1.in1.handled=none:=by simp[hh]
    have hu3:A.in1.in1.in1.units<cLine:=by
     show A.units+1+1+1<cLine;lia
    have fz:(s.heap.push (cU w)).objs.size=s.heap.objs.size+1:=iz ..;have hneI:l≠(s.heap.push (cU w)).objs.size:=by
     rw[fz];exact aZ (et hlS)
    have hSf:s.heap.objs.size∉[(s.heap.push (cU w)).objs.size,l]:=by
     rw[fz];intro z;rcases ak.mp z with z|z
     ·exact absurd z (aZ (iS _))
     ·have:s.heap.objs.size=l:=by simpa using z
      exact absurd this (ix hlS)
    have hlen:vs.toArray.size=ps.length:=by rw[hv];simp
    refine IU (Walks.list hh3 _ l hneI vs.toArray) s.heap.objs.size hSf ps hlen.symm (by rw[hlen];exact hn) hu3 (fun i v e=>?_) (fun p hp=>?_) (vs.toArray.size-0) 0 _ [] rfl (aG _)
     ⟨⟨_,aM _ rfl,rfl,rfl⟩,hl1.push _⟩ ?hS0 ⟨(fun p hp=>(nomatch hp)),(fun p hp=>by rw[mL] at hp;cases hp),aG _⟩ (fun p hp=>?_) ?hR
    case hS0=>
     refine⟨_,#[],0,_,⟨μ _ hS2,⟨rfl,rfl,rfl⟩,rfl,rfl,(fun p hp=>(nomatch hp)),List.nodup_nil,rfl,rfl⟩,IV _⟩
    case hR=>
     intro h' tk xs q1 q2 q3;refine ο ?_;show ρ _ _ (ret bz) _ _ _;refine ο ⟨rfl,h',tk,xs,rfl,fun b ob e=>?_,q2,q3⟩;have hb:=aa e;refine q1 b ob (aZ hb) ?_ (μ _ (μ _ e));rw[fz];exact aZ (et hb)
    ·rw[hv,qS,aT] at e;cases hp:ps[i]? with
     |none=>rw[hp] at e;cases e
     |some p=>rw[hp] at e;exact⟨p,rfl,(aD e).symm⟩
    ·obtain⟨oy,_,_,ho,_⟩:=hk p hp;have hb:=aa ho;rw[fz];exact⟨aZ (et hb),aZ hb⟩
    ·obtain⟨oy,items,m,ho,r⟩:=hk p hp;exact⟨oy,items,m,μ _ (μ _ ho),r⟩
   ·cases r₂ with
    |error e=>exact hr₂
    |ok fl₂=>
     cases fl₂ with
     |ret r=>
      obtain⟨rfl,h',tk,xs,rfl,q1,q2,q3⟩:=hr₂
      repeat (any_goals (first|assumption|wp_step))
      exact h _ _ _ q1 q2 q3
     |_=>exact hr₂.elim
  |_=>exact hr.elim
end
end ff
namespace jr
open PySem PySem.W PyProof.Rows ff Ll
def lx:List Int->List Int->Bool
 |[],[]=>false
 |[],_::_=>true
 |_::_,[]=>false
 |x::xs,y::ys=>if x=y then lx xs ys else decide (x<y)
theorem IT:∀{x y:List Int},lx x y=true->lx y x=false
 |[],[],h=>by cases h
 |[],_::_,_=>rfl
 |_::_,[],h=>by cases h
 |x::xs,y::ys,h=>by
  unfold lx at h ⊢;by_cases e:x=y
  ·rw[if_pos e] at h;rw[if_pos e.symm];exact IT h
  ·rw[if_neg e] at h;rw[if_neg (eV e)];have:=of_decide_eq_true h;exact decide_eq_false (by lia)
theorem IS:∀{a b c:List Int},lx b a=false->lx c b=false->lx c a=false
 |[],b,[],_,_=>rfl
 |[],[],c::cs,_,h=>h
 |[],b::bs,c::cs,h,_=>rfl
 |a::as,[],c,h,_=>by cases h
 |a::as,b::bs,[],_,h=>by cases h
 |a::as,b::bs,c::cs,h1,h2=>by
  unfold lx at h1 h2 ⊢;by_cases e1:b=a
  ·rw[if_pos e1] at h1;by_cases e2:c=b
   ·rw[if_pos e2] at h2;rw[if_pos (e2.trans e1)];exact IS h1 h2
   ·rw[if_neg e2] at h2;have:=of_decide_eq_false h2;by_cases e3:c=a
    ·lia
    ·rw[if_neg e3];exact decide_eq_false (by lia)
  ·rw[if_neg e1] at h1;have:=of_decide_eq_false h1;by_cases e2:c=b
   ·rw[if_neg (by lia)];exact decide_eq_false (by lia)
   ·rw[if_neg e2] at h2;have:=of_decide_eq_false h2;by_cases e3:c=a
    ·lia
    ·rw[if_neg e3];exact decide_eq_false (by lia)
section
variable {prog:Ω} {w:aw} {A:aF} {E:δ->η->Prop} {s:η}
theorem RT{Q:Bool->η->Prop}:∀(xs ys:List Int) (us vs:List δ) (i:Nat) (fin:Bool),ItemsAre (intKind prog w) xs us->ItemsAre (intKind prog w) ys vs ->
  (fin=decide (us.length<vs.length)∨∃n m,fin=decide (n+us.length<n+vs.length)/\m=n)->Q (lx xs ys) s->KatLex prog w A true fin Q (us.zip vs) i s:=by
 intro xs
 induction xs with
 |nil=>
  intro ys us vs i fin h1 h2 hf h;cases h1;cases h2 with
  |nil=>
   have:fin=false:=by
    rcases hf with hf|⟨n,m,hf,_⟩<;>simp at hf<;>exact hf
   rw[this];exact kat_nil h
  |cons h3 h4=>
   have:fin=true:=by
    rcases hf with hf|⟨n,m,hf,_⟩<;>rw[hf]<;>simp
   rw[this];exact kat_nil h
 |cons x xs ih=>
  intro ys us vs i fin h1 h2 hf h;cases h1 with
  |cons h1 h1'=>
  cases h2 with
  |nil=>
   have:fin=false:=by
    rcases hf with hf|⟨n,m,hf,_⟩<;>rw[hf]<;>simp
   rw[this];exact kat_nil h
  |cons h3 h4=>
   obtain⟨t,rfl⟩:=ig h1;obtain⟨t',rfl⟩:=ig h3;refine kat_cons (wpAny_eqBool_int ?_);unfold lx at h;rename_i _ y ys _;by_cases e:x=y
   ·rw[if_pos e] at h;have:(x==y)=true:=by simpa using e
    rw[this];refine kat_yes (ih ys _ _ (i+1) fin h1' h4 (.inr ?_) h);rcases hf with hf|⟨n,m,hf,_⟩
    ·exact⟨1,1,by rw[hf];simp[Nat.add_comm],rfl⟩
    ·exact⟨n+1,n+1,by rw[hf];congr 1;simp only[aE];apply propext;lia,rfl⟩
   ·rw[if_neg e] at h;have:(x==y)=false:=by simpa using e
    rw[this];refine kat_no ?_;by_cases hi:i=0
    ·subst hi;exact oneLt_int h
    ·have hb:(true&&i==0)=false:=by simp[hi]
     rw[hb];exact kat_one _ _ (lt_int h)
theorem yE{Q:Bool->η->Prop}{x y:List Int}{a b:ζ}(hx:gQ prog w s.heap x a)(hy:gQ prog w s.heap y b)(h:Q (lx x y) s):ρ (model prog w) A (keyLt' (tuples' true) (.ref a) (.ref b)) Q E s:=by
 obtain⟨o,its,n,ho,_,hd,hi⟩:=hx;obtain⟨o',its',n',ho',_,hd',hi'⟩:=hy;exact kat_lt ho hd ho' hd' (RT x y its.toList its'.toList 0 _ hi hi' (.inl (by simp)) h)
def vA{α:Type}(lt:α->α->Bool)(d:α)(ps:List α)(i j:Nat):Bool:=lt (ps.getD i d) (ps.getD j d)
structure vm{α:Type}(lt:α->α->Bool):Prop where
 km:∀x y,lt x y=true->lt y x=false
 fu:∀x y z,lt y x=false->lt z y=false->lt z x=false
theorem RQ{α:Type}{lt:α->α->Bool}(O:vm lt)(d:α)(ps:List α)(n:Nat):Ord n (vA lt d ps):=⟨fun a b _ _ h=>O.km _ _ h,fun a b c _ _ _ h1 h2=>O.fu _ _ _ h1 h2⟩
abbrev KQ(x y:List Int×ζ):Bool:=lx x.1 y.1
abbrev fT(p:List Int×ζ):δ:=.ref p.2
theorem Kz:vm KQ:=⟨fun _ _ h=>IT h,fun _ _ _ h1 h2=>IS h1 h2⟩
def WT(n:Nat)(lt:Nat->Nat->Bool)(i j:Nat)(C:Bool->η->Prop)(s:η):Prop:=i<n/\j<n/\C (lt i j) s
theorem conv{α:Type}{n:Nat}{lt:Nat->Nat->Bool}{κ:cG}{vs:List δ}{Q:α->η->Prop}(ha:∀i j,i<n->j<n->∀C:Bool->η->Prop,C (lt i j) s->mJ prog w A κ vs i j C s):
  ∀t:KasT α,t.kasWp (WT n lt) Q s->t.kasWp (mJ prog w A κ vs) Q s
 |.ret a,h=>h
 |.ask i j k,h=>by
  obtain⟨h1,h2,h3⟩:=h;exact ha i j h1 h2 _ (conv ha (k (lt i j)) h3)
theorem Dt{α:Type}{f:α->δ}{d:α}{ps:List α}{i:Nat}(hi:i<ps.length):(ps.map f).getD i bz=f (ps.getD i d):=by
 simp[m9,hi]
theorem getD_mem{ps:List (List Int×ζ)}{i:Nat}(hi:i<ps.length):ps.getD i ([],0)∈ps:=by
 simp[m9,hi]
theorem RP{ps:List (List Int×ζ)}(hk:∀p∈ps,gQ prog w s.heap p.1 p.2):∀i j,i<ps.length->j<ps.length->∀C:Bool->η->Prop,C (vA KQ ([],0) ps i j) s->mJ prog w A (tuples' true) (ps.map fT) i j C s:=fun i j hi hj C h=>by
 unfold mJ;rw[Dt (d:=([],0)) hi,Dt (d:=([],0)) hj];exact yE (hk _ (getD_mem hi)) (hk _ (getD_mem hj)) h
theorem IQ{h:au}:∀{ps:List (List Int×ζ)},(∀p∈ps,gQ prog w h p.1 p.2/\p.1≠[])->∃fs,KatTups h (ps.map fun p=>bo p.2) fs/\fs.length=ps.length/\∀v∈fs,∃i t,v=.int i t
 |[],_=>⟨[],.nil,rfl,fun v hv=>nomatch hv⟩
 |p::ps,hk=>by
  obtain⟨fs,h1,h2,h3⟩:=IQ (ps:=ps) fun q hq=>hk q (ai _ hq);obtain⟨⟨o,its,n,ho,hc,hd,hi⟩,b7⟩:=hk p aj;obtain⟨ks,a⟩:=p;cases ks with
  |nil=>exact absurd rfl b7
  |cons k ks=>
   obtain⟨its⟩:=its;cases hi with
   |cons h4 h5=>
    rename_i v vs;obtain⟨t,e⟩:=ig h4;refine⟨v::fs,KatTups.cons ho hc hd (by simp) h1,by simp[h2],fun u hu=>?_⟩;rcases ak.mp hu with q|q
    ·exact⟨k,t,q.trans e⟩
    ·exact h3 u q
theorem zr{ps:List (List Int×ζ)}(b7:ps≠[])(hk:∀p∈ps,gQ prog w s.heap p.1 p.2/\p.1≠[]){Q:cG->η->Prop}(h:Q (tuples' true) s):ρ (model prog w) A (keyKind' (ps.map fT).toArray) Q E s:=by
 obtain⟨fs,h1,h2,h3⟩:=IQ hk;have hl:0<fs.length:=by
  rw[h2];exact sH.mpr b7
 refine kat_kind (T:=.type "int") h1 hl (fun v hv=>?_) rfl h;obtain⟨i,t,rfl⟩:=h3 v hv;exact .now
structure oX{α:Type}(lt:α->α->Bool)(ps qs:List α):Prop where
 perm:qs.Perm ps
 rise:qs.Pairwise fun x y=>lt y x=false
abbrev Ml(ps qs:List (List Int×ζ)):Prop:=oX KQ ps qs
theorem RO{α:Type}{lt:α->α->Bool}{d:α}{ps:List α}{p:Array Nat}(v:Va ps.length p)(S:So (vA lt d ps) p ps.length):oX lt ps (p.toList.map fun i=>ps.getD i d):=by
 refine⟨?_,?_⟩
 ·refine (v.perm.map _).trans ?_;have:(bM ps.length).map (fun i=>ps.getD i d)=ps:=by
   refine kB fun i=>?_;by_cases hi:i<ps.length
   ·simp[aT,sI hi,m9,hi]
   ·rw[dD.mpr (by simpa using hi),dD.mpr (by lia)]
  rw[this]
 ·rw[eD,eZ];intro i j hi hj hij;have hs:=v.size;have h1:i<ps.length:=by rw[←hs];simpa using hi
  have h2:j<ps.length:=by rw[←hs];simpa using hj
  have e1:p.toList[i]=g p i:=by
   have:=v.get h1;simp[g,mh,hs,h1]
  have e2:p.toList[j]=g p j:=by simp[g,mh,hs,h2]
  rw[e1,e2];exact S i j (pC hij) h2
theorem RN{α:Type}{f:α->δ}{d:α}{ps:List α}{p:Array Nat}(v:Va ps.length p):(p.toList.map fun i=>(ps.map f).getD i bz)=(p.toList.map fun i=>ps.getD i d).map f:=by
 rw[fS];refine ji fun i hi=>?_;have:i<ps.length:=by
  have:=v.perm.mem_iff.mp hi;simpa using this
 exact Dt this
theorem RM{α:Type}{lt:α->α->Bool}{f:α->δ}{d:α}{κ:cG}(O:vm lt){a:ζ}{n:Nat}{ps:List α}{P:tW->η->Prop}(ho:s.heap.get? a=some (seqObj "list" (ps.map f).toArray n))
  (hk:∀h',(∀b o,b≠a->s.heap.get? b=some o->h'.get? b=some o)->(∀(Q:cG->η->Prop) (E':δ->η->Prop),Q κ { s with heap:=h' }->ρ (model prog w) A (keyKind' (ps.map f).toArray) Q E' { s with heap:=h' }) ∧
   ∀i j,i<ps.length->j<ps.length->∀C:Bool->η->Prop,C (vA lt d ps i j) { s with heap:=h' }->mJ prog w A κ (ps.map f) i j C { s with heap:=h' }) (h2:2≤ps.length) (h64:ps.length<64)
  (h:∀qs h' c,oX lt ps qs->h'.get? a=some (seqObj "list" (qs.map f).toArray c)->(∀b o,b≠a->s.heap.get? b=some o->h'.get? b=some o)->P (.done (.ret .none)) { s with heap:=h' }):
  ρ (model prog w) A (dI.«list.sort» ⟨[.ref a],[]⟩) P E s:=by
 have ha:a<s.heap.objs.size:=aa ho;have s1:=dA s.heap a (ba fun _=>(#[]:Array δ));obtain⟨e1,ho1⟩:∃e1,(s.heap.update a (ba fun _=>(#[]:Array δ))).get? a=some (seqObj "list" #[] e1):=⟨_,gX ho fun _=>#[]⟩;generalize hvs:(ps.map f)=vs at ho;have hlen:vs.length=ps.length:=by rw[←hvs,π]
 have hu3:∀b o,b≠a->s.heap.get? b=some o->(((s.heap.update a (ba fun _=>(#[]:Array δ))).push (seqObj "tuple" vs.toArray 0)).push (seqObj "list" #[] 0)).get? b=some o:=fun b o hb e=>
  μ _ (μ _ ((s1.2 b hb).trans e))
 have ho3:(((s.heap.update a (ba fun _=>(#[]:Array δ))).push (seqObj "tuple" vs.toArray 0)).push (seqObj "list" #[] 0)).get? a=some (seqObj "list" #[] e1):=μ _ (μ _ ho1);rw[pU];refine ε (listItems_at ho rfl ?_);refine ε (iZ ho rfl ?_ (by rw[Γ,cu];lia) (aG _));refine ε (kG ho1 rfl ?_);refine ε (qH ?_ (by show vs.length≤_;rw[cu];lia));refine ε (kP ?_ (aG _));refine bT ?_;show ρ (model prog w) A _ P E { s with heap:=((s.heap.update a (ba fun _=>(#[]:Array δ))).push (seqObj "tuple" vs.toArray 0)).push (seqObj "list" #[] 0)};generalize ((s.heap.update a (ba fun _=>(#[]:Array δ))).push (seqObj "tuple" vs.toArray 0)).push (seqObj "list" #[] 0)=h3 at hu3 ho3 ⊢;obtain⟨hk1,hk2⟩:=hk h3 hu3;dsimp only;have hn2:¬vs.toArray.size<2:=by rw[Γ];lia
 rw[if_neg hn2,if_neg hn2];refine ε ?_;rw[←hvs];refine hk1 _ _ ?_;have hsort:(kas_sort vs.length).kasWp (mJ prog w A κ (ps.map f)) (fun p s'=>s'={ s with heap:=h3 }/\Va ps.length p/\So (vA lt d ps) p ps.length) { s with heap:=h3 }:=by
  refine conv (lt:=vA lt d ps) (n:=ps.length) hk2 _ ?_
  rw[hlen];exact Sv (RQ O d ps ps.length) (fun i j hi hj C s' hC=>⟨hi,hj,hC⟩) (by lia) fun p v S=>⟨rfl,v,S⟩
 have hsort:(kas_sort (ps.map f).length).kasWp (mJ prog w A κ (ps.map f)) (fun p s'=>s'={ s with heap:=h3 }/\Va ps.length p/\So (vA lt d ps) p ps.length) { s with heap:=h3 }:=by
  rw[hlen] at hsort;rw[π];exact hsort
 refine ε (b9 (kat_run (Q:=fun st' s'=>∃p:Array Nat,p.size=(ps.map f).length/\arrOf st'=p.map (kas_item ((ps.map f).toArray.zip (ps.map f).toArray))/\failedOf st'=none/\s'={ s with heap:=h3 }/\Va ps.length p/\So (vA lt d ps) p ps.length)
  rfl (by rw[π];exact h2) (by rw[π];exact h64) (fun p' st' s' a1 a2 a3 a4=>⟨p',a1,a2,a3,a4⟩) hsort) ?_ fun _ _ e=>e)
 rintro⟨⟨⟩,st'⟩ s' ⟨p,hp,har,hf,rfl,va,so⟩;dsimp only;have hout:=kat_snds rfl har;rw[RN va] at hout;have hS:=RO va so;generalize (p.toList.map fun i=>ps.getD i d)=qs at hout hS;have fz:(eJ (qs.map f)).size=ps.length:=by rw[Γ,π,hS.perm.length_eq]
 rw[hout];have s2:=dA h3 a (ba fun _=>eJ (qs.map f));obtain⟨c2,hc2⟩:∃c2,(h3.update a (ba fun _=>eJ (qs.map f))).get? a=some (seqObj "list" (eJ (qs.map f)) c2):=⟨_,gX ho3 fun _=>eJ (qs.map f)⟩;refine ε (kG ho3 rfl ?_);refine ε (iZ ho3 rfl ?_ (aG _) (bB (t7 fz) (by rw[cu];lia)));rw[hf];simp only[bne_self_eq_false,g6,if_false];exact ο (h qs _ c2 hS hc2 fun b o hb e=>(s2.2 b hb).trans (hu3 b o hb e))
theorem IP{a:ζ}{n:Nat}{vs:List δ}{P:tW->η->Prop}(ho:s.heap.get? a=some (seqObj "list" vs.toArray n))(h2:vs.length<2)
  (h:∀h' c,h'.get? a=some (seqObj "list" vs.toArray c)->(∀b o,b≠a->s.heap.get? b=some o->h'.get? b=some o)->P (.done (.ret .none)) { s with heap:=h' }):
  ρ (model prog w) A (dI.«list.sort» ⟨[.ref a],[]⟩) P E s:=by
 have s1:=dA s.heap a (ba fun _=>(#[]:Array δ));obtain⟨e1,ho1⟩:∃e1,(s.heap.update a (ba fun _=>(#[]:Array δ))).get? a=some (seqObj "list" #[] e1):=⟨_,gX ho fun _=>#[]⟩;have hu3:∀b o,b≠a->s.heap.get? b=some o->(((s.heap.update a (ba fun _=>(#[]:Array δ))).push (seqObj "tuple" vs.toArray 0)).push (seqObj "list" #[] 0)).get? b=some o:=fun b o hb e=>
  μ _ (μ _ ((s1.2 b hb).trans e))
 have ho3:(((s.heap.update a (ba fun _=>(#[]:Array δ))).push (seqObj "tuple" vs.toArray 0)).push (seqObj "list" #[] 0)).get? a=some (seqObj "list" #[] e1):=μ _ (μ _ ho1);rw[pU];refine ε (listItems_at ho rfl ?_);refine ε (iZ ho rfl ?_ (by rw[Γ,cu];lia) (aG _));refine ε (kG ho1 rfl ?_);refine ε (qH ?_ (by show vs.length≤_;rw[cu];lia));refine ε (kP ?_ (aG _));refine bT ?_;show ρ (model prog w) A _ P E { s with heap:=((s.heap.update a (ba fun _=>(#[]:Array δ))).push (seqObj "tuple" vs.toArray 0)).push (seqObj "list" #[] 0)};generalize ((s.heap.update a (ba fun _=>(#[]:Array δ))).push (seqObj "tuple" vs.toArray 0)).push (seqObj "list" #[] 0)=h3 at hu3 ho3 ⊢;dsimp only;have hn2:vs.toArray.size<2:=by rw[Γ];lia
 rw[if_pos hn2,if_pos hn2];refine ε (ο ?_);rw[StateT.run_pure];refine ε (ο ?_);dsimp only;have hout:(arrOf (rZ general' (vs.toArray.zip vs.toArray) #[] 7 none)).map (·.2)=vs.toArray:=by
  show (vs.toArray.zip vs.toArray).map (·.2)=vs.toArray;refine Array.ext (by simp) fun i h1 h2=>?_;simp
 rw[hout];have s2:=dA h3 a (ba fun _=>vs.toArray);obtain⟨c2,hc2⟩:∃c2,(h3.update a (ba fun _=>vs.toArray)).get? a=some (seqObj "list" vs.toArray c2):=⟨_,gX ho3 fun _=>vs.toArray⟩;refine ε (kG ho3 rfl ?_);refine ε (iZ ho3 rfl ?_ (aG _) (by rw[Γ,cu];lia));simp only[bne_self_eq_false,g6,if_false];exact ο (h _ c2 hc2 fun b o hb e=>(s2.2 b hb).trans (hu3 b o hb e))
theorem RL{h h':au}{ks:List Int}{a:ζ}(keep:∀c o,h.get? c=some o->h'.get? c=some o)(hk:gQ prog w h ks a):gQ prog w h' ks a:=by
 obtain⟨o,it,m,ho,r⟩:=hk;exact⟨o,it,m,keep a o ho,r⟩
theorem RK{α:Type}{lt:α->α->Bool}{f:α->δ}{d:α}{κ:cG}(O:vm lt){l:ζ}{ps:List α}{Q:δ->η->Prop}
  (hk:∀s':η,2≤ps.length->(∀b o,s.heap.get? b=some o->s'.heap.get? b=some o)->(∀(Q:cG->η->Prop) (E':δ->η->Prop),Q κ s'->ρ (model prog w) A.in1.in1 (keyKind' (ps.map f).toArray) Q E' s') ∧
   ∀i j,i<ps.length->j<ps.length->∀C:Bool->η->Prop,C (vA lt d ps i j) s'->mJ prog w A.in1.in1 κ (ps.map f) i j C s') (h64:ps.length<64)
  (yK:∀(R:List δ->η->Prop),(∀s',pX [] (fun x y=>y=x) s s'->R (ps.map f) s')->ρ (model prog w) A.in1 (collect (.ref l)) R E s)
  (h:∀qs s' c D,oX lt ps qs->s.heap.get? D=none->s'.heap.get? D=some (seqObj "list" (qs.map f).toArray c)->pX [] (fun x y=>y=x) s s'->Q (.ref D) s'):
  ρ (model prog w) A (call (.builtin "sorted") [.ref l]) Q E s:=by
 refine oq kind_sorted plain_sorted entry_sorted (args_sorted1 _) ?_;unfold dI.«sorted»;refine ε (m:=checkCount "sorted" 1 1 _) (ο ?_);refine ε (yK _ fun s1 hm=>?_);refine ε (kP ?_ (by rw[π,cu];lia));have hoL:(s1.heap.push (seqObj "list" (ps.map f).toArray 0)).get? s1.heap.objs.size=some (seqObj "list" (ps.map f).toArray 0):=aM _ rfl;have keep0:∀b o,s.heap.get? b=some o->s1.heap.get? b=some o:=fun b o e=>hm.heap b o (fun z=>nomatch z) e;have kD:s.heap.get? s1.heap.objs.size=none:=by
  cases hz:s.heap.get? s1.heap.objs.size with
  |none=>rfl
  |some o=>exact absurd (aa (keep0 _ _ hz)) (cw _)
 have keep:∀b o,s.heap.get? b=some o->(s1.heap.push (seqObj "list" (ps.map f).toArray 0)).get? b=some o:=fun b o e=>μ _ (keep0 b o e);show ρ _ _ _ _ _ { s1 with heap:=s1.heap.push (seqObj "list" (ps.map f).toArray 0)};refine ε (bT (dN slot_list_sort ⟨_,hoL,rfl⟩ entry_list_sort ?body (args_list_sort _)));have fin:∀qs h' c,oX lt ps qs->h'.get? s1.heap.objs.size=some (seqObj "list" (qs.map f).toArray c)->(∀b o,b≠s1.heap.objs.size->(s1.heap.push (seqObj "list" (ps.map f).toArray 0)).get? b=some o->h'.get? b=some o)->Q (.ref s1.heap.objs.size) { s1 with heap:=h' }:=fun qs h' c hS e kk=>
  h qs _ c _ hS kD e ⟨fun b o _ e1=>kk b o (aZ (aa (keep0 b o e1))) (keep b o e1),hm.gens,hm.drawn,hm.os,hm.toks⟩
 case body=>
  by_cases h2:2≤ps.length
  ·refine RM O (s:={ s1 with heap:=s1.heap.push (seqObj "list" (ps.map f).toArray 0)}) hoL (fun h' kk=>hk { s1 with heap:=h' } h2 fun b o e=>kk b o (aZ (aa (keep0 b o e))) (keep b o e)) h2 h64 fun qs h' c hS e kk=>?_;exact⟨_,rfl,ο ⟨_,rfl,fin qs h' c hS e kk⟩⟩
  ·refine IP (s:={ s1 with heap:=s1.heap.push (seqObj "list" (ps.map f).toArray 0)}) hoL (by rw[π];lia) fun h' c e kk=>?_;have hS:oX lt ps ps:=⟨.refl _,by
    rcases ps with _|⟨x,_|⟨y,r⟩⟩
    ·exact .nil
    ·exact bJ _ _
    ·simp at h2⟩
   exact⟨_,rfl,ο ⟨_,rfl,fin ps h' c hS e kk⟩⟩
theorem wV{l:ζ}{ps:List (List Int×ζ)}{Q:δ->η->Prop}(hk:∀p∈ps,gQ prog w s.heap p.1 p.2/\p.1≠[])(h64:ps.length<64)
  (yK:∀(R:List δ->η->Prop),(∀s',pX [] (fun x y=>y=x) s s'->R (ps.map fT) s')->ρ (model prog w) A.in1 (collect (.ref l)) R E s)
  (h:∀qs s' c D,Ml ps qs->s.heap.get? D=none->s'.heap.get? D=some (seqObj "list" (qs.map fT).toArray c)->pX [] (fun x y=>y=x) s s'->Q (.ref D) s'):
  ρ (model prog w) A (call (.builtin "sorted") [.ref l]) Q E s:=by
 refine RK (κ:=tuples' true) (d:=([],0)) Kz (fun s' h2 kk=>?_) h64 yK h;have hk':∀p∈ps,gQ prog w s'.heap p.1 p.2/\p.1≠[]:=fun p hp=>⟨RL kk (hk p hp).1,(hk p hp).2⟩;exact⟨fun Q E q=>zr (fun z=>by rw[z] at h2;simp at h2) hk' q,RP fun p hp=>(hk' p hp).1⟩
end
end jr
namespace L3
open PySem PySem.Spec PyProof.Rows L2
structure zF(T:String):Prop where
 aO:∀K,Δ K (.type "NoneType") (.type T)=some false
 bl:∀K,Δ K (.type "bool") (.type T)=some (T=="bool" || T=="int")
 int:∀K,Δ K (.type "int") (.type T)=some (T=="int")
 str:∀K,Δ K (.type "str") (.type T)=some (T=="str")
 tup:∀K,Δ K (.type "tuple") (.type T)=some (T=="tuple")
 lst:∀K,Δ K (.type "list") (.type T)=some (T=="list")
 fZ:∀K,Δ K (.type "dict") (.type T)=some (T=="dict")
theorem IM:zF "int":=⟨fun _=>rfl,fun _=>rfl,fun _=>rfl,fun _=>rfl,fun _=>rfl,fun _=>rfl,fun _=>rfl⟩
theorem IL:zF "bool":=⟨fun _=>rfl,fun _=>rfl,fun _=>rfl,fun _=>rfl,fun _=>rfl,fun _=>rfl,fun _=>rfl⟩
theorem kit_tuple:zF "tuple":=⟨fun _=>rfl,fun _=>rfl,fun _=>rfl,fun _=>rfl,fun _=>rfl,fun _=>rfl,fun _=>rfl⟩
section
variable {X:Cx} {a e:υ} {es:List υ} {ta:aP} {t:cM} {pos p p2:aV}
theorem RJ{T:String}(k:zF T):ie X (.builtin "isinstance") (fun vs H Q=>∃d v G b,vs=[v,.ty T]/\Hv X.K H d v/\aS X.K G H/\jZ T G d=some b/\Q (.bl b) H):=by
 intro pins s σ H vs us Q I r h;obtain⟨d,v,G,b,rfl,hd,RG,hb,q⟩:=h;obtain⟨u,c,rfl,ru,rc⟩:=vals2 r;cases (show c=lZ T from rc);have fin:∀tk,EP X pins σ Q (.bool b) { s with toks:=tk }:=fun tk=>⟨.bl b,H,I.tok tk,rfl,q⟩
 cases d with
 |aO=>
  unfold Hv at hd;subst hd;cases (show u=bz from ru);cases hb;exact df PySem.W.kitx_none I.gI rY (k.aO _) (fun z=>nomatch z) fin
 |bl y=>
  rw[wo hd] at ru;cases (show u=da y from ru);cases hb;exact df PySem.W.kitx_bool I.gI rY (k.bl _) (fun z=>nomatch z) fin
 |int y=>
  rw[kC hd] at ru;obtain⟨t,rfl⟩:=(show ∃t,u=pV y t from ru);cases hb;exact df PySem.W.kitx_int I.gI rY (k.int _) (fun z=>nomatch z) fin
 |str y=>
  unfold Hv at hd;subst hd;obtain⟨t,rfl⟩:=(show ∃t,u=δ.str y t from ru);cases hb;exact df PySem.W.kitx_str I.gI rY (k.str _) (fun z=>nomatch z) fin
 |tup ds=>
  obtain⟨x,xs,rfl,e1,_⟩:=nC hd;cases (show u=bo x from ru);cases hb;obtain⟨its,_,⟨o,h1,h2,_⟩,_⟩:=I.tuple e1;exact df PySem.W.kitx_tuple I.gI ⟨o,h1,h2⟩ (k.tup _) (fun z=>nomatch z) fin
 |fM ds=>
  obtain⟨x,xs,rfl,e1,_⟩:=wm hd;cases (show u=bo x from ru);cases hb;obtain⟨its,_,p1,_⟩:=I.list e1.l;obtain⟨o,h1,h2,_⟩:=p1.isList;exact df nX I.gI ⟨o,h1,h2⟩ (k.lst _) (fun z=>nomatch z) fin
 |dc x=>
  unfold Hv at hd;obtain⟨rfl,ob,φ,e1,c⟩:=hd;cases (show u=bo x from ru);cases hb;obtain⟨h1,_⟩:=I.bI x _ e1;exact df uC I.gI ⟨ob,h1,c⟩ (k.fZ _) (fun z=>nomatch z) fin
 |obj x=>
  rw[jJ hd] at ru;cases (show u=bo x from ru);unfold jZ at hb;cases hG:G x with
  |none=>simp[hG] at hb
  |some o=>
   have hl:∀xs,H x=some (.lst xs)->∃o,s.heap.get? x=some o/\o.cls=.type "list":=fun xs e=>by
    obtain⟨_,_,n,_,h1⟩:=(show b8 X.prog X.w H s.heap x (.lst xs) from I.bI x _ e);exact⟨_,h1,rfl⟩
   cases o with
   |lst ds=>
    simp only[hG] at hb;cases hb;obtain⟨vs,e1,_⟩:=RG x _ hG;obtain⟨o,h1,h2⟩:=hl _ e1;exact df nX I.gI ⟨o,h1,h2⟩ (k.lst _) (fun z=>nomatch z) fin
   |lK=>
    simp only[hG] at hb;cases hb;obtain⟨_,_,_,e1,_⟩:=RG x _ hG;obtain⟨o,h1,h2⟩:=hl _ e1;exact df nX I.gI ⟨o,h1,h2⟩ (k.lst _) (fun z=>nomatch z) fin
   |gen R=>simp[hG] at hb
   |fZ=>
    simp only[hG] at hb;cases hb;have e1:H x=some (.ext fun h=>∃o,h.get? x=some o/\o.cls=.type "dict"):=RG x _ hG;obtain⟨⟨o,h1,h2⟩,_⟩:=(show b8 X.prog X.w H s.heap x _ from I.bI x _ e1);exact df uC I.gI ⟨o,h1,h2⟩ (k.fZ _) (fun z=>nomatch z) fin
theorem RI{T:String}{TS:ν}(k:zF T)(hv:gL TS=some (.type T))(ha:bW X a ta)(hm:X.mg "isinstance" = none)(hm2:X.mg TS=none)(hgT:Gl X TS)(hnT:TS≠"__name__")(hdT:(TS==("__debug__":ν))=false)(hg:Gl X "isinstance":=by rfl)
  (he:notStar a=true:=by rfl):
  bW X (.Call (.Name "isinstance" p) [a,.Name TS p2] [] pos) (rP T ta):=
 iC (oO (RJ k) hg hm rfl (mw ha (mw (Kj (v:=.ty T) hgT hm2 hv rfl hnT hdT) qd (dW rfl)) (dW he)) (he:=dW he) (hpl:=jo rfl)) fun σ H Q ⟨τ,G,Q3,RS,RG,h,k⟩=>by
  refine⟨τ,G,_,RS,RG,h,fun v H1 d G1 h1 S1 R1 q1=>?_⟩;cases hb:jZ T G1 d with
  |none=>rw[hb] at q1;exact q1.elim
  |some b=>
   rw[hb] at q1;exact⟨d,v,G1,b,rfl,h1,R1,hb,k _ H1 (.bl b) G1 mv S1 R1 q1⟩
end
def tupI(ns:List Int):D:=.tup (ns.map D.int)
section
variable {P:Ω} {w:aw} {H:Hp} {h:au} {a:ζ} {o:HO}
theorem RH(x:b8 P w H h a o):∃o,h.get? a=some o:=by
 cases o with
 |lst xs=>obtain⟨_,_,_,_,e⟩:=x;exact⟨_,e⟩
 |tup xs=>obtain⟨_,_,_,o,e,_⟩:=x;exact⟨_,e⟩
 |dK kvs=>obtain⟨_,_,_,_,o,_,_,e,_⟩:=x;exact⟨_,e⟩
 |dT kvs=>obtain⟨_,_,_,_,o,_,_,e,_⟩:=x;exact⟨_,e⟩
 |set S n=>obtain⟨o,_,_,_,e,_⟩:=x;exact⟨_,e⟩
 |ins C dx fs=>obtain⟨_,_,_,e,_⟩:=x;exact⟨_,e⟩
 |own y=>obtain⟨_,e⟩:=x;exact⟨_,e⟩
 |xd fs=>obtain⟨_,⟨_,_,_,e,_⟩,_⟩:=x;exact⟨_,e⟩
 |B4 lo hi=>obtain⟨_,_,_,e⟩:=x;exact⟨_,e⟩
 |cP ob u=>obtain⟨e,_⟩:=x;exact⟨_,e⟩
 |vt ps=>exact⟨_,(show h.get? a=some _ from x)⟩
 |met f y=>exact⟨_,(show h.get? a=some _ from x)⟩
 |ext φ=>obtain⟨_,⟨_,e⟩,_⟩:=x;exact⟨_,e⟩
end
section
variable {X:Cx} {pins:List (ζ×aW)} {σ:L2.St} {H:Hp} {s:η}
theorem Inv.Bb(I:Inv X pins σ H s){a:ζ}(hn:s.heap.get? a=none):H a=none:=by
 cases e:H a with
 |none=>rfl
 |some o=>
  obtain⟨ob,h⟩:=RH (I.bI a o e);rw[hn] at h;cases h
theorem Inv.Fb{a:ζ}{o:HO}{t':Nat}{h':au}(I:Inv X pins σ H s)(k:∀b u,s.heap.get? b=some u->h'.get? b=some u)(hn:s.heap.get? a=none)(new:b8 X.prog X.w (upd H a o) h' a o):
  Inv X pins σ (upd H a o) { s with heap:=h',toks:=t' }:=by
 have hH:=Inv.Bb I hn;have ne:∀b u,s.heap.get? b=some u->b≠a:=fun b u e z=>by rw[z,hn] at e;cases e
 refine I.un ⟨fun b u q _ _ _=>k b u q,fun b u q _ _ _=>⟨u.slots,k b u q⟩,fun b u q n _=>by rw[dX (ne b u q)];exact n,fun b u q _=>⟨u,k b u q⟩,fun b xs q=>by rw[dX (mz q hH)];exact q,
  fun b u xs q=>by rw[dX (mz q hH)];exact q,fun b ps q=>⟨#[],by rw[dX (mz q hH),q];simp⟩⟩ fun b u e=>?_
 by_cases hb:b=a
 ·subst hb;rw[iV] at e;cases e;exact new
 ·rw[dX hb] at e;exact (I.bI b u e).lE (fun c v _ q=>k c v q) (fun c q=>by rw[dX (mz q hH)];exact q) fun c xs q=>by rw[dX (mz q hH)];exact q
theorem Ds{ns:List Int}:∀{us:List δ},bt (ns.map V.int) us->ItemsAre (intKind X.prog X.w) ns us:=by
 induction ns with
 |nil=>intro us r;cases r;exact .nil
 |cons n ns ih=>
  intro us r;cases r with
  |cons r1 r2=>
   obtain⟨t,rfl⟩:=(show ∃t,_=pV n t from r1);exact .cons (by show uK n (.int n t)=true;simp[uK]) (ih r2)
theorem yb(I:Inv X pins σ H s):∀{nss:List (List Int)} {vs:List V} {us:List δ},aJ X.K H (nss.map tupI) vs->bt vs us ->
  ∃ps:List (List Int×ζ),ps.map (·.1)=nss/\vs=ps.map (fun p=>.ref p.2)/\us=ps.map (fun p=>bo p.2)/\∀p∈ps,dh X.K H p.2 (p.1.map V.int)/\ff.gQ X.prog X.w s.heap p.1 p.2
 |[],vs,us,h,r=>by
  cases h.il;cases r;exact⟨[],rfl,rfl,rfl,fun p hp=>nomatch hp⟩
 |ns::nss,vs,us,h,r=>by
  obtain⟨v,vr,rfl,q1,q2⟩:=h.inv;cases r with
  |cons r1 r2=>
   obtain⟨ps,e1,e2,e3,e4⟩:=yb I q2 r2;obtain⟨a,ws,rfl,z1,z2⟩:=nC q1;have hw:ws=ns.map V.int:=by
    refine wj z2 ?_;clear z2 z1 q1 h e1 e2 e3 e4 q2 r2 r1
    induction ns with
    |nil=>rfl
    |cons n ns ih=>simp[intsOf,ih]
   subst hw;cases (show _=bo a from r1);obtain⟨its,rv,⟨o,h1,h2,n,h3⟩,_⟩:=I.tuple z1;refine⟨(ns,a)::ps,by simp[e1],by simp[e2],by simp[e3],fun p hp=>?_⟩;rcases ak.mp hp with rfl|hp
   ·exact⟨z1,o,its.toArray,n,h1,h2,h3,Ds rv⟩
   ·exact e4 p hp
theorem Ar{K:θ}{H:Hp}:∀{qs:List (List Int×ζ)},(∀p∈qs,dh K H p.2 (p.1.map V.int))->aJ K H ((qs.map (·.1)).map tupI) (qs.map fun p=>.ref p.2)
 |[],_=>.nil
 |q::qs,h=>.cons (rq (h q aj) (aJ.ints _)) (Ar fun p hp=>h p (ai _ hp))
theorem Dr:∀(qs:List (List Int×ζ)),bt (qs.map fun p=>V.ref p.2) (qs.map fun p=>bo p.2)
 |[]=>.nil
 |q::qs=>.cons rfl (Dr qs)
def mT(nss:List (List Int)):Prop:=nss.Pairwise fun x y=>jr.lx y x=false
theorem IK{Q:VK}(I:Inv X pins σ H s){ps qs:List (List Int×ζ)}{s':η}{c:Nat}{D':ζ}(hz:ps.length<64)(hS:jr.Ml ps qs)(hn:s.heap.get? D'=none)(hD:s'.heap.get? D'=some (seqObj "list" (qs.map fun p=>bo p.2).toArray c))
  (hm:pX [] (fun x y=>y=x) s s') (q:H D'=none->Q (.ref D') (upd H D' (.lst (qs.map fun p=>.ref p.2)))):EP X pins σ Q (.ref D') s':=by
 have e:s'={ s with heap:=s'.heap,toks:=s'.toks }:=by
  cases s';cases s;have h1:=hm.gens;have h2:=hm.drawn;have h3:=hm.os;simp only at h1 h2 h3;subst h1 h2 h3;rfl
 rw[e];refine⟨.ref D',_,Inv.Fb I (o:=.lst (qs.map fun p=>.ref p.2)) (fun b u z=>hm.heap b u (fun y=>nomatch y) z) hn ?_,rfl,q (Inv.Bb I hn)⟩;refine⟨?_,_,c,Dr qs,hD⟩;rw[π,hS.perm.length_eq,cu];lia
theorem RF(hc:X.calm=true)(hu:X.A.units+64<cLine):ie X (.builtin "sorted") (fun vs H Q=>∃(a:ζ) (xs:List V) (nss:List (List Int)),vs=[.ref a]/\gJ X.K H a xs/\aJ X.K H (nss.map tupI) xs/\nss.length<64/\(∀ns∈nss,ns≠[]) ∧
  ∀(p:ζ) (mss:List (List Int)) (ys:List V),H p=none->mss.Perm nss->mT mss->aJ X.K H (mss.map tupI) ys->Q (.ref p) (upd H p (.lst ys))):=by
 intro pins s σ H vs us Q I r h;obtain⟨a,xs,nss,rfl,hl,hv,hz,b7,q⟩:=h;obtain⟨u,rfl,ru⟩:=vals1 r;cases ru;obtain⟨its,rv,pl,_⟩:=I.list hl;obtain⟨ps,e1,e2,e3,e4⟩:=yb I hv rv;subst e3;have hlen:ps.length=nss.length:=by rw[←e1,π]
 refine jr.wV (ps:=ps) (fun p hp=>⟨(e4 p hp).2,b7 _ (by rw[←e1];exact aQ.mpr ⟨p,hp,rfl⟩)⟩) (by lia) (fun R hR=>?_) fun qs s' c D' hS hn hD hm=>?_
 ·refine collect_list pl.isList (hR _ ⟨fun b o _ e=>?_,rfl,rfl,rfl,Θ _⟩) (by rw[π,cu];lia);have hlt:=aa e;show ((s.heap.push (seqObj "list" #[] 0)).update s.heap.objs.size _).get? b=some o;rw[bE _ _ (ix hlt)];exact μ _ e
 ·refine IK I (by lia) hS hn hD hm fun hf=>?_;refine q _ (qs.map (·.1)) _ hf (by rw[←e1];exact hS.perm.map _) ?_ (Ar fun p hp=>(e4 p (hS.perm.mem_iff.mp hp)).1);exact eD.mpr hS.rise
end
end L3
namespace L3
open PySem PySem.Spec PyProof.Rows L2
def lF(P:Ω)(w:aw)(b:ζ)(zs:List (List Int×ζ)):au->Prop:=fun h=>∃o es ep t,h.get? b=some o/\o.ExactSet/\o.data=.set es ep t/\es.toList=zs.map (ff.ent P w)/\(zs.map (·.1)).Nodup/\t.plain=true ∧
 t.led=(!(w.params.followText "set-order"))/\mI.Tab t (es.toList.map (·.1))
theorem qe{α β:Type}{f:α->β}{l l':List β}(h:l.Perm l'):∀{zs:List α},l'=zs.map f->∃zs':List α,zs'.Perm zs/\l=zs'.map f:=by
 induction h with
 |nil=>
  intro zs e;have:zs=[]:=by simpa using e.symm
  subst this;exact⟨[],.nil,rfl⟩
 |cons x _ ih=>
  intro zs e;cases zs with
  |nil=>cases e
  |cons z zs=>
   simp only[du,v8] at e;obtain⟨zs',h1,h2⟩:=ih e.2;exact⟨z::zs',h1.cons z,by simp[e.1,h2]⟩
 |swap x y l=>
  intro zs e;rcases zs with _|⟨z,_|⟨z2,zs⟩⟩
  ·cases e
  ·simp at e
  ·simp only[du,v8] at e;exact⟨z2::z::zs,.swap _ _ _,by simp[e.1,e.2.1,e.2.2]⟩
 |trans _ _ ih1 ih2=>
  intro zs e;obtain⟨z2,h1,h2⟩:=ih2 e;obtain⟨z1,h3,h4⟩:=ih1 h2;exact⟨z1,h3.trans h1,h4⟩
section
variable {X:Cx}
theorem RE(hc:X.calm=true)(hu:X.A.units+64<cLine):ie X (.type "set") (fun vs H Q=>∃(a:ζ) (xs:List V) (nss:List (List Int)),vs=[.ref a]/\gJ X.K H a xs/\aJ X.K H (nss.map tupI) xs/\nss.length≤60 ∧
  ∀(b:ζ) (zs:List (List Int×ζ)),H b=none->(∀p∈zs,dh X.K H p.2 (p.1.map V.int))->(∀ns,ns∈zs.map (·.1)↔ns∈nss)->(zs.map (·.1)).Nodup->zs.length≤nss.length->Q (.ref b) (upd H b (.ext (lF X.prog X.w b zs)))):=by
 intro pins s σ H vs us Q I r h;obtain⟨a,xs,nss,rfl,hl,hv,hz,q⟩:=h;obtain⟨u,rfl,ru⟩:=vals1 r;cases ru;obtain⟨its,rv,pl,_⟩:=I.list hl;obtain⟨ps,e1,e2,e3,e4⟩:=yb I hv rv;subst e3;have hlen:ps.length=nss.length:=by rw[←e1,π]
 refine ff.si (ps:=ps) (I.ok.hd hc) pl.isList rfl (fun p hp=>(e4 p hp).2) (by lia) (by lia) fun h' tk zs kk hS hD=>?_;obtain⟨o,es,ep,t,S,T⟩:=hS;refine⟨.ref s.heap.objs.size,_,I.laid (o:=.ext (lF X.prog X.w s.heap.objs.size zs)) kk (Θ _) ?_,rfl,q _ zs (I.bI.fresh (Θ _)) (fun p hp=>(e4 p (hD.sub p hp)).1) (fun ns=>?_) S.nd ?_⟩
 ·refine⟨⟨o,es,ep,t,S.at_,S.ex,S.dat,S.ents,S.nd,S.plain,S.led,T⟩,⟨o,S.at_⟩,fun h1 h2 ⟨o',es',ep',t',y1,y⟩ kk2=>⟨o',es',ep',t',kk2 _ y1,y⟩⟩
 ·rw[←e1];constructor
  ·intro hm;obtain⟨p,hp,rfl⟩:=aQ.mp hm;exact aQ.mpr ⟨p,hD.sub p hp,rfl⟩
  ·intro hm;obtain⟨p,hp,rfl⟩:=aQ.mp hm;exact hD.all p hp
 ·rw[←hlen];exact hD.len
theorem IJ(hc:X.calm=true)(hu:X.A.units+64<cLine):ie X (.builtin "sorted") (fun vs H Q=>∃(b:ζ) (zs:List (List Int×ζ)),vs=[.ref b]/\H b=some (.ext (lF X.prog X.w b zs))/\(∀p∈zs,dh X.K H p.2 (p.1.map V.int))/\zs.length≤60/\(∀p∈zs,p.1≠[]) ∧
  ∀(p:ζ) (mss:List (List Int)) (ys:List V),H p=none->mss.Perm (zs.map (·.1))->mT mss->aJ X.K H (mss.map tupI) ys->Q (.ref p) (upd H p (.lst ys))):=by
 intro pins s σ H vs us Q I r h;obtain⟨b,zs,rfl,hb,hk,hz,b7,q⟩:=h;obtain⟨u,rfl,ru⟩:=vals1 r;cases ru;obtain⟨⟨o,es,ep,t,y1,y2,y3,y4,y5,y6,y7,T⟩,_⟩:=(show b8 X.prog X.w H s.heap b _ from I.bI b _ hb);have hK:∀p∈zs,ff.gQ X.prog X.w s.heap p.1 p.2:=fun p hp=>by
  obtain⟨its,rv,⟨o,h1,h2,n,h3⟩,_⟩:=I.tuple (hk p hp);exact⟨o,its.toArray,n,h1,h2,h3,Ds rv⟩
 have S:ff.lT X.prog X.w s.heap b o es ep t zs:=⟨y1,y2,y3,y4,hK,y5,y6,y7⟩;obtain⟨zs',p1,p2⟩:=qe (ff.lD X.w b ep es) y4;have fz:es.size=zs.length:=by
  have:es.toList.length=zs.length:=by rw[y4,π]
  simpa using this
 refine jr.wV (ps:=zs') (fun p hp=>⟨hK p (p1.mem_iff.mp hp),b7 p (p1.mem_iff.mp hp)⟩) (by rw[p1.length_eq];lia) (fun R hR=>?_) fun qs s' c D' hS hn hD hm=>?_
 ·refine ff.ql (by have:=I.ok.hd hc;simpa using this) S.wk T (by lia) fun s' hm=>?_;have:=hR s' hm;rw[p2,fS];exact this
 ·refine IK I (by rw[p1.length_eq];lia) hS hn hD hm fun hf=>?_;refine q _ (qs.map (·.1)) _ hf ((hS.perm.map _).trans (p1.map _)) ?_ (Ar fun p hp=>hk p (p1.mem_iff.mp (hS.perm.mem_iff.mp hp)));exact eD.mpr hS.rise
end
section
variable {X:Cx} {K:θ} {e:υ} {es:List υ} {t:cM} {ta:aP} {pos p p' pos':aV}
def ya:C3:=fun ds G Q=>match ds with
 |[.obj a]=>∃nss:List (List Int),G a=some (.lst (nss.map tupI))/\nss.length<64/\(∀ns∈nss,ns≠[])/\∀(p:ζ) (mss:List (List Int)) (G':Gp),gk G p (.lst (mss.map tupI)) G'->mss.Perm nss->mT mss->Q (.obj p) G'
 |_=>False
theorem RD:tR K ya (fun vs H Q=>∃(a:ζ) (xs:List V) (nss:List (List Int)),vs=[.ref a]/\gJ K H a xs/\aJ K H (nss.map tupI) xs/\nss.length<64/\(∀ns∈nss,ns≠[]) ∧
  ∀(p:ζ) (mss:List (List Int)) (ys:List V),H p=none->mss.Perm nss->mT mss->aJ K H (mss.map tupI) ys->Q (.ref p) (upd H p (.lst ys))):=fun ds vs G H Q3 Q h RG q k=>by
 rcases ds with _|⟨d,_|⟨d2,ds⟩⟩
 ·exact q.elim
 ·obtain⟨v,rfl,hv⟩:=tG h;cases d with
  |obj a=>
   obtain⟨nss,e1,hz,b7,q⟩:=q;obtain⟨xs,e2,e3⟩:=RG a _ e1;rw[jJ hv];exact⟨a,xs,nss,rfl,.of e2,e3,hz,b7,fun p mss ys hp h1 h2 h3=>k _ _ (.obj p) _ tj (.jq hp) (RG.tu hp h3) (q p mss _ (.mk' (RG.free hp)) h1 h2)⟩
  |_=>exact q.elim
 ·cases d<;>exact q.elim
theorem RC(hu:X.A.units+64<cLine)(hm:X.mg "sorted" = none)(ha:jt X (e::es) t)(hc:X.calm=true:=by rfl)(hg:Gl X "sorted":=by rfl)(he:notStar e=true:=by rfl)(hpl:es.all notStar=true:=by rfl):
  bW X (.Call (.Name "sorted" p) (e::es) [] pos) (dJ ya t):=vh RD (oO (RF hc hu) hg hm rfl ha (he:=dW he) (hpl:=jo hpl))
def rO(ta:aP):aP:=fun τ G Q=>ta τ G fun x G1=>match x with
 |.obj a=>∃nss:List (List Int),G1 a=some (.lst (nss.map tupI))/\nss.length≤60/\(∀ns∈nss,ns≠[])/\∀(p:ζ) (mss:List (List Int)) (G':Gp),gk G1 p (.lst (mss.map tupI)) G'->(∀ns,ns∈mss↔ns∈nss)->mss.Nodup->mT mss->mss.length≤nss.length->Q (.obj p) G'
 |_=>False
theorem RB(hu:X.A.units+64<cLine)(ha:bW X e ta)(hm:X.mg "sorted" = none)(hm2:X.mg "set" = none)(hc:X.calm=true:=by rfl)(hg:Gl X "sorted":=by rfl)(hg2:Gl X "set":=by rfl)(he2:notStar e=true:=by rfl):
  bW X (.Call (.Name "sorted" p) [.Call (.Name "set" p') [e] [] pos'] [] pos) (rO ta):=
 iC (oO (IJ hc hu) hg hm rfl (mw (yl (RE hc hu) hg2 hm2 rfl (mw ha qd (dW he2)) (he:=dW he2) (hpl:=jo rfl)) qd (dW rfl)) (he:=dW rfl) (hpl:=jo rfl)) fun σ H Q ⟨τ,G,Q3,RS,RG,h,k⟩=>by
  refine⟨τ,G,_,RS,RG,h,fun v H1 d G1 h1 S1 R1 q1=>?_⟩;cases d with
  |obj a=>
   obtain⟨nss,e1,hz,b7,q⟩:=q1;obtain⟨xs,e2,e3⟩:=R1 a _ e1;rw[jJ h1];refine⟨a,xs,nss,rfl,.of e2,e3,hz,fun b zs hb hk hmem hnd hlen=>?_⟩;have E2:Ext H1 (upd H1 b (.ext (lF X.prog X.w b zs))):=.laid hb;refine⟨b,zs,rfl,iV,fun p hp=>dh.ext E2 (hk p hp),by lia,fun p hp=>b7 _ ((hmem _).mp (aQ.mpr ⟨p,hp,rfl⟩)),fun p mss ys hp hpm hr hv=>?_⟩;have R2:aS X.K G1 (upd H1 b (.ext (lF X.prog X.w b zs))):=R1.laid hb;refine k _ _ (.obj p) _ tj ((S1.trans (.laid hb)).trans (.jq hp)) (R2.tu hp hv) (q p mss _ (.mk' (R2.free hp)) (fun ns=>?_) ?_ hr ?_)
   ·rw[hpm.mem_iff];exact hmem ns
   ·exact hpm.nodup_iff.mpr hnd
   ·rw[hpm.length_eq,π];exact hlen
  |_=>exact q1.elim
def og:List D->Option (List Bool)
 |[]=>some []
 |.bl b::r=>(og r).map (b::·)
 |_::_=>none
theorem Aq{H:Hp}:∀{ds:List D} {vs:List V} {bs:List Bool},aJ K H ds vs->og ds=some bs->vs=bs.map V.bl
 |[],vs,ns,h,e=>by
  cases e;exact h.il
 |d::ds,vs,ns,h,e=>by
  cases d with
  |bl i=>
   obtain⟨v,r,rfl,z1,z2⟩:=h.inv;unfold og at e;cases hm:og ds with
   |none=>rw[hm] at e;cases e
   |some ms=>
    rw[hm] at e;cases e;rw[wo z1,Aq z2 hm];rfl
  |_=>cases e
theorem II:∀{bs:List Bool} {us:List δ},bt (bs.map V.bl) us->us=bs.map da
 |[],_,.nil=>rfl
 |b::bs,_,.cons r rr=>by
  rw[(show _=da b from r),II rr];rfl
theorem range_all(bs:List Bool):(bM bs.length).all (fun i=>bs.getD i false)=bs.all id:=by
 rw[pZ];simp only[pH,de,id_eq];constructor
 ·intro h b hb;obtain⟨i,hi,rfl⟩:=List.mem_iff_getElem.mp hb;have:=h i hi;simpa [m9,hi] using this
 ·intro h i hi;have:=h bs[i] (lb hi);simpa [m9,hi] using this
theorem RA(hc:X.calm=true){pins:List (ζ×aW)}{s:η}{σ:L2.St}{H:Hp}{a:ζ}{xs:List V}{E:δ->η->Prop}(I:Inv X pins σ H s)(hl:gJ X.K H a xs){Q:δ->η->Prop}
  (q:∀(its:List δ) (I':ζ),bt xs its->WalksS X.prog X.w X.A.in1 I' [I',a] [I'] (fun x y=>y=x) its.length (fun i v=>its[i]?=some v) (fun i s=>s.heap.IsListIter I' a i/\s.heap.IsList a its.toArray) ->
   (s.heap.push { cls:=.type "list_iterator",data:=.fields #[.ref a,.int 0 0]}).IsListIter I' a 0->(s.heap.push { cls:=.type "list_iterator",data:=.fields #[.ref a,.int 0 0]}).IsList a its.toArray ->
   (∀b∈[I',a],b<(s.heap.push { cls:=.type "list_iterator",data:=.fields #[.ref a,.int 0 0]}).objs.size) ->
   (∀s',pX [I'] (fun x y=>y=x) { s with heap:=s.heap.push { cls:=.type "list_iterator",data:=.fields #[.ref a,.int 0 0]}} s'->Inv X pins σ H s')->Q (.ref I') { s with heap:=s.heap.push { cls:=.type "list_iterator",data:=.fields #[.ref a,.int 0 0]}}):
  ρ (model X.prog X.w) X.A.in1 (pyIter (.ref a)) Q E s:=by
 obtain⟨its,rv,pl,_⟩:=I.list hl;have hla:a<s.heap.objs.size:=by
  obtain⟨o,h1,_⟩:=pl.isList;exact aa h1
 refine nV pl.isList ?_;have hW:=(Walks.list (prog:=X.prog) (w:=X.w) (A:=X.A.in1) (by have:=I.ok.hd hc;simpa using this) s.heap.objs.size a (aZ hla) its.toArray).toS;refine q its s.heap.objs.size rv (by simpa using hW) ⟨_,aM _ rfl,rfl,rfl⟩ ?_ ?_ fun s' hm=>?_
 ·obtain⟨o,h1,h2⟩:=pl.isList;exact⟨o,μ _ h1,h2⟩
 ·intro b hb;rw[size_push'];rcases ak.mp hb with e|e
  ·rw[e];exact iS _
  ·have:b=a:=by simpa using e
   rw[this];exact et hla
 ·have e:s'={ s with heap:=s'.heap,toks:=s'.toks }:=by
   cases s';cases s;have h1:=hm.gens;have h2:=hm.drawn;have h3:=hm.os;simp only at h1 h2 h3;subst h1 h2 h3;rfl
  rw[e];exact I.kept fun b u z=>hm.heap b u (fun y=>by
   have:b=s.heap.objs.size:=by simpa using y
   exact absurd (this▸aa z) (cw _)) (μ _ z)
theorem Rz(hc:X.calm=true):ie X (.builtin "all") (fun vs H Q=>∃(a:ζ) (bs:List Bool),vs=[.ref a]/\gJ X.K H a (bs.map V.bl)/\Q (.bl (bs.all id)) H):=by
 intro pins s σ H vs us Q I r h;obtain⟨a,bs,rfl,hl,q⟩:=h;obtain⟨u,rfl,ru⟩:=vals1 r;cases ru;refine call_all_walkS (RA hc I hl fun its I' rv W h1 h2 h3 back=>⟨I',_,_,_,_,_,_,fun i=>bs.getD i false,rfl,W,⟨h1,h2⟩,?_,fun s' hm=>?_⟩)
 ·intro i v s' Q' E' hv hq;have hx:=II rv;subst hx;rw[aT] at hv;cases hb:bs[i]? with
  |none=>rw[hb] at hv;cases hv
  |some b=>
   rw[hb] at hv;cases hv;have:bs.getD i false=b:=by simp[m9,hb]
   dsimp only at hq;rw[this] at hq;exact fo hq
 ·have:its.length=bs.length:=by rw[←rv.length,π]
  rw[this,range_all];exact⟨.bl (bs.all id),H,back s' hm,rfl,q⟩
def x9:C3:=fun ds G Q=>match ds with
 |[.obj a]=>∃xs bs,G a=some (.lst xs)/\og xs=some bs/\Q (.bl (bs.all id)) G
 |_=>False
theorem Ry:tR K x9 (fun vs H Q=>∃(a:ζ) (bs:List Bool),vs=[.ref a]/\gJ K H a (bs.map V.bl)/\Q (.bl (bs.all id)) H):=fun ds vs G H Q3 Q h RG q k=>by
 rcases ds with _|⟨d,_|⟨d2,ds⟩⟩
 ·exact q.elim
 ·obtain⟨v,rfl,hv⟩:=tG h;cases d with
  |obj a=>
   obtain⟨xs,bs,e1,e2,q⟩:=q;obtain⟨ys,e3,e4⟩:=RG a _ e1;rw[jJ hv];rw[Aq e4 e2] at e3;exact⟨a,bs,rfl,.of e3,k _ H _ G mv (.refl H G) RG q⟩
  |_=>exact q.elim
 ·cases d<;>exact q.elim
theorem Rx(hu:X.A.units+64<cLine)(hm:X.mg "all" = none)(ha:jt X (e::es) t)(hc:X.calm=true:=by rfl)(hg:Gl X "all":=by rfl)(he:notStar e=true:=by rfl)(hpl:es.all notStar=true:=by rfl):
  bW X (.Call (.Name "all" p) (e::es) [] pos) (dJ x9 t):=vh Ry (oO (Rz hc) hg hm rfl ha (he:=dW he) (hpl:=jo hpl))
end
end L3
namespace L3
open PySem PySem.Spec PyProof.Rows L2
section
variable {prog:Ω} {w:aw} {A:aF} {E:δ->η->Prop} {s:η}
theorem Rw(lo hi i:Int):(jA lo hi 1 i).isSome=(decide (lo≤i)&&decide (i<hi)):=by
 unfold jA;dsimp only;rw[if_pos (c:=(1:Int) > 0) (by decide),Int.emod_one];cases (decide (lo≤i)&&decide (i<hi))<;>rfl
theorem IH{r:ζ}{lo hi i:Int}{t u v tk:Tok}{Q:Bool->η->Prop}(hr:s.heap.get? r=some { cls:=.type "range",data:=.fields #[.int lo t,.int hi u,.int 1 v]})(h:Q (decide (lo≤i)&&decide (i<hi)) s):
  ρ (model prog w) A (contains (.ref r) (.int i tk)) Q E s:=by
 have hT:s.TypeIs (.ref r) "range":=⟨_,hr,rfl⟩;refine wpAny_contains_slot hT m4 (dN m4 hT PySem.F.entry_range_contains ?_ (PySem.F.args_range_contains_2 _ _));show ρ _ _ (oz (.ref r) >>= _) _ _ s;unfold oz;refine ε (ε (dU hr rfl (x:=.int lo t) rfl (ε (ο (ε (dU hr rfl (x:=.int hi u) rfl (ε (ο (ε (dU hr rfl (x:=.int 1 v) rfl (ε (ο (ο ?_)))))))))))));show ρ _ _ (pure (Fin.done (Flow.ret (da (jA lo hi 1 i).isSome)))) _ _ s;rw[Rw];exact ο ⟨_,rfl,fo h⟩
end
section
variable {X:Cx} {a b c:υ} {ta:TE} {tb:TA} {op:kf} {p pos pos':aV}
def yJ(neg:Bool)(lo hi i:Int):Bool:=if neg then !(decide (lo≤i)&&decide (i<hi)) else (decide (lo≤i)&&decide (i<hi))
def EN(neg:Bool)(ta:TE)(tb:TA):TE:=fun σ H Q=>ta σ H fun x H1=>tb σ H1 fun vs H2=>∃i hi,x=.int i/\vs=[.int hi]/\Q (.bl (yJ neg 0 hi i)) H2
def EM(neg:Bool)(ta:TE)(tb:TA):TE:=fun σ H Q=>ta σ H fun x H1=>tb σ H1 fun vs H2=>∃i lo hi,x=.int i/\vs=[.int lo,.int hi]/\Q (.bl (yJ neg lo hi i)) H2
def KD(neg:Bool):kf:=if neg then .NotIn else .In
theorem Rv{pins:List (ζ×aW)}{s:η}{σ:L2.St}{H:Hp}{Q:VK}{i lo hi:Int}{t u v tk:Tok}{tks:Nat}(I:L2.Inv X pins σ H s)(q:Q (.bl (decide (lo≤i)&&decide (i<hi))) H):
  ρ (model X.prog X.w) X.A (compareOp .In (.int i tk) (.ref s.heap.objs.size)) (EP X pins σ Q) X.xe { s with heap:=s.heap.push { cls:=.type "range",data:=.fields #[.int lo t,.int hi u,.int 1 v]},toks:=tks }:=by
 show ρ _ _ (contains (.ref s.heap.objs.size) (.int i tk) >>= fun b=>pure (da b)) _ _ _;refine ε (IH (aM _ rfl) (ο ⟨.bl _,H,I.kept fun b ob q=>μ _ q,rfl,q⟩))
theorem Sd{pins:List (ζ×aW)}{s:η}{σ:L2.St}{H:Hp}{Q:VK}{i lo hi:Int}{t u v tk:Tok}{tks:Nat}(I:L2.Inv X pins σ H s)(q:Q (.bl (!(decide (lo≤i)&&decide (i<hi)))) H):
  ρ (model X.prog X.w) X.A (compareOp .NotIn (.int i tk) (.ref s.heap.objs.size)) (EP X pins σ Q) X.xe { s with heap:=s.heap.push { cls:=.type "range",data:=.fields #[.int lo t,.int hi u,.int 1 v]},toks:=tks }:=by
 show ρ _ _ (contains (.ref s.heap.objs.size) (.int i tk) >>= fun b=>pure (da (!b))) _ _ _;refine ε (IH (aM _ rfl) (ο ⟨.bl _,H,I.kept fun b ob q=>μ _ q,rfl,q⟩))
theorem IG{neg:Bool}{pins:List (ζ×aW)}{s:η}{σ:L2.St}{H:Hp}{Q:VK}{i lo hi:Int}{t u v tk:Tok}{tks:Nat}(I:L2.Inv X pins σ H s)(q:Q (.bl (yJ neg lo hi i)) H):
  ρ (model X.prog X.w) X.A (compareOp (KD neg) (.int i tk) (.ref s.heap.objs.size)) (EP X pins σ Q) X.xe { s with heap:=s.heap.push { cls:=.type "range",data:=.fields #[.int lo t,.int hi u,.int 1 v]},toks:=tks }:=by
 cases neg with
 |false=>exact Rv I q
 |true=>exact Sd I q
theorem Sb{neg:Bool}(hg:Gl X "range")(hm:X.mg "range" = none)(ha:PE X a ta)(hb:PA X [b] tb)(hs:bK [b] X.env=[(false,eval b X.env)]):PC X (KD neg) a (.Call (.Name "range" p) [b] [] pos) (EN neg ta tb):=by
 intro pins s σ H Q I h;refine bS (ha pins s σ H _ I h) fun v s1 ⟨x,H1,I1,r1,q1⟩=>?_;refine Call_ (u9 I1 hg hm rX (eF (bS (hb pos pins s1 σ H1 _ I1 q1) fun us s2 ⟨vs,H2,I2,r2,q2⟩=>?_) hs rfl));obtain⟨i,hi,rfl,rfl,q⟩:=q2;obtain⟨tk,rfl⟩:=r1;cases r2 with
 |cons r rr=>
  cases rr;obtain⟨t,rfl⟩:=r;exact call_range_1 (IG I2 q)
theorem Sa{neg:Bool}(hg:Gl X "range")(hm:X.mg "range" = none)(ha:PE X a ta)(hb:PA X [b,c] tb)(hs:bK [b,c] X.env=[(false,eval b X.env),(false,eval c X.env)])(hs2:bK [c] X.env=[(false,eval c X.env)]):PC X (KD neg) a (.Call (.Name "range" p) [b,c] [] pos) (EM neg ta tb):=by
 intro pins s σ H Q I h;refine bS (ha pins s σ H _ I h) fun v s1 ⟨x,H1,I1,r1,q1⟩=>?_;refine Call_ (u9 I1 hg hm rX (eF (bS (hb pos pins s1 σ H1 _ I1 q1) fun us s2 ⟨vs,H2,I2,r2,q2⟩=>?_) (by rw[hs,hs2]) (by rw[hs2];rfl)));obtain⟨i,lo,hi,rfl,rfl,q⟩:=q2;obtain⟨tk,rfl⟩:=r1;cases r2 with
 |cons r rr=>
  cases rr with
  |cons r' rr=>
   cases rr;obtain⟨t,rfl⟩:=r;obtain⟨t',rfl⟩:=r';exact call_range_2 (IG I2 q)
end
section
variable {X:Cx} {a b c:υ} {ta:aP} {tb:cM} {p pos pos':aV}
def um(neg:Bool)(ta:aP)(tb:cM):aP:=fun τ G Q=>ta τ G fun x G1=>tb τ G1 fun ds G2=>match x,ds with
 |.int i,[.int hi]=>Q (.bl (yJ neg 0 hi i)) G2
 |_,_=>False
def uk(neg:Bool)(ta:aP)(tb:cM):aP:=fun τ G Q=>ta τ G fun x G1=>tb τ G1 fun ds G2=>match x,ds with
 |.int i,[.int lo,.int hi]=>Q (.bl (yJ neg lo hi i)) G2
 |_,_=>False
theorem R9{neg:Bool}{σ:L2.St}{H:Hp}{Q:VK}(h:low X.K (um neg ta tb) σ H Q):EN neg (low X.K ta) (tw X.K tb) σ H Q:=by
 obtain⟨τ,G,Q3,RS,RG,h,k⟩:=h;refine⟨τ,G,_,RS,RG,h,fun v1 H1 d1 G1 h1 S1 R1 q1=>?_⟩;refine⟨τ,G1,_,RS.ext (S1.ext RG),R1,q1,fun vs H2 ds G2 h2 S2 R2 q2=>?_⟩;rcases ds with _|⟨d,_|⟨d2,ds⟩⟩
 ·cases d1<;>exact q2.elim
 ·cases d1 with
  |int i=>
   cases d with
   |int j=>
    obtain⟨v,r,rfl,z1,z2⟩:=h2.inv;cases z2.il;unfold Hv at z1 h1;exact⟨i,j,h1,by rw[z1],k _ _ _ _ mv (S1.trans S2) R2 q2⟩
   |_=>exact q2.elim
  |_=>exact q2.elim
 ·cases d1 with
  |int i=>cases d<;>exact q2.elim
  |_=>exact q2.elim
theorem R8{neg:Bool}{σ:L2.St}{H:Hp}{Q:VK}(h:low X.K (uk neg ta tb) σ H Q):EM neg (low X.K ta) (tw X.K tb) σ H Q:=by
 obtain⟨τ,G,Q3,RS,RG,h,k⟩:=h;refine⟨τ,G,_,RS,RG,h,fun v1 H1 d1 G1 h1 S1 R1 q1=>?_⟩;refine⟨τ,G1,_,RS.ext (S1.ext RG),R1,q1,fun vs H2 ds G2 h2 S2 R2 q2=>?_⟩;rcases ds with _|⟨d,_|⟨d2,_|⟨d3,ds⟩⟩⟩
 ·cases d1<;>exact q2.elim
 ·cases d1 with
  |int i=>cases d<;>exact q2.elim
  |_=>exact q2.elim
 ·cases d1 with
  |int i=>
   cases d with
   |int lo=>
    cases d2 with
    |int hi=>
     obtain⟨v,r,rfl,z1,z2⟩:=h2.inv;obtain⟨v',r',rfl,z3,z4⟩:=z2.inv;cases z4.il;unfold Hv at z1 z3 h1;exact⟨i,lo,hi,h1,by rw[z1,z3],k _ _ _ _ mv (S1.trans S2) R2 q2⟩
    |_=>exact q2.elim
   |_=>exact q2.elim
  |_=>exact q2.elim
 ·cases d1 with
  |int i=>
   cases d with
   |int lo=>cases d2<;>exact q2.elim
   |_=>exact q2.elim
  |_=>exact q2.elim
theorem R7(ha:bW X a ta)(hm:X.mg "range" = none)(hb:jt X [b] tb)(hg:Gl X "range":=by rfl)(hs:notStar b=true:=by rfl):bW X (.Compare a [.In] [.Call (.Name "range" p) [b] [] pos'] pos) (um false ta tb):=
 iC (Ki (op:=.In) (Sb (neg:=false) hg hm ha hb (dW hs)) rfl) fun _ _ _ h=>R9 h
theorem R6(ha:bW X a ta)(hm:X.mg "range" = none)(hb:jt X [b,c] tb)(hg:Gl X "range":=by rfl)(hs:notStar b=true:=by rfl)(hs2:notStar c=true:=by rfl):bW X (.Compare a [.In] [.Call (.Name "range" p) [b,c] [] pos'] pos) (uk false ta tb):=
 iC (Ki (op:=.In) (Sa (neg:=false) hg hm ha hb (by rw[dW hs,dW hs2];rfl) (dW hs2)) rfl) fun _ _ _ h=>R8 h
end
end L3
namespace ff
open PySem mI
section
variable {prog:Ω} {w:aw} {A:aF} {E:δ->η->Prop} {s:η}
theorem xh{l:ζ}{vs:List δ}{ps:List (List Int×ζ)}{Q:δ->η->Prop}(hh:A.handled=none)(hl:s.heap.IsTuple l vs.toArray)(hv:vs=ps.map fun p=>bo p.2)(hk:∀p∈ps,gQ prog w s.heap p.1 p.2)(hn:ps.length≤1100)
  (hu:A.units+4<cLine)
  (h:∀h' tk xs,(∀b ob,s.heap.get? b=some ob->h'.get? b=some ob)->kN prog w h' s.heap.objs.size xs->tU ps xs->Q (.ref s.heap.objs.size) { s with heap:=h',toks:=tk }):
  ρ (model prog w) A (call (.type "set") [.ref l]) Q E s:=by
 obtain⟨c,tl,hmro⟩:=F.called_set.mro;have hmade:=F.called_set.made;have hsub:=F.called_set.sub;refine gv (lW ?_);show ρ _ _ (callAny (.type "set") _) _ _ _;refine ο ⟨jY _ (by decide +kernel),gd F.entry_type_call ?_⟩;rw[ug (weight_type_call_type "set" [.ref l] []) rfl];have h1:=F.called_set.notType;have h2:=F.called_set.canCreate;have hct:=F.typeCall_set_1 (.ref l)
 repeat (any_goals (first|assumption|wp_step))
 refine dP (IW (.ref l) (E:=E) (Q₁:=fun obj s₁=>obj=.ref s.heap.objs.size/\s₁={ s with heap:=s.heap.push (cU w)}) ⟨rfl,rfl⟩) fun r s₁ hr=>?_;cases r with
 |error e=>exact hr
 |ok fl=>
  cases fl with
  |ret obj=>
   obtain⟨rfl,rfl⟩:=hr;have hS:(s.heap.push (cU w)).get? s.heap.objs.size=some (cU w):=aM _ rfl;have hT:nJ { s with heap:=s.heap.push (cU w)} (.ref s.heap.objs.size) "set":=⟨_,hS,rfl⟩;have hli:=F.called_set.init.lookup;have hbi:=F.called_set.init.bind (.ref s.heap.objs.size)
   repeat (any_goals (first|assumption|wp_step))
   refine dP (iQ (R:=wants (fun r s₂=>r=.none/\∃h' tk xs,s₂={ s with heap:=h',toks:=tk }/\(∀b ob,s.heap.get? b=some ob->h'.get? b=some ob)/\kN prog w h' s.heap.objs.size xs/\tU ps xs) E)
    F.called_set.init.plain F.entry_set_init (check_set_init_1 hT ?_)) fun r₂ s₂ hr₂=>?_
   ·obtain⟨ol,hol,hcl,nl,hdl⟩:=hl;obtain⟨ocls,odict,odata,oslots⟩:=ol;simp only at hcl hdl;subst hcl;subst hdl;have hol':(s.heap.push (cU w)).get? l=some { cls:=.type "tuple",dict:=odict,data:=.seq vs.toArray nl,slots:=oslots }:=μ _ hol;have hsls:=F.sub_tuple_set;have hslf:=F.sub_tuple_frozenset;have b7:(lZ "tuple" == lZ "dict")=false:=by decide
    have hl1:(s.heap.push (cU w)).IsTuple l vs.toArray:=⟨_,hol',rfl,nl,rfl⟩;have hS2:(s.heap.push (cU w)).get? s.heap.objs.size=some { cls:=.type "set",dict:=none,data:=.set #[] 0 (.fresh 0 0 (!(jR w)))}:=hS;unfold dI.«set.__init__» noKeywords mQ;generalize hPI:pyIter=PI;wp_walk;subst hPI;refine wpAny_pyIter_tuple hl1 ?_;refine ε (qG ?_);have hlS:l<s.heap.objs.size:=aa hol;have hh3:A.in1.in1.in1.handled=none:=by simp[hh]
    have hu3:A.in1.in1.in1.units<cLine:=by
     show A.units+1+1+1<cLine;lia
    have fz:(s.heap.push (cU w)).objs.size=s.heap.objs.size+1:=iz ..;have hneI:l≠(s.heap.push (cU w)).objs.size:=by
     rw[fz];exact aZ (et hlS)
    have hSf:s.heap.objs.size∉[(s.heap.push (cU w)).objs.size,l]:=by
     rw[fz];intro z;rcases ak.mp z with z|z
     ·exact absurd z (aZ (iS _))
     ·have:s.heap.objs.size=l:=by simpa using z
      exact absurd this (ix hlS)
    have hlen:vs.toArray.size=ps.length:=by rw[hv];simp
    refine IU (Walks.tuple hh3 _ l hneI vs.toArray) s.heap.objs.size hSf ps hlen.symm (by rw[hlen];exact hn) hu3 (fun i v e=>?_) (fun p hp=>?_) (vs.toArray.size-0) 0 _ [] rfl (aG _)
     ⟨⟨_,aM _ rfl,rfl,rfl⟩,hl1.push _⟩ ?hS0 ⟨(fun p hp=>(nomatch hp)),(fun p hp=>by rw[mL] at hp;cases hp),aG _⟩ (fun p hp=>?_) ?hR
    case hS0=>
     refine⟨_,#[],0,_,⟨μ _ hS2,⟨rfl,rfl,rfl⟩,rfl,rfl,(fun p hp=>(nomatch hp)),List.nodup_nil,rfl,rfl⟩,IV _⟩
    case hR=>
     intro h' tk xs q1 q2 q3;refine ο ?_;show ρ _ _ (ret bz) _ _ _;refine ο ⟨rfl,h',tk,xs,rfl,fun b ob e=>?_,q2,q3⟩;have hb:=aa e;refine q1 b ob (aZ hb) ?_ (μ _ (μ _ e));rw[fz];exact aZ (et hb)
    ·rw[hv,qS,aT] at e;cases hp:ps[i]? with
     |none=>rw[hp] at e;cases e
     |some p=>rw[hp] at e;exact⟨p,rfl,(aD e).symm⟩
    ·obtain⟨oy,_,_,ho,_⟩:=hk p hp;have hb:=aa ho;rw[fz];exact⟨aZ (et hb),aZ hb⟩
    ·obtain⟨oy,items,m,ho,r⟩:=hk p hp;exact⟨oy,items,m,μ _ (μ _ ho),r⟩
   ·cases r₂ with
    |error e=>exact hr₂
    |ok fl₂=>
     cases fl₂ with
     |ret r=>
      obtain⟨rfl,h',tk,xs,rfl,q1,q2,q3⟩:=hr₂
      repeat (any_goals (first|assumption|wp_step))
      exact h _ _ _ q1 q2 q3
     |_=>exact hr₂.elim
  |_=>exact hr.elim
end
end ff
namespace L3
open PySem PySem.Spec PyProof.Rows L2
section
variable {X:Cx}
theorem R5(hc:X.calm=true)(hu:X.A.units+64<cLine):ie X (.type "set") (fun vs H Q=>∃(a:ζ) (xs:List V) (nss:List (List Int)),vs=[.ref a]/\dh X.K H a xs/\aJ X.K H (nss.map tupI) xs/\nss.length≤60 ∧
  ∀(b:ζ) (zs:List (List Int×ζ)),H b=none->(∀p∈zs,dh X.K H p.2 (p.1.map V.int))->(∀ns,ns∈zs.map (·.1)↔ns∈nss)->(zs.map (·.1)).Nodup->zs.length≤nss.length->Q (.ref b) (upd H b (.ext (lF X.prog X.w b zs)))):=by
 intro pins s σ H vs us Q I r h;obtain⟨a,xs,nss,rfl,hl,hv,hz,q⟩:=h;obtain⟨u,rfl,ru⟩:=vals1 r;cases ru;obtain⟨its,rv,pl,_⟩:=I.tuple hl;obtain⟨ps,e1,e2,e3,e4⟩:=yb I hv rv;subst e3;have hlen:ps.length=nss.length:=by rw[←e1,π]
 refine ff.xh (ps:=ps) (I.ok.hd hc) pl rfl (fun p hp=>(e4 p hp).2) (by lia) (by lia) fun h' tk zs kk hS hD=>?_;obtain⟨o,es,ep,t,S,T⟩:=hS;refine⟨.ref s.heap.objs.size,_,I.laid (o:=.ext (lF X.prog X.w s.heap.objs.size zs)) kk (Θ _) ?_,rfl,q _ zs (I.bI.fresh (Θ _)) (fun p hp=>(e4 p (hD.sub p hp)).1) (fun ns=>?_) S.nd ?_⟩
 ·refine⟨⟨o,es,ep,t,S.at_,S.ex,S.dat,S.ents,S.nd,S.plain,S.led,T⟩,⟨o,S.at_⟩,fun h1 h2 ⟨o',es',ep',t',y1,y⟩ kk2=>⟨o',es',ep',t',kk2 _ y1,y⟩⟩
 ·rw[←e1];constructor
  ·intro hm;obtain⟨p,hp,rfl⟩:=aQ.mp hm;exact aQ.mpr ⟨p,hD.sub p hp,rfl⟩
  ·intro hm;obtain⟨p,hp,rfl⟩:=aQ.mp hm;exact hD.all p hp
 ·rw[←hlen];exact hD.len
end
section
variable {X:Cx} {K:θ} {e:υ} {es:List υ} {t:cM} {ta:aP} {pos p p' pos':aV}
def tI(ta:aP):aP:=fun τ G Q=>ta τ G fun x G1=>match x with
 |.tup ds=>∃nss:List (List Int),ds=nss.map tupI/\nss.length≤60/\(∀ns∈nss,ns≠[])/\∀(p:ζ) (mss:List (List Int)) (G':Gp),gk G1 p (.lst (mss.map tupI)) G'->(∀ns,ns∈mss↔ns∈nss)->mss.Nodup->mT mss->mss.length≤nss.length->Q (.obj p) G'
 |_=>False
theorem RZ(hu:X.A.units+64<cLine)(ha:bW X e ta)(hm:X.mg "sorted" = none)(hm2:X.mg "set" = none)(hc:X.calm=true:=by rfl)(hg:Gl X "sorted":=by rfl)(hg2:Gl X "set":=by rfl)(he2:notStar e=true:=by rfl):
  bW X (.Call (.Name "sorted" p) [.Call (.Name "set" p') [e] [] pos'] [] pos) (tI ta):=
 iC (oO (IJ hc hu) hg hm rfl (mw (yl (R5 hc hu) hg2 hm2 rfl (mw ha qd (dW he2)) (he:=dW he2) (hpl:=jo rfl)) qd (dW rfl)) (he:=dW rfl) (hpl:=jo rfl)) fun σ H Q ⟨τ,G,Q3,RS,RG,h,k⟩=>by
  refine⟨τ,G,_,RS,RG,h,fun v H1 d G1 h1 S1 R1 q1=>?_⟩;cases d with
  |tup ds=>
   obtain⟨nss,rfl,hz,b7,q⟩:=q1;obtain⟨a,xs,rfl,e2,e3⟩:=nC h1;refine⟨a,xs,nss,rfl,e2,e3,hz,fun b zs hb hk hmem hnd hlen=>?_⟩;have E2:Ext H1 (upd H1 b (.ext (lF X.prog X.w b zs))):=.laid hb;refine⟨b,zs,rfl,iV,fun p hp=>dh.ext E2 (hk p hp),by lia,fun p hp=>b7 _ ((hmem _).mp (aQ.mpr ⟨p,hp,rfl⟩)),fun p mss ys hp hpm hr hv=>?_⟩;have R2:aS X.K G1 (upd H1 b (.ext (lF X.prog X.w b zs))):=R1.laid hb;refine k _ _ (.obj p) _ tj ((S1.trans (.laid hb)).trans (.jq hp)) (R2.tu hp hv) (q p mss _ (.mk' (R2.free hp)) (fun ns=>?_) ?_ hr ?_)
   ·rw[hpm.mem_iff];exact hmem ns
   ·exact hpm.nodup_iff.mpr hnd
   ·rw[hpm.length_eq,π];exact hlen
  |_=>exact q1.elim
end
end L3
namespace L3
open PySem PySem.Spec PyProof.Rows L2
structure QE(X:Cx)(e:υ)(t:aP):Prop where
 of:bW X e t
structure QT(X:Cx)(e:υ)(t:cI):Prop where
 of:qz X e t
structure QW(X:Cx)(e:υ)(t:cI):Prop where
 of:xc X e t
structure QA(X:Cx)(es:List υ)(t:cM):Prop where
 of:jt X es t
structure QS(X:Cx)(st:aY)(t:bj):Prop where
 of:qA X st t
structure pQ(X:Cx)(st:List aY)(t:bj):Prop where
 of:jd X st t
structure QG(X:Cx)(tg:υ)(t:iE):Prop where
 of:vS X tg t
structure Fl(X:Cx)(tgs:List υ)(t:oW):Prop where
 of:yU X tgs t
structure QI(X:Cx)(tg iter:υ)(t:pP):Prop where
 of:yS X tg iter t
structure QO(X:Cx)(e:Option υ)(t:xa):Prop where
 of:Cp X e t
structure QC(X:Cx)(ifs:List υ)(t:cI):Prop where
 of:uH X ifs (rE X.K t)
section
variable {X:Cx} {a b e c:υ} {ta tb te:aP} {tA tB:cI} {pos:aV} {es rest:List υ}
theorem ah{i:Nat}{x:ν}(h:PE X (.Name x pos) (zH i)):QE X (.Name x pos) (χ i):=⟨Ui (h:=h)⟩
end
section
variable {X:Cx} {a b e c:υ} {ta tb te:aP} {tA tB:cI} {pos:aV} {es rest:List υ}
theorem bp{i:Int}{j}:QE X (.Constant (.int i) j pos) (eC (.int i)):=⟨Uh ⟩
end
section
variable {X:Cx} {a b e c:υ} {ta tb te:aP} {tA tB:cI} {pos:aV} {es rest:List υ}
theorem rm{i:Bool}{j}:QE X (.Constant (.bool i) j pos) (eC (.bl i)):=⟨WR ⟩
end
section
variable {X:Cx} {a b e c:υ} {ta tb te:aP} {tA tB:cI} {pos:aV} {es rest:List υ}
theorem AU{j}:QE X (.Constant .none j pos) (eC .aO):=⟨Ug ⟩
end
section
variable {X:Cx} {a b e c:υ} {ta tb te:aP} {tA tB:cI} {pos:aV} {es rest:List υ}
theorem mm{x:ν}{j}:QE X (.Constant (.str x) j pos) (eC (.str x)):=⟨Ue ⟩
end
section
variable {X:Cx} {a b e c:υ} {ta tb te:aP} {tA tB:cI} {pos:aV} {es rest:List υ}
theorem IF{x:ν}{i:Int}{u:Tok}(hm:X.mg x=some (.int i u))(hg:Gl X x:=by rfl)(hd:(x==("__debug__":ν))=false:=by decide):QE X (.Name x pos) (eC (.int i)):=⟨Ud (hm:=hm) (hg:=hg) (hd:=hd)⟩
end
section
variable {X:Cx} {a b e c:υ} {ta tb te:aP} {tA tB:cI} {pos:aV} {es rest:List υ}
theorem dv{op:Operator}{r:R3}{r2:R2}(L:fg X.K r r2)(ho:eS X (binaryOp op) r2)(ha:QE X a ta)(hb:QE X b tb):QE X (.BinOp a op b pos) (aR r ta tb):=⟨WO (L:=L) (ho:=ho) (ha:=ha.of) (hb:=hb.of)⟩
end
section
variable {X:Cx} {a b e c:υ} {ta tb te:aP} {tA tB:cI} {pos:aV} {es rest:List υ}
theorem AR{op:kf}{r:R3}{r2:R2}(L:fg X.K r r2)(ho:eS X (compareOp op) r2)(ha:QE X a ta)(hb:QE X b tb)(hm:behindInMarks op b=false):QE X (.Compare a [op] [b] pos) (aR r ta tb):=⟨Uc (L:=L) (ho:=ho) (ha:=ha.of) (hb:=hb.of) (hm:=hm)⟩
end
section
variable {X:Cx} {a b e c:υ} {ta tb te:aP} {tA tB:cI} {pos:aV} {es rest:List υ}
theorem iB{op:kf}{r:R3}{r2:R2}(L:fg X.K r r2)(ho:eS X (compareOp op) r2)(ha:QE X a ta)(hb:QE X b tb)(hm:behindInMarks op b=false):QT X (.Compare a [op] [b] pos) (bX (aR r ta tb)):=⟨Ub (L:=L) (ho:=ho) (ha:=ha.of) (hb:=hb.of) (hm:=hm)⟩
end
section
variable {X:Cx} {a b e c:υ} {ta tb te:aP} {tA tB:cI} {pos:aV} {es rest:List υ}
theorem oN(h:QE X a ta)(he:∀whole,isTrue a X.env whole=(do let v ←whole;standAt a.pos;holding [v] (truthy v)):=by intro _;rfl):QT X a (bX ta):=⟨Ua (h:=h.of) (he:=he)⟩
end
section
variable {X:Cx} {a b e c:υ} {ta tb te:aP} {tA tB:cI} {pos:aV} {es rest:List υ}
theorem RY(ha:QE X a ta):QE X (.UnaryOp .USub a pos) (K6 zO ta):=⟨T6 (ha:=ha.of)⟩
end
section
variable {X:Cx} {a b e c:υ} {ta tb te:aP} {tA tB:cI} {pos:aV} {es rest:List υ}
theorem AQ(ha:QT X a tA):QW X (.BoolOp .And [a] pos) tA:=⟨T5 (ha:=ha.of)⟩
end
section
variable {X:Cx} {a b e c:υ} {ta tb te:aP} {tA tB:cI} {pos:aV} {es rest:List υ}
theorem wD(ha:QT X a tA):QW X (.BoolOp .Or [a] pos) tA:=⟨T4 (ha:=ha.of)⟩
end
section
variable {X:Cx} {a b e c:υ} {ta tb te:aP} {tA tB:cI} {pos:aV} {es rest:List υ}
theorem xZ(ha:QT X a tA)(hb:QW X (.BoolOp .And (b::rest) pos) tB):QW X (.BoolOp .And (a::b::rest) pos) (vj tA tB):=⟨TZ (ha:=ha.of) (hb:=hb.of)⟩
end
section
variable {X:Cx} {a b e c:υ} {ta tb te:aP} {tA tB:cI} {pos:aV} {es rest:List υ}
theorem rl(ha:QT X a tA)(hb:QW X (.BoolOp .Or (b::rest) pos) tB):QW X (.BoolOp .Or (a::b::rest) pos) (qr tA tB):=⟨TY (ha:=ha.of) (hb:=hb.of)⟩
end
section
variable {X:Cx} {a b e c:υ} {ta tb te:aP} {tA tB:cI} {pos:aV} {es rest:List υ}
theorem qc(h:QW X a tA):QT X a tA:=⟨Mq (h:=h.of)⟩
end
section
variable {X:Cx} {a b e c:υ} {ta tb te:aP} {tA tB:cI} {pos:aV} {es rest:List υ}
theorem sZ(ha:QT X a tA):QT X (.UnaryOp .Not a pos) (mE tA):=⟨TX (ha:=ha.of)⟩
end
section
variable {X:Cx} {a b e c:υ} {ta tb te:aP} {tA tB:cI} {pos:aV} {es rest:List υ}
theorem xY{op}(h:QE X a ta):QE X (.BoolOp op [a] pos) ta:=⟨TV (h:=h.of)⟩
end
section
variable {X:Cx} {a b e c:υ} {ta tb te:aP} {tA tB:cI} {pos:aV} {es rest:List υ}
theorem xX(ha:QE X a ta)(hb:QE X (.BoolOp .And (b::rest) pos) tb):QE X (.BoolOp .And (a::b::rest) pos) (rQ ta tb):=⟨TU (ha:=ha.of) (hb:=hb.of)⟩
end
section
variable {X:Cx} {a b e c:υ} {ta tb te:aP} {tA tB:cI} {pos:aV} {es rest:List υ}
theorem IE(ha:QE X a ta):QE X (.UnaryOp .Not a pos) (Bv ta):=⟨UB (ha:=ha.of)⟩
end
section
variable {X:Cx} {a b e c:υ} {ta tb te:aP} {tA tB:cI} {pos:aV} {es rest:List υ}
theorem aU  : QA X [] av:=⟨UA ⟩
end
section
variable {X:Cx} {a b e c:υ} {ta tb te:aP} {tA tB:cI} {pos:aV} {es rest:List υ}
theorem Φ{tr:cM}(ha:QE X a ta)(hr:QA X es tr)(hs:notStar a=true:=by rfl):QA X (a::es) (ξ ta tr):=⟨Uz (ha:=ha.of) (hr:=hr.of) (hs:=hs)⟩
end
section
variable {X:Cx} {a b e c:υ} {ta tb te:aP} {tA tB:cI} {pos:aV} {es rest:List υ}
theorem iU{t:cM}{x1}(h:QA X es t):QE X (.Tuple es x1 pos) (eP t):=⟨Uy (h:=h.of)⟩
end
section
variable {X:Cx} {a b e c:υ} {ta tb te:aP} {tA tB:cI} {pos:aV} {es rest:List υ}
theorem oM{t:cM}(h:QA X es t):QE X (.List es pos) (mF t):=⟨Ux (h:=h.of)⟩
end
section
variable {X:Cx} {st:aY} {rest:List aY} {t u:bj} {e c:υ} {te:aP} {tc:cI} {pos:aV}
theorem lJ  : pQ X [] fc:=⟨Tx ⟩
end
section
variable {X:Cx} {st:aY} {rest:List aY} {t u:bj} {e c:υ} {te:aP} {tc:cI} {pos:aV}
theorem dF(h1:QS X st t)(h2:pQ X rest u):pQ X (st::rest) (cm t u):=⟨Tw (h1:=h1.of) (h2:=h2.of)⟩
end
section
variable {X:Cx} {st:aY} {rest:List aY} {t u:bj} {e c:υ} {te:aP} {tc:cI} {pos:aV}
theorem dt(h1:QS X st t):pQ X [st] t:=⟨Tv (h1:=h1.of)⟩
end
section
variable {X:Cx} {st:aY} {rest:List aY} {t u:bj} {e c:υ} {te:aP} {tc:cI} {pos:aV}
theorem xW(he:QE X e te)(hs:swapsWith e none pos.line X.env=pure false:=by rfl):QS X (.Expr e pos) (qZ te):=⟨Tu (he:=he.of) (hs:=hs)⟩
end
section
variable {X:Cx} {st:aY} {rest:List aY} {t u:bj} {e c:υ} {te:aP} {tc:cI} {pos:aV}
theorem fX(he:QE X e te):QS X (.Return (some e) pos) (di te):=⟨Tt (he:=he.of)⟩
end
section
variable {X:Cx} {st:aY} {rest:List aY} {t u:bj} {e c:υ} {te:aP} {tc:cI} {pos:aV}
theorem lg{a b:List aY}(hc:QT X c tc)(ha:pQ X a t)(hb:pQ X b u):QS X (.If c a b pos) (jn tc t u):=⟨MB (hc:=hc.of) (ha:=ha.of) (hb:=hb.of)⟩
end
section
variable {X:Cx} {pos:aV} {e:υ} {es:List υ}
theorem oP{i:Nat}{x:ν}(hN:X.N.Nodup)(hi:X.N[i]?=some x:=by rfl)(hx:Loc X.env.scope x:=by first|exact tX rfl|exact qO rfl)(hf:X.fn x=true∨X.env.scope.names.lookup x=some .local:=by first|exact .inl rfl|exact .inr rfl|assumption):QG X (.Name x pos) (hName i):=⟨Ts (hN:=hN) (hi:=hi) (hx:=hx) (hf:=hf)⟩
end
section
variable {X:Cx} {pos:aV} {e:υ} {es:List υ}
theorem Rj  : Fl X [] Eh:=⟨Tr ⟩
end
section
variable {X:Cx} {pos:aV} {e:υ} {es:List υ}
theorem ID{t:iE}{u:oW}(h1:QG X e t)(h2:Fl X es u)(hs:(assignEach (e::es) X.env).map (·.2)=assign e X.env::(assignEach es X.env).map (·.2):=by rfl):Fl X (e::es) (xk t u):=⟨Tq (h1:=h1.of) (h2:=h2.of) (hs:=hs)⟩
end
section
variable {X:Cx} {pos:aV} {e:υ} {es:List υ}
theorem Ri{k:Nat}{t:oW}{n:Nat}(hc:X.calm=true)(h:Fl X es t)(hn:(assignEach es X.env).length=n:=by rfl)(hst:(assignEach es X.env).findIdx? (·.1)=none:=by rfl):QG X (.Tuple es k pos) (Eg n t):=⟨Tp (hc:=hc) (h:=h.of) (hn:=hn) (hst:=hst)⟩
end
section
variable {X:Cx} {pos:aV} {e:υ} {es:List υ}
theorem Dq{tg:υ}{te:aP}{g:iE}(he:QE X e te)(hg:QG X tg g)(hs:swapsWithSole [tg] e pos.line X.env=pure false:=by rfl)(hw:swappedStores [tg] e X.env=pure none:=by rfl)(h1:(assignEach [tg] X.env).map (·.2)=[assign tg X.env]:=by rfl):QS X (.Assign [tg] e pos) (dj te g):=⟨Tn (he:=he.of) (hg:=hg.of) (hs:=hs) (hw:=hw) (h1:=h1)⟩
end
section
variable {X:Cx} {pos:aV} {e:υ} {es:List υ}
theorem ik{i:Nat}{x:ν}{te:aP}{pos':aV}(hN:X.N.Nodup)(he:QE X e te)(hi:X.N[i]?=some x:=by rfl)(hx:Loc X.env.scope x:=by first|exact tX rfl|exact qO rfl)(hs:swapsWith e (some (.Name x pos')) pos.line X.env=pure false:=by rfl)(hf:X.fn x=true∨X.env.scope.names.lookup x=some .local:=by first|exact .inl rfl|exact .inr rfl|assumption):QS X (.Assign [.Name x pos'] e pos) (dj te (hName i)):=⟨Tj (hN:=hN) (he:=he.of) (hi:=hi) (hx:=hx) (hs:=hs) (hf:=hf)⟩
end
section
variable {X:Cx} {pos:aV} {e:υ} {es:List υ}
theorem IC{o i:υ}{to ti:aP}(ho:QE X o to)(hi:QE X i ti) (ha:∀v,assign (.Subscript o i pos) X.env v=(do
   let ov ←holding [v] (eval o X.env)
   let iv ←holding [v,ov] (eval i X.env)
   standAt pos
   holding [v,ov,iv] (setItem ov iv v)
   release [v,ov,iv] []):=by intro _;rfl):QG X (.Subscript o i pos) (hSub to ti):=⟨Th (ho:=ho.of) (hi:=hi.of) (ha:=ha)⟩
end
section
variable {X:Cx} {pos:aV} {e:υ} {es:List υ}
theorem Rh{c:υ}{body:List aY}{tc:cI}{tb:bj}(hp:m6 (model X.prog X.w) X.A X.env X.xe)(hc:QT X c tc)(hb:pQ X body tb):QS X (.While c body [] pos) (xC tc tb):=⟨Tg (hp:=hp) (hc:=hc.of) (hb:=hb.of)⟩
end
section
variable {X:Cx} {k:Nat} {f:ζ} {fd:aB} {ps:List ν} {sp:fO} {x:ν} {p pos:aV} {e:υ} {es:List υ} {t:cM}
theorem e7(F:eX X.prog X.w X.K X.mg X.base k f fd ps sp)(hr:dz k X.A)(hm:X.mg x=some (.ref f))(hk:bN X.K (.ref f)=true)(hb:Binds X.K fd ps [])(ha:QA X (e::es) t)(hg:Gl X x:=by rfl)(hdb:(x==("__debug__":ν))=false:=by decide)(he:notStar e=true:=by rfl)(hpl:es.all notStar=true:=by rfl):QE X (.Call (.Name x p) (e::es) [] pos) (bO sp t):=⟨Tf (F:=F) (hr:=hr) (hm:=hm) (hk:=hk) (hb:=hb) (ha:=ha.of) (hg:=hg) (hdb:=hdb) (he:=he) (hpl:=hpl)⟩
end
section
variable {X:Cx} {tg iter:υ} {pos p:aV}
theorem xV{l:υ}{te:aP}(hl:QE X l te):QI X tg l (vd te):=⟨Te (hl:=hl.of)⟩
end
section
variable {X:Cx} {tg iter:υ} {pos p:aV}
theorem uW{a:υ}{ta:cM}(hm:X.mg "range" = none)(ha:QA X [a] ta)(hg:Gl X "range":=by rfl)(hs:notStar a=true:=by rfl):QI X tg (.Call (.Name "range" p) [a] [] pos) (kM ta):=⟨Tc (hm:=hm) (ha:=ha.of) (hg:=hg) (hs:=hs)⟩
end
section
variable {X:Cx} {tg iter:υ} {pos p:aV}
theorem Rg{a b:υ}{ta:cM}(hm:X.mg "range" = none)(ha:QA X [a,b] ta)(hg:Gl X "range":=by rfl)(hs:notStar a=true:=by rfl)(hs2:notStar b=true:=by rfl):QI X tg (.Call (.Name "range" p) [a,b] [] pos) (vI ta):=⟨Tb (hm:=hm) (ha:=ha.of) (hg:=hg) (hs:=hs) (hs2:=hs2)⟩
end
section
variable {X:Cx} {tg iter:υ} {pos p:aV}
theorem AO{body:List aY}{ti:pP}{g:iE}{tb:bj}(hp:m6 (model X.prog X.w) X.A X.env X.xe)(hc:X.calm=true)(hi:QI X tg iter ti)(hg:QG X tg g)(hb:pQ X body tb)(hs:∀x,foldedSetIterable iter X.env x=pure x:=by intro _;rfl):QS X (.For tg iter body [] pos) (wc ti g tb):=⟨Ta (hp:=hp) (hc:=hc) (hi:=hi.of) (hg:=hg.of) (hb:=hb.of) (hs:=hs)⟩
end
section
variable {X:Cx} {tg iter:υ} {pos p:aV}
theorem uV  : QC X [] (gi):=⟨S9 ⟩
end
section
variable {X:Cx} {tg iter:υ} {pos p:aV}
theorem Jo{c:υ}{t:cI}(h:QT X c t):QC X [c] (t):=⟨S8 (h:=h.of)⟩
end
section
variable {X:Cx} {K:θ}
theorem fJ{a b:υ}{ta tb:aP}{pos:aV}(ha:QE X a ta)(hb:QE X b tb)(hs:qy b:=by intro _ _;rfl):QE X (.Subscript a b pos) (aR cF ta tb):=⟨WQ (ha:=ha.of) (hb:=hb.of) (hs:=hs)⟩
end
section
variable {X:Cx} {K:θ}
theorem Dp{es:List υ}{b:υ}{ta:cM}{tb:aP}{pos pos':aV}(ha:QA X es ta)(hb:QE X b tb)(hs:qy b:=by intro _ _;rfl):QE X (.Subscript (.List es pos') b pos) (tJ ta tb):=⟨TL (ha:=ha.of) (hb:=hb.of) (hs:=hs)⟩
end
section
variable {X:Cx} {a b e:υ} {ta tb:aP} {pos:aV}
theorem Dn  : QO X none vC:=⟨TK ⟩
end
section
variable {X:Cx} {a b e:υ} {ta tb:aP} {pos:aV}
theorem xU(h:QE X e ta):QO X (some e) (rA ta):=⟨TJ (h:=h.of)⟩
end
section
variable {X:Cx} {a b e:υ} {ta tb:aP} {pos:aV}
theorem AN{lo hi:Option υ}{tl th:xa}{p2:aV}(ha:QE X a ta)(hl:QO X lo tl)(hh:QO X hi th):QE X (.Subscript a (.Slice lo hi none p2) pos) (zz ta tl th):=⟨WN (ha:=ha.of) (hl:=hl.of) (hh:=hh.of)⟩
end
section
variable {X:Cx} {K:θ} {e:υ} {es:List υ} {t:cM} {ta:aP} {pos p:aV}
theorem nT(hu:X.A.units+64<cLine)(hm:X.mg "len" = none)(ha:QA X (e::es) t)(hg:Gl X "len":=by rfl)(he:notStar e=true:=by rfl)(hpl:es.all notStar=true:=by rfl):QE X (.Call (.Name "len" p) (e::es) [] pos) (dJ lh t):=⟨TB (hu:=hu) (hm:=hm) (ha:=ha.of) (hg:=hg) (he:=he) (hpl:=hpl)⟩
end
section
variable {X:Cx} {K:θ} {e:υ} {es:List υ} {t:cM} {ta:aP} {pos p:aV}
theorem Rf(hu:X.A.units+64<cLine)(hm:X.mg "int" = none)(ha:QA X (e::es) t)(hg:Gl X "int":=by rfl)(he:notStar e=true:=by rfl)(hpl:es.all notStar=true:=by rfl):QE X (.Call (.Name "int" p) (e::es) [] pos) (dJ Ay t):=⟨SI (hu:=hu) (hm:=hm) (ha:=ha.of) (hg:=hg) (he:=he) (hpl:=hpl)⟩
end
section
variable {X:Cx} {K:θ} {e:υ} {es:List υ} {t:cM} {ta:aP} {pos p:aV}
theorem Dm(hu:X.A.units+64<cLine)(hm:X.mg "max" = none)(ha:QA X (e::es) t)(hc:X.calm=true:=by rfl)(hg:Gl X "max":=by rfl)(he:notStar e=true:=by rfl)(hpl:es.all notStar=true:=by rfl):QE X (.Call (.Name "max" p) (e::es) [] pos) (dJ yd t):=⟨SH (hu:=hu) (hm:=hm) (ha:=ha.of) (hc:=hc) (hg:=hg) (he:=he) (hpl:=hpl)⟩
end
section
variable {X:Cx} {K:θ} {e:υ} {es:List υ} {t:cM} {ta:aP} {pos p:aV}
theorem Rc(hu:X.A.units+64<cLine)(hm:X.mg "min" = none)(ha:QA X (e::es) t)(hc:X.calm=true:=by rfl)(hg:Gl X "min":=by rfl)(he:notStar e=true:=by rfl)(hpl:es.all notStar=true:=by rfl):QE X (.Call (.Name "min" p) (e::es) [] pos) (dJ DW t):=⟨SG (hu:=hu) (hm:=hm) (ha:=ha.of) (hc:=hc) (hg:=hg) (he:=he) (hpl:=hpl)⟩
end
section
variable {X:Cx} {K:θ} {e:υ} {es:List υ} {t:cM} {ta:aP} {pos p:aV}
theorem xT(hu:X.A.units+64<cLine)(hm:X.mg "tuple" = none)(ha:QA X (e::es) t)(hg:Gl X "tuple":=by rfl)(he:notStar e=true:=by rfl)(hpl:es.all notStar=true:=by rfl):QE X (.Call (.Name "tuple" p) (e::es) [] pos) (dJ td t):=⟨SD (hu:=hu) (hm:=hm) (ha:=ha.of) (hg:=hg) (he:=he) (hpl:=hpl)⟩
end
section
variable {X:Cx} {a e:υ} {es:List υ} {ta:aP} {t:cM} {pos p p2:aV}
theorem wC{T:String}{TS:ν}(k:zF T)(hv:gL TS=some (.type T))(ha:QE X a ta)(hm:X.mg "isinstance" = none)(hm2:X.mg TS=none)(hgT:Gl X TS)(hnT:TS≠"__name__")(hdT:(TS==("__debug__":ν))=false)(hg:Gl X "isinstance":=by rfl)(he:notStar a=true:=by rfl):QE X (.Call (.Name "isinstance" p) [a,.Name TS p2] [] pos) (rP T ta):=⟨RI (k:=k) (hv:=hv) (ha:=ha.of) (hm:=hm) (hm2:=hm2) (hgT:=hgT) (hnT:=hnT) (hdT:=hdT) (hg:=hg) (he:=he)⟩
end
section
variable {X:Cx} {K:θ} {e:υ} {es:List υ} {t:cM} {ta:aP} {pos p p' pos':aV}
theorem Jn(hu:X.A.units+64<cLine)(hm:X.mg "sorted" = none)(ha:QA X (e::es) t)(hc:X.calm=true:=by rfl)(hg:Gl X "sorted":=by rfl)(he:notStar e=true:=by rfl)(hpl:es.all notStar=true:=by rfl):QE X (.Call (.Name "sorted" p) (e::es) [] pos) (dJ ya t):=⟨RC (hu:=hu) (hm:=hm) (ha:=ha.of) (hc:=hc) (hg:=hg) (he:=he) (hpl:=hpl)⟩
end
section
variable {X:Cx} {K:θ} {e:υ} {es:List υ} {t:cM} {ta:aP} {pos p p' pos':aV}
theorem Jm(hu:X.A.units+64<cLine)(ha:QE X e ta)(hm:X.mg "sorted" = none)(hm2:X.mg "set" = none)(hc:X.calm=true:=by rfl)(hg:Gl X "sorted":=by rfl)(hg2:Gl X "set":=by rfl)(he2:notStar e=true:=by rfl):QE X (.Call (.Name "sorted" p) [.Call (.Name "set" p') [e] [] pos'] [] pos) (rO ta):=⟨RB (hu:=hu) (ha:=ha.of) (hm:=hm) (hm2:=hm2) (hc:=hc) (hg:=hg) (hg2:=hg2) (he2:=he2)⟩
end
section
variable {X:Cx} {K:θ} {e:υ} {es:List υ} {t:cM} {ta:aP} {pos p p' pos':aV}
theorem Jl(hu:X.A.units+64<cLine)(hm:X.mg "all" = none)(ha:QA X (e::es) t)(hc:X.calm=true:=by rfl)(hg:Gl X "all":=by rfl)(he:notStar e=true:=by rfl)(hpl:es.all notStar=true:=by rfl):QE X (.Call (.Name "all" p) (e::es) [] pos) (dJ x9 t):=⟨Rx (hu:=hu) (hm:=hm) (ha:=ha.of) (hc:=hc) (hg:=hg) (he:=he) (hpl:=hpl)⟩
end
section
variable {X:Cx} {a b c:υ} {ta:aP} {tb:cM} {p pos pos':aV}
theorem Rb(ha:QE X a ta)(hm:X.mg "range" = none)(hb:QA X [b] tb)(hg:Gl X "range":=by rfl)(hs:notStar b=true:=by rfl):QE X (.Compare a [.In] [.Call (.Name "range" p) [b] [] pos'] pos) (um false ta tb):=⟨R7 (ha:=ha.of) (hm:=hm) (hb:=hb.of) (hg:=hg) (hs:=hs)⟩
end
section
variable {X:Cx} {a b c:υ} {ta:aP} {tb:cM} {p pos pos':aV}
theorem Ra(ha:QE X a ta)(hm:X.mg "range" = none)(hb:QA X [b,c] tb)(hg:Gl X "range":=by rfl)(hs:notStar b=true:=by rfl)(hs2:notStar c=true:=by rfl):QE X (.Compare a [.In] [.Call (.Name "range" p) [b,c] [] pos'] pos) (uk false ta tb):=⟨R6 (ha:=ha.of) (hm:=hm) (hb:=hb.of) (hg:=hg) (hs:=hs) (hs2:=hs2)⟩
end
section
variable {X:Cx} {K:θ} {e:υ} {es:List υ} {t:cM} {ta:aP} {pos p p' pos':aV}
theorem Q9(hu:X.A.units+64<cLine)(ha:QE X e ta)(hm:X.mg "sorted" = none)(hm2:X.mg "set" = none)(hc:X.calm=true:=by rfl)(hg:Gl X "sorted":=by rfl)(hg2:Gl X "set":=by rfl)(he2:notStar e=true:=by rfl):QE X (.Call (.Name "sorted" p) [.Call (.Name "set" p') [e] [] pos'] [] pos) (tI ta):=⟨RZ (hu:=hu) (ha:=ha.of) (hm:=hm) (hm2:=hm2) (hc:=hc) (hg:=hg) (hg2:=hg2) (he2:=he2)⟩
end
section
variable {X:Cx} {a b c e o:υ} {es:List υ} {ta tb tc te to:aP} {t:cM} {pos apos cpos p:aV}
theorem Q8{op op':kf}{r r':R3}{r2 r2':R2}(L:fg X.K r r2)(L':fg X.K r' r2')(ho:eS X (compareOp op) r2)(ho':eS X (compareOp op') r2')(ha:QE X a ta)(hb:QE X b tb)(hc:QE X c tc)(hm:lastMarks [op,op'] [b,c]=false:=by with_unfolding_all rfl):
  QE X (.Compare a [op,op'] [b,c] pos) (qt r r' ta tb tc):=⟨T8 (op:=op) (op':=op') L L' (VG ho ho' ha.of hb.of hc.of hm)⟩
theorem xS{name:ν}{id:String}{r:D->List D->Gp->V3->Prop}{r2:V->List V->Hp->VK->Prop}(L:vn X.K r r2)(slot:Slot "list" name id)(hty:typeOf (.builtin id)=pure (.type "method_descriptor"))(hm:Cr X id r2)(ho:QE X o to)(ha:QA X (e::es) t)
  (rM:attributeBase o name X.env (eval o X.env)=eval o X.env:=by rfl)
  (Ef:((backTo cpos (bK (e::es) X.env)).all (fun x=>!x.1)&&(backToKw cpos (keywordEach [] X.env)).all (fun x=>x.1.isSome)
   && decide ((e::es).length+([]:List Keyword).length+(if ([]:List Keyword).isEmpty then 0 else 1)<30))=true:=by rfl)
  (A8:(apos.endLine==cpos.line)=true:=by rfl) (he:notStar e=true:=by rfl) (hpl:es.all notStar=true:=by rfl):
  QE X (.Call (.Attribute o name apos) (e::es) [] cpos) (eM r to t):=⟨Sy L (U5 PySem.F.plainAttrs_list slot hty hm ho.of ha.of rM Ef A8 (dW he) (jo hpl))⟩
end
section
variable {X:Cx} {tg iter elt:υ} {ifs:List υ} {scope:fh} {own:List ν} {js:List Nat} {ti:pP} {g:iE} {tc:cI} {te:aP} {pos:aV}
theorem wB(hc:X.calm=true)(C:eY X.N X.env.scope scope own js)(hi:QI X tg iter ti)
  (hb:∀s H fp,QG (X.cmp scope own js s H fp) tg g/\QC (X.cmp scope own js s H fp) ifs tc/\QE (X.cmp scope own js s H fp) elt te)
  (hs:∀x,foldedSetIterable iter X.env x=pure x:=by intro _;rfl):QE X (.ListComp elt [⟨tg,iter,ifs,0⟩] scope pos) (iK own js ti g tc te):=
 ⟨S7 hc C hi.of (fun s H fp=>⟨(hb s H fp).1.of,(hb s H fp).2.1.of,(hb s H fp).2.2.of⟩) hs⟩
theorem Dl{i:Nat}{y:ν}{py spos:aV}(hc:X.calm=true)(hN:X.N.Nodup)(C:eY X.N X.env.scope scope own js)(hi:QI X tg iter ti)
  (hb:∀s H fp,QG (X.cmp scope own js s H fp) tg g/\QC (X.cmp scope own js s H fp) ifs tc/\QE (X.cmp scope own js s H fp) elt te) (hy:X.N[i]?=some y:=by rfl) (hyl:X.env.scope.names.lookup y=some .local:=by rfl)
  (Cg:swapsWith (.ListComp elt [⟨tg,iter,ifs,0⟩] scope pos) (some (.Name y py)) spos.line X.env=pure true:=by rfl)
  (hs:∀x,foldedSetIterable iter X.env x=pure x:=by intro _;rfl):QS X (.Assign [.Name y py] (.ListComp elt [⟨tg,iter,ifs,0⟩] scope pos) spos) (dj (iK own js ti g tc te) (hName i)):=
 ⟨S6 hc hN C hi.of (fun s H fp=>⟨(hb s H fp).1.of,(hb s H fp).2.1.of,(hb s H fp).2.2.of⟩) hy hyl Cg hs⟩
end
theorem iI{P:Ω}{w:aw}{K:θ}{mg:ν->Option δ}{base:au}{x qual:ν}{st:aY}{f:ζ}{fd:aB}{N ps:List ν}{k:Nat}{sp:fO}(F:fv K x qual st f fd)(S:bP N ps (ar st))(hN:ps.length≤N.length)(len:∀ds G Q,sp ds G Q->ds.length=ps.length)(tb:bj)
  (gV:∀(cdv:δ) (A:aF) (outer:List cW) (s:η) (H:Hp) (E:XK),dz k (A.deeper (envOfC qual (ar st) s.heap.objs.size f cdv)) ->
   pQ (jO pT P w K mg base N qual (ar st) f cdv A outer s H E).lj (fm st) tb)
  (sh:∀ds G Q,sp ds G Q->tb (bw Q) (bA N ds) G):eX P w K mg base (k+1) f fd ps sp:=Xq F S hN len tb (fun cdv A outer s H E hr=>(gV cdv A outer s H E hr).of) sh
end L3
namespace L2
open PySem
open Sem (wp)
section
variable {prog:Ω} {w:aw} {A:aF} {E:δ->η->Prop} {h:au} {g:Array GenState} {d:Drawn} {t:Nat} {os:OsState}
variable {nm q:ν} {C N:ζ} {bs bm bmB:List δ} {hdct:Bool} {sn:List ν} {sub:List δ} {ab:Bool} {col:Option Bool} {dd:Option ζ} {k0 k1 k2 k3 k5:Option δ} {B newId initId:String}
def fY(h:au)(C:ζ)(rest:List δ):au:=(h.push { cls:=.type "tuple",data:=.seq rest.toArray }).push { cls:=.ref C,data:=.fields #[.ref h.objs.size,.none,.none,.none,.bool false,.none]}
theorem Q7(F:ExcBaseFacts B newId initId bmB)(T:OwnTail h bmB bm){mN:ν->Option δ}{rest:List δ}{f:ζ}{of:aW}{Q:Fin->η->Prop}
  (hC:h.get? C=some (excClassObj nm q C N bs bm hdct sn sub ab col dd k0 k1 k2 k3 k5 newId)) (hn:h.Ns N mN) (hni:mN "__init__" = some (.ref f)) (hf:h.get? f=some of) (hfc:of.cls=.type "function")
  (hq:iu (model prog w) A (.call (.ref f) ⟨.ref (h.objs.size+1)::rest,[]⟩) (fun r s'=>match r with
   |.ok (.ret v)=>v=.none/\Q (.done (.ret (.ref (h.objs.size+1)))) s'
   |.ok _=>False
   | .error e=>E e s') ⟨fY h C rest,g,d,t,os⟩) (hrest:rest.length≤aC:=by size_fits):
  ρ (model prog w) A (dI.«type.__call__» ⟨.ref C::rest,[]⟩) Q E ⟨h,g,d,t,os⟩:=by
 repeat (first|with_reducible refine fq hC ?_|with_reducible refine wpAny_madeBy_exc hC ?_|wp_step)
 refine codeAny_call_builtin_code (jY _ F.quiet) (wpAny_check_new_subT F T hC ?_);refine codeAny_exc_new_subT F T hC ?_ hrest;show ρ _ _ _ _ _ _;have hC₁:=μ { cls:=.ref C,data:=.fields #[.ref h.objs.size,.none,.none,.none,.bool false,.none]}
  (μ { cls:=.type "tuple",data:=.seq rest.toArray } hC)
 have hf₁:=μ { cls:=.ref C,data:=.fields #[.ref h.objs.size,.none,.none,.none,.bool false,.none]}
  (μ { cls:=.type "tuple",data:=.seq rest.toArray } hf)
 have hn₁:((h.push { cls:=.type "tuple",data:=.seq rest.toArray }).push { cls:=.ref C,data:=.fields #[.ref h.objs.size,.none,.none,.none,.bool false,.none]}).Ns N mN:=
  let ⟨o,es,ep,e,r⟩:=hn;⟨o,es,ep,μ _ (μ _ e),r⟩
 have hget:((h.push { cls:=.type "tuple",data:=.seq rest.toArray }).push
   { cls:=.ref C,data:=.fields #[.ref h.objs.size,.none,.none,.none,.bool false,.none]}).get? (h.objs.size+1)=some
   { cls:=.ref C,data:=.fields #[.ref h.objs.size,.none,.none,.none,.bool false,.none]}:=by heap_get
 have hcC:(bo C::bm).contains (.ref C)=true:=by simp
 have T₁:=T.keeps (h':=(h.push { cls:=.type "tuple",data:=.seq rest.toArray }).push { cls:=.ref C,data:=.fields #[.ref h.objs.size,.none,.none,.none,.bool false,.none]})
  fun b o e=>μ _ (μ _ e)
 unfold isInstance
 repeat (first|with_reducible refine fq hget ?_|(with_reducible refine jh hC₁ ?_;rw[hcC])|wp_step)
 show ρ _ _ (typeLookup (.ref C) _) _ _ _;refine wpAny_typeLookup_tail hC₁ hn₁ T₁ F.mroIs F.init.lookup ?_;rw[hni];refine bT (ε (wpAny_bindSpecial_def hf₁ hfc ?_));refine ε (gv (dP hq fun r s' hr=>?_));cases r with
 |error e=>exact hr
 |ok fl=>
  cases fl with
  |ret v=>
   obtain⟨rfl,hr⟩:=hr;refine ο ?_;show ρ _ _ (ret (bo (h.objs.size+1))) _ _ _;exact ο hr
  |next=>exact hr.elim
  |brk=>exact hr.elim
  |cont=>exact hr.elim
theorem Q6(F:ExcBaseFacts B newId initId bmB)(T:OwnTail h bmB bm){mN:ν->Option δ}{rest:List δ}{f:ζ}{of:aW}{Q:δ->η->Prop}
  (hC:h.get? C=some (excClassObj nm q C N bs bm hdct sn sub ab col dd k0 k1 k2 k3 k5 newId)) (hn:h.Ns N mN) (hni:mN "__init__" = some (.ref f)) (hf:h.get? f=some of) (hfc:of.cls=.type "function")
  (hq:iu (model prog w) (A.under (.builtin "type.__call__" ⟨.ref C::rest,[]⟩)) (.call (.ref f) ⟨.ref (h.objs.size+1)::rest,[]⟩) (fun r s'=>match r with
   |.ok (.ret v)=>v=.none/\Q (.ref (h.objs.size+1)) s'
   |.ok _=>False
   | .error e=>E e s') ⟨fY h C rest,g,d,t,os⟩) (hrest:rest.length≤aC:=by size_fits):
  ρ (model prog w) A (call (.ref C) rest) Q E ⟨h,g,d,t,os⟩:=by
 have f1:=tc_lookup;have f2:=tc_bind (.ref C);have hT:(⟨h,g,d,t,os⟩:η).TypeIs (.ref C) "type":=⟨_,hC,rfl⟩;refine gv (lW ?_);show ρ _ _ (callAny (.ref C) _) _ _ _
 repeat (any_goals (first|assumption|with_reducible refine fq hC ?_|wp_step))
 refine⟨rfl,?_⟩;refine codeAny_call_builtin_at (jY _ (by decide +kernel)) entry_typeCall (wpAny_check_type_call_sub hC ?_);refine Q7 F T hC hn hni hf hfc (dP hq fun r s' hr=>?_) hrest;cases r with
 |error e=>exact hr
 |ok fl=>
  cases fl with
  |ret v=>exact hr
  |next=>exact hr.elim
  |brk=>exact hr.elim
  |cont=>exact hr.elim
end
end L2
namespace L2
open PySem
open Sem (wp)
structure oB(base h:au)(e T:ζ)(cls:δ)(dx:Option ζ):Prop where
 obj:∃oe vs,h.get? e=some oe/\oe.cls=cls/\oe.dict=dx/\oe.data=.fields vs/\vs[1]?=some (.ref T)/\vs[2]?=some .none
 fresh:base.get? T=none
 ne:T≠e
 ent:∃oT ts,h.get? T=some oT/\oT.data=.fields ts/\ts[3]?=some .none
structure rW(base:au)(l:List cW)(e T₀:ζ)(cls:δ)(dx:Option ζ)(h h':au):Prop where
 stays:base.StaysIn h'
 lN:h'.FunFrames base l
 xu:∃T,oB base h' e T cls dx/\h.get? T=none
 keep:∀b o,b≠e->b≠T₀->b∉fK l->h.get? b=some o->h'.get? b=some o
 slot:∀b o,b∈fK l->h.get? b=some o->∃sl,h'.get? b=some { o with slots:=sl }
section
variable {M:Model} {A:aF} {E:δ->η->Prop} {s:η}
theorem tv{base:au}{env:cW}{outer:List cW}{L e:ζ}{oe:aW}{vs:Array δ}{head:δ}{hadNext:Bool}{Q:Unit->η->Prop}
  (kD:A.frames=some (env::outer)) (hl:s.heap.FunFrames base (env::outer)) (hf:env.frame=some L)
  (he:s.heap.get? e=some oe) (hkb:base.StaysIn s.heap) (hen:base.get? e=none) (hd:oe.data=.fields vs) (fz:1<vs.size) (h2:vs[2]?=some .none)
  (h:∀h',rW base (env::outer) e e oe.cls oe.dict s.heap h'->Q () { s with heap:=h' }):
  ρ M A (do let a ←frameOf env;let pl ←entryPlaceOf L hadNext;let b ←sO head a .none (rawInt L) .none pl;setField (.ref e) 1 b) (fun _ s'=>ρ M A (setFlight (.ref e) none) Q E s') E s:=by
 have hene:e∉(env::outer).filterMap (·.frame):=fun hm=>by
  obtain⟨_,o,ho,hnf⟩:=hl.mem hm;rw[he] at ho;injection ho with ho;subst ho;exact hnf vs hd
 refine ε (wpAny_frameOf_fun kD hl hf fun h₁ hs₁=>?_);refine ε (wpAny_entryPlaceOf fun pl hpl=>?_);unfold sO newFields;refine ε (cZ ?_ (hpl.sizeOk5 _ _ _ _ _));have he₁:h₁.get? e=some oe:=(hs₁.2.1 e hene).trans he;have kb₁:base.StaysIn h₁:=fun b o hbo=>(hs₁.2.1 b fun hm=>by rw[(hl.mem hm).1] at hbo;cases hbo).trans (hkb b o hbo);have he₂:=μ (h:=h₁) { cls:=.type "traceback",dict:=none,data:=.fields ([head,.ref L,.none,rawInt L,.none]++(if pl.isEmpty then bu 6 bz else pl)).toArray } he₁;refine j6 he₂ hd fz ?_;have hTe:h₁.objs.size≠e:=ix (aa he₁);have hd₃:=eU hd (·.setIfInBounds 1 (bo h₁.objs.size));have he₃:=cq (gj (·.setIfInBounds 1 (bo h₁.objs.size))) he₂ (gf hd₃);have hT₃:=(bE (h₁.push { cls:=.type "traceback",dict:=none,data:=.fields ([head,.ref L,.none,rawInt L,.none]++(if pl.isEmpty then bu 6 bz else pl)).toArray })
  (gj (·.setIfInBounds 1 (bo h₁.objs.size))) (eV hTe)).trans (aM h₁ rfl)
 unfold setFlight;refine ε (dU he₃ hd₃ (x:=.ref h₁.objs.size) (by simp[fz]) ?_);rw[if_pos (show (bo h₁.objs.size != bz)=true from by simp)];refine j6 hT₃ rfl (by simp only[Γ,ψ,aE,dC]<;>lia) (h _ ?_)
 have keep:∀b o,b≠e->h₁.get? b=some o ->
   (((h₁.push { cls:=.type "traceback",dict:=none,data:=.fields ([head,.ref L,.none,rawInt L,.none]++(if pl.isEmpty then bu 6 bz else pl)).toArray }).update e (gj (·.setIfInBounds 1 (bo h₁.objs.size)))).update h₁.objs.size
    (gj (·.setIfInBounds 3 ((none:Option ζ).elim bz fun f=>rawInt f)))).get? b=some o:=fun b o hbe hb=>by
  have hbT:h₁.objs.size≠b:=ix (aa hb);rw[bE _ _ hbT,bE _ _ (eV hbe)];exact μ _ hb
 have noRecord:∀b o,s.heap.get? b=some o->(∀vs,o.data≠.fields vs)->b≠e:=fun b o hb hnf q=>by
  rw[q,he] at hb;injection hb with hb;subst hb;exact hnf vs hd
 refine⟨fun b o hbo=>keep b o (fun q=>by rw[q,hen] at hbo;cases hbo) (kb₁ b o hbo),hl.of_keeps fun b o hb hnf=>?_,⟨h₁.objs.size,⟨⟨_,_,?_,aW.cls_mapFields _ _,?_,hd₃,by simp[fz],by rw[Array.getElem?_setIfInBounds_ne (by decide)];exact h2⟩,kb₁.fresh,hTe,_,_,cq _ hT₃ (gf (eU rfl _)),eU rfl _,by first|(simp;done)|(rcases hpl with rfl|⟨_,_,_,_,_,_,_,rfl⟩<;>simp)⟩,?_⟩,fun b o hbe _ hbf hb=>?_,fun b o hbf hb=>?_⟩
 ·obtain⟨sl,hs⟩:=hs₁.2.2 b o hb;exact⟨_,keep b _ (noRecord b o hb hnf) hs,rfl⟩
 ·rw[bE _ _ hTe];exact he₃
 ·obtain⟨c0,d0,dt0,s0⟩:=oe;cases dt0<;>rfl
 ·exact fk (by rw[hs₁.1];exact Θ _)
 ·exact keep b o hbe ((hs₁.2.1 b hbf).trans hb)
 ·obtain⟨sl,hs⟩:=hs₁.2.2 b o hb;refine⟨sl,keep b _ (fun q=>?_) hs⟩;rw[q] at hbf;exact hene hbf
theorem Q5{base:au}{env:cW}{outer:List cW}{L e:ζ}{oe:aW}{vs:Array δ}{Q:Unit->η->Prop}
  (kD:A.frames=some (env::outer)) (hl:s.heap.FunFrames base (env::outer)) (hf:env.frame=some L)
  (he:s.heap.get? e=some oe) (hkb:base.StaysIn s.heap) (hen:base.get? e=none) (hd:oe.data=.fields vs) (h1:vs[1]?=some .none) (h2:vs[2]?=some .none)
  (h:∀h',rW base (env::outer) e e oe.cls oe.dict s.heap h'->Q () { s with heap:=h' }):ρ M A (leaving env (.ref e)) Q E s:=by
 unfold leaving noteFrame;simp only[hf];refine ε (ε (dU he hd h1 ?_));rw[if_neg (by decide)];exact tv kD hl hf he hkb hen hd (aH.mp h1).1 h2 h
theorem Q4{base:au}{env:cW}{outer:List cW}{L e T:ζ}{cls:δ}{dx:Option ζ}{Q:Unit->η->Prop}
  (kD:A.frames=some (env::outer)) (hl:s.heap.FunFrames base (env::outer)) (hf:env.frame=some L) (ht:oB base s.heap e T cls dx) (hkb:base.StaysIn s.heap) (hen:base.get? e=none)
  (h:∀h',rW base (env::outer) e T cls dx s.heap h'->Q () { s with heap:=h' }):ρ M A (leaving env (.ref e)) Q E s:=by
 obtain⟨⟨oe,vs,he,hcls,hdx,hd,h1,h2⟩,hnT,hTe,oT,ts,hT,hdT,h3⟩:=ht;subst hcls hdx;unfold leaving noteFrame;simp only[hf];refine ε (ε (dU he hd h1 ?_));rw[if_pos (show (bo T != bz)=true from by simp)];refine ε (dU hT hdT h3 ?_);rw[if_neg (show ¬((bz==rawInt L)=true) from by simp[rawInt])];refine ε (j6 hT hdT (aH.mp h3).1 ?_);have other:∀b,b≠T->(s.heap.update T (gj (·.setIfInBounds 3 bz))).get? b=s.heap.get? b:=fun b hb=>bE _ _ (eV hb);have noRecord:∀b o,s.heap.get? b=some o->(∀vs,o.data≠.fields vs)->b≠T:=fun b o hb hnf q=>by
  rw[q,hT] at hb;injection hb with hb;subst hb;exact hnf ts hdT
 have hTf:T∉fK (env::outer):=fun hm=>by
  obtain⟨_,o,ho,hnf⟩:=hl.mem hm;rw[hT] at ho;injection ho with ho;subst ho;exact hnf ts hdT
 refine tv kD (hl.of_keeps fun b o hb hnf=>⟨o,(other b (noRecord b o hb hnf)).trans hb,rfl⟩) hf ((other e (eV hTe)).trans he)
  (fun b o hbo=>(other b fun q=>by rw[q,hnT] at hbo;cases hbo).trans (hkb b o hbo)) hen hd (aH.mp h1).1 h2
  fun h' ⟨x1,x2,⟨T',x3,x3'⟩,x4,x5⟩=>h h' ⟨x1,x2,⟨T',x3,?_⟩,fun b o hbe hbT hbf hb=>x4 b o hbe hbe hbf ((other b hbT).trans hb),fun b o hbf hb=>x5 b o hbf ((other b fun q=>hTf (q▸hbf)).trans hb)⟩
 by_cases hq:T'=T
 ·subst hq;obtain⟨o2,e2⟩:∃o2,(s.heap.update T' (gj (·.setIfInBounds 3 bz))).get? T'=some o2:=⟨_,cq _ hT (gf (eU hdT _))⟩;rw[e2] at x3';cases x3'
 ·rw[←other T' hq];exact x3'
end
end L2
namespace L2
open PySem PySem.Spec PyProof.Rows
def fL(P:Ω)(w:aw)(base:au):qF:=fun outer H s E ev s'=>∃(e T C:ζ) (dx:Option ζ) (H':Hp),ev=.ref e/\s'.os=s.os/\kg s'.gens/\Un (fK outer) [] H H' s.heap s'.heap/\dM P w H' s'.heap ∧
 oB base s'.heap e T (.ref C) dx/\(H' e=none/\H' T=none)/\base.get? e=none/\(s.heap.get? e=none/\s.heap.get? T=none)/\E (.ref C) dx H'
theorem b8.there{P:Ω}{w:aw}{H:Hp}{h:au}{a:ζ}{o:HO}(x:b8 P w H h a o):∃ob,h.get? a=some ob:=by
 cases o with
 |lst xs=>obtain⟨_,_,_,_,e⟩:=x;exact⟨_,e⟩
 |tup xs=>obtain⟨_,_,_,ob,e,_⟩:=x;exact⟨_,e⟩
 |dK kvs=>obtain⟨_,_,_,_,o,_,_,e,_⟩:=x;exact⟨_,e⟩
 |dT kvs=>obtain⟨_,_,_,_,o,_,_,e,_⟩:=x;exact⟨_,e⟩
 |set S n=>obtain⟨o,_,_,_,e,_⟩:=x;exact⟨_,e⟩
 |ins C dx fs=>obtain⟨_,_,_,e,_⟩:=x;exact⟨_,e⟩
 |own y=>exact x
 |xd fs=>obtain⟨_,⟨_,_,_,e,_⟩,_⟩:=x;exact⟨_,e⟩
 |B4 lo hi=>obtain⟨_,_,_,e⟩:=x;exact⟨_,e⟩
 |cP ob u=>obtain⟨e,_⟩:=x;exact⟨_,e⟩
 |vt ps=>exact⟨_,(show h.get? a=some _ from x)⟩
 |met f y=>exact⟨_,(show h.get? a=some _ from x)⟩
 |ext φ=>exact x.2.1
section
variable {X:Cx} {pins:List (ζ×aW)} {σ:St} {H:Hp} {s:η}
theorem Inv.left(I:Inv X pins σ H s)(hex:X.ex=[])(hst:X.stack=X.env::X.outer)(kD:X.env.frame=some X.env.locals){e T₀:ζ}{cls:δ}{dx:Option ζ}{h':au}(L:rW X.base X.stack e T₀ cls dx s.heap h')
  (he:X.s₀.heap.get? e=none) (hT:X.s₀.heap.get? T₀=none) (hHe:H e=none) (hHT:H T₀=none):
  Un (fK X.outer) [] X.H₀ H X.s₀.heap h'/\dM X.prog X.w H h':=by
 have hloc:X.s₀.heap.get? X.env.locals=none:=fk I.ok.above;have sub:∀b,b∈fK X.stack->b=X.env.locals∨b∈fK X.outer:=fun b hb=>ak.mp (I.sR b hb);have ne:∀{b c:ζ} {o:aW},X.s₀.heap.get? b=some o->X.s₀.heap.get? c=none->b≠c:=fun h1 h2 z=>by
  rw[z,h2] at h1;cases h1
 have lj:∀b:ζ,b∉X.ex:=fun b z=>by
  rw[hex] at z;cases z
 have supF:∀b,b∈fK X.outer->b∈fK X.stack:=fun b hb=>by
  rw[hst];unfold fK;rw[fD,kD];exact ai _ hb
 refine⟨⟨fun b o h1 h2 h3 _=>?_,fun b o h1 h2 h3 _=>?_,fun b o h1 h2 _=>I.base.free b o h1 h2 (lj b),fun b o h1 _=>?_,I.base.ij,I.base.ip,I.base.nq⟩,fun a o ha=>?_⟩
 ·have k1:=I.base.keep b o h1 h2 h3 (lj b);refine L.keep b o (ne h1 he) (ne h1 hT) (fun z=>?_) k1;rcases sub b z with z|z
  ·exact ne h1 hloc z
  ·exact h3 z
 ·obtain⟨sl,k1⟩:=I.base.slot b o h1 h2 h3 (lj b);obtain⟨sl',k2⟩:=L.slot b _ (supF b h3) k1;exact⟨sl',k2⟩
 ·obtain⟨o',k1⟩:=I.base.there b o h1 (lj b);by_cases hb:b∈fK X.stack
  ·obtain⟨sl,k2⟩:=L.slot b o' hb k1;exact⟨_,k2⟩
  ·exact⟨o',L.keep b o' (ne h1 he) (ne h1 hT) hb k1⟩
 ·refine (I.bI a o ha).lE (fun b u hb q=>?_) (fun _ q=>q) fun _ _ q=>q;have hHb:H b≠none:=by
   rcases hb with rfl|hb
   ·rw[ha];simp
   ·rw[hb];simp
  exact L.keep b u (fun z=>hHb (z▸hHe)) (fun z=>hHb (z▸hHT)) (fun z=>hHb (I.gS b z)) q
theorem Inv.Xr(I:Inv X pins σ H s)(hex:X.ex=[])(hst:X.stack=X.env::X.outer)(kD:X.env.frame=some X.env.locals){e C:ζ}{oe:aW}{vs:Array δ}{E:XK}(he:s.heap.get? e=some oe)(hc:oe.cls=.ref C)(hd:oe.data=.fields vs)(h1:vs[1]?=some .none)(h2:vs[2]?=some .none)
  (h0:X.s₀.heap.get? e=none) (hHe:H e=none) (q:E (.ref C) oe.dict H) {R:δ->η->Prop}:
  ρ (model X.prog X.w) X.A (leaving X.env (.ref e)) (fun _ s'=>fL X.prog X.w X.base X.outer X.H₀ X.s₀ E (.ref e) s') R s:=by
 have hen:X.base.get? e=none:=by
  cases hq:X.base.get? e with
  |none=>rfl
  |some o=>
   have:=(I.ok.bs e o hq).1;rw[h0] at this;cases this
 refine Q5 (base:=X.base) (by rw[I.ok.frames,hst]) (by rw[←hst];exact I.stack) kD he I.bk hen hd h1 h2 fun h' L=>?_;rw[←hst,hc] at L;obtain⟨u,ok⟩:=I.left hex hst kD L h0 h0 hHe hHe;obtain⟨T,tr,hT⟩:=L.xu;have hTs:X.s₀.heap.get? T=none:=by
  cases hq:X.s₀.heap.get? T with
  |none=>rfl
  |some o=>
   obtain⟨o',e'⟩:=I.base.there T o hq (by rw[hex];simp);rw[hT] at e';cases e'
 have hHT:H T=none:=by
  cases hq:H T with
  |none=>rfl
  |some o=>
   obtain⟨ob,e'⟩:=b8.there (I.bI T o hq);rw[hT] at e';cases e'
 exact⟨e,T,C,oe.dict,H,rfl,I.os,I.bare,u,ok,tr,⟨hHe,hHT⟩,hen,⟨h0,hTs⟩,q⟩
theorem Q2{E:XK}(hex:X.ex=[])(hst:X.stack=X.env::X.outer)(kD:X.env.frame=some X.env.locals)
  (Xb:∀e s',ρ (model X.prog X.w) X.A (leaving X.env e) (fun _ s''=>fL X.prog X.w X.base X.outer X.H₀ X.s₀ E e s'') (fun e' s''=>fL X.prog X.w X.base X.outer X.H₀ X.s₀ E e' s'') s'->X.xe e s'):jS (fL X.prog X.w X.base) X E:=by
 intro pins σ H s ev s' I h;obtain⟨e,T,C,dx,H',rfl,os,bare,u,ok,tr,⟨hHe,hHT⟩,hen,⟨he0,hT0⟩,q⟩:=h;have I':Inv X pins σ H' s':=I.BK (ch:=[]) os u ok bare (fun b z=>absurd z (by simp));have s0:∀{b:ζ},s.heap.get? b=none->X.s₀.heap.get? b=none:=fun {b} hb=>by
  cases hq:X.s₀.heap.get? b with
  |none=>rfl
  |some o=>
   obtain⟨o',e'⟩:=I.base.there b o hq (by rw[hex];simp);rw[hb] at e';cases e'
 refine Xb _ _ (Q4 (base:=X.base) (by rw[I.ok.frames,hst]) (by rw[←hst];exact I'.stack) kD tr I'.bk hen fun h' L=>?_);rw[←hst] at L;obtain⟨u',ok'⟩:=I'.left hex hst kD L (s0 he0) (s0 hT0) hHe hHT;obtain⟨T',tr',hT'⟩:=L.xu;have hTs:X.s₀.heap.get? T'=none:=by
  cases hq:X.s₀.heap.get? T' with
  |none=>rfl
  |some o=>
   obtain⟨o',e'⟩:=I'.base.there T' o hq (by rw[hex];simp);rw[hT'] at e';cases e'
 have hHT':H' T'=none:=by
  cases hq:H' T' with
  |none=>rfl
  |some o=>
   obtain⟨ob,e'⟩:=b8.there (I'.bI T' o hq);rw[hT'] at e';cases e'
 exact⟨e,T',C,dx,H',rfl,I'.os,I'.bare,u',ok',tr',⟨hHe,hHT'⟩,hen,⟨s0 he0,hTs⟩,q⟩
theorem Q1{P:Ω}{w:aw}{K:θ}{mg:ν->Option δ}{base:au}{N:List ν}{qual:ν}{scope:fh}{f:ζ}{cd:δ}{A:aF}{outer:List cW}{s:η}{H:Hp}{E:XK}:
  jS (fL P w base) (jO (fL P w base) P w K mg base N qual scope f cd A outer s H E) E:=Q2 rfl rfl rfl fun e s' h=>h
end
end L2
namespace L2
open PySem PySem.Spec PyProof.Rows
def Lh(K:θ)(C:ζ)(bmB:List δ)(newId:String):Prop:=∀h:au,K.In h->∃nm q N bs bm hdct sn sub ab col dd k0 k1 k2 k3 k5 mN,h.get? C=some (excClassObj nm q C N bs bm hdct sn sub ab col dd k0 k1 k2 k3 k5 newId)/\h.Ns N mN/\mN "__init__" = none/\OwnTail h bmB bm
structure Body(X:Cx)(E:XK):Prop where
 ex:X.ex=[]
 st:X.stack=X.env::X.outer
 fr:X.env.frame=some X.env.locals
 xe:∀e s',ρ (model X.prog X.w) X.A (leaving X.env e) (fun _ s''=>fL X.prog X.w X.base X.outer X.H₀ X.s₀ E e s'') (fun e' s''=>fL X.prog X.w X.base X.outer X.H₀ X.s₀ E e' s'') s'->X.xe e s'
theorem Jk{P:Ω}{w:aw}{K:θ}{mg:ν->Option δ}{base:au}{N:List ν}{qual:ν}{scope:fh}{f:ζ}{cd:δ}{A:aF}{outer:List cW}{s:η}{H:Hp}{E:XK}:
  Body (jO (fL P w base) P w K mg base N qual scope f cd A outer s H E) E:=⟨rfl,rfl,rfl,fun _ _ h=>h⟩
section
variable {X:Cx} {E:XK}
theorem Body.throw(B:Body X E){pins:List (ζ×aW)}{σ:St}{H:Hp}{s:η}{e C:ζ}{oe:aW}{vs:Array δ}(I:Inv X pins σ H s)(he:s.heap.get? e=some oe)(hc:oe.cls=.ref C)(hd:oe.data=.fields vs)(h1:vs[1]?=some .none)(h2:vs[2]?=some .none)
  (h0:X.s₀.heap.get? e=none) (hHe:H e=none) (q:E (.ref C) oe.dict H):X.xe (.ref e) s:=B.xe _ _ (I.Xr B.ex B.st B.fr he hc hd h1 h2 h0 hHe q)
theorem Dk{pins:List (ζ×aW)}{σ:St}{H:Hp}{s:η}(I:Inv X pins σ H s){e:ζ}(h:s.heap.get? e=none):H e=none:=by
 cases hq:H e with
 |none=>rfl
 |some o=>
  obtain⟨ob,e'⟩:=b8.there (I.bI e o hq);rw[h] at e';cases e'
theorem Dj{pins:List (ζ×aW)}{σ:St}{H:Hp}{s:η}(B:Body X E)(I:Inv X pins σ H s){e:ζ}(h:s.heap.get? e=none):X.s₀.heap.get? e=none:=by
 cases hq:X.s₀.heap.get? e with
 |none=>rfl
 |some o=>
  obtain⟨o',e'⟩:=I.base.there e o hq (by rw[B.ex];simp);rw[h] at e';cases e'
theorem Q0{x:ν}{C:ζ}{np cpos pos:aV}{bmB:List δ}{Bn newId initId:String}(B:Body X E)(hc:X.calm=true)(F:ExcBaseFacts Bn newId initId bmB)(O:Lh X.K C bmB newId)(hg:Gl X x)(hm:X.mg x=some (.ref C))(hdb:(x==("__debug__":ν))=false:=by decide):
  PS X (.Raise (some (.Call (.Name x np) [] [] cpos)) none pos) (fun _ _ H=>E (.ref C) none H):=by
 intro pins s σ H D I h;obtain⟨nm,q,N,bs,bm,hdct,sn,sub,ab,col,dd,k0,k1,k2,k3,k5,mN,hC,hn,hni,T⟩:=O s.heap I.gI;refine wpAny_Raise_call_subT (C:=C) (nm:=nm) (q:=q) (N:=N) (bs:=bs) (bm:=bm) (hdct:=hdct) (sn:=sn) (sub:=sub) (ab:=ab) (col:=col) (dd:=dd) (k0:=k0) (k1:=k1) (k2:=k2) (k3:=k3) (k5:=k5)
  F (mN:=mN) (T.hasType F.hasBase) (I.ok.hd hc) rfl hni (rh I hg hm ⟨rfl,?_⟩ hdb)
 refine evalArgs_empty ⟨rfl,aG _,hC,hn,T,fun h' e hm'=>?_⟩;obtain⟨t,he,_,_⟩:=hm'.there;have I2:Inv X pins σ H { s with heap:=h' }:=I.kept (t':=s.toks) hm'.keeps;exact B.throw I2 he rfl rfl rfl rfl (Dj B I hm'.new) (Dk I hm'.new) h
end
end L2
namespace L3
open PySem PySem.Spec PyProof.Rows L2
def fb:HO->Bool
 |.tup _=>true
 |.cP _ (.lst _)=>true
 |.cP _ (.tup _)=>true
 |.cP _ (.xd _)=>true
 |.cP _ (.ext _)=>true
 |_=>false
def hide(H:Hp):Hp:=fun a=>match H a with
 |some o=>if fb o then some o else none
 |none=>none
def joined(H H':Hp):Hp:=fun a=>match H a with
 |some o=>if fb o then H' a else some o
 |none=>H' a
section
variable {P:Ω} {w:aw} {H H':Hp} {h h':au} {a b:ζ} {o:HO} {fs:List ζ}
theorem xR(e:H a=none):hide H a=none:=by simp[hide,e]
theorem qb(e:H a=some o)(v:fb o=true):hide H a=some o:=by simp[hide,e,v]
theorem Jj(e:H a=some o)(v:fb o=false):hide H a=none:=by simp[hide,e,v]
theorem Di(e:hide H a=some o):H a=some o/\fb o=true:=by
 unfold hide at e;cases q:H a with
 |none=>simp[q] at e
 |some u=>
  simp only[q] at e;cases v:fb u with
  |true=>
   rw[v,if_pos rfl] at e;cases e;exact⟨rfl,v⟩
  |false=>
   rw[v] at e;simp at e
theorem p9(e:H a=none):joined H H' a=H' a:=by simp[joined,e]
theorem rk(e:H a=some o)(v:fb o=true):joined H H' a=H' a:=by simp[joined,e,v]
theorem lG(e:H a=some o)(v:fb o=false):joined H H' a=some o:=by simp[joined,e,v]
theorem Ji{H2:Hp}(v:fb o=true)(x:b8 P w H h a o):b8 P w H2 h a o:=by
 cases o with
 |tup xs=>obtain⟨z,its,r,p⟩:=x;exact⟨z,its,r,p⟩
 |cP ob u=>
  cases u with
  |lst xs=>obtain⟨e,z,its,n,r,p⟩:=x;exact⟨e,z,its,n,r,p⟩
  |tup xs=>obtain⟨e,z,its,r,p⟩:=x;exact⟨e,z,its,r,p⟩
  |xd fs=>obtain⟨e,mA,r,p⟩:=x;exact⟨e,mA,r,p⟩
  |ext φ=>exact x
  |_=>cases v
 |_=>cases v
theorem QZ(ok:dM P w H h):dM P w (hide H) h:=fun a o e=>by
 obtain⟨e1,v⟩:=Di e;exact Ji v (ok a o e1)
variable (ok:dM P w H h) (hfs:∀b∈fs,H b=none) (u:Un fs [] (hide H) H' h h') (ok':dM P w H' h')
include ok u
theorem Jh(e:H b=some o)(v:fb o=false):H' b=none:=by
 obtain⟨ob,q⟩:=b8.there (ok b o e);exact u.free b ob q (Jj e v) (by simp)
theorem sY(e:H' b=some o):joined H H' b=some o:=by
 cases q:H b with
 |none=>rw[p9 q];exact e
 |some x=>
  cases v:fb x with
  |true=>rw[rk q v];exact e
  |false=>
   rw[Jh ok u q v] at e;cases e
include hfs ok'
theorem DU:Un fs [] H (joined H H') h h'/\dM P w (joined H H') h':=by
 have kept:∀b x ob,H b=some x->fb x=false->h.get? b=some ob->h'.get? b=some ob:=fun b x ob e v q=>
  u.keep b ob q (Jj e v) (fun z=>by rw[hfs b z] at e;cases e) (by simp)
 refine⟨⟨fun b ob q n h3 h4=>u.keep b ob q (xR n) h3 h4,fun b ob q n h3 h4=>u.slot b ob q (xR n) h3 h4,fun b ob q n h3=>by rw[p9 n];exact u.free b ob q (xR n) h3,
  fun b ob q h3=>u.there b ob q h3,fun b xs e=>sY ok u (u.ij b xs (qb e rfl)),fun b ob x e=>?_,fun b ps e=>⟨#[],by rw[uf];exact lG e rfl⟩⟩,fun b x e=>?_⟩
 ·cases v:fb (.cP ob x) with
  |true=>exact sY ok u (u.ip b ob x (qb e v))
  |false=>exact lG e v
 ·have mono:H' b=some x->b8 P w (joined H H') h' b x:=fun z=>(ok' b x z).lE (fun _ _ _ q=>q) (fun c q=>sY ok u q) (fun c xs q=>sY ok u q);cases q:H b with
  |none=>
   rw[p9 q] at e;exact mono e
  |some y=>
   cases v:fb y with
   |true=>
    rw[rk q v] at e;exact mono e
   |false=>
    rw[lG q v] at e;obtain rfl:=aD e;refine (ok b _ q).lE (fun c ob hc z=>?_) (fun c z=>lG z rfl) (fun c xs z=>sY ok u (u.ij c xs (qb z rfl)));rcases hc with rfl|hc
    ·exact kept _ _ _ q v z
    ·exact kept _ _ _ hc rfl z
end
section
variable {K:θ} {H:Hp}
theorem dh.oU{a:ζ}{xs:List V}(h:dh K H a xs):dh K (hide H) a xs:=by
 rcases h with (h|⟨o,h⟩)|h
 ·exact .inl (.inl (qb h rfl))
 ·exact .inl (.inr ⟨o,qb h rfl⟩)
 ·exact .inr h
theorem lR.oU{a:ζ}{xs:List V}(h:lR K H a xs):lR K (hide H) a xs:=by
 rcases h with⟨o,h⟩|h
 ·exact .inl ⟨o,qb h rfl⟩
 ·exact .inr h
mutual
theorem Hv.oU:∀{d:D} {v:V},Hv K H d v->Hv K (hide H) d v
 |.aO,_,h=>by simpa [Hv] using h
 |.bl _,_,h=>by simpa [Hv] using h
 |.int _,_,h=>by simpa [Hv] using h
 |.str _,_,h=>by simpa [Hv] using h
 |.obj _,_,h=>by simpa [Hv] using h
 |.dc a,v,h=>by
  unfold Hv at h ⊢;obtain⟨e,ob,φ,q,c⟩:=h;exact⟨e,ob,φ,qb q rfl,c⟩
 |.tup ds,v,h=>by
  unfold Hv at h ⊢;obtain⟨a,vs,e,q,r⟩:=h;exact⟨a,vs,e,dh.oU q,aJ.oU r⟩
 |.fM ds,v,h=>by
  unfold Hv at h ⊢;obtain⟨a,vs,e,q,r⟩:=h;exact⟨a,vs,e,lR.oU q,aJ.oU r⟩
theorem aJ.oU:∀{ds:List D} {vs:List V},aJ K H ds vs->aJ K (hide H) ds vs
 |[],_,h=>by simpa [aJ] using h
 |d::ds,vs,h=>by
  unfold aJ at h ⊢;obtain⟨v,r,e,q,z⟩:=h;exact⟨v,r,e,Hv.oU q,aJ.oU z⟩
end
end
abbrev gP:Gp:=fun _=>none
def both(G1 G':Gp):Gp:=fun a=>match G1 a with
 |some o=>some o
 |none=>G' a
abbrev E3:=ν->List (ν×Int)->Prop
def dk(K:θ)(x:ν)(C:ζ):Prop:=bx K aX x=some (some (.ref C))
def tT(H:Hp)(dx:Option ζ)(fs:List (ν×Int)):Prop:=(dx=none/\fs=[])∨∃d o,dx=some d/\H d=some (.cP o (.xd (fs.map fun p=>(p.1,V.int p.2))))
def g8(K:θ)(E:E3):XK:=fun cls dx H=>∃x C fs,cls=.ref C/\dk K x C/\E x fs/\tT H dx fs
abbrev oY:=List D->V3->E3->Prop
def Eb(K:θ)(sp:oY):Sp:=fun vs H Q E=>∃ds Q3 E',aJ K H ds vs/\(∀a o,H a=some o->fb o=true)/\sp ds Q3 E'/\(∀v H' d G',Hv K H' d v->Step H gP H' G'->aS K G' H'->Q3 d G'->Q v H')/\∀cls dx H',g8 K E' cls dx H'->E cls dx H'
abbrev qD(P:Ω)(w:aw)(K:θ)(mg:ν->Option δ)(base:au)(k:Nat)(f:ζ)(fd:aB)(ps:List ν)(sp:oY):Prop:=je P w K mg base (fL P w base) k f fd ps (Eb K sp)
structure Joins(G1 G' G2:Gp):Prop where
 old:Sub G1 G2
 new:Sub G' G2
 out:∀a,G' a≠none->G1 a=none
def tK(sp:oY)(E:E3)(t:cM):aP:=fun τ G Q=>t τ G fun ds G1=>sp ds (fun d G'=>∀G2,Joins G1 G' G2->Q d G2) E
section
variable {X:Cx} {k:Nat} {f:ζ} {fd:aB} {ps:List ν} {sp:oY} {E:E3} {x:ν} {p pos:aV} {e:υ} {es:List υ} {t:cM}
theorem Jg{K:θ}{P:Ω}{w:aw}{fs:List ζ}{H H':Hp}{h h':au}{G1 G':Gp}{d:D}{v:V}(ok:dM P w H h)(hfs:∀b∈fs,H b=none)(u:Un fs [] (hide H) H' h h')(ok':dM P w H' h')
  (R1:aS K G1 H) (hv:Hv K H' d v) (S:Step (hide H) gP H' G') (R':aS K G' H'):
  Hv K (joined H H') d v/\Step H G1 (joined H H') (both G1 G')/\aS K (both G1 G') (joined H H')/\Joins G1 G' (both G1 G'):=by
 have E2:Ext H' (joined H H'):=⟨fun b xs e=>sY ok u e,fun b o x e=>sY ok u e⟩;have E1:Ext H (joined H H'):=by
  obtain⟨u2,_⟩:=DU ok hfs u ok';exact⟨u2.ij,u2.ip⟩
 have outG:∀a,G' a≠none->H a=none:=fun a n=>by
  have z:hide H a=none:=S.new a rfl n;cases q:H a with
  |none=>rfl
  |some o=>
   cases v:fb o with
   |true=>rw[qb q v] at z;cases z
   |false=>
    have:=Jh ok u q v;cases q':G' a with
    |none=>exact absurd q' n
    |some g=>
     obtain⟨o',z',_⟩:=(R' a g q').mut;rw[this] at z';cases z'
 have out1:∀a,G' a≠none->G1 a=none:=fun a n=>R1.free (outG a n);refine⟨hv.ext E2,⟨fun a o e n=>?_,fun a n=>?_,fun a n q=>?_⟩,fun a g e=>?_,⟨fun a o e=>by simp[both,e],fun a o e=>by simp[both,out1 a (by rw[e];simp),e],out1⟩⟩
 ·cases v:fb o with
  |true=>
   rw[rk e v];exact S.fr a o (qb e v) rfl
  |false=>exact lG e v
 ·cases q:H a with
  |none=>exact absurd q n
  |some o=>
   cases v:fb o with
   |true=>
    rw[rk q v];exact S.nS a (by rw[qb q v];simp)
   |false=>rw[lG q v];simp
 ·simp only[both,n] at q;exact outG a q
 ·cases q:G1 a with
  |some o=>
   simp only[both,q] at e;cases e;obtain⟨o',z,h1,h2⟩:=(R1 a g q).mut;have hv:fb o'=false:=by
    cases o' with
    |tup xs=>exact absurd rfl (h1 xs)
    |cP ob y=>exact absurd rfl (h2 ob y)
    |_=>rfl
   exact (R1 a g q).ext E1 (by rw[lG z hv,z])
  |none=>
   simp only[both,q] at e;have hn:=outG a (by rw[e];simp);exact (R' a g e).ext E2 (by rw[p9 hn])
theorem Jf(G1:Gp):both G1 gP=G1:=by
 funext a;unfold both;cases G1 a<;>rfl
theorem QY{H H':Hp}{fs:List ζ}{h h':au}(u:Un fs [] (hide H) H' h h'):Step (hide H) gP H' gP:=by
 have fr:∀a o,hide H a=some o->H' a=some o:=fun a o e=>by
  obtain⟨_,v⟩:=Di e;cases o with
  |tup xs=>exact u.ij a xs e
  |cP ob y=>exact u.ip a ob y e
  |_=>cases v
 refine⟨fun a o e _=>fr a o e,fun a n=>?_,fun a _ q=>absurd rfl q⟩;cases q:hide H a with
 |none=>exact absurd q n
 |some o=>rw[fr a o q];simp
def vE(K:θ)(E:E3)(H:Hp)(G:Gp):XK:=fun cls dx H'=>g8 K E cls dx H'/\aS K G H'/\Step H G H' G
theorem fL.mono{P:Ω}{w:aw}{base:au}{outer:List cW}{H:Hp}{s s':η}{E E':XK}{ev:δ}(h:fL P w base outer H s E ev s')(m:∀cls dx H',E cls dx H'->E' cls dx H'):fL P w base outer H s E' ev s':=by
 obtain⟨e,T,C,dx,H',a1,a2,a3,a4,a5,a6,a7,a8,a9,q⟩:=h;exact⟨e,T,C,dx,H',a1,a2,a3,a4,a5,a6,a7,a8,a9,m _ _ _ q⟩
theorem fL.oU{P:Ω}{w:aw}{K:θ}{base:au}{outer:List cW}{H:Hp}{s s':η}{G1:Gp}{ev:δ}(ok:dM P w H s.heap)(hfs:∀b∈fK outer,H b=none)(R1:aS K G1 H)(h:fL P w base outer (hide H) s (g8 K E) ev s'):
  fL P w base outer H s (vE K E H G1) ev s':=by
 obtain⟨e,T,C,dx,H',rfl,os,bare,u,ok',tr,⟨hHe,hHT⟩,hen,⟨he0,hT0⟩,x,C',fs,ec,cn,q,dd⟩:=h;obtain⟨u2,ok2⟩:=DU ok hfs u ok';obtain⟨_,z2,z3,_⟩:=Jg (G':=gP) (d:=.aO) (v:=.aO) ok hfs u ok' R1 (by simp[Hv]) (QY u) (fun _ _ e=>nomatch e);rw[Jf] at z2 z3;have out:∀b,s.heap.get? b=none->H' b=none->joined H H' b=none:=fun b hb hn=>by
  cases hq:H b with
  |none=>rw[p9 hq];exact hn
  |some o=>
   obtain⟨ob,e'⟩:=b8.there (ok b o hq);rw[hb] at e';cases e'
 refine⟨e,T,C,dx,joined H H',rfl,os,bare,u2,ok2,tr,⟨out _ he0 hHe,out _ hT0 hHT⟩,hen,⟨he0,hT0⟩,⟨x,C',fs,ec,cn,q,?_⟩,z3,z2⟩;rcases dd with⟨d1,d2⟩|⟨d,o,d1,d2⟩
 ·exact .inl ⟨d1,d2⟩
 ·exact .inr ⟨d,o,d1,sY ok u d2⟩
theorem QX{pins:List (ζ×aW)}{σ:L2.St}{H:Hp}{s:η}{Q:VK}{G1:Gp}{Q3:V3}{ds:List D}{us:List δ}{vs:List V}{XE:δ->η->Prop}(F:qD X.prog X.w X.K X.mg X.base k f fd ps sp)(hr:dz k X.A)(hb:Binds X.K fd ps [])
  (hx:∀ev s',fL X.prog X.w X.base X.stack H s (vE X.K E H G1) ev s'->XE ev s')
  (I:Inv X pins σ H s) (r:bt vs us) (hd:aJ X.K H ds vs) (R1:aS X.K G1 H) (h:sp ds (fun d G'=>∀G2,Joins G1 G' G2->Q3 d G2) E) (kk:∀v H' d G',Hv X.K H' d v->Step H G1 H' G'->aS X.K G' H'->Q3 d G'->Q v H'):
  ρ (model X.prog X.w) X.A (call (.ref f) us) (EP X pins σ Q) XE s:=by
 have hq:Eb X.K sp vs (hide H) (fun v H'=>∃d G',Hv X.K H' d v/\Step (hide H) gP H' G'/\aS X.K G' H'/\∀G2,Joins G1 G' G2->Q3 d G2) (g8 X.K E):=
  ⟨ds,_,E,hd.oU,fun a o e=>(Di e).2,h,fun v H' d G' a b c q=>⟨d,G',a,b,c,q⟩,fun _ _ _ z=>z⟩
 have hl:(us++[]).length=ps.length:=by rw[bF,←r.length];exact F.len _ _ _ _ hq
 have e0:tS X.prog X.w X.K X.mg X.base X.A X.stack s (hide H):=⟨I.ok.frames,I.ok.mod,fun b o e=>⟨(I.bs b o e).1,xR (I.bs b o e).2⟩,bB I.ok.sj I.sz,I.stack,fun b hb=>xR (I.gS b hb),QZ I.bI,I.bare⟩;have hb':=hb s us I.gI hl;rw[bF] at hb';refine gv (dP (F.run X.A X.stack s (hide H) ⟨us,[]⟩ us vs _ (g8 X.K E) hr e0 hb' r hq) fun r s' hq'=>?_);cases r with
 |error e=>exact hx e s' (fL.oU I.bI I.gS R1 hq')
 |ok fl=>
  cases fl with
  |ret u=>
   obtain⟨v,H',os,bare,un,bI,rv,d,G',a,b,c,q⟩:=hq';obtain⟨un2,ok2⟩:=DU I.bI I.gS un bI;obtain⟨z1,z2,z3,z4⟩:=Jg I.bI I.gS un bI R1 a b c;exact I.after ⟨v,joined H H',os,bare,un2,ok2,rv,kk v _ d _ z1 z2 z3 (q _ z4)⟩
  |next=>exact bU hq'
  |brk=>exact bU hq'
  |cont=>exact bU hq'
theorem QV(F:qD X.prog X.w X.K X.mg X.base k f fd ps sp)(hr:dz k X.A)(hx:jS (fL X.prog X.w X.base) X (g8 X.K E))(hm:X.mg x=some (.ref f))(hk:bN X.K (.ref f)=true)(hb:Binds X.K fd ps [])(ha:jt X (e::es) t)(hg:Gl X x:=by rfl)
  (hdb:(x==("__debug__":ν))=false:=by decide) (he:notStar e=true:=by rfl) (hpl:es.all notStar=true:=by rfl):
  bW X (.Call (.Name x p) (e::es) [] pos) (tK sp E t):=by
 intro pins s σ H Q I ⟨τ,G,Q3,RS,RG,h,kk⟩;refine dO (rh I hg hm ?_ hdb);refine fQ (h₀:=X.base) I.ok.mod.tz hk (bS (ha pos pins s σ H (fun vs H1=>∃ds G1,aJ X.K H1 ds vs/\Step H G H1 G1/\aS X.K G1 H1/\sp ds (fun d G'=>∀G2,Joins G1 G' G2->Q3 d G2) E) I
  ⟨τ,G,_,RS,RG,h,fun vs H1 ds G1 a b c q=>⟨ds,G1,a,b,c,q⟩⟩) fun us s1 ⟨vs,H1,I1,r,ds,G1,hd,S1,R1,q⟩=>⟨I1.gI,?_⟩) (dW he) (jo hpl)
 exact QX F hr hb (fun ev s' h=>hx pins σ H1 s1 ev s' I1 (fL.mono h fun _ _ _ z=>z.1)) I1 r hd R1 q fun v H' d G' a b c q=>kk v H' d G' a (S1.trans b) c q
end
section
variable {P:Ω} {w:aw} {K:θ} {mg:ν->Option δ} {base:au}
theorem fnX{x qual:ν}{st:aY}{f:ζ}{fd:aB}{N ps:List ν}{k:Nat}{sp:oY}(F:fv K x qual st f fd)(S:bP N ps (ar st))(hN:ps.length≤N.length)(len:∀ds Q E,sp ds Q E->ds.length=ps.length)(tb:E3->bj)
  (gV:∀(cdv:δ) (A:aF) (outer:List cW) (s:η) (H:Hp) (E:XK) (E':E3),dz k (A.deeper (envOfC qual (ar st) s.heap.objs.size f cdv))->(∀cls dx H',g8 K E' cls dx H'->E cls dx H') ->
   jd (jO (fL P w base) P w K mg base N qual (ar st) f cdv A outer s H E) (fm st) (tb E'))
  (sh:∀ds Q E,sp ds Q E->tb E (bw Q) (bA N ds) gP):qD P w K mg base (k+1) f fd ps sp:=by
 obtain⟨oc,od,kV,doc,pm,an,cdv,ct,osl,rfl,lk,iD⟩:=F.ex;refine J8 lk iD S (fun vs H Q E h=>?_) (fun A outer s H vs Q E hr h=>?_)
 ·obtain⟨ds,Q3,E',h1,_,h3,_⟩:=h;rw[←h1.length];exact len _ _ _ h3
 ·obtain⟨ds,Q3,E',h1,h2,h3,h4,h5⟩:=h;refine⟨_,gV cdv A outer s H E E' hr h5,bA N ds,gP,bw Q3,.start h1 ?_,(fun _ _ e=>nomatch e),sh _ _ _ h3,⟨?_,?_,?_,?_⟩⟩
  ·rw[←h1.length,len _ _ _ h3];exact hN
  ·exact fun τ σ G' H' a b c ⟨G0,s0,q⟩=>h4 _ H' .aO G0 (by simp[Hv]) (b.trans (.sub s0)) (c.sub s0) q
  ·exact fun τ σ G' H' a b c q=>q.elim
  ·exact fun τ σ G' H' a b c q=>q.elim
  ·exact fun d v G' H' a b c ⟨G0,s0,q⟩=>h4 _ H' d G0 a (b.trans (.sub s0)) (c.sub s0) q
end
theorem AV{P:Ω}{w:aw}{K:θ}{mg:ν->Option δ}{base:au}{N:List ν}{qual:ν}{scope:fh}{f:ζ}{cd:δ}{A:aF}{outer:List cW}{s:η}{H:Hp}{E:XK}{E':E3}(h:∀cls dx H',g8 K E' cls dx H'->E cls dx H'):
  jS (fL P w base) (jO (fL P w base) P w K mg base N qual scope f cd A outer s H E) (g8 K E'):=fun pins σ H1 s1 ev s' I q=>Q1 pins σ H1 s1 ev s' I (fL.mono q h)
end L3
namespace L2
open PySem PySem.Spec PyProof.Rows
structure fy(k:Nat)(A:aF):Prop where
 dp:A.depth+3*k+5<recursionLimit
 un:A.units+16*k+200<cLine
theorem fy.mono{j k:Nat}{A:aF}(r:fy k A)(h:j≤k):fy j A:=⟨by have:=r.dp;lia,by have:=r.un;lia⟩
theorem fy.deeper{k:Nat}{A:aF}(r:fy (k+1) A)(env:cW):fy k (A.deeper env):=
 ⟨by have:=r.dp;show A.depth+1+3*k+5<_;lia,by have:=r.un;show A.units+3+16*k+200<_;lia⟩
theorem fy.depth{k:Nat}{A:aF}(r:fy k A):A.depth<recursionLimit:=by have:=r.dp;lia
theorem fy.units{k:Nat}{A:aF}(r:fy k A):A.units+64<cLine:=by have:=r.un;lia
theorem fy.mark{k:Nat}{A:aF}{v:Option δ}(r:fy k A):fy k (A.mark v):=⟨r.dp,r.un⟩
theorem dz.h{k:Nat}{A:aF}(r:dz k A):fy k A:=⟨r.dp,r.un⟩
structure oi(P:Ω)(w:aw)(K:θ)(mg:ν->Option δ)(base:au)(k:Nat)(f:ζ)(fd:aB)(ps:List ν)(sp:Sp):Prop where
 len:∀vs H Q E,sp vs H Q E->vs.length=ps.length
 run:∀(A:aF) (outer:List cW) (s:η) (H:Hp) (args:Args) (us:List δ) (vs:List V) (Q:VK) (E:XK),fy k A->tS P w K mg base A outer s H->oG s fd args (ps.zip us)->bt vs us->sp vs H Q E ->
  iu (model P w) A (.call (.ref f) args) (CR pT outer P w H s Q E) s
section
variable {P:Ω} {w:aw} {K:θ} {mg:ν->Option δ} {base:au} {j k:Nat} {f:ζ} {fd:aB} {ps:List ν} {sp:Sp}
theorem oi.calm(F:oi P w K mg base k f fd ps sp):je P w K mg base pT k f fd ps sp:=⟨F.len,fun A outer s H args us vs Q E hr=>F.run A outer s H args us vs Q E hr.h⟩
theorem oi.mono(F:oi P w K mg base j f fd ps sp)(h:j≤k):oi P w K mg base k f fd ps sp:=⟨F.len,fun A outer s H args us vs Q E hr=>F.run A outer s H args us vs Q E (hr.mono h)⟩
end
def Ck(P:Ω)(w:aw)(K:θ)(mg:ν->Option δ)(base:au)(N:List ν)(qual:ν)(scope:fh)(f:ζ)(cd:δ)(A:aF)(outer:List cW)(s:η)(H:Hp)(E:XK):Cx:=
 { jO pT P w K mg base N qual scope f cd A outer s H E with calm:=false,xe:=fun _ _=>False }
section
variable {P:Ω} {w:aw} {K:θ} {mg:ν->Option δ} {base:au} {N:List ν} {qual:ν} {scope:fh} {f:ζ} {cd:δ} {A:aF} {outer:List cW} {s s1:η} {H H1:Hp} {E:XK} {pins:List (ζ×aW)} {σ:St}
theorem Inv.loud(I:Inv (jO pT P w K mg base N qual scope f cd { A with handled:=none } outer s H E) pins σ H1 s1)(hf:A.frames=some outer):Inv (Ck P w K mg base N qual scope f cd A outer s H E) pins σ H1 s1:=by
 obtain⟨ok,a1,a2,a3,a4,a5,a6,a7,a8,a9,a10⟩:=I;obtain⟨o1,o2,o3,o4,o5,o6,o7,o8,_,_,o11,o12,o13,o14,o15,o16,o17,o18⟩:=ok;exact⟨⟨o1,o2,o3,o4,o5,o6,o7,o8,(fun z=>nomatch z),sg hf,o11,o12,o13,o14,o15,o16,o17,o18⟩,a1,a2,a3,a4,a5,a6,a7,a8,a9,a10⟩
end
theorem QU{P:Ω}{w:aw}{K:θ}{mg:ν->Option δ}{base:au}{k:Nat}{x qual:ν}{st:aY}{f:ζ}{fd:aB}{N ps:List ν}{sp:Sp}(F:fv K x qual st f fd)(S:bP N ps (ar st))(len:∀vs H Q E,sp vs H Q E->vs.length=ps.length)
  (gV:∀(cdv:δ) (A:aF) (outer:List cW) (s:η) (H:Hp) (vs:List V) (Q:VK) (E:XK),fy k (A.deeper (envOfC qual (ar st) s.heap.objs.size f cdv))->sp vs H Q E ->
   ∃t,mX (Ck P w K mg base N qual (ar st) f cdv A outer s H E) (fm st) t/\t { nx:=fun _ H'=>Q .aO H',rt:=Q } (start N vs) H):
  oi P w K mg base (k+1) f fd ps sp:=by
 obtain⟨oc,od,kV,doc,pm,an,cdv,ct,osl,rfl,lk,iD⟩:=F.ex;refine⟨len,fun A outer s H args us vs Q E hr e0 hb r tH=>?_⟩;have hl:=len _ _ _ _ tH;have KX:K.In s.heap:=e0.mod.tz.keeps fun b o e=>(e0.bs b o e).1;have lim:s.heap.NoLimit:=e0.mod.nolimit.keeps fun b o e=>(e0.bs b o e).1;have hkind:∀y∈ps.zip us,(ar st).names.lookup y.1=some .local∨((ar st).names.lookup y.1=some .cell/\((cellsFrom (s.heap.objs.size+1) (ar st).names []).lookup y.1).isSome=true):=fun⟨n,v⟩ hy=>by
  rcases S.par n (gg hy).1 with q|q
  ·exact .inl q
  ·exact .inr ⟨q,kH _ _ _ (.inl q)⟩
 refine ls hr.depth (KX _ _ lk) rfl S.co S.gen rfl (mZ KX iD) (hb _ _ _ _ ?_);refine iY S.kind hkind fun env he s1 x=>?_;subst he;refine⟨lim.keeps x.toInCall.keep,codeAny_func ?_⟩;obtain⟨t,ht,hq⟩:=gV cdv A outer s H vs Q E (hr.deeper _) tH;have e1:tS P w K mg base { A with handled:=none } outer s H:=⟨e0.frames,e0.mod,e0.bs,e0.sj,e0.lN,e0.wY,e0.bI,e0.bare⟩;have I0:Inv (jO pT P w K mg base N qual (ar st) f cdv { A with handled:=none } outer s H E) [] (start N vs) H s1:=J9 S rfl e1 hl r x;have I:=I0.loud (A:=A) e0.frames;refine b9 (ht [] s1 (start N vs) H _ I hq) (fun fl s' hs=>?_) fun e s' hs=>hs.elim;have fin:∀{σ':St} {H':Hp} {v:V} {u:δ},Inv (Ck P w K mg base N qual (ar st) f cdv A outer s H E) [] σ' H' s'->RelV v u->Q v H'->CE outer P w H s Q u s':=
  fun {σ' H' v u} J rv q=>⟨v,H',J.os,J.bare,J.base,J.bI,rv,q⟩
 cases fl with
 |ret u=>
  obtain⟨v,σ',H',J,rv,q⟩:=hs;exact fin J rv q
 |next=>
  obtain⟨σ',H',J,q⟩:=hs;exact fin (v:=V.aO) (u:=bz) J rfl q
 |brk=>
  obtain⟨_,_,_,q⟩:=hs;exact bU q
 |cont=>
  obtain⟨_,_,_,q⟩:=hs;exact bU q
section
variable {X:Cx} {k:Nat} {f:ζ} {fd:aB} {ps:List ν} {sp:Sp} {E:XK} {x:ν} {p pos:aV} {e:υ} {es:List υ} {t:TA}
theorem QR{pins:List (ζ×aW)}{σ:St}{H:Hp}{s:η}{Q:VK}{us:List δ}{vs:List V}(F:oi X.prog X.w X.K X.mg X.base k f fd ps sp)(hr:fy k X.A)(hb:Binds X.K fd ps [])
  (I:Inv X pins σ H s) (r:bt vs us) (h:sp vs H Q E):ρ (model X.prog X.w) X.A (call (.ref f) us) (EP X pins σ Q) X.xe s:=by
 have hl:(us++[]).length=ps.length:=by rw[bF,←r.length];exact F.len _ _ _ _ h
 have hb':=hb s us I.gI hl;rw[bF] at hb';refine gv (dP (F.run X.A X.stack s H ⟨us,[]⟩ us vs Q E hr I.K5 hb' r h) fun r s' hq=>?_);cases r with
 |error e=>exact bU hq
 |ok fl=>
  cases fl with
  |ret u=>exact I.after hq
  |next=>exact bU hq
  |brk=>exact bU hq
  |cont=>exact bU hq
theorem QQ(F:oi X.prog X.w X.K X.mg X.base k f fd ps sp)(hr:fy k X.A)(hg:Gl X x)(hm:X.mg x=some (.ref f))(hk:bN X.K (.ref f)=true)(hb:Binds X.K fd ps [])
  (ha:PA X (e::es) t) (hdb:(x==("__debug__":ν))=false:=by decide) (he:bK (e::es) X.env=(false,eval e X.env)::bK es X.env:=by rfl) (hpl:(backTo pos (bK es X.env)).any (·.1)=false:=by rfl):
  PE X (.Call (.Name x p) (e::es) [] pos) (zJ sp [] E t):=by
 intro pins s σ H Q I h;refine dO (rh I hg hm ?_ hdb);refine fQ (h₀:=X.base) I.ok.mod.tz hk (bS (ha pos pins s σ H _ I h) fun us s1 ⟨vs,H1,I1,r,q⟩=>⟨I1.gI,?_⟩) he hpl;have q':sp (vs++[]) H1 Q E:=q;rw[bF] at q';exact QR F hr hb I1 r q'
end
end L2
namespace L3
open PySem PySem.Spec PyProof.Rows L2
abbrev wU(P:Ω)(w:aw)(K:θ)(mg:ν->Option δ)(base:au)(k:Nat)(f:ζ)(fd:aB)(ps:List ν)(sp:fO):Prop:=oi P w K mg base k f fd ps (mS K sp)
theorem QP{X:Cx}{k:Nat}{f:ζ}{fd:aB}{ps:List ν}{sp:fO}{x:ν}{p pos:aV}{e:υ}{es:List υ}{t:cM}(F:wU X.prog X.w X.K X.mg X.base k f fd ps sp)(hr:fy k X.A)(hm:X.mg x=some (.ref f))(hk:bN X.K (.ref f)=true)(hb:Binds X.K fd ps [])(ha:jt X (e::es) t)(hg:Gl X x:=by rfl)
  (hdb:(x==("__debug__":ν))=false:=by decide) (he:notStar e=true:=by rfl) (hpl:es.all notStar=true:=by rfl):
  bW X (.Call (.Name x p) (e::es) [] pos) (bO sp t):=iC (QQ (E:=E0) F hr hg hm hk hb ha hdb (dW he) (jo hpl)) fun σ H Q h=>JK h
theorem WM{P:Ω}{w:aw}{K:θ}{mg:ν->Option δ}{base:au}{x qual:ν}{st:aY}{f:ζ}{fd:aB}{N ps:List ν}{k:Nat}{sp:fO}(F:fv K x qual st f fd)(S:bP N ps (ar st))(hN:ps.length≤N.length)(len:∀ds G Q,sp ds G Q->ds.length=ps.length)(tb:bj)
  (gV:∀(cdv:δ) (A:aF) (outer:List cW) (s:η) (H:Hp) (E:XK),fy k (A.deeper (envOfC qual (ar st) s.heap.objs.size f cdv)) ->
   jd (Ck P w K mg base N qual (ar st) f cdv A outer s H E) (fm st) tb)
  (sh:∀ds G Q,sp ds G Q->tb (bw Q) (bA N ds) G):wU P w K mg base (k+1) f fd ps sp:=by
 refine QU F S (fun vs H Q E h=>?_) (fun cdv A outer s H vs Q E hr h=>?_)
 ·obtain⟨ds,G,Q3,h1,h2,h3,h4⟩:=h;rw[←h1.length];exact len _ _ _ h3
 ·obtain⟨ds,G,Q3,h1,h2,h3,h4⟩:=h;refine⟨_,gV cdv A outer s H E hr,bA N ds,G,bw Q3,.start h1 ?_,h2,sh _ _ _ h3,⟨?_,?_,?_,?_⟩⟩
  ·rw[←h1.length,len _ _ _ h3];exact hN
  ·exact fun τ σ G' H' a b c ⟨G0,s0,q⟩=>h4 _ H' .aO G0 (by simp[Hv]) (b.trans (.sub s0)) (c.sub s0) q
  ·exact fun τ σ G' H' a b c q=>q.elim
  ·exact fun τ σ G' H' a b c q=>q.elim
  ·exact fun d v G' H' a b c ⟨G0,s0,q⟩=>h4 _ H' d G0 a (b.trans (.sub s0)) (c.sub s0) q
end L3
namespace L3
open PySem PySem.Spec PyProof.Rows L2
abbrev w9:=S3->Gp->E3
abbrev yR:=w9->aP
abbrev zD:=w9->cM
abbrev vQ:=w9->bj
def ux(X:Cx)(pins:List (ζ×aW))(H:Hp)(G:Gp)(KX:w9)(XE:δ->η->Prop):Prop:=
 ∀(σ1:L2.St) (τ1:S3) (H1:Hp) (s1:η) (G1:Gp) (ev:δ) (s':η),Inv X pins σ1 H1 s1->dZ X.K τ1 σ1 H1->aS X.K G1 H1->Step H G H1 G1->fL X.prog X.w X.base X.stack H1 s1 (vE X.K (KX τ1 G1) H1 G1) ev s'->XE ev s'
theorem ux.step{X:Cx}{pins:List (ζ×aW)}{H H1:Hp}{G G1:Gp}{KX:w9}{XE:δ->η->Prop}(x:ux X pins H G KX XE)(S:Step H G H1 G1):ux X pins H1 G1 KX XE:=
 fun σ1 τ1 H2 s2 G2 ev s' a b c d e=>x σ1 τ1 H2 s2 G2 ev s' a b c (S.trans d) e
def zE(X:Cx)(e:υ)(t:yR):Prop:=
 ∀(pins:List (ζ×aW)) (s:η) (σ:L2.St) (H:Hp) (Q:VK) (XE:δ->η->Prop) (τ:S3) (G:Gp) (Q3:V3) (KX:w9),Inv X pins σ H s->dZ X.K τ σ H->aS X.K G H->t KX τ G Q3 ->
  (∀v H' d G',Hv X.K H' d v->Step H G H' G'->aS X.K G' H'->Q3 d G'->Q v H')->ux X pins H G KX XE->ρ (model X.prog X.w) X.A (eval e X.env) (EP X pins σ Q) XE s
def Cq(X:Cx)(es:List υ)(t:zD):Prop:=
 ∀(pos:aV) (pins:List (ζ×aW)) (s:η) (σ:L2.St) (H:Hp) (Q:List V->Hp->Prop) (XE:δ->η->Prop) (τ:S3) (G:Gp) (Q3:List D->Gp->Prop) (KX:w9),Inv X pins σ H s->dZ X.K τ σ H->aS X.K G H->t KX τ G Q3 ->
  (∀vs H' ds G',aJ X.K H' ds vs->Step H G H' G'->aS X.K G' H'->Q3 ds G'->Q vs H')->ux X pins H G KX XE->ρ (model X.prog X.w) X.A (spliced (backTo pos (bK es X.env))) (AP X pins σ Q) XE s
def Fn(X:Cx)(st:List aY)(t:vQ):Prop:=
 ∀(pins:List (ζ×aW)) (s:η) (σ:L2.St) (H:Hp) (D2:Ends) (XE:δ->η->Prop) (τ:S3) (G:Gp) (D3:gu) (KX:w9),Inv X pins σ H s->dZ X.K τ σ H->aS X.K G H->t KX D3 τ G->oC X.K H G D3 D2->ux X pins H G KX XE ->
  ρ (model X.prog X.w) X.A (execs st X.env) (SP X pins D2) XE s
section
variable {X:Cx} {k:Nat} {f:ζ} {fd:aB} {ps:List ν} {sp:oY} {x:ν} {p pos:aV} {a b e c:υ} {es:List υ} {t:cM} {te:aP} {tx:yR} {tax:zD} {tc:cI} {ta tb tr:vQ} {sa sb rest:List aY}
theorem QN(h:bW X.lj e te):zE X e (fun _=>te):=fun pins s σ H Q XE τ G Q3 KX I RS RG ht kk _=>
 b9 (h pins s σ H Q (I.nk _) ⟨τ,G,Q3,RS,RG,ht,kk⟩) (fun _ _ ⟨v,H',I',r,q⟩=>⟨v,H',I'.jG,r,q⟩) fun _ _ z=>bU z
theorem Ru:Cq X [] (fun _=>av):=fun _ _ _ _ H Q XE τ G Q3 KX I RS RG h kk _=>uE ⟨[],H,I,.nil,kk [] H [] G .nil (.refl H G) RG h⟩
def vP(tx:yR)(tax:zD):zD:=fun KX τ G Q=>tx KX τ G fun x G1=>tax KX τ G1 fun xs G2=>Q (x::xs) G2
theorem Rt(ha:zE X e tx)(hr:Cq X es tax)(hs:notStar e=true:=by rfl):Cq X (e::es) (vP tx tax):=by
 intro pos pins s σ H Q XE τ G Q3 KX I RS RG h kk xx;rw[dW hs];show ρ _ _ (spliced ((false,eval e X.env)::backTo pos (bK es X.env))) _ _ s;refine uc (bS (ha pins s σ H (fun v H1=>∃d G1,Hv X.K H1 d v/\Step H G H1 G1/\aS X.K G1 H1/\tax KX τ G1 fun xs G2=>Q3 (d::xs) G2) XE τ G _ KX I RS RG h (fun v H' d G' a b c q=>⟨d,G',a,b,c,q⟩) xx) fun u s1 ⟨v,H1,I1,r1,d,G1,hd,S1,R1,q1⟩=>?_);exact bS (hr pos pins s1 σ H1 (fun vs H2=>Q (v::vs) H2) XE τ G1 _ KX I1 (RS.ext (S1.ext RG)) R1 q1 (fun vs H' ds G' a b c q=>kk _ H' _ G' (.cons (hd.ext (b.ext R1)) a) (S1.trans b) c q) (xx.step S1)) fun us s2 ⟨xs,H2,I2,r2,q2⟩=>⟨v::xs,H2,I2,.cons r1 r2,q2⟩
theorem Rr{x1}(h:Cq X es tax):zE X (.Tuple es x1 pos) (fun KX=>eP (tax KX)):=by
 intro pins s σ H Q XE τ G Q3 KX I RS RG hq kk xx;refine wpAny_Tuple_spliced (bS (h pos pins s σ H (fun vs H1=>∃ds G1,aJ X.K H1 ds vs/\Step H G H1 G1/\aS X.K G1 H1/\qm (Q3 (.tup ds) G1) ds 64) XE τ G _ KX I RS RG hq (fun vs H' ds G' a b c q=>⟨ds,G',a,b,c,q⟩) xx) fun us s1 ⟨xs,H1,I1,r,ds,G1,hd,S1,R1,q1⟩=>?_);obtain⟨z,q1⟩:=yi q1;have z':xs.length≤aC:=by rw[←hd.length];exact vG z
 refine⟨by rw[←r.length];exact z',?_⟩;have hf:H1 s1.heap.objs.size=none:=I1.bI.fresh (Θ _);refine⟨.ref s1.heap.objs.size,upd H1 s1.heap.objs.size (.tup xs),I1.laid (t':=s1.toks) (fun b u e=>μ _ e) (Θ _) ?_,rfl,kk _ _ (.tup ds) G1 ?_ (S1.trans (.laid hf)) (R1.laid hf) q1⟩
 ·exact⟨z',us,r,⟨_,aM _ rfl,rfl,⟨_,rfl⟩,rfl⟩⟩
 ·unfold Hv;exact⟨_,xs,rfl,.of iV,hd.ext (.laid hf)⟩
def zK(tx:yR):vQ:=fun KX D τ G=>tx KX τ G D.rt
theorem Rq(h:zE X e tx):Fn X [.Return (some e) pos] (zK tx):=by
 intro pins s σ H D2 XE τ G D3 KX I RS RG ht EL xx;refine iO (wpAny_Return_some (bS (h pins s σ H D2.rt XE τ G _ KX I RS RG ht (fun v H' d G' a b c q=>EL.rt d v G' H' a b c q) xx) fun v s1 ⟨x,H1,I1,r1,q1⟩=>?_));exact⟨x,σ,H1,I1,r1,q1⟩
end
end L3
namespace L2
open PySem PySem.Spec PyProof.Rows
open Builtin Builtin.ObjectAttr
open Sem (wp)
abbrev gH:List δ:=[.type "ValueError",.type "Exception",.type "BaseException",.type "object"]
def xA(es:Array DictEntry):Bool:=es.toList.all fun e=>match e.key with
 |.str _ _=>true
 |_=>false
theorem Rp{es:Array DictEntry}(h:xA es=true):StrKeys es:=fun e he=>by
 have:=pH.mp h e (by simpa using he);cases q:e.key with
 |str n t=>exact⟨n,t,rfl⟩
 |_=>rw[q] at this;cases this
def KH(K:θ)(N:ζ)(init:Option δ):Bool:=match K.lookup N with
 |some ⟨_,_,.dict es _,_⟩=>xA es&&nsFind es "__init__" == init
 |_=>false
theorem Ro{K:θ}{h:au}{N:ζ}{init:Option δ}(X:K.In h)(e:KH K N init=true):∃m,h.Ns N m/\m "__init__" = init:=by
 unfold KH at e;split at e
 ·rename_i c d es ep sl ho;rw[cA] at e;exact⟨nsFind es,⟨_,es,ep,X _ _ ho,rfl,Rp e.1,fun _=>rfl⟩,beq_iff_eq.mp e.2⟩
 ·cases e
def excIn(K:θ)(C:ζ)(bm:List δ)(init:Option δ)(newId:String):Bool:=match K.lookup C with
 | some ⟨.type "type",_,.cls cd,sl⟩=>(match cd.mro,sl.toList with
  |.ref C'::bm',[_,_,_,_,some (.builtin n),_]=>C'==C&&bm'==bm && !cd.hasDel&&cd.hasDict&&n==newId&&KH K cd.ns init
  | _,_=>false)
 |_=>false
theorem AM{K:θ}{h:au}{C:ζ}{bm:List δ}{init:Option δ}{newId:String}(X:K.In h)(q:excIn K C bm init newId=true):∃nm qn N bs sn sub ab col dd k0 k1 k2 k3 k5 mN,
  h.get? C=some (excClassObj nm qn C N bs bm true sn sub ab col dd k0 k1 k2 k3 k5 newId)/\h.Ns N mN/\mN "__init__" = init:=by
 unfold excIn at q;split at q
 ·rename_i dd cd sl ho;split at q
  ·rename_i C' bm' k0 k1 k2 k3 n k5 hm hs;simp only[cA,beq_iff_eq,gp] at q;obtain⟨⟨⟨⟨⟨rfl,rfl⟩,hdel⟩,hdct⟩,rfl⟩,hns⟩:=q;obtain⟨nm,bs,mro,ns,qn,hd,sn,sub,ab,col,del⟩:=cd;dsimp only at hm hdel hdct hns;subst hm hdel hdct;have hsl:sl = #[k0,k1,k2,k3,some (.builtin n),k5]:=by
    obtain⟨l⟩:=sl;simp only at hs;rw[hs]
   subst hsl;obtain⟨m,h1,h2⟩:=Ro X hns;exact⟨nm,qn,ns,bs,sn,sub,ab,col,dd,k0,k1,k2,k3,k5,m,X _ _ ho,h1,h2⟩
  ·cases q
 ·cases q
structure pd(K:θ)(C B:ζ)(init:Option δ):Prop where
 cls:excIn K C (.ref B::gH) init "ValueError.__new__" = true
 base:excIn K B gH none "ValueError.__new__" = true
theorem pd.own{K:θ}{C B:ζ}{init:Option δ}(x:pd K C B init){h:au}(X:K.In h):∃nm qn N bs sn sub ab col dd k0 k1 k2 k3 k5 mN,
  h.get? C=some (excClassObj nm qn C N bs (.ref B::gH) true sn sub ab col dd k0 k1 k2 k3 k5 "ValueError.__new__")/\h.Ns N mN/\mN "__init__" = init/\OwnTail h gH (.ref B::gH):=by
 obtain⟨nm,qn,N,bs,sn,sub,ab,col,dd,k0,k1,k2,k3,k5,mN,h1,h2,h3⟩:=AM X x.cls;obtain⟨nm',qn',N',bs',sn',sub',ab',col',dd',k0',k1',k2',k3',k5',mN',h1',h2',h3'⟩:=AM X x.base;exact⟨nm,qn,N,bs,sn,sub,ab,col,dd,k0,k1,k2,k3,k5,mN,h1,h2,h3,.own h1' h2' h3' .base⟩
structure vW(K:θ)(C B:ζ)(names:List ν):Prop where
 sa:bV K (.ref C) "__setattr__" = some (some (.builtin "object.__setattr__"))
 obj:i6 K C (.type "object")=some true
 mro:∃cd,i7 K C=some cd/\cd.mro=.ref C::.ref B::gH/\cd.hasDict=true
 nm:∀n∈names,bV K (.ref C) n=some none
section
variable {prog:Ω} {w:aw} {A:aF} {E:δ->η->Prop} {s:η} {K:θ} {C B x:ζ} {names:List ν} {name:ν} {v:δ} {mA:ν->Option δ}
theorem Rn{h:au}(I:h.Inst x C mA):∃ox od,mK h x ox C od:=by
 obtain⟨o,hx,hc,hnc,hd⟩:=I;have hn:j8 o=true:=by
  unfold j8;split
  ·rename_i c q;exact absurd q (hnc c)
  ·rfl
 rcases hd with⟨hd,_⟩|⟨d,hd,_,od,es,ep,hod,_⟩
 ·exact⟨o,none,hx,hc,hn,by rw[hd];trivial⟩
 ·exact⟨o,some od,hx,hc,hn,by rw[hd];exact hod⟩
theorem Rm{ns:List ν}{Q:Unit->η->Prop}(S:vW K C B names)(hn:name∈names)(X:K.In s.heap)(I:s.heap.Inst x C mA)(hw:Within mA ns)(fz:ns.length≤1000)
  (hq:∀h' tk',h'.Inst x C (fun y=>if y=name then some v else mA y) ->
   (∀b o,b≠x->(∀o₀ dx,s.heap.get? x=some o₀->o₀.dict=some dx->b≠dx)->s.heap.get? b=some o->h'.get? b=some o) ->
   (∀o₀,s.heap.get? x=some o₀->∃o₁,h'.get? x=some o₁/\o₁.cls=o₀.cls/\o₁.data=o₀.data/\o₁.slots=o₀.slots/\(∀dx,o₀.dict=some dx->o₁.dict=some dx)/\(o₀.dict=none->o₁.dict=some s.heap.objs.size))->Q () { s with heap:=h',toks:=tk' }):
  ρ (model prog w) A (setAttr (.ref x) name v) Q E s:=by
 obtain⟨ox,od,IA⟩:=Rn I;obtain⟨cd,iD,hmro,hdct⟩:=S.mro;refine PySem.W.set_plain X IA S.sa ?_;have X':K.In ({ s with toks:=s.toks+1 }:η).heap:=X;have IA':mK ({ s with toks:=s.toks+1 }:η).heap x ox C od:=IA;have SF:=PySem.F.store_object;have sub:PySem.W.Looks (model prog w) ({ s with toks:=s.toks+1 }:η).heap (isInstance (.ref x) (.type "object")) true:=IA'.type.andThen (PySem.W.looks_mroIn X' S.obj);have hm:PySem.W.Looks (model prog w) ({ s with toks:=s.toks+1 }:η).heap (mroOf (.ref C)) cd.mro:=(sF X' iD).andThen .now;refine iQ SF.slot.plain SF.entry (@PySem.W.check_slot (model prog w) _ _ { s with toks:=s.toks+1 } "object.__setattr__" "object" "__setattr__" (.ref x) [.str name s.toks,v] [] _ SF.kind SF.split sub (SF.args (.ref x) (.str name s.toks) v) ?_);rw[PySem.W.osa_eq,refuse_eq];refine ε (ε (IA'.type.here (ε (hm.here ?_))));rw[hmro,refuseLoop_ref,refuseLoop_ref,PySem.F.store_ValueError.passes];refine ο (ε (IA'.type.here (ε ((PySem.W.looks_findIn X' (S.nm name hn)).here (ε (ο ?_))))));obtain⟨o,hx,hc,hnc,hd⟩:=I;obtain⟨hp,g,dr,tk0,os⟩:=s;dsimp only at hx X IA hq hd X' IA';have LC:=sF (M:=model prog w) X' iD;obtain⟨oc,odi,oda,osl⟩:=o;dsimp only at hc hnc hd;subst hc;show ρ _ _ (storeInOwnDict (.ref x) (.ref C) (.str name tk0) name v false) _ _ _;refine ε (ο (ε (ε (wpAny_loadPart hx (ε (LC.here ?_))))));rw[hdct];rcases hd with⟨hdn,hmA⟩|⟨dx,hdx,b7,hns⟩
 ·subst hdn;have hx₁:(hp.push { cls:=.type "dict",data:=.dict #[]}).get? x=some ⟨.ref C,none,oda,osl⟩:=μ _ hx;have hxs:x≠hp.objs.size:=aZ (aa hx);have hgd:((hp.push { cls:=.type "dict",data:=.dict #[]}).update x fun o=>{ o with dict:=some hp.objs.size }).get? hp.objs.size
     = some { cls:=.type "dict",data:=.dict #[]}:=
    (sN _ _ _ _ hxs.symm).trans (au.get?_push_at rfl rfl)
  have hnd:((hp.push { cls:=.type "dict",data:=.dict #[]}).update x fun o=>{ o with dict:=some hp.objs.size }).Ns hp.objs.size (fun _=>none):=
    ⟨_,#[],_,hgd,rfl,fun e he=>absurd he (by simp),fun _=>rfl⟩
  have core:ρ (model prog w) A.in1 (storeInDict hp.objs.size (.str name tk0) name v) (fun fin s'=>match fin with | .done f=>(match f with | .ret _=>Q () s' | _=>False) | .again c'=>False) (fun e s'=>E e s') ⟨(hp.push { cls:=.type "dict",data:=.dict #[]}).update x fun o=>{ o with dict:=some hp.objs.size },g,dr,tk0+1,os⟩:=by
   unfold storeInDict newKeyGuard;refine ε (ο (ε (wpAny_nsSet1 (au.Ns1.of_empty hnd) fun h' hn' hs=>?_)));obtain⟨oD,esD,epD,hoD,hdD,hcD⟩:=hn'.count (uJ name v Within.nil);refine ε (wpAny_lookBehind hoD (by rw[hdD];exact pastItsLine_dict (bB hcD (by rw[aE,dC,cu];lia))) ?_);refine ο ?_;have hx':h'.get? x=some ⟨.ref C,some hp.objs.size,oda,osl⟩:=by
    refine (hs.2 x hxs).trans (cq _ hx₁ ?_);have kD:=(au.get?_some_iff.mp hx).2;cases oda<;>first|rfl|exact kD
   refine hq h' _ ⟨_,hx',rfl,hnc,.inr ⟨hp.objs.size,rfl,hxs.symm,?_⟩⟩ (fun b ob hbx _ hb=>?_)
    (fun o₀ h₀=>by obtain rfl:=aD (hx.symm.trans h₀);exact⟨_,hx',rfl,rfl,rfl,fun dx e=>(nomatch e),fun _=>rfl⟩)
   ·obtain⟨o',es,ep,e1,e2,e3,eu,e4⟩:=hn';exact⟨o',es,ep,e1,e2,e3,eu,fun y=>by rw[e4 y];by_cases hy:y=name<;>simp[hy,hmA]⟩
   ·exact (hs.2 b (aZ (aa hb))).trans ((sN _ _ _ _ hbx).trans (μ _ hb))
  rw[if_neg (by decide)];dsimp only;rw[if_neg (by simp[typeHasDict])];split
  ·first
    | (rename_i q;exact absurd q (hnc _))
    | (rename_i q _;exact absurd q (hnc _))
    | (rename_i q _ _;exact absurd q (hnc _))
    | (exfalso;simp_all)
  ·refine ε (wpAny_alloc' ?_);refine ε (wpAny_update' hx₁ ?_);refine ο (a:=some hp.objs.size) ?_;show ρ _ _ (storeInDict hp.objs.size (.str name tk0) name v) _ _ _;refine b9 core (fun fin s' z=>?_) fun _ _ z=>z;cases fin with
   |done f=>
    cases f with
    |ret r=>exact z
    |_=>exact z.elim
   |again c=>exact z.elim
 ·subst hdx;refine ο (a:=some dx) ?_;show ρ _ _ (storeInDict dx (.str name tk0) name v) _ _ _;unfold storeInDict newKeyGuard;refine ε (ο (ε (wpAny_nsSet1 hns fun h' hn' hs=>?_)));obtain⟨oD,esD,epD,hoD,hdD,hcD⟩:=hn'.count (uJ name v hw);refine ε (wpAny_lookBehind hoD (by rw[hdD];exact pastItsLine_dict (bB hcD (by rw[aE,cu];lia))) ?_);refine ο ?_;have hx':=(hs.2 x b7.symm).trans hx;refine hq h' _ ⟨_,hx',rfl,hnc,.inr ⟨dx,rfl,b7,hn'⟩⟩ (fun b ob _ hbd hb=>(hs.2 b (hbd _ dx hx rfl)).trans hb)
   (fun o₀ h₀=>by obtain rfl:=aD (hx.symm.trans h₀);exact⟨_,hx',rfl,rfl,rfl,fun _ e=>e,fun e=>(nomatch e)⟩)
end
end L2
namespace L2
open PySem PySem.Spec PyProof.Rows
open Sem (wp)
structure Fj(l:List cW)(e T:ζ)(h h':au):Prop where
 keep:∀b o,b≠e->b≠T->b∉fK l->h.get? b=some o->h'.get? b=some o
 slot:∀b o,b∈fK l->h.get? b=some o->∃sl,h'.get? b=some { o with slots:=sl }
theorem rW.Lw{base:au}{l:List cW}{e T:ζ}{cls:δ}{dx:Option ζ}{h h':au}(L:rW base l e T cls dx h h'):Fj l e T h h':=⟨L.keep,L.slot⟩
section
variable {M:Model} {A:aF} {E:δ->η->Prop} {s:η}
theorem Rl{base:au}{env:cW}{outer:List cW}{L e T:ζ}{cls:δ}{dx:Option ζ}{Q:Unit->η->Prop}
  (kD:A.frames=some (env::outer)) (hl:s.heap.FunFrames base (env::outer)) (hf:env.frame=some L) (ht:oB base s.heap e T cls dx) (hkb:base.StaysIn s.heap) (hen:base.get? e=none)
  (h:∀h',rW base (env::outer) e T cls dx s.heap h'->Q () { s with heap:=h' }):ρ M A (noteFrame (.ref e) env) (fun _ s'=>ρ M A (setFlight (.ref e) none) Q E s') E s:=by
 obtain⟨⟨oe,vs,he,hcls,hdx,hd,h1,h2⟩,hnT,hTe,oT,ts,hT,hdT,h3⟩:=ht;subst hcls hdx;unfold noteFrame;simp only[hf];refine ε (dU he hd h1 ?_);rw[if_pos (show (bo T != bz)=true from by simp)];refine ε (dU hT hdT h3 ?_);rw[if_neg (show ¬((bz==rawInt L)=true) from by simp[rawInt])];refine ε (j6 hT hdT (aH.mp h3).1 ?_);have other:∀b,b≠T->(s.heap.update T (gj (·.setIfInBounds 3 bz))).get? b=s.heap.get? b:=fun b hb=>bE _ _ (eV hb);have noRecord:∀b o,s.heap.get? b=some o->(∀vs,o.data≠.fields vs)->b≠T:=fun b o hb hnf q=>by
  rw[q,hT] at hb;injection hb with hb;subst hb;exact hnf ts hdT
 have hTf:T∉fK (env::outer):=fun hm=>by
  obtain⟨_,o,ho,hnf⟩:=hl.mem hm;rw[hT] at ho;injection ho with ho;subst ho;exact hnf ts hdT
 refine tv kD (hl.of_keeps fun b o hb hnf=>⟨o,(other b (noRecord b o hb hnf)).trans hb,rfl⟩) hf ((other e (eV hTe)).trans he)
  (fun b o hbo=>(other b fun q=>by rw[q,hnT] at hbo;cases hbo).trans (hkb b o hbo)) hen hd (aH.mp h1).1 h2
  fun h' ⟨x1,x2,⟨T',x3,x3'⟩,x4,x5⟩=>h h' ⟨x1,x2,⟨T',x3,?_⟩,fun b o hbe hbT hbf hb=>x4 b o hbe hbe hbf ((other b hbT).trans hb),fun b o hbf hb=>x5 b o hbf ((other b fun q=>hTf (q▸hbf)).trans hb)⟩
 by_cases hq:T'=T
 ·subst hq;obtain⟨o2,e2⟩:∃o2,(s.heap.update T' (gj (·.setIfInBounds 3 bz))).get? T'=some o2:=⟨_,cq _ hT (gf (eU hdT _))⟩;rw[e2] at x3';cases x3'
 ·rw[←other T' hq];exact x3'
theorem FL{base:au}{e T:ζ}{cls:δ}{dx:Option ζ}{Q:Unit->η->Prop}(ht:oB base s.heap e T cls dx)
  (h:∀h',(∀b o,b≠T->s.heap.get? b=some o->h'.get? b=some o)->oB base h' e T cls dx->Q () { s with heap:=h' }):ρ M A (setFlight (.ref e) none) Q E s:=by
 obtain⟨⟨oe,vs,he,hcls,hdx,hd,h1,h2⟩,hnT,hTe,oT,ts,hT,hdT,h3⟩:=ht;unfold setFlight;refine ε (dU he hd h1 ?_);rw[if_pos (show (bo T != bz)=true from by simp)];have hz:=(aH.mp h3).1;refine j6 hT hdT hz (h _ (fun b o hb q=>(bE _ _ (eV hb)).trans q) ⟨⟨oe,vs,(bE _ _ hTe).trans he,hcls,hdx,hd,h1,h2⟩,hnT,hTe,_,_,cq _ hT (gf (eU hdT _)),eU hdT _,?_⟩);simp[hz]
theorem ze{nm q:ν}{C N B:ζ}{bs bm:List δ}{hdct:Bool}{sn:List ν}{sub:List δ}{ab:Bool}{col:Option Bool}{dd:Option ζ}{k0 k1 k2 k3 k5:Option δ}{newId:String}
  {nm' q':ν} {N':ζ} {bs' bm':List δ} {hdct':Bool} {sn':List ν} {sub':List δ} {ab':Bool} {col':Option Bool} {dd':Option ζ} {k0' k1' k2' k3' k5':Option δ} {newId':String}
  {h:au} {g:Array GenState} {d:Drawn} {t:Nat} {os:OsState} {e:ζ} {oe:aW} {Q:Bool->η->Prop}
  (hC:h.get? C=some (excClassObj nm q C N bs bm hdct sn sub ab col dd k0 k1 k2 k3 k5 newId)) (hB:h.get? B=some (excClassObj nm' q' B N' bs' bm' hdct' sn' sub' ab' col' dd' k0' k1' k2' k3' k5' newId'))
  (he:h.get? e=some oe) (hcls:oe.cls=.ref C) (rM:bm'.contains (.type "BaseException")=true) (hsub:(bo C::bm).contains (.ref B)=true)
  (hq:Q true ⟨h,g,d,t,os⟩):ρ M A (excMatches (.ref e) (.ref B)) Q E ⟨h,g,d,t,os⟩:=by
 have hcB:(bo B::bm').contains (.type "BaseException")=true:=by rw[ng,rM,ud]
 have f:=tc_notTuple;unfold excMatches
 repeat (first|(with_reducible refine fq he ?_;rw[hcls])|with_reducible refine fq hB ?_|(with_reducible refine jh hB ?_;rw[hcB])|(with_reducible refine jh hC ?_;rw[hsub])|wp_step)
 exact hq
end
section
variable {X:Cx} {pins:List (ζ×aW)} {σ:St} {H:Hp} {s:η} {h':au} {e T:ζ}
structure Frame(X:Cx):Prop where
 ex:X.ex=[]
 st:X.stack=X.env::X.outer
 fr:X.env.frame=some X.env.locals
theorem Inv.zi(I:Inv X pins σ H s)(F:Frame X)(L:Fj X.stack e T s.heap h')(he:X.s₀.heap.get? e=none)(hT:X.s₀.heap.get? T=none)(hHe:H e=none)(hHT:H T=none)
  (hp:∀p∈X.pn++pins,p.1≠e/\p.1≠T) (eo:∃oe vs,s.heap.get? e=some oe/\oe.data=.fields vs) (To:∃oe vs,s.heap.get? T=some oe/\oe.data=.fields vs):Inv X pins σ H { s with heap:=h' }:=by
 have hloc:X.s₀.heap.get? X.env.locals=none:=fk I.ok.above;have sub:∀b,b∈fK X.stack->b=X.env.locals∨b∈fK X.outer:=fun b hb=>ak.mp (I.sR b hb);have ne:∀{b c:ζ} {o:aW},X.s₀.heap.get? b=some o->X.s₀.heap.get? c=none->b≠c:=fun h1 h2 z=>by
  rw[z,h2] at h1;cases h1
 have lj:∀b:ζ,b∉X.ex:=fun b z=>by
  rw[F.ex] at z;cases z
 have inStk:X.env.locals∈fK X.stack:=by
  rw[F.st];unfold fK;rw[fD,F.fr];exact aj
 have supF:∀b,b∈fK X.outer->b∈fK X.stack:=fun b hb=>by
  rw[F.st];unfold fK;rw[fD,F.fr];exact ai _ hb
 have noF:∀{b:ζ} {o:aW},s.heap.get? b=some o->(∀vs,o.data≠.fields vs)->b≠e/\b≠T:=fun {b o} hb hn=>⟨fun z=>by
  obtain⟨oe,vs,q1,q2⟩:=eo;rw[z,q1] at hb;cases hb;exact hn vs q2,fun z=>by
  obtain⟨oe,vs,q1,q2⟩:=To;rw[z,q1] at hb;cases hb;exact hn vs q2⟩
 have cellK:∀c v,s.heap.IsCell c v->h'.IsCell c v:=fun c v hc=>by
  obtain⟨o,ho,hd⟩:=hc;by_cases hb:c∈fK X.stack
  ·obtain⟨sl,k2⟩:=L.slot c o hb ho;exact⟨_,k2,hd⟩
  ·obtain⟨n1,n2⟩:=noF ho (fun vs q=>by rw[hd] at q;cases q);exact⟨o,L.keep c o n1 n2 hb ho,hd⟩
 refine⟨I.ok,I.os,I.bare,⟨fun b o h1 h2 h3 _=>?_,fun b o h1 h2 h3 _=>?_,I.base.free,fun b o h1 hx=>?_,I.base.ij,I.base.ip,I.base.nq⟩,?_,fun x c hc=>?_,I.free,I.j0,fun p hp'=>?_,fun a o ha=>?_,I.len⟩
 ·have k1:=I.base.keep b o h1 h2 h3 (lj b);refine L.keep b o (ne h1 he) (ne h1 hT) (fun z=>?_) k1;rcases sub b z with z|z
  ·exact ne h1 hloc z
  ·exact h3 z
 ·obtain⟨sl,k1⟩:=I.base.slot b o h1 h2 h3 (lj b);obtain⟨sl',k2⟩:=L.slot b _ (supF b h3) k1;exact⟨sl',k2⟩
 ·obtain⟨o',k1⟩:=I.base.there b o h1 (lj b);by_cases hb:b∈fK X.stack
  ·obtain⟨sl,k2⟩:=L.slot b o' hb k1;exact⟨_,k2⟩
  ·exact⟨o',L.keep b o' (ne h1 he) (ne h1 hT) hb k1⟩
 ·obtain⟨m,⟨o,es,ep,ho,r⟩,hl⟩:=I.loc;obtain⟨sl,k2⟩:=L.slot _ o inStk ho;refine⟨m,⟨_,es,ep,k2,r⟩,fun i x v h1 h2 h3=>?_⟩;obtain⟨u,ru,lk⟩:=hl i x v h1 h2 h3;refine⟨u,ru,?_⟩;rcases lk with lk|⟨kd,c,hc,ic⟩
  ·exact .inl lk
  ·exact .inr ⟨kd,c,hc,cellK c _ ic⟩
 ·obtain⟨v,hv⟩:=I.cell x c hc;exact⟨v,cellK c v hv⟩
 ·obtain⟨q1,q2,q3,q4,q5⟩:=I.pin p hp';refine⟨L.keep p.1 p.2 (hp p hp').1 (hp p hp').2 (fun z=>?_) q1,q2,q3,q4,q5⟩;rcases sub _ z with z|z
  ·exact q3 z
  ·exact q4 z
 ·refine (I.bI a o ha).lE (fun b u hb q=>?_) (fun _ q=>q) fun _ _ q=>q;have hHb:H b≠none:=by
   rcases hb with rfl|hb
   ·rw[ha];simp
   ·rw[hb];simp
  exact L.keep b u (fun z=>hHb (z▸hHe)) (fun z=>hHb (z▸hHT)) (fun z=>hHb (I.gS b z)) q
theorem Inv.forget{m':ν->Option δ}{t':Nat}(I:Inv X pins σ H s)(hs:fW X.env.locals s.heap h')(hn:h'.Ns X.env.locals m'):Inv X pins (bu X.N.length none) H { s with heap:=h',toks:=t' }:=by
 have hloc:X.s₀.heap.get? X.env.locals=none:=fk I.ok.above;have k:∀b o,b≠X.env.locals->s.heap.get? b=some o->h'.get? b=some o:=fun b o hb q=>(hs.2 b hb).trans q;have ne:∀{b:ζ} {o:aW},X.s₀.heap.get? b=some o->b≠X.env.locals:=fun h1 z=>by
  rw[z,hloc] at h1;cases h1
 refine⟨I.ok,I.os,I.bare,⟨fun b o h1 h2 h3 h4=>k b o (ne h1) (I.base.keep b o h1 h2 h3 h4),fun b o h1 h2 h3 h4=>?_,I.base.free,fun b o h1 h2=>?_,I.base.ij,I.base.ip,I.base.nq⟩,⟨m',hn,fun i x v h1 h2 h3=>?_⟩,fun x c hc=>?_,I.free,I.j0,fun p hp=>?_,fun a o ha=>?_,by simp⟩
 ·obtain⟨sl,q⟩:=I.base.slot b o h1 h2 h3 h4;exact⟨sl,k _ _ (ne h1) q⟩
 ·obtain⟨o',q⟩:=I.base.there b o h1 h2;exact⟨o',k _ _ (ne h1) q⟩
 ·rw[kr] at h2;split at h2<;>cases h2
 ·obtain⟨v,o,ho,hd⟩:=I.cell x c hc;exact⟨v,o,k _ _ (I.w6 x c hc) ho,hd⟩
 ·obtain⟨q1,q2,q3,q4,q5⟩:=I.pin p hp;exact⟨k _ _ q3 q1,q2,q3,q4,q5⟩
 ·refine (I.bI a o ha).lE (fun b u hb q=>k b u (fun z=>?_) q) (fun _ q=>q) fun _ _ q=>q;rcases hb with hb|hb
  ·rw[←hb,z,I.free] at ha;cases ha
  ·rw[z,I.free] at hb;cases hb
abbrev Cx.kE(X:Cx)(e:ζ):Cx:={ X with A:=X.A.mark (some (.ref e)),calm:=false,xe:=fun _ _=>False }
theorem Inv.kE(I:Inv X pins σ H s)(e:ζ):Inv (X.kE e) pins σ H s:=by
 obtain⟨ok,a1,a2,a3,a4,a5,a6,a7,a8,a9,a10⟩:=I;obtain⟨o1,o2,o3,o4,o5,o6,o7,o8,_,o10,o11,o12,o13,o14,o15,o16,o17,o18⟩:=ok;exact⟨⟨o1,o2,o3,o4,o5,o6,o7,o8,(fun z=>nomatch z),o10,o11,o12,o13,o14,o15,o16,o17,o18⟩,a1,a2,a3,a4,a5,a6,a7,a8,a9,a10⟩
theorem Inv.uncaught{e:ζ}(I:Inv (X.kE e) pins σ H s)(ok:X.Ok):Inv X pins σ H s:=by
 obtain⟨_,a1,a2,a3,a4,a5,a6,a7,a8,a9,a10⟩:=I;exact⟨ok,a1,a2,a3,a4,a5,a6,a7,a8,a9,a10⟩
theorem Cw{P:Ω}{w:aw}{h:au}{a:ζ}{o:HO}(ok:dM P w H h)(hn:H a=none)(new:b8 P w (upd H a o) h a o):dM P w (upd H a o) h:=fun b u e=>by
 by_cases z:b=a
 ·subst z;rw[iV] at e;cases e;exact new
 ·rw[dX z] at e;refine (ok b u e).lE (fun _ _ _ q=>q) (fun c q=>?_) fun c xs q=>?_
  ·rw[dX (fun z=>by rw[z,hn] at q;cases q)];exact q
  ·rw[dX (fun z=>by rw[z,hn] at q;cases q)];exact q
theorem Inv.EJ{a:ζ}{o:HO}(I:Inv X pins σ H s)(hn:H a=none)(h0:X.s₀.heap.get? a=none)(new:b8 X.prog X.w (upd H a o) s.heap a o)(hl:a≠X.env.locals)(hc:∀x c,X.env.cells.lookup x=some c->c≠a)(hp:∀p∈X.pn++pins,p.1≠a):Inv X pins σ (upd H a o) s:=by
 refine⟨I.ok,I.os,I.bare,⟨I.base.keep,I.base.slot,fun b ob h1 h2 h3=>?_,I.base.there,fun b xs e=>?_,fun b x u e=>?_,fun b ps e=>?_⟩,I.loc,I.cell,by rw[dX hl.symm];exact I.free,fun x c e=>by rw[dX (hc x c e)];exact I.j0 x c e,fun p hp'=>?_,Cw I.bI hn new,I.len⟩
 ·rw[dX (fun z=>by rw[z,h0] at h1;cases h1)];exact I.base.free b ob h1 h2 h3
 ·have:=I.base.ij b xs e;rw[dX (fun z=>by rw[z,hn] at this;cases this)];exact this
 ·have:=I.base.ip b x u e;rw[dX (fun z=>by rw[z,hn] at this;cases this)];exact this
 ·obtain⟨more,q⟩:=I.base.nq b ps e;refine⟨more,?_⟩;rw[dX (fun z=>by rw[z,hn] at q;cases q)];exact q
 ·obtain⟨q1,q2,q3,q4,q5⟩:=I.pin p hp';exact⟨q1,by rw[dX (hp p hp')];exact q2,q3,q4,q5⟩
end
end L2
namespace L3
open PySem PySem.Spec PyProof.Rows L2
def vg(a C:ζ)(dx:Option ζ):au->Prop:=fun h=>∃oe vs,h.get? a=some oe/\oe.cls=.ref C/\oe.dict=dx/\oe.data=.fields vs/\vs[2]?=some .none
def jM(x:ν)(fs:List (ν×Int)):θ->ζ->Hp->Prop:=fun K a H=>∃C dx,dk K x C/\H a=some (.ext (vg a C dx))/\tT H dx fs
theorem tT.keep{H H':Hp}{dx:Option ζ}{fs:List (ν×Int)}(h:tT H dx fs)(k:∀b o u,H b=some (.cP o u)->H' b=some (.cP o u)):tT H' dx fs:=by
 rcases h with h|⟨d,o,h1,h2⟩
 ·exact .inl h
 ·exact .inr ⟨d,o,h1,k _ _ _ h2⟩
theorem Rk{K:θ}{H:Hp}{a:ζ}{x:ν}{fs:List (ν×Int)}(h:jM x fs K a H):vU K H a (.gen (jM x fs)):=
 ⟨h,by obtain⟨C,dx,_,e,_⟩:=h;exact⟨_,e,fun _=>nofun,fun _ _=>nofun⟩,fun H1 H2 t f e ⟨C,dx,h1,h2,h3⟩=>⟨C,dx,h1,e.trans h2,h3.keep f⟩⟩
def xp(K:θ)(names:List ν)(B:ζ):Prop:=∀x∈names,∀C,dk K x C->∃init,pd K C B init
def LF(names:List ν)(i:Nat)(tx:vQ)(th:ζ->bj)(tr:bj):bj:=fun D τ G=>
 tx (fun τ1 G1 x fs=>x∈names/\∀p G2,gk G1 p (.gen (jM x fs)) G2->th p { nx:=fun _ _=>False,rt:=D.rt } (kU τ1 i (.obj p)) G2) { D with nx:=tr D } τ G
theorem Qx{X:Cx}{i:Nat}{cx en:ν}{names:List ν}{body suite rest:List aY}{b₀:aY}{np hpos pos:aV}{tx:vQ}{th:ζ->bj}{tr:bj}{B:ζ}(F:Frame X)(T7:xp X.K names B)(hm:X.mg cx=some (.ref B))(hN:X.N.Nodup)(hb:Fn X body tx)(hh:∀e,jd (X.kE e) (b₀::suite) (th e))(hr:jd X rest tr)
  (hi:X.N[i]?=some en:=by rfl) (hl:X.env.scope.names.lookup en=some .local:=by rfl) (hg:Gl X cx:=by rfl) (hdb:(cx==("__debug__":ν))=false:=by decide):
  jd X (.Try body [.ExceptHandler (some (.Name cx np)) (some en) (b₀::suite) hpos] [] [] pos::rest) (LF names i tx th tr):=by
 intro pins s σ H D2 I ⟨τ,G,D3,RS,RG,ht,EL⟩;refine iO (wpAny_Try_except ?_);have EL':oC X.K H G { D3 with nx:=tr D3 } { D2 with nx:=fun σ' H'=>Ec X.K tr D2 σ' H' }:=⟨fun τ' σ' G' H' a b c q=>⟨τ',G',D3,a,c,q,EL.step b⟩,EL.bk,EL.ct,EL.rt⟩;refine b9 (hb pins s σ H _ _ τ G _ _ I RS RG ht EL' ?exc) (fun fl s1 q=>?fin) (fun e s1 q=>q)
 case fin=>
  cases fl with
  |next=>
   obtain⟨σ',H',I',q⟩:=q;exact gW (hr pins s1 σ' H' D2 I' q)
  |ret u=>exact q
  |brk=>exact q
  |cont=>exact q
 case exc=>
  intro σ1 τ1 H1 s1 G1 ev s' I1 RS1 R1 S1 cxx;obtain⟨e,T,C,dx,H',rfl,os,bare,u,ok,tr',⟨hHe,hHT⟩,hen,⟨he0,hT0⟩,⟨x,C',fs,ec,cn,⟨hxn,kq⟩,dd⟩,R2,S2⟩:=cxx;cases ec;have I':Inv X pins σ1 H' s':=I1.BK (ch:=[]) os u ok bare (fun b z=>absurd z (by simp));have s0:∀{b:ζ},s1.heap.get? b=none->X.s₀.heap.get? b=none:=fun {b} hb=>by
   cases hq:X.s₀.heap.get? b with
   |none=>rfl
   |some o=>
    obtain⟨o',e'⟩:=I1.base.there b o hq (by rw[F.ex];simp);rw[hb] at e';cases e'
  have pne:∀p∈X.pn++pins,p.1≠e/\p.1≠T:=fun p hp=>by
   have q:=(I1.pin p hp).1;refine⟨fun z=>?_,fun z=>?_⟩
   ·rw[z,he0] at q;cases q
   ·rw[z,hT0] at q;cases q
  have eo:=tr'.obj;have To:=tr'.ent;refine Rl (base:=X.base) (by rw[I'.ok.frames,F.st]) (by rw[←F.st];exact I'.stack) F.fr tr' I'.bk hen fun h2 L=>?_;rw[←F.st] at L;have I2:=I'.zi F L.Lw (s0 he0) (s0 hT0) hHe hHT pne (by obtain⟨oe,vs,q1,_,_,q2,_⟩:=eo;exact⟨oe,vs,q1,q2⟩) (by obtain⟨oe,vs,q1,q2,_⟩:=To;exact⟨oe,vs,q1,q2⟩);obtain⟨T2,tr2,hT2⟩:=L.xu;obtain⟨oe,vs,q1,q2,q3,q4,q5,q6⟩:=tr2.obj;obtain⟨oT,ts,r1,r2,r3⟩:=tr2.ent;have Ic:=I2.kE e;obtain⟨init,ec⟩:=T7 x hxn C cn;refine wpAny_handleBy_cons (codeAny_handlers_test (rh (X:=X.kE e) Ic hg hm ?_ hdb)) (by intro q;cases q);obtain⟨nm,qn,N,bs,sn,sub,ab,col,dd',k0,k1,k2,k3,k5,mN,hC,_⟩:=AM Ic.gI ec.cls;obtain⟨nm',qn',N',bs',sn',sub',ab',col',dd'',k0',k1',k2',k3',k5',mN',hB,_⟩:=AM Ic.gI ec.base;refine ze hC hB q1 q2 (by decide +kernel) (by simp) ?_;refine codeAny_handlers_suite_as ?_;refine FL tr2 fun h3 kp tr3=>?_;have sT2:X.s₀.heap.get? T2=none:=by
   cases hq:X.s₀.heap.get? T2 with
   |none=>rfl
   |some o=>
    obtain⟨o',e'⟩:=I'.base.there T2 o hq (by rw[F.ex];simp);rw[hT2] at e';cases e'
  have hHT2:H' T2=none:=by
   cases hq:H' T2 with
   |none=>rfl
   |some o=>
    obtain⟨ob,e'⟩:=b8.there (I'.bI T2 o hq);rw[hT2] at e';cases e'
  have I3:=I2.zi (h':=h3) F (e:=e) (T:=T2) ⟨fun b o _ hT _ q=>kp b o hT q,fun b o hb q=>⟨o.slots,kp b o (fun z=>by
   obtain⟨_,o',ho',hd⟩:=I2.stack.mem hb;rw[z,r1] at ho';cases ho';exact hd _ r2) q⟩⟩ (s0 he0) sT2 hHe hHT2 (fun p hp=>⟨(pne p hp).1,fun z=>by
   have:=(I'.pin p hp).1;rw[z,hT2] at this;cases this⟩) ⟨oe,vs,q1,q4⟩ ⟨oT,ts,r1,r2⟩
  obtain⟨oe,vs,q1,q2,q3,q4,q5,q6⟩:=tr3.obj;refine DV (X:=X.kE e) (i:=i) (v:=.ref e) (I3.kE e) hN hi (.inl hl) rfl (fun s4 I4 sb=>?_) (.inr hl);have nl:e≠X.env.locals:=fun z=>by
   obtain⟨m,⟨o,es,ep,ho,hd,_⟩,_⟩:=I3.loc;rw[←z] at ho;rw[show h3.get? e=_ from q1] at ho;cases ho;rw[q4] at hd;cases hd
  have nc:∀y c,X.env.cells.lookup y=some c->c≠e:=fun y c hc z=>by
   obtain⟨v,o,ho,hd⟩:=I3.cell y c hc;rw[z] at ho;rw[show h3.get? e=_ from q1] at ho;cases ho;rw[q4] at hd;cases hd
  obtain⟨a,sb1,sb2⟩:=sb;have q1':s4.heap.get? e=some oe:=(sb1.2 e (fun z=>by
   rcases sb2 with sb2|sb2
   ·exact nl (z.trans sb2)
   ·exact nc _ _ sb2 z.symm)).trans q1
  have I5:=I4.EJ (o:=.ext (vg e C dx)) hHe (s0 he0) ⟨⟨oe,vs,q1',q2,q3,q4,q6⟩,⟨oe,q1'⟩,fun h1 h2 ⟨oe,vs,a,b⟩ k=>⟨oe,vs,k _ a,b⟩⟩ nl nc (fun p hp=>(pne p hp).1);have E2:=S2.ext R1;have RG5:aS X.K (eH G1 e (.gen (jM x fs))) (upd H' e (.ext (vg e C dx))):=R2.jq hHe (Rk ⟨C,dx,cn,iV,dd.keep (Ext.laid hHe).cP⟩);have S5:Step H1 G1 (upd H' e (.ext (vg e C dx))) (eH G1 e (.gen (jM x fs))):=S2.trans (.jq hHe);have RS5:dZ X.K (kU τ1 i (.obj e)) (σ1.set i (some (.ref e))) (upd H' e (.ext (vg e C dx))):=((RS1.ext E2).ext (.laid hHe)).set (by simp[Hv]);refine b9 (hh e pins s4 _ _ { nx:=fun _ _=>False,rt:=D2.rt } I5 ⟨_,_,{ nx:=fun _ _=>False,rt:=D3.rt },RS5,RG5,kq e _ (.mk' (R2.free hHe)),⟨fun _ _ _ _ _ _ _ q=>q.elim,fun _ _ _ _ _ _ _ q=>q.elim,fun _ _ _ _ _ _ _ q=>q.elim,fun d v G' H' a b c q=>EL.rt d v G' H' a (S1.trans (S5.trans b)) c q⟩⟩) (fun fl s5 q=>?_) (fun _ _ z=>z.elim);cases fl with
  |ret u=>
   obtain⟨v,σ',H6,I6,rv,qv⟩:=q;obtain⟨m,hn,_⟩:=I6.loc;refine wpAny_nameGoes hl hn (by rw[I.ok.kind];rfl) fun h7 m7 hn7 hs7=>?_;exact⟨v,_,H6,(I6.uncaught I.ok).forget hs7 hn7,rv,qv⟩
  |next=>
   obtain⟨_,_,_,q⟩:=q;exact q.elim
  |brk=>
   obtain⟨_,_,_,q⟩:=q;exact q.elim
  |cont=>
   obtain⟨_,_,_,q⟩:=q;exact q.elim
def Cz(names:List ν)(i:Nat)(tx:vQ)(th tr:bj):bj:=fun D τ G=>
 tx (fun τ1 G1 x fs=>x∈names/\∀p G2,gk G1 p (.gen (jM x fs)) G2->th { nx:=fun _ _=>False,rt:=D.rt } (kU τ1 i (.obj p)) G2) { D with nx:=tr D } τ G
theorem Qw{X:Cx}{i:Nat}{cx en:ν}{names:List ν}{body suite rest:List aY}{b₀:aY}{np hpos pos:aV}{tx:vQ}{th tr:bj}{B:ζ}(F:Frame X)(T7:xp X.K names B)(hm:X.mg cx=some (.ref B))(hN:X.N.Nodup)(hb:Fn X body tx)(hh:∀e,jd (X.kE e) (b₀::suite) th)(hr:jd X rest tr)
  (hi:X.N[i]?=some en:=by rfl) (hl:X.env.scope.names.lookup en=some .local:=by rfl) (hg:Gl X cx:=by rfl) (hdb:(cx==("__debug__":ν))=false:=by decide):
  jd X (.Try body [.ExceptHandler (some (.Name cx np)) (some en) (b₀::suite) hpos] [] [] pos::rest) (Cz names i tx th tr):=Qx (th:=fun _=>th) F T7 hm hN hb hh hr hi hl hg hdb
end L3
namespace L2
open PySem PySem.Spec PyProof.Rows
open Sem (wp)
structure qB(s1:au)(e C:ζ)(mA:ν->Option δ)(h:au):Prop where
 keep:∀b o,b≠e->s1.get? b=some o->h.get? b=some o
 inst:h.Inst e C mA
 obj:∃o1 o2,s1.get? e=some o1/\h.get? e=some o2/\o2.cls=o1.cls/\o2.data=o1.data
 fresh:∀o dx,h.get? e=some o->o.dict=some dx->s1.get? dx=none
def putN(mA:ν->Option δ)(p:ν×δ):ν->Option δ:=fun y=>if y=p.1 then some p.2 else mA y
def zG(n:ν)(st:aY):Prop:=∃p1 p2 p3 p4,st=.Assign [.Attribute (.Name "self" p1) n p2] (.Name n p3) p4
section
variable {prog:Ω} {w:aw} {A:aF} {E:δ->η->Prop} {K:θ} {C B e:ζ} {names:List ν} {env:cW} {s1:au} {m:ν->Option δ}
theorem qB.store{mA:ν->Option δ}{ns:List ν}{n:ν}{v:δ}{Q:Unit->η->Prop}{s:η}(S:vW K C B names)(hn:n∈names)(X:K.In s.heap)(T:qB s1 e C mA s.heap)(hw:Within mA ns)(fz:ns.length≤1000)
  (hq:∀h' tk',qB s1 e C (putN mA (n,v)) h'->Q () { s with heap:=h',toks:=tk' }):ρ (model prog w) A (setAttr (.ref e) n v) Q E s:=by
 refine Rm S hn X T.inst hw fz fun h' tk' I' hk hs=>hq h' tk' ⟨fun b o hb q=>?_,I',?_,fun o dx q1 q2=>?_⟩
 ·exact hk b o hb (fun o₀ dx h0 hd z=>by
   have:=T.fresh o₀ dx h0 hd;rw[←z,q] at this;cases this) (T.keep b o hb q)
 ·obtain⟨o1,o2,a1,a2,a3,a4⟩:=T.obj;obtain⟨o3,b1,b2,b3,_⟩:=hs o2 a2;exact⟨o1,o3,a1,b1,b2.trans a3,b3.trans a4⟩
 ·obtain⟨o1,o2,a1,a2,a3,a4⟩:=T.obj;obtain⟨o3,b1,b2,b3,b4,b5,b6⟩:=hs o2 a2;rw[b1] at q1;cases q1;cases hd:o2.dict with
  |some dx0=>
   rw[b5 dx0 hd] at q2;obtain rfl:=aD q2;exact T.fresh o2 _ a2 hd
  |none=>
   rw[b6 hd] at q2;cases q2;cases q3:s1.get? s.heap.objs.size with
   |none=>rfl
   |some o=>
    have b7:s.heap.objs.size≠e:=fun z=>by
     have:=aa a2;rw[←z] at this;exact absurd this (cw _)
    have:=aa (T.keep _ _ b7 q3);exact absurd this (cw _)
theorem Qv{L:ζ}(S:vW K C B names)(hk:env.scope.kind=.function)(hloc:env.locals=L)(hLe:L≠e)(hself:env.kindOf "self" = some .local)(hds:(("self":ν)==("__debug__":ν))=false)(hms:m "self" = some (.ref e))(hns:s1.Ns L m)(tz:∀h:au,(∀b o,b≠e->s1.get? b=some o->h.get? b=some o)->K.In h):
  ∀(nvs:List (ν×δ)) (body:List aY),Paired (fun (p:ν×δ) st=>zG p.1 st/\(p.1==("__debug__":ν))=false) nvs body->(∀p∈nvs,env.kindOf p.1=some .local/\m p.1=some p.2/\p.1∈names) ->
   ∀(mA:ν->Option δ) (ns:List ν) (s:η) (Q:Flow->η->Prop),qB s1 e C mA s.heap->Within mA ns->ns.length+nvs.length≤1000 ->
   (∀h' tk',qB s1 e C (nvs.foldl putN mA) h'->Q .next { s with heap:=h',toks:=tk' })->ρ (model prog w) A (execs body env) Q E s:=by
 intro nvs
 induction nvs with
 |nil=>
  intro body hp _ mA ns s Q T _ _ hq;cases hp;exact gW (hq s.heap s.toks T)
 |cons p nvs ih=>
  intro body hpr hp mA ns s Q T hw hz hq;cases hpr with
  |@cons _ st0 _ bd hst r=>
   obtain⟨⟨p1,p2,p3,p4,rfl⟩,hdb⟩:=hst;obtain⟨k1,k2,k3⟩:=hp p aj;have hnsH:s.heap.Ns env.locals m:=by
    obtain⟨o,es,ep,ho,rr⟩:=hns;rw[hloc];exact⟨o,es,ep,T.keep _ _ hLe ho,rr⟩
   have e1:ρ (model prog w) A (eval (.Name p.1 p3) env) (fun v s₁=>ρ (model prog w) A (eval (.Name "self" p1) env) (fun ov s₂=>ρ (model prog w) A (setAttr ov p.1 v) (fun _ s3=>ρ (model prog w) A (execs bd env) Q E s3) E s₂) E s₁) E s:=by
    refine oj (lV hk k1 hnsH k2 ?_) hdb;refine oj (lV hk hself hnsH hms ?_) hds;refine T.store S k3 (tz _ T.keep) hw (by rw[aE] at hz;lia) fun h' tk' T'=>?_;exact ih _ r (fun q hq'=>hp q (ai _ hq')) (putN mA p) (p.1::ns) { s with heap:=h',toks:=tk' } Q T' (uJ p.1 p.2 hw) (by rw[aE] at hz ⊢;lia) fun h'' tk'' T''=>hq h'' tk'' T''
   exact iO (plainObj_wpAny_Assign_Attribute e1 rfl)
end
end L2
namespace L2
open PySem PySem.Spec PyProof.Rows
open Sem (wp)
structure uw(K:θ)(C B f:ζ)(fd:aB)(qual:ν)(st:aY)(names:List ν):Prop where
 ex:pd K C B (some (.ref f))
 set:vW K C B names
 fn:fv K "__init__" qual st f fd
 sc:bP ("self" :: names) ("self" :: names) (ar st)
 body:Paired (fun n st=>zG n st/\(n==("__debug__":ν))=false) names (fm st)
 loc:∀n∈(("self":ν)::names),(ar st).names.lookup n=some .local
 bi:Binds K fd ("self" :: names) []
 kp:bN K (.ref C)=true
 Mj:names.length≤10
 ty:∃o,K.lookup f=some o/\o.cls=.type "function"
structure Me(h h':au)(e d C:ζ)(mA:ν->Option δ):Prop where
 keep:∀b o,h.get? b=some o->h'.get? b=some o
 KJ:h.get? e=none
 newD:h.get? d=none
 ne:d≠e
 obj:∃oe t,h'.get? e=some oe/\oe.cls=.ref C/\oe.dict=some d/\oe.data=.fields #[.ref t,.none,.none,.none,.bool false,.none]
 ns:h'.Ns1 d mA
theorem Im{α β γ:Type}{R:α->β->Prop}:∀{as:List α} {bs:List β} {cs:List γ},Paired R as bs->as.length=cs.length->Paired (fun (p:α×γ) b=>R p.1 b) (as.zip cs) bs
 |_,_,[],.nil,_=>.nil
 |_,_,c::cs,.cons h r,e=>.cons h (Im r (by simpa using e))
theorem Qu{P:Ω}{w:aw}{K:θ}{C B f:ζ}{fd:aB}{qual:ν}{st:aY}{names:List ν}{A:aF}{E:δ->η->Prop}{s:η}{us:List δ}{Q:δ->η->Prop}
  (O:uw K C B f fd qual st names) (X:K.In s.heap) (lim:s.heap.NoLimit) (hl:us.length=names.length) (b7:names≠[]) (hdp:A.depth+4<recursionLimit)
  (hq:∀e d h' tk,Me s.heap h' e d C ((names.zip us).foldl putN fun _=>none)->Q (.ref e) { s with heap:=h',toks:=tk }):ρ (model P w) A (call (.ref C) us) Q E s:=by
 obtain⟨nm,qn,N,bs,sn,sub,ab,col,dd,k0,k1,k2,k3,k5,mN,hC,hn,hni,T⟩:=O.ex.own X;obtain⟨oc,od,kV,doc,pm,an,cdv,ct,osl,rfl,lk,iD⟩:=O.fn.ex;obtain⟨h,g,dr,t,os⟩:=s;have hf:=X _ _ lk;have fz:us.length≤aC:=by rw[hl];exact bB O.Mj (by decide)
 have keepE:∀b o,h.get? b=some o->(fY h C us).get? b=some o:=fun b o q=>μ _ (μ _ q);have XE:K.In (fY h C us):=X.keeps keepE;have limE:(fY h C us).NoLimit:=lim.keeps keepE;have hsE:(fY h C us).objs.size=h.objs.size+2:=by
  unfold fY;rw[iz,iz]
 have heE:(fY h C us).get? (h.objs.size+1)=some { cls:=.ref C,data:=.fields #[.ref h.objs.size,.none,.none,.none,.bool false,.none]}:=by
  unfold fY
  heap_get
 refine Q6 (f:=f) nK T hC hn hni hf (by obtain⟨o,e,c⟩:=O.ty;rw[lk] at e;cases e;exact c) ?_ fz;have hb:=O.bi ⟨fY h C us,g,dr,t,os⟩ (.ref (h.objs.size+1)::us) XE (by simp[hl]);rw[bF] at hb;have hkind:∀y∈(("self":ν)::names).zip (.ref (h.objs.size+1)::us),(ar st).names.lookup y.1=some .local∨((ar st).names.lookup y.1=some .cell/\((cellsFrom ((fY h C us).objs.size+1) (ar st).names []).lookup y.1).isSome=true):=fun⟨n,v⟩ hy=>
  .inl (O.loc n (gg hy).1)
 refine ls (by rw[UW];lia) (XE _ _ lk) rfl O.sc.co O.sc.gen rfl (mZ XE iD) (hb _ _ _ _ ?_);refine iY O.sc.kind hkind fun env he s1 x=>?_;subst he;refine⟨limE.keeps x.toInCall.keep,codeAny_func ?_⟩;have ndP:(("self":ν)::names).Nodup:=O.sc.nd;have hne1:(fY h C us).objs.size≠h.objs.size+1:=by rw[hsE];lia
 have e1:=x.toInCall.keep _ _ heE;have hloc:∀n∈(("self":ν)::names),(envOfC qual (ar st) (fY h C us).objs.size f cdv).kindOf n=some .local:=fun n hn=>O.loc n hn;have inst0:s1.heap.Inst (h.objs.size+1) C (fun _=>none):=⟨_,e1,rfl,fun c=>nofun,.inl ⟨rfl,fun _=>rfl⟩⟩;have T0:qB s1.heap (h.objs.size+1) C (fun _=>none) s1.heap:=⟨fun _ _ _ q=>q,inst0,⟨_,_,e1,e1,rfl,rfl⟩,fun o dx q1 q2=>by
  rw[e1] at q1;cases q1;cases q2⟩
 have hNK:∀b o,K.lookup b=some o->b≠h.objs.size+1:=fun b o q z=>by
  have:=aa (X _ _ q);rw[z] at this;exact absurd this (by show ¬_<h.objs.size;lia)
 obtain⟨tk,hs1⟩:∃tk,s1=⟨s1.heap,g,dr,tk,os⟩:=by
  obtain⟨h1,tk,q,_⟩:=x.done;exact⟨tk,by rw[q]⟩
 refine Qv (L:=(fY h C us).objs.size) (s1:=s1.heap) (e:=h.objs.size+1) (m:=_) O.set O.sc.kind rfl hne1 (hloc "self" aj) (by decide) ?_ x.toInCall.ns (fun h2 k b o q=>k b o (hNK b o q) (x.toInCall.keep _ _ (XE _ _ q))) (names.zip us) (fm st) (Im O.body hl.symm) (fun p hp=>?_) (fun _=>none) [] s1 _ T0 Within.nil ?_ fun h' tk' T'=>?_
 ·exact AG (i:=0) ndP rfl rfl (hloc "self" aj)
 ·obtain⟨i,hi,ei⟩:=fC hp;have hpm:=gg hp;refine⟨hloc p.1 (ai _ hpm.1),?_,hpm.1⟩;have kl:i<names.length:=by rw[List.length_zip] at hi;lia
  have zu:i<us.length:=by lia
  have ep:p=(names[i],us[i]):=by rw[←ei,List.getElem_zip]
  refine AG (i:=i+1) ndP ?_ ?_ (hloc p.1 (ai _ hpm.1))
  ·rw[ku,ep,az kl]
  ·rw[ku,ep,az zu]
 ·rw[dC,List.length_zip];have:=O.Mj;lia
 ·refine⟨rfl,?_⟩;obtain⟨o1,o2,a1,a2,a3,a4⟩:=T'.obj;rw[e1] at a1;cases a1;obtain⟨oe,b1,b2,b3,b4⟩:=T'.inst;rw[a2] at b1;cases b1;rw[hs1];rcases b4 with⟨_,z⟩|⟨d,c1,c2,c3⟩
  ·exfalso;cases names with
   |nil=>exact b7 rfl
   |cons n0 ns0=>
    have key:∀(l:List (ν×δ)) (m0:ν->Option δ) (y:ν),(∃v,m0 y=some v)->∃v,l.foldl putN m0 y=some v:=fun l=>by
     induction l with
     |nil=>exact fun m0 y q=>q
     |cons p l ih=>
      intro m0 y q;refine ih (putN m0 p) y ?_;unfold putN;by_cases z:y=p.1
      ·exact⟨_,if_pos z⟩
      ·rw[if_neg z];exact q
    cases us with
    |nil=>cases hl
    |cons u0 us0=>
     obtain⟨v,hv⟩:=key (ns0.zip us0) (putN (fun _=>none) (n0,u0)) n0 ⟨u0,if_pos rfl⟩;have z0:=z n0;have z1:(ns0.zip us0).foldl putN (putN (fun _=>none) (n0,u0)) n0=none:=z0;rw[hv] at z1;cases z1
  ·have fr:=T'.fresh o2 d a2 c1;refine hq (h.objs.size+1) d h' tk' ⟨fun b o q=>T'.keep b o (fun z=>?_) (x.toInCall.keep _ _ (keepE b o q)),fk (uL _),?_,c2,⟨o2,h.objs.size,a2,b2,c1,a4⟩,c3⟩
   ·have:=aa q;rw[z] at this;exact absurd (show h.objs.size+1<h.objs.size from this) (by lia)
   ·cases q:h.get? d with
    |none=>rfl
    |some o=>
     rw[x.toInCall.keep _ _ (keepE d o q)] at fr;cases fr
end L2
namespace L2
open PySem PySem.Spec PyProof.Rows PySem.W
open Builtin Builtin.ObjectAttr
structure qC(K:Frag)(C:ζ):Prop where
 ga:findIn K (.ref C) "__getattribute__" = some (some (.builtin "BaseException.__getattribute__"))
 gn:findIn K (.ref C) "__getattr__" = some none
 be:mroIn K C (.type "BaseException")=some true
section
variable {prog:Ω} {w:aw} {A:aF} {E:δ->η->Prop} {K:Frag} {x C:ζ} {ox:aW} {od:Option aW} {name:ν} {s:η}
theorem Qt:builtinKind "BaseException.__getattribute__" = some .slot:=by decide +kernel
theorem Qs:splitId "BaseException.__getattribute__" = some ("BaseException","__getattribute__"):=by decide +kernel
theorem Qr:plainId "BaseException.__getattribute__" = true:=by decide +kernel
theorem Qq(self:δ):bindSpecial (.builtin "BaseException.__getattribute__") self=pure (.builtin "BaseException.__getattribute__",[self]):=by kernel_rfl
theorem Il{tk:Tok}{fill expr:Bool}{f:dI.ObjectAttr.Found}{Q:δ->η->Prop}(a:qC K C)(X:K.In s.heap)(I:InstAt s.heap x ox C od)(hf:findObj K C od name=some f)
  (h:ρ (model prog w) A.in1 (match f with | .value v=>ret v | .bind g b=>bindTo g b (.ref x) (.ref C) | .missing=>unsupported "") (fun fin s'=>match fin with | .done (.ret v)=>ρ (model prog w) A (handedOut v) Q E s' | _=>False) (fun _ _=>False) s) (hm:f≠.missing):
  ρ (model prog w) A (getAttrBy (.ref x) (.str name tk) fill expr) Q E s:=by
 obtain⟨hh,g,d,t,os⟩:=s;have L0:=I.type (M:=model prog w);have L1:=looks_findIn (M:=model prog w) X a.ga;have L2:=looks_findIn (M:=model prog w) X a.gn;have L3:=looks_find (M:=model prog w) X I hf;have sub:Looks (model prog w) hh (isInstance (.ref x) (.type "BaseException")) true:=I.type.andThen (looks_mroIn X a.be);unfold getAttrBy;refine bT (ε (L0.at (ε (L1.at ?_))));have hx2:(i4 "BaseException.__getattribute__" == i4 "object.__getattribute__")=false:=by decide +kernel
 show ρ _ _ (if (onTheHeap (bo C)&&i4 "BaseException.__getattribute__" == i4 "object.__getattribute__")=true then _ else getAttrByItsOwn _ _ _ _ _ _) _ _ _;rw[hx2,if_neg (by simp)];unfold getAttrByItsOwn;refine ε ?_;show ρ _ _ (typeLookup (.ref C) "__getattr__") _ _ _;refine L2.at ?_;refine ε (kQ (bT ?_));have hx0:(expr&&onTheHeap (i4 "BaseException.__getattribute__"))=false:=by cases expr<;>rfl
 show ρ _ _ (if (expr&&onTheHeap (i4 "BaseException.__getattribute__"))=true then _ else boundAndCalled _ _ _) _ _ _;rw[hx0,if_neg (by simp)];unfold boundAndCalled;rw[Qq];refine ε (ο (gv ?_));refine iQ Qr F.entry_bexc_ga (@check_slot (model prog w) _ _ ⟨hh,g,d,t,os⟩ "BaseException.__getattribute__" "BaseException" "__getattribute__" (.ref x) [.str name tk] [] _ Qt Qs sub (F.args_bexc_ga (.ref x) (.str name tk)) ?_);unfold dI.«object.__getattribute__»;refine ε (ο (ε (ο (ε (L0.at (ε (L3.at ?_)))))));cases f with
 |missing=>exact absurd rfl hm
 |value v=>
  refine b9 h (fun fin s' z=>?_) fun _ _ z=>z.elim;rcases fin with (_|_|_|_)|_<;>first|exact z|exact z.elim
 |bind g b=>
  refine b9 h (fun fin s' z=>?_) fun _ _ z=>z.elim;rcases fin with (_|_|_|_)|_<;>first|exact z|exact z.elim
theorem exc_value{expr:Bool}{v:δ}{Q:δ->η->Prop}(a:qC K C)(X:K.In s.heap)(I:InstAt s.heap x ox C od)(hf:findObj K C od name=some (.value v))(hh:handedIn v=true)(h:Q v { s with toks:=s.toks+1 }):
  ρ (model prog w) A (getAttr (.ref x) name expr) Q E s:=by
 unfold getAttr;refine ε (wpAny_mkText (Il (s:={ s with toks:=s.toks+1 }) a X I hf (ο ?_) (by simp)));show ρ _ _ (handedOut v) _ _ _;rw[handedOut_of hh];exact ο h
theorem Qp{Q:Option δ->η->Prop}(a:qC K C)(hc:(clsIn K C).isSome=true)(ha:findIn K (.ref C) "__class__" = some (some (.builtin "object.__class__")))(hn:specialIn K (.builtin "object.__class__") "__get__" = some (some (.builtin "getset_descriptor.__get__")))
  (KY:takesIn K (.builtin "object.__class__")=some true) (hm:mroIn K C (.type "object")=some true) (X:K.In s.heap) (I:InstAt s.heap x ox C od) (h:Q (some (.ref C)) { s with toks:=s.toks+1 }):ρ (model prog w) A (getAttr? (.ref x) "__class__") Q E s:=by
 have hf:findObj K C od "__class__" = some (.bind (.builtin "getset_descriptor.__get__") (.builtin "object.__class__")):=by
  obtain⟨cd,iD⟩:=jX.mp hc;unfold findObj;rw[iD,iR,ha,iR];simp[hn,KY]
 unfold getAttr? getAttrBy?;refine ε (wpAny_mkText (ε (kQ ?_)));refine Il (s:={ s with toks:=s.toks+1 }) a X I hf ?_ (by simp);show ρ _ _ (holding [_] (call (.builtin "getset_descriptor.__get__") [.builtin "object.__class__",.ref x,.ref C]) >>= ret) _ _ _;refine ε (bT (gv (class_get (s:={ s with toks:=s.toks+1 }) (ox:=ox) (od:=od) X I hm ?_)));exact ο (handed_on rfl (ο h))
theorem Qo(a:qC K C)(hc:(clsIn K C).isSome=true)(ha:findIn K (.ref C) "__class__" = some (some (.builtin "object.__class__")))(hn:specialIn K (.builtin "object.__class__") "__get__" = some (some (.builtin "getset_descriptor.__get__")))
  (KY:takesIn K (.builtin "object.__class__")=some true) (hm:mroIn K C (.type "object")=some true):KitX K (.ref x) (.ref C) (fun h=>InstAt h x ox C od):=by
 obtain⟨cd,iD⟩:=jX.mp hc;obtain⟨o,ho,hcl⟩:∃o,K.lookup C=some o/\∃c,o.data=.cls c:=by
  unfold clsIn at iD;split at iD
  ·rename_i q;exact⟨_,q,_,rfl⟩
  ·cases iD
 obtain⟨oc,odd,oda,osl⟩:=o;obtain⟨c,e⟩:=hcl;dsimp only at e;subst e;refine⟨fun _ _ _ I=>I.type,fun _ _ X _=>?_,fun h tp dd its n sl X htp=>?_,fun X I k=>Qp a hc ha hn KY hm X I k⟩
 ·intro A' Q' E' s' k q;unfold isType loadHead;exact ε (wpAny_loadPart (k _ _ (X _ _ ho)) (ο q))
 ·refine Bool.eq_false_iff.mpr fun q=>?_;have e:C=tp:=bo.inj (beq_iff_eq.mp q);subst e;have z:=(X _ _ ho).symm.trans htp;cases z
end
end L2
namespace L3
open PySem PySem.Spec PyProof.Rows L2
structure fP(K:θ)(C:ζ):Prop where
 ge:qC K C
 hd:(i7 K C).isSome=true
 ha:bV K (.ref C) "__class__" = some (some (.builtin "object.__class__"))
 hn:uB K (.builtin "object.__class__") "__get__" = some (some (.builtin "getset_descriptor.__get__"))
 ht:vY K (.builtin "object.__class__")=some true
 hm:i6 K C (.type "object")=some true
theorem Qn{P:Ω}{w:aw}{K:θ}{H:Hp}{h:au}{p:ζ}{x:ν}{fs:List (ν×Int)}(ok:dM P w H h)(e:jM x fs K p H):∃C oe od,dk K x C/\mK h p oe C od:=by
 obtain⟨C,dx,cn,e1,dd⟩:=e;obtain⟨⟨oe,vs,q1,q2,q3,q4,_⟩,_⟩:=(show b8 P w H h p (.ext (vg p C dx)) from ok p _ e1);have hn:j8 oe=true:=by
  unfold j8;rw[q4]
 rcases dd with⟨rfl,_⟩|⟨d,o,rfl,e2⟩
 ·exact⟨C,oe,none,cn,q1,q2,hn,by rw[q3];trivial⟩
 ·obtain⟨r1,_⟩:=(show b8 P w H h d (.cP o (.xd _)) from ok d _ e2);exact⟨C,oe,some o,cn,q1,q2,hn,by rw[q3];exact r1⟩
theorem Qm{P:Ω}{w:aw}{K:θ}{H:Hp}{h:au}{p:ζ}{x:ν}{fs:List (ν×Int)}(ok:dM P w H h)(e:jM x fs K p H)(b7:fs≠[]):
  ∃C oe od mA d,dk K x C/\mK h p oe C (some od)/\h.get? d=some od/\h.Ns1 d mA/\∀f,rS ((fs.map fun p=>(p.1,V.int p.2)).lookup f) (mA f):=by
 obtain⟨C,dx,cn,e1,dd⟩:=e;obtain⟨⟨oe,vs,q1,q2,q3,q4,_⟩,_⟩:=(show b8 P w H h p (.ext (vg p C dx)) from ok p _ e1);rcases dd with⟨_,z⟩|⟨d,o,rfl,e2⟩
 ·exact absurd z b7
 ·obtain⟨r1,mA,r2,r3⟩:=(show b8 P w H h d (.cP o (.xd _)) from ok d _ e2);refine⟨C,oe,o,mA,d,cn,⟨q1,q2,?_,by rw[q3];exact r1⟩,r1,r2,r3⟩;unfold j8;rw[q4]
section
variable {X:Cx} {a:υ} {ta:aP} {pos p p2:aV}
def qg(rs:List ν)(y:ν)(ta:aP):aP:=fun τ G Q=>ta τ G fun x G1=>match x with
 |.obj p=>∃z fs,G1 p=some (.gen (jM z fs))/\z∈rs/\Q (.bl (z==y)) G1
 |_=>False
theorem Ik{c:δ}{cv:V}(hc:RelV cv c)(hu:∀c',RelV cv c'->c'=c):ie X (.builtin "isinstance") (fun vs H Q=>∃q z fs b,vs=[.ref q,cv]/\jM z fs X.K q H/\(∀C,dk X.K z C->fP X.K C/\Δ X.K (.ref C) c=some b)/\Q (.bl b) H):=by
 intro pins s σ H vs us Q I r h;obtain⟨q,z,fs,b,rfl,hx,hk,qq⟩:=h;obtain⟨u,c',rfl,ru,rc⟩:=vals2 r;cases (show u=bo q from ru);cases hu c' rc;obtain⟨C,oe,od,cn,J⟩:=Qn I.bI hx;obtain⟨K1,K2⟩:=hk C cn;exact df (Qo K1.ge K1.hd K1.ha K1.hn K1.ht K1.hm) I.gI J K2 (fun z=>nomatch z) fun tk=>⟨.bl b,H,I.tok tk,rfl,qq⟩
theorem Ql{rs:List ν}{y:ν}{c:δ}{cv:V}(hk:∀z∈rs,∀C,dk X.K z C->fP X.K C/\Δ X.K (.ref C) c=some (z==y)){σ:L2.St}{H:Hp}{Q:VK}(h:low X.K (qg rs y ta) σ H Q):
  BW (fun vs H Q=>∃q z fs b,vs=[.ref q,cv]/\jM z fs X.K q H/\(∀C,dk X.K z C->fP X.K C/\Δ X.K (.ref C) c=some b)/\Q (.bl b) H) (zI (low X.K ta) (zI (tC cv) FU)) σ H Q:=by
 obtain⟨τ,G,Q3,RS,RG,h,k⟩:=h;refine⟨τ,G,_,RS,RG,h,fun v H1 d G1 h1 S1 R1 q1=>?_⟩;cases d with
 |obj q=>
  obtain⟨z,fs,e1,hz,q2⟩:=q1;rw[jJ h1];exact⟨q,z,fs,_,rfl,(R1 q _ e1).1,fun C cn=>hk z hz C cn,k _ H1 (.bl (z==y)) G1 mv S1 R1 q2⟩
 |_=>exact q1.elim
theorem Qk{rs:List ν}{y:ν}{C:ζ}(hk:∀z∈rs,∀D,dk X.K z D->fP X.K D/\Δ X.K (.ref D) (.ref C)=some (z==y))(ha:bW X a ta)(hm:X.mg "isinstance" = none)(hmy:X.mg y=some (.ref C))(hgy:Gl X y:=by rfl)(hdy:(y==("__debug__":ν))=false:=by decide)(hg:Gl X "isinstance":=by rfl)(he:notStar a=true:=by rfl):
  bW X (.Call (.Name "isinstance" p) [a,.Name y p2] [] pos) (qg rs y ta):=
 iC (oO (Ik (c:=.ref C) (cv:=.ref C) rfl fun c' r=>r) hg hm rfl (mw ha (mw (Kk (v:=.ref C) hgy hmy rfl hdy) qd (dW rfl)) (dW he)) (he:=dW he) (hpl:=jo rfl)) fun σ H Q h=>Ql hk h
def Es(rs:List ν)(ta:aP):aP:=fun τ G Q=>ta τ G fun x G1=>match x with
 |.obj p=>∃z fs,G1 p=some (.gen (jM z fs))/\z∈rs/\Q (.bl true) G1
 |_=>False
theorem Qj{rs:List ν}(hk:∀z∈rs,∀D,dk X.K z D->fP X.K D/\Δ X.K (.ref D) (.type "ValueError")=some true)(ha:bW X a ta)(hm:X.mg "isinstance" = none)(hmy:X.mg "ValueError" = none)(hgy:Gl X "ValueError":=by rfl)(hg:Gl X "isinstance":=by rfl)(he:notStar a=true:=by rfl):
  bW X (.Call (.Name "isinstance" p) [a,.Name "ValueError" p2] [] pos) (Es rs ta):=
 iC (oO (Ik (c:=.type "ValueError") (cv:=.ty "ValueError") rfl fun c' r=>r) hg hm rfl (mw ha (mw (Kj (v:=.ty "ValueError") hgy hmy rfl rfl (by decide) (by decide)) qd (dW rfl)) (dW he)) (he:=dW he) (hpl:=jo rfl)) fun σ H Q h=>by
  obtain⟨τ,G,Q3,RS,RG,h,k⟩:=h;refine⟨τ,G,_,RS,RG,h,fun v H1 d G1 h1 S1 R1 q1=>?_⟩;cases d with
  |obj q=>
   obtain⟨z,fs,e1,hz,q2⟩:=q1;rw[jJ h1];exact⟨q,z,fs,_,rfl,(R1 q _ e1).1,fun C cn=>hk z hz C cn,k _ H1 (.bl true) G1 mv S1 R1 q2⟩
  |_=>exact q1.elim
end
end L3
namespace L3
open PySem PySem.Spec PyProof.Rows L2
theorem DT:∀{bs:List Bool} {its:List δ},bt (bs.map V.bl) its->its=bs.map da
 |[],_,h=>h.zero
 |b::bs,_,h=>by
  cases h with
  |cons r1 r2=>rw[DT r2,show _=da b from r1];rfl
def zm:V->List V->Hp->VK->Prop:=fun x vs H Q=>∃(l:ζ) (bs:List Bool),x=.ref l/\vs=[.bl true]/\H l=some (.lst (bs.map V.bl))/\Q (.int ((bs.countP id:Nat):Int)) H
def zl:V->List V->Hp->VK->Prop:=fun x vs H Q=>∃(l:ζ) (bs:List Bool) (j:Nat),x=.ref l/\vs=[.bl true]/\H l=some (.lst (bs.map V.bl))/\bs[j]?=some true/\(∀i,i<j->bs[i]?=some false)/\j<1000/\Q (.int ((j:Nat):Int)) H
def Fd:δ->Bool
 |.bool b=>b
 |_=>false
section
variable {X:Cx}
theorem Qi:Cr X "list.count" zm:=by
 intro pins s σ H x vs v us Q I rx rv h;obtain⟨l,bs,rfl,rfl,hH,q⟩:=h;cases rx;obtain⟨u,rfl,ru⟩:=rv.one;cases (show u=da true from ru);obtain⟨z,its,n,r,hl,e⟩:=I.rD hH;rw[DT r] at e;refine j7 F.slot_list_count ⟨_,e,rfl⟩ F.entry_list_count (F.args_list_count_2 _ _) (SeqAt.list_countAt l (bs.map da).toArray n none #[] (.bool true) Fd) ⟨e,fun y hy=>?_,?_⟩
 ·obtain⟨b,_,rfl⟩:=aQ.mp (ee.mpr hy);have:=r8 (A:=X.A.in1) (s:=s) b true;cases b<;>exact this
 ·refine⟨.int ((bs.countP id:Nat):Int),H,I.tok _,⟨s.toks,?_⟩,q⟩;have e2:((bs.map da).toArray.toList).countP Fd=bs.countP id:=by
   show (bs.map da).countP Fd=_;rw[List.countP_map];rfl
  rw[e2]
theorem Qh:Cr X "list.index" zl:=by
 intro pins s σ H x vs v us Q I rx rv h;obtain⟨l,bs,j,rfl,rfl,hH,h1,h2,h3,q⟩:=h;cases rx;obtain⟨u,rfl,ru⟩:=rv.one;cases (show u=da true from ru);obtain⟨z,its,n,r,hl,e⟩:=I.rD hH;rw[DT r] at e;have hj:j<bs.length:=(ax.mp h1).1;refine j7 F.slot_list_index ⟨_,e,rfl⟩ F.entry_list_index (F.args_list_index_2 _ _) (SeqAt.list_indexAt l (bs.map da).toArray n none #[] (.bool true) Fd j (by simpa using hj) (by lia) ?_ fun m hm hmj=>?_) ⟨e,fun y hy=>?_,?_⟩
 ·simp only[se,List.getElem_map];rw[(ax.mp h1).2];rfl
 ·simp only[se,List.getElem_map];rw[(ax.mp (h2 m hmj)).2];rfl
 ·obtain⟨b,_,rfl⟩:=aQ.mp (ee.mpr hy);have:=r8 (A:=X.A.in1) (s:=s) b true;cases b<;>exact this
 ·exact⟨.int ((j:Nat):Int),H,I.tok _,⟨_,rfl⟩,q⟩
end
section
variable {K:θ}
def DR:D->List D->Gp->V3->Prop:=fun x ds G Q=>match x,ds with
 |.obj p,[.bl true]=>∃xs bs,G p=some (.lst xs)/\og xs=some bs/\Q (.int ((bs.countP id:Nat):Int)) G
 |_,_=>False
def DQ:D->List D->Gp->V3->Prop:=fun x ds G Q=>match x,ds with
 |.obj p,[.bl true]=>∃xs bs j,G p=some (.lst xs)/\og xs=some bs/\bs[j]?=some true/\(∀i,i<j->bs[i]?=some false)/\j<1000/\Q (.int ((j:Nat):Int)) G
 |_,_=>False
theorem Qg:vn K DR zm:=fun x vx ds vs G H Q3 Q hx hs RG q k=>by
 unfold DR at q;split at q
 ·rename_i p;obtain⟨xs,bs,e1,e2,q⟩:=q;obtain⟨ys,e3,hv⟩:=RG p _ e1;obtain⟨v,r,rfl,hv1,hv2⟩:=hs.inv;rw[hv2.il,wo hv1,jJ hx];exact⟨p,bs,rfl,rfl,by rw[e3,Aq hv e2],k _ H (.int _) G oQ (.refl H G) RG q⟩
 ·exact q.elim
theorem Qf:vn K DQ zl:=fun x vx ds vs G H Q3 Q hx hs RG q k=>by
 unfold DQ at q;split at q
 ·rename_i p;obtain⟨xs,bs,j,e1,e2,q1,q2,q3,q⟩:=q;obtain⟨ys,e3,hv⟩:=RG p _ e1;obtain⟨v,r,rfl,hv1,hv2⟩:=hs.inv;rw[hv2.il,wo hv1,jJ hx];exact⟨p,bs,j,rfl,rfl,by rw[e3,Aq hv e2],q1,q2,q3,k _ H (.int _) G oQ (.refl H G) RG q⟩
 ·exact q.elim
end
end L3
namespace L3
open PySem PySem.Spec PyProof.Rows L2
open Sem (wp)
def xD(x:ν)(names:List ν)(E:E3)(t:cM):bj:=fun _ τ G=>t τ G fun ds _=>∃is:List Int,ds=is.map D.int/\is.length=names.length/\E x (names.zip is)
theorem Ij:∀(names:List ν) (is:List Int) (us:List δ) (m0:ν->Option δ) (fs0:List (ν×V)),bt (is.map V.int) us->names.length=is.length->(names.Nodup)->(∀n∈names,fs0.lookup n=none)->(∀f,rS (fs0.lookup f) (m0 f)) ->
  ∀f,rS ((((names.zip is).map fun p=>(p.1,V.int p.2))++fs0).lookup f) ((names.zip us).foldl putN m0 f)
 |[],[],us,m0,fs0,hv,_,_,_,h=>by
  rw[hv.zero];exact h
 |n::ns,i::is,us,m0,fs0,hv,hl,nd,hn,h=>by
  cases hv with
  |@cons v u vs us2 r1 r2=>
   have hnd:=fi.mp nd;intro f;have key:=Ij ns is us2 (putN m0 (n,u)) (fs0++[(n,V.int i)]) r2 (by simpa using hl) hnd.2 (fun y hy=>by
    rw[fU,hn y (ai _ hy),cz,pY];have:(y==n)=false:=by
     rw[beq_eq_false_iff_ne];intro z;exact hnd.1 (z▸hy)
    rw[this];rfl) (fun y=>by
    unfold putN;by_cases z:y=n
    ·subst z;rw[if_pos rfl,fU,hn y aj,cz,beq_self_eq_true];exact r1
    ·rw[if_neg z,fU,cz,pY,beq_eq_false_iff_ne.mpr z];have:=h y;cases q:fs0.lookup y with
     |none=>rw[q] at this;exact this
     | some w=>rw[q] at this;exact this) f
   show rS ((((n,V.int i)::(ns.zip is).map fun p=>(p.1,V.int p.2))++fs0).lookup f) ((ns.zip us2).foldl putN (putN m0 (n,u)) f);have e:((((n,V.int i)::(ns.zip is).map fun p=>(p.1,V.int p.2))++fs0).lookup f)=((((ns.zip is).map fun p=>(p.1,V.int p.2))++(fs0++[(n,V.int i)])).lookup f):=by
    rw[pG,cz,fU,fU,fU,cz,pY];by_cases z:f=n
    ·subst z;have hz:((ns.zip is).map fun p=>(p.1,V.int p.2)).lookup f=none:=by
      rw[List.lookup_eq_none_iff];intro p hp;obtain⟨q,hq,rfl⟩:=aQ.mp hp;rw[bne_iff_ne];intro z;exact hnd.1 (z▸(gg hq).1)
     rw[beq_self_eq_true,hz,hn f aj];rfl
    ·rw[beq_eq_false_iff_ne.mpr z];cases ((ns.zip is).map fun p=>(p.1,V.int p.2)).lookup f<;>cases fs0.lookup f<;>rfl
   rw[e];exact key
theorem Ii{K:θ}{H:Hp}:∀{is:List Int} {vs:List V},aJ K H (is.map D.int) vs->vs=is.map V.int
 |[],_,h=>h.il
 |i::is,_,h=>by
  obtain⟨v,r,rfl,h1,h2⟩:=h.inv;rw[Ii h2,kC h1];rfl
theorem DP{K:θ}{C:ζ}{bm:List δ}{init:Option δ}{newId:String}(q:excIn K C bm init newId=true):∃nm qn N bs sn sub ab col dd k0 k1 k2 k3 k5,K.lookup C=some (excClassObj nm qn C N bs bm true sn sub ab col dd k0 k1 k2 k3 k5 newId):=by
 unfold excIn at q;split at q
 ·rename_i dd cd sl ho;split at q
  ·rename_i C' bm' k0 k1 k2 k3 n k5 hm hs;simp only[cA,beq_iff_eq,gp] at q;obtain⟨⟨⟨⟨⟨rfl,rfl⟩,hdel⟩,hdct⟩,rfl⟩,hns⟩:=q;obtain⟨nm,bs,mro,ns,qn,hd,sn,sub,ab,col,del⟩:=cd;dsimp only at hm hdel hdct hns;subst hm hdel hdct;have hsl:sl = #[k0,k1,k2,k3,some (.builtin n),k5]:=by
    obtain⟨l⟩:=sl;simp only at hs;rw[hs]
   subst hsl;exact⟨nm,qn,ns,bs,sn,sub,ab,col,dd,k0,k1,k2,k3,k5,ho⟩
  ·cases q
 ·cases q
theorem Qe{prog:Ω}{w:aw}{A:aF}{E:δ->η->Prop}{s:η}{env:cW}{nm q:ν}{C N:ζ}{bs bm:List δ}{hdct:Bool}{sn:List ν}{sub:List δ}{ab:Bool}{col:Option Bool}{dd:Option ζ}{k0 k1 k2 k3 k5:Option δ}{newId:String}
  {x:kn δ} {Q:Flow->η->Prop} (rM:bm.contains (.type "BaseException")=true) (hh:A.handled=none)
  (h:ρ (model prog w) A x (fun v s₁=>∃e oe t,v=.ref e/\s₁.heap.get? C=some (excClassObj nm q C N bs bm hdct sn sub ab col dd k0 k1 k2 k3 k5 newId)/\s₁.heap.get? e=some oe/\oe.cls=.ref C/\oe.data=.fields #[.ref t,.none,.none,.none,.bool false,.none]/\E (.ref e) s₁) E s):
  ρ (model prog w) A (raiseStmt env (some x) none) Q E s:=by
 have hcB:(bo C::bm).contains (.type "BaseException")=true:=by rw[ng,rM,ud]
 unfold raiseStmt;refine ε (b9 h (fun v s₁ h₁=>?_) fun _ _ x=>x);obtain⟨e,oe,t,rfl,hC,he,h1,h2,hE⟩:=h₁;obtain⟨hp,g,d,tk,os⟩:=s₁;obtain⟨oc,od,oda,osl⟩:=oe;dsimp only at h1 h2;subst h1 h2
 repeat (first|with_reducible refine fq he ?_|with_reducible refine fq hC ?_|(with_reducible refine jh hC ?_;rw[hcB])|wp_step)
 exact wpAny_raiseNew_none hh hE
theorem Qd{X:Cx}{E:XK}{E':E3}{x:ν}{C B f:ζ}{fd:aB}{qual:ν}{st:aY}{names:List ν}{k:Nat}{e:υ}{es:List υ}{t:cM}{np cpos pos:aV}(hB:Body X E)(hE:∀cls dx H',g8 X.K E' cls dx H'->E cls dx H')(O:uw X.K C B f fd qual st names)(cn:dk X.K x C)(hm:X.mg x=some (.ref C))(hr:dz k X.A)(hc:X.calm=true)(ha:jt X (e::es) t)
  (b7:names≠[]:=by decide) (hg:Gl X x:=by rfl) (hdb:(x==("__debug__":ν))=false:=by decide) (he:notStar e=true:=by rfl) (hpl:es.all notStar=true:=by rfl):
  qA X (.Raise (some (.Call (.Name x np) (e::es) [] cpos)) none pos) (xD x names E' t):=by
 intro pins s σ H D2 I ⟨τ,G,D3,RS,RG,h,EL⟩;rw[arm_exec_Raise];simp only[evalOpt,r9];refine ε (kO ?_);obtain⟨nm,qn,N,bs,sn,sub,ab,col,dd,k0,k1,k2,k3,k5,lk⟩:=DP O.ex.cls;refine Qe (C:=C) (nm:=nm) (q:=qn) (N:=N) (bs:=bs) (bm:=.ref B::gH) (hdct:=true) (sn:=sn) (sub:=sub) (ab:=ab) (col:=col) (dd:=dd) (k0:=k0) (k1:=k1) (k2:=k2) (k3:=k3) (k5:=k5) (newId:="ValueError.__new__") (by rw[ng,show gH.contains (.type "BaseException")=true by decide +kernel,ud]) (I.ok.hd hc) ?_;refine ε (bS (Q:=fun v s₁=>∃e oe t,v=.ref e/\s₁.heap.get? C=some (excClassObj nm qn C N bs (.ref B::gH) true sn sub ab col dd k0 k1 k2 k3 k5 "ValueError.__new__")/\s₁.heap.get? e=some oe/\oe.cls=.ref C/\oe.data=.fields #[.ref t,.none,.none,.none,.bool false,.none]/\X.xe (.ref e) s₁) ?_ fun v s2 q=>ε (kO (ο q)));refine dO (rh I hg hm ?_ hdb);refine fQ (h₀:=X.base) I.ok.mod.tz O.kp (bS (ha cpos pins s σ H (fun vs H1=>∃is:List Int,vs=is.map V.int/\is.length=names.length/\E' x (names.zip is)) I
  ⟨τ,G,_,RS,RG,h,fun vs H1 ds G1 a b c q=>by obtain⟨is,rfl,hl,q⟩:=q;exact⟨is,Ii a,hl,q⟩⟩) fun us s1 ⟨vs,H1,I1,r,is,ev,hl,q⟩=>⟨I1.gI,?_⟩) (dW he) (jo hpl)
 subst ev;have hlu:us.length=names.length:=by rw[←r.length,π];exact hl
 refine Qu O I1.gI I1.nolimit hlu b7 (by have:=hr.dp;lia) fun e1 d h' tk M=>?_;obtain⟨oe,t1,o1,o2,o3,o4⟩:=M.obj;obtain⟨od,es1,ep1,n1,nr⟩:=M.ns;have I1k:Inv X pins σ H1 { s1 with heap:=h',toks:=tk }:=I1.kept M.keep;have gone:∀{b:ζ} {o:aW},s1.heap.get? b=some o->b≠d:=fun {b o} hb z=>by
  rw[z,M.newD] at hb;cases hb
 have I2:=I1k.EJ (a:=d) (o:=.cP od (.xd ((names.zip is).map fun p=>(p.1,V.int p.2)))) (Dk I1 M.newD) (Dj hB I1 M.newD)
  ⟨n1,(names.zip us).foldl putN (fun _=>none),⟨od,es1,ep1,n1,nr⟩,fun f=>by
   have:=Ij names is us (fun _=>none) [] r hl.symm (fi.mp O.sc.nd).2 (fun _ _=>rfl) (fun _=>trivial) f;rw[bF] at this;exact this⟩
  (fun z=>by
   obtain⟨m,⟨o,_,_,ho,_⟩,_⟩:=I1.loc;exact gone ho z.symm)
  (fun y c hcc z=>by
   obtain⟨v,o,ho,_⟩:=I1.cell y c hcc;exact gone ho z)
  (fun p hp=>gone (I1.pin p hp).1)
 refine⟨e1,oe,t1,rfl,I2.gI _ _ lk,o1,o2,o4,?_⟩;have hne1:e1≠d:=M.ne.symm;refine hB.throw I2 o1 o2 o4 rfl rfl (Dj hB I1 M.KJ) (by rw[dX hne1];exact Dk I1 M.KJ) (hE _ _ _ ⟨x,C,names.zip is,rfl,cn,q,.inr ⟨d,od,o3,iV⟩⟩)
def wb(x:ν)(E:E3):bj:=fun _ _ _=>E x []
theorem Qc{X:Cx}{E:XK}{E':E3}{x:ν}{C B:ζ}{np cpos pos:aV}(hB:Body X E)(hE:∀cls dx H',g8 X.K E' cls dx H'->E cls dx H')(O:pd X.K C B none)(cn:dk X.K x C)(hm:X.mg x=some (.ref C))(hc:X.calm=true)(hg:Gl X x:=by rfl)(hdb:(x==("__debug__":ν))=false:=by decide):
  qA X (.Raise (some (.Call (.Name x np) [] [] cpos)) none pos) (wb x E'):=
 rb (Q0 (bmB:=gH) (newId:="ValueError.__new__") hB hc nK (fun h K1=>by
  obtain⟨nm,qn,N,bs,sn,sub,ab,col,dd,k0,k1,k2,k3,k5,mN,h1,h2,h3,h4⟩:=O.own K1;exact⟨nm,qn,N,bs,_,true,sn,sub,ab,col,dd,k0,k1,k2,k3,k5,mN,h1,h2,h3,h4⟩) hg hm hdb) fun D σ H ⟨τ,G,D3,RS,RG,h,EL⟩=>hE _ _ _ ⟨x,C,[],rfl,cn,h,.inl ⟨rfl,rfl⟩⟩
end L3
namespace L3
open PySem PySem.Spec PyProof.Rows L2
structure Co(X:Cx)(e:υ)(t:yR):Prop where
 of:zE X e t
structure Fm(X:Cx)(es:List υ)(t:zD):Prop where
 of:Cq X es t
structure Mm(X:Cx)(st:List aY)(t:vQ):Prop where
 of:Fn X st t
section
variable {X:Cx} {k:Nat} {f:ζ} {fd:aB} {ps:List ν} {sp:oY} {sp3:fO} {E':E3} {x:ν} {p pos:aV} {a b e c:υ} {es:List υ} {t:cM} {te:aP} {tx:yR} {tax:zD} {tc:cI} {ta tb tr:vQ} {sa sb rest:List aY}
theorem DO(F:qD X.prog X.w X.K X.mg X.base k f fd ps sp)(hr:dz k X.A)(hx:jS (fL X.prog X.w X.base) X (g8 X.K E'))(hm:X.mg x=some (.ref f))(hk:bN X.K (.ref f)=true)(hb:Binds X.K fd ps [])(ha:QA X (e::es) t)(hg:Gl X x:=by rfl)
  (hdb:(x==("__debug__":ν))=false:=by decide) (he:notStar e=true:=by rfl) (hpl:es.all notStar=true:=by rfl):QE X (.Call (.Name x p) (e::es) [] pos) (tK sp E' t):=⟨QV F hr hx hm hk hb ha.of hg hdb he hpl⟩
theorem AL(F:wU X.prog X.w X.K X.mg X.base k f fd ps sp3)(hr:fy k X.A)(hm:X.mg x=some (.ref f))(hk:bN X.K (.ref f)=true)(hb:Binds X.K fd ps [])(ha:QA X (e::es) t)(hg:Gl X x:=by rfl)
  (hdb:(x==("__debug__":ν))=false:=by decide) (he:notStar e=true:=by rfl) (hpl:es.all notStar=true:=by rfl):QE X (.Call (.Name x p) (e::es) [] pos) (bO sp3 t):=⟨QP F hr hm hk hb ha.of hg hdb he hpl⟩
theorem Qb(h:QE X.lj e te):Co X e (fun _=>te):=⟨QN h.of⟩
theorem Qa:Fm X [] (fun _=>av):=⟨Ru⟩
theorem Ih(ha:Co X e tx)(hr:Fm X es tax)(hs:notStar e=true:=by rfl):Fm X (e::es) (vP tx tax):=⟨Rt ha.of hr.of hs⟩
theorem P9{x1}(h:Fm X es tax):Co X (.Tuple es x1 pos) (fun KX=>eP (tax KX)):=⟨Rr h.of⟩
theorem P8(h:Co X e tx):Mm X [.Return (some e) pos] (zK tx):=⟨Rq h.of⟩
theorem QM{i:Nat}{cx en:ν}{names:List ν}{body suite rs:List aY}{b₀:aY}{np hpos:aV}{th tq:bj}{B:ζ}(F:Frame X)(T7:xp X.K names B)(hm:X.mg cx=some (.ref B))(hN:X.N.Nodup)(hb:Mm X body ta)(hh:∀e,pQ (X.kE e) (b₀::suite) th)(hr:pQ X rs tq)
  (hi:X.N[i]?=some en:=by rfl) (hl:X.env.scope.names.lookup en=some .local:=by rfl) (hg:Gl X cx:=by rfl) (hdb:(cx==("__debug__":ν))=false:=by decide):
  pQ X (.Try body [.ExceptHandler (some (.Name cx np)) (some en) (b₀::suite) hpos] [] [] pos::rs) (Cz names i ta th tq):=⟨Qw F T7 hm hN hb.of (fun e=>(hh e).of) hr.of hi hl hg hdb⟩
theorem QL{E:XK}{C B:ζ}{qual:ν}{st:aY}{names:List ν}{np cpos:aV}(hB:Body X E)(hE:∀cls dx H',g8 X.K E' cls dx H'->E cls dx H')(O:uw X.K C B f fd qual st names)(cn:dk X.K x C)(hm:X.mg x=some (.ref C))(hr:dz k X.A)(hc:X.calm=true)(ha:QA X (e::es) t)
  (b7:names≠[]:=by decide) (hg:Gl X x:=by rfl) (hdb:(x==("__debug__":ν))=false:=by decide) (he:notStar e=true:=by rfl) (hpl:es.all notStar=true:=by rfl):
  QS X (.Raise (some (.Call (.Name x np) (e::es) [] cpos)) none pos) (xD x names E' t):=⟨Qd hB hE O cn hm hr hc ha.of b7 hg hdb he hpl⟩
theorem QK{E:XK}{C B:ζ}{np cpos:aV}(hB:Body X E)(hE:∀cls dx H',g8 X.K E' cls dx H'->E cls dx H')(O:pd X.K C B none)(cn:dk X.K x C)(hm:X.mg x=some (.ref C))(hc:X.calm=true)(hg:Gl X x:=by rfl)(hdb:(x==("__debug__":ν))=false:=by decide):
  QS X (.Raise (some (.Call (.Name x np) [] [] cpos)) none pos) (wb x E'):=⟨Qc hB hE O cn hm hc hg hdb⟩
theorem uU{rs:List ν}{y:ν}{C:ζ}{p2:aV}(hk:∀z∈rs,∀D,dk X.K z D->fP X.K D/\Δ X.K (.ref D) (.ref C)=some (z==y))(ha:QE X a te)(hm:X.mg "isinstance" = none)(hmy:X.mg y=some (.ref C))(hgy:Gl X y:=by rfl)(hdy:(y==("__debug__":ν))=false:=by decide)(hg:Gl X "isinstance":=by rfl)(he:notStar a=true:=by rfl):
  QE X (.Call (.Name "isinstance" p) [a,.Name y p2] [] pos) (qg rs y te):=⟨Qk hk ha.of hm hmy hgy hdy hg he⟩
theorem QJ{rs:List ν}{p2:aV}(hk:∀z∈rs,∀D,dk X.K z D->fP X.K D/\Δ X.K (.ref D) (.type "ValueError")=some true)(ha:QE X a te)(hm:X.mg "isinstance" = none)(hmy:X.mg "ValueError" = none)(hgy:Gl X "ValueError":=by rfl)(hg:Gl X "isinstance":=by rfl)(he:notStar a=true:=by rfl):
  QE X (.Call (.Name "isinstance" p) [a,.Name "ValueError" p2] [] pos) (Es rs te):=⟨Qj hk ha.of hm hmy hgy hg he⟩
end
theorem K0{P:Ω}{w:aw}{K:θ}{mg:ν->Option δ}{base:au}{N:List ν}{qual:ν}{scope:fh}{f:ζ}{cd:δ}{A:aF}{outer:List cW}{s:η}{H:Hp}{E:XK}:Frame (jO pT P w K mg base N qual scope f cd A outer s H E).lj:=⟨rfl,rfl,rfl⟩
theorem Dw{P:Ω}{w:aw}{K:θ}{mg:ν->Option δ}{base:au}{x qual:ν}{st:aY}{f:ζ}{fd:aB}{N ps:List ν}{k:Nat}{sp:oY}(F:fv K x qual st f fd)(S:bP N ps (ar st))(hN:ps.length≤N.length)(len:∀ds Q E,sp ds Q E->ds.length=ps.length)(tb:E3->bj)
  (gV:∀(cdv:δ) (A:aF) (outer:List cW) (s:η) (H:Hp) (E:XK) (E':E3),dz k (A.deeper (envOfC qual (ar st) s.heap.objs.size f cdv))->(∀cls dx H',g8 K E' cls dx H'->E cls dx H') ->
   pQ (jO (fL P w base) P w K mg base N qual (ar st) f cdv A outer s H E) (fm st) (tb E'))
  (sh:∀ds Q E,sp ds Q E->tb E (bw Q) (bA N ds) gP):qD P w K mg base (k+1) f fd ps sp:=fnX F S hN len tb (fun cdv A outer s H E E' hr hE=>(gV cdv A outer s H E E' hr hE).of) sh
theorem Ky{P:Ω}{w:aw}{K:θ}{mg:ν->Option δ}{base:au}{x qual:ν}{st:aY}{f:ζ}{fd:aB}{N ps:List ν}{k:Nat}{sp:fO}(F:fv K x qual st f fd)(S:bP N ps (ar st))(hN:ps.length≤N.length)(len:∀ds G Q,sp ds G Q->ds.length=ps.length)(tb:bj)
  (gV:∀(cdv:δ) (A:aF) (outer:List cW) (s:η) (H:Hp) (E:XK),fy k (A.deeper (envOfC qual (ar st) s.heap.objs.size f cdv)) ->
   pQ (Ck P w K mg base N qual (ar st) f cdv A outer s H E) (fm st) tb)
  (sh:∀ds G Q,sp ds G Q->tb (bw Q) (bA N ds) G):wU P w K mg base (k+1) f fd ps sp:=WM F S hN len tb (fun cdv A outer s H E hr=>(gV cdv A outer s H E hr).of) sh
end L3
namespace L3
open PySem PySem.Spec PyProof.Rows L2
structure lU(K:θ)(C:ζ)(f:ν):Prop where
 ge:qC K C
 hd:nY K C=true
 nm:bV K (.ref C) f=some none
def uo(rs:List ν)(f:ν)(ta:aP):aP:=fun τ G Q=>ta τ G fun x G1=>match x with
 |.obj p=>∃z fs i,G1 p=some (.gen (jM z fs))/\z∈rs/\fs.lookup f=some i/\Q (.int i) G1
 |_=>False
theorem Ig(f:ν):∀fs:List (ν×Int),(fs.map fun p=>(p.1,V.int p.2)).lookup f=(fs.lookup f).map V.int
 |[]=>rfl
 |p::fs=>by
  rw[du,cz,cz,Ig f fs];cases f==p.1<;>rfl
theorem QH{K:θ}{C:ζ}{od:aW}{f:ν}{u:δ}(a:lU K C f)(hl:qK f od=some (some u)):vZ K C (some od) f=some (.value u):=by
 obtain⟨cd,hc,hd⟩:=PySem.W.any_some a.hd;unfold vZ PySem.W.ownOf;rw[hc,iR,a.nm,iR];dsimp only[iR];rw[hd,if_pos rfl,hl];rfl
section
variable {X:Cx} {a:υ} {ta:aP} {pos:aV} {f:ν}
theorem QF{rs:List ν}(hk:∀z∈rs,∀C,dk X.K z C->lU X.K C f)(ha:bW X a ta)(hb:attributeBase a f X.env (eval a X.env)=eval a X.env:=by rfl):bW X (.Attribute a f pos) (uo rs f ta):=by
 intro pins s σ H Q I ⟨τ,G,Q3,RS,RG,h,k⟩;refine UX hb (bS (ha pins s σ H (fun v H1=>∃p z fs i,v=.ref p/\jM z fs X.K p H1/\z∈rs/\fs.lookup f=some i/\Q (.int i) H1) I ⟨τ,G,_,RS,RG,h,fun v H1 d G1 h1 S1 R1 q1=>?_⟩) fun u s1 ⟨v,H1,I1,rv,p,z,fs,i,ev,ex,hz,hl,q⟩=>?_)
 ·cases d with
  |obj p=>
   obtain⟨z,fs,i,e1,hz,hl,q2⟩:=q1;exact⟨p,z,fs,i,jJ h1,(R1 p _ e1).1,hz,hl,k _ H1 (.int i) G1 oQ S1 R1 q2⟩
  |_=>exact q1.elim
 ·subst ev;cases (show u=bo p from rv);have b7:fs≠[]:=fun w=>by
   rw[w] at hl;cases hl
  obtain⟨C,oe,od,mA,d,cn,J,hod,hns,hrel⟩:=Qm I1.bI ex b7;obtain⟨od2,h2,lk⟩:=UY hns;rw[hod] at h2;cases h2;have hf:=hrel f;rw[Ig,hl] at hf;obtain⟨u,hu,ru⟩:=rS.some_of (v:=V.int i) (o:=mA f) hf;obtain⟨tk,rfl⟩:=(show ∃t,u=pV i t from ru);have A1:=hk z hz C cn;exact exc_value A1.ge I1.gI J (QH A1 (by rw[lk,hu])) rfl ⟨.int i,H1,I1.tok _,⟨tk,rfl⟩,q⟩
theorem AK{rs:List ν}(hk:∀z∈rs,∀C,dk X.K z C->lU X.K C f)(ha:QE X a ta)(hb:attributeBase a f X.env (eval a X.env)=eval a X.env:=by rfl):QE X (.Attribute a f pos) (uo rs f ta):=⟨QF hk ha.of hb⟩
end
end L3
namespace L3
open PySem PySem.Spec PyProof.Rows L2
theorem QD{K:θ}{C B:ζ}{init:Option δ}{newId:String}(e:excIn K C (.ref B::gH) init newId=true):∃cd,i7 K C=some cd/\cd.mro=.ref C::.ref B::gH/\cd.hasDict=true:=by
 obtain⟨nm,qn,N,bs,sn,sub,ab,col,dd,k0,k1,k2,k3,k5,lk⟩:=DP e;unfold i7;rw[lk];exact⟨_,rfl,rfl,rfl⟩
theorem Ie{K:θ}{C:ζ}{bm:List δ}{init:Option δ}{newId:String}(e:excIn K C bm init newId=true):(i7 K C).isSome=true:=by
 obtain⟨nm,qn,N,bs,sn,sub,ab,col,dd,k0,k1,k2,k3,k5,lk⟩:=DP e;unfold i7;rw[lk];rfl
theorem QB{K:θ}{f:ζ}{T:δ}(h:qJ K (.ref f)=some T):∃o,K.lookup f=some o/\o.cls=T:=by
 unfold qJ at h;cases q:K.lookup f with
 |none=>simp[q] at h
 |some o=>
  simp[q] at h;exact⟨o,rfl,h⟩
def Mi:E3:=fun _ _=>False
theorem LH{X:Cx}:jS (fL X.prog X.w X.base) X (g8 X.K Mi):=fun _ _ _ _ _ _ _ h=>by
 obtain⟨_,_,_,_,_,_,_,_,_,_,_,_,_,_,_,_,_,_,_,z,_⟩:=h;exact z.elim
theorem qf{us:List δ}(h:us.length=1):∃a,us=[a]:=List.length_eq_one_iff.mp h
theorem nF{us:List δ}(h:us.length=2):∃a b,us=[a,b]:=by
 rcases us with _|⟨a,us⟩
 ·cases h
 ·obtain⟨b,rfl⟩:=qf (us:=us) (Nat.succ.inj h);exact⟨a,b,rfl⟩
theorem yC{us:List δ}(h:us.length=3):∃a b c,us=[a,b,c]:=by
 rcases us with _|⟨a,us⟩
 ·cases h
 ·obtain⟨b,c,rfl⟩:=nF (us:=us) (Nat.succ.inj h);exact⟨a,b,c,rfl⟩
end L3
namespace My
open PySem L2 L3
def Known(G:Gp):D->Prop
 |.obj a=>∃o,G a=some o/\o.plain
 |_=>True
def FR:D->Bool
 |.int _=>true
 |_=>false
theorem dq{Q:V3}{d:D}{G:Gp}(h:Q d G):(bw Q).rt d G:=⟨G,Sub.refl G,h⟩
theorem AJ{Q:V3}{d:D}{G G':Gp}(s:Sub G G')(h:Q d G):(bw Q).rt d G':=⟨G,s,h⟩
theorem gB{i:Int}(h1:-(10^80)<i)(h2:i<10^80):lq i:=by
 have:i.natAbs<10^80:=by lia
 exact t6 this (by decide)
theorem Sub.Cv{G G':Gp}{a:ζ}{o:GO}(s:Sub G G')(h:G a=none):Sub G (eH G' a o):=fun b u e=>by
 rw[lH (fun z=>by rw[z,h] at e;cases e)];exact s b u e
def sX:fO:=fun ds G Q=>match ds with
 |[d]=>Known G d/\Q (.bl (FR d)) G
 |_=>False
def DN:bj:=di (rQ (rP "int" (χ 0)) (Bv (rP "bool" (χ 0))))
theorem Ib{nm:ν}:∀ds G Q,sX ds G Q->DN (bw Q) (bA [nm] ds) G:=by
 intro ds G Q h;rcases ds with _|⟨d,_|⟨d2,ds⟩⟩
 ·exact h.elim
 ·cases d with
  |int i=>exact⟨fun _=>dq h.2,nofun⟩
  |bl b=>exact⟨fun _=>dq h.2,nofun⟩
  |aO=>exact⟨nofun,fun _=>dq h.2⟩
  |str _=>exact⟨nofun,fun _=>dq h.2⟩
  |tup _=>exact⟨nofun,fun _=>dq h.2⟩
  |fM _=>exact⟨nofun,fun _=>dq h.2⟩
  |dc _=>exact⟨nofun,fun _=>dq h.2⟩
  |obj a=>
   obtain⟨o1,h1,hp⟩:∃o,G a=some o/\o.plain:=h.1;show match jZ "int" G (.obj a) with
    |some b=>_
    |none=>_
   cases hG:G a with
   |none=>rw[h1] at hG;cases hG
   |some o=>
    cases o with
    |lst _=>simp only[jZ,hG];exact⟨nofun,fun _=>dq h.2⟩
    |lK=>simp only[jZ,hG];exact⟨nofun,fun _=>dq h.2⟩
    |fZ=>simp only[jZ,hG];exact⟨nofun,fun _=>dq h.2⟩
    |gen R=>
     rw[h1] at hG;cases hG;exact hp.elim
 ·exact h.elim
abbrev Qz:=@Ib "thing"
abbrev sW:=sX
abbrev Qy:=DN
abbrev PV:=@Ib "found"
def yx:fO:=fun ds G Q=>∃(ns:List Int) (k:Nat),ds=[.fM (ns.map .int),.int k]/\∀i:Int,Q (.int i) G
def Ia:bj:=cm (jn (bX (aR ra (χ 1) (dJ lh (ξ (χ 0) (av))))) (di (aR cF (χ 0) (χ 1))) (fc)) (di (eC (.int 0)))
theorem PU:∀ds G Q,yx ds G Q->Ia (bw Q) (bA ["script","k"] ds) G:=by
 rintro ds G Q ⟨ns,k,rfl,q⟩;refine⟨fun h=>?_,fun h=>dq (q 0)⟩;have h':(k:Int)<((ns.map D.int).length:Nat):=of_decide_eq_true h;rw[π] at h';have hk:k<ns.length:=by lia
 exact⟨.int ns[k],yk (by rw[aT,az hk];rfl),dq (q _)⟩
def wA:fO:=fun ds G Q=>∃n:Int,ds=[.int n]/\0≤n/\∀r:Int,0≤r->r<2147483629->Q (.int r) G
def HZ:bj:=cm (dj (aR pN (aR eL (χ 0) (eC (.int 7919))) (eC (.int 2147483647))) (hName 0)) (di (aR pN (aR eL (aR eL (aR iH (χ 0) (χ 0)) (aR iH (eC (.int 48271)) (χ 0))) (eC (.int 12345))) (eC (.int 2147483629))))
theorem PQ:∀ds G Q,wA ds G Q->HZ (bw Q) (bA ["seed"] ds) G:=by
 rintro ds G Q ⟨n,rfl,hn,q⟩;have h1:=g5 (n+7919) (show (2147483647:Int)≠0 by decide);have h2:=fV (n+7919) (show (0:Int)<2147483647 by decide);have hb:lq ((n+7919)%2147483647):=gB (by lia) (by lia);refine⟨(by decide:(0:Int)<2147483647),⟨hb,hb⟩,⟨gB (by decide) (by decide),hb⟩,(by decide:(0:Int)<2147483629),dq (q _ ?_ ?_)⟩
 ·exact g5 _ (by decide)
 ·exact fV _ (by decide)
def AI:fO:=fun ds G Q=>∃(p:ζ) (m i j k:Int),ds=[.obj p,.int m]/\G p=some (.lst [.int i,.int j,.int k])/\uv i j k/\0<m/\lq m ∧
 ∀r i' j' k':Int,uv i' j' k'->0≤r->r<m->Q (.int r) (eH G p (.lst [.int i',.int j',.int k']))
def ml:fO:=fun ds G Q=>∃(p:ζ) (m:Int),ds=[.obj p,.int m]/\G p=some .lK/\(0<m/\lq m)/\∀r:Int,0≤r->r<m->Q (.int r) G
def HY:bj:=cm (jn (bX (aR (fw false) (aR cF (χ 0) (eC (.int 1))) (eC (.int 1)))) (cm (dj (aR pN (aR cF (χ 0) (eC (.int 0))) (χ 1)) (hName 2)) (cm (dj (aR zQ (aR cF (χ 0) (eC (.int 0))) (χ 1)) (hSub (χ 0) (eC (.int 0)))) (di (χ 2)))) (fc)) (cm (dj (bO wA (ξ (aR eL (bO wA (ξ (aR cF (χ 0) (eC (.int 2))) (av))) (eC (.int 7))) (av))) (hSub (χ 0) (eC (.int 2)))) (di (aR pN (aR zQ (aR cF (χ 0) (eC (.int 2))) (eC (.int 64))) (χ 1))))
theorem PN:∀ds G Q,AI ds G Q->HY (bw Q) (bA ["pen","many","found"] ds) G:=by
 rintro ds G Q ⟨p,m,i,j,k,rfl,hp,ok,hm,hb,q⟩;obtain⟨o1,o2,o3⟩:=ok;refine⟨_,_,hp,rfl,_,_,rfl,rfl,aG _,fun _=>?_,fun _=>?_⟩
 ·refine⟨_,_,hp,rfl,hm,_,_,hp,rfl,⟨hm,hb⟩,_,0,hp,rfl,?_⟩;refine dq (q (i%m) (i / m) j k ⟨?_,o2,o3⟩ ?_ ?_)
  ·exact Int.ediv_nonneg o1 (by lia)
  ·exact g5 _ (by lia)
  ·exact fV _ hm
 ·refine⟨_,_,hp,rfl,_,rfl,o2,fun r h1 h2=>⟨_,rfl,(by lia),fun r' h3 h4=>?_⟩⟩;refine⟨_,2,hp,rfl,_,_,nE,rfl,⟨by decide,gB (by decide) (by decide)⟩,hm,?_⟩;refine dq (q _ i j r' ⟨o1,h3,by lia⟩ ?_ ?_)
  ·exact g5 _ (by lia)
  ·exact fV _ hm
theorem PM{K:θ}:∀vs H Q E,mS K ml vs H Q E->mS K AI vs H Q E:=by
 rintro vs H Q E ⟨ds,G,Q3,hd,RG,⟨p,m,rfl,hp,hm,q⟩,k⟩;obtain⟨i,j,l,e,ok⟩:=RG p _ hp;refine⟨_,eH G p (.lst [.int i,.int j,.int l]),fun d G'=>∃i' j' l',uv i' j' l'/\G'=eH G p (.lst [.int i',.int j',.int l'])/\Q3 d G,hd,?_,⟨p,m,i,j,l,rfl,nE,ok,hm.1,hm.2,fun r i' j' k' ok' h1 h2=>⟨i',j',k',ok',Ul,q r h1 h2⟩⟩,?_⟩
 ·intro a o ea;by_cases z:a=p
  ·subst z;rw[nE] at ea;cases ea;exact⟨_,e,.cons (by simp[Hv]) (.cons (by simp[Hv]) (.cons (by simp[Hv]) .nil))⟩
  ·rw[lH z] at ea;exact RG a o ea
 ·rintro v H' d G' hv S R ⟨i',j',l',ok',rfl,h3⟩;refine k v H' d G hv ⟨fun a o ea n=>S.fr a o ea ?_,S.nS,fun a n z=>absurd n z⟩ (fun a o ea=>?_) h3
  ·have:a≠p:=fun z=>by rw[z,hp] at n;cases n
   rw[lH this];exact n
  ·by_cases z:a=p
   ·subst z;rw[hp] at ea;cases ea;obtain⟨ws,e1,e2⟩:=R a _ nE;have:=wj e2 (ns:=[i',j',l']) rfl;subst this;exact⟨i',j',l',e1,ok'⟩
   ·exact R a o (by rw[lH z];exact ea)
def Ap:fO:=fun ds G Q=>∃c:Int,ds=[.int c]/\∀p i j k G',gk G p (.lst [.int i,.int j,.int k]) G'->uv i j k->Q (.obj p) G'
def DM:fO:=fun ds G Q=>∃c:Int,ds=[.int c]/\∀p G',gk G p .lK G'->Q (.obj p) G'
def HX:bj:=cm (dj (dJ yd (ξ (χ 0) (ξ (aR uj (eC (.int 0)) (χ 0)) (av)))) (hName 1)) (di (mF (ξ (χ 1) (ξ (dJ Ay (ξ (aR Gi (χ 1) (aR zN (eC (.int 10)) (eC (.int 18)))) (av))) (ξ (aR pN (χ 1) (eC (.int 1000003))) (av))))))
theorem PL:∀ds G Q,Ap ds G Q->HX (bw Q) (bA ["cell","left"] ds) G:=by
 rintro ds G Q ⟨c,rfl,q⟩;refine⟨⟨by decide,by decide,by decide⟩,(by decide:(0:Int)<1000003),fun p G' hp=>dq (q p _ _ _ _ hp ⟨?_,?_,?_⟩)⟩
 ·split<;>lia
 ·exact g5 _ (by decide)
 ·exact Int.lt_trans (fV _ (by decide)) (by decide)
theorem PK{K:θ}:∀vs H Q E,mS K DM vs H Q E->mS K Ap vs H Q E:=by
 rintro vs H Q E ⟨ds,G,Q3,hd,RG,⟨c,rfl,q⟩,k⟩;refine⟨_,G,fun d G'=>∃p i j l,uv i j l/\gk G p (.lst [.int i,.int j,.int l]) G'/\d=.obj p,hd,RG,⟨c,rfl,fun p i j l G' hp ok=>⟨p,i,j,l,ok,hp,rfl⟩⟩,?_⟩;rintro v H' d G' hv S R ⟨p,i,j,l,ok,hp,rfl⟩;refine k v H' _ (eH G' p .lK) hv ⟨S.fr,S.nS,fun a n z=>S.new a n ?_⟩ (fun a o ea=>?_) (q p _ ⟨hp.aO,Sub.Cv hp.sub hp.aO,nE⟩)
 ·by_cases y:a=p
  ·rw[y,hp.at_];simp
  ·rw[lH y] at z;exact z
 ·by_cases z:a=p
  ·subst z;rw[nE] at ea;cases ea;obtain⟨ws,e1,e2⟩:=R a _ hp.at_;have:=wj e2 (ns:=[i,j,l]) rfl;subst this;exact⟨i,j,l,e1,ok⟩
  ·rw[lH z] at ea;exact R a o ea
abbrev bq:=Int×Int
def cD(c:bq):D:=.tup [.int c.1,.int c.2]
def eQ(cs:List bq):D:=.tup (cs.map cD)
def Valid(c:bq):Prop:=0<c.1/\0≤c.2/\c.2<c.1
def rg(n:Int)(c:bq):Bool:=n%c.1==c.2
def yw:fO:=fun ds G Q=>∃(c:bq) (n:Int),ds=[cD c,.int n]/\0<c.1/\Q (.bl (rg n c)) G
def HW:bj:=di (aR (fw false) (aR pN (χ 1) (aR cF (χ 0) (eC (.int 0)))) (aR cF (χ 0) (eC (.int 1))))
theorem PH:∀ds G Q,yw ds G Q->HW (bw Q) (bA ["clock","number"] ds) G:=by
 rintro ds G Q ⟨⟨s,r⟩,n,rfl,hs,q⟩;exact⟨_,rfl,hs,_,rfl,_,_,rfl,rfl,aG _,dq q⟩
theorem fF{n:Nat}(h:n≤1000):n≤aC:=bB h (by decide)
theorem sV{α:Type}{guard:Gp->Prop}{g:iE}{tc:cI}{te:aP}{Q:List D->Gp->Prop}(I:S3->Prop)(h:α->D)(pr:α->Bool)(f:α->D){G:Gp}(hg:guard G):∀(xs:List α) (acc:List D) (τ:S3),I τ ->
  (∀x∈xs,∀τ (K1:S3->Gp->Prop) (K2:S3->D->Gp->Prop),I τ->(pr x=true->∀τ2,I τ2->K2 τ2 (f x) G)->(pr x=false->∀τ2,I τ2->K1 τ2 G)->g (h x) τ G fun τ2 G2=>tc τ2 G2 fun b G3=>Br b (te τ2 G3 fun v G4=>K2 τ2 v G4) (K1 τ2 G3)) ->
  Q (acc++(xs.filter pr).map f) G->iq guard g tc te Q (xs.map h) acc τ G
 |[],acc,τ,_,_,q=>⟨hg,by simpa using q⟩
 |d::ds,acc,τ,hI,hs,q=>by
  refine⟨hg,hs d aj τ (fun τ2 G3=>iq guard g tc te Q (ds.map h) acc τ2 G3) (fun τ2 v G4=>iq guard g tc te Q (ds.map h) (acc++[v]) τ2 G4) hI (fun hp τ2 h2=>?_) fun hp τ2 h2=>?_⟩
  ·refine sV I h pr f hg ds _ τ2 h2 (fun d' hd=>hs d' (ai _ hd)) ?_;rw[List.filter_cons_of_pos hp] at q;simpa using q
  ·refine sV I h pr f hg ds _ τ2 h2 (fun d' hd=>hs d' (ai _ hd)) ?_;rw[List.filter_cons_of_neg (by rw[hp];simp)] at q;exact q
end My
namespace My
open PySem L2 L3
def cX(c:bq):Dat.D:=.tup [.int c.1,.int c.2]
theorem HV:∀cs:List bq,fE (cs.map cD)=some (cs.map cX)
 |[]=>rfl
 |c::cs=>by
  show (match iT (cD c) with
   |some x=>match fE (cs.map cD) with
    |some xs=>some (x::xs)
    |none=>none
   | none=>none)=_
  rw[HV cs];rfl
theorem DL:∀cs:List bq,Dat.g9 (cs.map cX)≤1
 |[]=>aG _
 |c::cs=>by
  show max (cX c).ll (Dat.g9 (cs.map cX))≤1;have h1:(cX c).ll=1:=rfl;have:=DL cs;lia
theorem DK(a b:bq):(cX a).e8 (cX b)=decide (a=b):=by
 obtain⟨s,r⟩:=a;obtain⟨s',r'⟩:=b;show ((s==s')&&((r==r')&&true))=decide ((s,r)=(s',r'));rw[pZ];simp
theorem HU:∀as bs:List bq,Dat.jN (as.map cX) (bs.map cX)=decide (as=bs)
 |[],[]=>rfl
 |[],b::bs=>rfl
 |a::as,[]=>rfl
 |a::as,b::bs=>by
  show ((cX a).e8 (cX b)&&Dat.jN (as.map cX) (bs.map cX))=_;rw[DK,HU as bs,pZ];simp
end My
namespace My
open PySem L2 L3
def rR{α:Type}(xs:List α)(lo hi:Option Int):List α:=(xs.drop (HT.cg xs.length 0 lo)).take (HT.cg xs.length xs.length hi-HT.cg xs.length 0 lo)
theorem Ao{α:Type}(f:α->D)(xs:List α)(lo hi:Option Int):kz (xs.map f) lo hi=(rR xs lo hi).map f:=by
 unfold kz rR;rw[π,su,sv]
theorem PF{α:Type}(xs:List α)(lo hi:Option Int):(rR xs lo hi).length≤xs.length:=by
 unfold rR;rw[br,bC];lia
theorem HR{α:Type}(xs:List α)(k:Nat):rR xs none (some (k:Int))=xs.take k:=by
 unfold rR;rw[HT.xE,HT.zk];simp only[mM,Nat.sub_zero];by_cases h:k≤xs.length
 ·rw[jv h]
 ·rw[Nat.min_eq_right (by lia),List.take_length,cC (by lia)]
theorem PD{α:Type}(xs:List α)(k:Nat):rR xs (some (k:Int)) none=xs.drop k:=by
 unfold rR;rw[HT.xE,HT.zk];by_cases h:k≤xs.length
 ·rw[jv h];exact cC (by rw[bC];lia)
 ·rw[Nat.min_eq_right (by lia),List.drop_length,eK (by lia)];simp
def jg(M:Int)(cs:List bq):Prop:=∀c∈cs,Valid c/\c.1≤M
theorem PB{s r k i:Int}(h:Valid (s,r))(h1:0≤i)(h2:i<k):Valid (s*k,r+s*i):=by
 obtain⟨a,b,c⟩:=h;simp only at a b c;have q:=mi (show i≤k-1 by lia) (show 0≤s by lia);rw[Int.mul_sub,uM] at q;have q2:=mP (show 0≤s by lia) h1;refine⟨?_,?_,?_⟩
 ·exact Int.mul_pos a (by lia)
 ·show 0≤r+s*i;lia
 ·show r+s*i<s*k;lia
theorem C5{α:Type}(f:α->D){xs:List α}{r:Int}(h1:0≤r)(h2:r<(xs.length:Nat)):∃x,xs[r.toNat]?=some x/\x∈xs/\lp (xs.map f) r=some (f x):=by
 have hk:r.toNat<xs.length:=by lia
 refine⟨xs[r.toNat],az hk,lb hk,?_⟩;have e:r=((r.toNat:Nat):Int):=by lia
 have q:lp (xs.map f) ((r.toNat:Nat):Int)=some (f xs[r.toNat]):=yk (by rw[aT];simp[hk]);rw[←e] at q;exact q
theorem HQ{ns:List Int}{r:Int}(h1:0≤r)(h2:r<(ns.length:Nat)):∃n,n∈ns/\lp (ns.map D.int) r=some (.int n):=by
 obtain⟨x,_,h3,h4⟩:=C5 D.int h1 h2;exact⟨x,h3,h4⟩
end My
namespace My
open PySem L2 L3
def iA(c:bq):List Int:=[c.1,c.2]
theorem sU(cs:List bq):(cs.map iA).map tupI=cs.map cD:=by
 rw[fS];rfl
theorem C4{cs:List bq}:∀{mss:List (List Int)},(∀ns∈mss,ns∈cs.map iA)->∃cs':List bq,mss=cs'.map iA/\∀c∈cs',c∈cs
 |[],_=>⟨[],rfl,fun c hc=>nomatch hc⟩
 |ns::mss,h=>by
  obtain⟨cs',e,hc⟩:=C4 (mss:=mss) fun n hn=>h n (ai _ hn);obtain⟨c,h1,rfl⟩:=aQ.mp (h ns aj);refine⟨c::cs',by simp[e],fun d hd=>?_⟩;rcases ak.mp hd with rfl|hd
  ·exact h1
  ·exact hc d hd
def tO(a b:bq):Prop:=a.1<b.1∨(a.1=b.1/\a.2<b.2)
def gK(cs:List bq):Prop:=cs.Pairwise tO
theorem Pz{a b:bq}(h:iA a=iA b):a=b:=by
 obtain⟨s,r⟩:=a;obtain⟨s',r'⟩:=b;simp[iA] at h;simp[h]
theorem Py{a b:bq}(h:jr.lx (iA b) (iA a)=false)(b7:a≠b):tO a b:=by
 obtain⟨s,r⟩:=a;obtain⟨s',r'⟩:=b;unfold iA at h;simp only[jr.lx] at h;by_cases e:s'=s
 ·rw[if_pos e] at h;by_cases e2:r'=r
  ·exact absurd (by rw[e,e2]) b7
  ·rw[if_neg e2] at h;have:=of_decide_eq_false h;exact .inr ⟨e.symm,by simp only;lia⟩
 ·rw[if_neg e] at h;have:=of_decide_eq_false h;exact .inl (by simp only;lia)
theorem Px{cs:List bq}(h:mT (cs.map iA))(nd:(cs.map iA).Nodup):gK cs:=by
 have h1:=eD.mp h;have h2:=eD.mp nd;exact (h1.and h2).imp fun {a b} q=>Py q.1 fun z=>q.2 (by rw[z])
theorem gK.take{cs:List bq}(h:gK cs)(n:Nat):gK (cs.take n):=qU (dw n cs) h
theorem An{cs:List bq}{mss:List (List Int)}(hmem:∀ns,ns∈mss↔ns∈cs.map iA)(nd:mss.Nodup)(hr:mT mss)(hl:mss.length≤(cs.map iA).length):
  ∃cs':List bq,mss=cs'.map iA/\(∀c,c∈cs'↔c∈cs)/\gK cs'/\cs'.length≤cs.length:=by
 obtain⟨cs',rfl,hc⟩:=C4 fun ns hn=>(hmem ns).mp hn;refine⟨cs',rfl,fun c=>⟨fun h=>hc c h,fun h=>?_⟩,Px hr nd,by simpa using hl⟩;obtain⟨c',h1,h2⟩:=aQ.mp ((hmem (iA c)).mpr (aQ.mpr ⟨c,h,rfl⟩));rw[←Pz h2];exact h1
theorem wz{cs:List bq}:∀ns∈cs.map iA,ns≠[]:=fun ns hn=>by
 obtain⟨c,_,rfl⟩:=aQ.mp hn;simp[iA]
theorem yv{G:Gp}{a:ζ}{cs:List bq}(e:G a=some (.lst (cs.map cD))):G a=some (.lst ((cs.map iA).map tupI)):=by rw[sU];exact e
theorem HP{r:Int}{n:Nat}(h1:0≤r)(h2:r<(n:Int)):seqIndex? r n=some r.toNat:=by
 unfold seqIndex?;simp only[if_neg (show ¬r<0 by lia)];rw[if_pos (by simp;lia)]
theorem C2{α β:Type}(f:α->β):∀(xs:List α) (i:Nat),(xs.map f).eraseIdx i=(xs.eraseIdx i).map f
 |[],_=>rfl
 |_::_,0=>rfl
 |x::xs,i+1=>by simp[C2 f xs i]
end My
namespace My
open PySem L2 L3
theorem Am{guard:Gp->Prop}{g:iE}{tc:cI}{te:aP}{Q:List D->Gp->Prop}(I:List D->List D->S3->Gp->Prop)(hg:∀ds acc τ G,I ds acc τ G->guard G)
  (step:∀d ds acc τ G (K1:S3->Gp->Prop) (K2:S3->D->Gp->Prop),I (d::ds) acc τ G->(∀τ' v G',I ds (acc++[v]) τ' G'->K2 τ' v G')->(∀τ' G',I ds acc τ' G'->K1 τ' G')->g d τ G fun τ2 G2=>tc τ2 G2 fun b G3=>Br b (te τ2 G3 fun v G4=>K2 τ2 v G4) (K1 τ2 G3))
  (kY:∀acc τ G,I [] acc τ G->Q acc G):∀ds acc τ G,I ds acc τ G->iq guard g tc te Q ds acc τ G
 |[],acc,τ,G,h=>⟨hg _ _ _ _ h,kY _ _ _ h⟩
 |d::ds,acc,τ,G,h=>⟨hg _ _ _ _ h,step d ds acc τ G (fun τ2 G3=>iq guard g tc te Q ds acc τ2 G3) (fun τ2 v G4=>iq guard g tc te Q ds (acc++[v]) τ2 G4) h
   (fun τ' v G' q=>Am I hg step kY ds _ τ' G' q) fun τ' G' q=>Am I hg step kY ds _ τ' G' q⟩
def sT:fO:=fun ds G Q=>∃(p:ζ) (m:Int),ds=[.obj p,.int m]/\G p=some .lK/\(0<m/\m≤1000)/\∀c:bq,Valid c->c.1≤m->Q (cD c) G
def Pw:bj:=di (eP (ξ (χ 2) (ξ (bO ml (ξ (χ 0) (ξ (χ 2) (av)))) (av))))
def HN:bj:=cm (dj (aR eL (eC (.int 1)) (bO ml (ξ (χ 0) (ξ (χ 1) (av))))) (hName 2)) Pw
theorem Pu:∀ds G Q,sT ds G Q->HN (bw Q) (bA ["pen","most","step"] ds) G:=by
 rintro ds G Q ⟨p,m,rfl,hp,hm,q⟩;refine⟨p,m,rfl,hp,⟨hm.1,gB (by lia) (by lia)⟩,fun r h1 h2=>?_⟩;refine⟨p,_,rfl,hp,⟨by lia,gB (by lia) (by lia)⟩,fun r2 h3 h4=>dq (q (1+r,r2) ⟨?_,h3,h4⟩ ?_)⟩
 ·show 0<1+r;lia
 ·show 1+r≤m;lia
theorem HM{cs:List bq}{mss:List (List Int)}(hp:mss.Perm (cs.map iA)):∃cs':List bq,mss=cs'.map iA/\(∀c∈cs',c∈cs)/\cs'.length=cs.length:=by
 obtain⟨cs',rfl,hc⟩:=C4 fun ns hn=>hp.mem_iff.mp hn;exact⟨cs',rfl,hc,by simpa using hp.length_eq⟩
def yu:fO:=fun ds G Q=>∃(p:ζ) (l m:Int),ds=[.obj p,.int l,.int m]/\G p=some .lK/\(l≤m/\1≤m/\m≤50)/\∀q cs G',jg 1000 cs->1≤cs.length->(cs.length:Int)≤m->gk G q (.lst (cs.map cD)) G'->Q (.obj q) G'
def Pt:bj:=dj (aR eL (χ 3) (iK ["part"] [5,4,6] (kM (ξ (χ 4) (av))) (hName 0) (gi) (eP (ξ (aR iH (χ 1) (χ 2)) (ξ (aR eL (χ 3) (aR iH (χ 1) (χ 0))) (av)))))) (hName 3)
def Pr:bj:=cm (jn (bX (aR uO (aR iH (χ 5) (χ 4)) (eC (.int 1000)))) (di (dJ ya (ξ (aR eL (χ 3) (mF (ξ (eP (ξ (χ 5) (ξ (χ 6) (av)))) (av)))) (av)))) (fc)) Pt
def HL:bj:=cm (dj (eM DJ (χ 3) (ξ (bO ml (ξ (χ 0) (ξ (dJ lh (ξ (χ 3) (av))) (av)))) (av))) (Eg 2 (xk (hName 5) (xk (hName 6) (Eh))))) Pr
def Pq:bj:=cm (dj (dJ DW (ξ (χ 4) (ξ (dJ yd (ξ (eC (.int 2)) (ξ (aR eL (aR uj (χ 2) (dJ lh (ξ (χ 3) (av)))) (eC (.int 1))) (av)))) (av)))) (hName 4)) HL
def HK:bj:=cm (dj (tJ (ξ (eC (.int 2)) (ξ (eC (.int 2)) (ξ (eC (.int 3)) (ξ (eC (.int 2)) (ξ (eC (.int 3)) (ξ (eC (.int 5)) (av))))))) (bO ml (ξ (χ 0) (ξ (eC (.int 6)) (av))))) (hName 4)) Pq
def C1:bj:=di (dJ ya (ξ (χ 3) (av)))
def Pp:bj:=cm (xC (qr (bX (aR ra (dJ lh (ξ (χ 3) (av))) (χ 1))) (vj (bX (aR uO (bO ml (ξ (χ 0) (ξ (eC (.int 4)) (av)))) (eC (.int 0)))) (bX (aR ra (dJ lh (ξ (χ 3) (av))) (χ 2))))) (HK)) C1
def HJ:bj:=cm (dj (mF (ξ (eP (ξ (eC (.int 1)) (ξ (eC (.int 0)) (av)))) (av))) (hName 3)) Pp
theorem wrote{G G1:Gp}{q:ζ}{o o':GO}(n:gk G q o G1):gk G q o' (eH G1 q o'):=⟨n.aO,Sub.Cv n.sub n.aO,nE⟩
theorem Po{G G1:Gp}{Q:V3}{p:ζ}{l m:Int}{q1:ζ}{cs:List bq}{x4 x5 x6:Option D}(hm:m≤50)(q:∀q cs G',jg 1000 cs->1≤cs.length->(cs.length:Int)≤m->gk G q (.lst (cs.map cD)) G'->Q (.obj q) G')
  (n1:gk G q1 (.lst (cs.map cD)) G1) (ok:jg 1000 cs) (l1:1≤cs.length) (l2:(cs.length:Int)≤m):C1 (bw Q) [some (.obj p),some (.int l),some (.int m),some (.obj q1),x4,x5,x6] G1:=by
 refine⟨_,yv n1.at_,by rw[π];lia,wz,fun p2 mss G2 hp2 hpm hr=>?_⟩;obtain⟨cs',rfl,hmem,hlen⟩:=HM hpm;rw[sU] at hp2;exact dq (q p2 cs' _ (fun c hc=>ok c (hmem c hc)) (by lia) (by lia) ⟨n1.sub.of_none hp2.aO,n1.sub.trans hp2.sub,hp2.at_⟩)
def rT(G:Gp)(p:ζ)(l m:Int)(k:Nat):S3->Gp->Prop:=fun τ' G'=>∃m',m' < k/\∃q cs x4 x5 x6,τ'=[some (.obj p),some (.int l),some (.int m),some (.obj q),x4,x5,x6]/\gk G q (.lst (cs.map cD)) G'/\jg 1000 cs/\1≤cs.length/\(cs.length:Int)≤m/\(m':Int)+cs.length=m
theorem Pn{G G1:Gp}{Q:V3}{D3:gu}{p:ζ}{l m:Int}{q1:ζ}{cs:List bq}{x5 x6:Option D}{k:Nat}{k1:Int}(hp:G p=some .lK)(hm:m≤50)(q:∀q cs G',jg 1000 cs->1≤cs.length->(cs.length:Int)≤m->gk G q (.lst (cs.map cD)) G'->Q (.obj q) G')
  (n1:gk G q1 (.lst (cs.map cD)) G1) (ok:jg 1000 cs) (l1:1≤cs.length) (l2:(cs.length:Int)<m) (hk:(k:Int)+cs.length=m) (h1:2≤k1) (h2:k1≤5) (h3:(cs.length:Int)-1+k1≤m)
  (Xc:D3.rt=(bw Q).rt) (hnx:D3.nx=rT G p l m k):HL D3 [some (.obj p),some (.int l),some (.int m),some (.obj q1),some (.int k1),x5,x6] G1:=by
 have hp1:=n1.sub p _ hp;have e1:=n1.at_;refine⟨⟨q1,_,rfl,e1⟩,_,e1,p,_,rfl,hp1,⟨by rw[π];lia,gB (by rw[π];lia) (by rw[π];lia)⟩,fun r a b=>?_⟩;rw[π] at b;obtain⟨c,ec,hc,_⟩:=C5 cD a b;obtain⟨s,r'⟩:=c;refine⟨_,r.toNat,cD (s,r'),e1,⟨by lia,by lia⟩,by rw[π];exact HP a b,by rw[aT,ec];rfl,rfl,?_⟩;rw[C2];have n2:gk G q1 (.lst ((cs.eraseIdx r.toNat).map cD)) (eH G1 q1 (.lst ((cs.eraseIdx r.toNat).map cD))):=wrote n1;generalize eH G1 q1 (.lst ((cs.eraseIdx r.toNat).map cD))=G2 at n2;have hv:=(ok _ hc).1;have hs:=(ok _ hc).2;simp only at hs;have hv1:0<s:=hv.1;have hlen:(cs.eraseIdx r.toNat).length=cs.length-1:=List.length_eraseIdx_of_lt (by lia);have ok2:jg 1000 (cs.eraseIdx r.toNat):=fun c hc=>ok c (pE hc);refine⟨⟨gB (by lia) (by lia),gB (by lia) (by lia)⟩,fun hg=>?_,fun hg=>?_⟩
 ·intro q3 G3 n3;refine⟨_,_,n3.sub _ _ n2.at_,n3.at_,?_,fun q4 G4 n4=>?_⟩
  ·rw[π,hlen];exact fF (by simp;lia)
  have e4:G4 q4=some (.lst (((cs.eraseIdx r.toNat)++[(s,r')]).map cD)):=by
   rw[n4.at_,eG];rfl
  refine⟨_,yv e4,by rw[π,ψ,hlen];simp;lia,wz,fun p2 mss G5 hp2 hpm hr=>?_⟩;obtain⟨cs',rfl,hmem,hl'⟩:=HM hpm;rw[sU] at hp2;rw[Xc];rw[ψ,hlen,dH] at hl';have s4:=(n2.sub.trans n3.sub).trans n4.sub;refine dq (q p2 cs' _ (fun c hc'=>?_) (by lia) (by lia) ⟨s4.of_none hp2.aO,s4.trans hp2.sub,hp2.at_⟩);rcases ag.mp (hmem c hc') with z|z
  ·exact ok2 c z
  ·have:c=(s,r'):=by simpa using z
   rw[this];exact ok _ hc
 ·have hg':¬(1000<s*k1):=of_decide_eq_false hg;refine⟨⟨by lia,by lia⟩,?_,?_⟩
  ·show (g7 0 k1.toNat).length≤aC;rw[rz];exact fF (by lia)
  refine sV (fun τ=>∃x,τ=[x,some (.int s),some (.int k1),some (.int r')]) (fun i:Nat=>D.int (0+(i:Int))) (fun _=>true) (fun i:Nat=>cD (s*k1,r'+s*(0+(i:Int)))) trivial (bM k1.toNat) [] _ ⟨none,rfl⟩ ?_ ?_
  ·rintro i hi τ K1 K2 ⟨x,rfl⟩ g1 g2;have hi':(i:Int)<k1:=by have:=de.mp hi;lia
   have b1:lq s:=gB (by lia) (by lia);refine⟨fun _=>⟨⟨b1,gB (by lia) (by lia)⟩,⟨b1,gB (by lia) (by lia)⟩,?_⟩,nofun⟩;exact g1 rfl _ ⟨_,rfl⟩
  ·intro q3 G3 n3;rw[cS,sJ.mpr (fun _ _=>rfl)] at n3;have em:((bM k1.toNat).map fun i:Nat=>cD (s*k1,r'+s*(0+(i:Int))))=((bM k1.toNat).map fun i:Nat=>((s*k1,r'+s*(0+(i:Int))):bq)).map cD:=by rw[fS];rfl
   rw[em] at n3;refine⟨_,_,n3.sub _ _ n2.at_,n3.at_,?_,fun q4 G4 n4=>?_⟩
   ·rw[π,π,π,nZ,hlen];exact fF (by lia)
   rw[←eG] at n4;show D3.nx _ G4;rw[hnx];have s3:=n2.sub.trans n3.sub;have hl':((cs.eraseIdx r.toNat)++((bM k1.toNat).map fun i:Nat=>((s*k1,r'+s*(0+(i:Int))):bq))).length=cs.length-1+k1.toNat:=by
    rw[ψ,hlen,π,nZ]
   refine⟨(m-((cs.length:Int)-1+k1)).toNat,by lia,q4,_,_,_,_,rfl,⟨s3.of_none n4.aO,s3.trans n4.sub,n4.at_⟩,fun c hc'=>?_,by lia,by lia,by lia⟩;rcases ag.mp hc' with z|z
   ·exact ok2 c z
   ·obtain⟨i,hi,rfl⟩:=aQ.mp z;have:=de.mp hi;exact⟨PB hv (by lia) (by lia),by show s*k1≤1000;lia⟩
theorem Pm:∀ds G Q,yu ds G Q->HJ (bw Q) (bA ["pen","least","most","clocks","k","step","rest"] ds) G:=by
 rintro ds G Q ⟨p,l,m,rfl,hp,hm,q⟩;intro q0 G0 n0;refine⟨fun k τ G'=>∃q cs x4 x5 x6,τ=[some (.obj p),some (.int l),some (.int m),some (.obj q),x4,x5,x6]/\gk G q (.lst (cs.map cD)) G'/\jg 1000 cs/\1≤cs.length/\(cs.length:Int)≤m/\(k:Int)+cs.length=m,⟨(m-1).toNat,q0,[(1,0)],_,_,_,rfl,n0,by intro c hc;simp at hc;subst hc;exact⟨⟨by decide,by decide,by decide⟩,by decide⟩,by decide,by simp;lia,by simp;lia⟩,?_⟩;rintro k τ G1 ⟨q1,cs,x4,x5,x6,rfl,n1,ok,l1,l2,hk⟩;have hp1:=n1.sub p _ hp;have e1:=n1.at_;have stop:=Po (p:=p) (l:=l) (x4:=x4) (x5:=x5) (x6:=x6) (by lia) q n1 ok l1 l2;have go:(cs.length:Int)<m->HK { bw Q with nx:=rT G p l m k,ct:=rT G p l m k,bk:=C1 (bw Q)} [some (.obj p),some (.int l),some (.int m),some (.obj q1),x4,x5,x6] G1:=by
  intro hlt;refine⟨p,6,rfl,hp1,⟨by decide,gB (by decide) (by decide)⟩,fun r h1 h2=>?_⟩;obtain⟨k0,hk0,ek⟩:=HQ (ns:=[2,2,3,2,3,5]) h1 h2;refine⟨.int k0,ek,_,e1,?_⟩;have hk2:2≤k0/\k0≤5:=by simp at hk0;lia
  refine Pn hp (by lia) q n1 ok l1 hlt hk ?_ ?_ ?_ rfl rfl
  ·rw[π];split<;>split<;>lia
  ·rw[π];split<;>split<;>lia
  ·rw[π];split<;>split<;>lia
 refine⟨_,e1,fun h=>⟨fun _=>go ?_,nofun⟩,fun h=>⟨p,4,rfl,hp1,⟨by decide,gB (by decide) (by decide)⟩,fun r a b=>⟨fun h2=>⟨_,e1,fun h3=>go ?_,fun h3=>stop⟩,fun h2=>⟨nofun,fun _=>stop⟩⟩⟩⟩
 ·have h':((cs.map cD).length:Int)<l:=of_decide_eq_true h;rw[π] at h';lia
 ·have h':((cs.map cD).length:Int)<m:=of_decide_eq_true h3;rw[π] at h';lia
end My
namespace My
open PySem L2 L3
def yt:fO:=fun ds G Q=>∃(p:ζ) (m:Int),ds=[.obj p,.int m]/\G p=some .lK/\(1≤m/\m≤50)/\∀cs,jg 1000 cs->(cs.length:Int)≤m->gK cs->Q (eQ cs) G
def Pl:bj:=qZ (eM Jw (χ 3) (ξ (eP (ξ (χ 6) (ξ (bO ml (ξ (χ 0) (ξ (χ 6) (av)))) (av)))) (av)))
def Pk:bj:=cm (dj (aR cF (χ 4) (bO ml (ξ (χ 0) (ξ (eC (.int 7)) (av))))) (hName 6)) Pl
def Pj:bj:=wc (kM (ξ (bO ml (ξ (χ 0) (ξ (aR eL (χ 1) (eC (.int 1))) (av)))) (av))) (hName 5) (Pk)
def P7:bj:=cm (dj (mF (av)) (hName 3)) Pj
def HI:bj:=jn (bX (aR (fw false) (χ 2) (eC (.int 4)))) (qZ (eM DJ (χ 3) (ξ (bO ml (ξ (χ 0) (ξ (dJ lh (ξ (χ 3) (av))) (av)))) (av)))) (fc)
def P6:bj:=cm (jn (bX (aR (fw false) (χ 2) (eC (.int 3)))) (dj (aR eL (χ 3) (mF (ξ (bO sT (ξ (χ 0) (ξ (eC (.int 6)) (av)))) (av)))) (hName 3)) (fc)) HI
def C0:bj:=di (zz (dJ td (ξ (rO (χ 3)) (av))) (vC) (rA (χ 1)))
def P5:bj:=cm (jn (bX (aR (fw false) (χ 2) (eC (.int 0)))) (dj (iK ["turn"] [0] (kM (ξ (bO ml (ξ (χ 0) (ξ (aR eL (χ 1) (eC (.int 1))) (av)))) (av))) (hName 0) (gi) (bO sT (ξ (χ 1) (ξ (eC (.int 12)) (av))))) (hName 3)) (jn (bX (aR (fw false) (χ 2) (eC (.int 1)))) (cm (dj (mF (ξ (eC (.int 2)) (ξ (eC (.int 3)) (ξ (eC (.int 4)) (ξ (eC (.int 6)) (ξ (eC (.int 8)) (ξ (eC (.int 12)) (ξ (eC (.int 24)) (av))))))))) (hName 4)) P7) (cm (dj (bO yu (ξ (χ 0) (ξ (eC (.int 1)) (ξ (dJ yd (ξ (eC (.int 1)) (ξ (aR uj (χ 1) (eC (.int 1))) (av)))) (av))))) (hName 3)) P6))) C0
def HH:bj:=cm (dj (bO ml (ξ (χ 0) (ξ (eC (.int 5)) (av)))) (hName 2)) P5
theorem Al{G G1:Gp}{Q:V3}{p:ζ}{m:Int}{q1:ζ}{cs:List bq}{x2 x4 x5 x6:Option D}(hm:1≤m/\m≤50)(q:∀cs,jg 1000 cs->(cs.length:Int)≤m->gK cs->Q (eQ cs) G)
  (n1:gk G q1 (.lst (cs.map cD)) G1) (ok:jg 1000 cs) (hl:cs.length≤60):C0 (bw Q) [some (.obj p),some (.int m),x2,some (.obj q1),x4,x5,x6] G1:=by
 refine⟨_,yv n1.at_,by rw[π];exact hl,wz,fun p1 mss G2 hp1 hmem nd hr hlen=>?_⟩;obtain⟨cs',rfl,hmem,hr,hlen⟩:=An hmem nd hr hlen;rw[sU] at hp1;refine⟨_,hp1.at_,?_⟩;obtain⟨k,rfl⟩:∃k:Nat,m=(k:Int):=⟨m.toNat,by lia⟩;show (bw Q).rt (.tup (kz (cs'.map cD) none (some (k:Int)))) G2;rw[Ao,HR];refine AJ (n1.sub.trans hp1.sub) (q _ (fun c hc=>ok c ((hmem c).mp (cb hc))) ?_ (hr.take k));rw[br];lia
theorem P4:∀ds G Q,yt ds G Q->HH (bw Q) (bA ["pen","most","way","found","steps","turn","step"] ds) G:=by
 rintro ds G Q ⟨p,m,rfl,hp,hm,q⟩;refine⟨p,5,rfl,hp,⟨by decide,gB (by decide) (by decide)⟩,fun way w1 w2=>?_⟩;refine⟨_,_,rfl,rfl,aG _,fun _=>?_,fun _=>⟨_,_,rfl,rfl,aG _,fun _=>?_,fun _=>?_⟩⟩
 ·-- clocks of small steps
  refine⟨p,_,rfl,hp,⟨by lia,gB (by lia) (by lia)⟩,fun n h1 h2=>⟨⟨by lia,by lia⟩,?_,?_⟩⟩
  ·show (g7 0 n.toNat).length≤aC;rw[rz];exact fF (by lia)
  refine Am (fun ds acc τ G'=>(∃cs:List bq,acc=cs.map cD/\jg 1000 cs/\cs.length+ds.length≤50)/\G'=G/\∃x,τ=[x,some (.obj p)]) (fun _ _ _ _ _=>trivial) ?_ ?_ _ _ _ _ ⟨⟨[],rfl,(fun c hc=>nomatch hc),?_⟩,rfl,none,rfl⟩
  ·rintro d ds acc τ G' K1 K2 ⟨⟨cs,rfl,ok,hl⟩,rfl,x,rfl⟩ g1 g2;refine⟨fun _=>⟨p,12,rfl,hp,⟨by decide,by decide⟩,fun c hv hc=>?_⟩,nofun⟩;refine g1 _ _ _ ⟨⟨cs++[c],by simp,fun c' hc'=>?_,?_⟩,rfl,_,rfl⟩
   ·rcases ag.mp hc' with z|z
    ·exact ok c' z
    ·have:c'=c:=by simpa using z
     rw[this];exact⟨hv,by lia⟩
   ·rw[ψ,dH];simp only[aE] at hl;lia
  ·rintro acc τ G' ⟨⟨cs,rfl,ok,hl⟩,rfl,x,rfl⟩;intro q1 G1 n1;exact Al hm q n1 ok (by simp at hl;lia)
  ·show ([]:List bq).length+(g7 0 n.toNat).length≤50;rw[rz];simp;lia
 ·-- of told steps
  intro st G0 hst q1 G1 n1;have hp1:=n1.sub _ _ (hst.sub _ _ hp);refine⟨p,_,rfl,hp1,⟨by lia,gB (by lia) (by lia)⟩,fun n h1 h2=>⟨⟨by lia,by lia⟩,?_⟩⟩;refine yh (fun ds τ G'=>∃cs x5 x6,τ=[some (.obj p),some (.int m),some (.int way),some (.obj q1),some (.obj st),x5,x6]/\gk G q1 (.lst (cs.map cD)) G'/\G' st=some (.lst (([2,3,4,6,8,12,24]:List Int).map D.int))/\jg 1000 cs/\cs.length+ds.length≤50) (fun _ _ _ _=>trivial) ?_ ?_ _ _ _ ?_
  ·rintro d ds τ G2 N ⟨cs,x5,x6,rfl,n2,e3,ok,hl⟩ hN;have hp2:=n2.sub p _ hp;have e2:=n2.at_;refine⟨p,7,rfl,hp2,⟨by decide,gB (by decide) (by decide)⟩,fun r a b=>?_⟩;obtain⟨stp,hm',es⟩:=HQ (ns:=[2,3,4,6,8,12,24]) a b;have hs:2≤stp/\stp≤24:=by simp at hm';lia
   refine⟨_,.int stp,e3,es,⟨q1,_,rfl,e2⟩,p,stp,rfl,hp2,⟨by lia,gB (by lia) (by lia)⟩,fun r2 h3 h4=>?_⟩;simp only[aE] at hl;refine⟨_,e2,by rw[π];exact Nat.lt_of_le_of_lt (show cs.length≤50 by lia) (by decide),?_⟩;have b7:st≠q1:=fun z=>by
    rw[z,e2] at e3;cases cs with
    |nil=>simp at e3
    |cons c cs=>simp[cD] at e3
   refine hN _ _ ⟨cs++[(stp,r2)],_,_,rfl,⟨n2.aO,Sub.Cv n2.sub n2.aO,?_⟩,?_,fun c hc=>?_,?_⟩
   ·rw[nE,eG];rfl
   ·rw[lH b7];exact e3
   ·rcases ag.mp hc with hc|hc
    ·exact ok c hc
    ·have:c=(stp,r2):=by simpa using hc
     subst this;exact⟨⟨by show 0<stp;lia,h3,h4⟩,by show stp≤1000;lia⟩
   ·rw[ψ,dH];lia
  ·rintro τ G2 ⟨cs,x5,x6,rfl,n2,e3,ok,hl⟩;exact Al hm q n2 ok (by simp at hl;lia)
  ·refine⟨[],_,_,rfl,⟨hst.sub.of_none n1.aO,hst.sub.trans n1.sub,n1.at_⟩,n1.sub _ _ hst.at_,(fun c hc=>nomatch hc),?_⟩;show ([]:List bq).length+(g7 0 n.toNat).length≤50;rw[rz];simp;lia
 ·-- by splits
  refine⟨p,1,_,rfl,hp,⟨?_,?_,?_⟩,fun q1 cs G1 ok l1 l2 n1=>?_⟩
  ·split<;>lia
  ·split<;>lia
  ·split<;>lia
  have l3:cs.length≤50:=by
   have:(cs.length:Int)≤50:=Int.le_trans l2 (by split<;>lia)
   lia
  have hp1:=n1.sub _ _ hp;have pop:∀{q1:ζ} {cs:List bq} {G1:Gp},jg 1000 cs->1≤cs.length->cs.length≤51->gk G q1 (.lst (cs.map cD)) G1->HI { bw Q with nx:=C0 (bw Q)} [some (.obj p),some (.int m),some (.int way),some (.obj q1),none,none,none] G1:=by
   intro q1 cs G1 ok l1 l3 n1;refine⟨_,_,rfl,rfl,aG _,fun _=>?_,fun _=>Al hm q n1 ok (by lia)⟩;have e1:=n1.at_;refine⟨⟨q1,_,rfl,e1⟩,_,e1,p,_,rfl,n1.sub _ _ hp,⟨by rw[π];lia,gB (by rw[π];lia) (by rw[π];lia)⟩,fun r a b=>?_⟩;rw[π] at b;obtain⟨c,ec,hc,_⟩:=C5 cD a b;refine⟨_,r.toNat,cD c,e1,⟨by lia,by lia⟩,by rw[π];exact HP a b,by rw[aT,ec];rfl,?_⟩;rw[C2];exact Al hm q (wrote n1) (fun c hc=>ok c (pE hc)) (bB (D6 cs _) (by lia))
  refine⟨_,_,rfl,rfl,aG _,fun _=>?_,fun _=>pop ok l1 (by lia) n1⟩;refine⟨p,6,rfl,hp1,⟨by decide,by decide⟩,fun c hv hc=>?_⟩;intro q2 G2 n2;refine⟨_,_,n2.sub _ _ n1.at_,n2.at_,?_,fun q3 G3 n3=>?_⟩
  ·rw[π];exact fF (by simp;lia)
  have n3':gk G q3 (.lst ((cs++[c]).map cD)) G3:=⟨(n1.sub.trans n2.sub).of_none n3.aO,(n1.sub.trans n2.sub).trans n3.sub,by rw[n3.at_,eG];rfl⟩;refine pop (fun c' hc'=>?_) (by simp) (by simp;lia) n3';rcases ag.mp hc' with z|z
  ·exact ok c' z
  ·have:c'=c:=by simpa using z
   rw[this];exact⟨hv,by lia⟩
end My
namespace My
open PySem L2 L3
def nD(n:Nat):D:=.int (n:Nat)
theorem filter_all{α:Type}(xs:List α):xs.filter (fun _=>true)=xs:=sJ.mpr fun _ _=>rfl
end My
namespace My
open PySem L2 L3
theorem MD(n:Nat):g7 0 n=(bM n).map nD:=by
 unfold g7;refine ji fun i _=>?_;show D.int (0+(i:Int))=D.int (i:Int);rw[Int.zero_add]
theorem IB{cs:List bq}{i:Nat}{a:bq}(h:cs[i]?=some a):lp (cs.map cD) (i:Int)=some (cD a):=yk (by rw[aT,h];rfl)
end My
namespace My
open PySem L2 L3
def Cs(G:Gp):D->Prop
 |.tup ds=>∀d∈ds,Known G d
 |.obj a=>∃o,G a=some o/\o.plain
 |_=>True
theorem CZ{G:Gp}{d:D}(h:Cs G d)(hn:∀ds,d≠.tup ds):jZ "tuple" G d=some false:=by
 cases d with
 |obj a=>
  obtain⟨o,hG,hp⟩:∃o,G a=some o/\o.plain:=h;cases o with
  |gen R=>exact hp.elim
  |_=>simp[jZ,hG]
 |tup ds=>exact absurd rfl (hn ds)
 |_=>rfl
end My
namespace My
open PySem L2 L3
theorem CY{α:Type}(f:α->Bool):∀xs:List α,og (xs.map fun x=>D.bl (f x))=some (xs.map f)
 |[]=>rfl
 |x::xs=>by
  show r9 _ (og (xs.map fun x=>D.bl (f x)))=_;rw[CY f xs];rfl
theorem all_map{α:Type}(f:α->Bool)(xs:List α):(xs.map f).all id=xs.all f:=by
 induction xs with
 |nil=>rfl
 |cons x xs ih=>simp
end My
namespace My
open PySem L2 L3
def Kn(G:Gp):Nat->D->Prop
 |0,d=>Known G d
 |n+1,.tup ds=>∀d∈ds,Kn G n d
 |_+1,d=>Known G d
def nU(G:Gp)(d:D):Prop:=∀n,Kn G n d
section
variable {G G':Gp}
theorem nU.tup{ds:List D}(h:∀d∈ds,nU G d):nU G (.tup ds):=fun n=>match n with
 |0=>trivial
 |n+1=>fun d hd=>h d hd n
theorem nU.int(i:Int):nU G (.int i):=fun n=>by cases n<;>trivial
theorem nU.el{ds:List D}{d:D}(h:nU G (.tup ds))(hd:d∈ds):nU G d:=fun n=>h (n+1) d hd
theorem nU.known{d:D}(h:nU G d):Known G d:=h 0
theorem nU.yD{d:D}(h:nU G d):Cs G d:=by
 cases d with
 |tup ds=>exact fun d hd=>(h.el hd).known
 |obj a=>exact h 0
 |_=>trivial
theorem nU.Xt(c:bq):nU G (cD c):=.tup fun d hd=>by
 simp only[ak,bZ,or_false] at hd;rcases hd with rfl|rfl
 ·exact .int _
 ·exact .int _
end
def tN(s r:Int):Bool:=(decide (1≤s)&&decide (s≤1000))&&(decide (0≤r)&&decide (r<s))
def jP:D->Bool
 |.tup [.int s,.int r]=>tN s r
 |_=>false
def Iz:fO:=fun ds G Q=>∃d:D,ds=[d]/\nU G d/\Q (.bl (jP d)) G
def P2:bj:=di (rQ (qt xF xF (eC (.int 1)) (aR cF (χ 0) (eC (.int 0))) (eC (.int 1000))) (qt xF ra (eC (.int 0)) (aR cF (χ 0) (eC (.int 1))) (aR cF (χ 0) (eC (.int 0)))))
def P1:bj:=cm (jn (qr (mE (bX (bO sX (ξ (aR cF (χ 0) (eC (.int 0))) (av))))) (mE (bX (bO sX (ξ (aR cF (χ 0) (eC (.int 1))) (av)))))) (di (eC (.bl false))) (fc)) P2
def Iy:bj:=cm (jn (qr (mE (bX (rP "tuple" (χ 0)))) (bX (aR (fw true) (dJ lh (ξ (χ 0) (av))) (eC (.int 2))))) (di (eC (.bl false))) (fc)) P1
theorem Ak{ds:List D}(h:ds.length≠2):jP (.tup ds)=false:=by
 unfold jP;split
 ·rename_i h2;cases h2;exact absurd rfl h
 ·rfl
theorem XA:∀ds G Q,Iz ds G Q->Iy (bw Q) (bA ["thing"] ds) G:=by
 rintro ds G Q ⟨d,rfl,hk,q⟩;have not_tup:(∀ds,d≠.tup ds)->Iy (bw Q) (bA ["thing"] [d]) G:=by
  intro hn;have e:jP d=false:=by
   cases d with
   |tup ds=>exact absurd rfl (hn ds)
   |_=>rfl
  rw[e] at q;show match jZ "tuple" G d with
   |some b=>_
   |none=>False
  rw[CZ hk.yD hn];exact⟨fun _=>⟨fun _=>dq q,nofun⟩,nofun⟩
 cases d with
 |tup ds=>
  refine⟨nofun,fun _=>⟨_,_,rfl,rfl,aG _,?_⟩⟩;rcases ds with _|⟨a,_|⟨b,_|⟨c,ds⟩⟩⟩
  ·exact⟨fun _=>dq q,nofun⟩
  ·rw[Ak (by simp)] at q;exact⟨fun _=>dq q,nofun⟩
  ·refine⟨nofun,fun _=>⟨a,rfl,(hk.el (by simp)).known,?_⟩⟩;have hb:Known G b:=(hk.el (by simp)).known;cases a with
   |int s=>
    refine⟨nofun,fun _=>⟨b,rfl,hb,?_⟩⟩;cases b with
    |int r=>
     have fin:∀v,tN s r=v->(bw Q).rt (.bl v) G:=fun v e=>by
      rw[←e];exact dq q
     refine⟨nofun,fun _=>⟨_,rfl,⟨fun h1=>⟨fun h2=>⟨_,rfl,fun h3=>⟨_,rfl,fin _ ?_⟩,fun h3=>fin _ ?_⟩,fun h2=>fin _ ?_⟩,fun h1=>⟨nofun,fun _=>fin _ ?_⟩⟩⟩⟩
     ·unfold tN;rw[h1,h2,h3];rfl
     ·unfold tN;rw[h1,h2,h3];rfl
     ·unfold tN;rw[h1,h2];rfl
     ·unfold tN;rw[h1];rfl
    |_=>exact⟨fun _=>dq q,nofun⟩
   |_=>exact⟨fun _=>⟨fun _=>dq q,nofun⟩,nofun⟩
  ·refine⟨fun _=>?_,fun h=>?_⟩
   ·rw[Ak (by simp)] at q;exact dq q
   have h':(!(((ds.length+1+1+1:Nat):Int)==2))=false:=h;simp at h';omega
 |_=>exact not_tup nofun
def Ce(p:bq×bq):Bool:=HT.lexLt (iA p.1) (iA p.2)
def vk(cs:List bq):Bool:=(cs.zip (cs.drop 1)).all Ce
def xn:D->bq
 |.tup [.int s,.int r]=>(s,r)
 |_=>(0,0)
def vO:D->Bool
 |.tup ds=>decide (ds.length≤12)&&(ds.all jP&&vk (ds.map xn))
 |_=>false
theorem P0{d:D}(h:jP d=true):∃c:bq,d=cD c:=by
 unfold jP at h;split at h
 ·rename_i s r;exact⟨(s,r),rfl⟩
 ·cases h
theorem Iw:∀{ds:List D},ds.all jP=true->∃cs:List bq,ds=cs.map cD
 |[],_=>⟨[],rfl⟩
 |d::ds,h=>by
  rw[nN,cA] at h;obtain⟨c,rfl⟩:=P0 h.1;obtain⟨cs,rfl⟩:=Iw h.2;exact⟨c::cs,rfl⟩
theorem Iv(cs:List bq):(cs.map cD).map xn=cs:=by
 rw[fS];exact (ji fun c _=>rfl).trans (List.map_id cs)
def PZ:fO:=fun ds G Q=>∃d:D,ds=[d]/\nU G d/\Q (.bl (vO d)) G
theorem PY{G:Gp}{te:aP}{Q:List D->Gp->Prop}{ds:List D}{f:D->Bool}{js:List Nat}{τ:S3}(hl:ds.length≤1000)
  (hs:∀x∈ds,∀y:Option D,∀K:V3,K (.bl (f x)) G->te (kU (y::js.map fun j=>iW τ j) 0 x) G K) (q:Q (ds.map fun x=>.bl (f x)) G):iq (fun _=>True) (hName 0) gi te Q ds [] (none::js.map fun j=>iW τ j) G:=by
 have:=sV (α:=D) (guard:=fun _=>True) (g:=hName 0) (tc:=gi) (te:=te) (Q:=Q) (fun τ'=>∃x,τ'=x::js.map fun j=>iW τ j) (fun x=>x) (fun _=>true) (fun x=>.bl (f x)) (G:=G) trivial ds [] (none::js.map fun j=>iW τ j) ⟨none,rfl⟩ ?_ ?_
 ·rw[List.map_id'] at this;exact this
 ·rintro x hx τ' K1 K2 ⟨y,rfl⟩ h1 h2;exact⟨fun _=>hs x hx y _ (h1 rfl _ ⟨_,rfl⟩),nofun⟩
 ·rw[filter_all,cS];exact q
end My
namespace My
open PySem L2 L3
def parts(c:bq)(k:Nat):List bq:=(bM k).map fun t:Nat=>(c.1*(k:Int),c.2+c.1*(t:Int))
theorem CW(c:bq)(k:Nat):(parts c k).length=k:=by simp[parts]
def uT:fO:=fun ds G Q=>∃(c:bq) (k:Nat),ds=[cD c,.int k]/\k≤10000/\lq c.1/\∀p G',gk G p (.lst ((parts c k).map cD)) G'->Q (.obj p) G'
def W4(nm:ν):bj:=di (iK [nm] [0,1] (kM (ξ (χ 1) (av))) (hName 0) (gi) (eP (ξ (aR iH (aR cF (χ 1) (eC (.int 0))) (χ 2)) (ξ (aR eL (aR cF (χ 1) (eC (.int 1))) (aR iH (aR cF (χ 1) (eC (.int 0))) (χ 0))) (av)))))
theorem Iu{nm:ν}:∀ds G Q,uT ds G Q->W4 nm (bw Q) (bA ["clock","k"] ds) G:=by
 rintro ds G Q ⟨c,k,rfl,hk,hb,q⟩;obtain⟨s,r⟩:=c;have bk:∀t:Nat,t≤10000->lq (t:Int):=fun t ht=>gB (by lia) (by lia);refine⟨⟨by lia,by lia⟩,?_,?_⟩
 ·show (g7 0 ((k:Int)).toNat).length≤aC;rw[rz];exact bB (show ((k:Int)).toNat≤10000 by lia) (by decide)
 show iq _ _ _ _ _ (g7 0 ((k:Int)).toNat) _ _ _;rw[Int.toNat_natCast,MD];refine sV (fun τ=>∃x,τ=[x,some (cD (s,r)),some (.int k)]) nD (fun _=>true) (fun t:Nat=>cD (s*(k:Int),r+s*(t:Int))) (G:=G) trivial (bM k) [] _ ⟨none,rfl⟩ ?_ ?_
 ·rintro t hm τ K1 K2 ⟨x,rfl⟩ h1 h2;have ht:t<k:=by simpa using hm
  exact⟨fun _=>⟨_,rfl,⟨hb,bk k hk⟩,_,rfl,_,rfl,⟨hb,bk t (by lia)⟩,h1 rfl _ ⟨_,rfl⟩⟩,nofun⟩
 ·intro p G' n;rw[filter_all,cS] at n;refine dq (q p G' ?_);unfold parts;rw[fS];exact n
def Ir:bj:=di (iK ["turn"] [0,1] (kM (ξ (χ 1) (av))) (hName 0) (gi) (eP (ξ (aR iH (aR cF (χ 1) (eC (.int 0))) (χ 2)) (ξ (aR eL (aR cF (χ 1) (eC (.int 1))) (aR iH (aR cF (χ 1) (eC (.int 0))) (χ 0))) (av)))))
theorem PX:∀ds G Q,uT ds G Q->Ir (bw Q) (bA ["clock","k"] ds) G:=Iu
abbrev yr:=uT
def Iq:bj:=di (iK ["part"] [0,1] (kM (ξ (χ 1) (av))) (hName 0) (gi) (eP (ξ (aR iH (aR cF (χ 1) (eC (.int 0))) (χ 2)) (ξ (aR eL (aR cF (χ 1) (eC (.int 1))) (aR iH (aR cF (χ 1) (eC (.int 0))) (χ 0))) (av)))))
theorem O7:∀ds G Q,yr ds G Q->Iq (bw Q) (bA ["clock","k"] ds) G:=Iu
end My
namespace My
open PySem L2 L3
def rK(a b:bq):Bool:=a.1%b.1==0&&rg a.2 b
def yq:fO:=fun ds G Q=>∃a b:bq,ds=[cD a,cD b]/\0<b.1/\Q (.bl (rK a b)) G
def Ip:bj:=di (rQ (aR (fw false) (aR pN (aR cF (χ 0) (eC (.int 0))) (aR cF (χ 1) (eC (.int 0)))) (eC (.int 0))) (bO yw (ξ (χ 1) (ξ (aR cF (χ 0) (eC (.int 1))) (av)))))
theorem O6:∀ds G Q,yq ds G Q->Ip (bw Q) (bA ["one","other"] ds) G:=by
 rintro ds G Q ⟨⟨s1,r1⟩,⟨s2,r2⟩,rfl,hb,q⟩;refine⟨_,rfl,_,rfl,hb,_,_,rfl,rfl,aG _,fun h=>?_,fun h=>?_⟩
 ·have h':(s1%s2==0)=true:=h;have e:rK (s1,r1) (s2,r2)=rg r1 (s2,r2):=by
   show (s1%s2==0&&rg r1 (s2,r2))=_;rw[h',Bool.true_and]
  rw[e] at q;exact⟨_,rfl,(s2,r2),r1,rfl,hb,dq q⟩
 ·have h':(s1%s2==0)=false:=h;have e:rK (s1,r1) (s2,r2)=false:=by
   show (s1%s2==0&&rg r1 (s2,r2))=_;rw[h',mR]
  rw[e] at q;exact dq q
end My
namespace My
open PySem L2 L3
def jK(n:Nat):D->Bool
 |.int i=>decide (0≤i)&&decide (i<n)
 |_=>false
def yp:fO:=fun ds G Q=>∃(cs:List bq) (d:D),ds=[eQ cs,d]/\Known G d/\Q (.bl (jK cs.length d)) G
def Io:bj:=di (rQ (bO sX (ξ (χ 1) (av))) (qt xF ra (eC (.int 0)) (χ 1) (dJ lh (ξ (χ 0) (av)))))
theorem O5:∀ds G Q,yp ds G Q->Io (bw Q) (bA ["things","thing"] ds) G:=by
 rintro ds G Q ⟨cs,d,rfl,hk,q⟩;refine⟨hk,?_⟩;cases d with
 |int i=>
  refine⟨fun _=>⟨fun h=>?_,fun h=>?_⟩,nofun⟩
  ·have h':decide ((0:Int)≤i)=true:=h;have e:jK cs.length (.int i)=decide (i<(cs.length:Nat)):=by
    show (decide (0≤i)&&decide (i<(cs.length:Nat)))=_;rw[h',Bool.true_and]
   rw[e] at q;show (bw Q).rt (.bl (decide (i<((cs.map cD).length:Nat)))) G;rw[π];exact dq q
  ·have h':decide ((0:Int)≤i)=false:=h;have e:jK cs.length (.int i)=false:=by
    show (decide (0≤i)&&decide (i<(cs.length:Nat)))=_;rw[h',mR]
   rw[e] at q;exact dq q
 |_=>exact⟨nofun,fun _=>dq q⟩
end My
namespace My
open PySem L2 L3
def fx(cs:List bq)(i:Nat):List bq:=cs.take i++cs.drop (i+1)
def yo:fO:=fun ds G Q=>∃(cs:List bq),ds=[eQ cs]/\cs.length≤60/\∀cs' G',Sub G G'->(∀z,z∈cs'↔z∈cs)->gK cs'->cs'.length≤cs.length->Q (eQ cs') G'
def Hw:bj:=di (dJ td (ξ (tI (χ 0)) (av)))
theorem O4:∀ds G Q,yo ds G Q->Hw (bw Q) (bA ["things"] ds) G:=by
 rintro ds G Q ⟨cs,rfl,hl,q⟩;refine⟨cs.map iA,?_,?_,wz,fun p3 mss G3 n3 hmem nd hr hl3=>?_⟩
 ·rw[sU]
 ·rw[π];lia
 obtain⟨cs',rfl,hmem2,hr2,hl2⟩:=An hmem nd hr hl3;rw[sU] at n3;exact⟨_,n3.at_,dq (q cs' G3 n3.sub hmem2 hr2 hl2)⟩
end My
namespace My
open PySem L2 L3
def wy:oY:=fun ds Q E=>∃(a b:Int),ds=[.int a,.int b]/\(a≤b->Q .aO gP)/\(b<a->E "TooGreat" [("many",a),("most",b)])
def Hu(E:E3):bj:=jn (bX (aR uO (χ 0) (χ 1))) (xD "TooGreat" ["many","most"] E (ξ (χ 0) (ξ (χ 1) (av)))) (fc)
theorem O3:∀ds Q E,wy ds Q E->Hu E (bw Q) (bA ["many","most"] ds) gP:=by
 rintro ds Q E ⟨a,b,rfl,q1,q2⟩;refine⟨fun h=>?_,fun h=>⟨gP,Sub.refl _,q1 ?_⟩⟩
 ·have h':a > b:=of_decide_eq_true h;exact⟨[a,b],rfl,rfl,q2 h'⟩
 ·have h':¬a > b:=of_decide_eq_false h;lia
theorem O1(G:Gp):Sub gP G:=fun _ _ e=>nomatch e
end My
namespace L3
open PySem PySem.Spec PyProof.Rows L2
section
variable {X:Cx} {e:υ} {ta:aP} {pos p p' pos':aV}
def MA(P:Ω)(w:aw)(K:θ)(H:Hp)(Q:VK)(nss:List (List Int)):Prop:=
 ∀(b:ζ) (zs:List (List Int×ζ)),H b=none->(∀p∈zs,dh K H p.2 (p.1.map V.int))->(∀ns,ns∈zs.map (·.1)↔ns∈nss)->(zs.map (·.1)).Nodup->zs.length≤nss.length->Q (.ref b) (upd H b (.ext (lF P w b zs)))
end
end L3
namespace My
open PySem L2 L3
theorem O0(cs:List bq):(Dat.D.tup (cs.map cX)).e8 (.tup (cs.map cX))=true:=by
 show Dat.jN (cs.map cX) (cs.map cX)=true;rw[HU];simp
theorem Aj{a b:bq}(h:tO a b)(h2:tO b a):False:=by
 rcases h with h|⟨h,h'⟩<;>rcases h2 with g|⟨g,g'⟩<;>lia
theorem CV{as bs:List bq}(ha:gK as)(hb:gK bs)(h:∀z,z∈as↔z∈bs):as=bs:=by
 induction as generalizing bs with
 |nil=>cases bs with
  |nil=>rfl
  |cons b bs=>exact absurd ((h b).mpr aj) (by simp)
 |cons a as ih=>cases bs with
  |nil=>exact absurd ((h a).mp aj) (by simp)
  |cons b bs=>
   have ha':=cR.mp ha;have hb':=cR.mp hb;have e:a=b:=by
    refine bh fun ne=>?_;have h1:a∈bs:=((ak.mp ((h a).mp aj)).resolve_left ne);have h2:b∈as:=((ak.mp ((h b).mpr aj)).resolve_left (eV ne));exact Aj (ha'.1 b h2) (hb'.1 a h1)
   subst e;rw[ih ha'.2 hb'.2 fun z=>⟨fun hz=>((ak.mp ((h z).mp (ai _ hz))).resolve_left fun q=>Aj (q▸ha'.1 z hz) (q▸ha'.1 z hz)),fun hz=>((ak.mp ((h z).mpr (ai _ hz))).resolve_left fun q=>Aj (q▸hb'.1 z hz) (q▸hb'.1 z hz))⟩]
end My
namespace My
open PySem L2 L3
theorem CU{cs:List bq}(h:gK cs):cs.Nodup:=h.imp fun {a b} q e=>by
 subst e;exact Aj q q
def qE(cs:List bq):Prop:=jg 1000 cs/\cs.length≤12/\gK cs
end My
namespace L3
open PySem PySem.Spec PyProof.Rows L2
def hX:HO->Bool
 |.lst _=>true
 |.ext _=>true
 |_=>false
def cJ(h:au)(H:Hp):Hp:=fun a=>match H a with
 |some o=>if hX o then (h.get? a).map fun ob=>.cP ob o else if fb o then some o else none
 |none=>none
section
variable {P:Ω} {w:aw} {H H':Hp} {h h':au} {a b:ζ} {o:HO} {fs:List ζ} {ob:aW}
theorem OZ(v:fb o=true):hX o=false:=by
 cases o with
 |lst xs=>cases v
 |ext φ=>cases v
 |_=>rfl
theorem wx(e:H a=none):cJ h H a=none:=by unfold cJ;rw[e]
theorem oK(e:H a=some o)(v:fb o=true):cJ h H a=some o:=by
 unfold cJ;rw[e];show (if hX o=true then _ else if fb o=true then some o else none)=_;rw[if_neg (by rw[OZ v];exact Ψ),if_pos v]
theorem CT(e:H a=some o)(v:fb o=false)(n:hX o=false):cJ h H a=none:=by
 unfold cJ;rw[e];show (if hX o=true then _ else if fb o=true then some o else none)=_;rw[if_neg (by rw[n];exact Ψ),if_neg (by rw[v];exact Ψ)]
theorem yn(e:H a=some o)(n:hX o=true)(q:h.get? a=some ob):cJ h H a=some (.cP ob o):=by
 unfold cJ;rw[e];show (if hX o=true then (h.get? a).map _ else if fb o=true then some o else none)=_;rw[if_pos n,q];rfl
theorem Ht(e:cJ h H a=some o):(H a=some o/\fb o=true)∨∃u ob,H a=some u/\hX u=true/\h.get? a=some ob/\o=.cP ob u:=by
 cases q:H a with
 |none=>rw[wx q] at e;cases e
 |some u=>
  cases n:hX u with
  |true=>
   cases g:h.get? a with
   |none=>
    unfold cJ at e;rw[q] at e;have e':(if hX u=true then (h.get? a).map fun ob=>HO.cP ob u else if fb u=true then some u else none)=some o:=e;rw[if_pos n,g] at e';cases e'
   |some ob=>
    rw[yn q n g] at e;exact .inr ⟨u,ob,rfl,n,rfl,(aD e).symm⟩
  |false=>
   cases v:fb u with
   |true=>
    rw[oK q v] at e;cases e;exact .inl ⟨rfl,v⟩
   |false=>
    rw[CT q v n] at e;cases e
theorem Hs(e:cJ h H a=some o):fb o=true:=by
 rcases Ht e with⟨_,v⟩|⟨u,ob,_,n,_,rfl⟩
 ·exact v
 ·cases u with
  |lst xs=>rfl
  |ext φ=>rfl
  |_=>cases n
theorem OY(ok:dM P w H h):dM P w (cJ h H) h:=fun a o e=>by
 rcases Ht e with⟨e1,v⟩|⟨u,ob,e1,n,q,rfl⟩
 ·exact Ji v (ok a o e1)
 ·cases u with
  |lst xs=>
   obtain⟨z,its,n,r,p⟩:=ok a _ e1;exact⟨q,z,its,n,r,p⟩
  |ext φ=>exact⟨q,ok a _ e1⟩
  |_=>cases n
variable (ok:dM P w H h) (hfs:∀b∈fs,H b=none) (u:Un fs [] (cJ h H) H' h h') (ok':dM P w H' h')
include ok u
theorem Ff(e:H b=some o)(v:fb o=false)(n:hX o=false):H' b=none:=by
 obtain⟨ob,q⟩:=b8.there (ok b o e);exact u.free b ob q (CT e v n) (by simp)
theorem KS(e:H b=some o)(n:hX o=true):∃ob,h.get? b=some ob/\H' b=some (.cP ob o):=by
 obtain⟨ob,q⟩:=b8.there (ok b _ e);exact⟨ob,q,u.ip b ob _ (yn e n q)⟩
theorem rJ(e:H' b=some o)(n:∀ob u,hX u=true->o≠.cP ob u):joined H H' b=some o:=by
 cases q:H b with
 |none=>rw[p9 q];exact e
 |some x=>
  cases v:fb x with
  |true=>rw[rk q v];exact e
  |false=>
   cases l:hX x with
   |true=>
    obtain⟨ob,_,z⟩:=KS ok u q l;rw[z] at e;exact absurd (aD e).symm (n ob x l)
   |false=>
    rw[Ff ok u q v l] at e;cases e
include hfs ok'
theorem CS:Un fs [] H (joined H H') h h'/\dM P w (joined H H') h':=by
 have kept:∀b x ob,H b=some x->fb x=false->h.get? b=some ob->h'.get? b=some ob:=fun b x ob e v q=>by
  cases l:hX x with
  |true=>
   obtain⟨ob',q',z⟩:=KS ok u e l;rw[q] at q';cases q';exact (ok' b _ z).1
  |false=>exact u.keep b ob q (CT e v l) (fun z=>by rw[hfs b z] at e;cases e) (by simp)
 refine⟨⟨fun b ob q n h3 h4=>u.keep b ob q (wx n) h3 h4,fun b ob q n h3 h4=>u.slot b ob q (wx n) h3 h4,fun b ob q n h3=>by rw[p9 n];exact u.free b ob q (wx n) h3,
  fun b ob q h3=>u.there b ob q h3,fun b xs e=>rJ ok u (u.ij b xs (oK e rfl)) (fun _ u n z=>by cases z),fun b ob x e=>?_,fun b ps e=>⟨#[],by rw[uf];exact lG e rfl⟩⟩,fun b x e=>?_⟩
 ·cases v:fb (.cP ob x) with
  |true=>
   rw[rk e v];exact u.ip b ob x (oK e v)
  |false=>exact lG e v
 ·have mono:H' b=some x->b8 P w (joined H H') h' b x:=fun z=>(ok' b x z).lE (fun _ _ _ q=>q) (fun c q=>rJ ok u q fun _ u n z=>by cases z) (fun c xs q=>rJ ok u q fun _ u n z=>by cases z);cases q:H b with
  |none=>
   rw[p9 q] at e;exact mono e
  |some y=>
   cases v:fb y with
   |true=>
    rw[rk q v] at e;exact mono e
   |false=>
    rw[lG q v] at e;obtain rfl:=aD e;refine (ok b _ q).lE (fun c ob hc z=>?_) (fun c z=>lG z rfl) (fun c xs z=>rJ ok u (u.ij c xs (oK z rfl)) fun _ u n z=>by cases z);rcases hc with rfl|hc
    ·exact kept _ _ _ q v z
    ·exact kept _ _ _ hc rfl z
end
mutual
def kL:D->Bool
 |.tup ds=>oR ds
 |.fM _=>false
 |.dc _=>false
 |_=>true
def oR:List D->Bool
 |[]=>true
 |d::ds=>kL d&&oR ds
end
def GO.kL:GO->Prop
 |.lst ds=>oR ds=true
 |.gen _=>False
 |_=>True
def rV(G:Gp):Prop:=∀a o,G a=some o->GO.kL o
theorem rV.no:rV gP:=fun _ _ e=>nomatch e
def mj(G:Gp):D->D
 |.obj p=>match G p with
  |some (.lst xs)=>.fM xs
  |some .fZ=>.dc p
  |_=>.obj p
 |d=>d
section
variable {K:θ} {H H':Hp} {h:au}
theorem dh.cJ{a:ζ}{xs:List V}(q:dh K H a xs):dh K (cJ h H) a xs:=by
 rcases q with (q|⟨o,q⟩)|q
 ·exact .inl (.inl (oK q rfl))
 ·exact .inl (.inr ⟨o,oK q rfl⟩)
 ·exact .inr q
theorem lR.cJ{a:ζ}{xs:List V}(q:lR K H a xs):lR K (cJ h H) a xs:=by
 rcases q with⟨o,q⟩|q
 ·exact .inl ⟨o,oK q rfl⟩
 ·exact .inr q
mutual
theorem Hv.cJ:∀{d:D} {v:V},Hv K H d v->Hv K (cJ h H) d v
 |.aO,_,q=>by simpa [Hv] using q
 |.bl _,_,q=>by simpa [Hv] using q
 |.int _,_,q=>by simpa [Hv] using q
 |.str _,_,q=>by simpa [Hv] using q
 |.obj _,_,q=>by simpa [Hv] using q
 |.dc a,v,q=>by
  unfold Hv at q ⊢;obtain⟨e,ob,φ,q,c⟩:=q;exact⟨e,ob,φ,oK q rfl,c⟩
 |.tup ds,v,q=>by
  unfold Hv at q ⊢;obtain⟨a,vs,e,q,r⟩:=q;exact⟨a,vs,e,dh.cJ q,aJ.cJ r⟩
 |.fM ds,v,q=>by
  unfold Hv at q ⊢;obtain⟨a,vs,e,q,r⟩:=q;exact⟨a,vs,e,lR.cJ q,aJ.cJ r⟩
theorem aJ.cJ:∀{ds:List D} {vs:List V},aJ K H ds vs->aJ K (cJ h H) ds vs
 |[],_,q=>by simpa [aJ] using q
 |d::ds,vs,q=>by
  unfold aJ at q ⊢;obtain⟨v,r,e,q,z⟩:=q;exact⟨v,r,e,Hv.cJ q,aJ.cJ z⟩
end
mutual
theorem Hv.bare(t:∀a xs,H a=some (.tup xs)->H' a=some (.tup xs))(f:∀a o xs,H a=some (.cP o (.tup xs))->H' a=some (.cP o (.tup xs))):∀{d:D} {v:V},kL d=true->Hv K H d v->Hv K H' d v
 |.aO,_,_,q=>by simpa [Hv] using q
 |.bl _,_,_,q=>by simpa [Hv] using q
 |.int _,_,_,q=>by simpa [Hv] using q
 |.str _,_,_,q=>by simpa [Hv] using q
 |.obj _,_,_,q=>by simpa [Hv] using q
 |.tup ds,v,n,q=>by
  unfold Hv at q ⊢;unfold kL at n;obtain⟨a,vs,e,q,r⟩:=q;refine⟨a,vs,e,?_,aJ.bare t f n r⟩;rcases q with (q|⟨o,q⟩)|q
  ·exact .inl (.inl (t _ _ q))
  ·exact .inl (.inr ⟨o,f _ _ _ q⟩)
  ·exact .inr q
 |.fM ds,v,n,q=>by
  unfold kL at n;cases n
 |.dc a,v,n,q=>by
  unfold kL at n;cases n
theorem aJ.bare(t:∀a xs,H a=some (.tup xs)->H' a=some (.tup xs))(f:∀a o xs,H a=some (.cP o (.tup xs))->H' a=some (.cP o (.tup xs))):∀{ds:List D} {vs:List V},oR ds=true->aJ K H ds vs->aJ K H' ds vs
 |[],_,_,q=>by simpa [aJ] using q
 |d::ds,vs,n,q=>by
  unfold aJ at q ⊢;unfold oR at n;rw[cA] at n;obtain⟨v,r,e,q,z⟩:=q;exact⟨v,r,e,Hv.bare t f n.1 q,aJ.bare t f n.2 z⟩
end
theorem Hr{G:Gp}{p:ζ}{xs:List D}(e:G p=some (.lst xs)):mj G (.obj p)=.fM xs:=by
 show (match G p with|some (.lst xs)=>D.fM xs|some .fZ=>D.dc p|_=>D.obj p)=_
 rw[e]
theorem OX{G:Gp}{p:ζ}(e:G p=some .fZ):mj G (.obj p)=.dc p:=by
 show (match G p with|some (.lst xs)=>D.fM xs|some .fZ=>D.dc p|_=>D.obj p)=_
 rw[e]
theorem OW{G:Gp}{p:ζ}(e:∀xs,G p≠some (.lst xs))(e2:G p≠some .fZ):mj G (.obj p)=.obj p:=by
 show (match G p with|some (.lst xs)=>D.fM xs|some .fZ=>D.dc p|_=>D.obj p)=_
 cases q:G p with
 |none=>rfl
 |some g=>cases g with
  |lst xs=>exact absurd q (e xs)
  |fZ=>exact absurd q e2
  |_=>rfl
theorem OV{P:Ω}{w:aw}{G:Gp}(ok:dM P w H h)(R:aS K G H){d:D}{v:V}(q:Hv K H d v):Hv K (cJ h H) (mj G d) v:=by
 cases d with
 |obj p=>
  by_cases e:∃xs,G p=some (.lst xs)
  ·obtain⟨xs,e⟩:=e;rw[Hr e];obtain⟨vs,e1,e2⟩:=R p _ e;obtain⟨ob,e3⟩:=b8.there (ok p _ e1);rw[jJ q];unfold Hv;exact⟨p,vs,rfl,.inl ⟨ob,yn e1 rfl e3⟩,e2.cJ⟩
  by_cases e':G p=some .fZ
  ·rw[OX e'];have e1:H p=some (.ext fun h=>∃o,h.get? p=some o/\o.cls=.type "dict"):=R p _ e';obtain⟨⟨ob,h1,h2⟩,_⟩:=(show b8 P w H h p _ from ok p _ e1);unfold Hv;exact⟨jJ q,ob,_,yn e1 rfl h1,h2⟩
  ·rw[OW (fun xs z=>e ⟨xs,z⟩) e'];exact q.cJ
 |_=>exact q.cJ
theorem OU{P:Ω}{w:aw}{G:Gp}(ok:dM P w H h)(R:aS K G H):∀{ds:List D} {vs:List V},aJ K H ds vs->aJ K (cJ h H) (ds.map (mj G)) vs:=by
 intro ds
 induction ds with
 |nil=>intro vs q;cases q.il;exact .nil
 |cons d ds ih=>
  intro vs q;obtain⟨v,r,rfl,z1,z2⟩:=q.inv;exact .cons (OV ok R z1) (ih z2)
end
section
variable {X:Cx} {k:Nat} {f:ζ} {fd:aB} {ps:List ν} {sp:oY} {E:E3} {x:ν} {p pos:aV} {e:υ} {es:List υ} {t:cM}
theorem Hq{K:θ}{P:Ω}{w:aw}{fs:List ζ}{H H':Hp}{h h':au}{G1 G':Gp}{d:D}{v:V}(ok:dM P w H h)(hfs:∀b∈fs,H b=none)(u:Un fs [] (cJ h H) H' h h')(ok':dM P w H' h')
  (R1:aS K G1 H) (hd:kL d=true) (hG:rV G') (hv:Hv K H' d v) (S:Step (cJ h H) gP H' G') (R':aS K G' H'):
  Hv K (joined H H') d v/\Step H G1 (joined H H') (both G1 G')/\aS K (both G1 G') (joined H H')/\Joins G1 G' (both G1 G'):=by
 have t2:∀a xs,H' a=some (.tup xs)->joined H H' a=some (.tup xs):=fun a xs e=>rJ ok u e fun _ u n z=>by cases z
 have f2:∀a o xs,H' a=some (.cP o (.tup xs))->joined H H' a=some (.cP o (.tup xs)):=fun a o xs e=>rJ ok u e fun _ u n z=>by cases z;cases n
 have E1:Ext H (joined H H'):=by
  obtain⟨u2,_⟩:=CS ok hfs u ok';exact⟨u2.ij,u2.ip⟩
 have outG:∀a,G' a≠none->H a=none:=fun a n=>by
  have z:cJ h H a=none:=S.new a rfl n;cases q:H a with
  |none=>rfl
  |some o=>
   cases v:fb o with
   |true=>rw[oK q v] at z;cases z
   |false=>
    cases l:hX o with
    |true=>
     obtain⟨ob,e3⟩:=b8.there (ok a _ q);rw[yn q l e3] at z;cases z
    |false=>
     have:=Ff ok u q v l;cases q':G' a with
     |none=>exact absurd q' n
     |some g=>
      obtain⟨o',z',_⟩:=(R' a g q').mut;rw[this] at z';cases z'
 have out1:∀a,G' a≠none->G1 a=none:=fun a n=>R1.free (outG a n);refine⟨hv.bare t2 f2 hd,⟨fun a o e n=>?_,fun a n=>?_,fun a n q=>?_⟩,fun a g e=>?_,⟨fun a o e=>by simp[both,e],fun a o e=>by simp[both,out1 a (by rw[e];simp),e],out1⟩⟩
 ·cases v:fb o with
  |true=>
   rw[rk e v];exact S.fr a o (oK e v) rfl
  |false=>exact lG e v
 ·cases q:H a with
  |none=>exact absurd q n
  |some o=>
   cases v:fb o with
   |true=>
    rw[rk q v];exact S.nS a (by rw[oK q v];simp)
   |false=>rw[lG q v];simp
 ·simp only[both,n] at q;exact outG a q
 ·cases q:G1 a with
  |some o=>
   simp only[both,q] at e;cases e;obtain⟨o',z,h1,h2⟩:=(R1 a g q).mut;have hv:fb o'=false:=by
    cases o' with
    |tup xs=>exact absurd rfl (h1 xs)
    |cP ob y=>exact absurd rfl (h2 ob y)
    |_=>rfl
   exact (R1 a g q).ext E1 (by rw[lG z hv,z])
  |none=>
   simp only[both,q] at e;have hn:=outG a (by rw[e];simp);have ha:joined H H' a=H' a:=p9 hn;have hg:=hG a g e;cases g with
   |lst ds=>
    obtain⟨vs,e1,e2⟩:=R' a _ e;exact⟨vs,ha.trans e1,e2.bare t2 f2 hg⟩
   |lK=>
    obtain⟨i,j,l,e1,e2⟩:=R' a _ e;exact⟨i,j,l,ha.trans e1,e2⟩
   |fZ=>exact ha.trans (R' a _ e)
   |gen R=>exact hg.elim
theorem LD{P:Ω}{w:aw}{H H':Hp}{fs:List ζ}{h h':au}(u:Un fs [] (cJ h H) H' h h'):Step (cJ h H) gP H' gP:=by
 have fr:∀a o,cJ h H a=some o->H' a=some o:=fun a o e=>by
  have v:=Hs e;cases o with
  |tup xs=>exact u.ij a xs e
  |cP ob y=>exact u.ip a ob y e
  |_=>cases v
 refine⟨fun a o e _=>fr a o e,fun a n=>?_,fun a _ q=>absurd rfl q⟩;cases q:cJ h H a with
 |none=>exact absurd q n
 |some o=>rw[fr a o q];simp
theorem fL.cJ{P:Ω}{w:aw}{K:θ}{base:au}{outer:List cW}{H:Hp}{s s':η}{G1:Gp}{ev:δ}(ok:dM P w H s.heap)(hfs:∀b∈fK outer,H b=none)(R1:aS K G1 H)(h:fL P w base outer (cJ s.heap H) s (g8 K E) ev s'):
  fL P w base outer H s (vE K E H G1) ev s':=by
 obtain⟨e,T,C,dx,H',rfl,os,bare,u,ok',tr,⟨hHe,hHT⟩,hen,⟨he0,hT0⟩,x,C',fs,ec,cn,q,dd⟩:=h;obtain⟨u2,ok2⟩:=CS ok hfs u ok';obtain⟨_,z2,z3,_⟩:=Hq (G':=gP) (d:=.aO) (v:=.aO) ok hfs u ok' R1 rfl rV.no (by simp[Hv]) (LD (P:=P) (w:=w) u) (fun _ _ e=>nomatch e);rw[Jf] at z2 z3;have out:∀b,s.heap.get? b=none->H' b=none->joined H H' b=none:=fun b hb hn=>by
  cases hq:H b with
  |none=>rw[p9 hq];exact hn
  |some o=>
   obtain⟨ob,e'⟩:=b8.there (ok b o hq);rw[hb] at e';cases e'
 refine⟨e,T,C,dx,joined H H',rfl,os,bare,u2,ok2,tr,⟨out _ he0 hHe,out _ hT0 hHT⟩,hen,⟨he0,hT0⟩,⟨x,C',fs,ec,cn,q,?_⟩,z3,z2⟩;rcases dd with⟨d1,d2⟩|⟨d,o,d1,d2⟩
 ·exact .inl ⟨d1,d2⟩
 ·exact .inr ⟨d,o,d1,rJ ok u d2 fun _ u n z=>by cases z;cases n⟩
def uh(G1:Gp)(Q3:V3):V3:=fun d G'=>kL d=true/\rV G'/\∀G2,Joins G1 G' G2->Q3 d G2
theorem Ho{pins:List (ζ×aW)}{σ:L2.St}{H:Hp}{s:η}{Q:VK}{G1:Gp}{Q3:V3}{ds:List D}{us:List δ}{vs:List V}{XE:δ->η->Prop}(F:qD X.prog X.w X.K X.mg X.base k f fd ps sp)(hr:dz k X.A)(hb:Binds X.K fd ps [])
  (hx:∀ev s',fL X.prog X.w X.base X.stack H s (vE X.K E H G1) ev s'->XE ev s')
  (I:Inv X pins σ H s) (r:bt vs us) (hd:aJ X.K H ds vs) (R1:aS X.K G1 H) (h:sp (ds.map (mj G1)) (uh G1 Q3) E) (kk:∀v H' d G',Hv X.K H' d v->Step H G1 H' G'->aS X.K G' H'->Q3 d G'->Q v H'):
  ρ (model X.prog X.w) X.A (call (.ref f) us) (EP X pins σ Q) XE s:=by
 have hq:Eb X.K sp vs (cJ s.heap H) (fun v H'=>∃d G',Hv X.K H' d v/\Step (cJ s.heap H) gP H' G'/\aS X.K G' H'/\uh G1 Q3 d G') (g8 X.K E):=
  ⟨ds.map (mj G1),_,E,OU I.bI R1 hd,fun a o e=>Hs e,h,fun v H' d G' a b c q=>⟨d,G',a,b,c,q⟩,fun _ _ _ z=>z⟩
 have hl:(us++[]).length=ps.length:=by rw[bF,←r.length];exact F.len _ _ _ _ hq
 have e0:tS X.prog X.w X.K X.mg X.base X.A X.stack s (cJ s.heap H):=⟨I.ok.frames,I.ok.mod,fun b o e=>⟨(I.bs b o e).1,wx (I.bs b o e).2⟩,bB I.ok.sj I.sz,I.stack,fun b hb=>wx (I.gS b hb),OY I.bI,I.bare⟩;have hb':=hb s us I.gI hl;rw[bF] at hb';refine gv (dP (F.run X.A X.stack s (cJ s.heap H) ⟨us,[]⟩ us vs _ (g8 X.K E) hr e0 hb' r hq) fun r s' hq'=>?_);cases r with
 |error e=>exact hx e s' (fL.cJ I.bI I.gS R1 hq')
 |ok fl=>
  cases fl with
  |ret u=>
   obtain⟨v,H',os,bare,un,bI,rv,d,G',a,b,c,q1,q2,q⟩:=hq';obtain⟨un2,ok2⟩:=CS I.bI I.gS un bI;obtain⟨z1,z2,z3,z4⟩:=Hq I.bI I.gS un bI R1 q1 q2 a b c;exact I.after ⟨v,joined H H',os,bare,un2,ok2,rv,kk v _ d _ z1 z2 z3 (q _ z4)⟩
  |next=>exact bU hq'
  |brk=>exact bU hq'
  |cont=>exact bU hq'
def yO(sp:oY)(E:E3)(t:cM):aP:=fun τ G Q=>t τ G fun ds G1=>sp (ds.map (mj G1)) (uh G1 Q) E
theorem OT(F:qD X.prog X.w X.K X.mg X.base k f fd ps sp)(hr:dz k X.A)(hx:jS (fL X.prog X.w X.base) X (g8 X.K E))(hm:X.mg x=some (.ref f))(hk:bN X.K (.ref f)=true)(hb:Binds X.K fd ps [])(ha:jt X (e::es) t)(hg:Gl X x:=by rfl)
  (hdb:(x==("__debug__":ν))=false:=by decide) (he:notStar e=true:=by rfl) (hpl:es.all notStar=true:=by rfl):
  bW X (.Call (.Name x p) (e::es) [] pos) (yO sp E t):=by
 intro pins s σ H Q I ⟨τ,G,Q3,RS,RG,h,kk⟩;refine dO (rh I hg hm ?_ hdb);refine fQ (h₀:=X.base) I.ok.mod.tz hk (bS (ha pos pins s σ H (fun vs H1=>∃ds G1,aJ X.K H1 ds vs/\Step H G H1 G1/\aS X.K G1 H1/\sp (ds.map (mj G1)) (uh G1 Q3) E) I
  ⟨τ,G,_,RS,RG,h,fun vs H1 ds G1 a b c q=>⟨ds,G1,a,b,c,q⟩⟩) fun us s1 ⟨vs,H1,I1,r,ds,G1,hd,S1,R1,q⟩=>⟨I1.gI,?_⟩) (dW he) (jo hpl)
 exact Ho F hr hb (fun ev s' h=>hx pins σ H1 s1 ev s' I1 (fL.mono h fun _ _ _ z=>z.1)) I1 r hd R1 q fun v H' d G' a b c q=>kk v H' d G' a (S1.trans b) c q
def wQ(sp:oY)(t:cM):yR:=fun KX τ G Q=>t τ G fun ds G1=>sp (ds.map (mj G1)) (uh G1 Q) (KX τ G1)
theorem OS(F:qD X.prog X.w X.K X.mg X.base k f fd ps sp)(hr:dz k X.A)(hm:X.mg x=some (.ref f))(hk:bN X.K (.ref f)=true)(hb:Binds X.K fd ps [])(ha:jt X.lj (e::es) t)(hg:Gl X x:=by rfl)
  (hdb:(x==("__debug__":ν))=false:=by decide) (he:notStar e=true:=by rfl) (hpl:es.all notStar=true:=by rfl):
  zE X (.Call (.Name x p) (e::es) [] pos) (wQ sp t):=by
 intro pins s σ H Q XE τ G Q3 KX I RS RG h kk xx;refine dO (rh I hg hm ?_ hdb);refine fQ (h₀:=X.base) I.ok.mod.tz hk (b9 (ha pos pins s σ H (fun vs H1=>∃ds G1,aJ X.K H1 ds vs/\Step H G H1 G1/\aS X.K G1 H1/\sp (ds.map (mj G1)) (uh G1 Q3) (KX τ G1)) (I.nk _)
  ⟨τ,G,_,RS,RG,h,fun vs H1 ds G1 a b c q=>⟨ds,G1,a,b,c,q⟩⟩) (fun us s1 ⟨vs,H1,I1,r,ds,G1,hd,S1,R1,q⟩=>⟨I1.gI,?_⟩) fun _ _ z=>bU z) (dW he) (jo hpl)
 exact Ho F hr hb (fun ev s' h=>xx σ τ H1 s1 G1 ev s' I1.jG (RS.ext (S1.ext RG)) R1 S1 h) I1.jG r hd R1 q fun v H' d G' a b c q=>kk v H' d G' a (S1.trans b) c q
end
end L3
namespace L3
open PySem PySem.Spec PyProof.Rows L2
section
variable {X:Cx} {k:Nat} {f:ζ} {fd:aB} {ps:List ν} {sp:oY} {E':E3} {x:ν} {p pos:aV} {e:υ} {es:List υ} {t:cM}
theorem OR(F:qD X.prog X.w X.K X.mg X.base k f fd ps sp)(hr:dz k X.A)(hx:jS (fL X.prog X.w X.base) X (g8 X.K E'))(hm:X.mg x=some (.ref f))(hk:bN X.K (.ref f)=true)(hb:Binds X.K fd ps [])(ha:QA X (e::es) t)(hg:Gl X x:=by rfl)
  (hdb:(x==("__debug__":ν))=false:=by decide) (he:notStar e=true:=by rfl) (hpl:es.all notStar=true:=by rfl):QE X (.Call (.Name x p) (e::es) [] pos) (yO sp E' t):=⟨OT F hr hx hm hk hb ha.of hg hdb he hpl⟩
theorem OQ(F:qD X.prog X.w X.K X.mg X.base k f fd ps sp)(hr:dz k X.A)(hm:X.mg x=some (.ref f))(hk:bN X.K (.ref f)=true)(hb:Binds X.K fd ps [])(ha:QA X.lj (e::es) t)(hg:Gl X x:=by rfl)
  (hdb:(x==("__debug__":ν))=false:=by decide) (he:notStar e=true:=by rfl) (hpl:es.all notStar=true:=by rfl):Co X (.Call (.Name x p) (e::es) [] pos) (wQ sp t):=⟨OS F hr hm hk hb ha.of hg hdb he hpl⟩
end
end L3
namespace My
open PySem L2 L3
def xQ:oY:=fun ds Q E=>∃(cs:List bq) (d:D),ds=[eQ cs,d]/\Known gP d/\(jK cs.length d=true->Q .aO gP)/\(jK cs.length d=false->E "NoPlace" [])
def Hn(E:E3):bj:=jn (mE (bX (bO yp (ξ (χ 0) (ξ (χ 1) (av)))))) (wb "NoPlace" E) (fc)
theorem OP:∀ds Q E,xQ ds Q E->Hn E (bw Q) (bA ["things","thing"] ds) gP:=by
 rintro ds Q E ⟨cs,d,rfl,hk,q1,q2⟩;refine⟨cs,d,rfl,hk,fun h=>?_,fun h=>⟨gP,Sub.refl _,q1 ?_⟩⟩
 ·have h':(!jK cs.length d)=true:=h;exact q2 (by simpa using h')
 ·have h':(!jK cs.length d)=false:=h;simpa using h'
def Kind(z:ν)(w:ν):Prop:=(z="TooGreat"/\w="great")∨(z="NoPlace"/\w="place")
def wu(rs:List ν):fO:=fun ds G Q=>∃(p:ζ) (z w:ν) (fs:List (ν×Int)),ds=[.obj p]/\G p=some (.gen (jM z fs))/\z∈rs/\Kind z w/\∀G',Sub G G'->Q (.str w) G'
def OO(rs:List ν):bj:=di (tJ (ξ (eC (.str "clock")) (ξ (eC (.str "number")) (ξ (eC (.str "place")) (ξ (eC (.str "row")) (ξ (eC (.str "clocks")) (ξ (eC (.str "text")) (ξ (eC (.str "great")) (av)))))))) (eM DQ (χ 1) (ξ (eC (.bl true)) (av))))
def ON(rs:List ν):bj:=cm (jn (qr (mE (bX (Es rs (χ 0)))) (bX (aR (fw true) (eM DR (χ 1) (ξ (eC (.bl true)) (av))) (eC (.int 1))))) (di (eC (.str "other"))) (fc)) (OO rs)
def OM(rs:List ν):bj:=cm (dj (aR eL (χ 1) (mF (ξ (qg rs "NoClocks" (χ 0)) (ξ (qg rs "NoText" (χ 0)) (ξ (qg rs "TooGreat" (χ 0)) (av)))))) (hName 1)) (ON rs)
def Hm(rs:List ν):bj:=cm (dj (mF (ξ (qg rs "NoClock" (χ 0)) (ξ (qg rs "NoNumber" (χ 0)) (ξ (qg rs "NoPlace" (χ 0)) (ξ (qg rs "NoRow" (χ 0)) (av)))))) (hName 1)) (OM rs)
theorem OL(rs:List ν):∀ds G Q,wu rs ds G Q->Hm rs (bw Q) (bA ["e","marks"] ds) G:=by
 rintro ds G Q ⟨p,z,w,fs,rfl,hp,hr,hk,q⟩;refine⟨_,_,hp,hr,_,_,hp,hr,_,_,hp,hr,_,_,hp,hr,fun p1 G1 n1=>?_⟩;have hp1:=n1.sub _ _ hp;refine⟨_,_,hp1,hr,_,_,hp1,hr,_,_,hp1,hr,fun p2 G2 n2=>?_⟩;have hp2:=n2.sub _ _ hp1;refine⟨_,_,n2.sub _ _ n1.at_,n2.at_,dG rfl,fun p3 G3 n3=>?_⟩;have hp3:=n3.sub _ _ hp2;have s3:=(n1.sub.trans n2.sub).trans n3.sub;rcases hk with⟨rfl,rfl⟩|⟨rfl,rfl⟩
 ·have e3:G3 p3=some (.lst [.bl false,.bl false,.bl false,.bl false,.bl false,.bl false,.bl true]):=n3.at_;refine⟨_,_,hp3,hr,fun h=>(nomatch h),fun _=>?_⟩;refine⟨⟨p3,_,rfl,e3⟩,_,[false,false,false,false,false,false,true],e3,rfl,_,_,rfl,rfl,aG _,fun h=>absurd h (by decide),fun _=>?_⟩;refine⟨⟨p3,_,rfl,e3⟩,_,[false,false,false,false,false,false,true],6,e3,rfl,rfl,fun i hi=>?_,by decide,.str "great",rfl,dq (q G3 s3)⟩;have:i=0∨i=1∨i=2∨i=3∨i=4∨i=5:=by lia
  rcases this with rfl|rfl|rfl|rfl|rfl|rfl<;>rfl
 ·have e3:G3 p3=some (.lst [.bl false,.bl false,.bl true,.bl false,.bl false,.bl false,.bl false]):=n3.at_;refine⟨_,_,hp3,hr,fun h=>(nomatch h),fun _=>?_⟩;refine⟨⟨p3,_,rfl,e3⟩,_,[false,false,true,false,false,false,false],e3,rfl,_,_,rfl,rfl,aG _,fun h=>absurd h (by decide),fun _=>?_⟩;refine⟨⟨p3,_,rfl,e3⟩,_,[false,false,true,false,false,false,false],2,e3,rfl,rfl,fun i hi=>?_,by decide,.str "place",rfl,dq (q G3 s3)⟩;have:i=0∨i=1:=by lia
  rcases this with rfl|rfl<;>rfl
def yV(n:Nat)(G:Gp)(d:D):Prop:=Known gP (mj G d)/\jK n (mj G d)=false
theorem CQ{n:Nat}{G:Gp}{i:Int}(h:i<0∨(n:Int)≤i):yV n G (.int i):=⟨trivial,by
 show (decide (0≤i)&&decide (i<(n:Int)))=false;rw[Bool.and_eq_false_iff,decide_eq_false_iff_not,decide_eq_false_iff_not];lia⟩
end My
namespace My
open PySem L2 L3
def xP:fO:=Iz
def OK:bj:=di (rQ (uk false (aR cF (χ 0) (eC (.int 0))) (ξ (eC (.int 1)) (ξ (eC (.int 1001)) (av)))) (um false (aR cF (χ 0) (eC (.int 1))) (ξ (aR cF (χ 0) (eC (.int 0))) (av))))
def CP:bj:=cm (jn (qr (mE (bX (rP "tuple" (χ 0)))) (qr (bX (aR (fw true) (dJ lh (ξ (χ 0) (av))) (eC (.int 2)))) (qr (mE (bX (bO sW (ξ (aR cF (χ 0) (eC (.int 0))) (av))))) (mE (bX (bO sW (ξ (aR cF (χ 0) (eC (.int 1))) (av)))))))) (di (eC (.bl false))) (fc)) OK
theorem Hl(s r:Int):tN s r=(yJ false 1 1001 s&&yJ false 0 s r):=by
 show ((decide (1≤s)&&decide (s≤1000))&&(decide (0≤r)&&decide (r<s)))=((decide (1≤s)&&decide (s<1001))&&(decide (0≤r)&&decide (r<s)));rw[show decide (s≤1000)=decide (s<1001) from decide_eq_decide.mpr (by omega)]
theorem OJ:∀ds G Q,xP ds G Q->CP (bw Q) (bA ["thing"] ds) G:=by
 rintro ds G Q ⟨d,rfl,hk,q⟩;have not_tup:(∀ds,d≠.tup ds)->CP (bw Q) (bA ["thing"] [d]) G:=by
  intro hn;have e:jP d=false:=by
   cases d with
   |tup ds=>exact absurd rfl (hn ds)
   |_=>rfl
  rw[e] at q;show match jZ "tuple" G d with
   |some b=>_
   |none=>False
  rw[CZ hk.yD hn];exact⟨fun _=>⟨fun _=>dq q,nofun⟩,nofun⟩
 cases d with
 |tup ds=>
  refine⟨nofun,fun _=>⟨_,_,rfl,rfl,aG _,?_⟩⟩;rcases ds with _|⟨a,_|⟨b,_|⟨c,ds⟩⟩⟩
  ·exact⟨fun _=>⟨fun _=>dq q,nofun⟩,nofun⟩
  ·rw[Ak (by simp)] at q;exact⟨fun _=>⟨fun _=>dq q,nofun⟩,nofun⟩
  ·refine⟨nofun,fun _=>⟨a,rfl,(hk.el (by simp)).known,?_⟩⟩;have hb:Known G b:=(hk.el (by simp)).known;cases a with
   |int s=>
    refine⟨nofun,fun _=>⟨b,rfl,hb,?_⟩⟩;cases b with
    |int r=>
     have fin:∀v,tN s r=v->(bw Q).rt (.bl v) G:=fun v e=>by
      rw[←e];exact dq q
     refine⟨nofun,fun _=>⟨_,rfl,⟨fun h1=>⟨_,rfl,_,rfl,fin _ ?_⟩,fun h1=>fin _ ?_⟩⟩⟩
     ·rw[Hl,h1];rfl
     ·rw[Hl,h1];rfl
    |_=>exact⟨fun _=>dq q,nofun⟩
   |_=>exact⟨fun _=>⟨fun _=>dq q,nofun⟩,nofun⟩
  ·refine⟨fun _=>?_,fun h=>?_⟩
   ·rw[Ak (by simp)] at q;exact⟨fun _=>dq q,nofun⟩
   have h':(!(((ds.length+1+1+1:Nat):Int)==2))=false:=h;simp at h';omega
 |_=>exact not_tup nofun
def yQ(cs:List bq)(k:Nat):Bool:=match cs[k]?,cs[k+1]? with
 |some a,some b=>Ce (a,b)
 |_,_=>false
theorem Hk:∀cs:List bq,vk cs=(bM (cs.length-1)).all (yQ cs)
 |[]=>rfl
 |[c]=>rfl
 |a::b::cs=>by
  have ih:=Hk (b::cs);show (Ce (a,b)&&vk (b::cs))=_;rw[ih];show _=(bM (cs.length+1)).all (yQ (a::b::cs));rw[kJ,nN,ub];rfl
theorem MC(n:Nat):g7 1 n=(bM n).map fun k=>nD (k+1):=by
 unfold g7;refine ji fun k _=>?_;show D.int (1+(k:Int))=D.int ((k+1:Nat):Int);rw[show (1:Int)+(k:Int)=((k+1:Nat):Int) by omega]
def xO:fO:=PZ
def OI:bj:=di (dJ x9 (ξ (iK ["k"] [0] (vI (ξ (eC (.int 1)) (ξ (dJ lh (ξ (χ 0) (av))) (av)))) (hName 0) (gi) (aR ra (aR cF (χ 1) (aR uj (χ 0) (eC (.int 1)))) (aR cF (χ 1) (χ 0)))) (av)))
def CO:bj:=cm (jn (qr (mE (bX (rP "tuple" (χ 0)))) (qr (bX (aR uO (dJ lh (ξ (χ 0) (av))) (eC (.int 12)))) (mE (bX (dJ x9 (ξ (iK ["clock"] [] (vd (χ 0)) (hName 0) (gi) (bO xP (ξ (χ 0) (av)))) (av))))))) (di (eC (.bl false))) (fc)) OI
theorem OH:∀ds G Q,xO ds G Q->CO (bw Q) (bA ["thing"] ds) G:=by
 rintro ds G Q ⟨d,rfl,hk,q⟩;have not_tup:(∀ds,d≠.tup ds)->CO (bw Q) (bA ["thing"] [d]) G:=by
  intro hn;have e:vO d=false:=by
   cases d with
   |tup ds=>exact absurd rfl (hn ds)
   |_=>rfl
  rw[e] at q;show match jZ "tuple" G d with
   |some b=>_
   |none=>False
  rw[CZ hk.yD hn];exact⟨fun _=>⟨fun _=>dq q,nofun⟩,nofun⟩
 cases d with
 |tup ds=>
  refine⟨nofun,fun _=>⟨fun h=>?_,fun h=>?_⟩⟩
  ·have h':(12:Int)<((ds.length:Nat):Int):=of_decide_eq_true h;have e:vO (.tup ds)=false:=by
    show (decide (ds.length≤12)&&_)=false;rw[decide_eq_false (by omega)];rfl
   rw[e] at q;exact⟨fun _=>dq q,nofun⟩
  ·have h':¬((12:Int)<((ds.length:Nat):Int)):=of_decide_eq_false h;have e:vO (.tup ds)=(ds.all jP&&vk (ds.map xn)):=by
    show (decide (ds.length≤12)&&_)=_;rw[decide_eq_true (by omega)];rfl
   rw[e] at q;refine⟨fF (by show ds.length≤1000;omega),PY (js:=[]) (τ:=[]) (f:=jP) (by show ds.length≤1000;omega) (fun x hx y K k=>⟨x,rfl,hk.el hx,k⟩) fun p G1 n1=>⟨_,_,n1.at_,CY jP ds,?_⟩⟩;rw[all_map];refine⟨fun hw=>?_,fun hw=>?_⟩
   ·have hw':ds.all jP=false:=by simpa using hw
    rw[hw'] at q;exact AJ n1.sub q
   ·have hw':ds.all jP=true:=by simpa using hw
    rw[hw'] at q;obtain⟨cs,rfl⟩:=Iw hw';rw[Iv,Hk] at q;have hcl:(cs.map cD).length=cs.length:=π ..;rw[hcl] at h';refine⟨⟨by decide,by decide,?_,?_⟩,?_,?_⟩
    ·show -(2^62)≤(((cs.map cD).length:Nat):Int);omega
    ·show (((cs.map cD).length:Nat):Int)<2^62;rw[hcl];omega
    ·show (g7 1 ((((cs.map cD).length:Nat):Int)-1).toNat).length≤aC;rw[rz,hcl];exact fF (by omega)
    ·show iq _ _ _ _ _ (g7 1 ((((cs.map cD).length:Nat):Int)-1).toNat) _ _ _;rw[hcl,show ((((cs.length:Nat):Int)-1).toNat)=cs.length-1 by omega,MC];refine sV (fun τ=>∃x,τ=[x,some (eQ cs)]) (fun k=>nD (k+1)) (fun _=>true) (fun k=>.bl (yQ cs k)) (G:=G1) trivial (bM (cs.length-1)) [] _ ⟨none,rfl⟩ ?_ ?_
     ·rintro k hm τ K1 K2 ⟨x,rfl⟩ h1 h2;have hk1:k<cs.length-1:=by simpa using hm
      have ea:cs[k]?=some (cs[k]'(by omega)):=az (by omega);have eb:cs[k+1]?=some (cs[k+1]'(by omega)):=az (by omega);refine⟨fun _=>⟨cD (cs[k]'(by omega)),?_,cD (cs[k+1]'(by omega)),IB eb,iA _,iA _,rfl,rfl,?_⟩,nofun⟩
      ·show lp (cs.map cD) (((k+1:Nat):Int)-1)=_;rw[show (((k+1:Nat):Int)-1)=(k:Int) by omega];exact IB ea
      ·have:=h1 rfl [some (nD (k+1)),some (eQ cs)] ⟨_,rfl⟩;unfold yQ at this;rw[ea,eb] at this;exact this
     ·intro p2 G2 n2;rw[filter_all,cS] at n2;refine⟨_,_,n2.at_,CY (yQ cs) _,?_⟩;rw[all_map];exact AJ (n1.sub.trans n2.sub) q
 |_=>exact not_tup nofun
end My
namespace gs
open PySem PySem.W PyProof.Rows
abbrev SM:=StateT aI kn
def gF:Bool->ι->Array ι->Nat->Nat->Nat->SM (Option Nat):=sortPriv% PySem.Builtin.gallop
def w8(left:Bool)(key:ι)(arr:Array ι)(base i:Nat):SM (Option Bool):=do
 let x ←elem' arr (base+i)
 if left then lt' x key else return (←lt' key x).map (!·)
theorem A9(left:Bool)(key:ι)(arr:Array ι)(base n hint:Nat):gF left key arr base n hint=(do
 let mut lastofs:=0
 let mut ofs:=1
 let mut lo:=0
 let mut hi:=0
 let some right ←w8 left key arr base hint|return none
 if right then
  let maxofs:=n-hint
  for _ in [0:n] do
   if ofs≥maxofs then break
   let some more ←w8 left key arr base (hint+ofs)|return none
   if !more then break
   lastofs:=ofs
   ofs:=2*ofs+1
  lo:=hint+lastofs+1
  hi:=hint+min ofs maxofs
 else
  let maxofs:=hint+1
  for _ in [0:n] do
   if ofs≥maxofs then break
   let some found ←w8 left key arr base (hint-ofs)|return none
   if found then break
   lastofs:=ofs
   ofs:=2*ofs+1
  lo:=hint+1-min ofs maxofs
  hi:=hint-lastofs
 for _ in [0:n] do
  if lo≥hi then break
  let m:=lo+(hi-lo) / 2
  let some more ←w8 left key arr base m|return none
  if more then lo:=m+1 else hi:=m
 return some hi):=rfl
def vJ(left:Bool)(key:ι)(arr:Array ι)(base n lo hi:Nat):SM (Option Nat):=do
 let mut lo:=lo
 let mut hi:=hi
 for _ in [0:n] do
  if lo≥hi then break
  let m:=lo+(hi-lo) / 2
  let some more ←w8 left key arr base m|return none
  if more then lo:=m+1 else hi:=m
 return some hi
section
variable {prog:Ω} {w:aw} {A:aF} {E:δ->η->Prop} {κ:cG} {s:η} {Ok:ι->Prop} {L:ι->ι->Bool} {st:aI}
def jT(prog:Ω)(w:aw)(A:aF)(κ:cG)(s:η)(Ok:ι->Prop)(L:ι->ι->Bool):Prop:=
 ∀x y,Ok x->Ok y->∀(Q:Bool->η->Prop) (E:δ->η->Prop),Q (L x y) s->ρ (model prog w) A (keyLt' κ x.1 y.1) Q E s
theorem xw(C:jT prog w A κ s Ok L)(hk:kindOf st=κ){x y:ι}(hx:Ok x)(hy:Ok y){Q:Option Bool->aI->η->Prop}(h:Q (some (L x y)) st s):kasC (model prog w) A E (lt' x y) Q st s:=by
 rw[lt'_eq];refine ω (iP ?_);rw[hk];exact ω (lr (kQ (C x y hx hy _ _ (Ξ h))))
theorem jI{arr:Array ι}{i:Nat}{x:ι}(e:arr[i]?=some x){Q:ι->aI->η->Prop}(h:Q x st s):kasC (model prog w) A E (elem' arr i) Q st s:=by
 rw[elem'_eq,e];exact Ξ h
theorem nt{α:Type}{m:SM α}{Q Q':α->aI->η->Prop}(h:kasC (model prog w) A E m Q st s)(hq:∀a st' s',Q a st' s'->Q' a st' s'):kasC (model prog w) A E m Q' st s:=b9 h (fun r s' z=>hq _ _ _ z) fun _ _ e=>e
theorem kX{β:Type}{body:Nat->β->SM (ForInStep β)}{Q:β->aI->η->Prop}(I:Nat->β->aI->Prop)(hz:∀b st,I 0 b st->Q b st s)
  (hs:∀x k b st,I (k+1) b st->kasC (model prog w) A E (body x b) (fun r st' s'=>s'=s/\match r with
   |.done b'=>Q b' st' s
   | .yield b'=>I k b' st') st s) (l:List Nat):∀(b:β) (st:aI),I l.length b st->kasC (model prog w) A E (forIn l b body) Q st s:=by
 induction l with
 |nil=>exact fun b st h=>kasC_nil (hz b st h)
 |cons x l ih=>
  intro b st h;refine kasC_cons (nt (hs x l.length b st h) ?_);rintro r st' s' ⟨e,z⟩;subst e;cases r with
  |done b'=>exact z
  |yield b'=>exact ih b' st' z
def mH(L:ι->ι->Bool)(left:Bool)(key x:ι):Bool:=if left then L x key else !(L key x)
theorem Ph(C:jT prog w A κ s Ok L)(hk:kindOf st=κ){left:Bool}{key:ι}{arr:Array ι}{base i:Nat}{x:ι}(e:arr[base+i]?=some x)(hx:Ok x)(hy:Ok key){Q:Option Bool->aI->η->Prop}(h:Q (some (mH L left key x)) st s):
  kasC (model prog w) A E (w8 left key arr base i) Q st s:=by
 unfold w8;refine ω (jI e ?_);unfold mH at h;cases left with
 |true=>exact xw C hk hx hy h
 |false=>exact ω (xw C hk hy hx (Ξ h))
structure Xy(B:Nat->Bool)(n k:Nat):Prop where
 le:k≤n
 lo:∀i,i<k->B i=true
 hi:∀i,k≤i->i<n->B i=false
theorem Pg(C:jT prog w A κ s Ok L)(hk:kindOf st=κ){left:Bool}{key:ι}{arr:Array ι}{base n hint:Nat}(B:Nat->Bool)(hn:hint<n)(hy:Ok key)
  (bI:∀i,i<n->∃x,arr[base+i]?=some x/\Ok x/\mH L left key x=B i) (anti:∀i j,i≤j->j<n->B j=true->B i=true)
  {Q:Option Nat->aI->η->Prop} (q:∀k,Xy B n k->Q (some k) st s):kasC (model prog w) A E (gF left key arr base n hint) Q st s:=by
 have ask:∀{i:Nat} {R:Option Bool->aI->η->Prop},i<n->R (some (B i)) st s->kasC (model prog w) A E (w8 left key arr base i) R st s:=fun {i R} hi h=>by
  obtain⟨x,e,hx,eb⟩:=bI i hi;refine Ph C hk e hx hy ?_;rw[eb];exact h
 have noB:∀i j,i≤j->j<n->B i=false->B j=false:=fun i j h1 h2 h3=>by
  cases h:B j with
  |false=>rfl
  |true=>
   rw[anti i j h1 h2 h] at h3;cases h3
 have fin:∀lo hi,lo≤hi->hi≤n->(∀i,i<lo->B i=true)->(∀i,hi≤i->i<n->B i=false)->kasC (model prog w) A E (vJ left key arr base n lo hi) Q st s:=by
  intro lo hi h1 h2 h3 h4;unfold vJ;refine ω (dm ?_);refine kX (fun k (b:Option (Option Nat)×Nat×Nat) st'=>st'=st/\b.1=none/\b.2.1≤b.2.2/\b.2.2≤n/\b.2.2-b.2.1≤k/\(∀i,i<b.2.1->B i=true)/\(∀i,b.2.2≤i->i<n->B i=false)) ?_ ?_ _ _ _ ⟨rfl,rfl,h1,h2,by rw[bR];show hi-lo≤n-0;omega,h3,h4⟩
  ·rintro⟨r,lo,hi⟩ st' ⟨rfl,rfl,a1,a2,a3,a4,a5⟩;have e:lo=hi:=by
    have a1:lo≤hi:=a1;have a3:hi-lo≤0:=a3;omega
   subst e;exact Ξ (q lo ⟨a2,a4,a5⟩)
  ·rintro x k ⟨r,lo,hi⟩ st' ⟨rfl,rfl,a1,a2,a3,a4,a5⟩;have a1:lo≤hi:=a1;have a2:hi≤n:=a2;have a3:hi-lo≤k+1:=a3;dsimp only;by_cases hge:lo≥hi
   ·rw[if_pos hge];have e:lo=hi:=by omega
    subst e;exact Ξ ⟨rfl,Ξ (q lo ⟨a2,a4,a5⟩)⟩
   ·rw[if_neg hge];have hm:lo+(hi-lo) / 2<hi:=by omega
    refine ω (ask (by omega) ?_);dsimp only;cases hb:B (lo+(hi-lo) / 2) with
    |true=>
     rw[if_pos rfl];refine Ξ ⟨rfl,rfl,rfl,?_,a2,?_,fun i hi'=>?_,a5⟩
     ·show lo+(hi-lo) / 2+1≤hi;omega
     ·show hi-(lo+(hi-lo) / 2+1)≤k;omega
     ·have hi':i<lo+(hi-lo) / 2+1:=hi';exact anti i _ (by omega) (by omega) hb
    |false=>
     rw[if_neg Ψ];refine Ξ ⟨rfl,rfl,rfl,?_,?_,?_,a4,fun i h' hi'=>?_⟩
     ·show lo≤lo+(hi-lo) / 2;omega
     ·show lo+(hi-lo) / 2≤n;omega
     ·show lo+(hi-lo) / 2-lo≤k;omega
     ·exact noB _ i h' hi' hb
 rw[A9];refine ω (ask hn ?_);dsimp only;cases hB:B hint with
 |true=>
  rw[if_pos rfl];refine ω (dm ?_);have out:∀la of,la<of->hint+la<n->B (hint+la)=true->(n-hint≤of∨(hint+of<n/\B (hint+of)=false))->kasC (model prog w) A E (vJ left key arr base n (hint+la+1) (hint+min of (n-hint))) Q st s:=by
   intro la of h1 h2 h3 h4;refine fin _ _ (by omega) (by omega) (fun i hi=>anti i _ (by omega) h2 h3) (fun i hi kl=>?_);rcases h4 with h4|⟨h4,h5⟩
   ·omega
   ·exact noB (hint+of) i (by omega) kl h5
  refine kX (fun k (b:Option (Option Nat)×Nat×Nat) st'=>st'=st/\b.1=none/\b.2.1<b.2.2/\hint+b.2.1<n/\B (hint+b.2.1)=true/\n+1≤b.2.2+k) ?_ ?_ _ _ _ ⟨rfl,rfl,by decide,hn,(show B (hint+0)=true from hB),by rw[bR];show n+1≤1+(n-0);omega⟩
  ·rintro⟨r,la,of⟩ st' ⟨rfl,rfl,a1,a2,a3,a4⟩;have a4:n+1≤of+0:=a4;exact out la of a1 a2 a3 (.inl (by omega))
  ·rintro x k ⟨r,la,of⟩ st' ⟨rfl,rfl,a1,a2,a3,a4⟩;have a1:la<of:=a1;have a2:hint+la<n:=a2;have a4:n+1≤of+(k+1):=a4;dsimp only;by_cases hge:of≥n-hint
   ·rw[if_pos hge];exact Ξ ⟨rfl,out la of a1 a2 a3 (.inl hge)⟩
   ·rw[if_neg hge];refine ω (ask (by omega) ?_);dsimp only;cases hb:B (hint+of) with
    |true=>
     rw[if_neg (by decide)];exact Ξ ⟨rfl,rfl,rfl,by show of<2*of+1;omega,by show hint+of<n;omega,hb,by show n+1≤2*of+1+k;omega⟩
    |false=>
     rw[if_pos (by decide)];exact Ξ ⟨rfl,out la of a1 a2 a3 (.inr ⟨by omega,hb⟩)⟩
 |false=>
  rw[if_neg Ψ];refine ω (dm ?_);have out:∀la of,la<of->la≤hint->B (hint-la)=false->(hint+1≤of∨(of≤hint/\B (hint-of)=true))->kasC (model prog w) A E (vJ left key arr base n (hint+1-min of (hint+1)) (hint-la)) Q st s:=by
   intro la of h1 h2 h3 h4;refine fin _ _ (by omega) (by omega) (fun i hi=>?_) (fun i hi kl=>noB _ i hi kl h3);rcases h4 with h4|⟨h4,h5⟩
   ·omega
   ·exact anti i (hint-of) (by omega) (by omega) h5
  refine kX (fun k (b:Option (Option Nat)×Nat×Nat) st'=>st'=st/\b.1=none/\b.2.1<b.2.2/\b.2.1≤hint/\B (hint-b.2.1)=false/\n+1≤b.2.2+k) ?_ ?_ _ _ _ ⟨rfl,rfl,by decide,aG _,(show B (hint-0)=false from hB),by rw[bR];show n+1≤1+(n-0);omega⟩
  ·rintro⟨r,la,of⟩ st' ⟨rfl,rfl,a1,a2,a3,a4⟩;have a4:n+1≤of+0:=a4;exact out la of a1 a2 a3 (.inl (by omega))
  ·rintro x k ⟨r,la,of⟩ st' ⟨rfl,rfl,a1,a2,a3,a4⟩;have a1:la<of:=a1;have a2:la≤hint:=a2;have a4:n+1≤of+(k+1):=a4;dsimp only;by_cases hge:of≥hint+1
   ·rw[if_pos hge];exact Ξ ⟨rfl,out la of a1 a2 a3 (.inl hge)⟩
   ·rw[if_neg hge];refine ω (ask (by omega) ?_);dsimp only;cases hb:B (hint-of) with
    |true=>
     rw[if_pos rfl];exact Ξ ⟨rfl,out la of a1 a2 a3 (.inr ⟨by omega,hb⟩)⟩
    |false=>
     rw[if_neg Ψ];exact Ξ ⟨rfl,rfl,rfl,by show of<2*of+1;omega,by show of≤hint;omega,hb,by show n+1≤2*of+1+k;omega⟩
end
end gs
namespace gs
open PySem PySem.W PyProof.Rows
def dR:Nat->SM Unit:=sortPriv% PySem.Builtin.setMinGallop
theorem uN(g:Nat):dR g=modify fun s=>rZ (kindOf s) (arrOf s) (pendingOf s) g (failedOf s):=rfl
def rB:Array ι->Array ι->SM (Array ι):=sortPriv% PySem.Builtin.mergeLo
def gr(a b out:Array ι)(ia ib:Nat):Array ι:=out++a.extract ia a.size++b.extract ib b.size
def lL(a b out:Array ι)(ia ib:Nat):Array ι:=out++b.extract ib b.size++a.extract ia a.size
theorem yY(a b:Array ι):rB a b=(do
 rule "list.sort.merge-lo"
 let total:=a.size+b.size
 let mut out:Array ι:=#[←elem' b 0]
 let mut ia:=0
 let mut ib:=1
 if ib==b.size then return gr a b out ia ib
 if ia+1==a.size then return lL a b out ia ib
 let mut minGallop:=gallopOf (←get)
 for _ in [0:total] do
  let mut acount:=0
  let mut bcount:=0
  for _ in [0:total] do
   let some bWins ←lt' (←elem' b ib) (←elem' a ia)|return gr a b out ia ib
   if bWins then
    out:=out.push (←elem' b ib);ib:=ib+1;bcount:=bcount+1;acount:=0
    if ib==b.size then return gr a b out ia ib
    if bcount≥minGallop then break
   else
    out:=out.push (←elem' a ia);ia:=ia+1;acount:=acount+1;bcount:=0
    if ia+1==a.size then return lL a b out ia ib
    if acount≥minGallop then break
  rule "list.sort.gallop"
  minGallop:=minGallop+1
  for _ in [0:total] do
   if minGallop > 1 then minGallop:=minGallop-1
   dR minGallop
   let some k ←gF false (←elem' b ib) a ia (a.size-ia) 0|return gr a b out ia ib
   acount:=k
   if k > 0 then
    out:=out++a.extract ia (ia+k);ia:=ia+k
    if ia+1==a.size then return lL a b out ia ib
    if ia==a.size then return gr a b out ia ib
   out:=out.push (←elem' b ib);ib:=ib+1
   if ib==b.size then return gr a b out ia ib
   let some k ←gF true (←elem' a ia) b ib (b.size-ib) 0|return gr a b out ia ib
   bcount:=k
   if k > 0 then
    out:=out++b.extract ib (ib+k);ib:=ib+k
    if ib==b.size then return gr a b out ia ib
   out:=out.push (←elem' a ia);ia:=ia+1
   if ia+1==a.size then return lL a b out ia ib
   if acount<7&&bcount<7 then break
  minGallop:=minGallop+1
  dR minGallop
 unsupported "internal:list.sort.merge-bound"):=rfl
section
variable {L:ι->ι->Bool} {al bl:List ι}
abbrev Le(L:ι->ι->Bool)(x y:ι):Prop:=L y x=false
structure hJ(L:ι->ι->Bool):Prop where
 km:∀x y,L x y=true->L y x=false
 fu:∀x y z,Le L x y->Le L y z->Le L x z
structure MI(L:ι->ι->Bool)(al bl out:List ι)(ia ib:Nat):Prop where
 perm:(out++(al.drop ia++bl.drop ib)).Perm (al++bl)
 gU:out.Pairwise (Le L)
 low:∀x∈out,∀y∈al.drop ia++bl.drop ib,Le L x y
theorem Hj(xs:List ι)(i k:Nat):xs.drop i=(xs.drop i).take k++xs.drop (i+k):=by
 rw[←qT];exact (bY k (xs.drop i)).symm
theorem MI.vz{out:List ι}{ia ib:Nat}(h:MI L al bl out ia ib)(hs:al.Pairwise (Le L))(k:Nat)(hx:∀x∈(al.drop ia).take k,∀y∈bl.drop ib,Le L x y):MI L al bl (out++(al.drop ia).take k) (ia+k) ib:=by
 have e:=Hj al ia k;have hs':(al.drop ia).Pairwise (Le L):=hs.sublist (ft _ _);rw[e,ao] at hs';refine⟨?_,?_,fun x hx' y hy=>?_⟩
 ·have:=h.perm;rw[e] at this;simpa [aq] using this
 ·rw[ao];refine⟨h.gU,hs'.1,fun x hx' y hy=>h.low x hx' y (bf _ (cb hy))⟩
 ·rcases ag.mp hx' with z|z
  ·refine h.low x z y ?_;rw[e];rcases ag.mp hy with z2|z2
   ·exact bf _ (ay _ z2)
   ·exact ay _ z2
  ·rcases ag.mp hy with z2|z2
   ·exact hs'.2.2 x z y z2
   ·exact hx x z y z2
theorem MI.vw{out:List ι}{ia ib:Nat}(h:MI L al bl out ia ib)(hs:bl.Pairwise (Le L))(k:Nat)(hx:∀x∈(bl.drop ib).take k,∀y∈al.drop ia,Le L x y):MI L al bl (out++(bl.drop ib).take k) ia (ib+k):=by
 have e:=Hj bl ib k;have hs':(bl.drop ib).Pairwise (Le L):=hs.sublist (ft _ _);rw[e,ao] at hs';refine⟨?_,?_,fun x hx' y hy=>?_⟩
 ·refine cE ?_ h.perm;have e2:al.drop ia++bl.drop ib=al.drop ia++((bl.drop ib).take k++bl.drop (ib+k)):=congrArg (al.drop ia++·) e;rw[e2,aq];refine cp _ ?_;rw[←aq,←aq];exact cf _ iy
 ·rw[ao];refine⟨h.gU,hs'.1,fun x hx' y hy=>h.low x hx' y (ay _ (cb hy))⟩
 ·rcases ag.mp hx' with z|z
  ·refine h.low x z y ?_;rw[e];rcases ag.mp hy with z2|z2
   ·exact bf _ z2
   ·exact ay _ (ay _ z2)
  ·rcases ag.mp hy with z2|z2
   ·exact hx x z y z2
   ·exact hs'.2.2 x z y z2
def Res(L:ι->ι->Bool)(al bl r:List ι):Prop:=r.Perm (al++bl)/\r.Pairwise (Le L)
theorem MI.done{out:List ι}{ia ib:Nat}(h:MI L al bl out ia ib)(ha:al.Pairwise (Le L))(hb:bl.Pairwise (Le L))(he:al.length≤ia∨bl.length≤ib):Res L al bl (out++al.drop ia++bl.drop ib):=by
 refine⟨by have:=h.perm;rwa [←aq] at this,?_⟩;have h1:(al.drop ia++bl.drop ib).Pairwise (Le L):=by
  rcases he with he|he
  ·rw[eK he,cS];exact hb.sublist (ft _ _)
  ·rw[eK he,bF];exact ha.sublist (ft _ _)
 rw[aq,ao];exact⟨h.gU,h1,h.low⟩
theorem MI.last{out:List ι}{ia ib:Nat}(O:hJ L)(h:MI L al bl out ia ib)(hb:bl.Pairwise (Le L)){z:ι}(he:al.drop ia=[z])(hz:∀y∈bl,L y z=true):Res L al bl (out++bl.drop ib++al.drop ia):=by
 refine⟨cE ?_ h.perm,?_⟩
 ·rw[aq];exact cp _ iy
 ·rw[aq,ao];refine⟨h.gU,?_,fun x hx y hy=>h.low x hx y ?_⟩
  ·rw[he,ao];refine⟨hb.sublist (ft _ _),bJ _ _,fun x hx y hy=>?_⟩;rw[aL.mp hy];exact O.km _ _ (hz x (cT hx))
  ·rcases ag.mp hy with q|q
   ·exact ay _ q
   ·exact bf _ q
end
abbrev GS:=Option (Array ι)×Array ι×Nat×Nat×Nat×Nat×Nat
abbrev MS:=Option (Array ι)×Array ι×Nat×Nat×Nat×Nat
abbrev HS:=Option (Array ι)×Array ι×Nat×Nat×Nat
def lo1(a b:Array ι)(mg:Nat)(t:MS):SM (ForInStep MS):=do
 let x ←elem' b t.2.2.2.1
 let y ←elem' a t.2.2.1
 let r ←lt' x y
 match r with
 |some bWins=>
  if bWins=true then do
   let x ←elem' b t.2.2.2.1
   if (t.2.2.2.1+1==b.size)=true then pure (.done (some (gr a b (t.2.1.push x) t.2.2.1 (t.2.2.2.1+1)),t.2.1.push x,t.2.2.1,t.2.2.2.1+1,0,t.2.2.2.2.2+1))
   else if t.2.2.2.2.2+1≥mg then pure (.done (none,t.2.1.push x,t.2.2.1,t.2.2.2.1+1,0,t.2.2.2.2.2+1))
   else pure (.yield (none,t.2.1.push x,t.2.2.1,t.2.2.2.1+1,0,t.2.2.2.2.2+1))
  else do
   let y ←elem' a t.2.2.1
   if (t.2.2.1+1+1==a.size)=true then pure (.done (some (lL a b (t.2.1.push y) (t.2.2.1+1) t.2.2.2.1),t.2.1.push y,t.2.2.1+1,t.2.2.2.1,t.2.2.2.2.1+1,0))
   else if t.2.2.2.2.1+1≥mg then pure (.done (none,t.2.1.push y,t.2.2.1+1,t.2.2.2.1,t.2.2.2.2.1+1,0))
   else pure (.yield (none,t.2.1.push y,t.2.2.1+1,t.2.2.2.1,t.2.2.2.2.1+1,0))
 |_=>pure (.done (some (gr a b t.2.1 t.2.2.1 t.2.2.2.1),t.2.1,t.2.2.1,t.2.2.2.1,t.2.2.2.2.1,t.2.2.2.2.2))
def E7(a b out:Array ι)(ia ib mg ac bc:Nat):SM (ForInStep GS):=do
 let y ←elem' a ia
 if (ia+1+1==a.size)=true then pure (.done (some (lL a b (out.push y) (ia+1) ib),out.push y,ia+1,ib,mg,ac,bc))
 else if (decide (ac<7)&&decide (bc<7))=true then pure (.done (none,out.push y,ia+1,ib,mg,ac,bc))
 else pure (.yield (none,out.push y,ia+1,ib,mg,ac,bc))
def E8(a b out:Array ι)(ia ib mg ac bc0:Nat):SM (ForInStep GS):=do
 let x ←elem' b ib
 if (ib+1==b.size)=true then pure (.done (some (gr a b (out.push x) ia (ib+1)),out.push x,ia,ib+1,mg,ac,bc0))
 else do
  let y ←elem' a ia
  let r ←gF true y b (ib+1) (b.size-(ib+1)) 0
  match r with
  |some k=>
   if k > 0 then
    if (ib+1+k==b.size)=true then pure (.done (some (gr a b (out.push x++b.extract (ib+1) (ib+1+k)) ia (ib+1+k)),out.push x++b.extract (ib+1) (ib+1+k),ia,ib+1+k,mg,ac,k))
    else E7 a b (out.push x++b.extract (ib+1) (ib+1+k)) ia (ib+1+k) mg ac k
   else E7 a b (out.push x) ia (ib+1) mg ac k
  |_=>pure (.done (some (gr a b (out.push x) ia (ib+1)),out.push x,ia,ib+1,mg,ac,bc0))
def vF(a b:Array ι)(mg:Nat)(t:GS):SM (ForInStep GS):=do
 dR mg
 let x ←elem' b t.2.2.2.1
 let r ←gF false x a t.2.2.1 (a.size-t.2.2.1) 0
 match r with
 |some k=>
  if k > 0 then
   if (t.2.2.1+k+1==a.size)=true then pure (.done (some (lL a b (t.2.1++a.extract t.2.2.1 (t.2.2.1+k)) (t.2.2.1+k) t.2.2.2.1),t.2.1++a.extract t.2.2.1 (t.2.2.1+k),t.2.2.1+k,t.2.2.2.1,mg,k,t.2.2.2.2.2.2))
   else if (t.2.2.1+k==a.size)=true then pure (.done (some (gr a b (t.2.1++a.extract t.2.2.1 (t.2.2.1+k)) (t.2.2.1+k) t.2.2.2.1),t.2.1++a.extract t.2.2.1 (t.2.2.1+k),t.2.2.1+k,t.2.2.2.1,mg,k,t.2.2.2.2.2.2))
   else E8 a b (t.2.1++a.extract t.2.2.1 (t.2.2.1+k)) (t.2.2.1+k) t.2.2.2.1 mg k t.2.2.2.2.2.2
  else E8 a b t.2.1 t.2.2.1 t.2.2.2.1 mg k t.2.2.2.2.2.2
 |_=>pure (.done (some (gr a b t.2.1 t.2.2.1 t.2.2.2.1),t.2.1,t.2.2.1,t.2.2.2.1,mg,t.2.2.2.2.2.1,t.2.2.2.2.2.2))
def E9(a b:Array ι)(u:HS):SM (ForInStep HS):=do
 let t ←forIn [0:a.size+b.size] ((none,u.2.1,u.2.2.1,u.2.2.2.1,0,0):MS) fun _ t=>lo1 a b u.2.2.2.2 t
 match t.1 with
 |some r=>pure (.done (some r,t.2.1,t.2.2.1,t.2.2.2.1,u.2.2.2.2))
 |none=>do
  liftM (rule "list.sort.gallop")
  let v ←forIn [0:a.size+b.size] ((none,t.2.1,t.2.2.1,t.2.2.2.1,u.2.2.2.2+1,t.2.2.2.2.1,t.2.2.2.2.2):GS) fun _ v=>
   if v.2.2.2.2.1 > 1 then vF a b (v.2.2.2.2.1-1) v else vF a b v.2.2.2.2.1 v
  match v.1 with
  |some r=>pure (.done (some r,v.2.1,v.2.2.1,v.2.2.2.1,v.2.2.2.2.1))
  |none=>do
   dR (v.2.2.2.2.1+1)
   pure (.yield (none,v.2.1,v.2.2.1,v.2.2.2.1,v.2.2.2.2.1+1))
theorem eO{α β:Type}{m m':SM α}{f f':α->SM β}(h:m=m')(h2:∀a,f a=f' a):m >>= f=m' >>= f':=by
 rw[h,funext h2]
theorem p8{β:Type}{n:Nat}{b:β}{f f':Nat->β->SM (ForInStep β)}(h:∀x t,f x t=f' x t):(forIn [0:n] b f:SM β)=forIn [0:n] b f':=by
 rw[funext fun x=>funext (h x)]
theorem wJ(a b:Array ι):rB a b=(do
 liftM (rule "list.sort.merge-lo")
 let x ←elem' b 0
 if (1==b.size)=true then pure (gr a b #[x] 0 1)
 else if (0+1==a.size)=true then pure (lL a b #[x] 0 1)
 else do
  let g ←get
  let u ←forIn [0:a.size+b.size] ((none,#[x],0,1,gallopOf g):HS) fun _ u=>E9 a b u
  match u.1 with
  |some r=>pure r
  | none=>unsupported "internal:list.sort.merge-bound"):=by
 rw[yY]
 refine congrArg (fun z=>(liftM (rule "list.sort.merge-lo"):SM Unit) >>= z) (funext fun _=>?_)
 refine congrArg (fun z=>elem' b 0 >>= z) (funext fun x=>?_)
 dsimp only
 refine congrArg (fun z=>if (1==b.size)=true then _ else z) ?_
 refine congrArg (fun z=>if (0+1==a.size)=true then _ else z) ?_
 refine congrArg (fun z=>(get:SM aI) >>= z) (funext fun g=>?_)
 refine eO (p8 fun _ u=>?_) (fun u=>by obtain⟨r,u⟩:=u;cases r<;>rfl)
 unfold E9
 refine eO (p8 fun _ t=>?_) (fun t=>?_)
 ·rfl
 obtain⟨r,t⟩:=t
 cases r with
 |some r=>rfl
 |none=>
  dsimp only
  refine eO rfl fun _=>?_
  refine eO (p8 fun _ v=>?_) (fun v=>?_)
  ·by_cases h:v.2.2.2.2.1 > 1
   ·rw[if_pos h,if_pos h]
    unfold vF
    refine eO rfl fun _=>?_
    refine eO rfl fun x=>?_
    refine eO rfl fun r=>?_
    cases r with
    |none=>rfl
    |some k=>
     dsimp only
     by_cases h1:k > 0
     ·rw[if_pos h1,if_pos h1]
      rfl
     ·rw[if_neg h1,if_neg h1]
      rfl
   ·rw[if_neg h,if_neg h]
    unfold vF
    refine eO rfl fun _=>?_
    refine eO rfl fun x=>?_
    refine eO rfl fun r=>?_
    cases r with
    |none=>rfl
    |some k=>
     dsimp only
     by_cases h1:k > 0
     ·rw[if_pos h1,if_pos h1]
      rfl
     ·rw[if_neg h1,if_neg h1]
      rfl
  ·obtain⟨r,v⟩:=v
   cases r<;>rfl
end gs
namespace gs
open PySem PySem.W PyProof.Rows
section
variable {prog:Ω} {w:aw} {A:aF} {E:δ->η->Prop} {κ:cG} {s:η} {Ok:ι->Prop} {L:ι->ι->Bool} {st:aI}
def sl(arr:Array ι)(base n:Nat):List ι:=(arr.toList.drop base).take n
theorem Pf{arr:Array ι}{base n:Nat}(h:base+n≤arr.size):(sl arr base n).length=n:=by
 unfold sl;rw[br,bC,aN];lia
theorem Pe{arr:Array ι}{base n i:Nat}(hi:i<n):(sl arr base n)[i]?=arr[base+i]?:=by
 unfold sl;rw[dQ hi,g0,af]
theorem hJ.yI(O:hJ L)(x:ι):L x x=false:=by
 cases h:L x x with
 |false=>rfl
 |true=>
  have:=O.km x x h;rw[h] at this;cases this
theorem pw_get{xs:List ι}(h:xs.Pairwise (Le L))(O:hJ L){i j:Nat}{x y:ι}(hij:i≤j)(hx:xs[i]?=some x)(hy:xs[j]?=some y):Le L x y:=by
 obtain⟨h1,rfl⟩:=ax.mp hx;obtain⟨h2,rfl⟩:=ax.mp hy;rcases Nat.lt_or_eq_of_le hij with q|q
 ·exact eZ.mp h i j h1 h2 q
 ·subst q;exact O.yI _
theorem wt(C:jT prog w A κ s Ok L)(O:hJ L)(hk:kindOf st=κ){left:Bool}{key:ι}{arr:Array ι}{base n hint:Nat}(hn:hint<n)(hz:base+n≤arr.size)(hy:Ok key)(bI:∀x∈sl arr base n,Ok x)(hs:(sl arr base n).Pairwise (Le L))
  {Q:Option Nat->aI->η->Prop} (q:∀k,k≤n->(∀z∈(sl arr base n).take k,mH L left key z=true)->(∀z∈(sl arr base n).drop k,mH L left key z=false)->Q (some k) st s):kasC (model prog w) A E (gF left key arr base n hint) Q st s:=by
 have hl:=Pf hz;have get:∀i,i<n->∃x,arr[base+i]?=some x/\(sl arr base n)[i]?=some x/\x∈sl arr base n:=fun i hi=>by
  have h1:i<(sl arr base n).length:=by lia
  have h2:(sl arr base n)[i]?=some (sl arr base n)[i]:=az h1;exact⟨_,by rw[←Pe hi];exact h2,h2,lb h1⟩
 refine Pg C hk (fun i=>((sl arr base n)[i]?).any (mH L left key)) hn hy (fun i hi=>?_) (fun i j hij hj hb=>?_) fun k bd=>?_
 ·obtain⟨x,e1,e2,hm⟩:=get i hi;exact⟨x,e1,bI x hm,by rw[e2];rfl⟩
 ·obtain⟨x,_,e2,hm⟩:=get i (by lia);obtain⟨y,_,e3,hm2⟩:=get j hj;have hb:((sl arr base n)[j]?).any (mH L left key)=true:=hb;show ((sl arr base n)[i]?).any (mH L left key)=true;rw[e3] at hb;rw[e2];have hb:mH L left key y=true:=hb;show mH L left key x=true;have hxy:=pw_get hs O hij e2 e3;unfold mH at hb ⊢;cases left with
  |true=>
   have hb:L y key=true:=hb;show L x key=true;cases h:L x key with
   |true=>rfl
   |false=>
    have:=O.fu key x y h hxy;have this:L y key=false:=this;rw[hb] at this;cases this
  |false=>
   have hb:(!(L key y))=true:=hb;show (!(L key x))=true;rw[gp] at hb ⊢;exact O.fu x y key hxy hb
 ·refine q k bd.le (fun z hz'=>?_) fun z hz'=>?_
  ·obtain⟨i,hi,e⟩:=fC hz';rw[br] at hi;have h1:=bd.lo i (by lia);have h1:((sl arr base n)[i]?).any (mH L left key)=true:=h1;have e2:(sl arr base n)[i]?=some z:=by
    have:=az (l:=(sl arr base n).take k) (i:=i) (by rw[br];lia);rw[e,dQ (by lia)] at this;exact this
   rw[e2] at h1;exact h1
  ·obtain⟨i,hi,e⟩:=fC hz';rw[bC] at hi;have h1:=bd.hi (k+i) (by lia) (by lia);have h1:((sl arr base n)[k+i]?).any (mH L left key)=false:=h1;have e2:(sl arr base n)[k+i]?=some z:=by
    have:=az (l:=(sl arr base n).drop k) (i:=i) (by rw[bC];lia);rw[e,g0] at this;exact this
   rw[e2] at h1;exact h1
def dY(st st':aI):Prop:=kindOf st'=kindOf st/\arrOf st'=arrOf st/\pendingOf st'=pendingOf st/\failedOf st'=failedOf st
theorem dY.rf:dY st st:=⟨rfl,rfl,rfl,rfl⟩
theorem dY.tr{s1 s2 s3:aI}(h:dY s1 s2)(h':dY s2 s3):dY s1 s3:=⟨h'.1.trans h.1,h'.2.1.trans h.2.1,h'.2.2.1.trans h.2.2.1,h'.2.2.2.trans h.2.2.2⟩
theorem Ai{g:Nat}{Q:Unit->aI->η->Prop}(h:∀st',dY st st'->Q () st' s):kasC (model prog w) A E (dR g) Q st s:=by
 rw[uN];exact gE (h _ ⟨rfl,rfl,rfl,rfl⟩)
structure MH(prog:Ω)(w:aw)(A:aF)(κ:cG)(s:η)(Ok:ι->Prop)(L:ι->ι->Bool)(a b:Array ι):Prop where
 C:jT prog w A κ s Ok L
 O:hJ L
 oa:∀x∈a.toList,Ok x
 ob:∀x∈b.toList,Ok x
 sa:a.toList.Pairwise (Le L)
 sb:b.toList.Pairwise (Le L)
theorem oJ{a:Array ι}{i:Nat}(h:i<a.size):∃x,a[i]?=some x/\a.toList.drop i=x::a.toList.drop (i+1)/\x∈a.toList:=by
 have h':i<a.toList.length:=by rw[aN];exact h
 refine⟨a[i],e6 h,?_,?_⟩
 ·rw[dE h',sf]
 ·exact ee.mpr (uF h)
theorem uS(O:hJ L){xs ys:List ι}{x:ι}(h:xs.Pairwise (Le L))(e:xs=x::ys):∀z∈xs,Le L x z:=by
 subst e;intro z hz;rcases ak.mp hz with rfl|hz
 ·exact O.yI _
 ·exact (cR.mp h).1 z hz
theorem Ah{xs ys:List ι}{x:ι}(e:xs=x::ys):xs.take 1=[x]:=by
 subst e;rfl
theorem xN(a:Array ι)(i j:Nat):(a.extract i j).toList=(a.toList.drop i).take (j-i):=by
 rw[mf,List.extract_eq_drop_take]
theorem Ag(a:Array ι)(i:Nat):(a.extract i a.size).toList=a.toList.drop i:=by
 rw[xN,cC];rw[bC,aN];exact Θ _
theorem Pd(a b out:Array ι)(ia ib:Nat):(gr a b out ia ib).toList=out.toList++a.toList.drop ia++b.toList.drop ib:=by
 unfold gr;rw[cH,cH,Ag,Ag]
theorem Pc(a b out:Array ι)(ia ib:Nat):(lL a b out ia ib).toList=out.toList++b.toList.drop ib++a.toList.drop ia:=by
 unfold lL;rw[cH,cH,Ag,Ag]
end
end gs
namespace gs
open PySem PySem.W PyProof.Rows
section
variable {prog:Ω} {w:aw} {A:aF} {E:δ->η->Prop} {κ:cG} {s:η} {Ok:ι->Prop} {L:ι->ι->Bool} {st:aI} {a b:Array ι}
def rem(a b:Array ι)(ia ib:Nat):Nat:=(a.size-ia)+(b.size-ib)
def pS(L:ι->ι->Bool)(a b out:Array ι)(ia ib:Nat):Prop:=ia+1<a.size/\ib<b.size/\MI L a.toList b.toList out.toList ia ib
def PR(L:ι->ι->Bool)(a b:Array ι)(R0:Nat)(r:Option (Array ι))(out:Array ι)(ia ib:Nat):Prop:=match r with
 |some res=>Res L a.toList b.toList res.toList
 |none=>pS L a b out ia ib/\rem a b ia ib<R0
def oh(L:ι->ι->Bool)(a b:Array ι):Prop:=∀z,a[a.size-1]?=some z->∀y∈b.toList,L y z=true
theorem xM(H:MH prog w A κ s Ok L a b){out:Array ι}{ia ib:Nat}(h:MI L a.toList b.toList out.toList ia ib)(he:a.size≤ia∨b.size≤ib):Res L a.toList b.toList (gr a b out ia ib).toList:=by
 rw[Pd];exact h.done H.sa H.sb (by rw[aN,aN];exact he)
theorem Af(H:MH prog w A κ s Ok L a b)(hL:oh L a b){out:Array ι}{ia ib:Nat}(h:MI L a.toList b.toList out.toList ia ib)(he:ia+1=a.size):Res L a.toList b.toList (lL a b out ia ib).toList:=by
 rw[Pc];obtain⟨x,e1,e2,_⟩:=oJ (a:=a) (i:=ia) (by lia);have e3:a.toList.drop (ia+1)=[]:=eK (by rw[aN];lia);rw[e3] at e2;exact h.last H.O H.sb e2 (hL x (by rw[show a.size-1=ia by lia];exact e1))
theorem Ae(out:Array ι)(x:ι):(out.push x).toList=out.toList++[x]:=n6
theorem B8(H:MH prog w A κ s Ok L a b){out:Array ι}{ia ib:Nat}{y:ι}(h:MI L a.toList b.toList out.toList ia ib)(e:a.toList.drop ia=y::a.toList.drop (ia+1))(hx:∀z∈b.toList.drop ib,Le L y z):MI L a.toList b.toList (out.push y).toList (ia+1) ib:=by
 have:=h.vz H.sa 1 (by rw[Ah e];intro x hx';rw[aL.mp hx'];exact hx);rw[Ah e] at this;rw[Ae];exact this
theorem yy(H:MH prog w A κ s Ok L a b){out:Array ι}{ia ib:Nat}{x:ι}(h:MI L a.toList b.toList out.toList ia ib)(e:b.toList.drop ib=x::b.toList.drop (ib+1))(hx:∀z∈a.toList.drop ia,Le L x z):MI L a.toList b.toList (out.push x).toList ia (ib+1):=by
 have:=h.vw H.sb 1 (by rw[Ah e];intro z hz;rw[aL.mp hz];exact hx);rw[Ah e] at this;rw[Ae];exact this
theorem uR{xs:List ι}(h:xs.Pairwise (Le L))(i:Nat):(xs.drop i).Pairwise (Le L):=h.sublist (ft _ _)
def Xv(L:ι->ι->Bool)(a b:Array ι)(R0:Nat)(r:ForInStep MS):Prop:=match r with
 |.done v=>PR L a b R0 v.1 v.2.1 v.2.2.1 v.2.2.2.1
 |.yield v=>v.1=none/\PR L a b R0 none v.2.1 v.2.2.1 v.2.2.2.1
theorem Pb(H:MH prog w A κ s Ok L a b)(hL:oh L a b)(hk:kindOf st=κ){mg ac bc ia ib:Nat}{out:Array ι}(h:pS L a b out ia ib):
  kasC (model prog w) A E (lo1 a b mg (none,out,ia,ib,ac,bc)) (fun r st' s'=>s'=s/\st'=st/\Xv L a b (rem a b ia ib) r) st s:=by
 obtain⟨h1,h2,h3⟩:=h;obtain⟨x,ex,dx,mx⟩:=oJ h2;obtain⟨y,ey,dy,my⟩:=oJ (a:=a) (i:=ia) (by lia);unfold lo1;dsimp only;refine ω (jI ex (ω (jI ey (ω (xw H.C hk (H.ob x mx) (H.oa y my) ?_)))));dsimp only;cases hl:L x y with
 |true=>
  rw[if_pos rfl];have h4:MI L a.toList b.toList (out.push x).toList ia (ib+1):=yy H h3 dx fun z hz=>H.O.fu x y z (H.O.km _ _ hl) (uS H.O (uR H.sa ia) dy z hz);refine ω (jI ex ?_);by_cases e:(ib+1==b.size)=true
  ·rw[if_pos e];rw[beq_iff_eq] at e;exact Ξ ⟨rfl,rfl,xM H h4 (.inr (by lia))⟩
  ·rw[if_neg e];have e':ib+1≠b.size:=fun z=>e (by rw[z,beq_self_eq_true]);have pr:PR L a b (rem a b ia ib) none (out.push x) ia (ib+1):=⟨⟨h1,by lia,h4⟩,by unfold rem;lia⟩;by_cases g:bc+1≥mg
   ·rw[if_pos g];exact Ξ ⟨rfl,rfl,pr⟩
   ·rw[if_neg g];exact Ξ ⟨rfl,rfl,rfl,pr⟩
 |false=>
  rw[if_neg Ψ];have h4:MI L a.toList b.toList (out.push y).toList (ia+1) ib:=B8 H h3 dy fun z hz=>H.O.fu y x z hl (uS H.O (uR H.sb ib) dx z hz);refine ω (jI ey ?_);by_cases e:(ia+1+1==a.size)=true
  ·rw[if_pos e];rw[beq_iff_eq] at e;exact Ξ ⟨rfl,rfl,Af H hL h4 e⟩
  ·rw[if_neg e];have e':ia+1+1≠a.size:=fun z=>e (by rw[z,beq_self_eq_true]);have pr:PR L a b (rem a b ia ib) none (out.push y) (ia+1) ib:=⟨⟨by lia,h2,h4⟩,by unfold rem;lia⟩;by_cases g:ac+1≥mg
   ·rw[if_pos g];exact Ξ ⟨rfl,rfl,pr⟩
   ·rw[if_neg g];exact Ξ ⟨rfl,rfl,rfl,pr⟩
def oZ(L:ι->ι->Bool)(a b:Array ι)(R0:Nat)(r:ForInStep GS):Prop:=match r with
 |.done v=>PR L a b R0 v.1 v.2.1 v.2.2.1 v.2.2.2.1
 |.yield v=>v.1=none/\PR L a b R0 none v.2.1 v.2.2.1 v.2.2.2.1
theorem Hi(H:MH prog w A κ s Ok L a b)(hL:oh L a b){R0 mg ac bc ia ib:Nat}{out:Array ι}{y:ι}(h:pS L a b out ia ib)(hr:rem a b ia ib≤R0)(ey:a[ia]?=some y)(hy:∀z∈b.toList.drop ib,Le L y z):
  kasC (model prog w) A E (E7 a b out ia ib mg ac bc) (fun r st' s'=>s'=s/\st'=st/\oZ L a b R0 r) st s:=by
 obtain⟨h1,h2,h3⟩:=h;obtain⟨y',ey',dy,my⟩:=oJ (a:=a) (i:=ia) (by lia);rw[ey] at ey';cases ey';have h4:=B8 H h3 dy hy;unfold rem at hr;unfold E7;refine ω (jI ey ?_);by_cases e:(ia+1+1==a.size)=true
 ·rw[if_pos e];rw[beq_iff_eq] at e;exact Ξ ⟨rfl,rfl,Af H hL h4 e⟩
 ·rw[if_neg e];have e':ia+1+1≠a.size:=fun z=>e (by rw[z,beq_self_eq_true]);have pr:PR L a b R0 none (out.push y) (ia+1) ib:=⟨⟨by lia,h2,h4⟩,by unfold rem;lia⟩;by_cases g:(decide (ac<7)&&decide (bc<7))=true
  ·rw[if_pos g];exact Ξ ⟨rfl,rfl,pr⟩
  ·rw[if_neg g];exact Ξ ⟨rfl,rfl,rfl,pr⟩
theorem wg(arr:Array ι)(i:Nat):sl arr i (arr.size-i)=arr.toList.drop i:=by
 unfold sl;rw[cC];rw[bC,aN];exact Θ _
theorem Hh(out arr:Array ι)(i k:Nat):(out++arr.extract i (i+k)).toList=out.toList++(arr.toList.drop i).take k:=by
 rw[cH,xN,show i+k-i=k by lia]
theorem Hg(H:MH prog w A κ s Ok L a b)(hL:oh L a b)(hk:kindOf st=κ){R0 mg ac bc ia ib:Nat}{out:Array ι}{x:ι}(h:pS L a b out ia ib)(hr:rem a b ia ib≤R0)(ex:b[ib]?=some x)(hx:∀z∈a.toList.drop ia,Le L x z):
  kasC (model prog w) A E (E8 a b out ia ib mg ac bc) (fun r st' s'=>s'=s/\st'=st/\oZ L a b R0 r) st s:=by
 obtain⟨h1,h2,h3⟩:=h;obtain⟨x',ex',dx,mx⟩:=oJ h2;rw[ex] at ex';cases ex';obtain⟨y,ey,dy,my⟩:=oJ (a:=a) (i:=ia) (by lia);have h4:=yy H h3 dx hx;unfold rem at hr;unfold E8;refine ω (jI ex ?_);by_cases e:(ib+1==b.size)=true
 ·rw[if_pos e];rw[beq_iff_eq] at e;exact Ξ ⟨rfl,rfl,xM H h4 (.inr (by lia))⟩
 rw[if_neg e];have e':ib+1≠b.size:=fun z=>e (by rw[z,beq_self_eq_true]);refine ω (jI ey (ω (wt H.C H.O hk (by lia) (by lia) (H.oa y my) (fun z hz=>?_) ?_ fun k hkn k1 k2=>?_)))
 ·rw[wg] at hz;exact H.ob z (cT hz)
 ·rw[wg];exact uR H.sb _
 rw[wg] at k1 k2;rw[qT] at k2;dsimp only;by_cases hk0:k > 0
 ·rw[if_pos hk0];have h5:MI L a.toList b.toList (out.push x++b.extract (ib+1) (ib+1+k)).toList ia (ib+1+k):=by
   rw[Hh];exact h4.vw H.sb k fun z hz y' hy'=>H.O.fu z y y' (H.O.km _ _ (k1 z hz)) (uS H.O (uR H.sa ia) dy y' hy')
  by_cases e2:(ib+1+k==b.size)=true
  ·rw[if_pos e2];rw[beq_iff_eq] at e2;exact Ξ ⟨rfl,rfl,xM H h5 (.inr (by lia))⟩
  ·rw[if_neg e2];have e2':ib+1+k≠b.size:=fun z=>e2 (by rw[z,beq_self_eq_true]);exact Hi H hL ⟨h1,by lia,h5⟩ (by unfold rem;lia) ey fun z hz=>k2 z hz
 ·rw[if_neg hk0];have k0:k=0:=by lia
  subst k0;exact Hi H hL ⟨h1,by lia,h4⟩ (by unfold rem;lia) ey fun z hz=>k2 z hz
theorem Pa(H:MH prog w A κ s Ok L a b)(hL:oh L a b)(hk:kindOf st=κ){mg m0 ac bc ia ib:Nat}{out:Array ι}(h:pS L a b out ia ib):
  kasC (model prog w) A E (vF a b mg (none,out,ia,ib,m0,ac,bc)) (fun r st' s'=>s'=s/\dY st st'/\oZ L a b (rem a b ia ib) r) st s:=by
 obtain⟨h1,h2,h3⟩:=h;obtain⟨x,ex,dx,mx⟩:=oJ h2;unfold vF;dsimp only;refine ω (Ai fun st' sm=>?_);have hk':kindOf st'=κ:=sm.1.trans hk;have back:∀{m:SM (ForInStep GS)},kasC (model prog w) A E m (fun r st'' s'=>s'=s/\st''=st'/\oZ L a b (rem a b ia ib) r) st' s->kasC (model prog w) A E m (fun r st'' s'=>s'=s/\dY st st''/\oZ L a b (rem a b ia ib) r) st' s:=fun hm=>nt hm fun r st'' s' ⟨z1,z2,z3⟩=>⟨z1,by rw[z2];exact sm,z3⟩;refine ω (jI ex (ω (wt H.C H.O hk' (by lia) (by lia) (H.ob x mx) (fun z hz=>?_) ?_ fun k hkn k1 k2=>?_)))
 ·rw[wg] at hz;exact H.oa z (cT hz)
 ·rw[wg];exact uR H.sa _
 rw[wg] at k1 k2;rw[qT] at k2;have k1':∀z∈(a.toList.drop ia).take k,L x z=false:=fun z hz=>by
  have:(!(L x z))=true:=k1 z hz;rwa [gp] at this
 have k2':∀z∈a.toList.drop (ia+k),Le L x z:=fun z hz=>by
  have:(!(L x z))=false:=k2 z hz;rw[nj] at this;exact H.O.km _ _ this
 dsimp only;by_cases hk0:k > 0
 ·rw[if_pos hk0];have h5:MI L a.toList b.toList (out++a.extract ia (ia+k)).toList (ia+k) ib:=by
   rw[Hh];exact h3.vz H.sa k fun z hz y' hy'=>H.O.fu z x y' (k1' z hz) (uS H.O (uR H.sb ib) dx y' hy')
  by_cases e:(ia+k+1==a.size)=true
  ·rw[if_pos e];rw[beq_iff_eq] at e;exact Ξ ⟨rfl,sm,Af H hL h5 e⟩
  rw[if_neg e];have e':ia+k+1≠a.size:=fun z=>e (by rw[z,beq_self_eq_true]);by_cases e2:(ia+k==a.size)=true
  ·rw[if_pos e2];rw[beq_iff_eq] at e2;exact Ξ ⟨rfl,sm,xM H h5 (.inl (by lia))⟩
  rw[if_neg e2];have e2':ia+k≠a.size:=fun z=>e2 (by rw[z,beq_self_eq_true]);exact back (Hg H hL hk' ⟨by lia,h2,h5⟩ (by unfold rem;lia) ex k2')
 ·rw[if_neg hk0];have k0:k=0:=by lia
  subst k0;exact back (Hg H hL hk' ⟨h1,h2,h3⟩ (Θ _) ex k2')
def Xx(L:ι->ι->Bool)(a b:Array ι)(R0:Nat)(r:ForInStep HS):Prop:=match r with
 |.done v=>∃res,v.1=some res/\Res L a.toList b.toList res.toList
 |.yield v=>v.1=none/\pS L a b v.2.1 v.2.2.1 v.2.2.2.1/\rem a b v.2.2.1 v.2.2.2.1<R0
theorem O9(H:MH prog w A κ s Ok L a b)(hL:oh L a b)(hk:kindOf st=κ){mg ia ib:Nat}{out:Array ι}(h:pS L a b out ia ib):
  kasC (model prog w) A E (E9 a b (none,out,ia,ib,mg)) (fun r st' s'=>s'=s/\dY st st'/\Xx L a b (rem a b ia ib) r) st s:=by
 unfold E9;dsimp only;have hr0:rem a b ia ib≤a.size+b.size:=by unfold rem;lia
 refine ω (dm ?_);refine kX (fun k (t:MS) st'=>st'=st/\t.1=none/\pS L a b t.2.1 t.2.2.1 t.2.2.2.1/\rem a b t.2.2.1 t.2.2.2.1≤k/\rem a b t.2.2.1 t.2.2.2.1≤rem a b ia ib) ?_ ?_ _ _ _ ⟨rfl,rfl,h,by rw[bR];exact hr0,Θ _⟩
 ·rintro⟨r,out,ia,ib,ac,bc⟩ st' ⟨rfl,rfl,h',hr,_⟩;obtain⟨h1,h2,_⟩:=h';have h1:ia+1<a.size:=h1;have hr:rem a b ia ib≤0:=hr;unfold rem at hr;lia
 rintro x k ⟨r,o1,i1,j1,ac,bc⟩ st' ⟨rfl,rfl,h',hr,hr2⟩;have hr:rem a b i1 j1≤k+1:=hr;have hr2:rem a b i1 j1≤rem a b ia ib:=hr2;refine nt (Pb H hL hk h') ?_;rintro r st'' s'' ⟨rfl,rfl,hp⟩;refine⟨rfl,?_⟩;cases r with
 |yield v=>
  obtain⟨v1,v2⟩:=hp;have v2:pS L a b v.2.1 v.2.2.1 v.2.2.2.1/\rem a b v.2.2.1 v.2.2.2.1<rem a b i1 j1:=v2;exact⟨rfl,v1,v2.1,by lia,by lia⟩
 |done v=>
  obtain⟨r,o2,i2,j2,ac2,bc2⟩:=v;have hp:PR L a b (rem a b i1 j1) r o2 i2 j2:=hp;cases r with
  |some res=>exact Ξ ⟨rfl,dY.rf,res,rfl,hp⟩
  |none=>
   have hp:pS L a b o2 i2 j2/\rem a b i2 j2<rem a b i1 j1:=hp;dsimp only;refine ω (lr (iN ?_));refine ω (dm ?_);have hr3:rem a b i2 j2≤a.size+b.size:=by lia
   refine kX (fun k (t:GS) st3=>dY st'' st3/\t.1=none/\pS L a b t.2.1 t.2.2.1 t.2.2.2.1/\rem a b t.2.2.1 t.2.2.2.1≤k/\rem a b t.2.2.1 t.2.2.2.1≤rem a b i2 j2) ?_ ?_ _ _ _ ⟨dY.rf,rfl,hp.1,by rw[bR];exact hr3,Θ _⟩
   ·rintro⟨r,out,i3,j3,m3,ac,bc⟩ st3 ⟨_,rfl,h',hr,_⟩;obtain⟨h1,h2,_⟩:=h';have h1:i3+1<a.size:=h1;have hr:rem a b i3 j3≤0:=hr;unfold rem at hr;lia
   rintro x k ⟨r,o3,i3,j3,m3,ac3,bc3⟩ st3 ⟨sm3,rfl,h',hr,hr2'⟩;have hr:rem a b i3 j3≤k+1:=hr;have hr2':rem a b i3 j3≤rem a b i2 j2:=hr2';have hk3:kindOf st3=κ:=sm3.1.trans hk;have go:∀m,kasC (model prog w) A E (vF a b m (none,o3,i3,j3,m3,ac3,bc3)) (fun r st' s'=>s'=s''/\dY st3 st'/\oZ L a b (rem a b i3 j3) r) st3 s'':=fun m=>Pa H hL hk3 h';have both:kasC (model prog w) A E (if m3 > 1 then vF a b (m3-1) (none,o3,i3,j3,m3,ac3,bc3) else vF a b m3 (none,o3,i3,j3,m3,ac3,bc3)) (fun r st' s'=>s'=s''/\dY st3 st'/\oZ L a b (rem a b i3 j3) r) st3 s'':=by
    by_cases g:m3 > 1
    ·rw[if_pos g];exact go _
    ·rw[if_neg g];exact go _
   refine nt both ?_;rintro r st4 s4 ⟨rfl,sm4,hp4⟩;refine⟨rfl,?_⟩;cases r with
   |yield v=>
    obtain⟨v1,v2⟩:=hp4;have v2:pS L a b v.2.1 v.2.2.1 v.2.2.2.1/\rem a b v.2.2.1 v.2.2.2.1<rem a b i3 j3:=v2;exact⟨sm3.tr sm4,v1,v2.1,by lia,by lia⟩
   |done v=>
    obtain⟨r,o5,i5,j5,m5,ac5,bc5⟩:=v;have hp4:PR L a b (rem a b i3 j3) r o5 i5 j5:=hp4;cases r with
    |some res=>exact Ξ ⟨rfl,sm3.tr sm4,res,rfl,hp4⟩
    |none=>
     have hp4:pS L a b o5 i5 j5/\rem a b i5 j5<rem a b i3 j3:=hp4;exact ω (Ai fun st5 sm5=>Ξ ⟨rfl,(sm3.tr sm4).tr sm5,rfl,hp4.1,by show rem a b i5 j5<rem a b ia ib;lia⟩)
theorem O8(H:MH prog w A κ s Ok L a b)(hL:oh L a b)(hk:kindOf st=κ)(ha:0<a.size){x y:ι}(ex:b[0]?=some x)(ey:a[0]?=some y)(hxy:L x y=true){Q:Array ι->aI->η->Prop}
  (q:∀res st',dY st st'->Res L a.toList b.toList res.toList->Q res st' s):kasC (model prog w) A E (rB a b) Q st s:=by
 have hb:0<b.size:=(aH.mp ex).1;obtain⟨x',ex',dx,mx⟩:=oJ hb;rw[ex] at ex';cases ex';obtain⟨y',ey',dy,my⟩:=oJ ha;rw[ey] at ey';cases ey';have h0:MI L a.toList b.toList (#[]:Array ι).toList 0 0:=⟨by simp,gm,nofun⟩;have h1:MI L a.toList b.toList (#[x]:Array ι).toList 0 1:=by
  have:=yy H h0 dx fun z hz=>H.O.fu x y z (H.O.km _ _ hxy) (uS H.O (uR H.sa 0) dy z hz);exact this
 rw[wJ];refine ω (lr (iN ?_));refine ω (jI ex ?_);by_cases e:(1==b.size)=true
 ·rw[if_pos e];rw[beq_iff_eq] at e;exact Ξ (q _ _ dY.rf (xM H h1 (.inr (by lia))))
 rw[if_neg e];have e':1≠b.size:=fun z=>e (by rw[←z];rfl);by_cases e2:(0+1==a.size)=true
 ·rw[if_pos e2];rw[beq_iff_eq] at e2;exact Ξ (q _ _ dY.rf (Af H hL h1 e2))
 rw[if_neg e2];have e2':0+1≠a.size:=fun z=>e2 (by rw[z,beq_self_eq_true]);refine ω (iP ?_);refine ω (dm ?_);refine kX (fun k (t:HS) st'=>dY st st'/\t.1=none/\pS L a b t.2.1 t.2.2.1 t.2.2.2.1/\rem a b t.2.2.1 t.2.2.2.1≤k) ?_ ?_ _ _ _ ⟨dY.rf,rfl,⟨by show 0+1<a.size;lia,by show 1<b.size;lia,h1⟩,by rw[bR];show rem a b 0 1≤a.size+b.size-0;unfold rem;lia⟩
 ·rintro⟨r,out,ia,ib,m⟩ st' ⟨_,rfl,h',hr⟩;obtain⟨h1,h2,_⟩:=h';have h1:ia+1<a.size:=h1;have hr:rem a b ia ib≤0:=hr;unfold rem at hr;lia
 ·rintro z k ⟨r,out,ia,ib,m⟩ st' ⟨sm,rfl,h',hr⟩;have hr:rem a b ia ib≤k+1:=hr;refine nt (O9 H hL (sm.1.trans hk) h') ?_;rintro r st'' s'' ⟨rfl,sm2,hp⟩;refine⟨rfl,?_⟩;cases r with
  |yield v=>
   obtain⟨v1,v2,v3⟩:=hp;exact⟨sm.tr sm2,v1,v2,by lia⟩
  |done v=>
   obtain⟨r,v⟩:=v;obtain⟨res,e,hres⟩:=hp;have e:r=some res:=e;subst e;exact Ξ (q res st'' (sm.tr sm2) hres)
end
end gs
namespace gs
open PySem PySem.W PyProof.Rows
def rC:Array ι->Array ι->SM (Array ι):=sortPriv% PySem.Builtin.mergeHi
def gq(a b out:Array ι)(na nb:Nat):Array ι:=a.extract 0 na++b.extract 0 nb++out.reverse
def jL(a b out:Array ι)(na nb:Nat):Array ι:=b.extract 0 nb++a.extract 0 na++out.reverse
theorem yZ(a b:Array ι):rC a b=(do
 rule "list.sort.merge-hi"
 let total:=a.size+b.size
 let mut na:=a.size-1
 let mut nb:=b.size
 let mut out:Array ι:=#[←elem' a na]
 if na==0 then return gq a b out na nb
 if nb==1 then return jL a b out na nb
 let mut minGallop:=gallopOf (←get)
 for _ in [0:total] do
  let mut acount:=0
  let mut bcount:=0
  for _ in [0:total] do
   let some aWins ←lt' (←elem' b (nb-1)) (←elem' a (na-1))|return gq a b out na nb
   if aWins then
    na:=na-1;out:=out.push (←elem' a na);acount:=acount+1;bcount:=0
    if na==0 then return gq a b out na nb
    if acount≥minGallop then break
   else
    nb:=nb-1;out:=out.push (←elem' b nb);bcount:=bcount+1;acount:=0
    if nb==1 then return jL a b out na nb
    if bcount≥minGallop then break
  rule "list.sort.gallop"
  minGallop:=minGallop+1
  for _ in [0:total] do
   if minGallop > 1 then minGallop:=minGallop-1
   dR minGallop
   let some at_ ←gF false (←elem' b (nb-1)) a 0 na (na-1)|return gq a b out na nb
   let k:=na-at_
   acount:=k
   if k > 0 then
    out:=out++(a.extract at_ na).reverse;na:=at_
    if na==0 then return gq a b out na nb
   nb:=nb-1;out:=out.push (←elem' b nb)
   if nb==1 then return jL a b out na nb
   let some at_ ←gF true (←elem' a (na-1)) b 0 nb (nb-1)|return gq a b out na nb
   let k:=nb-at_
   bcount:=k
   if k > 0 then
    out:=out++(b.extract at_ nb).reverse;nb:=at_
    if nb==1 then return jL a b out na nb
    if nb==0 then return gq a b out na nb
   na:=na-1;out:=out.push (←elem' a na)
   if na==0 then return gq a b out na nb
   if acount<7&&bcount<7 then break
  minGallop:=minGallop+1
  dR minGallop
 unsupported "internal:list.sort.merge-bound"):=rfl
abbrev GT:=Option (Array ι)×Nat×Nat×Array ι×Nat×Nat×Nat
abbrev MT:=Option (Array ι)×Nat×Nat×Array ι×Nat×Nat
abbrev HT:=Option (Array ι)×Nat×Nat×Array ι×Nat
def zv(a b:Array ι)(mg:Nat)(t:MT):SM (ForInStep MT):=do
 let x ←elem' b (t.2.2.1-1)
 let y ←elem' a (t.2.1-1)
 let r ←lt' x y
 match r with
 |some aWins=>
  if aWins=true then do
   let y ←elem' a (t.2.1-1)
   if (t.2.1-1==0)=true then pure (.done (some (gq a b (t.2.2.2.1.push y) (t.2.1-1) t.2.2.1),t.2.1-1,t.2.2.1,t.2.2.2.1.push y,t.2.2.2.2.1+1,0))
   else if t.2.2.2.2.1+1≥mg then pure (.done (none,t.2.1-1,t.2.2.1,t.2.2.2.1.push y,t.2.2.2.2.1+1,0))
   else pure (.yield (none,t.2.1-1,t.2.2.1,t.2.2.2.1.push y,t.2.2.2.2.1+1,0))
  else do
   let x ←elem' b (t.2.2.1-1)
   if (t.2.2.1-1==1)=true then pure (.done (some (jL a b (t.2.2.2.1.push x) t.2.1 (t.2.2.1-1)),t.2.1,t.2.2.1-1,t.2.2.2.1.push x,0,t.2.2.2.2.2+1))
   else if t.2.2.2.2.2+1≥mg then pure (.done (none,t.2.1,t.2.2.1-1,t.2.2.2.1.push x,0,t.2.2.2.2.2+1))
   else pure (.yield (none,t.2.1,t.2.2.1-1,t.2.2.2.1.push x,0,t.2.2.2.2.2+1))
 |_=>pure (.done (some (gq a b t.2.2.2.1 t.2.1 t.2.2.1),t.2.1,t.2.2.1,t.2.2.2.1,t.2.2.2.2.1,t.2.2.2.2.2))
def Fe(a b out:Array ι)(na nb mg ac bc:Nat):SM (ForInStep GT):=do
 let y ←elem' a (na-1)
 if (na-1==0)=true then pure (.done (some (gq a b (out.push y) (na-1) nb),na-1,nb,out.push y,mg,ac,bc))
 else if (decide (ac<7)&&decide (bc<7))=true then pure (.done (none,na-1,nb,out.push y,mg,ac,bc))
 else pure (.yield (none,na-1,nb,out.push y,mg,ac,bc))
def zu(a b out:Array ι)(na nb mg ac bc0:Nat):SM (ForInStep GT):=do
 let x ←elem' b (nb-1)
 if (nb-1==1)=true then pure (.done (some (jL a b (out.push x) na (nb-1)),na,nb-1,out.push x,mg,ac,bc0))
 else do
  let y ←elem' a (na-1)
  let r ←gF true y b 0 (nb-1) (nb-1-1)
  match r with
  |some at_=>
   if nb-1-at_ > 0 then
    if (at_==1)=true then pure (.done (some (jL a b (out.push x++(b.extract at_ (nb-1)).reverse) na at_),na,at_,out.push x++(b.extract at_ (nb-1)).reverse,mg,ac,nb-1-at_))
    else if (at_==0)=true then pure (.done (some (gq a b (out.push x++(b.extract at_ (nb-1)).reverse) na at_),na,at_,out.push x++(b.extract at_ (nb-1)).reverse,mg,ac,nb-1-at_))
    else Fe a b (out.push x++(b.extract at_ (nb-1)).reverse) na at_ mg ac (nb-1-at_)
   else Fe a b (out.push x) na (nb-1) mg ac (nb-1-at_)
  |_=>pure (.done (some (gq a b (out.push x) na (nb-1)),na,nb-1,out.push x,mg,ac,bc0))
def kl(a b:Array ι)(mg:Nat)(t:GT):SM (ForInStep GT):=do
 dR mg
 let x ←elem' b (t.2.2.1-1)
 let r ←gF false x a 0 t.2.1 (t.2.1-1)
 match r with
 |some at_=>
  if t.2.1-at_ > 0 then
   if (at_==0)=true then pure (.done (some (gq a b (t.2.2.2.1++(a.extract at_ t.2.1).reverse) at_ t.2.2.1),at_,t.2.2.1,t.2.2.2.1++(a.extract at_ t.2.1).reverse,mg,t.2.1-at_,t.2.2.2.2.2.2))
   else zu a b (t.2.2.2.1++(a.extract at_ t.2.1).reverse) at_ t.2.2.1 mg (t.2.1-at_) t.2.2.2.2.2.2
  else zu a b t.2.2.2.1 t.2.1 t.2.2.1 mg (t.2.1-at_) t.2.2.2.2.2.2
 |_=>pure (.done (some (gq a b t.2.2.2.1 t.2.1 t.2.2.1),t.2.1,t.2.2.1,t.2.2.2.1,mg,t.2.2.2.2.2.1,t.2.2.2.2.2.2))
def zw(a b:Array ι)(u:HT):SM (ForInStep HT):=do
 let t ←forIn [0:a.size+b.size] ((none,u.2.1,u.2.2.1,u.2.2.2.1,0,0):MT) fun _ t=>zv a b u.2.2.2.2 t
 match t.1 with
 |some r=>pure (.done (some r,t.2.1,t.2.2.1,t.2.2.2.1,u.2.2.2.2))
 |none=>do
  liftM (rule "list.sort.gallop")
  let v ←forIn [0:a.size+b.size] ((none,t.2.1,t.2.2.1,t.2.2.2.1,u.2.2.2.2+1,t.2.2.2.2.1,t.2.2.2.2.2):GT) fun _ v=>
   if v.2.2.2.2.1 > 1 then kl a b (v.2.2.2.2.1-1) v else kl a b v.2.2.2.2.1 v
  match v.1 with
  |some r=>pure (.done (some r,v.2.1,v.2.2.1,v.2.2.2.1,v.2.2.2.2.1))
  |none=>do
   dR (v.2.2.2.2.1+1)
   pure (.yield (none,v.2.1,v.2.2.1,v.2.2.2.1,v.2.2.2.2.1+1))
theorem wK(a b:Array ι):rC a b=(do
 liftM (rule "list.sort.merge-hi")
 let y ←elem' a (a.size-1)
 if (a.size-1==0)=true then pure (gq a b #[y] (a.size-1) b.size)
 else if (b.size==1)=true then pure (jL a b #[y] (a.size-1) b.size)
 else do
  let g ←get
  let u ←forIn [0:a.size+b.size] ((none,a.size-1,b.size,#[y],gallopOf g):HT) fun _ u=>zw a b u
  match u.1 with
  |some r=>pure r
  | none=>unsupported "internal:list.sort.merge-bound"):=by
 rw[yZ]
 refine congrArg (fun z=>(liftM (rule "list.sort.merge-hi"):SM Unit) >>= z) (funext fun _=>?_)
 refine congrArg (fun z=>elem' a (a.size-1) >>= z) (funext fun x=>?_)
 dsimp only
 refine congrArg (fun z=>if (a.size-1==0)=true then _ else z) ?_
 refine congrArg (fun z=>if (b.size==1)=true then _ else z) ?_
 refine congrArg (fun z=>(get:SM aI) >>= z) (funext fun g=>?_)
 refine eO (p8 fun _ u=>?_) (fun u=>by obtain⟨r,u⟩:=u;cases r<;>rfl)
 unfold zw
 refine eO (p8 fun _ t=>?_) (fun t=>?_)
 ·rfl
 obtain⟨r,t⟩:=t
 cases r with
 |some r=>rfl
 |none=>
  dsimp only
  refine eO rfl fun _=>?_
  refine eO (p8 fun _ v=>?_) (fun v=>?_)
  ·by_cases h:v.2.2.2.2.1 > 1
   ·rw[if_pos h,if_pos h]
    unfold kl
    refine eO rfl fun _=>?_
    refine eO rfl fun x=>?_
    refine eO rfl fun r=>?_
    cases r with
    |none=>rfl
    |some k=>
     dsimp only
     by_cases h1:v.2.1-k > 0
     ·rw[if_pos h1,if_pos h1]
      rfl
     ·rw[if_neg h1,if_neg h1]
      rfl
   ·rw[if_neg h,if_neg h]
    unfold kl
    refine eO rfl fun _=>?_
    refine eO rfl fun x=>?_
    refine eO rfl fun r=>?_
    cases r with
    |none=>rfl
    |some k=>
     dsimp only
     by_cases h1:v.2.1-k > 0
     ·rw[if_pos h1,if_pos h1]
      rfl
     ·rw[if_neg h1,if_neg h1]
      rfl
  ·obtain⟨r,v⟩:=v
   cases r<;>rfl
end gs
namespace gs
open PySem PySem.W PyProof.Rows
section
variable {L:ι->ι->Bool} {al bl:List ι}
structure MJ(L:ι->ι->Bool)(al bl out:List ι)(na nb:Nat):Prop where
 perm:(al.take na++(bl.take nb++out.reverse)).Perm (al++bl)
 gU:out.Pairwise fun x y=>Le L y x
 hi:∀x∈al.take na++bl.take nb,∀y∈out,Le L x y
theorem Hf(xs:List ι){i n:Nat}(h:i≤n):xs.take n=xs.take i++(xs.take n).drop i:=by
 have:=bY i (xs.take n);rw[qP,jv h] at this;exact this.symm
theorem MJ.vz{out:List ι}{na nb:Nat}(h:MJ L al bl out na nb)(hs:al.Pairwise (Le L)){i:Nat}(hi:i≤na)(hx:∀z∈(al.take na).drop i,∀x∈bl.take nb,Le L x z):MJ L al bl (out++((al.take na).drop i).reverse) i nb:=by
 have e:=Hf al hi;have hs':(al.take na).Pairwise (Le L):=hs.sublist (dw _ _);rw[e,ao] at hs';refine⟨?_,?_,fun x hx' y hy=>?_⟩
 ·refine cE ?_ h.perm;have e2:al.take na++(bl.take nb++out.reverse)=al.take i++((al.take na).drop i++(bl.take nb++out.reverse)):=
   (congrArg (· ++ (bl.take nb++out.reverse)) e).trans (aq _ _ _)
  rw[e2,sG,sd];refine cp _ ?_;rw[←aq,←aq];exact cf _ iy
 ·rw[ao];refine⟨h.gU,?_,fun x hx' y hy=>h.hi y (bf _ (cT (fI.mp hy))) x hx'⟩;rw[eW];exact hs'.2.1
 ·rcases ag.mp hy with z|z
  ·refine h.hi x ?_ y z;rcases ag.mp hx' with z2|z2
   ·rw[e];exact bf _ (bf _ z2)
   ·exact ay _ z2
  ·have z:=fI.mp z;rcases ag.mp hx' with z2|z2
   ·exact hs'.2.2 x z2 y z
   ·exact hx y z x z2
theorem MJ.vw{out:List ι}{na nb:Nat}(h:MJ L al bl out na nb)(hs:bl.Pairwise (Le L)){i:Nat}(hi:i≤nb)(hx:∀z∈(bl.take nb).drop i,∀x∈al.take na,Le L x z):MJ L al bl (out++((bl.take nb).drop i).reverse) na i:=by
 have e:=Hf bl hi;have hs':(bl.take nb).Pairwise (Le L):=hs.sublist (dw _ _);rw[e,ao] at hs';refine⟨?_,?_,fun x hx' y hy=>?_⟩
 ·refine cE (v9 ?_) h.perm;have e2:bl.take nb++out.reverse=bl.take i++((bl.take nb).drop i++out.reverse):=
   (congrArg (· ++ out.reverse) e).trans (aq _ _ _)
  rw[e2,sG,sd]
 ·rw[ao];refine⟨h.gU,?_,fun x hx' y hy=>h.hi y (ay _ (cT (fI.mp hy))) x hx'⟩;rw[eW];exact hs'.2.1
 ·rcases ag.mp hy with z|z
  ·refine h.hi x ?_ y z;rcases ag.mp hx' with z2|z2
   ·exact bf _ z2
   ·rw[e];exact ay _ (bf _ z2)
  ·have z:=fI.mp z;rcases ag.mp hx' with z2|z2
   ·exact hx y z x z2
   ·exact hs'.2.2 x z2 y z
theorem He{out:List ι}(h:out.Pairwise fun x y=>Le L y x):out.reverse.Pairwise (Le L):=by
 rw[eW];exact h
theorem MJ.done{out:List ι}{na nb:Nat}(h:MJ L al bl out na nb)(ha:al.Pairwise (Le L))(hb:bl.Pairwise (Le L))(he:na=0∨nb=0):Res L al bl (al.take na++bl.take nb++out.reverse):=by
 refine⟨by have:=h.perm;rwa [←aq] at this,?_⟩;have h1:(al.take na++bl.take nb).Pairwise (Le L):=by
  rcases he with rfl|rfl
  ·rw[mL,cS];exact hb.sublist (dw _ _)
  ·rw[mL,bF];exact ha.sublist (dw _ _)
 rw[ao];exact⟨h1,He h.gU,fun x hx y hy=>h.hi x hx y (fI.mp hy)⟩
theorem MJ.first{out:List ι}{na nb:Nat}(h:MJ L al bl out na nb)(ha:al.Pairwise (Le L)){z:ι}(he:bl.take nb=[z])(hz:∀x∈al,Le L z x):Res L al bl (bl.take nb++al.take na++out.reverse):=by
 refine⟨cE ?_ h.perm,?_⟩
 ·rw[←aq];exact cf _ iy
 ·rw[ao];refine⟨?_,He h.gU,fun x hx y hy=>h.hi x ?_ y (fI.mp hy)⟩
  ·rw[he,ao];refine⟨bJ _ _,ha.sublist (dw _ _),fun x hx y hy=>?_⟩;rw[aL.mp hx];exact hz y (cb hy)
  ·rcases ag.mp hx with q|q
   ·exact ay _ q
   ·exact bf _ q
end
section
variable {prog:Ω} {w:aw} {A:aF} {E:δ->η->Prop} {κ:cG} {s:η} {Ok:ι->Prop} {L:ι->ι->Bool} {st:aI} {a b:Array ι}
theorem Bu(a:Array ι)(n:Nat):(a.extract 0 n).toList=a.toList.take n:=by
 rw[xN,mM,Nat.sub_zero]
theorem Ow(a b out:Array ι)(na nb:Nat):(gq a b out na nb).toList=a.toList.take na++b.toList.take nb++out.toList.reverse:=by
 unfold gq;rw[cH,cH,Bu,Bu,me]
theorem Ov(a b out:Array ι)(na nb:Nat):(jL a b out na nb).toList=b.toList.take nb++a.toList.take na++out.toList.reverse:=by
 unfold jL;rw[cH,cH,Bu,Bu,me]
def pR(L:ι->ι->Bool)(a b out:Array ι)(na nb:Nat):Prop:=(0<na/\na≤a.size)/\(1<nb/\nb≤b.size)/\MJ L a.toList b.toList out.toList na nb
def PJ(L:ι->ι->Bool)(a b:Array ι)(R0:Nat)(r:Option (Array ι))(out:Array ι)(na nb:Nat):Prop:=match r with
 |some res=>Res L a.toList b.toList res.toList
 |none=>pR L a b out na nb/\na+nb<R0
def o9(L:ι->ι->Bool)(a b:Array ι):Prop:=∀z,b[0]?=some z->∀x∈a.toList,Le L z x
theorem xK(H:MH prog w A κ s Ok L a b){out:Array ι}{na nb:Nat}(h:MJ L a.toList b.toList out.toList na nb)(he:na=0∨nb=0):Res L a.toList b.toList (gq a b out na nb).toList:=by
 rw[Ow];exact h.done H.sa H.sb he
theorem Ad(H:MH prog w A κ s Ok L a b)(hF:o9 L a b){out:Array ι}{na nb:Nat}(h:MJ L a.toList b.toList out.toList na nb)(he:nb=1)(hb:0<b.size):Res L a.toList b.toList (jL a b out na nb).toList:=by
 rw[Ov];obtain⟨x,e1,e2,_⟩:=oJ hb;subst he;rw[mM] at e2;refine h.first H.sa (z:=x) ?_ (hF x e1)
 rw[e2];rfl
theorem uQ{a:Array ι}{n:Nat}(h0:0<n)(hn:n≤a.size):∃x,a[n-1]?=some x/\(a.toList.take n).drop (n-1)=[x]/\x∈a.toList/\∀z∈a.toList.take n,∃i,i≤n-1/\a.toList[i]?=some z:=by
 have h':n-1<a.toList.length:=by rw[aN];lia
 refine⟨a[n-1],e6 (by lia),?_,ee.mpr (uF _),fun z hz=>?_⟩
 ·rw[List.drop_take,show n-(n-1)=1 by lia,dE h',sf];rfl
 ·obtain⟨i,hi,e⟩:=fC hz;rw[br] at hi;refine⟨i,by lia,?_⟩;have:=az (l:=a.toList.take n) (i:=i) (by rw[br];lia);rw[e,dQ (by lia)] at this;exact this
theorem Ac(O:hJ L){a:Array ι}(hs:a.toList.Pairwise (Le L)){n:Nat}{x:ι}(ex:a[n-1]?=some x)(hm:∀z∈a.toList.take n,∃i,i≤n-1/\a.toList[i]?=some z):∀z∈a.toList.take n,Le L z x:=fun z hz=>by
 obtain⟨i,hi,e⟩:=hm z hz;exact pw_get hs O hi e (by rw[af];exact ex)
theorem wM(H:MH prog w A κ s Ok L a b){out:Array ι}{na nb:Nat}{y:ι}(h:MJ L a.toList b.toList out.toList na nb)(h0:0<na)(e:(a.toList.take na).drop (na-1)=[y])(hx:∀z∈b.toList.take nb,Le L z y):MJ L a.toList b.toList (out.push y).toList (na-1) nb:=by
 have:=h.vz H.sa (i:=na-1) (by lia) (by rw[e];intro z hz x hx';rw[aL.mp hz];exact hx x hx');rw[e] at this;rw[Ae];exact this
theorem zt(H:MH prog w A κ s Ok L a b){out:Array ι}{na nb:Nat}{x:ι}(h:MJ L a.toList b.toList out.toList na nb)(h0:0<nb)(e:(b.toList.take nb).drop (nb-1)=[x])(hx:∀z∈a.toList.take na,Le L z x):MJ L a.toList b.toList (out.push x).toList na (nb-1):=by
 have:=h.vw H.sb (i:=nb-1) (by lia) (by rw[e];intro z hz y hy;rw[aL.mp hz];exact hx y hy);rw[e] at this;rw[Ae];exact this
def Xu(L:ι->ι->Bool)(a b:Array ι)(R0:Nat)(r:ForInStep MT):Prop:=match r with
 |.done v=>PJ L a b R0 v.1 v.2.2.2.1 v.2.1 v.2.2.1
 |.yield v=>v.1=none/\PJ L a b R0 none v.2.2.2.1 v.2.1 v.2.2.1
theorem Ou(H:MH prog w A κ s Ok L a b)(hF:o9 L a b)(hk:kindOf st=κ){mg ac bc na nb:Nat}{out:Array ι}(h:pR L a b out na nb):
  kasC (model prog w) A E (zv a b mg (none,na,nb,out,ac,bc)) (fun r st' s'=>s'=s/\st'=st/\Xu L a b (na+nb) r) st s:=by
 obtain⟨h1,h2,h3⟩:=h;obtain⟨x,ex,dx,mx,lx⟩:=uQ (a:=b) (n:=nb) (by lia) h2.2;obtain⟨y,ey,dy,my,ly⟩:=uQ h1.1 h1.2;unfold zv;dsimp only;refine ω (jI ex (ω (jI ey (ω (xw H.C hk (H.ob x mx) (H.oa y my) ?_)))));dsimp only;cases hl:L x y with
 |true=>
  rw[if_pos rfl];have h4:=wM H h3 h1.1 dy fun z hz=>H.O.fu z x y (Ac H.O H.sb ex lx z hz) (H.O.km _ _ hl);refine ω (jI ey ?_);by_cases e:(na-1==0)=true
  ·rw[if_pos e];rw[beq_iff_eq] at e;exact Ξ ⟨rfl,rfl,xK H h4 (.inl e)⟩
  ·rw[if_neg e];have e':na-1≠0:=fun z=>e (by rw[z];rfl);have pr:PJ L a b (na+nb) none (out.push y) (na-1) nb:=⟨⟨⟨by lia,by lia⟩,h2,h4⟩,by lia⟩;by_cases g:ac+1≥mg
   ·rw[if_pos g];exact Ξ ⟨rfl,rfl,pr⟩
   ·rw[if_neg g];exact Ξ ⟨rfl,rfl,rfl,pr⟩
 |false=>
  rw[if_neg Ψ];have h4:=zt H h3 (by lia) dx fun z hz=>H.O.fu z y x (Ac H.O H.sa ey ly z hz) hl;refine ω (jI ex ?_);by_cases e:(nb-1==1)=true
  ·rw[if_pos e];rw[beq_iff_eq] at e;exact Ξ ⟨rfl,rfl,Ad H hF h4 e (by lia)⟩
  ·rw[if_neg e];have e':nb-1≠1:=fun z=>e (by rw[z];rfl);have pr:PJ L a b (na+nb) none (out.push x) na (nb-1):=⟨⟨h1,⟨by lia,by lia⟩,h4⟩,by lia⟩;by_cases g:bc+1≥mg
   ·rw[if_pos g];exact Ξ ⟨rfl,rfl,pr⟩
   ·rw[if_neg g];exact Ξ ⟨rfl,rfl,rfl,pr⟩
def yT(L:ι->ι->Bool)(a b:Array ι)(R0:Nat)(r:ForInStep GT):Prop:=match r with
 |.done v=>PJ L a b R0 v.1 v.2.2.2.1 v.2.1 v.2.2.1
 |.yield v=>v.1=none/\PJ L a b R0 none v.2.2.2.1 v.2.1 v.2.2.1
theorem Hd(H:MH prog w A κ s Ok L a b){R0 mg ac bc na nb:Nat}{out:Array ι}{y:ι}(h:pR L a b out na nb)(hr:na+nb≤R0)(ey:a[na-1]?=some y)(hy:∀z∈b.toList.take nb,Le L z y):
  kasC (model prog w) A E (Fe a b out na nb mg ac bc) (fun r st' s'=>s'=s/\st'=st/\yT L a b R0 r) st s:=by
 obtain⟨h1,h2,h3⟩:=h;obtain⟨y',ey',dy,my,ly⟩:=uQ h1.1 h1.2;rw[ey] at ey';cases ey';have h4:=wM H h3 h1.1 dy hy;unfold Fe;refine ω (jI ey ?_);by_cases e:(na-1==0)=true
 ·rw[if_pos e];rw[beq_iff_eq] at e;exact Ξ ⟨rfl,rfl,xK H h4 (.inl e)⟩
 ·rw[if_neg e];have e':na-1≠0:=fun z=>e (by rw[z];rfl);have pr:PJ L a b R0 none (out.push y) (na-1) nb:=⟨⟨⟨by lia,by lia⟩,h2,h4⟩,by lia⟩;by_cases g:(decide (ac<7)&&decide (bc<7))=true
  ·rw[if_pos g];exact Ξ ⟨rfl,rfl,pr⟩
  ·rw[if_neg g];exact Ξ ⟨rfl,rfl,rfl,pr⟩
theorem wa(arr:Array ι)(n:Nat):sl arr 0 n=arr.toList.take n:=by
 unfold sl;rw[mM]
theorem Hc(out arr:Array ι)(i n:Nat):(out++(arr.extract i n).reverse).toList=out.toList++((arr.toList.take n).drop i).reverse:=by
 rw[cH,me,xN,List.drop_take]
theorem G9{xs:List ι}(h:xs.Pairwise (Le L))(i:Nat):(xs.take i).Pairwise (Le L):=h.sublist (dw _ _)
theorem G8(H:MH prog w A κ s Ok L a b)(hF:o9 L a b)(hk:kindOf st=κ){R0 mg ac bc na nb:Nat}{out:Array ι}{x:ι}(h:pR L a b out na nb)(hr:na+nb≤R0)(ex:b[nb-1]?=some x)(hx:∀z∈a.toList.take na,Le L z x):
  kasC (model prog w) A E (zu a b out na nb mg ac bc) (fun r st' s'=>s'=s/\st'=st/\yT L a b R0 r) st s:=by
 obtain⟨h1,h2,h3⟩:=h;obtain⟨x',ex',dx,mx,lx⟩:=uQ (a:=b) (n:=nb) (by lia) h2.2;rw[ex] at ex';cases ex';obtain⟨y,ey,dy,my,ly⟩:=uQ h1.1 h1.2;have h4:=zt H h3 (by lia) dx hx;unfold zu;refine ω (jI ex ?_);by_cases e:(nb-1==1)=true
 ·rw[if_pos e];rw[beq_iff_eq] at e;exact Ξ ⟨rfl,rfl,Ad H hF h4 e (by lia)⟩
 rw[if_neg e];have e':nb-1≠1:=fun z=>e (by rw[z];rfl);refine ω (jI ey (ω (wt H.C H.O hk (by lia) (by lia) (H.oa y my) (fun z hz=>?_) ?_ fun k hkn k1 k2=>?_)))
 ·rw[wa] at hz;exact H.ob z (cb hz)
 ·rw[wa];exact G9 H.sb _
 rw[wa] at k1 k2;rw[qP,jv hkn] at k1;have k1':∀z∈b.toList.take k,Le L z y:=fun z hz=>H.O.km _ _ (k1 z hz);have k2':∀z∈(b.toList.take (nb-1)).drop k,Le L y z:=fun z hz=>k2 z hz;dsimp only;by_cases hk0:nb-1-k > 0
 ·rw[if_pos hk0];have h5:MJ L a.toList b.toList (out.push x++(b.extract k (nb-1)).reverse).toList na k:=by
   rw[Hc];exact h4.vw H.sb (by lia) fun z hz y' hy'=>H.O.fu y' y z (Ac H.O H.sa ey ly y' hy') (k2' z hz)
  by_cases e2:(k==1)=true
  ·rw[if_pos e2];rw[beq_iff_eq] at e2;exact Ξ ⟨rfl,rfl,Ad H hF h5 e2 (by lia)⟩
  rw[if_neg e2];have e2':k≠1:=fun z=>e2 (by rw[z];rfl);by_cases e3:(k==0)=true
  ·rw[if_pos e3];rw[beq_iff_eq] at e3;exact Ξ ⟨rfl,rfl,xK H h5 (.inr e3)⟩
  rw[if_neg e3];have e3':k≠0:=fun z=>e3 (by rw[z];rfl);exact Hd H ⟨h1,⟨by lia,by lia⟩,h5⟩ (by lia) ey k1'
 ·rw[if_neg hk0];have k0:k=nb-1:=by lia
  subst k0;exact Hd H ⟨h1,⟨by lia,by lia⟩,h4⟩ (by lia) ey k1'
theorem Ot(H:MH prog w A κ s Ok L a b)(hF:o9 L a b)(hk:kindOf st=κ){mg m0 ac bc na nb:Nat}{out:Array ι}(h:pR L a b out na nb):
  kasC (model prog w) A E (kl a b mg (none,na,nb,out,m0,ac,bc)) (fun r st' s'=>s'=s/\dY st st'/\yT L a b (na+nb) r) st s:=by
 obtain⟨h1,h2,h3⟩:=h;obtain⟨x,ex,dx,mx,lx⟩:=uQ (a:=b) (n:=nb) (by lia) h2.2;unfold kl;dsimp only;refine ω (Ai fun st' sm=>?_);have hk':kindOf st'=κ:=sm.1.trans hk;have back:∀{m:SM (ForInStep GT)},kasC (model prog w) A E m (fun r st'' s'=>s'=s/\st''=st'/\yT L a b (na+nb) r) st' s->kasC (model prog w) A E m (fun r st'' s'=>s'=s/\dY st st''/\yT L a b (na+nb) r) st' s:=fun hm=>nt hm fun r st'' s' ⟨z1,z2,z3⟩=>⟨z1,by rw[z2];exact sm,z3⟩;refine ω (jI ex (ω (wt H.C H.O hk' (by lia) (by lia) (H.ob x mx) (fun z hz=>?_) ?_ fun k hkn k1 k2=>?_)))
 ·rw[wa] at hz;exact H.oa z (cb hz)
 ·rw[wa];exact G9 H.sa _
 rw[wa] at k1 k2;rw[qP,jv hkn] at k1;have k1':∀z∈a.toList.take k,Le L z x:=fun z hz=>by
  have:(!(L x z))=true:=k1 z hz;rwa [gp] at this
 have k2':∀z∈(a.toList.take na).drop k,Le L x z:=fun z hz=>by
  have:(!(L x z))=false:=k2 z hz;rw[nj] at this;exact H.O.km _ _ this
 dsimp only;by_cases hk0:na-k > 0
 ·rw[if_pos hk0];have h5:MJ L a.toList b.toList (out++(a.extract k na).reverse).toList k nb:=by
   rw[Hc];exact h3.vz H.sa (by lia) fun z hz y' hy'=>H.O.fu y' x z (Ac H.O H.sb ex lx y' hy') (k2' z hz)
  by_cases e:(k==0)=true
  ·rw[if_pos e];rw[beq_iff_eq] at e;exact Ξ ⟨rfl,sm,xK H h5 (.inl e)⟩
  rw[if_neg e];have e':k≠0:=fun z=>e (by rw[z];rfl);exact back (G8 H hF hk' ⟨⟨by lia,by lia⟩,h2,h5⟩ (by lia) ex k1')
 ·rw[if_neg hk0];have k0:k=na:=by lia
  subst k0;exact back (G8 H hF hk' ⟨h1,h2,h3⟩ (Θ _) ex k1')
def Xw(L:ι->ι->Bool)(a b:Array ι)(R0:Nat)(r:ForInStep HT):Prop:=match r with
 |.done v=>∃res,v.1=some res/\Res L a.toList b.toList res.toList
 |.yield v=>v.1=none/\pR L a b v.2.2.2.1 v.2.1 v.2.2.1/\v.2.1+v.2.2.1<R0
theorem Oq(H:MH prog w A κ s Ok L a b)(hF:o9 L a b)(hk:kindOf st=κ){mg na nb:Nat}{out:Array ι}(h:pR L a b out na nb):
  kasC (model prog w) A E (zw a b (none,na,nb,out,mg)) (fun r st' s'=>s'=s/\dY st st'/\Xw L a b (na+nb) r) st s:=by
 unfold zw;dsimp only;have hr0:na+nb≤a.size+b.size:=by
  have:=h.1.2;have:=h.2.1.2;lia
 refine ω (dm ?_);refine kX (fun k (t:MT) st'=>st'=st/\t.1=none/\pR L a b t.2.2.2.1 t.2.1 t.2.2.1/\t.2.1+t.2.2.1≤k/\t.2.1+t.2.2.1≤na+nb) ?_ ?_ _ _ _ ⟨rfl,rfl,h,by rw[bR];exact hr0,Θ _⟩
 ·rintro⟨r,na,nb,out,ac,bc⟩ st' ⟨rfl,rfl,h',hr,_⟩;have h1:0<na:=h'.1.1;have hr:na+nb≤0:=hr;lia
 rintro x k ⟨r,i1,j1,o1,ac,bc⟩ st' ⟨rfl,rfl,h',hr,hr2⟩;have hr:i1+j1≤k+1:=hr;have hr2:i1+j1≤na+nb:=hr2;refine nt (Ou H hF hk h') ?_;rintro r st'' s'' ⟨rfl,rfl,hp⟩;refine⟨rfl,?_⟩;cases r with
 |yield v=>
  obtain⟨v1,v2⟩:=hp;have v2:pR L a b v.2.2.2.1 v.2.1 v.2.2.1/\v.2.1+v.2.2.1<i1+j1:=v2;exact⟨rfl,v1,v2.1,by lia,by lia⟩
 |done v=>
  obtain⟨r,i2,j2,o2,ac2,bc2⟩:=v;have hp:PJ L a b (i1+j1) r o2 i2 j2:=hp;cases r with
  |some res=>exact Ξ ⟨rfl,dY.rf,res,rfl,hp⟩
  |none=>
   have hp:pR L a b o2 i2 j2/\i2+j2<i1+j1:=hp;dsimp only;refine ω (lr (iN ?_));refine ω (dm ?_);have hr3:i2+j2≤a.size+b.size:=by lia
   refine kX (fun k (t:GT) st3=>dY st'' st3/\t.1=none/\pR L a b t.2.2.2.1 t.2.1 t.2.2.1/\t.2.1+t.2.2.1≤k/\t.2.1+t.2.2.1≤i2+j2) ?_ ?_ _ _ _ ⟨dY.rf,rfl,hp.1,by rw[bR];exact hr3,Θ _⟩
   ·rintro⟨r,i3,j3,out,m3,ac,bc⟩ st3 ⟨_,rfl,h',hr,_⟩;have h1:0<i3:=h'.1.1;have hr:i3+j3≤0:=hr;lia
   rintro x k ⟨r,i3,j3,o3,m3,ac3,bc3⟩ st3 ⟨sm3,rfl,h',hr,hr2'⟩;have hr:i3+j3≤k+1:=hr;have hr2':i3+j3≤i2+j2:=hr2';have hk3:kindOf st3=κ:=sm3.1.trans hk;have go:∀m,kasC (model prog w) A E (kl a b m (none,i3,j3,o3,m3,ac3,bc3)) (fun r st' s'=>s'=s''/\dY st3 st'/\yT L a b (i3+j3) r) st3 s'':=fun m=>Ot H hF hk3 h';have both:kasC (model prog w) A E (if m3 > 1 then kl a b (m3-1) (none,i3,j3,o3,m3,ac3,bc3) else kl a b m3 (none,i3,j3,o3,m3,ac3,bc3)) (fun r st' s'=>s'=s''/\dY st3 st'/\yT L a b (i3+j3) r) st3 s'':=by
    by_cases g:m3 > 1
    ·rw[if_pos g];exact go _
    ·rw[if_neg g];exact go _
   refine nt both ?_;rintro r st4 s4 ⟨rfl,sm4,hp4⟩;refine⟨rfl,?_⟩;cases r with
   |yield v=>
    obtain⟨v1,v2⟩:=hp4;have v2:pR L a b v.2.2.2.1 v.2.1 v.2.2.1/\v.2.1+v.2.2.1<i3+j3:=v2;exact⟨sm3.tr sm4,v1,v2.1,by lia,by lia⟩
   |done v=>
    obtain⟨r,i5,j5,o5,m5,ac5,bc5⟩:=v;have hp4:PJ L a b (i3+j3) r o5 i5 j5:=hp4;cases r with
    |some res=>exact Ξ ⟨rfl,sm3.tr sm4,res,rfl,hp4⟩
    |none=>
     have hp4:pR L a b o5 i5 j5/\i5+j5<i3+j3:=hp4;exact ω (Ai fun st5 sm5=>Ξ ⟨rfl,(sm3.tr sm4).tr sm5,rfl,hp4.1,by show i5+j5<na+nb;lia⟩)
theorem Oo(H:MH prog w A κ s Ok L a b)(hL:oh L a b)(hF:o9 L a b)(hk:kindOf st=κ)(ha:0<a.size)(hb:0<b.size){Q:Array ι->aI->η->Prop}
  (q:∀res st',dY st st'->Res L a.toList b.toList res.toList->Q res st' s):kasC (model prog w) A E (rC a b) Q st s:=by
 obtain⟨y,ey,dy,my,ly⟩:=uQ ha (Θ a.size);have h0:MJ L a.toList b.toList (#[]:Array ι).toList a.size b.size:=by
  refine⟨?_,gm,fun x hx y hy=>nomatch hy⟩;rw[cC (by rw[aN];exact Θ _),cC (by rw[aN];exact Θ _)];simp
 have h1:MJ L a.toList b.toList (#[y]:Array ι).toList (a.size-1) b.size:=wM H h0 ha dy fun z hz=>H.O.km _ _ (hL y ey z (cb hz));rw[wK];refine ω (lr (iN ?_));refine ω (jI ey ?_);by_cases e:(a.size-1==0)=true
 ·rw[if_pos e];rw[beq_iff_eq] at e;exact Ξ (q _ _ dY.rf (xK H h1 (.inl e)))
 rw[if_neg e];have e':a.size-1≠0:=fun z=>e (by rw[z];rfl);by_cases e2:(b.size==1)=true
 ·rw[if_pos e2];rw[beq_iff_eq] at e2;exact Ξ (q _ _ dY.rf (Ad H hF h1 e2 hb))
 rw[if_neg e2];have e2':b.size≠1:=fun z=>e2 (by rw[z];rfl);refine ω (iP ?_);refine ω (dm ?_);refine kX (fun k (t:HT) st'=>dY st st'/\t.1=none/\pR L a b t.2.2.2.1 t.2.1 t.2.2.1/\t.2.1+t.2.2.1≤k) ?_ ?_ _ _ _ ⟨dY.rf,rfl,⟨⟨by show 0<a.size-1;lia,by show a.size-1≤a.size;lia⟩,⟨by show 1<b.size;lia,Θ _⟩,h1⟩,by rw[bR];show a.size-1+b.size≤a.size+b.size-0;lia⟩
 ·rintro⟨r,na,nb,out,m⟩ st' ⟨_,rfl,h',hr⟩;have h1:0<na:=h'.1.1;have hr:na+nb≤0:=hr;lia
 ·rintro z k ⟨r,na,nb,out,m⟩ st' ⟨sm,rfl,h',hr⟩;have hr:na+nb≤k+1:=hr;refine nt (Oq H hF (sm.1.trans hk) h') ?_;rintro r st'' s'' ⟨rfl,sm2,hp⟩;refine⟨rfl,?_⟩;cases r with
  |yield v=>
   obtain⟨v1,v2,v3⟩:=hp;exact⟨sm.tr sm2,v1,v2,by lia⟩
  |done v=>
   obtain⟨r,v⟩:=v;obtain⟨res,e,hres⟩:=hp;have e:r=some res:=e;subst e;exact Ξ (q res st'' (sm.tr sm2) hres)
end
end gs
namespace gs
open PySem PySem.W PyProof.Rows
def mergeAt':Nat->SM Bool:=sortPriv% PySem.Builtin.mergeAt
abbrev zj(st:aI)(p:Array (Nat×Nat×Nat)):aI:=rZ (kindOf st) (arrOf st) p (gallopOf st) (failedOf st)
def BR(base:Nat)(xs:List (ι×Nat))(a:Array ι):Array ι:=xs.foldl (fun a (p,j)=>a.setIfInBounds (base+j) p) a
theorem y9(i:Nat):mergeAt' i=(do
 let s ←get
 let (some (sa,na,power),some (sb,nb,_)):=((pendingOf s)[i]?,(pendingOf s)[i+1]?)|unsupported "internal:list.sort.pending"
 set (zj s (((pendingOf s).setIfInBounds i (sa,na+nb,power)).eraseIdxIfInBounds (i+1)))
 let some k ←gF false (←elem' (arrOf s) sb) (arrOf s) sa na 0|return false
 let (sa,na):=(sa+k,na-k)
 if na==0 then return true
 let some nb ←gF true (←elem' (arrOf s) (sa+na-1)) (arrOf s) sb nb (nb-1)|return false
 if nb==0 then return true
 let x:=(arrOf s).extract sa sb
 let y:=(arrOf s).extract sb (sb+nb)
 let merged ←if na≤nb then rB x y else rC x y
 modify fun s=>setArr s (BR sa merged.toList.zipIdx (arrOf s))
 return (failedOf (←get)).isNone):=rfl
theorem Om(base:Nat):∀(xs:List ι) (k:Nat) (a:Array ι) (P X S:List ι),a.toList=P++X++S->P.length=base+k->X.length=xs.length->(BR base (xs.zipIdx k) a).toList=P++xs++S:=by
 intro xs
 induction xs with
 |nil=>
  intro k a P X S e h1 h2;have:X=[]:=cV h2;subst this;exact e
 |cons x xs ih=>
  intro k a P X S e h1 h2;cases X with
  |nil=>cases h2
  |cons z X=>
   have h2:X.length=xs.length:=by simpa using h2
   show (BR base (xs.zipIdx (k+1)) (a.setIfInBounds (base+k) x)).toList=_;have e2:(a.setIfInBounds (base+k) x).toList=(P++[x])++X++S:=by
    rw[nR,e,←h1,aq,qQ _ _ (Θ _),tZ];simp
   rw[ih (k+1) _ (P++[x]) X S e2 (by rw[ψ,h1];rfl) h2];simp
section
variable {prog:Ω} {w:aw} {A:aF} {E:δ->η->Prop} {κ:cG} {s:η} {Ok:ι->Prop} {L:ι->ι->Bool} {st:aI}
theorem Ol{st':aI}{Q:PUnit->aI->η->Prop}(h:Q ⟨⟩ st' s):kasC (model prog w) A E (set st':SM PUnit) Q st s:=by
 unfold kasC;rw[StateT.run_set];exact ο h
theorem CN{arr:Array ι}{P X S:List ι}(e:arr.toList=P++X++S):sl arr P.length X.length=X:=by
 unfold sl;rw[e,aq,List.drop_left,List.take_left]
theorem xJ{arr:Array ι}{P S:List ι}{x:ι}(e:arr.toList=P++x::S):arr[P.length]?=some x:=by
 rw[←af,e,bD (Θ _),tZ];rfl
theorem G7{arr:Array ι}{P X S:List ι}(e:arr.toList=P++X++S):(arr.extract P.length (P.length+X.length)).toList=X:=by
 rw[xN,show P.length+X.length-P.length=X.length by lia];exact CN e
theorem Oj(C:jT prog w A κ s Ok L)(O:hJ L)(hk:kindOf st=κ)(hf:failedOf st=none){i sa na pw sb nb p2:Nat}{P R1 R2 S:List ι}(hp1:(pendingOf st)[i]?=some (sa,na,pw))(hp2:(pendingOf st)[i+1]?=some (sb,nb,p2))
  (e:(arrOf st).toList=P++R1++R2++S) (l0:P.length=sa) (l1:R1.length=na) (l2:R2.length=nb) (l3:sb=sa+na) (h1:0<na) (h2:0<nb) (ok:∀x∈R1++R2,Ok x) (s1:R1.Pairwise (Le L)) (s2:R2.Pairwise (Le L))
  {Q:Bool->aI->η->Prop} (q:∀(M:List ι) (st':aI),M.Perm (R1++R2)->M.Pairwise (Le L)->kindOf st'=κ->failedOf st'=none->pendingOf st'=((pendingOf st).setIfInBounds i (sa,na+nb,pw)).eraseIdxIfInBounds (i+1)->(arrOf st').toList=P++M++S->Q true st' s):kasC (model prog w) A E (mergeAt' i) Q st s:=by
 rw[y9];refine ω (iP ?_);rw[hp1,hp2];dsimp only;refine ω (Ol ?_);generalize hst1:zj st (((pendingOf st).setIfInBounds i (sa,na+nb,pw)).eraseIdxIfInBounds (i+1))=st1;have k1:kindOf st1=κ:=by rw[←hst1];exact hk
 have f1:failedOf st1=none:=by rw[←hst1];exact hf
 have p1:pendingOf st1=((pendingOf st).setIfInBounds i (sa,na+nb,pw)).eraseIdxIfInBounds (i+1):=by rw[←hst1]
 have a1:arrOf st1=arrOf st:=by rw[←hst1]
 have eP1:(arrOf st).toList=P++R1++(R2++S):=by rw[e,aq (P++R1)]
 have eP2:(arrOf st).toList=(P++R1)++R2++S:=e;have lz:(arrOf st).size=P.length+R1.length+R2.length+S.length:=by
  rw[←aN,e];simp only[ψ]
 have lPR:(P++R1).length=sb:=by rw[ψ];lia
 obtain⟨y0,R2',rfl⟩:∃y0 R2',R2=y0::R2':=by
  cases R2 with
  |nil=>simp at l2;lia
  |cons y r=>exact⟨y,r,rfl⟩
 have gy:(arrOf st)[sb]?=some y0:=by
  rw[←lPR];exact xJ (S:=R2'++S) (by rw[e];simp)
 have oy0:Ok y0:=ok y0 (ay _ aj);have sl1:sl (arrOf st) sa na=R1:=by
  rw[←l0,←l1];exact CN eP1
 have sl2:sl (arrOf st) sb nb=y0::R2':=by
  rw[←lPR,←l2];exact CN eP2
 refine ω (jI gy (ω (wt C O k1 h1 (by lia) oy0 (by rw[sl1];exact fun x hx=>ok x (bf _ hx)) (by rw[sl1];exact s1) fun k hkn b1 b2=>?_)));rw[sl1] at b1 b2;have b1':∀z∈R1.take k,Le L z y0:=fun z hz=>by
  have:(!(L y0 z))=true:=b1 z hz;rwa [gp] at this
 have b2':∀z∈R1.drop k,L y0 z=true:=fun z hz=>by
  have:(!(L y0 z))=false:=b2 z hz;rwa [nj] at this
 have hy0:∀z∈y0::R2',Le L y0 z:=uS O s2 rfl;have eR1:R1.take k++R1.drop k=R1:=bY k R1;have s1':=s1;rw[←eR1,ao] at s1';dsimp only;by_cases e0:(na-k==0)=true
 ·rw[if_pos e0];rw[beq_iff_eq] at e0;have ek:R1.take k=R1:=cC (by lia);rw[ek] at b1';refine Ξ (q (R1++y0::R2') st1 (kc _) ?_ k1 f1 p1 (by rw[a1,e];simp));rw[ao];exact⟨s1,s2,fun x hx y hy=>O.fu x y0 y (b1' x hx) (hy0 y hy)⟩
 rw[if_neg e0];have e0':na-k≠0:=fun z=>e0 (by rw[z];rfl)
 -- the last of the first run
 have b7:R1.drop k≠[]:=fun z=>by
  have:=congrArg hU z;rw[bC,dC] at this;lia
 obtain⟨I1,z0,eI⟩:∃I z,R1.drop k=I++[z]:=⟨_,_,(mO b7).symm⟩;have lI:I1.length+1=na-k:=by
  have:=congrArg hU eI;rw[bC,ψ] at this;simp at this;lia
 have mz0:z0∈R1.drop k:=by rw[eI];simp
 have gz:(arrOf st)[sa+k+(na-k)-1]?=some z0:=by
  have hlen:sa+k+(na-k)-1=(P++R1.take k++I1).length:=by
   simp only[ψ,br];lia
  rw[hlen];refine xJ (S:=(y0::R2')++S) ?_;have eR:P++R1=P++(R1.take k++(I1++[z0])):=by rw[←eI,eR1]
  rw[e,eR];simp
 have oz0:Ok z0:=ok z0 (bf _ (cT mz0));refine ω (jI gz (ω (wt C O k1 (by lia) (by lia) oz0 (by rw[sl2];exact fun x hx=>ok x (ay _ hx)) (by rw[sl2];exact s2) fun m hm c1 c2=>?_)));rw[sl2] at c1 c2;have c1':∀z∈(y0::R2').take m,L z z0=true:=fun z hz=>c1 z hz;have c2':∀z∈(y0::R2').drop m,Le L z0 z:=fun z hz=>c2 z hz;have hz0:∀x∈R1.drop k,Le L x z0:=fun x hx=>by
  have:=s1'.2.1;rw[eI,ao] at this;rw[eI] at hx;rcases ag.mp hx with hx|hx
  ·exact this.2.2 x hx z0 (by simp)
  ·rw[aL.mp hx];exact O.yI _
 dsimp only;by_cases e1:(m==0)=true
 ·rw[if_pos e1];rw[beq_iff_eq] at e1;subst e1;refine Ξ (q (R1++y0::R2') st1 (kc _) ?_ k1 f1 p1 (by rw[a1,e];simp));have cy:=c2' y0 (by simp);have by0:=b2' z0 mz0;have:L y0 z0=false:=cy;rw[by0] at this;cases this
 rw[if_neg e1];have e1':m≠0:=fun z=>e1 (by rw[z];rfl);have eR2:(y0::R2').take m++(y0::R2').drop m=y0::R2':=bY m _;have s2':=s2;rw[←eR2,ao] at s2';have lX:(R1.drop k).length=na-k:=by rw[bC];lia
 have lY:((y0::R2').take m).length=m:=by rw[br];lia
 have eA:(arrOf st).toList=(P++R1.take k)++R1.drop k++((y0::R2')++S):=by
  have eR:P++R1=P++(R1.take k++R1.drop k):=by rw[eR1]
  rw[e,eR];simp
 have eB:(arrOf st).toList=(P++R1)++(y0::R2').take m++((y0::R2').drop m++S):=by
  have eR:P++R1++(y0::R2')=P++R1++((y0::R2').take m++(y0::R2').drop m):=by rw[eR2]
  rw[e,eR];simp only[aq]
 have lPk:(P++R1.take k).length=sa+k:=by
  simp only[ψ,br];lia
 have ex:((arrOf st).extract (sa+k) sb).toList=R1.drop k:=by
  have:=G7 eA;rw[lPk,lX,show sa+k+(na-k)=sb by lia] at this;exact this
 have ey:((arrOf st).extract sb (sb+m)).toList=(y0::R2').take m:=by
  have:=G7 eB;rw[lPR,lY] at this;exact this
 generalize (arrOf st).extract (sa+k) sb=X at ex ⊢;generalize (arrOf st).extract sb (sb+m)=Y at ey ⊢;have H:MH prog w A κ s Ok L X Y:=⟨C,O,by rw[ex];exact fun x hx=>ok x (bf _ (cT hx)),by rw[ey];exact fun x hx=>ok x (ay _ (cb hx)),by rw[ex];exact s1'.2.1,by rw[ey];exact s2'.1⟩;have szX:X.size=na-k:=by rw[←aN,ex,lX]
 have szY:Y.size=m:=by rw[←aN,ey,lY]
 obtain⟨m',rfl⟩:∃m',m=m'+1:=⟨m-1,by lia⟩;have gY0:Y[0]?=some y0:=by
  rw[←af,ey];rfl
 obtain⟨x0,gX0,_,mX0⟩:=oJ (a:=X) (i:=0) (by lia);rw[ex] at mX0;have hL:oh L X Y:=fun z hz y hy=>by
  rw[ey] at hy;have:z=z0:=by
   rw[←af,ex,eI,szX,bD (by lia),show na-k-1-I1.length=0 by lia] at hz;exact (aD hz).symm
  rw[this];exact c1' y hy
 have hF:o9 L X Y:=fun z hz x hx=>by
  rw[gY0] at hz;cases hz;rw[ex] at hx;exact O.km _ _ (b2' x hx)
 have fin:∀(res:Array ι) (st':aI),dY st1 st'->Res L X.toList Y.toList res.toList->kasC (model prog w) A E (do
   modify fun s=>setArr s (BR (sa+k) res.toList.zipIdx (arrOf s))
   return (failedOf (←get)).isNone:SM Bool) Q st' s:=fun res st' sm ⟨rp,rs⟩=>by
  rw[ex,ey] at rp;refine ω (gE (ω (iP (Ξ ?_))));have hff:failedOf st'=none:=sm.2.2.2.trans f1;show Q (failedOf st').isNone _ s;rw[hff];have eC:(arrOf st').toList=(P++R1.take k)++(R1.drop k++(y0::R2').take (m'+1))++((y0::R2').drop (m'+1)++S):=by
   have eR:P++R1++(y0::R2')=P++(R1.take k++R1.drop k)++((y0::R2').take (m'+1)++(y0::R2').drop (m'+1)):=by rw[eR1,eR2]
   rw[sm.2.1,a1,e,eR];simp only[aq]
  have ew:(BR (sa+k) res.toList.zipIdx (arrOf st')).toList=(P++R1.take k)++res.toList++((y0::R2').drop (m'+1)++S):=Om (sa+k) res.toList 0 _ _ _ _ eC lPk rp.length_eq.symm;refine q (R1.take k++(res.toList++(y0::R2').drop (m'+1))) _ ?_ ?_ (sm.1.trans k1) hff (sm.2.2.1.trans p1) (by rw[ew];simp only[aq])
  ·refine cE (cp _ (cf _ rp)) (v9 ?_);rw[aq,eR2,←aq,eR1]
  ·rw[ao];refine⟨s1'.1,?_,fun x hx y hy=>?_⟩
   ·rw[ao];refine⟨rs,s2'.2.1,fun x hx y hy=>?_⟩;rcases ag.mp (rp.mem_iff.mp hx) with z|z
    ·exact O.fu x z0 y (hz0 x z) (c2' y hy)
    ·exact s2'.2.2 x z y hy
   ·rcases ag.mp hy with z|z
    ·rcases ag.mp (rp.mem_iff.mp z) with z2|z2
     ·exact s1'.2.2 x hx y z2
     ·exact O.fu x y0 y (b1' x hx) (hy0 y (cb z2))
    ·exact O.fu x y0 y (b1' x hx) (hy0 y (cT z))
 by_cases hle:na-k≤m'+1
 ·rw[if_pos hle];exact ω (O8 H hL k1 (by lia) gY0 gX0 (b2' x0 mX0) fin)
 ·rw[if_neg hle];exact ω (Oo H hL hF k1 (by lia) (by lia) fin)
end
end gs
namespace gs
open PySem PySem.W PyProof.Rows
theorem get3{α:Type}(P X S:List α)(k:Nat):(P++X++S)[k]?=if k<P.length then P[k]? else if k<P.length+X.length then X[k-P.length]? else S[k-P.length-X.length]?:=by
 by_cases h:k<P.length
 ·rw[if_pos h,aq,cB h]
 ·rw[if_neg h,aq,bD (by lia)];by_cases h2:k<P.length+X.length
  ·rw[if_pos h2,cB (by lia)]
  ·rw[if_neg h2,bD (by lia)]
theorem Oi{a:Array ι}{P M S:List ι}{i j:Nat}(e:a.toList=P++M++S)(hi:P.length=i)(hj:i+M.length=j):(mirror a i j ((j-i) / 2)).toList=P++M.reverse++S:=by
 have hz:j≤a.size:=by
  rw[←aN,e];simp only[ψ];lia
 refine kB fun k=>?_;rw[af,getElem?_mirror_all hz,get3,List.length_reverse,←af,←af,e,get3,get3]
 repeat' split
 all_goals first
  |rfl
  | (exfalso;lia)
  | (rw[List.getElem?_reverse (by lia),show i+j-1-k-P.length=M.length-1-(k-P.length) by lia])
theorem Oh{a:Array ι}{P X S:List ι}{x:ι}{src d:Nat}(e:a.toList=P++(X++[x])++S)(hs:P.length+X.length=src)(hd:X.length=d):(bubble a src d).toList=P++(x::X)++S:=by
 have hz:src<a.size:=by
  rw[←aN,e];simp only[ψ,aE,dC];lia
 refine kB fun k=>?_;rw[af,getElem?_bubble hz d (by lia),←af,←af,←af,e,get3,get3,get3,get3];have hl:(X++[x]).length=X.length+1:=by simp
 have hl2:(x::X).length=X.length+1:=by simp
 rw[hl,hl2]
 repeat' split
 all_goals first
  |rfl
  | (exfalso;lia)
  | (rw[show src-P.length=X.length by lia,show k-P.length=0 by lia];simp)
  | (obtain⟨u,hu⟩:∃u,k-P.length=u+1:=⟨k-P.length-1,by lia⟩;rw[hu,ku,show k-1-P.length=u by lia,cB (by lia)])
abbrev AS:=Option (Option Nat)×Nat
abbrev DS:=Option (Option Nat)×Nat×Nat
def zC(lo:Nat)(t:AS):SM (ForInStep AS):=do
 let r ←ltAt' (lo+t.2) (lo+t.2-1)
 match r with
 |some smaller=>if smaller=true then pure (.done (none,t.2)) else pure (.yield (none,t.2+1))
 |_=>pure (.done (some none,t.2))
def w4(lo nrem n:Nat):SM (Option Nat):=do
 reverseSlice' lo (lo+n)
 let t ←forIn [n:nrem] ((none,n):AS) fun _ t=>zC lo t
 match t.1 with
 |some r=>pure r
 |none=>pure (some t.2)
def K7(lo:Nat)(t:DS):SM (ForInStep DS):=do
 let r ←ltAt' (lo+t.2.1) (lo+t.2.1-1)
 match r with
 |some smaller=>
  if smaller=true then
   if t.2.2 > 0 then do
    reverseSlice' (lo+t.2.1-(t.2.2+1)) (lo+t.2.1)
    pure (.yield (none,t.2.1+1,0))
   else pure (.yield (none,t.2.1+1,0))
  else do
   let r ←ltAt' (lo+t.2.1-1) (lo+t.2.1)
   match r with
   |some larger=>if larger=true then pure (.done (none,t.2.1,t.2.2)) else pure (.yield (none,t.2.1+1,t.2.2+1))
   |_=>pure (.done (some none,t.2.1,t.2.2))
 |_=>pure (.done (some none,t.2.1,t.2.2))
def zA(lo nrem n:Nat):SM (Option Nat):=do
 liftM (rule "list.sort.descending-run")
 let t ←forIn [n+1:nrem] ((none,n+1,0):DS) fun _ t=>K7 lo t
 match t.1 with
 |some r=>pure r
 |none=>
  if t.2.2 > 0 then do
   reverseSlice' (lo+t.2.1-(t.2.2+1)) (lo+t.2.1)
   w4 lo nrem t.2.1
  else w4 lo nrem t.2.1
theorem CM{β:Type}{m n:Nat}{b:β}{f f':Nat->β->SM (ForInStep β)}(h:∀x t,f x t=f' x t):(forIn [m:n] b f:SM β)=forIn [m:n] b f':=by
 rw[funext fun x=>funext (h x)]
theorem vN(lo nrem:Nat):countRun' lo nrem=(do
 let t ←forIn [1:nrem] ((none,1):AS) fun _ t=>zC lo t
 match t.1 with
 |some r=>pure r
 |none=>
  if (t.2==nrem)=true then pure (some t.2)
  else if t.2 > 1 then do
   let r ←ltAt' lo (lo+t.2-1)
   match r with
   |some rose=>if rose=true then pure (some t.2) else do
    reverseSlice' lo (lo+t.2)
    zA lo nrem t.2
   |_=>pure none
  else zA lo nrem t.2):=by
 rw[countRun'_eq];have e3:∀n,(do
   reverseSlice' lo (lo+n)
   let mut n:=n
   for _ in [n:nrem] do
    let some smaller ←ltAt' (lo+n) (lo+n-1)|return none
    if smaller then break
    n:=n+1
   return some n:SM (Option Nat))=w4 lo nrem n:=fun n=>by
  unfold w4;refine eO rfl fun _=>?_;refine eO (CM fun _ t=>?_) fun t=>?_
  ·unfold zC;refine eO rfl fun r=>?_;cases r<;>rfl
  ·obtain⟨r,n⟩:=t;cases r<;>rfl
 have e1:∀n,(do
   liftM (rule "list.sort.descending-run")
   let mut n:=n
   n:=n+1
   let mut neq:=0
   for _ in [n:nrem] do
    let some smaller ←ltAt' (lo+n) (lo+n-1)|return none
    if smaller then
     if neq > 0 then reverseSlice' (lo+n-(neq+1)) (lo+n)
     neq:=0
    else
     let some larger ←ltAt' (lo+n-1) (lo+n)|return none
     if larger then break
     neq:=neq+1
    n:=n+1
   if neq > 0 then reverseSlice' (lo+n-(neq+1)) (lo+n)
   reverseSlice' lo (lo+n)
   for _ in [n:nrem] do
    let some smaller ←ltAt' (lo+n) (lo+n-1)|return none
    if smaller then break
    n:=n+1
   return some n:SM (Option Nat))=zA lo nrem n:=fun n=>by
  unfold zA;refine eO rfl fun _=>?_;refine eO (CM fun _ t=>?_) fun t=>?_
  ·unfold K7;refine eO rfl fun r=>?_;cases r with
   |none=>rfl
   |some b=>
    cases b with
    |true=>rfl
    |false=>
     show (ltAt' _ _ >>= _)=(ltAt' _ _ >>= _);refine eO rfl fun r=>?_;cases r<;>rfl
  ·obtain⟨r,n,q⟩:=t;cases r with
   |some r=>rfl
   |none=>
    dsimp only;by_cases h:q > 0
    ·rw[if_pos h,if_pos h];refine eO rfl fun _=>?_;exact e3 n
    ·rw[if_neg h,if_neg h];exact e3 n
 refine eO (CM fun _ t=>?_) fun t=>?_
 ·unfold zC;refine eO rfl fun r=>?_;cases r<;>rfl
 obtain⟨r,n⟩:=t;cases r with
 |some r=>rfl
 |none=>
  dsimp only;by_cases h:(n==nrem)=true
  ·rw[if_pos h,if_pos h]
  ·rw[if_neg h,if_neg h];by_cases h2:n > 1
   ·rw[if_pos h2,if_pos h2];refine eO rfl fun r=>?_;cases r with
    |none=>rfl
    |some b=>
     cases b with
     |true=>rfl
     |false=>
      dsimp only;rw[if_neg Ψ,if_neg Ψ];refine eO rfl fun _=>?_;exact e1 n
   ·rw[if_neg h2,if_neg h2];exact e1 n
section
variable {prog:Ω} {w:aw} {A:aF} {E:δ->η->Prop} {κ:cG} {s:η} {Ok:ι->Prop} {L:ι->ι->Bool} {st:aI}
theorem xI(C:jT prog w A κ s Ok L)(hk:kindOf st=κ){i j:Nat}{x y:ι}(ex:(arrOf st)[i]?=some x)(ey:(arrOf st)[j]?=some y)(hx:Ok x)(hy:Ok y){Q:Option Bool->aI->η->Prop}(h:Q (some (L x y)) st s):kasC (model prog w) A E (ltAt' i j) Q st s:=by
 rw[ltAt'_eq];refine ω (iP ?_);exact ω (jI ex (ω (jI ey (xw C hk hx hy h))))
theorem Ab{i j:Nat}{Q:Unit->aI->η->Prop}(h:Q () (setArr st (mirror (arrOf st) i j ((j-i) / 2))) s):kasC (model prog w) A E (reverseSlice' i j) Q st s:=by
 rw[reverseSlice'_eq];exact gE h
structure At(κ:cG)(st0 st:aI)(P D T S:List ι):Prop where
 kind:kindOf st=κ
 fail:failedOf st=none
 pend:pendingOf st=pendingOf st0
 arr:(arrOf st).toList=P++D++T++S
theorem At.hd{st0:aI}{P D T S:List ι}{t:ι}(h:At κ st0 st P D (t::T) S):(arrOf st)[P.length+D.length]?=some t:=by
 rw[←ψ];refine xJ (S:=T++S) ?_;rw[h.arr];simp
theorem At.lst{st0:aI}{P D T S:List ι}{d:ι}(h:At κ st0 st P (D++[d]) T S):(arrOf st)[P.length+(D++[d]).length-1]?=some d:=by
 have el:P.length+(D++[d]).length-1=(P++D).length:=by
  simp only[ψ,aE,dC];lia
 rw[el];refine xJ (S:=T++S) ?_;rw[h.arr];simp
theorem At.next{st0:aI}{P D T S:List ι}{t:ι}(h:At κ st0 st P D (t::T) S):At κ st0 st P (D++[t]) T S:=⟨h.kind,h.fail,h.pend,by rw[h.arr];simp⟩
theorem At.rev{st0:aI}{P D B T S:List ι}{i j:Nat}(h:At κ st0 st P (D++B) T S)(hi:P.length+D.length=i)(hj:i+B.length=j):At κ st0 (setArr st (mirror (arrOf st) i j ((j-i) / 2))) P (D++B.reverse) T S:=by
 refine⟨h.kind,h.fail,h.pend,?_⟩;have e:(arrOf st).toList=(P++D)++B++(T++S):=by rw[h.arr];simp
 show (mirror (arrOf st) i j ((j-i) / 2)).toList=_;rw[Oi e (by rw[ψ];exact hi) hj];simp
abbrev Ge(L:ι->ι->Bool)(x y:ι):Prop:=L x y=false
theorem snoc_cases{xs:List ι}(h:0<xs.length):∃ys y,xs=ys++[y]:=⟨_,_,(mO (fun z=>by rw[z] at h;simp at h)).symm⟩
theorem Og(O:hJ L){ys:List ι}{y t:ι}(h:(ys++[y]).Pairwise (Le L))(ht:Le L y t):(ys++[y]++[t]).Pairwise (Le L):=by
 rw[ao];refine⟨h,bJ _ _,fun x hx z hz=>?_⟩;rw[aL.mp hz];rw[ao] at h;rcases ag.mp hx with q|q
 ·exact O.fu x y t (h.2.2 x q y (by simp)) ht
 ·rw[aL.mp q];exact ht
theorem GZ(O:hJ L){ys:List ι}{y t:ι}(h:(ys++[y]).Pairwise (Ge L))(ht:Ge L y t):(ys++[y]++[t]).Pairwise (Ge L):=by
 rw[ao];refine⟨h,bJ _ _,fun x hx z hz=>?_⟩;rw[aL.mp hz];rw[ao] at h;rcases ag.mp hx with q|q
 ·exact O.fu t y x ht (h.2.2 x q y (by simp))
 ·rw[aL.mp q];exact ht
structure Run(κ:cG)(L:ι->ι->Bool)(st0 st:aI)(P X S R T:List ι):Prop where
 at_:At κ st0 st P R T S
 gU:R.Pairwise (Le L)
 perm:(R++T).Perm X
 pos:0<R.length
theorem qw(C:jT prog w A κ s Ok L)(O:hJ L){st0:aI}{P X S:List ι}{nrem n0:Nat}(ok:∀x∈X,Ok x)(hn:X.length=nrem){R0 T0:List ι}(h0:Run κ L st0 st P X S R0 T0)(hl0:R0.length=n0)
  {Q:AS->aI->η->Prop} (q:∀(R T:List ι) (st':aI),Run κ L st0 st' P X S R T->(T=[]∨∃t T' R' d,T=t::T'/\R=R'++[d]/\L t d=true)->Q (none,R.length) st' s):
  kasC (model prog w) A E (forIn [n0:nrem] ((none,n0):AS) fun _ t=>zC P.length t) Q st s:=by
 refine dm ?_;have hl:=h0.perm.length_eq;rw[ψ,hn] at hl;refine kX (fun k (b:AS) st'=>b.1=none/\∃R T,Run κ L st0 st' P X S R T/\R.length=b.2/\T.length=k) ?_ ?_ _ _ _ ⟨rfl,R0,T0,h0,hl0,by rw[bR];lia⟩
 ·rintro⟨r,n⟩ st' ⟨rfl,R,T,hR,rfl,hT⟩;exact q R T st' hR (.inl (cV hT))
 rintro xx k ⟨r,n⟩ st' ⟨rfl,R,T,hR,rfl,hT⟩;have hT:T.length=k+1:=hT;obtain⟨t,T',rfl⟩:∃t T',T=t::T':=by
  cases T with
  |nil=>simp at hT
  |cons t T'=>exact⟨t,T',rfl⟩
 obtain⟨R',d,rfl⟩:=snoc_cases hR.pos;have od:=ok d (hR.perm.mem_iff.mp (by simp));have ot:=ok t (hR.perm.mem_iff.mp (by simp));unfold zC;dsimp only;refine ω (xI C hR.at_.kind hR.at_.hd hR.at_.lst ot od ?_);dsimp only;cases hl1:L t d with
 |false=>
  rw[if_neg Ψ];exact Ξ ⟨rfl,rfl,R'++[d]++[t],T',⟨hR.at_.next,Og O hR.gU hl1,by have:=hR.perm;simpa using this,by simp⟩,by simp,by simpa using hT⟩
 |true=>
  rw[if_pos rfl];exact Ξ ⟨rfl,q _ _ st' hR (.inr ⟨t,T',R',d,rfl,rfl,hl1⟩)⟩
theorem GY(C:jT prog w A κ s Ok L)(O:hJ L){st0:aI}{P X S:List ι}{nrem:Nat}(ok:∀x∈X,Ok x)(hn:X.length=nrem){D T:List ι}(h:At κ st0 st P D T S)(hg:D.Pairwise (Ge L))(hp:(D++T).Perm X)(h0:0<D.length)
  {Q:Option Nat->aI->η->Prop} (q:∀(R T:List ι) (st':aI),Run κ L st0 st' P X S R T->Q (some R.length) st' s):kasC (model prog w) A E (w4 P.length nrem D.length) Q st s:=by
 unfold w4;refine ω (Ab ?_);have h2:=At.rev (D:=[]) (B:=D) (i:=P.length) (j:=P.length+D.length) (by simpa using h) (by simp) rfl;refine ω (qw C O ok hn (R0:=D.reverse) (T0:=T) ⟨by simpa using h2,?_,cE (cf _ (kA D)) hp,by simpa using h0⟩ (by simp) fun R T' st' hR _=>Ξ (q R T' st' hR));rw[eW];exact hg
theorem GX(C:jT prog w A κ s Ok L)(O:hJ L){st0:aI}{P X S:List ι}{nrem:Nat}(ok:∀x∈X,Ok x)(hn:X.length=nrem){D' T:List ι}{d t:ι}(h:At κ st0 st P (D'++[d]) (t::T) S)(hg:(D'++[d]).Pairwise (Ge L))(hp:(D'++[d]++t::T).Perm X)(hd:Ge L d t)
  {Q:Option Nat->aI->η->Prop} (q:∀(R T:List ι) (st':aI),Run κ L st0 st' P X S R T->Q (some R.length) st' s):kasC (model prog w) A E (zA P.length nrem (D'++[d]).length) Q st s:=by
 unfold zA;refine ω (lr (iN ?_));refine ω (dm ?_);have hl:=hp.length_eq;rw[ψ,hn] at hl
 -- D++B,B of like ones at its end
 have out:∀(D B T:List ι) (st':aI),At κ st0 st' P (D++B) T S->(D++B).Pairwise (Ge L)->(∀x∈B,∀y∈B,L x y=false)->0<B.length->(D++B++T).Perm X->kasC (model prog w) A E (if B.length-1 > 0 then do
    reverseSlice' (P.length+(D++B).length-(B.length-1+1)) (P.length+(D++B).length)
    w4 P.length nrem (D++B).length
   else w4 P.length nrem (D++B).length) Q st' s:=fun D B T st' a g hB hb p=>by
  have le:(D++B).length=D.length+B.length:=ψ;by_cases h1:B.length-1 > 0
  ·rw[if_pos h1];refine ω (Ab ?_);have a2:=a.rev (i:=P.length+(D++B).length-(B.length-1+1)) (j:=P.length+(D++B).length) (by lia) (by lia);have hl2:(D++B).length=(D++B.reverse).length:=by simp
   have g3:(D++B.reverse).Pairwise (Ge L):=by
    rw[ao] at g ⊢;refine⟨g.1,?_,fun x hx y hy=>g.2.2 x hx y (fI.mp hy)⟩;rw[eW];exact fj (fun {x y} hx hy _=>hB y hy x hx) g.2.1
   have r3:=GY (E:=E) C O ok hn a2 g3 (cE (cf _ (cp _ (kA B))) p) (by simp;lia) q;rw[←hl2] at r3;exact r3
  ·rw[if_neg h1];exact GY C O ok hn a g p (by lia) q
 refine kX (fun k (b:DS) st'=>b.1=none/\∃D B T,At κ st0 st' P (D++B) T S/\(D++B).Pairwise (Ge L)/\(∀x∈B,∀y∈B,L x y=false)/\0<B.length/\(D++B++T).Perm X/\b.2.1=(D++B).length/\b.2.2=B.length-1/\T.length=k) ?_ ?_ _ _ _ ⟨rfl,D'++[d],[t],T,h.next,GZ O hg hd,?_,by simp,by simpa using hp,by show (D'++[d]).length+1=_;simp,rfl,?_⟩
 ·rintro⟨r,n,qq⟩ st' ⟨rfl,D,B,T,a,g,hB,hb,p,rfl,rfl,_⟩;exact out D B T st' a g hB hb p
 ·rintro xx k ⟨r,n,qq⟩ st' ⟨rfl,D,B,T,a,g,hB,hb,p,rfl,rfl,hT⟩;have hT:T.length=k+1:=hT;obtain⟨u,T',rfl⟩:∃u T',T=u::T':=by
   cases T with
   |nil=>simp at hT
   |cons u T'=>exact⟨u,T',rfl⟩
  obtain⟨B',c,rfl⟩:=snoc_cases hb;have a':At κ st0 st' P (D++B'++[c]) (u::T') S:=by simpa using a
  have oc:=ok c (p.mem_iff.mp (by simp));have ou:=ok u (p.mem_iff.mp (by simp));have ghd:(arrOf st')[P.length+(D++(B'++[c])).length]?=some u:=a.hd;have glt:(arrOf st')[P.length+(D++(B'++[c])).length-1]?=some c:=by
   have:=a'.lst;rwa [aq D B' [c]] at this
  unfold K7;dsimp only;refine ω (xI C a.kind ghd glt ou oc ?_);dsimp only;have g':(D++B'++[c]).Pairwise (Ge L):=by simpa using g
  cases hl1:L u c with
  |true=>
   rw[if_pos rfl];have hcu:Ge L c u:=O.km _ _ hl1;have keep:∀(B2:List ι) (st2:aI),At κ st0 st2 P (D++B2) (u::T') S->B2.Perm (B'++[c])->∃D1 B1 T1,At κ st0 st2 P (D1++B1) T1 S/\(D1++B1).Pairwise (Ge L)/\(∀x∈B1,∀y∈B1,L x y=false)/\0<B1.length/\(D1++B1++T1).Perm X/\(D++(B'++[c])).length+1=(D1++B1).length/\0=B1.length-1/\T1.length=k:=fun B2 st2 a2 pb=>by
    refine⟨D++B2,[u],T',a2.next,?_,?_,by simp,?_,?_,rfl,by simpa using hT⟩
    ·rw[ao] at g ⊢;refine⟨?_,bJ _ _,fun x hx y hy=>?_⟩
     ·rw[ao];refine⟨g.1,?_,fun x hx y hy=>g.2.2 x hx y (pb.mem_iff.mp hy)⟩;exact fj (fun {x y} hx hy _=>hB x (pb.mem_iff.mp hx) y (pb.mem_iff.mp hy)) (List.pairwise_of_forall (R:=fun _ _=>True) fun _ _=>trivial)
     ·rw[aL.mp hy];rcases ag.mp hx with z|z
      ·exact O.fu u c x hcu (g.2.2 x z c (by simp))
      ·exact O.fu u c x hcu (hB x (pb.mem_iff.mp z) c (by simp))
    ·intro x hx y hy;rw[aL.mp hx,aL.mp hy];exact O.yI _
    ·refine cE ?_ p;have:D++B2++[u]++T'=D++B2++(u::T'):=by simp
     rw[this];exact cf _ (cp _ pb)
    ·show (D++(B'++[c])).length+1=(D++B2++[u]).length;have:=pb.length_eq;simp only[ψ,aE,dC] at this ⊢;lia
   by_cases h1:(B'++[c]).length-1 > 0
   ·rw[if_pos h1];refine ω (Ab ?_);have le:(D++(B'++[c])).length=D.length+(B'++[c]).length:=ψ;exact Ξ ⟨rfl,rfl,keep _ _ (a.rev (i:=P.length+(D++(B'++[c])).length-((B'++[c]).length-1+1)) (j:=P.length+(D++(B'++[c])).length) (by lia) (by lia)) (kA _)⟩
   ·rw[if_neg h1];exact Ξ ⟨rfl,rfl,keep _ _ a (kc _)⟩
  |false=>
   rw[if_neg Ψ];refine ω (xI C a.kind glt ghd oc ou ?_);dsimp only;cases hl2:L c u with
   |true=>
    rw[if_pos rfl];exact Ξ ⟨rfl,out D (B'++[c]) (u::T') st' a g hB hb p⟩
   |false=>
    rw[if_neg Ψ];refine Ξ ⟨rfl,rfl,D,B'++[c]++[u],T',by have:=a.next;simpa using this,by have:=GZ O g' hl2;simpa using this,?_,by simp,by simpa using p,by simp;lia,?_,by simpa using hT⟩
    ·intro x hx y hy;rcases ag.mp hx with z|z
     ·rcases ag.mp hy with z2|z2
      ·exact hB x z y z2
      ·rw[aL.mp z2];exact O.fu u c x hl2 (hB x z c (by simp))
     ·rw[aL.mp z];rcases ag.mp hy with z2|z2
      ·exact O.fu y c u (hB c (by simp) y z2) hl1
      ·rw[aL.mp z2];exact O.yI _
    ·show (B'++[c]).length-1+1=(B'++[c]++[u]).length-1;simp
 ·intro x hx y hy;rw[aL.mp hx,aL.mp hy];exact O.yI _
 ·rw[bR];simp only[aE] at hl;lia
theorem Of(C:jT prog w A κ s Ok L)(O:hJ L){st0:aI}{P X S:List ι}{lo nrem:Nat}(h:At κ st0 st P [] X S)(hlo:P.length=lo)(hn:X.length=nrem)(h1:0<nrem)(ok:∀x∈X,Ok x)
  {Q:Option Nat->aI->η->Prop} (q:∀(R T:List ι) (st':aI),Run κ L st0 st' P X S R T->Q (some R.length) st' s):kasC (model prog w) A E (countRun' lo nrem) Q st s:=by
 obtain⟨x0,X',rfl⟩:∃x0 X',X=x0::X':=by
  cases X with
  |nil=>simp at hn;lia
  |cons x r=>exact⟨x,r,rfl⟩
 subst hlo;rw[vN];refine ω (qw C O (S:=S) ok hn (R0:=[x0]) (T0:=X') ⟨⟨h.kind,h.fail,h.pend,by rw[h.arr];simp⟩,bJ _ _,kc _,by simp⟩ rfl fun R T st' hR kY=>?_);have hl:=hR.perm.length_eq;rw[ψ,hn] at hl;dsimp only;rcases kY with rfl|⟨t,T',R',d,rfl,rfl,htd⟩
 ·rw[if_pos (by rw[beq_iff_eq];simp at hl;lia)];exact Ξ (q R [] st' hR)
 have b7:(R'++[d]).length≠nrem:=fun z=>by simp only[aE] at hl;lia
 rw[if_neg (by rw[beq_iff_eq];exact b7)];have hdt:Ge L d t:=O.km _ _ htd;by_cases h2:(R'++[d]).length > 1
 ·rw[if_pos h2];obtain⟨x1,R'',rfl⟩:∃x1 R'',R'=x1::R'':=by
   cases R' with
   |nil=>simp at h2
   |cons x r=>exact⟨x,r,rfl⟩
  have o1:=ok x1 (hR.perm.mem_iff.mp (by simp));have od:=ok d (hR.perm.mem_iff.mp (by simp));have g1:(arrOf st')[P.length]?=some x1:=xJ (S:=R''++[d]++(t::T')++S) (by rw[hR.at_.arr];simp);refine ω (xI C hR.at_.kind g1 hR.at_.lst o1 od ?_);dsimp only;cases hr:L x1 d with
  |true=>
   rw[if_pos rfl];exact Ξ (q _ _ st' hR)
  |false=>
   rw[if_neg Ψ];refine ω (Ab ?_)
   -- all are alike
   have up:∀x∈x1::R''++[d],Le L x1 x:=uS O hR.gU rfl;have dn:∀x∈x1::R''++[d],Le L x d:=fun x hx=>by
    have:=hR.gU;rw[ao] at this;rcases ag.mp hx with z|z
    ·exact this.2.2 x z d (by simp)
    ·rw[aL.mp z];exact O.yI _
   have like:∀x∈x1::R''++[d],∀y∈x1::R''++[d],L x y=false:=fun x hx y hy=>O.fu y d x (dn y hy) (O.fu d x1 x hr (up x hx));have a2:=At.rev (D:=[]) (B:=x1::R''++[d]) (i:=P.length) (j:=P.length+(x1::R''++[d]).length) (by simpa using hR.at_) (by simp) rfl;have er:(x1::R''++[d]).reverse=(R''++[d]).reverse++[x1]:=by simp
   rw[cS,er] at a2;have hl3:(x1::R''++[d]).length=((R''++[d]).reverse++[x1]).length:=by simp
   rw[hl3] at a2 ⊢;refine GX C O ok hn a2 ?_ ?_ ?_ q
   ·rw[←er];rw[eW];exact fj (fun {x y} hx hy _=>like y hy x hx) hR.gU
   ·rw[←er];exact cE (cf _ (kA _)) hR.perm
   ·exact O.fu t d x1 hdt (like x1 (by simp) d (by simp))
 ·rw[if_neg h2];have:R'=[]:=by
   cases R' with
   |nil=>rfl
   |cons x r=>simp at h2
  subst this;exact GX C O ok hn (D':=[]) hR.at_ (bJ _ _) hR.perm hdt q
end
end gs
namespace gs
open PySem PySem.W PyProof.Rows
section
variable {prog:Ω} {w:aw} {A:aF} {E:δ->η->Prop} {κ:cG} {s:η} {Ok:ι->Prop} {L:ι->ι->Bool} {st:aI}
theorem Oe{β:Type}{body:Nat->β->SM (ForInStep β)}{Q:β->aI->η->Prop}(I:Nat->β->aI->Prop)(e:Nat)(hz:∀b st,I e b st->Q b st s)
  (hs:∀x b st,x<e->I x b st->kasC (model prog w) A E (body x b) (fun r st' s'=>s'=s/\match r with
   |.done b'=>Q b' st' s
   | .yield b'=>I (x+1) b' st') st s) (m:Nat):∀(a:Nat) (b:β) (st:aI),a+m=e->I a b st->kasC (model prog w) A E (forIn (List.range' a m) b body) Q st s:=by
 induction m with
 |zero=>
  intro a b st h1 h2;have:a=e:=by lia
  subst this;exact kasC_nil (hz b st h2)
 |succ m ih=>
  intro a b st h1 h2;rw[List.range'_succ];refine kasC_cons (nt (hs a b st (by lia) h2) ?_);rintro r st' s' ⟨rfl,z⟩;cases r with
  |done b'=>exact z
  |yield b'=>exact ih (a+1) b' st' (by lia) z
theorem Od{i j:Nat}{Q:Unit->aI->η->Prop}(h:Q () (setArr st (bubble (arrOf st) i (i-j))) s):kasC (model prog w) A E (moveDown' i j) Q st s:=by
 rw[moveDown'_eq];exact gE h
theorem Oc{st0:aI}{P R T S:List ι}(h:At κ st0 st P R T S){i:Nat}{x:ι}(e:R[i]?=some x):(arrOf st)[P.length+i]?=some x:=by
 obtain⟨hi,rfl⟩:=ax.mp e;rw[←af,h.arr,aq (P++R),get3,if_neg (by lia),if_pos (by lia),show P.length+i-P.length=i by lia];exact e
theorem Ob(C:jT prog w A κ s Ok L)(O:hJ L){st0:aI}{P X S R T:List ι}{lo n:Nat}(h:Run κ L st0 st P X S R T)(hlo:P.length=lo)(hn:R.length≤n)(hx:n≤X.length)(ok:∀x∈X,Ok x)
  {Q:Bool->aI->η->Prop} (q:∀(R T:List ι) (st':aI),Run κ L st0 st' P X S R T->R.length=n->Q true st' s):kasC (model prog w) A E (binarySort' lo n R.length) Q st s:=by
 subst hlo;rw[binarySort'_eq];have hm:max R.length 1=R.length:=by have:=h.pos;lia
 rw[hm];refine ω (dm ?_);refine Oe (fun k (b:Option Bool×Unit) st'=>b.1=none/\∃R T,Run κ L st0 st' P X S R T/\R.length=k) n ?_ ?_ _ _ _ _ (by lia) ⟨rfl,R,T,h,rfl⟩
 ·rintro⟨r,⟨⟩⟩ st' ⟨rfl,R,T,hR,hl⟩;exact Ξ (q R T st' hR hl)
 rintro k ⟨r,⟨⟩⟩ st' hk ⟨rfl,R,T,hR,rfl⟩;have hl:=hR.perm.length_eq;rw[ψ] at hl;obtain⟨x,T',rfl⟩:∃t T',T=t::T':=by
  cases T with
  |nil=>simp at hl;lia
  |cons t T'=>exact⟨t,T',rfl⟩
 have ox:=ok x (hR.perm.mem_iff.mp (by simp));have get:∀i,i<R.length->∃y,R[i]?=some y/\Ok y:=fun i hi=>⟨R[i],az hi,ok _ (hR.perm.mem_iff.mp (bf _ (lb hi)))⟩;have out:∀l,l≤R.length->(∀i y,i<l->R[i]?=some y->Le L y x)->(∀i y,l≤i->R[i]?=some y->L x y=true)->kasC (model prog w) A E (do
   moveDown' (P.length+R.length) (P.length+l)
   pure (gh (none,())):SM (ForInStep (Option Bool×Unit))) (fun r st' s'=>s'=s/\match r with
    | .done b'=>kasC (model prog w) A E (match b'.1 with
     |some r=>pure r
     | none=>pure true:SM Bool) Q st' s
    | .yield b'=>b'.1=none/\∃R2 T,Run κ L st0 st' P X S R2 T/\R2.length=R.length+1) st' s:=fun l hl1 h1 h2=>by
  refine ω (Od (Ξ ⟨rfl,rfl,R.take l++(x::R.drop l),T',⟨⟨hR.at_.kind,hR.at_.fail,hR.at_.pend,?_⟩,?_,?_,by simp;lia⟩,?_⟩))
  ·have e:(arrOf st').toList=(P++R.take l)++(R.drop l++[x])++(T'++S):=by
    have eR:P++R=P++(R.take l++R.drop l):=by rw[bY]
    rw[hR.at_.arr,eR];simp only[aq,List.singleton_append,pG,cS]
   have:=Oh e (src:=P.length+R.length) (d:=P.length+R.length-(P.length+l)) (by simp only[ψ,br,bC];lia) (by rw[bC];lia);show (bubble (arrOf st') (P.length+R.length) (P.length+R.length-(P.length+l))).toList=_;rw[this];simp
  ·have hs:=hR.gU;rw[←bY l R,ao] at hs;rw[ao];have tk:∀z∈R.take l,Le L z x:=fun z hz=>by
    obtain⟨i,hi,e⟩:=fC hz;rw[br] at hi;refine h1 i z (by lia) ?_;have:=az (l:=R.take l) (i:=i) (by rw[br];lia);rw[e,dQ (by lia)] at this;exact this
   have dr:∀z∈R.drop l,Le L x z:=fun z hz=>by
    obtain⟨i,hi,e⟩:=fC hz;rw[bC] at hi;refine O.km _ _ (h2 (l+i) z (by lia) ?_);have:=az (l:=R.drop l) (i:=i) (by rw[bC];lia);rw[e,g0] at this;exact this
   refine⟨hs.1,cR.mpr ⟨dr,hs.2.1⟩,fun a ha b hb=>?_⟩;rcases ak.mp hb with rfl|hb
   ·exact tk a ha
   ·exact hs.2.2 a ha b hb
  ·refine cE ?_ hR.perm;have e1:R++x::T'=R.take l++(R.drop l++x::T'):=by rw[←aq,bY]
   rw[e1,aq];refine cp _ ?_;exact (pD (a:=x) (l₁:=R.drop l) (l₂:=T')).symm
  ·simp only[ψ,aE,br,bC];lia
 dsimp only;refine ω (dm ?_);refine kX (fun k (b:Option Bool×Nat×Nat) st2=>st2=st'/\b.1=none/\b.2.1≤b.2.2/\b.2.2≤R.length/\b.2.2-b.2.1≤k/\(∀i y,i<b.2.1->R[i]?=some y->Le L y x)/\(∀i y,b.2.2≤i->R[i]?=some y->L x y=true)) ?_ ?_ _ _ _ ⟨rfl,rfl,aG _,Θ _,by rw[bR];exact Θ _,fun i y hi=>absurd hi (Nat.not_lt_zero _),fun i y hi e=>?_⟩
 ·rintro⟨r,l,rr⟩ st2 ⟨rfl,rfl,a1,a2,a3,a4,a5⟩;have a1:l≤rr:=a1;have a3:rr-l≤0:=a3;have e:l=rr:=by lia
  subst e;exact out l a2 a4 a5
 ·rintro xx k ⟨r,l,rr⟩ st2 ⟨rfl,rfl,a1,a2,a3,a4,a5⟩;have a1:l≤rr:=a1;have a2:rr≤R.length:=a2;have a3:rr-l≤k+1:=a3;dsimp only;by_cases hge:l≥rr
  ·rw[if_pos hge];have e:l=rr:=by lia
   subst e;exact Ξ ⟨rfl,out l a2 a4 a5⟩
  ·rw[if_neg hge];obtain⟨y,ey,oy⟩:=get ((l+rr) / 2) (by lia);refine ω (xI C hR.at_.kind hR.at_.hd (Oc hR.at_ ey) ox oy ?_);dsimp only;cases hc:L x y with
   |true=>
    rw[if_pos rfl];refine Ξ ⟨rfl,rfl,rfl,by show l≤(l+rr) / 2;lia,by show (l+rr) / 2≤R.length;lia,by show (l+rr) / 2-l≤k;lia,a4,fun i z hi ez=>?_⟩;have hyz:=pw_get hR.gU O hi ey ez;cases hxz:L x z with
    |true=>rfl
    |false=>
     have:Le L y x:=O.fu y z x hyz hxz;have this:L x y=false:=this;rw[hc] at this;cases this
   |false=>
    rw[if_neg Ψ];refine Ξ ⟨rfl,rfl,rfl,by show (l+rr) / 2+1≤rr;lia,a2,by show rr-((l+rr) / 2+1)≤k;lia,fun i z hi ez=>?_,a5⟩;have hi:i<(l+rr) / 2+1:=hi;exact O.fu z y x (pw_get hR.gU O (by lia) ez ey) hc
 ·have:=(ax.mp e).1;have hi:R.length≤i:=hi;lia
end
end gs
namespace gs
open PySem PySem.W PyProof.Rows
abbrev PT:=Nat×Nat×Nat
def ir:List (List ι)->Nat->List PT->Prop
 |[],_,[]=>True
 |r::rs,off,(s,n,_)::ps=>s=off/\n=r.length/\ir rs (off+r.length) ps
 |_,_,_=>False
theorem ir.len:∀{rs:List (List ι)} {off:Nat} {ps:List PT},ir rs off ps->ps.length=rs.length
 |[],_,[],_=>rfl
 |[],_,_::_,h=>h.elim
 |_::_,_,[],h=>h.elim
 |r::rs,off,(s,n,p)::ps,h=>by
  have:=ir.len h.2.2;simp[this]
theorem ir.cut:∀{as rs:List (List ι)} {off:Nat} {ps:List PT},ir (as++rs) off ps->∃p1 p2,ps=p1++p2/\ir as off p1/\ir rs (off+as.flatten.length) p2
 |[],rs,off,ps,h=>⟨[],ps,rfl,trivial,by simpa using h⟩
 |a::as,rs,off,[],h=>h.elim
 |a::as,rs,off,(s,n,p)::ps,h=>by
  obtain⟨h1,h2,h3⟩:=h;obtain⟨p1,p2,rfl,h4,h5⟩:=ir.cut (as:=as) h3;exact⟨(s,n,p)::p1,p2,rfl,⟨h1,h2,h4⟩,by rw[eE,ψ,←nL];exact h5⟩
theorem ir.app:∀{as rs:List (List ι)} {off:Nat} {p1 p2:List PT},ir as off p1->ir rs (off+as.flatten.length) p2->ir (as++rs) off (p1++p2)
 |[],rs,off,[],p2,_,h=>by simpa using h
 |[],_,_,_::_,_,h,_=>h.elim
 |_::_,_,_,[],_,h,_=>h.elim
 |a::as,rs,off,(s,n,p)::p1,p2,h,h2=>⟨h.1,h.2.1,ir.app h.2.2 (by rw[eE,ψ,←nL] at h2;exact h2)⟩
theorem ir.mod{f:PT->PT}(hf:∀p,(f p).1=p.1/\(f p).2.1=p.2.1):∀{rs:List (List ι)} {off i:Nat} {ps:List PT},ir rs off ps->ir rs off (ps.modify i f)
 |[],_,i,[],_=>by
  cases i<;>exact trivial
 |[],_,_,_::_,h=>h.elim
 |_::_,_,_,[],h=>h.elim
 |r::rs,off,0,(s,n,p)::ps,h=>by
  have h1:=hf (s,n,p);show ir (r::rs) off (f (s,n,p)::ps);obtain⟨a,b,c⟩:=h;generalize f (s,n,p)=q at h1;obtain⟨q1,q2,q3⟩:=q;have e1:q1=s:=h1.1;have e2:q2=n:=h1.2;exact⟨e1.trans a,e2.trans b,c⟩
 |r::rs,off,i+1,(s,n,p)::ps,h=>⟨h.1,h.2.1,ir.mod hf (i:=i) h.2.2⟩
section
variable {prog:Ω} {w:aw} {A:aF} {E:δ->η->Prop} {κ:cG} {s:η} {Ok:ι->Prop} {L:ι->ι->Bool} {st:aI} {X0:List ι}
structure SS(κ:cG)(L:ι->ι->Bool)(X0:List ι)(st:aI)(rs:List (List ι))(T:List ι):Prop where
 kind:kindOf st=κ
 fail:failedOf st=none
 pend:ir rs 0 (pendingOf st).toList
 arr:(arrOf st).toList=rs.flatten++T
 gU:∀r∈rs,r.Pairwise (Le L)/\0<r.length
 perm:(rs.flatten++T).Perm X0
theorem SS.size{rs:List (List ι)}{T:List ι}(h:SS κ L X0 st rs T):(pendingOf st).size=rs.length:=by
 rw[←aN];exact h.pend.len
theorem Oa{ps:Array PT}{p1 p2:List PT}{x y z:PT}{i:Nat}(e:ps.toList=p1++x::y::p2)(hi:p1.length=i):((ps.setIfInBounds i z).eraseIdxIfInBounds (i+1)).toList=p1++z::p2:=by
 subst hi;have e1:(ps.setIfInBounds p1.length z).toList=p1++z::y::p2:=by
  rw[nR,e,qQ _ _ (Θ _),tZ];rfl
 rw[Array.toList_eraseIdxIfInBounds,e1,List.eraseIdx_append_of_length_le (by lia),show p1.length+1-p1.length=1 by lia];rfl
theorem FX{rs:List (List ι)}{i:Nat}(h:i+1<rs.length):∃as r1 r2 bs,rs=as++r1::r2::bs/\as.length=i:=by
 refine⟨rs.take i,rs[i],rs[i+1],rs.drop (i+2),?_,by rw[br];lia⟩;have h1:rs.drop i=rs[i]::rs.drop (i+1):=dE (by lia);have h2:rs.drop (i+1)=rs[i+1]::rs.drop (i+2):=dE h;rw[←h2,←h1,bY]
theorem zq(C:jT prog w A κ s Ok L)(O:hJ L)(ok:∀x∈X0,Ok x){rs:List (List ι)}{T:List ι}(h:SS κ L X0 st rs T){i:Nat}(hi:i+1<rs.length)
  {Q:Bool->aI->η->Prop} (q:∀(rs':List (List ι)) (st':aI),SS κ L X0 st' rs' T->rs'.length+1=rs.length->rs'.flatten.length=rs.flatten.length->Q true st' s):kasC (model prog w) A E (lu i) Q st s:=by
 obtain⟨as,r1,r2,bs,rfl,hal⟩:=FX hi;obtain⟨p1,p2,ep,hp1,hp2⟩:=h.pend.cut;obtain⟨x,y,p3,rfl⟩:∃x y p3,p2=x::y::p3:=by
  match p2,hp2 with
  |[],hp2=>exact hp2.elim
  |[x],hp2=>obtain⟨a,b,c⟩:=x;exact hp2.2.2.elim
  |x::y::p3,_=>exact⟨x,y,p3,rfl⟩
 obtain⟨sa,na,pw⟩:=x;obtain⟨sb,nb,pw2⟩:=y;obtain⟨e1,e2,e3,e4,hp3⟩:=hp2;rw[tY] at e1 e3 hp3;have hl1:p1.length=i:=by rw[hp1.len];exact hal
 have g1:(pendingOf st)[i]?=some (sa,na,pw):=by
  rw[←af,ep,bD (by lia),show i-p1.length=0 by lia];rfl
 have g2:(pendingOf st)[i+1]?=some (sb,nb,pw2):=by
  rw[←af,ep,bD (by lia),show i+1-p1.length=1 by lia];rfl
 have sr1:=h.gU r1 (by simp);have sr2:=h.gU r2 (by simp);have fe:(as++r1::r2::bs).flatten=as.flatten++r1++r2++bs.flatten:=by simp
 refine Oj C O h.kind h.fail (P:=as.flatten) (R1:=r1) (R2:=r2) (S:=bs.flatten++T) g1 g2 (by rw[h.arr,fe];simp only[aq]) e1.symm e2.symm e4.symm (by lia) (by lia) (by lia) (fun z hz=>ok z (h.perm.mem_iff.mp ?_)) sr1.1 sr2.1 fun M st' pM sM k' f' pe ae=>?_
 ·rw[fe];rcases ag.mp hz with hz|hz
  ·simp[hz]
  ·simp[hz]
 ·have lM:M.length=r1.length+r2.length:=by rw[pM.length_eq,ψ]
  have fe2:(as++M::bs).flatten=as.flatten++M++bs.flatten:=by simp
  refine q (as++M::bs) st' ⟨k',f',?_,by rw[ae,fe2];simp only[aq],fun r hr=>?_,?_⟩ (by simp;lia) (by rw[fe2,fe];simp only[ψ];lia)
  ·rw[pe,Oa ep hl1];refine ir.app hp1 ⟨by lia,by lia,?_⟩;rw[tY,lM,←nL];exact hp3
  ·rcases ag.mp hr with z|z
   ·exact h.gU r (bf _ z)
   ·rcases ak.mp z with rfl|z
    ·exact⟨sM,by lia⟩
    ·exact h.gU r (ay _ (ai _ (ai _ z)))
  ·refine cE ?_ h.perm;rw[fe2,fe,aq as.flatten r1 r2];exact cf _ (cf _ (cp _ pM))
def Cb(pw:Nat):SM (ForInStep (Option Unit×Unit)):=do
 let g ←get
 match (if (pendingOf g).size > 1 then (pendingOf g)[(pendingOf g).size-2]? else none) with
 |some (_,_,older)=>if older≤pw then pure (.done (none,())) else do
  let ok ←lu ((pendingOf g).size-2)
  if (!ok)=true then pure (.done (some (),())) else pure (.yield (none,()))
 |_=>pure (.done (none,()))
def mB(size lo n:Nat):SM (ForInStep (Option Unit×Nat)):=do
 let g ←get
 match (pendingOf g).back? with
 |some (s1,n1,_)=>do
  let t ←forIn [0:size] ((none,()):Option Unit×Unit) fun _ _=>Cb (power' size (2*s1+n1) (2*s1+n1+n1+n) size)
  match t.1 with
  |some r=>pure (.done (some r,lo))
  |none=>do
   modify fun s=>setPending s ((pendingOf s).modify ((pendingOf s).size-1) fun x=>(x.1,x.2.1,power' size (2*s1+n1) (2*s1+n1+n1+n) size))
   modify fun s=>setPending s ((pendingOf s).push (lo,n,0))
   pure (.yield (none,lo+n))
 |_=>do
  modify fun s=>setPending s ((pendingOf s).push (lo,n,0))
  pure (.yield (none,lo+n))
theorem Aa{α:Type}{m m':SM α}{Q:α->aI->η->Prop}(e:m=m')(h:kasC (model prog w) A E m' Q st s):kasC (model prog w) A E m Q st s:=e▸h
theorem N9(C:jT prog w A κ s Ok L)(O:hJ L)(ok:∀x∈X0,Ok x){rs:List (List ι)}{R T:List ι}(h:SS κ L X0 st rs (R++T))(hR:R.Pairwise (Le L)/\0<R.length){size lo:Nat}(hlo:lo=rs.flatten.length)
  {Q:ForInStep (Option Unit×Nat)->aI->η->Prop} (q:∀(rs':List (List ι)) (st':aI),SS κ L X0 st' rs' T->lo+R.length=rs'.flatten.length->Q (.yield (none,lo+R.length)) st' s):kasC (model prog w) A E (mB size lo R.length) Q st s:=by
 have push:∀(rs1:List (List ι)) (st1:aI),SS κ L X0 st1 rs1 (R++T)->rs1.flatten.length=lo->Q (.yield (none,lo+R.length)) (setPending st1 ((pendingOf st1).push (lo,R.length,0))) s:=fun rs1 st1 h1 hl=>by
  have fe:(rs1++[R]).flatten=rs1.flatten++R:=by simp
  refine q (rs1++[R]) _ ⟨h1.kind,h1.fail,?_,?_,fun r hr=>?_,?_⟩ (by rw[fe,ψ];lia)
  ·show ir (rs1++[R]) 0 ((pendingOf st1).push (lo,R.length,0)).toList;rw[n6];exact ir.app h1.pend ⟨by lia,rfl,trivial⟩
  ·show (arrOf st1).toList=_;rw[h1.arr,fe,aq]
  ·rcases ag.mp hr with z|z
   ·exact h1.gU r z
   ·rw[aL.mp z];exact hR
  ·rw[fe,aq];exact h1.perm
 unfold mB;refine ω (iP ?_);cases hb:(pendingOf st).back? with
 |none=>exact ω (gE (Ξ (push rs st h hlo.symm)))
 |some p=>
  obtain⟨s1,n1,p3⟩:=p;dsimp only;refine ω (dm ?_);refine kX (fun k (b:Option Unit×Unit) st'=>b.1=none/\∃rs',SS κ L X0 st' rs' (R++T)/\rs'.flatten.length=lo) ?_ ?_ _ _ _ ⟨rfl,rs,h,hlo.symm⟩
  ·rintro⟨r,⟨⟩⟩ st' ⟨rfl,rs',h',hl'⟩;dsimp only;refine ω (gE (ω (gE (Ξ ?_))));refine push rs' _ ⟨h'.kind,h'.fail,?_,h'.arr,h'.gU,h'.perm⟩ hl';show ir rs' 0 ((pendingOf st').modify _ _).toList;rw[sP];exact ir.mod (f:=fun x=>(x.1,x.2.1,power' size (2*s1+n1) (2*s1+n1+n1+R.length) size)) (fun p=>⟨rfl,rfl⟩) h'.pend
  ·rintro xx k ⟨r,⟨⟩⟩ st' ⟨rfl,rs',h',hl'⟩;have fin:kasC (model prog w) A E (match (none:Option Unit) with
     |some r=>pure (ForInStep.done (some r,lo))
     |none=>do
      modify fun s=>setPending s ((pendingOf s).modify ((pendingOf s).size-1) fun x=>(x.1,x.2.1,power' size (2*s1+n1) (2*s1+n1+n1+R.length) size))
      modify fun s=>setPending s ((pendingOf s).push (lo,R.length,0))
      pure (.yield (none,lo+R.length)):SM (ForInStep (Option Unit×Nat))) Q st' s:=by
    dsimp only;refine ω (gE (ω (gE (Ξ ?_))));refine push rs' _ ⟨h'.kind,h'.fail,?_,h'.arr,h'.gU,h'.perm⟩ hl';show ir rs' 0 ((pendingOf st').modify _ _).toList;rw[sP];exact ir.mod (f:=fun x=>(x.1,x.2.1,power' size (2*s1+n1) (2*s1+n1+n1+R.length) size)) (fun p=>⟨rfl,rfl⟩) h'.pend
   unfold Cb;refine ω (iP ?_);by_cases h2:(pendingOf st').size > 1
   ·rw[if_pos h2];have h3:=h'.size;obtain⟨p,hp⟩:∃p,(pendingOf st')[(pendingOf st').size-2]?=some p:=⟨_,e6 (by lia)⟩;rw[hp];obtain⟨a1,a2,older⟩:=p;dsimp only;by_cases g:older≤power' size (2*s1+n1) (2*s1+n1+n1+R.length) size
    ·rw[if_pos g];exact Ξ ⟨rfl,fin⟩
    ·rw[if_neg g];refine ω (zq C O ok h' (by lia) fun rs2 st2 h4 _ h5=>?_);exact Ξ ⟨rfl,rfl,rs2,h4,by lia⟩
   ·rw[if_neg h2];exact Ξ ⟨rfl,fin⟩
end
end gs
namespace gs
open PySem PySem.W PyProof.Rows
section
variable {prog:Ω} {w:aw} {A:aF} {E:δ->η->Prop} {κ:cG} {s:η} {Ok:ι->Prop} {L:ι->ι->Bool} {st:aI} {X0:List ι}
theorem N8{rs:List (List ι)}(h:∀r∈rs,0<r.length):rs.length≤rs.flatten.length:=by
 induction rs with
 |nil=>simp
 |cons r rs ih=>
  have h1:=h r aj;have h2:=ih fun x hx=>h x (ai _ hx);rw[aE,eE,ψ];lia
theorem GW:∀(f n r:Nat),0<n->0<minRun' f n r
 |0,n,r,h=>by
  show 0<n+r;lia
 |f+1,n,r,h=>by
  rw[minRun'_succ];split
  ·lia
  ·exact GW f _ _ (by lia)
def Bc(p:Array PT):Nat:=if (if p.size-2 > 0 then p[p.size-2-1]?.map (·.2.1) else none).any (· < (p[p.size-2+1]?.elim 0 (·.2.1))) then p.size-2-1 else p.size-2
theorem N7(p:Array PT):Bc p≤p.size-2:=by
 unfold Bc;generalize (if p.size-2 > 0 then p[p.size-2-1]?.map (·.2.1) else none).any (· < (p[p.size-2+1]?.elim 0 (·.2.1)))=b;cases b with
 |true=>rw[if_pos rfl];lia
 |false=>rw[if_neg Ψ];lia
def Ci:SM (ForInStep (Option Unit×Unit)):=do
 let g ←get
 if (pendingOf g).size≤1 then pure (.done (none,()))
 else do
  let ok ←lu (Bc (pendingOf g))
  if (!ok)=true then pure (.done (some (),())) else pure (.yield (none,()))
def Bd(size:Nat):SM Unit:=do
 let t ←forIn [0:size] ((none,()):Option Unit×Unit) fun _ _=>Ci
 match t.1 with
 |some r=>pure r
 |none=>pure ()
theorem HG(C:jT prog w A κ s Ok L)(O:hJ L)(ok:∀x∈X0,Ok x){rs:List (List ι)}(h:SS κ L X0 st rs [])
  {Q:Unit->aI->η->Prop} (q:∀st',failedOf st'=none->(arrOf st').toList.Perm X0->(arrOf st').toList.Pairwise (Le L)->Q () st' s):kasC (model prog w) A E (Bd X0.length) Q st s:=by
 have out:∀(rs:List (List ι)) (st':aI),SS κ L X0 st' rs []->rs.length≤1->Q () st' s:=fun rs st' h hl=>by
  have e:=h.arr;rw[bF] at e;have p:=h.perm;rw[bF] at p;refine q st' h.fail (by rw[e];exact p) ?_;rw[e]
  match rs,hl,h with
  |[],_,_=>exact gm
  |[r],_,h=>
   have:=(h.gU r aj).1;simpa using this
 unfold Bd;refine ω (dm ?_);have hl:=N8 fun r hr=>(h.gU r hr).2;have hz:=h.perm.length_eq;rw[bF] at hz;refine kX (fun k (b:Option Unit×Unit) st'=>b.1=none/\∃rs,SS κ L X0 st' rs []/\rs.length≤k+1) ?_ ?_ _ _ _ ⟨rfl,rs,h,by rw[bR];lia⟩
 ·rintro⟨r,⟨⟩⟩ st' ⟨rfl,rs,h',hl'⟩;exact Ξ (out rs st' h' hl')
 ·rintro xx k ⟨r,⟨⟩⟩ st' ⟨rfl,rs,h',hl'⟩;unfold Ci;refine ω (iP ?_);have hs:=h'.size;by_cases g:(pendingOf st').size≤1
  ·rw[if_pos g];exact Ξ ⟨rfl,Ξ (out rs st' h' (by lia))⟩
  ·rw[if_neg g];have:=N7 (pendingOf st');refine ω (zq C O ok h' (by lia) fun rs2 st2 h4 h5 _=>?_);exact Ξ ⟨rfl,rfl,rs2,h4,by lia⟩
theorem N6(C:jT prog w A κ s Ok L)(O:hJ L)(ok:∀x∈X0,Ok x)(hk:kindOf st=κ)(hf:failedOf st=none)(hp:pendingOf st = #[])(ha:(arrOf st).toList=X0)(h0:0<X0.length)
  {Q:Unit->aI->η->Prop} (q:∀st',failedOf st'=none->(arrOf st').toList.Perm X0->(arrOf st').toList.Pairwise (Le L)->Q () st' s):kasC (model prog w) A E sortRuns' Q st s:=by
 have fz:(arrOf st).size=X0.length:=by rw[←aN,ha]
 rw[sortRuns'_eq];refine ω (iP ?_);dsimp only;rw[fz];have hmr:0<minRun' X0.length X0.length 0:=GW _ _ _ h0;generalize minRun' X0.length X0.length 0=mr at hmr;have init:SS κ L X0 st [] X0:=⟨hk,hf,by rw[hp];exact trivial,by rw[ha];rfl,nofun,kc _⟩;have sizeT:∀{st':aI} {rs:List (List ι)} {T:List ι},SS κ L X0 st' rs T->rs.flatten.length+T.length=X0.length:=fun h=>by
  have:=h.perm.length_eq;rwa [ψ] at this
 refine ω (dm ?_);refine kX (fun k (b:Option Unit×Nat) st'=>b.1=none/\∃rs T,SS κ L X0 st' rs T/\b.2=rs.flatten.length/\T.length≤k) ?_ ?_ _ _ _ ⟨rfl,[],X0,init,rfl,by rw[bR];show X0.length≤X0.length-0;lia⟩
 ·rintro⟨r,lo⟩ st' ⟨rfl,rs,T,h,hlo,hT⟩;have:T=[]:=cV (Nat.le_zero.mp hT);subst this;dsimp only;refine Aa (m':=Bd X0.length) ?_ (HG C O ok h q);refine eO (p8 fun _ t=>?_) fun t=>?_
  ·refine eO rfl fun g=>?_;rfl
  ·obtain⟨r,⟨⟩⟩:=t;cases r<;>rfl
 rintro xx k ⟨r,lo⟩ st' ⟨rfl,rs,T,h,hlo,hT⟩;have hlo:lo=rs.flatten.length:=hlo;have hT:T.length≤k+1:=hT;have hst:=sizeT h;dsimp only;by_cases hge:lo≥X0.length
 ·rw[if_pos hge];have:T=[]:=cV (by lia);subst this;refine Ξ ⟨rfl,?_⟩;dsimp only;refine Aa (m':=Bd X0.length) ?_ (HG C O ok h q);refine eO (p8 fun _ t=>?_) fun t=>?_
  ·refine eO rfl fun g=>?_;rfl
  ·obtain⟨r,⟨⟩⟩:=t;cases r<;>rfl
 rw[if_neg hge];have okT:∀x∈T,Ok x:=fun x hx=>ok x (h.perm.mem_iff.mp (ay _ hx));have eqP:∀n,∀m:SM (ForInStep (Option Unit×Nat)),m=mB X0.length lo n->m=mB X0.length lo n:=fun _ _ e=>e;refine ω (Of C O (st0:=st') (P:=rs.flatten) (X:=T) (S:=[]) ⟨h.kind,h.fail,rfl,by rw[h.arr];simp⟩ hlo.symm (by lia) (by lia) okT fun R T' st2 hR=>?_);dsimp only
 -- a run that stands
 have stand:∀(R T':List ι) (st3:aI),Run κ L st' st3 rs.flatten T [] R T'->SS κ L X0 st3 rs (R++T'):=fun R T' st3 hR=>by
  refine⟨hR.at_.kind,hR.at_.fail,by rw[hR.at_.pend];exact h.pend,by rw[hR.at_.arr];simp,h.gU,?_⟩;exact cE (cp _ hR.perm) h.perm
 have go:∀(R T':List ι) (st3:aI),Run κ L st' st3 rs.flatten T [] R T'->kasC (model prog w) A E (mB X0.length lo R.length) (fun r st' s'=>s'=s/\∃rs',r=.yield (none,lo+R.length)/\SS κ L X0 st' rs' T'/\lo+R.length=rs'.flatten.length/\T'.length≤k) st3 s:=fun R T' st3 hR=>by
  refine N9 C O ok (stand R T' st3 hR) ⟨hR.gU,hR.pos⟩ hlo fun rs' st4 h4 h5=>⟨rfl,rs',rfl,h4,h5,?_⟩;have:=hR.perm.length_eq;have:=hR.pos;rw[ψ] at *;lia
 by_cases hlt:R.length<mr
 ·rw[if_pos hlt];refine ω (lr (iN ?_));have hl:=hR.perm.length_eq;rw[ψ] at hl;refine ω (Ob C O hR hlo.symm (n:=min (X0.length-lo) mr) (by lia) (by lia) okT fun R3 T3 st3 hR3 hl3=>?_);rw[if_neg (by decide),←hl3];refine nt (Aa (m':=mB X0.length lo R3.length) ?_ (go R3 T3 st3 hR3)) ?_
  ·refine eO rfl fun g=>?_;cases hb:(pendingOf g).back? with
   |none=>rfl
   |some p=>
    obtain⟨s1,n1,p3⟩:=p;refine eO (p8 fun _ t=>?_) fun t=>?_
    ·refine eO rfl fun g=>?_;cases (if (pendingOf g).size > 1 then (pendingOf g)[(pendingOf g).size-2]? else none)<;>rfl
    ·obtain⟨r,⟨⟩⟩:=t;cases r<;>rfl
  ·rintro r st4 s4 ⟨rfl,rs',rfl,h4,h5,h6⟩;exact⟨rfl,rfl,rs',T3,h4,h5,h6⟩
 ·rw[if_neg hlt];refine nt (Aa (m':=mB X0.length lo R.length) ?_ (go R T' st2 hR)) ?_
  ·refine eO rfl fun g=>?_;cases hb:(pendingOf g).back? with
   |none=>rfl
   |some p=>
    obtain⟨s1,n1,p3⟩:=p;refine eO (p8 fun _ t=>?_) fun t=>?_
    ·refine eO rfl fun g=>?_;cases (if (pendingOf g).size > 1 then (pendingOf g)[(pendingOf g).size-2]? else none)<;>rfl
    ·obtain⟨r,⟨⟩⟩:=t;cases r<;>rfl
  ·rintro r st4 s4 ⟨rfl,rs',rfl,h4,h5,h6⟩;exact⟨rfl,rfl,rs',T',h4,h5,h6⟩
end
end gs
namespace ff
open PySem mI
section
variable {prog:Ω} {w:aw} {A:aF} {E:δ->η->Prop} {s:η}
theorem FK{h h':au}{ks:List Int}{b:ζ}(k:∀c ob,h.get? c=some ob->h'.get? c=some ob)(z:gQ prog w h ks b):gQ prog w h' ks b:=by
 obtain⟨o,its,n,ho,r⟩:=z;exact⟨o,its,n,k _ _ ho,r⟩
end
end ff
namespace gs
open PySem PySem.W PyProof.Rows PySem.Calls jr
section
variable {α:Type} {lt:α->α->Bool} {f:α->δ} {ps:List α}
def tL(f:α->δ)(ps:List α)(x:ι):Option α:=ps.find? fun p=>f p==x.1
def Lk(lt:α->α->Bool)(f:α->δ)(ps:List α)(x y:ι):Bool:=match tL f ps x,tL f ps y with
 |some p,some q=>lt p q
 |none,some _=>true
 |_,none=>false
theorem N5(O:vm lt):hJ (Lk lt f ps):=by
 constructor
 ·intro x y h;unfold Lk at h ⊢;cases hx:tL f ps x with
  |none=>
   rw[hx] at h;cases hy:tL f ps y with
   |none=>rfl
   |some q=>rfl
  |some p=>
   rw[hx] at h;cases hy:tL f ps y with
   |none=>rw[hy] at h;cases h
   |some q=>
    rw[hy] at h;exact O.km _ _ h
 ·intro x y z h1 h2;have h1:Lk lt f ps y x=false:=h1;have h2:Lk lt f ps z y=false:=h2;show Lk lt f ps z x=false;unfold Lk at h1 h2 ⊢;cases hx:tL f ps x with
  |none=>
   cases hz:tL f ps z<;>rfl
  |some p=>
   rw[hx] at h1;cases hy:tL f ps y with
   |none=>rw[hy] at h1;cases h1
   |some q=>
    rw[hy] at h1 h2;cases hz:tL f ps z with
    |none=>rw[hz] at h2;cases h2
    |some r=>
     rw[hz] at h2;exact O.fu _ _ _ h1 h2
theorem HF(inj:∀p∈ps,∀q∈ps,f p=f q->p=q){p:α}(hp:p∈ps):tL f ps (f p,f p)=some p:=by
 unfold tL;cases h:ps.find? fun q=>f q==f p with
 |none=>
  have:=t9.mp h p hp;rw[beq_self_eq_true] at this;exact absurd rfl this
 |some q=>
  have h1:=List.find?_some h;have h2:=List.mem_of_find?_eq_some h;rw[inj q h2 p hp (eq_of_beq h1)]
theorem HE(inj:∀p∈ps,∀q∈ps,f p=f q->p=q){p q:α}(hp:p∈ps)(hq:q∈ps):Lk lt f ps (f p,f p) (f q,f q)=lt p q:=by
 unfold Lk;rw[HF inj hp,HF inj hq]
end
section
variable {prog:Ω} {w:aw} {A:aF} {E:δ->η->Prop} {s:η}
theorem HD{α β:Type}(f:α->β):∀ps:List α,(ps.map f).zip (ps.map f)=ps.map fun p=>(f p,f p)
 |[]=>rfl
 |p::ps=>by
  rw[du,gZ,HD f ps];rfl
theorem N4{α:Type}{lt:α->α->Bool}{f:α->δ}{κ:cG}(O:vm lt){a:ζ}{n:Nat}{ps:List α}{P:tW->η->Prop}(ho:s.heap.get? a=some (seqObj "list" (ps.map f).toArray n))(inj:∀p∈ps,∀q∈ps,f p=f q->p=q)
  (hk:∀h',(∀b o,b≠a->s.heap.get? b=some o->h'.get? b=some o)->(∀(Q:cG->η->Prop) (E':δ->η->Prop),Q κ { s with heap:=h' }->ρ (model prog w) A (keyKind' (ps.map f).toArray) Q E' { s with heap:=h' }) ∧
   ∀p∈ps,∀q∈ps,∀(Q:Bool->η->Prop) (E':δ->η->Prop),Q (lt p q) { s with heap:=h' }->ρ (model prog w) A (keyLt' κ (f p) (f q)) Q E' { s with heap:=h' }) (h2:2≤ps.length) (hz:ps.length≤1000000)
  (h:∀qs h' c,oX lt ps qs->h'.get? a=some (seqObj "list" (qs.map f).toArray c)->(∀b o,b≠a->s.heap.get? b=some o->h'.get? b=some o)->P (.done (.ret .none)) { s with heap:=h' }):
  ρ (model prog w) A (dI.«list.sort» ⟨[.ref a],[]⟩) P E s:=by
 have ha:a<s.heap.objs.size:=aa ho;have s1:=dA s.heap a (ba fun _=>(#[]:Array δ));obtain⟨e1,ho1⟩:∃e1,(s.heap.update a (ba fun _=>(#[]:Array δ))).get? a=some (seqObj "list" #[] e1):=⟨_,gX ho fun _=>#[]⟩;have hlz:ps.length≤aC:=bB hz (by decide);generalize hvs:(ps.map f)=vs at ho;have hlen:vs.length=ps.length:=by rw[←hvs,π]
 have hu3:∀b o,b≠a->s.heap.get? b=some o->(((s.heap.update a (ba fun _=>(#[]:Array δ))).push (seqObj "tuple" vs.toArray 0)).push (seqObj "list" #[] 0)).get? b=some o:=fun b o hb e=>
  μ _ (μ _ ((s1.2 b hb).trans e))
 have ho3:(((s.heap.update a (ba fun _=>(#[]:Array δ))).push (seqObj "tuple" vs.toArray 0)).push (seqObj "list" #[] 0)).get? a=some (seqObj "list" #[] e1):=μ _ (μ _ ho1);rw[pU];refine ε (listItems_at ho rfl ?_);refine ε (iZ ho rfl ?_ (by rw[Γ,hlen];exact hlz) (aG _));refine ε (kG ho1 rfl ?_);refine ε (qH ?_ (by show vs.length≤_;rw[hlen];exact hlz));refine ε (kP ?_ (aG _));refine bT ?_;show ρ (model prog w) A _ P E { s with heap:=((s.heap.update a (ba fun _=>(#[]:Array δ))).push (seqObj "tuple" vs.toArray 0)).push (seqObj "list" #[] 0)};generalize ((s.heap.update a (ba fun _=>(#[]:Array δ))).push (seqObj "tuple" vs.toArray 0)).push (seqObj "list" #[] 0)=h3 at hu3 ho3 ⊢;obtain⟨hk1,hk2⟩:=hk h3 hu3;dsimp only;have hn2:¬vs.toArray.size<2:=by rw[Γ];lia
 rw[if_neg hn2,if_neg hn2];refine ε ?_;rw[←hvs];refine hk1 _ _ ?_;have C:jT prog w A κ { s with heap:=h3 } (fun x=>∃p∈ps,x=(f p,f p)) (Lk lt f ps):=by
  rintro x y ⟨p,hp,rfl⟩ ⟨q,hq,rfl⟩ Q E' hQ;rw[HE inj hp hq] at hQ;exact hk2 p hp q hq Q E' hQ
 have run:=N6 (E:=E) (Q:=fun _ st' s'=>s'={ s with heap:=h3 }/\∃qs:List α,oX lt ps qs/\failedOf st'=none/\(arrOf st').map (·.2)=(qs.map f).toArray) (X0:=ps.map fun p=>(f p,f p)) (st:=rZ κ ((ps.map f).toArray.zip (ps.map f).toArray) #[] 7 none) C (N5 O) (fun x hx=>by obtain⟨p,hp,rfl⟩:=aQ.mp hx;exact⟨p,hp,rfl⟩) rfl rfl rfl
  (by show ((ps.map f).toArray.zip (ps.map f).toArray).toList=_;rw[Array.toList_zip];exact HD f ps) (by rw[π];lia) fun st' hf hp hs=>⟨rfl,?_⟩
 ·refine ε (b9 run ?_ fun _ _ e=>e);rintro⟨⟨⟩,st'⟩ s' ⟨rfl,qs,hS,hf,hout⟩;dsimp only;have fz:(eJ (qs.map f)).size=ps.length:=by rw[Γ,π,hS.perm.length_eq]
  rw[hout];have s2:=dA h3 a (ba fun _=>eJ (qs.map f));obtain⟨c2,hc2⟩:∃c2,(h3.update a (ba fun _=>eJ (qs.map f))).get? a=some (seqObj "list" (eJ (qs.map f)) c2):=⟨_,gX ho3 fun _=>eJ (qs.map f)⟩;refine ε (kG ho3 rfl ?_);refine ε (iZ ho3 rfl ?_ (aG _) (bB (t7 fz) (Nat.le_succ_of_le hlz)));rw[hf];simp only[bne_self_eq_false,g6,if_false];exact ο (h qs _ c2 hS hc2 fun b o hb e=>(s2.2 b hb).trans (hu3 b o hb e))
 ·obtain⟨qs,pq,eq⟩:=L3.qe hp rfl;refine⟨qs,⟨pq,?_⟩,hf,?_⟩
  ·rw[eq,eD] at hs;exact fj (fun {x y} hx hy hle=>by
    have hle:Lk lt f ps (f y,f y) (f x,f x)=false:=hle;rwa [HE inj (pq.mem_iff.mp hy) (pq.mem_iff.mp hx)] at hle) hs
  ·apply Array.toList_inj.mp;rw[Array.toList_map,eq,fS];rfl
theorem zL{α:Type}{lt:α->α->Bool}{f:α->δ}{κ:cG}(O:vm lt){l:ζ}{ps:List α}{Q:δ->η->Prop}(inj:∀p∈ps,∀q∈ps,f p=f q->p=q)
  (hk:∀s':η,2≤ps.length->(∀b o,s.heap.get? b=some o->s'.heap.get? b=some o)->(∀(Q:cG->η->Prop) (E':δ->η->Prop),Q κ s'->ρ (model prog w) A.in1.in1 (keyKind' (ps.map f).toArray) Q E' s') ∧
   ∀p∈ps,∀q∈ps,∀(Q:Bool->η->Prop) (E':δ->η->Prop),Q (lt p q) s'->ρ (model prog w) A.in1.in1 (keyLt' κ (f p) (f q)) Q E' s') (hz:ps.length≤1000000)
  (yK:∀(R:List δ->η->Prop),(∀s',pX [] (fun x y=>y=x) s s'->R (ps.map f) s')->ρ (model prog w) A.in1 (collect (.ref l)) R E s)
  (h:∀qs s' c D,oX lt ps qs->s.heap.get? D=none->s'.heap.get? D=some (seqObj "list" (qs.map f).toArray c)->pX [] (fun x y=>y=x) s s'->Q (.ref D) s'):
  ρ (model prog w) A (call (.builtin "sorted") [.ref l]) Q E s:=by
 refine oq kind_sorted plain_sorted entry_sorted (args_sorted1 _) ?_;unfold dI.«sorted»;refine ε (m:=checkCount "sorted" 1 1 _) (ο ?_);refine ε (yK _ fun s1 hm=>?_);refine ε (kP ?_ (by rw[π];exact bB hz (by decide)));have hoL:(s1.heap.push (seqObj "list" (ps.map f).toArray 0)).get? s1.heap.objs.size=some (seqObj "list" (ps.map f).toArray 0):=aM _ rfl;have keep0:∀b o,s.heap.get? b=some o->s1.heap.get? b=some o:=fun b o e=>hm.heap b o (fun z=>nomatch z) e;have kD:s.heap.get? s1.heap.objs.size=none:=by
  cases hz:s.heap.get? s1.heap.objs.size with
  |none=>rfl
  |some o=>exact absurd (aa (keep0 _ _ hz)) (cw _)
 have keep:∀b o,s.heap.get? b=some o->(s1.heap.push (seqObj "list" (ps.map f).toArray 0)).get? b=some o:=fun b o e=>μ _ (keep0 b o e);show ρ _ _ _ _ _ { s1 with heap:=s1.heap.push (seqObj "list" (ps.map f).toArray 0)};refine ε (bT (dN slot_list_sort ⟨_,hoL,rfl⟩ entry_list_sort ?body (args_list_sort _)));have fin:∀qs h' c,oX lt ps qs->h'.get? s1.heap.objs.size=some (seqObj "list" (qs.map f).toArray c)->(∀b o,b≠s1.heap.objs.size->(s1.heap.push (seqObj "list" (ps.map f).toArray 0)).get? b=some o->h'.get? b=some o)->Q (.ref s1.heap.objs.size) { s1 with heap:=h' }:=fun qs h' c hS e kk=>
  h qs _ c _ hS kD e ⟨fun b o _ e1=>kk b o (aZ (aa (keep0 b o e1))) (keep b o e1),hm.gens,hm.drawn,hm.os,hm.toks⟩
 case body=>
  by_cases h2:2≤ps.length
  ·refine N4 O (s:={ s1 with heap:=s1.heap.push (seqObj "list" (ps.map f).toArray 0)}) hoL inj (fun h' kk=>hk { s1 with heap:=h' } h2 fun b o e=>kk b o (aZ (aa (keep0 b o e))) (keep b o e)) h2 hz fun qs h' c hS e kk=>?_;exact⟨_,rfl,ο ⟨_,rfl,fin qs h' c hS e kk⟩⟩
  ·refine IP (s:={ s1 with heap:=s1.heap.push (seqObj "list" (ps.map f).toArray 0)}) hoL (by rw[π];lia) fun h' c e kk=>?_;have hS:oX lt ps ps:=⟨.refl _,by
    rcases ps with _|⟨x,_|⟨y,r⟩⟩
    ·exact .nil
    ·exact bJ _ _
    ·simp at h2⟩
   exact⟨_,rfl,ο ⟨_,rfl,fin ps h' c hS e kk⟩⟩
end
end gs
namespace L3
open PySem PySem.Spec PyProof.Rows L2 My
section
variable {X:Cx} {e:υ} {ta:aP} {pos p p' pos':aV}
theorem N3(hc:X.calm=true)(hu:X.A.units+64<cLine):ie X (.type "set") (fun vs H Q=>∃(a:ζ) (xs:List V) (nss:List (List Int)),vs=[.ref a]/\gJ X.K H a xs/\aJ X.K H (nss.map tupI) xs/\nss.length≤1100/\MA X.prog X.w X.K H Q nss):=by
 intro pins s σ H vs us Q I r h;obtain⟨a,xs,nss,rfl,hl,hv,hz,q⟩:=h;obtain⟨u,rfl,ru⟩:=vals1 r;cases ru;obtain⟨its,rv,pl,_⟩:=I.list hl;obtain⟨ps,e1,e2,e3,e4⟩:=yb I hv rv;subst e3;have hlen:ps.length=nss.length:=by rw[←e1,π]
 refine ff.si (ps:=ps) (I.ok.hd hc) pl.isList rfl (fun p hp=>(e4 p hp).2) (by lia) (by lia) fun h' tk zs kk hS hD=>?_;obtain⟨o,es,ep,t,S,T⟩:=hS;refine⟨.ref s.heap.objs.size,_,I.laid (o:=.ext (lF X.prog X.w s.heap.objs.size zs)) kk (Θ _) ?_,rfl,q _ zs (I.bI.fresh (Θ _)) (fun p hp=>(e4 p (hD.sub p hp)).1) (fun ns=>?_) S.nd ?_⟩
 ·refine⟨⟨o,es,ep,t,S.at_,S.ex,S.dat,S.ents,S.nd,S.plain,S.led,T⟩,⟨o,S.at_⟩,fun h1 h2 ⟨o',es',ep',t',y1,y⟩ kk2=>⟨o',es',ep',t',kk2 _ y1,y⟩⟩
 ·rw[←e1];constructor
  ·intro hm;obtain⟨p,hp,rfl⟩:=aQ.mp hm;exact aQ.mpr ⟨p,hD.sub p hp,rfl⟩
  ·intro hm;obtain⟨p,hp,rfl⟩:=aQ.mp hm;exact hD.all p hp
 ·rw[←hlen];exact hD.len
theorem N2(hc:X.calm=true)(hu:X.A.units+64<cLine):ie X (.builtin "sorted") (fun vs H Q=>∃(b:ζ) (zs:List (List Int×ζ)),vs=[.ref b]/\H b=some (.ext (lF X.prog X.w b zs))/\(∀p∈zs,dh X.K H p.2 (p.1.map V.int))/\zs.length≤1100/\(∀p∈zs,p.1≠[]) ∧
  ∀(p:ζ) (mss:List (List Int)) (ys:List V),H p=none->mss.Perm (zs.map (·.1))->mT mss->aJ X.K H (mss.map tupI) ys->Q (.ref p) (upd H p (.lst ys))):=by
 intro pins s σ H vs us Q I r h;obtain⟨b,zs,rfl,hb,hk,hz,b7,q⟩:=h;obtain⟨u,rfl,ru⟩:=vals1 r;cases ru;obtain⟨⟨o,es,ep,t,y1,y2,y3,y4,y5,y6,y7,T⟩,_⟩:=(show b8 X.prog X.w H s.heap b _ from I.bI b _ hb);have hK:∀p∈zs,ff.gQ X.prog X.w s.heap p.1 p.2:=fun p hp=>by
  obtain⟨its,rv,⟨o,h1,h2,n,h3⟩,_⟩:=I.tuple (hk p hp);exact⟨o,its.toArray,n,h1,h2,h3,Ds rv⟩
 have S:ff.lT X.prog X.w s.heap b o es ep t zs:=⟨y1,y2,y3,y4,hK,y5,y6,y7⟩;obtain⟨zs',p1,p2⟩:=qe (ff.lD X.w b ep es) y4;have fz:es.size=zs.length:=by
  have:es.toList.length=zs.length:=by rw[y4,π]
  simpa using this
 have hz':zs'.length≤1100:=by rw[p1.length_eq];lia
 have inj:∀p∈zs',∀q∈zs',jr.fT p=jr.fT q->p=q:=fun p hp q hq e=>by
  obtain⟨k,b⟩:=p;obtain⟨k',b'⟩:=q;have e:bo b=bo b':=e;injection e with e;subst e;have ek:k=k':=(hK _ (p1.mem_iff.mp hp)).inj (hK _ (p1.mem_iff.mp hq));rw[ek]
 refine gs.zL (κ:=tuples' true) (f:=jr.fT) (ps:=zs') jr.Kz inj (fun s' h2 kk=>?_) (by lia) (fun R hR=>?_) fun qs s' c D' hS hn hD hm=>?_
 ·have hk':∀p∈zs',ff.gQ X.prog X.w s'.heap p.1 p.2/\p.1≠[]:=fun p hp=>⟨ff.FK kk (hK p (p1.mem_iff.mp hp)),b7 _ (p1.mem_iff.mp hp)⟩;exact⟨fun Q E q=>jr.zr (fun z=>by rw[z] at h2;simp at h2) hk' q,fun p hp q hq Q E hq'=>jr.yE (hk' p hp).1 (hk' q hq).1 hq'⟩
 ·refine ff.ql (by have:=I.ok.hd hc;simpa using this) S.wk T (by lia) fun s' hm=>?_;have:=hR s' hm;rw[p2,fS];exact this
 ·have e:s'={ s with heap:=s'.heap,toks:=s'.toks }:=by
   cases s';cases s;have h1:=hm.gens;have h2:=hm.drawn;have h3:=hm.os;simp only at h1 h2 h3;subst h1 h2 h3;rfl
  rw[e];refine⟨.ref D',_,Inv.Fb I (o:=.lst (qs.map fun p=>.ref p.2)) (fun b u z=>hm.heap b u (fun y=>nomatch y) z) hn ?_,rfl,?_⟩
  ·refine⟨?_,_,c,Dr qs,hD⟩;rw[π,hS.perm.length_eq,cu];lia
  ·refine q _ (qs.map (·.1)) _ (Inv.Bb I hn) ((hS.perm.map _).trans (p1.map _)) ?_ (Ar fun p hp=>hk p (p1.mem_iff.mp (hS.perm.mem_iff.mp hp)));exact eD.mpr hS.rise
def wZ(ta:aP):aP:=fun τ G Q=>ta τ G fun x G1=>match x with
 |.obj a=>∃nss:List (List Int),G1 a=some (.lst (nss.map tupI))/\nss.length≤1100/\(∀ns∈nss,ns≠[])/\∀(p:ζ) (mss:List (List Int)) (G':Gp),gk G1 p (.lst (mss.map tupI)) G'->(∀ns,ns∈mss↔ns∈nss)->mss.Nodup->mT mss->mss.length≤nss.length->Q (.obj p) G'
 |_=>False
theorem OG(hu:X.A.units+64<cLine)(ha:QE X e ta)(hm:X.mg "sorted" = none)(hm2:X.mg "set" = none)(hc:X.calm=true:=by rfl)(hg:Gl X "sorted":=by rfl)(hg2:Gl X "set":=by rfl)(he2:notStar e=true:=by rfl):
  QE X (.Call (.Name "sorted" p) [.Call (.Name "set" p') [e] [] pos'] [] pos) (wZ ta):=
 ⟨iC (oO (N2 hc hu) hg hm rfl (mw (yl (N3 hc hu) hg2 hm2 rfl (mw ha.of qd (dW he2)) (he:=dW he2) (hpl:=jo rfl)) qd (dW rfl)) (he:=dW rfl) (hpl:=jo rfl)) fun σ H Q ⟨τ,G,Q3,RS,RG,h,k⟩=>by
  refine⟨τ,G,_,RS,RG,h,fun v H1 d G1 h1 S1 R1 q1=>?_⟩;cases d with
  |obj a=>
   obtain⟨nss,e1,hz,b7,q⟩:=q1;obtain⟨xs,e2,e3⟩:=R1 a _ e1;rw[jJ h1];refine⟨a,xs,nss,rfl,.of e2,e3,hz,fun b zs hb hk hmem hnd hlen=>?_⟩;have E2:Ext H1 (upd H1 b (.ext (lF X.prog X.w b zs))):=.laid hb;refine⟨b,zs,rfl,iV,fun p hp=>dh.ext E2 (hk p hp),by lia,fun p hp=>b7 _ ((hmem _).mp (aQ.mpr ⟨p,hp,rfl⟩)),fun p mss ys hp hpm hr hv=>?_⟩;have R2:aS X.K G1 (upd H1 b (.ext (lF X.prog X.w b zs))):=R1.laid hb;refine k _ _ (.obj p) _ tj ((S1.trans (.laid hb)).trans (.jq hp)) (R2.tu hp hv) (q p mss _ (.mk' (R2.free hp)) (fun ns=>?_) ?_ hr ?_)
   ·rw[hpm.mem_iff];exact hmem ns
   ·exact hpm.nodup_iff.mpr hnd
   ·rw[hpm.length_eq,π];exact hlen
  |_=>exact q1.elim⟩
end
end L3
namespace My
open PySem L2 L3
theorem OF{n:Nat}{d:D}(h:jK n d=true):∃i:Nat,d=.int i/\i<n:=by
 cases d with
 |int i=>
  have h':(decide (0≤i)&&decide (i<(n:Int)))=true:=h;rw[cA,decide_eq_true_iff,decide_eq_true_iff] at h';exact⟨i.toNat,by rw[sL h'.1],by lia⟩
 |_=>cases h
theorem HC:∀cs:List bq,oR (cs.map cD)=true
 |[]=>rfl
 |c::cs=>by
  show (kL (cD c)&&oR (cs.map cD))=true;rw[HC cs];rfl
theorem CL{cs:List bq}{i:Nat}{c:bq}(hr:gK cs)(hi:cs[i]?=some c)(z:bq):z∈fx cs i↔z∈cs/\z≠c:=by
 have nd:=CU hr;obtain⟨hl,e⟩:=ax.mp hi;have split:cs=cs.take i++c::cs.drop (i+1):=by
  rw[←e,qj,bY]
 unfold fx;rw[split] at nd;rw[List.nodup_append] at nd;obtain⟨n1,n2,n3⟩:=nd;obtain⟨n4,n5⟩:=fi.mp n2;rw[ag];constructor
 ·rintro (h|h)
  ·exact⟨cb h,fun q=>n3 z h c aj q⟩
  ·exact⟨cT h,fun q=>n4 (q▸h)⟩
 ·rintro⟨h1,h2⟩;rw[split,ag] at h1;rcases h1 with h|h
  ·exact .inl h
  ·exact .inr ((ak.mp h).resolve_left h2)
theorem OE{a b:bq}(h:a≠b):tO a b∨tO b a:=by
 obtain⟨s,r⟩:=a;obtain⟨s',r'⟩:=b;by_cases e:s=s'
 ·subst e;have:r≠r':=fun z=>h (by rw[z]);rcases Int.lt_or_gt_of_ne this with z|z
  ·exact .inl (.inr ⟨rfl,z⟩)
  ·exact .inr (.inr ⟨rfl,z⟩)
 ·rcases Int.lt_or_gt_of_ne e with z|z
  ·exact .inl (.inl z)
  ·exact .inr (.inl z)
theorem OD{a b c:bq}(h1:tO a b)(h2:tO b c):tO a c:=by
 obtain⟨s,r⟩:=a;obtain⟨s',r'⟩:=b;obtain⟨s2,r2⟩:=c;unfold tO at *;dsimp only at *;lia
theorem HB(z:bq):∀us:List bq,gK us->∃vs,(∀y,y∈vs↔y=z∨y∈us)/\gK vs
 |[],_=>⟨[z],fun y=>by simp,bJ _ _⟩
 |c::us,h=>by
  have h':=cR.mp h;by_cases e:z=c
  ·subst e;exact⟨z::us,fun y=>by simp,h⟩
  ·rcases OE e with l|l
   ·refine⟨z::c::us,fun y=>by simp,cR.mpr ⟨fun y hy=>?_,h⟩⟩;rcases ak.mp hy with rfl|hy
    ·exact l
    ·exact OD l (h'.1 y hy)
   ·obtain⟨vs,hm,hr⟩:=HB z us h'.2;refine⟨c::vs,fun y=>?_,cR.mpr ⟨fun y hy=>?_,hr⟩⟩
    ·rw[ak,hm,ak];constructor
     ·rintro (a|a|a)
      ·exact .inr (.inl a)
      ·exact .inl a
      ·exact .inr (.inr a)
     ·rintro (a|a|a)
      ·exact .inr (.inl a)
      ·exact .inl a
      ·exact .inr (.inr a)
    ·rcases (hm y).mp hy with rfl|hy
     ·exact l
     ·exact h'.1 y hy
theorem HA:∀l:List bq,∃us,(∀z,z∈us↔z∈l)/\gK us
 |[]=>⟨[],fun z=>Iff.rfl,gm⟩
 |c::l=>by
  obtain⟨us,hm,hr⟩:=HA l;obtain⟨vs,hm2,hr2⟩:=HB c us hr;exact⟨vs,fun z=>by rw[hm2,hm,ak],hr2⟩
theorem OC{z c:bq}{k:Nat}(hz:Valid z)(hc:Valid c):z∈parts c k↔z.1=c.1*(k:Int)/\rK z c=true:=by
 obtain⟨s,r⟩:=c;obtain⟨s',r'⟩:=z;obtain⟨a1,a2,a3⟩:=hz;obtain⟨b1,b2,b3⟩:=hc;have a1:0<s':=a1;have a2:0≤r':=a2;have a3:r' < s':=a3;have b1:0<s:=b1;have b2:0≤r:=b2;have b3:r<s:=b3;unfold parts rK rg;dsimp only;rw[aQ,cA,beq_iff_eq,beq_iff_eq];constructor
 ·rintro⟨t,ht,e⟩;injection e with e1 e2;subst e1;subst e2;refine⟨rfl,Int.mul_emod_right _ _,?_⟩;rw[Int.add_mul_emod_self_left];exact Int.emod_eq_of_lt b2 b3
 ·rintro⟨rfl,_,e⟩;have h1:0≤r' / s:=Int.ediv_nonneg a2 (by lia);have h2:=Int.emod_add_mul_ediv r' s;have h3:r' / s<(k:Int):=Int.ediv_lt_of_lt_mul b1 (by rw[Int.mul_comm];exact a3);refine⟨(r' / s).toNat,de.mpr (by lia),?_⟩;rw[sL h1];rw[e] at h2;rw[h2]
theorem OB{c:bq}(hc:0<c.1)(k:Nat):(parts c k).Nodup:=by
 unfold parts;show List.Pairwise _ _;rw[eD];refine List.nodup_range.imp fun {a b} h e=>h ?_;injection e with _ e2;have:c.1*(a:Int)=c.1*(b:Int):=by lia
 have:=Int.eq_of_mul_eq_mul_left (by lia) this;lia
theorem OA{cs:List bq}{i:Nat}(hr:gK cs):(fx cs i).Nodup:=by
 have:gK (fx cs i):=by
  unfold fx;rw[←lB];exact qU (List.eraseIdx_sublist _ _) hr
 exact CU this
theorem Hz(f:bq->Bool):∀l:List bq,(l.filter f).length+(l.filter fun z=>!f z).length=l.length
 |[]=>rfl
 |c::l=>by
  have ih:=Hz f l;rw[List.filter_cons,List.filter_cons];cases h:f c
  ·simp;lia
  ·simp;lia
theorem Oz{rs ps us:List bq}{f:bq->Bool}(nr:rs.Nodup)(np:ps.Nodup)(nu:us.Nodup)(hm:∀z,z∈us↔z∈rs∨z∈ps)(hf:∀z∈rs,f z=true↔z∈ps):us.length+(rs.filter f).length=rs.length+ps.length:=by
 have n1:((rs.filter fun z=>!f z)++ps).Nodup:=List.nodup_append.mpr ⟨nr.sublist List.filter_sublist,np,fun a ha b hb e=>by
  subst e;obtain⟨h1,h2⟩:=jx.mp ha;rw[(hf a h1).mpr hb] at h2;cases h2⟩
 have h1:us.Perm ((rs.filter fun z=>!f z)++ps):=(nM nu n1).mpr fun z=>by
  rw[hm,ag,jx];constructor
  ·rintro (h|h)
   ·by_cases hp:z∈ps
    ·exact .inr hp
    ·refine .inl ⟨h,?_⟩;cases hz:f z with
     |true=>exact absurd ((hf z h).mp hz) hp
     |false=>rfl
   ·exact .inr h
  ·rintro (h|h)
   ·exact .inl h.1
   ·exact .inr h
 have h2:=h1.length_eq;rw[ψ] at h2;have h3:=Hz f rs;lia
def Ld(cs:List bq)(i k:Nat)(c:bq)(Y:List bq->Prop)(N:Int->Int->Prop):Prop:=∀us:List bq,(∀z,z∈us↔z∈fx cs i∨z∈parts c k)->gK us ->
 (12<us.length->N (us.length:Nat) 12)/\(us.length≤12->(1000<c.1*(k:Int)->N (c.1*(k:Int)) 1000)/\(c.1*(k:Int)≤1000->Y us))
def we:oY:=fun ds Q E=>∃(cs:List bq) (d:D) (k:Nat),ds=[eQ cs,d,.int k]/\qE cs/\(2≤k/\k≤1001)/\Known gP d/\(jK cs.length d=false->E "NoPlace" []) ∧
 ∀(i:Nat) (c:bq),d=.int i->cs[i]?=some c->Ld cs i k c (fun us=>Q (eQ us) gP) fun m b=>E "TooGreat" [("many",m),("most",b)]
def Oy(E:E3):bj:=di (bO yo (ξ (aR eL (χ 4) (dJ td (ξ (bO uT (ξ (χ 3) (ξ (χ 2) (av)))) (av)))) (av)))
def Ox(E:E3):bj:=cm (qZ (tK wy E (ξ (χ 5) (ξ (eC (.int 1000)) (av))))) (Oy E)
def NR(E:E3):bj:=cm (qZ (tK wy E (ξ (aR uj (aR eL (dJ lh (ξ (χ 4) (av))) (χ 2)) (dJ lh (ξ (χ 6) (av)))) (ξ (eC (.int 12)) (av))))) (Ox E)
def NQ(E:E3):bj:=cm (dj (iK ["other"] [5,3] (vd (χ 4)) (hName 0) (vj (bX (aR (fw false) (aR cF (χ 0) (eC (.int 0))) (χ 1))) (bX (bO yq (ξ (χ 0) (ξ (χ 2) (av)))))) (χ 0)) (hName 6)) (NR E)
def Hy(E:E3):bj:=cm (dj (aR iH (aR cF (χ 3) (eC (.int 0))) (χ 2)) (hName 5)) (NQ E)
def NP(E:E3):bj:=cm (dj (aR eL (zz (χ 0) (vC) (rA (χ 1))) (zz (χ 0) (rA (aR eL (χ 1) (eC (.int 1)))) (vC))) (hName 4)) (Hy E)
def NO(E:E3):bj:=cm (dj (aR cF (χ 0) (χ 1)) (hName 3)) (NP E)
def Hx(E:E3):bj:=cm (qZ (tK xQ E (ξ (χ 0) (ξ (χ 1) (av))))) (NO E)
theorem NN:∀ds Q E,we ds Q E->Hx E (bw Q) (bA ["clocks","place","k","clock","others","step","twice"] ds) gP:=by
 rintro ds Q E ⟨cs,d,k,rfl,hR,⟨k2,kb⟩,hk,q1,q2⟩;refine⟨cs,d,rfl,hk,fun hp G1 j1=>?_,q1⟩;obtain⟨i,rfl,hil⟩:=OF hp;obtain⟨ok,hl,hri⟩:=hR;have hi:cs[i]?=some cs[i]:=az hil;have hm:=bH hi
 replace q2:=q2 i cs[i] rfl hi
 generalize cs[i]=c at hi hm q2;have hv:=(ok c hm).1;have v1:=hv.1;have h1000:=(ok c hm).2;have e1:kz (cs.map cD) none (some (i:Int))=(cs.take i).map cD:=by rw[Ao,HR]
 have e2:kz (cs.map cD) (some ((i:Int)+1)) none=(cs.drop (i+1)).map cD:=by
  rw[Ao,show ((i:Int)+1)=((i+1:Nat):Int) by lia,PD]
 have hlr:(fx cs i).length=cs.length-1:=by
  unfold fx;rw[ψ,br,bC];lia
 have hrv:∀z∈fx cs i,Valid z:=fun z hz=>(ok z ((CL hri hi z).mp hz).1).1;obtain⟨us,hmu,hru⟩:=HA (fx cs i++parts c k)
 replace hmu:∀z,z∈us↔z∈fx cs i∨z∈parts c k:=fun z=>by rw[hmu,ag]
 have hlen:=Oz (f:=fun z=>z.1==c.1*(k:Int)&&rK z c) (OA hri) (OB v1 k) (CU hru) hmu fun z hz=>by
  rw[OC (hrv z hz) hv,cA,beq_iff_eq]
 rw[CW] at hlen;obtain⟨g1,g2⟩:=q2 us hmu hru;refine⟨cD c,yk (by rw[aT,hi];rfl),?_⟩;show ((kz (cs.map cD) none (some (i:Int))).length+(kz (cs.map cD) (some ((i:Int)+1)) none).length≤aC)/\_;rw[e1,e2,←ψ,←eG];have hck:c.1*(k:Int)≤1000*1001:=Int.mul_le_mul h1000 (by lia) (by lia) (by decide);have hck0:0≤c.1*(k:Int):=mP (by lia) (by lia);show ((fx cs i).map cD).length≤aC/\Hy E (bw Q) [some (eQ cs),some (.int i),some (.int k),some (cD c),some (.tup ((fx cs i).map cD)),none,none] G1;refine⟨by rw[π];exact fF (by lia),_,rfl,⟨gB (by lia) (by lia),gB (by lia) (by lia)⟩,?_,?_⟩
 ·show ((fx cs i).map cD).length≤aC;rw[π];exact fF (by lia)
 refine sV (fun τ=>∃x,τ=[x,some (.int (c.1*(k:Int))),some (cD c)]) cD (fun z=>z.1==c.1*(k:Int)&&rK z c) cD (G:=G1) trivial (fx cs i) [] _ ⟨none,rfl⟩ ?_ ?_
 ·rintro z hz τ K1 K2 ⟨x,rfl⟩ h1 h2;refine⟨_,rfl,_,_,rfl,rfl,aG _,fun h3=>⟨z,c,rfl,v1,fun h4=>h1 ?_ _ ⟨_,rfl⟩,fun h4=>h2 ?_ _ ⟨_,rfl⟩⟩,fun h3=>⟨nofun,fun _=>h2 ?_ _ ⟨_,rfl⟩⟩⟩
  ·have h3':(z.1==c.1*(k:Int))=true:=h3;rw[h3',h4];rfl
  ·rw[h4,qV]
  ·have h3':(z.1==c.1*(k:Int))=false:=h3;rw[h3',mR]
 intro p1 G2 n1;rw[cS] at n1;have em:(((((fx cs i).map cD).length:Nat):Int)+(k:Int))-(((((fx cs i).filter fun z=>z.1==c.1*(k:Int)&&rK z c).map cD).length:Nat):Int)=(us.length:Int):=by
  rw[π,π];lia
 refine⟨_,n1.at_,?_⟩;refine⟨_,_,rfl,fun h G3 j3=>?_,fun h=>?_⟩
 rotate_left
 ·rw[em] at h ⊢;exact g1 (by lia)
 rw[em] at h;have yL:us.length≤12:=by lia
 obtain⟨g3,g4⟩:=g2 yL;refine⟨_,_,rfl,fun zx G4 j4=>?_,g3⟩;have hk2:k≤24:=by
  have:=qR (fun z=>z.1==c.1*(k:Int)&&rK z c) (fx cs i);lia
 refine⟨c,k,rfl,by lia,gB (by lia) (by lia),fun p2 G5 n2=>⟨_,n2.at_,?_⟩⟩;have hpl2:=CW c k;refine⟨?_,fx cs i++parts c k,?_,?_,fun cs' G6 s3 hmem hr hl3=>?_⟩
 ·rw[π,π];exact fF (by lia)
 ·rw[←eG];rfl
 ·rw[ψ];lia
 have e:cs'=us:=CV hr hru fun z=>by rw[hmem,hmu,ag]
 subst e;exact⟨gP,O1 _,g4 zx⟩
end My
namespace My
open PySem L2 L3
def qp(m b:Int):D:=.tup [.str "great",.tup [.int m,.int b]]
def uP:fO:=fun ds G Q=>∃(cs:List bq) (d:D) (k:Nat),ds=[eQ cs,d,.int k]/\qE cs/\(2≤k/\k≤1001)/\Known gP (mj G d)/\∀G',Sub G G'->(jK cs.length (mj G d)=false->Q (.tup [.str "place",.aO]) G') ∧
 ∀(i:Nat) (c:bq),mj G d=.int i->cs[i]?=some c->Ld cs i k c (fun us=>Q (.tup [.str "told",eQ us]) G') fun m b=>Q (qp m b) G'
def NM(rs:List ν):bj:=di (eP (ξ (bO (wu rs) (ξ (χ 3) (av))) (ξ (eC .aO) (av))))
def CK(rs:List ν):bj:=cm (jn (vj (bX (aR (fw false) (bO (wu rs) (ξ (χ 3) (av))) (eC (.str "great")))) (vj (bX (bO sW (ξ (uo rs "many" (χ 3)) (av)))) (bX (bO sW (ξ (uo rs "most" (χ 3)) (av)))))) (di (eP (ξ (eC (.str "great")) (ξ (eP (ξ (uo rs "many" (χ 3)) (ξ (uo rs "most" (χ 3)) (av)))) (av))))) (fc)) (NM rs)
def GV(rs:List ν):bj:=Cz rs 3 (zK (fun KX=>eP ((vP (fun _=>eC (.str "told")) (vP (wQ we (ξ (χ 0) (ξ (χ 1) (ξ (χ 2) (av))))) ((fun _=>av)))) KX))) (CK rs) (fc)
theorem zy{rs:List ν}{D3:gu}{G:Gp}{p:ζ}{m b:Int}{x0 x1 x2:Option D}(hr:("TooGreat":ν)∈rs)(hp:G p=some (.gen (jM "TooGreat" [("many",m),("most",b)])))(q:∀G',Sub G G'->D3.rt (qp m b) G'):CK rs D3 [x0,x1,x2,some (.obj p)] G:=by
 refine⟨p,_,"great",_,rfl,hp,hr,.inl ⟨rfl,rfl⟩,fun G1 s1=>⟨_,_,rfl,rfl,aG _,fun _=>?_,fun h=>absurd h (by decide)⟩⟩;have hp1:=s1 _ _ hp;refine⟨_,_,m,hp1,hr,rfl,trivial,fun _=>⟨_,_,b,hp1,hr,rfl,trivial,fun _=>?_,fun h=>(nomatch h)⟩,fun h=>(nomatch h)⟩;exact⟨_,_,m,hp1,hr,rfl,_,_,b,hp1,hr,rfl,q G1 s1⟩
theorem FF{rs:List ν}{D3:gu}{G:Gp}{p:ζ}{x0 x1 x2:Option D}(hr:("NoPlace":ν)∈rs)(hp:G p=some (.gen (jM "NoPlace" [])))(q:∀G',Sub G G'->D3.rt (.tup [.str "place",.aO]) G'):CK rs D3 [x0,x1,x2,some (.obj p)] G:=by
 refine⟨p,_,"place",_,rfl,hp,hr,.inr ⟨rfl,rfl⟩,fun G1 s1=>⟨_,_,rfl,rfl,aG _,fun h=>absurd h (by decide),fun _=>⟨nofun,fun _=>?_⟩⟩⟩;exact⟨p,_,"place",_,rfl,s1 _ _ hp,hr,.inr ⟨rfl,rfl⟩,fun G2 s2=>q G2 (s1.trans s2)⟩
theorem NL:∀ds G Q,uP ds G Q->GV ["TooGreat","NoPlace"] (bw Q) (bA ["clocks","place","k","e"] ds) G:=by
 rintro ds G Q ⟨cs,d,k,rfl,hR,hk,hd,q⟩;refine⟨cs,mj G d,k,rfl,hR,hk,hd,fun h=>⟨by simp,fun p G2 n=>?_⟩,fun i c e1 e2 us hm hr=>⟨fun h=>⟨by simp,fun p G2 n=>?_⟩,fun h=>⟨fun g=>⟨by simp,fun p G2 n=>?_⟩,fun g=>⟨?_,rV.no,fun G2 j=>dq ((((q G2 j.old).2 i c e1 e2) us hm hr).2 h |>.2 g)⟩⟩⟩⟩
 ·exact FF (by simp) n.at_ fun G3 s3=>dq ((q G3 (n.sub.trans s3)).1 h)
 ·exact zy (by simp) n.at_ fun G3 s3=>dq ((((q G3 (n.sub.trans s3)).2 i c e1 e2) us hm hr).1 h)
 ·exact zy (by simp) n.at_ fun G3 s3=>dq (((((q G3 (n.sub.trans s3)).2 i c e1 e2) us hm hr).2 h).1 g)
 ·show kL (.tup (us.map cD))=true;unfold kL;exact HC us
def qh(c:bq)(k:Nat)(us:List bq):D:=if 12<us.length then qp (us.length:Nat) 12 else if 1000<c.1*(k:Int) then qp (c.1*(k:Int)) 1000 else .tup [.str "told",eQ us]
def xH:fO:=fun ds G Q=>∃(cs:List bq) (i k:Nat) (c:bq),ds=[eQ cs,.int i,.int k]/\qE cs/\cs[i]?=some c/\(2≤k/\k≤1001)/\∀us G',Sub G G'->(∀z,z∈us↔z∈fx cs i∨z∈parts c k)->gK us->Q (qh c k us) G'
def NK:bj:=di (eP (ξ (eC (.str "told")) (ξ (dJ td (ξ (χ 4) (av))) (av))))
def NJ:bj:=cm (jn (bX (aR uO (aR iH (aR cF (aR cF (χ 0) (χ 1)) (eC (.int 0))) (χ 2)) (eC (.int 1000)))) (di (eP (ξ (eC (.str "great")) (ξ (eP (ξ (aR iH (aR cF (aR cF (χ 0) (χ 1)) (eC (.int 0))) (χ 2)) (ξ (eC (.int 1000)) (av)))) (av))))) (fc)) NK
def NI:bj:=cm (jn (bX (aR uO (dJ lh (ξ (χ 4) (av))) (eC (.int 12)))) (di (eP (ξ (eC (.str "great")) (ξ (eP (ξ (dJ lh (ξ (χ 4) (av))) (ξ (eC (.int 12)) (av)))) (av))))) (fc)) NJ
def NH:bj:=cm (dj (wZ (aR eL (χ 3) (bO yr (ξ (aR cF (χ 0) (χ 1)) (ξ (χ 2) (av)))))) (hName 4)) NI
def GU:bj:=cm (dj (iK ["clock"] [0,1] (vd (χ 0)) (hName 0) (bX (aR (fw true) (χ 0) (aR cF (χ 1) (χ 2)))) (χ 0)) (hName 3)) NH
theorem NG:∀ds G Q,xH ds G Q->GU (bw Q) (bA ["clocks","place","k","left","found"] ds) G:=by
 rintro ds G Q ⟨cs,i,k,c,rfl,hR,hi,⟨k2,kb⟩,q⟩;obtain⟨ok,hl,hri⟩:=hR;have hm:=bH hi;have v1:=(ok c hm).1.1;have h1000:=(ok c hm).2;have hix:lp (cs.map cD) (i:Int)=some (cD c):=yk (by rw[aT,hi];rfl);have hck:c.1*(k:Int)≤1000*1001:=Int.mul_le_mul h1000 (by lia) (by lia) (by decide);have hck0:0≤c.1*(k:Int):=mP (by lia) (by lia);refine⟨by show (cs.map cD).length≤aC;rw[π];exact fF (by lia),?_⟩;refine sV (fun τ=>∃x,τ=[x,some (eQ cs),some (.int i)]) cD (fun z=>decide (z≠c)) cD (G:=G) trivial cs [] _ ⟨none,rfl⟩ ?_ ?_
 ·rintro z hz τ K1 K2 ⟨x,rfl⟩ h1 h2;refine⟨cD c,hix,cX z,cX c,rfl,rfl,dG rfl,fun h=>h1 ?_ _ ⟨_,rfl⟩,fun h=>h2 ?_ _ ⟨_,rfl⟩⟩
  ·have h':(!(cX z).e8 (cX c))=true:=h;rw[DK] at h';simpa using h'
  ·have h':(!(cX z).e8 (cX c))=false:=h;rw[DK] at h';simpa using h'
 intro p1 G1 n1;rw[cS] at n1;have hlf:=qR (fun z=>decide (z≠c)) cs;refine⟨cD c,hix,c,k,rfl,by lia,gB (by lia) (by lia),fun p2 G2 n2=>?_⟩;have hpl:=CW c k;refine⟨_,_,n2.sub _ _ n1.at_,n2.at_,?_,fun p3 G3 n3=>?_⟩
 ·rw[π,π,hpl,cu];lia
 rw[←eG] at n3;refine⟨(cs.filter (fun z=>decide (z≠c))++parts c k).map iA,yv n3.at_,by rw[π,ψ,hpl];lia,wz,fun p4 mss G4 n4 hmem nd hr4 hl4=>?_⟩;obtain⟨us,rfl,hm2,hr2,hl2⟩:=An hmem nd hr4 hl4;rw[sU] at n4;have s4:=(n1.sub.trans n2.sub).trans (n3.sub.trans n4.sub);have hu:∀z,z∈us↔z∈fx cs i∨z∈parts c k:=fun z=>by
  rw[hm2,ag,jx,CL hri hi,decide_eq_true_iff]
 have q':=q us G4 s4 hu hr2;have hlm:(us.map cD).length=us.length:=π _;unfold qh at q';refine⟨_,n4.at_,fun h=>?_,fun h=>?_⟩
 ·have h':(12:Int)<(((us.map cD).length:Nat):Int):=of_decide_eq_true h;rw[hlm] at h';rw[if_pos (by lia)] at q';refine⟨_,n4.at_,?_⟩;rw[hlm];exact dq q'
 ·have h':¬(12:Int)<(((us.map cD).length:Nat):Int):=of_decide_eq_false h;rw[hlm] at h';rw[if_neg (by lia)] at q';refine⟨cD c,hix,_,rfl,⟨gB (by lia) (by lia),gB (by lia) (by lia)⟩,fun h=>?_,fun h=>?_⟩
  ·have h':1000<c.1*(k:Int):=of_decide_eq_true h;rw[if_pos h'] at q';exact⟨cD c,hix,_,rfl,⟨gB (by lia) (by lia),gB (by lia) (by lia)⟩,dq q'⟩
  ·have h':¬1000<c.1*(k:Int):=of_decide_eq_false h;rw[if_neg h'] at q';exact⟨_,n4.at_,dq q'⟩
end My
namespace My
open PySem L2 L3
theorem GR{G:Gp}(cs:List bq):ui G (eQ cs)=some (.tup (cs.map cX)):=by
 show iT (.tup (cs.map cD))=_;rw[iT,HV]
theorem NF{c:bq}(hv:Valid c)(h:c.1≤1000):jP (cD c)=true:=by
 obtain⟨h1,h2,h3⟩:=hv;show ((decide (1≤c.1)&&decide (c.1≤1000))&&(decide (0≤c.2)&&decide (c.2<c.1)))=true;rw[decide_eq_true (show 1≤c.1 by lia),decide_eq_true h,decide_eq_true h2,decide_eq_true h3];rfl
theorem ND{a b:bq}(h:tO a b):Ce (a,b)=true:=by
 obtain⟨s,r⟩:=a;obtain⟨s',r'⟩:=b;show (if s=s' then (if r=r' then false else decide (r<r')) else decide (s<s'))=true;rcases h with h|⟨h1,h2⟩
 ·have h:s<s':=h;rw[if_neg (by lia),decide_eq_true h]
 ·have h1:s=s':=h1;have h2:r<r':=h2;rw[if_pos h1,if_neg (by lia),decide_eq_true h2]
theorem GQ:∀{cs:List bq},gK cs->vk cs=true
 |[],_=>rfl
 |[c],_=>rfl
 |a::b::cs,h=>by
  show (Ce (a,b)&&vk (b::cs))=true;have h':=cR.mp h;rw[ND (h'.1 b aj),GQ (cs:=b::cs) h'.2];rfl
theorem NC{cs:List bq}(ok:jg 1000 cs)(hl:cs.length≤12)(hr:gK cs):vO (eQ cs)=true:=by
 show (decide ((cs.map cD).length≤12)&&((cs.map cD).all jP&&vk ((cs.map cD).map xn)))=true;rw[Iv,GQ hr,π,decide_eq_true hl,ub];have:cs.all (jP ∘ cD)=true:=pH.mpr fun c hc=>NF (ok c hc).1 (ok c hc).2;rw[this];rfl
theorem NB:(!(Dat.D.tup [.str "place",.aO]).e8 (.tup [.str "place",.aO]))=false:=by decide
theorem NA(us:List bq):(!(Dat.D.tup [.str "told",.tup (us.map cX)]).e8 (.tup [.str "told",.tup (us.map cX)]))=false:=by
 show (!((("told":ν)=="told")&&(Dat.jN (us.map cX) (us.map cX)&&true)))=false;have:Dat.jN (us.map cX) (us.map cX)=true:=O0 us;rw[this];rfl
theorem Nz(m b:Int):(!(Dat.D.tup [.str "great",.tup [.int m,.int b]]).e8 (.tup [.str "great",.tup [.int m,.int b]]))=false:=by
 show (!((("great":ν)=="great")&&(((m==m)&&((b==b)&&true))&&true)))=false;rw[beq_self_eq_true,beq_self_eq_true,beq_self_eq_true];rfl
def mV:fO:=fun ds G Q=>∃ns:List Int,ds=[.fM (ns.map .int)]/\ns.length≤63/\Q (.bl true) G
def GP:bj:=jn (qr (bX (aR (fw true) (χ 7) (bO xH (ξ (χ 3) (ξ (χ 5) (ξ (χ 6) (av))))))) (vj (bX (aR (fw false) (aR cF (χ 7) (eC (.int 0))) (eC (.str "told")))) (mE (bX (bO xO (ξ (aR cF (χ 7) (eC (.int 1))) (av))))))) (di (eC (.bl false))) (fc)
def zZ:bj:=cm (dj (bO uP (ξ (χ 3) (ξ (χ 5) (ξ (χ 6) (av))))) (hName 7)) GP
def Ny:bj:=cm (dj (aR eL (eC (.int 2)) (bO ml (ξ (χ 2) (ξ (tJ (ξ (eC (.int 3)) (ξ (eC (.int 12)) (ξ (eC (.int 999)) (av)))) (bO ml (ξ (χ 2) (ξ (eC (.int 3)) (av))))) (av))))) (hName 6)) zZ
def GN:bj:=cm (dj (bO ml (ξ (χ 2) (ξ (dJ lh (ξ (χ 3) (av))) (av)))) (hName 5)) Ny
def GL:bj:=jn (qr (bX (aR (fw true) (bO uP (ξ (χ 3) (ξ (χ 8) (ξ (eC (.int 2)) (av))))) (eP (ξ (eC (.str "place")) (ξ (eC .aO) (av)))))) (bX (aR (fw true) (bO uP (ξ (χ 3) (ξ (χ 8) (ξ (eC (.int 1000)) (av))))) (eP (ξ (eC (.str "place")) (ξ (eC .aO) (av))))))) (di (eC (.bl false))) (fc)
def GK:bj:=wc (vd (mF (ξ (K6 zO (eC (.int 1))) (ξ (dJ lh (ξ (χ 3) (av))) (ξ (eC (.bl true)) (ξ (eC .aO) (ξ (eC (.str "0")) (ξ (eP (ξ (eC (.int 0)) (av))) (ξ (mF (ξ (eC (.int 0)) (av))) (ξ (aR zN (eC (.int 10)) (eC (.int 30))) (av))))))))))) (hName 8) (GL)
def GJ:bj:=cm (wc (kM (ξ (eC (.int 4)) (av))) (hName 4) (GN)) GK
def GI:bj:=cm (jn (bX (aR (fw false) (bO ml (ξ (χ 2) (ξ (eC (.int 3)) (av)))) (eC (.int 0)))) (dj (dJ td (ξ (rO (iK ["turn"] [2] (kM (ξ (eC (.int 3)) (av))) (hName 0) (gi) (bO sT (ξ (χ 1) (ξ (eC (.int 1000)) (av)))))) (av))) (hName 3)) (fc)) GJ
def GH:bj:=cm (jn (bX (aR (fw false) (χ 3) (eP (av)))) (dj (eP (ξ (bO sT (ξ (χ 2) (ξ (eC (.int 1000)) (av)))) (av))) (hName 3)) (fc)) GI
def Nx:bj:=cm (dj (bO yt (ξ (χ 2) (ξ (eC (.int 12)) (av)))) (hName 3)) GH
def Nw:bj:=cm (dj (bO DM (ξ (χ 1) (av))) (hName 2)) Nx
def Nv:bj:=di (eC (.bl true))
def Nu:bj:=cm (wc (vd (aR eL (mF (ξ (bO yx (ξ (χ 0) (ξ (eC (.int 0)) (av)))) (av))) (zz (χ 0) (rA (eC (.int 1))) (rA (eC (.int 6)))))) (hName 1) (Nw)) Nv
def GF:bj:=cm (jn (bX (aR (fw true) (yO we Mi (ξ (eP (ξ (eP (ξ (eC (.int 1)) (ξ (eC (.int 0)) (av)))) (av))) (ξ (eC (.int 0)) (ξ (eC (.int 2)) (av))))) (eP (ξ (eP (ξ (eC (.int 2)) (ξ (eC (.int 0)) (av)))) (ξ (eP (ξ (eC (.int 2)) (ξ (eC (.int 1)) (av)))) (av)))))) (di (eC (.bl false))) (fc)) Nu
theorem Nt{D3:gu}{G:Gp}{cs us:List bq}{i k:Nat}{c:bq}{x0 x1 x2 x4 x8:Option D}(hR:qE cs)(hi:cs[i]?=some c)(hk:2≤k/\k≤1001)(hm:∀z,z∈us↔z∈fx cs i∨z∈parts c k)(hr:gK us)
  (q:∀G',Sub G G'->D3.nx [x0,x1,x2,some (eQ cs),x4,some (.int i),some (.int k),some (qh c k us),x8] G'):GP D3 [x0,x1,x2,some (eQ cs),x4,some (.int i),some (.int k),some (qh c k us),x8] G:=by
 refine⟨cs,i,k,c,rfl,hR,hi,hk,fun vs G1 s1 hmv hrv=>?_⟩;have e:vs=us:=CV hrv hr fun z=>by rw[hmv,hm]
 subst e;have q1:=q G1 s1;have nog:∀m b:Int,¬(!(Dat.D.tup [.str "great",.tup [.int m,.int b]]).e8 (.tup [.str "great",.tup [.int m,.int b]]))=true:=fun m b h=>by
  rw[Nz] at h;cases h
 by_cases yL:12<vs.length
 ·have e:qh c k vs=qp (vs.length:Nat) 12:=if_pos yL;rw[e] at q1 ⊢;exact⟨_,_,rfl,rfl,dG rfl,fun h'=>absurd h' (nog _ _),fun _=>⟨_,rfl,_,_,rfl,rfl,aG _,fun h=>absurd h (by decide),fun _=>⟨nofun,fun _=>q1⟩⟩⟩
 by_cases zx:1000<c.1*(k:Int)
 ·have e:qh c k vs=qp (c.1*(k:Int)) 1000:=by unfold qh;rw[if_neg yL,if_pos zx]
  rw[e] at q1 ⊢;exact⟨_,_,rfl,rfl,dG rfl,fun h'=>absurd h' (nog _ _),fun _=>⟨_,rfl,_,_,rfl,rfl,aG _,fun h=>absurd h (by decide),fun _=>⟨nofun,fun _=>q1⟩⟩⟩
 have e:qh c k vs=.tup [.str "told",eQ vs]:=by unfold qh;rw[if_neg yL,if_neg zx]
 rw[e] at q1 ⊢;have hc:=hR.1 c (bH hi);have oku:jg 1000 vs:=fun z hz=>by
  rcases (hm z).mp hz with h|h
  ·exact hR.1 z ((CL hR.2.2 hi z).mp h).1
  ·obtain⟨t,ht,rfl⟩:=aQ.mp h;have ht:=de.mp ht;obtain⟨h1,h2,h3⟩:=hc.1;have e1:0<c.1*(k:Int):=Int.mul_pos h1 (by lia);have e2:0≤c.1*(t:Int):=mP (by lia) (by lia);have e3:c.1*((t:Int)+1)≤c.1*(k:Int):=mi (by lia) (by lia);rw[Int.mul_add,uM] at e3;exact⟨⟨e1,by show 0≤c.2+c.1*(t:Int);lia,by show c.2+c.1*(t:Int)<c.1*(k:Int);lia⟩,by show c.1*(k:Int)≤1000;lia⟩
 have ed:ui G1 (.tup [.str "told",eQ vs])=some (.tup [.str "told",.tup (vs.map cX)]):=by
  have:iT (eQ vs)=some (.tup (vs.map cX)):=GR (G:=fun _=>none) vs;show iT (.tup [.str "told",eQ vs])=_;rw[iT,fE,fE,fE,this];rfl
 refine⟨_,_,ed,ed,?_,fun h=>?_,fun _=>?_⟩
 ·show max 0 (max (Dat.g9 (vs.map cX)+1) 0)+1≤50;have:=DL vs;lia
 ·have h':(!(Dat.D.tup [.str "told",.tup (vs.map cX)]).e8 (.tup [.str "told",.tup (vs.map cX)]))=true:=h;rw[NA] at h';cases h'
 ·refine⟨_,rfl,_,_,rfl,rfl,aG _,fun _=>⟨eQ vs,rfl,eQ vs,rfl,.tup fun d hd=>?_,?_⟩,fun _=>⟨nofun,fun _=>q1⟩⟩
  ·obtain⟨z,_,rfl⟩:=aQ.mp hd;exact .Xt z
  ·rw[NC oku (by lia) hr];exact⟨nofun,fun _=>q1⟩
theorem Nr{D3:gu}{G:Gp}{cs:List bq}{i k:Nat}{c:bq}{x0 x1 x2 x4 x7 x8:Option D}(hR:qE cs)(hi:cs[i]?=some c)(hk:2≤k/\k≤1001)
  (q:∀y7 G',Sub G G'->D3.nx [x0,x1,x2,some (eQ cs),x4,some (.int i),some (.int k),y7,x8] G'):zZ D3 [x0,x1,x2,some (eQ cs),x4,some (.int i),some (.int k),x7,x8] G:=by
 refine⟨cs,.int i,k,rfl,hR,hk,trivial,fun G1 s1=>⟨fun h=>?_,fun j c' ej ec us hm hr=>?_⟩⟩
 ·obtain⟨hil,_⟩:=ax.mp hi;have h':(decide ((0:Int)≤(i:Int))&&decide ((i:Int)<(cs.length:Int)))=false:=h;rw[decide_eq_true (by lia),decide_eq_true (by lia)] at h';cases h'
 have ej':(i:Int)=(j:Int):=by injection ej
 have ej2:i=j:=by lia
 subst ej2;rw[hi] at ec;cases ec;have main:=Nt (D3:=D3) (G:=G1) (x0:=x0) (x1:=x1) (x2:=x2) (x4:=x4) (x8:=x8) hR hi hk hm hr fun G' s'=>q _ G' (s1.trans s');unfold qh at main;refine⟨fun h=>?_,fun h=>⟨fun g=>?_,fun g=>?_⟩⟩
 ·rw[if_pos h] at main;exact main
 ·rw[if_neg (by lia),if_pos g] at main;exact main
 ·rw[if_neg (by lia),if_neg (by lia)] at main;exact main
theorem Nq{D3:gu}{G:Gp}{pp:ζ}{cs:List bq}{x0 x1 x4 x5 x6 x7 x8:Option D}(hpp:G pp=some .lK)(hR:qE cs)(b7:cs≠[])
  (q:∀y5 y6 y7 G',Sub G G'->D3.nx [x0,x1,some (.obj pp),some (eQ cs),x4,y5,y6,y7,x8] G'):GN D3 [x0,x1,some (.obj pp),some (eQ cs),x4,x5,x6,x7,x8] G:=by
 have hl:=hR.2.1;have hlm:(cs.map cD).length=cs.length:=π _;have hl0:0<cs.length:=sH.mpr b7;refine⟨pp,_,rfl,hpp,⟨by rw[hlm];lia,by rw[hlm];exact gB (by lia) (by lia)⟩,fun i i0 i1=>?_⟩;rw[hlm] at i1;obtain⟨j,rfl⟩:∃j:Nat,i=(j:Int):=⟨i.toNat,by lia⟩;have hj:cs[j]?=some (cs[j]'(by lia)):=az (by lia);refine⟨pp,3,rfl,hpp,⟨by decide,gB (by decide) (by decide)⟩,fun r r0 r1=>?_⟩;have fin:∀m:Int,0<m->m≤999->∀v:D,v=.int m->ml [.obj pp,v] G fun t G1=>eL (.int 2) t G1 fun k G2=>zZ D3 [x0,x1,some (.obj pp),some (eQ cs),x4,some (.int (j:Int)),some k,x7,x8] G2:=by
  rintro m m0 m1 v rfl;refine⟨pp,m,rfl,hpp,⟨m0,gB (by lia) (by lia)⟩,fun t t0 t1=>?_⟩;obtain⟨n,rfl⟩:∃n:Nat,t=(n:Int):=⟨t.toNat,by lia⟩;show zZ D3 [x0,x1,some (.obj pp),some (eQ cs),x4,some (.int (j:Int)),some (.int (2+(n:Int))),x7,x8] G;rw[show (2:Int)+(n:Int)=((n+2:Nat):Int) by lia];exact Nr hR hj ⟨by lia,by lia⟩ fun y7 G' s'=>q _ _ _ G' s'
 have:r=0∨r=1∨r=2:=by lia
 rcases this with rfl|rfl|rfl
 ·exact⟨.int 3,rfl,fin 3 (by decide) (by decide) _ rfl⟩
 ·exact⟨.int 12,rfl,fin 12 (by decide) (by decide) _ rfl⟩
 ·exact⟨.int 999,rfl,fin 999 (by decide) (by decide) _ rfl⟩
theorem N1{D3:gu}{G:Gp}{cs:List bq}{d:D}{x0 x1 x2 x4 x5 x6 x7:Option D}(hR:qE cs)(hd:∀G',Sub G G'->yV cs.length G' d)(q:∀G',Sub G G'->D3.nx [x0,x1,x2,some (eQ cs),x4,x5,x6,x7,some d] G'):
  GL D3 [x0,x1,x2,some (eQ cs),x4,x5,x6,x7,some d] G:=by
 have h0:=hd G (Sub.refl _);have nop:∀{G':Gp} {A:Prop} {i:Nat} {c:bq},yV cs.length G' d->mj G' d=.int i->cs[i]?=some c->A:=fun {G' A i c} hn ej ec=>by
  have h2:=hn.2;rw[ej] at h2;obtain⟨hl',_⟩:=ax.mp ec;have h':(decide ((0:Int)≤(i:Int))&&decide ((i:Int)<(cs.length:Int)))=false:=h2;rw[decide_eq_true (by lia),decide_eq_true (by lia)] at h';cases h'
 have nog:¬(!(Dat.D.tup [.str "place",.aO]).e8 (.tup [.str "place",.aO]))=true:=fun h=>by
  rw[NB] at h;cases h
 refine⟨cs,d,2,rfl,hR,⟨by decide,by decide⟩,h0.1,fun G1 s1=>⟨fun _=>?_,fun i c e1 e2=>nop h0 e1 e2⟩⟩;have h1:=hd G1 s1;refine⟨_,_,rfl,rfl,dG rfl,fun h=>absurd h nog,fun _=>?_⟩;refine⟨cs,d,1000,rfl,hR,⟨by decide,by decide⟩,h1.1,fun G2 s2=>⟨fun _=>?_,fun i c e1 e2=>nop h1 e1 e2⟩⟩;exact⟨_,_,rfl,rfl,dG rfl,fun h=>absurd h nog,fun _=>q G2 (s1.trans s2)⟩
theorem N0{D3:gu}{G:Gp}{cs:List bq}{x0 x1 x2 x4 x5 x6 x7 x8:Option D}(hR:qE cs)(q:∀y8 G',Sub G G'->D3.nx [x0,x1,x2,some (eQ cs),x4,x5,x6,x7,y8] G'):
  GK D3 [x0,x1,x2,some (eQ cs),x4,x5,x6,x7,x8] G:=by
 have hlm:(cs.map cD).length=cs.length:=π _;intro pA GA nA;refine⟨⟨by decide,by decide⟩,fun pB GB nB=>?_⟩;refine⟨_,nB.at_,?_⟩;refine yh (fun ds τ G'=>(∀d∈ds,∀G2,Sub GB G2->yV cs.length G2 d)/\Sub GB G'/\∃y8,τ=[x0,x1,x2,some (eQ cs),x4,x5,x6,x7,y8]) (fun _ _ _ h=>h.2.1 _ _ nB.at_) ?_ ?_ _ _ _ ⟨fun d hd G2 s2=>?_,Sub.refl _,_,rfl⟩
 ·rintro d ds τ G2 N ⟨ho,s2,y8,rfl⟩ hN;exact N1 hR (fun G3 s3=>ho d aj G3 (s2.trans s3)) fun G3 s3=>hN _ _ ⟨fun e he=>ho e (ai _ he),s2.trans s3,_,rfl⟩
 ·rintro τ G2 ⟨_,s2,y8,rfl⟩;exact q _ _ (nA.sub.trans (nB.sub.trans s2))
 ·simp only[ak,bZ,or_false] at hd;rcases hd with rfl|rfl|rfl|rfl|rfl|rfl|rfl|rfl
  ·exact CQ (.inl (by decide))
  ·exact CQ (.inr (by rw[hlm];lia))
  ·exact⟨trivial,rfl⟩
  ·exact⟨trivial,rfl⟩
  ·exact⟨trivial,rfl⟩
  ·exact⟨trivial,rfl⟩
  ·have e:=s2 _ _ (nB.sub _ _ nA.at_);unfold yV;rw[Hr e];exact⟨trivial,rfl⟩
  ·have:=hR.2.1;exact CQ (.inr (by show (cs.length:Int)≤10^30;lia))
theorem GD{D3:gu}{G:Gp}{pp:ζ}{cs:List bq}{x0 x1 x4 x5 x6 x7 x8:Option D}(hpp:G pp=some .lK)(hR:qE cs)(b7:cs≠[])
  (q:∀y3 y4 y5 y6 y7 y8 G',Sub G G'->D3.nx [x0,x1,some (.obj pp),y3,y4,y5,y6,y7,y8] G'):GJ D3 [x0,x1,some (.obj pp),some (eQ cs),x4,x5,x6,x7,x8] G:=by
 refine⟨⟨by decide,by decide⟩,?_⟩;refine yh (fun ds τ G'=>Sub G G'/\∃y4 y5 y6 y7,τ=[x0,x1,some (.obj pp),some (eQ cs),y4,y5,y6,y7,x8]) (fun _ _ _ h=>trivial) ?_ ?_ _ _ _ ⟨Sub.refl _,_,_,_,_,rfl⟩
 ·rintro d ds τ G2 N ⟨s2,y4,y5,y6,y7,rfl⟩ hN;exact Nq (s2 _ _ hpp) hR b7 fun z5 z6 z7 G3 s3=>hN _ _ ⟨s2.trans s3,_,_,_,_,rfl⟩
 ·rintro τ G2 ⟨s2,y4,y5,y6,y7,rfl⟩;exact N0 hR fun y8 G3 s3=>q _ _ _ _ _ _ _ (s2.trans s3)
theorem Fg{c:bq}(h:Valid c)(h2:c.1≤1000):qE [c]:=⟨fun z hz=>by
 rw[aL.mp hz];exact⟨h,h2⟩,by simp,bJ _ _⟩
theorem GC{D3:gu}{G:Gp}{pp:ζ}{cs:List bq}{x0 x1 x4 x5 x6 x7 x8:Option D}(hpp:G pp=some .lK)(hR:qE cs)(b7:cs≠[])
  (q:∀y3 y4 y5 y6 y7 y8 G',Sub G G'->D3.nx [x0,x1,some (.obj pp),y3,y4,y5,y6,y7,y8] G'):GI D3 [x0,x1,some (.obj pp),some (eQ cs),x4,x5,x6,x7,x8] G:=by
 refine⟨pp,3,rfl,hpp,⟨by decide,gB (by decide) (by decide)⟩,fun r r0 r1=>⟨_,_,rfl,rfl,aG _,fun _=>?_,fun _=>GD hpp hR b7 q⟩⟩;refine⟨⟨by decide,by decide⟩,?_,?_⟩
 ·show (g7 0 3).length≤aC;rw[rz];exact fF (by lia)
 refine Am (fun ds acc τ G'=>(∃cs:List bq,acc=cs.map cD/\jg 1000 cs/\cs.length+ds.length=3)/\G'=G/\∃x,τ=[x,some (.obj pp)]) (fun _ _ _ _ _=>trivial) ?_ ?_ _ _ _ _ ⟨⟨[],rfl,(fun c hc=>nomatch hc),?_⟩,rfl,none,rfl⟩
 ·rintro d ds acc τ G' K1 K2 ⟨⟨cs,rfl,ok,hl⟩,rfl,x,rfl⟩ g1 g2;refine⟨fun _=>⟨pp,1000,rfl,hpp,⟨by decide,by decide⟩,fun c hv hc=>?_⟩,nofun⟩;refine g1 _ _ _ ⟨⟨cs++[c],by simp,fun c' hc'=>?_,?_⟩,rfl,_,rfl⟩
  ·rcases ag.mp hc' with z|z
   ·exact ok c' z
   ·have:c'=c:=by simpa using z
    rw[this];exact⟨hv,by lia⟩
  ·rw[ψ,dH];simp only[aE] at hl;lia
 ·rintro acc τ G' ⟨⟨ds,rfl,ok,hl⟩,rfl,x,rfl⟩;intro p1 G1 n1;have hl3:ds.length=3:=by simpa using hl
  refine⟨_,yv n1.at_,by rw[π];lia,wz,fun p2 mss G2 n2 hmem nd hr hlen=>?_⟩;obtain⟨us,rfl,hmem,hr,hlen⟩:=An hmem nd hr hlen;rw[sU] at n2;refine⟨_,n2.at_,?_⟩;have s2:=n1.sub.trans n2.sub;refine GD (s2 _ _ hpp) ⟨fun c hc=>ok c ((hmem c).mp hc),by lia,hr⟩ (fun e=>?_) fun y3 y4 y5 y6 y7 y8 G3 s3=>q _ _ _ _ _ _ _ (s2.trans s3);subst e;cases ds with
  |nil=>simp at hl3
  |cons c ds=>exact nomatch (hmem c).mpr aj
 ·show ([]:List bq).length+(g7 0 3).length=3;rw[rz];rfl
theorem NZ{D3:gu}{G:Gp}{pp:ζ}{cs:List bq}{x0 x1 x4 x5 x6 x7 x8:Option D}(hpp:G pp=some .lK)(hR:qE cs)
  (q:∀y3 y4 y5 y6 y7 y8 G',Sub G G'->D3.nx [x0,x1,some (.obj pp),y3,y4,y5,y6,y7,y8] G'):GH D3 [x0,x1,some (.obj pp),some (eQ cs),x4,x5,x6,x7,x8] G:=by
 refine⟨_,.tup ([].map cX),GR cs,rfl,?_,fun h=>?_,fun h=>?_⟩
 ·show Dat.g9 (cs.map cX)+1≤50;have:=DL cs;lia
 ·exact⟨pp,1000,rfl,hpp,⟨by decide,by decide⟩,fun c hv hc=>GC hpp (Fg hv hc) (by simp) q⟩
 ·refine GC hpp hR (fun e=>?_) q;subst e;exact absurd h (by decide)
theorem NY:∀ds G Q,mV ds G Q->GF (bw Q) (bA ["script","cell","pen","clocks","turn","place","k","found","thing"] ds) G:=by
 rintro ds G Q ⟨ns,rfl,hl,q⟩;have c1:qE [(1,0)]:=Fg ⟨by decide,by decide,by decide⟩ (by decide);refine⟨[(1,0)],.int (0:Nat),2,rfl,c1,⟨by decide,by decide⟩,trivial,fun h=>absurd h (by decide),fun i c ei ec us hm hr=>?_⟩;have zw:i=0:=by
  injection ei with ei;lia
 subst zw;cases ec;have eu:us=[(2,0),(2,1)]:=CV hr (cR.mpr ⟨fun c hc=>by rw[aL.mp hc];exact .inr ⟨rfl,by decide⟩,bJ _ _⟩) fun z=>by
  rw[hm];show z∈([]:List bq)∨z∈[((2:Int),(0:Int)),((2:Int),(1:Int))]↔_;simp
 subst eu;refine⟨fun h=>absurd h (by decide),fun _=>⟨fun h=>absurd h (by decide),fun _=>⟨rfl,rV.no,fun GG j=>?_⟩⟩⟩;have s0:Sub G GG:=j.old;refine⟨_,_,rfl,rfl,dG rfl,fun h=>absurd h (by decide),fun _=>?_⟩;refine⟨ns,0,rfl,fun i=>?_⟩;intro q0 G0 n0 q1 G1 n1;rw[Ao] at n1;have hcl:=PF ns (some 1) (some 6);refine⟨_,_,n1.sub _ _ n0.at_,n1.at_,?_,fun q2 G2 n2=>?_⟩
 ·rw[π];exact fF (by simp;lia)
 have s2:=s0.trans ((n0.sub.trans n1.sub).trans n2.sub);refine⟨_,n2.at_,?_⟩;refine yh (fun ds τ G'=>(∃is:List Int,ds=is.map D.int)/\Sub G2 G'/\∃x1 x2 x3 x4 x5 x6 x7 x8,τ=[some (.fM (ns.map .int)),x1,x2,x3,x4,x5,x6,x7,x8]) (fun _ _ _ h=>h.2.1 _ _ n2.at_) ?_ ?_ _ _ _ ⟨⟨i::rR ns (some 1) (some 6),rfl⟩,Sub.refl _,_,_,_,_,_,_,_,_,rfl⟩
 ·rintro d ds τ G3 N ⟨⟨is,e⟩,s3,x1,x2,x3,x4,x5,x6,x7,x8,rfl⟩ hN;cases is with
  |nil=>cases e
  |cons cc is=>
   cases e;refine⟨cc,rfl,fun pp G4 n4=>⟨pp,12,rfl,n4.at_,⟨by decide,by decide⟩,fun cs ok hl12 hr=>?_⟩⟩;exact NZ n4.at_ ⟨ok,by lia,hr⟩ fun y3 y4 y5 y6 y7 y8 G5 s5=>hN _ _ ⟨⟨is,rfl⟩,s3.trans (n4.sub.trans s5),_,_,_,_,_,_,_,_,rfl⟩
 ·rintro τ G3 ⟨_,s3,x1,x2,x3,x4,x5,x6,x7,x8,rfl⟩;exact AJ (s2.trans s3) q
end My
namespace My
open PySem L2 L3
def top(i:Nat):aY:=PySem.Challenge.pw_coverclocks_k33_clocks_split.main.body.getD i (.Pass ⟨0,0,0,0⟩)
def LX:aY->aY
 |.ClassDef _ _ _ b ..=>b.getD 0 (.Pass ⟨0,0,0,0⟩)
 |s=>s
abbrev CJ:aY:=top 10
abbrev NX:List ν:=["thing"]
theorem NW:bP NX ["thing"] (ar CJ):=⟨rfl,rfl,rfl,by decide +kernel,rfl,by decide +kernel,by decide +kernel⟩
abbrev CI:aY:=top 11
abbrev NV:List ν:=["things","thing"]
theorem NU:bP NV ["things","thing"] (ar CI):=⟨rfl,rfl,rfl,by decide +kernel,rfl,by decide +kernel,by decide +kernel⟩
abbrev CH:aY:=top 12
abbrev NT:List ν:=["things","thing"]
theorem NS:bP NT ["things","thing"] (ar CH):=⟨rfl,rfl,rfl,by decide +kernel,rfl,by decide +kernel,by decide +kernel⟩
abbrev CG:aY:=top 13
abbrev Nc:List ν:=["things"]
theorem Nb:bP Nc ["things"] (ar CG):=⟨rfl,rfl,rfl,by decide +kernel,rfl,by decide +kernel,by decide +kernel⟩
abbrev CF:aY:=top 14
abbrev Na:List ν:=["many","most"]
theorem M9:bP Na ["many","most"] (ar CF):=⟨rfl,rfl,rfl,by decide +kernel,rfl,by decide +kernel,by decide +kernel⟩
abbrev CD:aY:=top 18
abbrev M8:List ν:=["clock","number"]
theorem M7:bP M8 ["clock","number"] (ar CD):=⟨rfl,rfl,rfl,by decide +kernel,rfl,by decide +kernel,by decide +kernel⟩
abbrev CC:aY:=top 19
abbrev M6:List ν:=["one","other"]
theorem M5:bP M6 ["one","other"] (ar CC):=⟨rfl,rfl,rfl,by decide +kernel,rfl,by decide +kernel,by decide +kernel⟩
abbrev zY:aY:=top 20
abbrev Gz:List ν:=["clock","k"]
theorem M4:bP Gz ["clock","k"] (ar zY):=⟨rfl,rfl,rfl,by decide +kernel,rfl,by decide +kernel,by decide +kernel⟩
abbrev zX:aY:=top 22
abbrev Gy:List ν:=["clocks","place","k","clock","others","step","twice"]
theorem sS:bP Gy ["clocks","place","k"] (ar zX):=⟨rfl,rfl,rfl,by decide +kernel,rfl,by decide +kernel,by decide +kernel⟩
abbrev Dh:aY:=top 24
abbrev M3:List ν:=["script","k"]
theorem M2:bP M3 ["script","k"] (ar Dh):=⟨rfl,rfl,rfl,by decide +kernel,rfl,by decide +kernel,by decide +kernel⟩
abbrev Dg:aY:=top 25
abbrev M1:List ν:=["seed"]
theorem B0:bP M1 ["seed"] (ar Dg):=⟨rfl,rfl,rfl,by decide +kernel,rfl,by decide +kernel,by decide +kernel⟩
abbrev Df:aY:=top 26
abbrev M0:List ν:=["cell","left"]
theorem B3:bP M0 ["cell"] (ar Df):=⟨rfl,rfl,rfl,by decide +kernel,rfl,by decide +kernel,by decide +kernel⟩
abbrev De:aY:=top 27
abbrev MZ:List ν:=["pen","many","found"]
theorem BY:bP MZ ["pen","many"] (ar De):=⟨rfl,rfl,rfl,by decide +kernel,rfl,by decide +kernel,by decide +kernel⟩
abbrev Dd:aY:=top 28
abbrev MY:List ν:=["found"]
theorem MX:bP MY ["found"] (ar Dd):=⟨rfl,rfl,rfl,by decide +kernel,rfl,by decide +kernel,by decide +kernel⟩
abbrev Dc:aY:=top 29
abbrev MW:List ν:=["e","marks"]
theorem zM:bP MW ["e"] (ar Dc):=⟨rfl,rfl,rfl,by decide +kernel,rfl,by decide +kernel,by decide +kernel⟩
abbrev C9:aY:=top 30
abbrev MV:List ν:=["pen","most","step"]
theorem EO:bP MV ["pen","most"] (ar C9):=⟨rfl,rfl,rfl,by decide +kernel,rfl,by decide +kernel,by decide +kernel⟩
abbrev zW:aY:=top 31
abbrev Gx:List ν:=["pen","least","most","clocks","k","step","rest"]
theorem qY:bP Gx ["pen","least","most"] (ar zW):=⟨rfl,rfl,rfl,by decide +kernel,rfl,by decide +kernel,by decide +kernel⟩
abbrev zV:aY:=top 32
abbrev Gw:List ν:=["pen","most","way","found","steps","turn","step"]
theorem n8:bP Gw ["pen","most"] (ar zV):=⟨rfl,rfl,rfl,by decide +kernel,rfl,by decide +kernel,by decide +kernel⟩
abbrev C8:aY:=top 33
abbrev MU:List ν:=["thing"]
theorem MR:bP MU ["thing"] (ar C8):=⟨rfl,rfl,rfl,by decide +kernel,rfl,by decide +kernel,by decide +kernel⟩
abbrev xG:aY:=top 34
abbrev C7:List ν:=["thing"]
theorem MQ:bP C7 ["thing"] (ar xG):=⟨rfl,rfl,rfl,by decide +kernel,rfl,by decide +kernel,by decide +kernel⟩
abbrev zU:aY:=top 35
abbrev Gv:List ν:=["clock","k"]
theorem MP:bP Gv ["clock","k"] (ar zU):=⟨rfl,rfl,rfl,by decide +kernel,rfl,by decide +kernel,by decide +kernel⟩
abbrev C6:aY:=top 36
abbrev MO:List ν:=["clocks","place","k","e"]
theorem BZ:bP MO ["clocks","place","k"] (ar C6):=⟨rfl,rfl,rfl,by decide +kernel,rfl,by decide +kernel,by decide +kernel⟩
abbrev zT:aY:=top 37
abbrev Gu:List ν:=["clocks","place","k","left","found"]
theorem xB:bP Gu ["clocks","place","k"] (ar zT):=⟨rfl,rfl,rfl,by decide +kernel,rfl,by decide +kernel,by decide +kernel⟩
abbrev zS:aY:=top 38
abbrev Gs:List ν:=["script","cell","pen","clocks","turn","place","k","found","thing"]
theorem jH:bP Gs ["script"] (ar zS):=⟨rfl,rfl,rfl,by decide +kernel,rfl,by decide +kernel,by decide +kernel⟩
abbrev wd:aY:=LX (top 8)
theorem MN:bP ["self","many","most"] ["self","many","most"] (ar wd):=⟨rfl,rfl,rfl,by decide +kernel,rfl,by decide +kernel,by decide +kernel⟩
set_option genInjectivity false in
structure Fz where
 Bq:ζ
 BH:aB
 Bo:ζ
 BF:aB
 Er:ζ
 EC:aB
 Bs:ζ
 BI:aB
 Ek:ζ
 Ew:aB
 Be:ζ
 Bw:aB
 Bm:ζ
 BE:aB
 Bi:ζ
 BA:aB
 Bj:ζ
 BB:aB
 Ej:ζ
 Eu:aB
 Bk:ζ
 BC:aB
 Bp:ζ
 BG:aB
 Bg:ζ
 By:aB
 xl:ζ
 xm:aB
 Ei:ζ
 Et:aB
 Em:ζ
 Ey:aB
 El:ζ
 Ex:aB
 En:ζ
 Ez:aB
 Eo:ζ
 EA:aB
 Ep:ζ
 EB:aB
 Bl:ζ
 BD:aB
 Bh:ζ
 Bz:aB
 Bf:ζ
 Bx:aB
 Bt:ζ
 vM:aB
 jQ:ζ
 mW:ζ
 lP:ζ
 dg:ζ
 qu:ζ
 lQ:ζ
 oV:ζ
 cQ:ζ
 gC:ζ
 zf:aB
 xf:Tok
 yX:Tok
structure Txt(K:θ)(mg:ν->Option δ)(t:Fz):Prop where
 Fx:fv K "whole_good" "whole_good" CJ t.Bq t.BH
 LR:mg "whole_good" = some (.ref t.Bq)
 Mc:Binds K t.BH ["thing"] []
 Fv:fv K "place_good" "place_good" CI t.Bo t.BF
 LP:mg "place_good" = some (.ref t.Bo)
 Ma:Binds K t.BF ["things","thing"] []
 Lr:fv K "refuse_no_place" "refuse_no_place" CH t.Er t.EC
 WB:mg "refuse_no_place" = some (.ref t.Er)
 W0:Binds K t.EC ["things","thing"] []
 Fy:fv K "rising_once" "rising_once" CG t.Bs t.BI
 LS:mg "rising_once" = some (.ref t.Bs)
 Md:Binds K t.BI ["things"] []
 EG:fv K "refuse_above" "refuse_above" CF t.Ek t.Ew
 KP:mg "refuse_above" = some (.ref t.Ek)
 K9:Binds K t.Ew ["many","most"] []
 Fp:fv K "rings" "rings" CD t.Be t.Bw
 LK:mg "rings" = some (.ref t.Be)
 L5:Binds K t.Bw ["clock","number"] []
 Fu:fv K "inside_of" "inside_of" CC t.Bm t.BE
 LO:mg "inside_of" = some (.ref t.Bm)
 L9:Binds K t.BE ["one","other"] []
 Fs:fv K "parts_of" "parts_of" zY t.Bi t.BA
 LM:mg "parts_of" = some (.ref t.Bi)
 L7:Binds K t.BA ["clock","k"] []
 BO:fv K "split_at" "split_at" zX t.Bj t.BB
 EY:mg "split_at" = some (.ref t.Bj)
 Fh:Binds K t.BB ["clocks","place","k"] []
 Lm:fv K "_law_cell_at" "_law_cell_at" Dh t.Ej t.Eu
 Ww:mg "_law_cell_at" = some (.ref t.Ej)
 WV:Binds K t.Eu ["script","k"] []
 BP:fv K "_law_next" "_law_next" Dg t.Bk t.BC
 EZ:mg "_law_next" = some (.ref t.Bk)
 Fi:Binds K t.BC ["seed"] []
 Fw:fv K "_law_pen_of" "_law_pen_of" Df t.Bp t.BG
 LQ:mg "_law_pen_of" = some (.ref t.Bp)
 Mb:Binds K t.BG ["cell"] []
 hZ:fv K "_law_draw" "_law_draw" De t.Bg t.By
 iJ:mg "_law_draw" = some (.ref t.Bg)
 iL:Binds K t.By ["pen","many"] []
 vV:fv K "_law_whole" "_law_whole" Dd t.xl t.xm
 xi:mg "_law_whole" = some (.ref t.xl)
 xo:Binds K t.xm ["found"] []
 EF:fv K "_law_kind_of" "_law_kind_of" Dc t.Ei t.Et
 KO:mg "_law_kind_of" = some (.ref t.Ei)
 K8:Binds K t.Et ["e"] []
 yW:fv K "_law_clock_by" "_law_clock_by" C9 t.Em t.Ey
 AX:mg "_law_clock_by" = some (.ref t.Em)
 BL:Binds K t.Ey ["pen","most"] []
 Ln:fv K "_law_parts_by" "_law_parts_by" zW t.El t.Ex
 Wx:mg "_law_parts_by" = some (.ref t.El)
 WW:Binds K t.Ex ["pen","least","most"] []
 Lo:fv K "_law_clocks_by" "_law_clocks_by" zV t.En t.Ez
 Wy:mg "_law_clocks_by" = some (.ref t.En)
 WX:Binds K t.Ez ["pen","most"] []
 Lp:fv K "_law_clock_good" "_law_clock_good" C8 t.Eo t.EA
 Wz:mg "_law_clock_good" = some (.ref t.Eo)
 WY:Binds K t.EA ["thing"] []
 Lq:fv K "_law_clocks_good" "_law_clocks_good" xG t.Ep t.EB
 WA:mg "_law_clocks_good" = some (.ref t.Ep)
 WZ:Binds K t.EB ["thing"] []
 Ft:fv K "_law_parts" "_law_parts" zU t.Bl t.BD
 LN:mg "_law_parts" = some (.ref t.Bl)
 L8:Binds K t.BD ["clock","k"] []
 xq:fv K "_law_told" "_law_told" C6 t.Bh t.Bz
 AY:mg "_law_told" = some (.ref t.Bh)
 BM:Binds K t.Bz ["clocks","place","k"] []
 Fq:fv K "_law_due" "_law_due" zT t.Bf t.Bx
 LL:mg "_law_due" = some (.ref t.Bf)
 L6:Binds K t.Bx ["clocks","place","k"] []
 Mf:fv K "law" "law" zS t.Bt t.vM
 LV:mg "law" = some (.ref t.Bt)
 Xz:Binds K t.vM ["script"] []
 yB:mg "ClockError" = some (.ref t.jQ)
 FO:dk K "ClockError" t.jQ
 Cd:mg "NoClock" = some (.ref t.mW)
 LZ:dk K "NoClock" t.mW
 A2:mg "NoNumber" = some (.ref t.lP)
 Ls:dk K "NoNumber" t.lP
 wX:mg "NoPlace" = some (.ref t.dg)
 eN:dk K "NoPlace" t.dg
 FI:mg "NoRow" = some (.ref t.qu)
 WS:dk K "NoRow" t.qu
 A3:mg "NoClocks" = some (.ref t.lQ)
 Lu:dk K "NoClocks" t.lQ
 D9:mg "NoText" = some (.ref t.oV)
 Mk:dk K "NoText" t.oV
 vD:mg "TooGreat" = some (.ref t.cQ)
 dS:dk K "TooGreat" t.cQ
 vB:uw K t.cQ t.jQ t.gC t.zf "TooGreat.__init__" wd ["many","most"]
 fN:fP K t.cQ
 sA:Δ K (.ref t.cQ) (.ref t.mW)=some false
 rH:Δ K (.ref t.cQ) (.ref t.lQ)=some false
 rG:Δ K (.ref t.cQ) (.ref t.lP)=some false
 sy:Δ K (.ref t.cQ) (.ref t.dg)=some false
 uy:Δ K (.ref t.cQ) (.ref t.qu)=some false
 tD:Δ K (.ref t.cQ) (.ref t.oV)=some false
 rF:Δ K (.ref t.cQ) (.ref t.cQ)=some true
 zb:Δ K (.ref t.cQ) (.type "ValueError")=some true
 vf:lU K t.cQ "many"
 ve:lU K t.cQ "most"
 wW:pd K t.dg t.jQ none
 gD:fP K t.dg
 tF:Δ K (.ref t.dg) (.ref t.mW)=some false
 sE:Δ K (.ref t.dg) (.ref t.lQ)=some false
 sD:Δ K (.ref t.dg) (.ref t.lP)=some false
 tE:Δ K (.ref t.dg) (.ref t.dg)=some true
 vc:Δ K (.ref t.dg) (.ref t.qu)=some false
 uz:Δ K (.ref t.dg) (.ref t.oV)=some false
 sC:Δ K (.ref t.dg) (.ref t.cQ)=some false
 A5:Δ K (.ref t.dg) (.type "ValueError")=some true
 vL:lU K t.dg "many"
 vK:lU K t.dg "most"
 xg:mg "MOST_CLOCKS" = some (.int 12 t.xf)
 za:mg "MOST_STEP" = some (.int 1000 t.yX)
 yA:mg "ValueError" = none
 E6:mg "all" = none
 Cc:mg "bool" = none
 A0:mg "int" = none
 cO:mg "isinstance" = none
 hV:mg "len" = none
 AZ:mg "max" = none
 LU:mg "min" = none
 i9:mg "range" = none
 xj:mg "set" = none
 mD:mg "sorted" = none
 mC:mg "tuple" = none
abbrev rs:List ν:=["TooGreat","NoPlace"]
section
variable {P:Ω} {w:aw} {K:θ} {mg:ν->Option δ} {base:au} {t:Fz}
theorem kh{x:ν}{C D:ζ}(h:dk K x C)(h2:dk K x D):C=D:=by
 unfold dk at h h2;rw[h] at h2;cases h2;rfl
theorem Txt.zd(T:Txt K mg t):∀z∈rs,∀D,dk K z D->fP K D/\Δ K (.ref D) (.ref t.mW)=some (z=="NoClock"):=by
 intro z hz D cn;simp only[ak,bZ,or_false] at hz;rcases hz with rfl|rfl
 ·cases kh cn T.dS;exact⟨T.fN,T.sA⟩
 ·cases kh cn T.eN;exact⟨T.gD,T.tF⟩
theorem Txt.yH(T:Txt K mg t):∀z∈rs,∀D,dk K z D->fP K D/\Δ K (.ref D) (.ref t.lQ)=some (z=="NoClocks"):=by
 intro z hz D cn;simp only[ak,bZ,or_false] at hz;rcases hz with rfl|rfl
 ·cases kh cn T.dS;exact⟨T.fN,T.rH⟩
 ·cases kh cn T.eN;exact⟨T.gD,T.sE⟩
theorem Txt.yG(T:Txt K mg t):∀z∈rs,∀D,dk K z D->fP K D/\Δ K (.ref D) (.ref t.lP)=some (z=="NoNumber"):=by
 intro z hz D cn;simp only[ak,bZ,or_false] at hz;rcases hz with rfl|rfl
 ·cases kh cn T.dS;exact⟨T.fN,T.rG⟩
 ·cases kh cn T.eN;exact⟨T.gD,T.sD⟩
theorem Txt.zc(T:Txt K mg t):∀z∈rs,∀D,dk K z D->fP K D/\Δ K (.ref D) (.ref t.dg)=some (z=="NoPlace"):=by
 intro z hz D cn;simp only[ak,bZ,or_false] at hz;rcases hz with rfl|rfl
 ·cases kh cn T.dS;exact⟨T.fN,T.sy⟩
 ·cases kh cn T.eN;exact⟨T.gD,T.tE⟩
theorem Txt.Cf(T:Txt K mg t):∀z∈rs,∀D,dk K z D->fP K D/\Δ K (.ref D) (.ref t.qu)=some (z=="NoRow"):=by
 intro z hz D cn;simp only[ak,bZ,or_false] at hz;rcases hz with rfl|rfl
 ·cases kh cn T.dS;exact⟨T.fN,T.uy⟩
 ·cases kh cn T.eN;exact⟨T.gD,T.vc⟩
theorem Txt.A6(T:Txt K mg t):∀z∈rs,∀D,dk K z D->fP K D/\Δ K (.ref D) (.ref t.oV)=some (z=="NoText"):=by
 intro z hz D cn;simp only[ak,bZ,or_false] at hz;rcases hz with rfl|rfl
 ·cases kh cn T.dS;exact⟨T.fN,T.tD⟩
 ·cases kh cn T.eN;exact⟨T.gD,T.uz⟩
theorem Txt.yF(T:Txt K mg t):∀z∈rs,∀D,dk K z D->fP K D/\Δ K (.ref D) (.ref t.cQ)=some (z=="TooGreat"):=by
 intro z hz D cn;simp only[ak,bZ,or_false] at hz;rcases hz with rfl|rfl
 ·cases kh cn T.dS;exact⟨T.fN,T.rF⟩
 ·cases kh cn T.eN;exact⟨T.gD,T.sC⟩
theorem Txt.Xa(T:Txt K mg t):∀z∈rs,∀D,dk K z D->fP K D/\Δ K (.ref D) (.type "ValueError")=some true:=by
 intro z hz D cn;simp only[ak,bZ,or_false] at hz;rcases hz with rfl|rfl
 ·cases kh cn T.dS;exact⟨T.fN,T.zb⟩
 ·cases kh cn T.eN;exact⟨T.gD,T.A5⟩
theorem Txt.yN(T:Txt K mg t):∀z∈rs,∀D,dk K z D->lU K D "many":=by
 intro z hz D cn;simp only[ak,bZ,or_false] at hz;rcases hz with rfl|rfl
 ·cases kh cn T.dS;exact T.vf
 ·cases kh cn T.eN;exact T.vL
theorem Txt.yM(T:Txt K mg t):∀z∈rs,∀D,dk K z D->lU K D "most":=by
 intro z hz D cn;simp only[ak,bZ,or_false] at hz;rcases hz with rfl|rfl
 ·cases kh cn T.dS;exact T.ve
 ·cases kh cn T.eN;exact T.vK
theorem Txt.takes(T:Txt K mg t):xp K rs t.jQ:=by
 intro z hz D cn;simp only[ak,bZ,or_false] at hz;rcases hz with rfl|rfl
 ·cases kh cn T.dS;exact⟨_,T.vB.ex⟩
 ·cases kh cn T.eN;exact⟨_,T.wW⟩
theorem MM:∀ds G Q,sX ds G Q->ds.length=1:=by
 intro ds G Q h
 first
  | (rcases ds with _|⟨_,_|⟨_,_|⟨_,_|⟨_,_⟩⟩⟩⟩<;>first|rfl|exact h.elim)
  | (obtain⟨rfl,_⟩:=h;rfl)
  | (obtain⟨_,rfl,_⟩:=h;rfl)
  | (obtain⟨_,_,rfl,_⟩:=h;rfl)
  | (obtain⟨_,_,_,rfl,_⟩:=h;rfl)
  | (obtain⟨_,_,_,_,rfl,_⟩:=h;rfl)
  | (obtain⟨_,_,_,_,_,rfl,_⟩:=h;rfl)
  | (obtain⟨_,_,_,_,_,_,rfl,_⟩:=h;rfl)
  | (obtain⟨_,_,_,_,_,_,_,rfl,_⟩:=h;rfl)
  | (obtain⟨_,_,_,_,_,_,_,_,rfl,_⟩:=h;rfl)
theorem ML(T:Txt K mg t):eX P w K mg base 1 t.Bq t.BH ["thing"] sX:=by
 refine iI (k:=0) (sp:=sX) T.Fx NW (by decide) MM (DN) (fun cdv A outer s H E hr=>?_) Qz;refine dt (fX ?_);refine xX (wC IM rfl (ah (pv 0)) T.cO T.A0 rfl (by decide) (by decide)) ?_;refine xY (IE (wC IL rfl (ah (pv 0)) T.cO T.Cc rfl (by decide) (by decide)))
theorem Np:∀ds G Q,yp ds G Q->ds.length=2:=by
 intro ds G Q h;obtain⟨_,_,rfl,_⟩:=h;rfl
theorem Nn(T:Txt K mg t):eX P w K mg base 2 t.Bo t.BF ["things","thing"] yp:=by
 refine iI (k:=1) (sp:=yp) T.Fv NU (by decide) Np (Io) (fun cdv A outer s H E hr=>?_) O5;refine dt (fX ?_);refine xX (e7 ((ML T).mono (by decide)) hr T.LR T.Fx.kp T.Mc (Φ (ah (pv 1)) aU)) ?_;refine xY (Q8 WD ye VL (yf hr.sQ) bp (ah (pv 1)) (nT hr.units T.hV (Φ (ah (pv 0)) aU)))
theorem Nm:∀ds Q E,xQ ds Q E->ds.length=2:=by
 intro ds Q E h
 first
  | (rcases ds with _|⟨_,_|⟨_,_|⟨_,_|⟨_,_⟩⟩⟩⟩<;>first|rfl|exact h.elim)
  | (obtain⟨rfl,_⟩:=h;rfl)
  | (obtain⟨_,rfl,_⟩:=h;rfl)
  | (obtain⟨_,_,rfl,_⟩:=h;rfl)
  | (obtain⟨_,_,_,rfl,_⟩:=h;rfl)
  | (obtain⟨_,_,_,_,rfl,_⟩:=h;rfl)
  | (obtain⟨_,_,_,_,_,rfl,_⟩:=h;rfl)
  | (obtain⟨_,_,_,_,_,_,rfl,_⟩:=h;rfl)
  | (obtain⟨_,_,_,_,_,_,_,rfl,_⟩:=h;rfl)
  | (obtain⟨_,_,_,_,_,_,_,_,rfl,_⟩:=h;rfl)
theorem Nl(T:Txt K mg t):qD P w K mg base 3 t.Er t.EC ["things","thing"] xQ:=by
 refine Dw (k:=2) (sp:=xQ) T.Lr NS (by decide) Nm Hn (fun cdv A outer s H E0 E hr hE=>?_) OP;refine dt ?_;refine lg (sZ (oN ?_)) (dt (QK Jk hE T.wW T.eN T.wX rfl)) lJ;refine e7 ((Nn T).mono (by decide)) hr T.LP T.Fv.kp T.Ma (Φ (ah (pv 0)) (Φ (ah (pv 1)) aU))
theorem Nk:∀ds G Q,yo ds G Q->ds.length=1:=by
 intro ds G Q h;obtain⟨_,rfl,_⟩:=h;rfl
theorem Nj(T:Txt K mg t):eX P w K mg base 1 t.Bs t.BI ["things"] yo:=by
 refine iI (k:=0) (sp:=yo) T.Fy Nb (by decide) Nk (Hw) (fun cdv A outer s H E hr=>?_) O4;refine dt (fX (xT hr.units T.mC (Φ (Q9 hr.units (ah (pv 0)) T.mD T.xj) aU)))
theorem Nh:∀ds Q E,wy ds Q E->ds.length=2:=by
 intro ds Q E h
 first
  | (rcases ds with _|⟨_,_|⟨_,_|⟨_,_|⟨_,_⟩⟩⟩⟩<;>first|rfl|exact h.elim)
  | (obtain⟨rfl,_⟩:=h;rfl)
  | (obtain⟨_,rfl,_⟩:=h;rfl)
  | (obtain⟨_,_,rfl,_⟩:=h;rfl)
  | (obtain⟨_,_,_,rfl,_⟩:=h;rfl)
  | (obtain⟨_,_,_,_,rfl,_⟩:=h;rfl)
  | (obtain⟨_,_,_,_,_,rfl,_⟩:=h;rfl)
  | (obtain⟨_,_,_,_,_,_,rfl,_⟩:=h;rfl)
  | (obtain⟨_,_,_,_,_,_,_,rfl,_⟩:=h;rfl)
  | (obtain⟨_,_,_,_,_,_,_,_,rfl,_⟩:=h;rfl)
theorem Gr(T:Txt K mg t):qD P w K mg base 1 t.Ek t.Ew ["many","most"] wy:=by
 refine Dw (k:=0) (sp:=wy) T.EG M9 (by decide) Nh Hu (fun cdv A outer s H E0 E hr hE=>?_) O3;refine dt (lg (iB wL wq (ah (pv 0)) (ah (pv 1)) (cK _)) ?_ lJ);refine dt (QL Jk hE T.vB T.dS T.vD hr rfl (Φ (ah (pv 0)) (Φ (ah (pv 1)) aU)))
theorem Ng:∀ds G Q,yw ds G Q->ds.length=2:=by
 intro ds G Q h;obtain⟨_,_,rfl,_⟩:=h;rfl
theorem Nf(T:Txt K mg t):eX P w K mg base 1 t.Be t.Bw ["clock","number"] yw:=by
 refine iI (k:=0) (sp:=yw) T.Fp M7 (by decide) Ng (HW) (fun cdv A outer s H E hr=>?_) PH;refine dt (fX (AR nG (nv hr.units) (dv u4 u7 (ah (pv 1)) (fJ (ah (pv 0)) bp)) (fJ (ah (pv 0)) bp) (cK _)))
theorem Nd:∀ds G Q,yq ds G Q->ds.length=2:=by
 intro ds G Q h;obtain⟨_,_,rfl,_⟩:=h;rfl
theorem Wq(T:Txt K mg t):eX P w K mg base 2 t.Bm t.BE ["one","other"] yq:=by
 refine iI (k:=1) (sp:=yq) T.Fu M5 (by decide) Nd (Ip) (fun cdv A outer s H E hr=>?_) O6;refine dt (fX ?_);refine xX (AR nG (nv hr.units) (dv u4 u7 (fJ (ah (pv 0)) bp) (fJ (ah (pv 1)) bp)) bp (cK _)) ?_;refine xY (e7 ((Nf T).mono (by decide)) hr T.LK T.Fp.kp T.L5 (Φ (ah (pv 1)) (Φ (fJ (ah (pv 0)) bp) aU)))
theorem Wp:∀ds G Q,uT ds G Q->ds.length=2:=by
 intro ds G Q h;obtain⟨_,_,rfl,_⟩:=h;rfl
theorem Wo(T:Txt K mg t):eX P w K mg base 1 t.Bi t.BA ["clock","k"] uT:=by
 refine iI (k:=0) (sp:=uT) T.Fs M4 (by decide) Wp (Ir) (fun cdv A outer s H E hr=>?_) PX;refine dt (fX ?_);refine wB rfl (show eY Gz (ar zY) _ ["turn"] [0,1] from⟨rfl,by decide +kernel,by decide +kernel,by decide +kernel,by decide +kernel,by decide +kernel⟩) ?_ ?_;refine uW T.i9 (Φ (ah (pv 1)) aU);intro s0 H0 fp0;refine⟨(oP (i:=0) (show (["turn","clock","k"]:List ν).Nodup by decide +kernel)),uV,?_⟩;refine iU (Φ (dv ny nz (fJ (ah (pv 1)) bp) (ah (pv 2))) ?_);refine Φ (dv ki kj (fJ (ah (pv 1)) bp) (dv ny nz (fJ (ah (pv 1)) bp) (ah (pv 0)))) aU
theorem Wn:∀ds Q E,we ds Q E->ds.length=3:=by
 intro ds Q E h
 first
  | (rcases ds with _|⟨_,_|⟨_,_|⟨_,_|⟨_,_⟩⟩⟩⟩<;>first|rfl|exact h.elim)
  | (obtain⟨rfl,_⟩:=h;rfl)
  | (obtain⟨_,rfl,_⟩:=h;rfl)
  | (obtain⟨_,_,rfl,_⟩:=h;rfl)
  | (obtain⟨_,_,_,rfl,_⟩:=h;rfl)
  | (obtain⟨_,_,_,_,rfl,_⟩:=h;rfl)
  | (obtain⟨_,_,_,_,_,rfl,_⟩:=h;rfl)
  | (obtain⟨_,_,_,_,_,_,rfl,_⟩:=h;rfl)
  | (obtain⟨_,_,_,_,_,_,_,rfl,_⟩:=h;rfl)
  | (obtain⟨_,_,_,_,_,_,_,_,rfl,_⟩:=h;rfl)
theorem Gq(T:Txt K mg t):qD P w K mg base 4 t.Bj t.BB ["clocks","place","k"] we:=by
 refine Dw (k:=3) (sp:=we) T.BO sS (by decide) Wn Hx (fun cdv A outer s H E0 E hr hE=>?_) NN;refine dF (xW ?_) ?_;refine DO ((Nl T).mono (by decide)) hr (AV hE) T.WB T.Lr.kp T.W0 ?_;refine Φ (ah (pv 0)) (Φ (ah (pv 1)) aU);refine dF (ik (i:=3) sS.nd (fJ (ah (pv 0)) (ah (pv 1)))) ?_;refine dF (ik (i:=4) sS.nd ?_) ?_;refine dv ki kj (AN (ah (pv 0)) Dn (xU (ah (pv 1)))) ?_;refine AN (ah (pv 0)) (xU (dv ki kj (ah (pv 1)) bp)) Dn;refine dF (ik (i:=5) sS.nd (dv ny nz (fJ (ah (pv 3)) bp) (ah (pv 2)))) ?_;refine dF ?_ ?_;refine Dl (i:=6) rfl sS.nd (show eY Gy (ar zX) _ ["other"] [5,3] from⟨rfl,by decide +kernel,by decide +kernel,by decide +kernel,by decide +kernel,by decide +kernel⟩) ?_ ?_;refine xV (ah (pv 4));intro s0 H0 fp0;refine⟨(oP (i:=0) (show (["other","step","clock"]:List ν).Nodup by decide +kernel)),(Jo (qc ?_)),(ah (pv 0))⟩;refine xZ (iB nG (nv hr.units) (fJ (ah (pv 0)) bp) (ah (pv 1)) (cK _)) (AQ ?_);refine oN (e7 ((Wq T).mono (by decide)) hr T.LO T.Fu.kp T.L9 (Φ (ah (pv 0)) (Φ (ah (pv 2)) aU)));refine dF (xW ?_) ?_;refine DO ((Gr T).mono (by decide)) hr (AV hE) T.KP T.EG.kp T.K9 ?_;refine Φ ?_ (Φ (IF T.xg) aU);refine dv yg ym (dv ki kj (nT hr.units T.hV (Φ (ah (pv 4)) aU)) (ah (pv 2))) ?_;refine nT hr.units T.hV (Φ (ah (pv 6)) aU);refine dF (xW ?_) (dt (fX ?_));refine DO ((Gr T).mono (by decide)) hr (AV hE) T.KP T.EG.kp T.K9 ?_;refine Φ (ah (pv 5)) (Φ (IF T.za) aU);refine e7 ((Nj T).mono (by decide)) hr T.LS T.Fy.kp T.Md ?_;refine Φ (dv ki kj (ah (pv 4)) (xT hr.units T.mC ?_)) aU;refine Φ (e7 ((Wo T).mono (by decide)) hr T.LM T.Fs.kp T.L7 (Φ (ah (pv 3)) (Φ (ah (pv 2)) aU))) (aU)
theorem Wm:∀ds G Q,yx ds G Q->ds.length=2:=by
 intro ds G Q h;obtain⟨_,_,rfl,_⟩:=h;rfl
theorem Wl(T:Txt K mg t):eX P w K mg base 1 t.Ej t.Eu ["script","k"] yx:=by
 refine iI (k:=0) (sp:=yx) T.Lm M2 (by decide) Wm (Ia) (fun cdv A outer s H E hr=>?_) PU;refine dF ?_ (dt (fX bp));refine lg (iB ye (yf hr.sQ) (ah (pv 1)) (nT hr.units T.hV (Φ (ah (pv 0)) aU)) (cK _)) ?_ lJ;refine dt (fX (fJ (ah (pv 0)) (ah (pv 1))))
theorem Wk:∀ds G Q,wA ds G Q->ds.length=1:=by
 intro ds G Q h;obtain⟨_,rfl,_⟩:=h;rfl
theorem Gn(T:Txt K mg t):eX P w K mg base 1 t.Bk t.BC ["seed"] wA:=by
 refine iI (k:=0) (sp:=wA) T.BP B0 (by decide) Wk (HZ) (fun cdv A outer s H E hr=>?_) PQ;refine dF (ik (i:=0) B0.nd (dv u4 u7 (dv ki kj (ah (pv 0)) bp) bp)) ?_;refine dt (fX (dv u4 u7 ?_ bp));refine dv ki kj (dv ki kj (dv ny nz (ah (pv 0)) (ah (pv 0))) (dv ny nz bp (ah (pv 0)))) bp
theorem Wj:∀ds G Q,Ap ds G Q->ds.length=1:=by
 intro ds G Q h;obtain⟨_,rfl,_⟩:=h;rfl
theorem Wi(T:Txt K mg t):eX P w K mg base 1 t.Bp t.BG ["cell"] DM:=by
 refine je.imp ?_ PK;refine iI (k:=0) (sp:=Ap) T.Fw B3 (by decide) Wj (HX) (fun cdv A outer s H E hr=>?_) PL;refine dF (ik (i:=1) B3.nd (Dm hr.units T.AZ (Φ (ah (pv 0)) (Φ (dv yg ym bp (ah (pv 0))) aU)))) ?_;refine dt (fX (oM (Φ (ah (pv 1)) ?_)));refine Φ (Rf hr.units T.A0 (Φ (AR WG VJ (ah (pv 1)) (dv JA Kg bp bp) (cK _)) aU)) ?_;refine Φ (dv u4 u7 (ah (pv 1)) bp) aU
theorem Wh:∀ds G Q,AI ds G Q->ds.length=2:=by
 intro ds G Q h;obtain⟨_,_,_,_,_,rfl,_⟩:=h;rfl
theorem kW(T:Txt K mg t):eX P w K mg base 2 t.Bg t.By ["pen","many"] ml:=by
 refine je.imp ?_ PM;refine iI (k:=1) (sp:=AI) T.hZ BY (by decide) Wh (HY) (fun cdv A outer s H E hr=>?_) PN;refine dF ?_ ?_;refine lg (iB nG (nv hr.units) (fJ (ah (pv 0)) bp) bp (cK _)) ?_ lJ;refine dF (ik (i:=2) BY.nd (dv u4 u7 (fJ (ah (pv 0)) bp) (ah (pv 1)))) ?_;refine dF (Dq (dv JB JC (fJ (ah (pv 0)) bp) (ah (pv 1))) (IC (ah (pv 0)) bp)) (dt (fX (ah (pv 2))));refine dF (Dq ?_ (IC (ah (pv 0)) bp)) ?_;refine e7 ((Gn T).mono (by decide)) hr T.EZ T.BP.kp T.Fi (Φ ?_ aU);refine dv ki kj (e7 ((Gn T).mono (by decide)) hr T.EZ T.BP.kp T.Fi (Φ (fJ (ah (pv 0)) bp) aU)) (bp);refine dt (fX (dv u4 u7 (dv JB JC (fJ (ah (pv 0)) bp) bp) (ah (pv 1))))
theorem Wg:∀ds G Q,sW ds G Q->ds.length=1:=by
 intro ds G Q h
 first
  | (rcases ds with _|⟨_,_|⟨_,_|⟨_,_|⟨_,_⟩⟩⟩⟩<;>first|rfl|exact h.elim)
  | (obtain⟨rfl,_⟩:=h;rfl)
  | (obtain⟨_,rfl,_⟩:=h;rfl)
  | (obtain⟨_,_,rfl,_⟩:=h;rfl)
  | (obtain⟨_,_,_,rfl,_⟩:=h;rfl)
  | (obtain⟨_,_,_,_,rfl,_⟩:=h;rfl)
  | (obtain⟨_,_,_,_,_,rfl,_⟩:=h;rfl)
  | (obtain⟨_,_,_,_,_,_,rfl,_⟩:=h;rfl)
  | (obtain⟨_,_,_,_,_,_,_,rfl,_⟩:=h;rfl)
  | (obtain⟨_,_,_,_,_,_,_,_,rfl,_⟩:=h;rfl)
theorem CB(T:Txt K mg t):wU P w K mg base 1 t.xl t.xm ["found"] sW:=by
 refine Ky (k:=0) (sp:=sW) T.vV MX (by decide) Wg (Qy) (fun cdv A outer s H E hr=>?_) PV;refine dt (fX ?_);refine xX (wC IM rfl (ah (pv 0)) T.cO T.A0 rfl (by decide) (by decide)) ?_;refine xY (IE (wC IL rfl (ah (pv 0)) T.cO T.Cc rfl (by decide) (by decide)))
theorem Gm(T:Txt K mg t):eX P w K mg base 1 t.xl t.xm ["found"] sW:=(CB T).calm
theorem Wf:∀ds G Q,(wu rs) ds G Q->ds.length=1:=by
 intro ds G Q h
 first
  | (rcases ds with _|⟨_,_|⟨_,_|⟨_,_|⟨_,_⟩⟩⟩⟩<;>first|rfl|exact h.elim)
  | (obtain⟨rfl,_⟩:=h;rfl)
  | (obtain⟨_,rfl,_⟩:=h;rfl)
  | (obtain⟨_,_,rfl,_⟩:=h;rfl)
  | (obtain⟨_,_,_,rfl,_⟩:=h;rfl)
  | (obtain⟨_,_,_,_,rfl,_⟩:=h;rfl)
  | (obtain⟨_,_,_,_,_,rfl,_⟩:=h;rfl)
  | (obtain⟨_,_,_,_,_,_,rfl,_⟩:=h;rfl)
  | (obtain⟨_,_,_,_,_,_,_,rfl,_⟩:=h;rfl)
  | (obtain⟨_,_,_,_,_,_,_,_,rfl,_⟩:=h;rfl)
theorem Gk(T:Txt K mg t):wU P w K mg base 1 t.Ei t.Et ["e"] (wu rs):=by
 refine Ky (k:=0) (sp:=(wu rs)) T.EF zM (by decide) Wf (Hm rs) (fun cdv A outer s H E hr=>?_) (OL rs);refine dF (ik (i:=1) zM.nd ?_) ?_;refine oM (Φ (uU (T.zd) (ah (pv 0)) T.cO T.Cd) ?_);refine Φ (uU (T.yG) (ah (pv 0)) T.cO T.A2) ?_;refine Φ (uU (T.zc) (ah (pv 0)) T.cO T.wX) (Φ (uU (T.Cf) (ah (pv 0)) T.cO T.FI) aU);refine dF ?_ ?_;refine ik (i:=1) zM.nd (dv ki kj (ah (pv 1)) (oM ?_));refine Φ (uU (T.yH) (ah (pv 0)) T.cO T.A3) ?_;refine Φ (uU (T.A6) (ah (pv 0)) T.cO T.D9) (Φ (uU (T.yF) (ah (pv 0)) T.cO T.vD) aU);refine dF (lg (qc ?_) (dt (fX mm)) lJ) (dt (fX ?_));refine rl (sZ (oN (QJ (T.Xa) (ah (pv 0)) T.cO T.yA))) (wD ?_);refine iB vb (u3 hr.units) (xS Qg PySem.F.slot_list_count PySem.F.type_list_count Qi (ah (pv 1)) (Φ rm aU)) bp (cK _);refine Dp (Φ mm (Φ mm (Φ mm (Φ mm (Φ mm (Φ mm (Φ mm aU))))))) ?_;refine xS Qf PySem.F.slot_list_index PySem.F.type_list_index Qh (ah (pv 1)) (Φ rm aU)
theorem We:∀ds G Q,sT ds G Q->ds.length=2:=by
 intro ds G Q h;obtain⟨_,_,rfl,_⟩:=h;rfl
theorem zR(T:Txt K mg t):eX P w K mg base 3 t.Em t.Ey ["pen","most"] sT:=by
 refine iI (k:=2) (sp:=sT) T.yW EO (by decide) We (HN) (fun cdv A outer s H E hr=>?_) Pu;refine dF (ik (i:=2) EO.nd (dv ki kj bp ?_)) (dt (fX (iU (Φ (ah (pv 2)) ?_))));refine e7 ((kW T).mono (by decide)) hr T.iJ T.hZ.kp T.iL (Φ (ah (pv 0)) (Φ (ah (pv 1)) aU));refine Φ (e7 ((kW T).mono (by decide)) hr T.iJ T.hZ.kp T.iL (Φ (ah (pv 0)) (Φ (ah (pv 2)) aU))) (aU)
theorem Wd:∀ds G Q,yu ds G Q->ds.length=3:=by
 intro ds G Q h;obtain⟨_,_,_,rfl,_⟩:=h;rfl
theorem Wc(T:Txt K mg t):eX P w K mg base 3 t.El t.Ex ["pen","least","most"] yu:=by
 refine iI (k:=2) (sp:=yu) T.Ln qY (by decide) Wd (HJ) (fun cdv A outer s H E hr=>?_) Pm;refine dF (ik (i:=3) qY.nd (oM (Φ (iU (Φ bp (Φ bp aU))) aU))) ?_;refine dF ?_ (dt (fX (Jn hr.units T.mD (Φ (ah (pv 3)) aU))));refine Rh ju (qc ?_) ?_;refine rl (iB ye (yf hr.sQ) (nT hr.units T.hV (Φ (ah (pv 3)) aU)) (ah (pv 1)) (cK _)) (wD (qc ?_));refine xZ ?_ (AQ (iB ye (yf hr.sQ) (nT hr.units T.hV (Φ (ah (pv 3)) aU)) (ah (pv 2)) (cK _)));refine iB wL wq (e7 ((kW T).mono (by decide)) hr T.iJ T.hZ.kp T.iL (Φ (ah (pv 0)) (Φ bp aU))) ?_ (cK _);refine bp;refine dF (ik (i:=4) qY.nd ?_) ?_;refine Dp (Φ bp (Φ bp (Φ bp (Φ bp (Φ bp (Φ bp aU)))))) ?_;refine e7 ((kW T).mono (by decide)) hr T.iJ T.hZ.kp T.iL (Φ (ah (pv 0)) (Φ bp aU));refine dF (ik (i:=4) qY.nd ?_) ?_;refine Rc hr.units T.LU (Φ (ah (pv 4)) (Φ (Dm hr.units T.AZ ?_) aU));refine Φ bp (Φ (dv ki kj (dv yg ym (ah (pv 2)) (nT hr.units T.hV (Φ (ah (pv 3)) aU))) bp) aU);refine dF ?_ ?_;refine Dq ?_ (Ri rfl (ID (oP (i:=5) qY.nd) (ID (oP (i:=6) qY.nd) Rj)));refine xS Jv qN qM J0 (ah (pv 3)) (Φ ?_ aU);refine e7 ((kW T).mono (by decide)) hr T.iJ T.hZ.kp T.iL ?_;refine Φ (ah (pv 0)) (Φ (nT hr.units T.hV (Φ (ah (pv 3)) aU)) aU);refine dF ?_ ?_;refine lg (iB wL wq (dv ny nz (ah (pv 5)) (ah (pv 4))) bp (cK _)) (dt (fX (Jn hr.units T.mD ?_))) lJ;refine Φ (dv ki kj (ah (pv 3)) (oM (Φ (iU (Φ (ah (pv 5)) (Φ (ah (pv 6)) aU))) aU))) aU;refine dt (ik (i:=3) qY.nd (dv ki kj (ah (pv 3)) ?_));refine wB rfl (show eY Gx (ar zW) _ ["part"] [5,4,6] from⟨rfl,by decide +kernel,by decide +kernel,by decide +kernel,by decide +kernel,by decide +kernel⟩) ?_ ?_;refine uW T.i9 (Φ (ah (pv 4)) aU);intro s0 H0 fp0;refine⟨(oP (i:=0) (show (["part","step","k","rest"]:List ν).Nodup by decide +kernel)),uV,?_⟩;refine iU (Φ (dv ny nz (ah (pv 1)) (ah (pv 2))) ?_);refine Φ (dv ki kj (ah (pv 3)) (dv ny nz (ah (pv 1)) (ah (pv 0)))) aU
theorem Wb:∀ds G Q,yt ds G Q->ds.length=2:=by
 intro ds G Q h;obtain⟨_,_,rfl,_⟩:=h;rfl
theorem Wa(T:Txt K mg t):eX P w K mg base 4 t.En t.Ez ["pen","most"] yt:=by
 refine iI (k:=3) (sp:=yt) T.Lo n8 (by decide) Wb (HH) (fun cdv A outer s H E hr=>?_) P4;refine dF (ik (i:=2) n8.nd ?_) ?_;refine e7 ((kW T).mono (by decide)) hr T.iJ T.hZ.kp T.iL (Φ (ah (pv 0)) (Φ bp aU));refine dF ?_ ?_;refine lg (iB nG (nv hr.units) (ah (pv 2)) bp (cK _)) (dt ?_) (dt ?_);refine Dl (i:=3) rfl n8.nd (show eY Gw (ar zV) _ ["turn"] [0] from⟨rfl,by decide +kernel,by decide +kernel,by decide +kernel,by decide +kernel,by decide +kernel⟩) ?_ ?_;refine uW T.i9 (Φ ?_ aU);refine e7 ((kW T).mono (by decide)) hr T.iJ T.hZ.kp T.iL ?_;refine Φ (ah (pv 0)) (Φ (dv ki kj (ah (pv 1)) bp) aU);intro s0 H0 fp0;refine⟨(oP (i:=0) (show (["turn","pen"]:List ν).Nodup by decide +kernel)),uV,?_⟩;refine e7 ((zR T).mono (by decide)) hr T.AX T.yW.kp T.BL (Φ (ah (pv 1)) (Φ bp aU));refine lg (iB nG (nv hr.units) (ah (pv 2)) bp (cK _)) ?_ ?_;refine dF (ik (i:=4) n8.nd ?_) (dF (ik (i:=3) n8.nd (oM aU)) (dt ?_));refine oM (Φ bp (Φ bp (Φ bp (Φ bp (Φ bp (Φ bp (Φ bp aU)))))));refine AO ju rfl (uW T.i9 (Φ ?_ aU)) (oP (i:=5) n8.nd) ?_;refine e7 ((kW T).mono (by decide)) hr T.iJ T.hZ.kp T.iL ?_;refine Φ (ah (pv 0)) (Φ (dv ki kj (ah (pv 1)) bp) aU);refine dF (ik (i:=6) n8.nd ?_) (dt (xW ?_));refine fJ (ah (pv 4)) (e7 ((kW T).mono (by decide)) hr T.iJ T.hZ.kp T.iL (Φ (ah (pv 0)) (Φ bp aU)));refine xS Sz PySem.F.slot_list_append PySem.F.type_list_append J1 (ah (pv 3)) (Φ (iU (Φ (ah (pv 6)) ?_)) aU);refine Φ (e7 ((kW T).mono (by decide)) hr T.iJ T.hZ.kp T.iL (Φ (ah (pv 0)) (Φ (ah (pv 6)) aU))) (aU);refine dF (ik (i:=3) n8.nd ?_) ?_;refine e7 ((Wc T).mono (by decide)) hr T.Wx T.Ln.kp T.WW ?_;refine Φ (ah (pv 0)) (Φ bp (Φ (Dm hr.units T.AZ (Φ bp (Φ (dv yg ym (ah (pv 1)) bp) aU))) aU));refine dF ?_ (dt ?_);refine lg (iB nG (nv hr.units) (ah (pv 2)) bp (cK _)) (dt ?_) lJ;refine ik (i:=3) n8.nd (dv ki kj (ah (pv 3)) (oM (Φ ?_ aU)));refine e7 ((zR T).mono (by decide)) hr T.AX T.yW.kp T.BL (Φ (ah (pv 0)) (Φ bp aU));refine lg (iB nG (nv hr.units) (ah (pv 2)) bp (cK _)) (dt (xW ?_)) lJ;refine xS Jv qN qM J0 (ah (pv 3)) (Φ ?_ aU);refine e7 ((kW T).mono (by decide)) hr T.iJ T.hZ.kp T.iL ?_;refine Φ (ah (pv 0)) (Φ (nT hr.units T.hV (Φ (ah (pv 3)) aU)) aU);refine dt (fX (AN (xT hr.units T.mC (Φ (Jm hr.units (ah (pv 3)) T.mD T.xj) aU)) Dn (xU (ah (pv 1)))))
theorem V9:∀ds G Q,xP ds G Q->ds.length=1:=by
 intro ds G Q h
 first
  | (rcases ds with _|⟨_,_|⟨_,_|⟨_,_|⟨_,_⟩⟩⟩⟩<;>first|rfl|exact h.elim)
  | (obtain⟨rfl,_⟩:=h;rfl)
  | (obtain⟨_,rfl,_⟩:=h;rfl)
  | (obtain⟨_,_,rfl,_⟩:=h;rfl)
  | (obtain⟨_,_,_,rfl,_⟩:=h;rfl)
  | (obtain⟨_,_,_,_,rfl,_⟩:=h;rfl)
  | (obtain⟨_,_,_,_,_,rfl,_⟩:=h;rfl)
  | (obtain⟨_,_,_,_,_,_,rfl,_⟩:=h;rfl)
  | (obtain⟨_,_,_,_,_,_,_,rfl,_⟩:=h;rfl)
  | (obtain⟨_,_,_,_,_,_,_,_,rfl,_⟩:=h;rfl)
theorem V8(T:Txt K mg t):eX P w K mg base 2 t.Eo t.EA ["thing"] xP:=by
 refine iI (k:=1) (sp:=xP) T.Lp MR (by decide) V9 (CP) (fun cdv A outer s H E hr=>?_) OJ;refine dF (lg (qc ?_) (dt (fX rm)) lJ) (dt (fX ?_));refine rl (sZ (oN (wC kit_tuple rfl (ah (pv 0)) T.cO T.mC rfl (by decide) (by decide)))) ?_;refine rl (iB vb (u3 hr.units) (nT hr.units T.hV (Φ (ah (pv 0)) aU)) bp (cK _)) ?_;refine rl ?_ (wD ?_);refine sZ (oN (e7 ((Gm T).mono (by decide)) hr T.xi T.vV.kp T.xo (Φ (fJ (ah (pv 0)) bp) aU)));refine sZ (oN (e7 ((Gm T).mono (by decide)) hr T.xi T.vV.kp T.xo (Φ (fJ (ah (pv 0)) bp) aU)));refine xX (Ra (fJ (ah (pv 0)) bp) T.i9 (Φ bp (Φ bp aU))) ?_;refine xY (Rb (fJ (ah (pv 0)) bp) T.i9 (Φ (fJ (ah (pv 0)) bp) aU))
theorem V7:∀ds G Q,xO ds G Q->ds.length=1:=by
 intro ds G Q h
 first
  | (rcases ds with _|⟨_,_|⟨_,_|⟨_,_|⟨_,_⟩⟩⟩⟩<;>first|rfl|exact h.elim)
  | (obtain⟨rfl,_⟩:=h;rfl)
  | (obtain⟨_,rfl,_⟩:=h;rfl)
  | (obtain⟨_,_,rfl,_⟩:=h;rfl)
  | (obtain⟨_,_,_,rfl,_⟩:=h;rfl)
  | (obtain⟨_,_,_,_,rfl,_⟩:=h;rfl)
  | (obtain⟨_,_,_,_,_,rfl,_⟩:=h;rfl)
  | (obtain⟨_,_,_,_,_,_,rfl,_⟩:=h;rfl)
  | (obtain⟨_,_,_,_,_,_,_,rfl,_⟩:=h;rfl)
  | (obtain⟨_,_,_,_,_,_,_,_,rfl,_⟩:=h;rfl)
theorem V6(T:Txt K mg t):eX P w K mg base 3 t.Ep t.EB ["thing"] xO:=by
 refine iI (k:=2) (sp:=xO) T.Lq MQ (by decide) V7 (CO) (fun cdv A outer s H E hr=>?_) OH;refine dF (lg (qc ?_) (dt (fX rm)) lJ) (dt (fX (Jl hr.units T.E6 (Φ ?_ aU))));refine rl (sZ (oN (wC kit_tuple rfl (ah (pv 0)) T.cO T.mC rfl (by decide) (by decide)))) ?_;refine rl (iB wL wq (nT hr.units T.hV (Φ (ah (pv 0)) aU)) bp (cK _)) ?_;refine wD (sZ (oN (Jl hr.units T.E6 (Φ ?_ aU))));refine wB rfl (show eY C7 (ar xG) _ ["clock"] [] from⟨rfl,by decide +kernel,by decide +kernel,by decide +kernel,by decide +kernel,by decide +kernel⟩) ?_ ?_;refine xV (ah (pv 0));intro s0 H0 fp0;refine⟨(oP (i:=0) (show (["clock"]:List ν).Nodup by decide +kernel)),uV,?_⟩;refine e7 ((V8 T).mono (by decide)) hr T.Wz T.Lp.kp T.WY (Φ (ah (pv 0)) aU);refine wB rfl (show eY C7 (ar xG) _ ["k"] [0] from⟨rfl,by decide +kernel,by decide +kernel,by decide +kernel,by decide +kernel,by decide +kernel⟩) ?_ ?_;refine Rg T.i9 (Φ bp (Φ (nT hr.units T.hV (Φ (ah (pv 0)) aU)) aU));intro s0 H0 fp0;refine⟨(oP (i:=0) (show (["k","thing"]:List ν).Nodup by decide +kernel)),uV,?_⟩;refine AR ye (yf hr.sQ) (fJ (ah (pv 1)) (dv yg ym (ah (pv 0)) bp)) (fJ (ah (pv 1)) (ah (pv 0))) (cK _)
theorem V5:∀ds G Q,yr ds G Q->ds.length=2:=by
 intro ds G Q h
 first
  | (rcases ds with _|⟨_,_|⟨_,_|⟨_,_|⟨_,_⟩⟩⟩⟩<;>first|rfl|exact h.elim)
  | (obtain⟨rfl,_⟩:=h;rfl)
  | (obtain⟨_,rfl,_⟩:=h;rfl)
  | (obtain⟨_,_,rfl,_⟩:=h;rfl)
  | (obtain⟨_,_,_,rfl,_⟩:=h;rfl)
  | (obtain⟨_,_,_,_,rfl,_⟩:=h;rfl)
  | (obtain⟨_,_,_,_,_,rfl,_⟩:=h;rfl)
  | (obtain⟨_,_,_,_,_,_,rfl,_⟩:=h;rfl)
  | (obtain⟨_,_,_,_,_,_,_,rfl,_⟩:=h;rfl)
  | (obtain⟨_,_,_,_,_,_,_,_,rfl,_⟩:=h;rfl)
theorem V4(T:Txt K mg t):eX P w K mg base 1 t.Bl t.BD ["clock","k"] yr:=by
 refine iI (k:=0) (sp:=yr) T.Ft MP (by decide) V5 (Iq) (fun cdv A outer s H E hr=>?_) O7;refine dt (fX ?_);refine wB rfl (show eY Gv (ar zU) _ ["part"] [0,1] from⟨rfl,by decide +kernel,by decide +kernel,by decide +kernel,by decide +kernel,by decide +kernel⟩) ?_ ?_;refine uW T.i9 (Φ (ah (pv 1)) aU);intro s0 H0 fp0;refine⟨(oP (i:=0) (show (["part","clock","k"]:List ν).Nodup by decide +kernel)),uV,?_⟩;refine iU (Φ (dv ny nz (fJ (ah (pv 1)) bp) (ah (pv 2))) ?_);refine Φ (dv ki kj (fJ (ah (pv 1)) bp) (dv ny nz (fJ (ah (pv 1)) bp) (ah (pv 0)))) aU
theorem V2:∀ds G Q,uP ds G Q->ds.length=3:=by
 intro ds G Q h
 first
  | (rcases ds with _|⟨_,_|⟨_,_|⟨_,_|⟨_,_⟩⟩⟩⟩<;>first|rfl|exact h.elim)
  | (obtain⟨rfl,_⟩:=h;rfl)
  | (obtain⟨_,rfl,_⟩:=h;rfl)
  | (obtain⟨_,_,rfl,_⟩:=h;rfl)
  | (obtain⟨_,_,_,rfl,_⟩:=h;rfl)
  | (obtain⟨_,_,_,_,rfl,_⟩:=h;rfl)
  | (obtain⟨_,_,_,_,_,rfl,_⟩:=h;rfl)
  | (obtain⟨_,_,_,_,_,_,rfl,_⟩:=h;rfl)
  | (obtain⟨_,_,_,_,_,_,_,rfl,_⟩:=h;rfl)
  | (obtain⟨_,_,_,_,_,_,_,_,rfl,_⟩:=h;rfl)
theorem CA(T:Txt K mg t):eX P w K mg base 5 t.Bh t.Bz ["clocks","place","k"] uP:=by
 refine iI (k:=4) (sp:=uP) T.xq BZ (by decide) V2 (GV rs) (fun cdv A outer s H E hr=>?_) NL;refine QM (i:=3) (names:=rs) K0 T.takes T.yB BZ.nd (P8 (P9 (Ih (Qb mm) (Ih ?_ Qa)))) ?_ lJ;refine OQ ((Gq T).mono (by decide)) hr T.EY T.BO.kp T.Fh ?_;refine Φ (ah (pv 0)) (Φ (ah (pv 1)) (Φ (ah (pv 2)) aU));intro e0;refine dF ?_ (dt (fX (iU ?_)));refine lg (qc ?_) (dt ?_) lJ;refine xZ (iB nG (nv hr.units) ?_ mm (cK _)) ?_;refine AL ((Gk T).mono (by decide)) hr.h.mark T.KO T.EF.kp T.K8 (Φ (ah (pv 3)) aU);refine xZ (oN ?_) (AQ (oN ?_));refine AL ((CB T).mono (by decide)) hr.h.mark T.xi T.vV.kp T.xo (Φ (AK T.yN (ah (pv 3))) aU);refine AL ((CB T).mono (by decide)) hr.h.mark T.xi T.vV.kp T.xo (Φ (AK T.yM (ah (pv 3))) aU);refine fX (iU (Φ mm (Φ (iU (Φ (AK T.yN (ah (pv 3))) (Φ (AK T.yM (ah (pv 3))) aU))) aU)));refine Φ (AL ((Gk T).mono (by decide)) hr.h.mark T.KO T.EF.kp T.K8 (Φ (ah (pv 3)) aU)) ?_;refine Φ AU aU
theorem V1:∀ds G Q,xH ds G Q->ds.length=3:=by
 intro ds G Q h
 first
  | (rcases ds with _|⟨_,_|⟨_,_|⟨_,_|⟨_,_⟩⟩⟩⟩<;>first|rfl|exact h.elim)
  | (obtain⟨rfl,_⟩:=h;rfl)
  | (obtain⟨_,rfl,_⟩:=h;rfl)
  | (obtain⟨_,_,rfl,_⟩:=h;rfl)
  | (obtain⟨_,_,_,rfl,_⟩:=h;rfl)
  | (obtain⟨_,_,_,_,rfl,_⟩:=h;rfl)
  | (obtain⟨_,_,_,_,_,rfl,_⟩:=h;rfl)
  | (obtain⟨_,_,_,_,_,_,rfl,_⟩:=h;rfl)
  | (obtain⟨_,_,_,_,_,_,_,rfl,_⟩:=h;rfl)
  | (obtain⟨_,_,_,_,_,_,_,_,rfl,_⟩:=h;rfl)
theorem V0(T:Txt K mg t):eX P w K mg base 2 t.Bf t.Bx ["clocks","place","k"] xH:=by
 refine iI (k:=1) (sp:=xH) T.Fq xB (by decide) V1 (GU) (fun cdv A outer s H E hr=>?_) NG;refine dF ?_ ?_;refine Dl (i:=3) rfl xB.nd (show eY Gu (ar zT) _ ["clock"] [0,1] from⟨rfl,by decide +kernel,by decide +kernel,by decide +kernel,by decide +kernel,by decide +kernel⟩) ?_ ?_;refine xV (ah (pv 0));intro s0 H0 fp0;refine⟨(oP (i:=0) (show (["clock","clocks","place"]:List ν).Nodup by decide +kernel)),?_,(ah (pv 0))⟩;refine Jo (iB vb (u3 hr.units) (ah (pv 0)) (fJ (ah (pv 1)) (ah (pv 2))) (cK _));refine dF (ik (i:=4) xB.nd ?_) ?_;refine OG hr.units (dv ki kj (ah (pv 3)) ?_) T.mD T.xj;refine e7 ((V4 T).mono (by decide)) hr T.LN T.Ft.kp T.L8 ?_;refine Φ (fJ (ah (pv 0)) (ah (pv 1))) (Φ (ah (pv 2)) aU);refine dF ?_ ?_;refine lg (iB wL wq (nT hr.units T.hV (Φ (ah (pv 4)) aU)) bp (cK _)) ?_ lJ;refine dt (fX (iU (Φ mm (Φ (iU (Φ (nT hr.units T.hV (Φ (ah (pv 4)) aU)) (Φ bp aU))) aU))));refine dF ?_ (dt (fX (iU (Φ mm (Φ (xT hr.units T.mC (Φ (ah (pv 4)) aU)) aU)))));refine lg (iB wL wq (dv ny nz (fJ (fJ (ah (pv 0)) (ah (pv 1))) bp) (ah (pv 2))) bp (cK _)) ?_ lJ;refine dt (fX (iU (Φ mm ?_)));refine Φ (iU (Φ (dv ny nz (fJ (fJ (ah (pv 0)) (ah (pv 1))) bp) (ah (pv 2))) (Φ bp aU))) aU
theorem Ws:∀ds G Q,mV ds G Q->ds.length=1:=by
 intro ds G Q h;obtain⟨_,rfl,_⟩:=h;rfl
theorem KG(T:Txt K mg t):eX P w K mg base 6 t.Bt t.vM ["script"] mV:=by
 refine iI (k:=5) (sp:=mV) T.Mf jH (by decide) Ws (GF) (fun cdv A outer s H E hr=>?_) NY;refine dF (lg ?_ (dt (fX rm)) lJ) (dF ?_ (dt (fX rm)));refine iB vb (u3 hr.units) ?_ ?_ (cK _);refine OR ((Gq T).mono (by decide)) hr LH T.EY T.BO.kp T.Fh ?_;refine Φ (iU (Φ (iU (Φ bp (Φ bp aU))) aU)) (Φ bp (Φ bp aU));refine iU (Φ (iU (Φ bp (Φ bp aU))) (Φ (iU (Φ bp (Φ bp aU))) aU));refine AO ju rfl (xV ?_) (oP (i:=1) jH.nd) ?_;refine dv ki kj (oM ?_) (AN (ah (pv 0)) (xU bp) (xU bp));refine Φ (e7 ((Wl T).mono (by decide)) hr T.Ww T.Lm.kp T.WV (Φ (ah (pv 0)) (Φ bp aU))) (aU);refine dF ?_ ?_;refine ik (i:=2) jH.nd (e7 ((Wi T).mono (by decide)) hr T.LQ T.Fw.kp T.Mb (Φ (ah (pv 1)) aU));refine dF (ik (i:=3) jH.nd ?_) ?_;refine e7 ((Wa T).mono (by decide)) hr T.Wy T.Lo.kp T.WX (Φ (ah (pv 2)) (Φ bp aU));refine dF ?_ ?_;refine lg (iB nG (nv hr.units) (ah (pv 3)) (iU aU) (cK _)) (dt (ik (i:=3) jH.nd (iU (Φ ?_ aU)))) lJ;refine e7 ((zR T).mono (by decide)) hr T.AX T.yW.kp T.BL (Φ (ah (pv 2)) (Φ bp aU));refine dF ?_ ?_;refine lg (iB nG (nv hr.units) ?_ bp (cK _)) (dt (ik (i:=3) jH.nd ?_)) lJ;refine e7 ((kW T).mono (by decide)) hr T.iJ T.hZ.kp T.iL (Φ (ah (pv 2)) (Φ bp aU));refine xT hr.units T.mC (Φ (Jm hr.units ?_ T.mD T.xj) aU);refine wB rfl (show eY Gs (ar zS) _ ["turn"] [2] from⟨rfl,by decide +kernel,by decide +kernel,by decide +kernel,by decide +kernel,by decide +kernel⟩) ?_ ?_;refine uW T.i9 (Φ bp aU);intro s0 H0 fp0;refine⟨(oP (i:=0) (show (["turn","pen"]:List ν).Nodup by decide +kernel)),uV,?_⟩;refine e7 ((zR T).mono (by decide)) hr T.AX T.yW.kp T.BL (Φ (ah (pv 1)) (Φ bp aU));refine dF ?_ (dt ?_);refine AO ju rfl (uW T.i9 (Φ bp aU)) (oP (i:=4) jH.nd) ?_;refine dF (ik (i:=5) jH.nd ?_) ?_;refine e7 ((kW T).mono (by decide)) hr T.iJ T.hZ.kp T.iL ?_;refine Φ (ah (pv 2)) (Φ (nT hr.units T.hV (Φ (ah (pv 3)) aU)) aU);refine dF (ik (i:=6) jH.nd (dv ki kj bp ?_)) ?_;refine e7 ((kW T).mono (by decide)) hr T.iJ T.hZ.kp T.iL (Φ (ah (pv 2)) ?_);refine Φ (Dp (Φ bp (Φ bp (Φ bp aU))) ?_) aU;refine e7 ((kW T).mono (by decide)) hr T.iJ T.hZ.kp T.iL (Φ (ah (pv 2)) (Φ bp aU));refine dF (ik (i:=7) jH.nd ?_) (dt (lg (qc ?_) (dt (fX rm)) lJ));refine e7 ((CA T).mono (by decide)) hr T.AY T.xq.kp T.BM ?_;refine Φ (ah (pv 3)) (Φ (ah (pv 5)) (Φ (ah (pv 6)) aU));refine rl (iB vb (u3 hr.units) (ah (pv 7)) ?_ (cK _)) (wD (qc ?_));refine e7 ((V0 T).mono (by decide)) hr T.LL T.Fq.kp T.L6 ?_;refine Φ (ah (pv 3)) (Φ (ah (pv 5)) (Φ (ah (pv 6)) aU));refine xZ (iB nG (nv hr.units) (fJ (ah (pv 7)) bp) mm (cK _)) (AQ (sZ (oN ?_)));refine e7 ((V6 T).mono (by decide)) hr T.WA T.Lq.kp T.WZ ?_;refine Φ (fJ (ah (pv 7)) bp) aU;refine AO ju rfl (xV (oM (Φ (RY bp) ?_))) (oP (i:=8) jH.nd) (dt (lg (qc ?_) (dt (fX rm)) lJ));refine Φ (nT hr.units T.hV (Φ (ah (pv 3)) aU)) (Φ rm (Φ AU ?_));refine Φ mm (Φ (iU (Φ bp aU)) (Φ (oM (Φ bp aU)) (Φ (dv JA Kg bp bp) aU)));refine rl ?_ (wD ?_);refine iB vb (u3 hr.units) ?_ (iU (Φ mm (Φ AU aU))) (cK _);refine e7 ((CA T).mono (by decide)) hr T.AY T.xq.kp T.BM ?_;refine Φ (ah (pv 3)) (Φ (ah (pv 8)) (Φ bp aU))
 refine iB vb (u3 hr.units) ?_ (iU (Φ mm (Φ AU aU))) (cK _);refine e7 ((CA T).mono (by decide)) hr T.AY T.xq.kp T.BM ?_;refine Φ (ah (pv 3)) (Φ (ah (pv 8)) (Φ bp aU))
end
def iX(K:θ)(nm:ν)(st:aY):Prop:=∃f d,fv K nm nm st f d/\bx K aX nm=some (some (.ref f))
theorem dB{K:θ}{nm:ν}{st:aY}{f:ζ}{od an:Option ζ}{sl:Array (Option δ)}{oc kV dc pm cd ct:δ}(a:bx K aX nm=some (some (.ref f)))(l:K.lookup f=some ⟨oc,od,.func (gM nm nm (oA st) (fm st) (ar st) .none kV dc pm an cd ct),sl⟩)(c:j9 K cd nm=true)(k:bN K (.ref f)=true):iX K nm st:=⟨f,_,Kx l c k,a⟩
theorem xt{K:θ}{h:au}{mg:ν->Option δ}(X:K.In h)(G:h.Ns aX mg)
  (h0:iX K "whole_good" CJ)
  (h1:iX K "place_good" CI)
  (h2:iX K "refuse_no_place" CH)
  (h3:iX K "rising_once" CG)
  (h4:iX K "refuse_above" CF)
  (h5:iX K "rings" CD)
  (h6:iX K "inside_of" CC)
  (h7:iX K "parts_of" zY)
  (h8:iX K "split_at" zX)
  (h9:iX K "_law_cell_at" Dh)
  (zx:iX K "_law_next" Dg)
  (Xp:iX K "_law_pen_of" Df)
  (yL:iX K "_law_draw" De)
  (Xo:iX K "_law_whole" Dd)
  (Xn:iX K "_law_kind_of" Dc)
  (Xm:iX K "_law_clock_by" C9)
  (Xl:iX K "_law_parts_by" zW)
  (Xk:iX K "_law_clocks_by" zV)
  (Xj:iX K "_law_clock_good" C8)
  (Xi:iX K "_law_clocks_good" xG)
  (Xh:iX K "_law_parts" zU)
  (Xg:iX K "_law_told" C6)
  (Xf:iX K "_law_due" zT)
  (Xe:iX K "law" zS)
  {C_ClockError:ζ} (n_ClockError:bx K aX "ClockError" = some (some (.ref C_ClockError)))
  {C_NoClock:ζ} (n_NoClock:bx K aX "NoClock" = some (some (.ref C_NoClock)))
  {C_NoNumber:ζ} (n_NoNumber:bx K aX "NoNumber" = some (some (.ref C_NoNumber)))
  {C_NoPlace:ζ} (n_NoPlace:bx K aX "NoPlace" = some (some (.ref C_NoPlace)))
  {C_NoRow:ζ} (n_NoRow:bx K aX "NoRow" = some (some (.ref C_NoRow)))
  {C_NoClocks:ζ} (n_NoClocks:bx K aX "NoClocks" = some (some (.ref C_NoClocks)))
  {C_NoText:ζ} (n_NoText:bx K aX "NoText" = some (some (.ref C_NoText)))
  {C_TooGreat:ζ} (n_TooGreat:bx K aX "TooGreat" = some (some (.ref C_TooGreat)))
  {gC:ζ} (i_TooGreat:bV K (.ref C_TooGreat) "__init__" = some (some (.ref gC)))
  {qd_TooGreat qn_TooGreat:Option ζ} {qs_TooGreat:Array (Option δ)} {qc_TooGreat qk_TooGreat qo_TooGreat qp_TooGreat qe_TooGreat qt_TooGreat:δ} (j_TooGreat:K.lookup gC=some ⟨qc_TooGreat,qd_TooGreat,.func (gM "__init__" "TooGreat.__init__" (oA wd) (fm wd) (ar wd) .none qk_TooGreat qo_TooGreat qp_TooGreat qn_TooGreat qe_TooGreat qt_TooGreat),qs_TooGreat⟩) (h_TooGreat:j9 K qe_TooGreat "TooGreat.__init__" = true) (g_TooGreat:bN K (.ref gC)=true) (y_TooGreat:qJ K (.ref gC)=some (.type "function"))
  (lO:excIn K C_TooGreat (.ref C_ClockError::gH) (some (.ref gC)) "ValueError.__new__" = true)
  (p7:bV K (.ref C_TooGreat) "__setattr__" = some (some (.builtin "object.__setattr__"))) (v2_TooGreat:i6 K C_TooGreat (.type "object")=some true) (v3_TooGreat:bN K (.ref C_TooGreat)=true) (v4_TooGreat:bV K (.ref C_TooGreat) "__getattribute__" = some (some (.builtin "BaseException.__getattribute__"))) (v8_TooGreat:bV K (.ref C_TooGreat) "__getattr__" = some none) (v9_TooGreat:i6 K C_TooGreat (.type "BaseException")=some true) (v5_TooGreat:nY K C_TooGreat=true) (v6_TooGreat:bV K (.ref C_TooGreat) "__class__" = some (some (.builtin "object.__class__")))
  (jm:bV K (.ref C_TooGreat) "many" = some none)
  (jk:bV K (.ref C_TooGreat) "most" = some none)
  (jC:Δ K (.ref C_TooGreat) (.ref C_NoClock)=some false)
  (jc:Δ K (.ref C_TooGreat) (.ref C_NoClocks)=some false)
  (jb:Δ K (.ref C_TooGreat) (.ref C_NoNumber)=some false)
  (jB:Δ K (.ref C_TooGreat) (.ref C_NoPlace)=some false)
  (kS:Δ K (.ref C_TooGreat) (.ref C_NoRow)=some false)
  (kv:Δ K (.ref C_TooGreat) (.ref C_NoText)=some false)
  (ja:Δ K (.ref C_TooGreat) (.ref C_TooGreat)=some true)
  (p6:Δ K (.ref C_TooGreat) (.type "ValueError")=some true)
  (pO:excIn K C_NoPlace (.ref C_ClockError::gH) none "ValueError.__new__" = true)
  (vq:bV K (.ref C_NoPlace) "__setattr__" = some (some (.builtin "object.__setattr__"))) (v2_NoPlace:i6 K C_NoPlace (.type "object")=some true) (v3_NoPlace:bN K (.ref C_NoPlace)=true) (v4_NoPlace:bV K (.ref C_NoPlace) "__getattribute__" = some (some (.builtin "BaseException.__getattribute__"))) (v8_NoPlace:bV K (.ref C_NoPlace) "__getattr__" = some none) (v9_NoPlace:i6 K C_NoPlace (.type "BaseException")=some true) (v5_NoPlace:nY K C_NoPlace=true) (v6_NoPlace:bV K (.ref C_NoPlace) "__class__" = some (some (.builtin "object.__class__")))
  (mq:bV K (.ref C_NoPlace) "many" = some none)
  (mo:bV K (.ref C_NoPlace) "most" = some none)
  (ky:Δ K (.ref C_NoPlace) (.ref C_NoClock)=some false)
  (jF:Δ K (.ref C_NoPlace) (.ref C_NoClocks)=some false)
  (jE:Δ K (.ref C_NoPlace) (.ref C_NoNumber)=some false)
  (kx:Δ K (.ref C_NoPlace) (.ref C_NoPlace)=some true)
  (lC:Δ K (.ref C_NoPlace) (.ref C_NoRow)=some false)
  (kT:Δ K (.ref C_NoPlace) (.ref C_NoText)=some false)
  (jD:Δ K (.ref C_NoPlace) (.ref C_TooGreat)=some false)
  (qW:Δ K (.ref C_NoPlace) (.type "ValueError")=some true)
  (eb:excIn K C_ClockError gH none "ValueError.__new__" = true) (u1:uB K (.builtin "object.__class__") "__get__" = some (some (.builtin "getset_descriptor.__get__"))) (u2:vY K (.builtin "object.__class__")=some true)
  {t0:Tok} (gint0:bx K aX "MOST_CLOCKS" = some (some (.int 12 t0)))
  {t1:Tok} (gint1:bx K aX "MOST_STEP" = some (some (.int 1000 t1)))
  (z0:bx K aX "ValueError" = some none)
  (z1:bx K aX "all" = some none)
  (z2:bx K aX "bool" = some none)
  (z3:bx K aX "int" = some none)
  (z4:bx K aX "isinstance" = some none)
  (z5:bx K aX "len" = some none)
  (z6:bx K aX "max" = some none)
  (z7:bx K aX "min" = some none)
  (z8:bx K aX "range" = some none)
  (z9:bx K aX "set" = some none)
  (FQ:bx K aX "sorted" = some none)
  (FP:bx K aX "tuple" = some none)
  : ∃t:Fz,Txt K mg t/\∀(s:η) (v:δ),oG s t.vM ⟨[v],[]⟩ [("script",v)]:=by
 obtain⟨f0,d0,F0,a0⟩:=h0;obtain⟨f1,d1,F1,a1⟩:=h1;obtain⟨f2,d2,F2,a2⟩:=h2;obtain⟨f3,d3,F3,a3⟩:=h3;obtain⟨f4,d4,F4,a4⟩:=h4;obtain⟨f5,d5,F5,a5⟩:=h5;obtain⟨f6,d6,F6,a6⟩:=h6;obtain⟨f7,d7,F7,a7⟩:=h7;obtain⟨f8,d8,F8,a8⟩:=h8;obtain⟨f9,d9,F9,a9⟩:=h9;obtain⟨f10,d10,F10,a10⟩:=zx;obtain⟨f11,d11,F11,a11⟩:=Xp;obtain⟨f12,d12,F12,a12⟩:=yL;obtain⟨f13,d13,F13,a13⟩:=Xo;obtain⟨f14,d14,F14,a14⟩:=Xn;obtain⟨f15,d15,F15,a15⟩:=Xm;obtain⟨f16,d16,F16,a16⟩:=Xl;obtain⟨f17,d17,F17,a17⟩:=Xk;obtain⟨f18,d18,F18,a18⟩:=Xj;obtain⟨f19,d19,F19,a19⟩:=Xi;obtain⟨f20,d20,F20,a20⟩:=Xh;obtain⟨f21,d21,F21,a21⟩:=Xg;obtain⟨f22,d22,F22,a22⟩:=Xf;obtain⟨f23,d23,F23,a23⟩:=Xe;have I_TooGreat:=Kx (st:=wd) j_TooGreat h_TooGreat g_TooGreat;exact⟨⟨f0,d0,f1,d1,f2,d2,f3,d3,f4,d4,f5,d5,f6,d6,f7,d7,f8,d8,f9,d9,f10,d10,f11,d11,f12,d12,f13,d13,f14,d14,f15,d15,f16,d16,f17,d17,f18,d18,f19,d19,f20,d20,f21,d21,f22,d22,f23,d23,C_ClockError,C_NoClock,C_NoNumber,C_NoPlace,C_NoRow,C_NoClocks,C_NoText,C_TooGreat,gC,_,t0,t1⟩,⟨F0,
  aK X G a0,
  F0.binds (ps:=["thing"]) fun _ _ _ _ _ _ us hl=>by obtain⟨_,rfl⟩:=qf hl;rfl,
  F1,
  aK X G a1,
  F1.binds (ps:=["things","thing"]) fun _ _ _ _ _ _ us hl=>by obtain⟨_,_,rfl⟩:=nF hl;rfl,
  F2,
  aK X G a2,
  F2.binds (ps:=["things","thing"]) fun _ _ _ _ _ _ us hl=>by obtain⟨_,_,rfl⟩:=nF hl;rfl,
  F3,
  aK X G a3,
  F3.binds (ps:=["things"]) fun _ _ _ _ _ _ us hl=>by obtain⟨_,rfl⟩:=qf hl;rfl,
  F4,
  aK X G a4,
  F4.binds (ps:=["many","most"]) fun _ _ _ _ _ _ us hl=>by obtain⟨_,_,rfl⟩:=nF hl;rfl,
  F5,
  aK X G a5,
  F5.binds (ps:=["clock","number"]) fun _ _ _ _ _ _ us hl=>by obtain⟨_,_,rfl⟩:=nF hl;rfl,
  F6,
  aK X G a6,
  F6.binds (ps:=["one","other"]) fun _ _ _ _ _ _ us hl=>by obtain⟨_,_,rfl⟩:=nF hl;rfl,
  F7,
  aK X G a7,
  F7.binds (ps:=["clock","k"]) fun _ _ _ _ _ _ us hl=>by obtain⟨_,_,rfl⟩:=nF hl;rfl,
  F8,
  aK X G a8,
  F8.binds (ps:=["clocks","place","k"]) fun _ _ _ _ _ _ us hl=>by obtain⟨_,_,_,rfl⟩:=yC hl;rfl,
  F9,
  aK X G a9,
  F9.binds (ps:=["script","k"]) fun _ _ _ _ _ _ us hl=>by obtain⟨_,_,rfl⟩:=nF hl;rfl,
  F10,
  aK X G a10,
  F10.binds (ps:=["seed"]) fun _ _ _ _ _ _ us hl=>by obtain⟨_,rfl⟩:=qf hl;rfl,
  F11,
  aK X G a11,
  F11.binds (ps:=["cell"]) fun _ _ _ _ _ _ us hl=>by obtain⟨_,rfl⟩:=qf hl;rfl,
  F12,
  aK X G a12,
  F12.binds (ps:=["pen","many"]) fun _ _ _ _ _ _ us hl=>by obtain⟨_,_,rfl⟩:=nF hl;rfl,
  F13,
  aK X G a13,
  F13.binds (ps:=["found"]) fun _ _ _ _ _ _ us hl=>by obtain⟨_,rfl⟩:=qf hl;rfl,
  F14,
  aK X G a14,
  F14.binds (ps:=["e"]) fun _ _ _ _ _ _ us hl=>by obtain⟨_,rfl⟩:=qf hl;rfl,
  F15,
  aK X G a15,
  F15.binds (ps:=["pen","most"]) fun _ _ _ _ _ _ us hl=>by obtain⟨_,_,rfl⟩:=nF hl;rfl,
  F16,
  aK X G a16,
  F16.binds (ps:=["pen","least","most"]) fun _ _ _ _ _ _ us hl=>by obtain⟨_,_,_,rfl⟩:=yC hl;rfl,
  F17,
  aK X G a17,
  F17.binds (ps:=["pen","most"]) fun _ _ _ _ _ _ us hl=>by obtain⟨_,_,rfl⟩:=nF hl;rfl,
  F18,
  aK X G a18,
  F18.binds (ps:=["thing"]) fun _ _ _ _ _ _ us hl=>by obtain⟨_,rfl⟩:=qf hl;rfl,
  F19,
  aK X G a19,
  F19.binds (ps:=["thing"]) fun _ _ _ _ _ _ us hl=>by obtain⟨_,rfl⟩:=qf hl;rfl,
  F20,
  aK X G a20,
  F20.binds (ps:=["clock","k"]) fun _ _ _ _ _ _ us hl=>by obtain⟨_,_,rfl⟩:=nF hl;rfl,
  F21,
  aK X G a21,
  F21.binds (ps:=["clocks","place","k"]) fun _ _ _ _ _ _ us hl=>by obtain⟨_,_,_,rfl⟩:=yC hl;rfl,
  F22,
  aK X G a22,
  F22.binds (ps:=["clocks","place","k"]) fun _ _ _ _ _ _ us hl=>by obtain⟨_,_,_,rfl⟩:=yC hl;rfl,
  F23,
  aK X G a23,
  F23.binds (ps:=["script"]) fun _ _ _ _ _ _ us hl=>by obtain⟨_,rfl⟩:=qf hl;rfl,
  aK X G n_ClockError,
  n_ClockError,
  aK X G n_NoClock,
  n_NoClock,
  aK X G n_NoNumber,
  n_NoNumber,
  aK X G n_NoPlace,
  n_NoPlace,
  aK X G n_NoRow,
  n_NoRow,
  aK X G n_NoClocks,
  n_NoClocks,
  aK X G n_NoText,
  n_NoText,
  aK X G n_TooGreat,
  n_TooGreat,
  ⟨⟨lO,eb⟩,⟨p7,v2_TooGreat,QD lO,fun n hn=>by
   simp only[ak,bZ,or_false] at hn;rcases hn with rfl|rfl
   ·exact jm
   ·exact jk⟩,I_TooGreat,MN,.cons ⟨⟨_,_,_,_,rfl⟩,by decide⟩ (.cons ⟨⟨_,_,_,_,rfl⟩,by decide⟩ (.nil)),by decide +kernel,I_TooGreat.binds (ps:=["self","many","most"]) (fun _ _ _ _ _ _ us hl=>by obtain⟨_,_,_,rfl⟩:=yC hl;rfl),v3_TooGreat,by decide,QB y_TooGreat⟩,
  ⟨⟨v4_TooGreat,v8_TooGreat,v9_TooGreat⟩,Ie lO,v6_TooGreat,u1,u2,v2_TooGreat⟩,
  jC,
  jc,
  jb,
  jB,
  kS,
  kv,
  ja,
  p6,
  ⟨⟨v4_TooGreat,v8_TooGreat,v9_TooGreat⟩,v5_TooGreat,jm⟩,
  ⟨⟨v4_TooGreat,v8_TooGreat,v9_TooGreat⟩,v5_TooGreat,jk⟩,
  ⟨pO,eb⟩,
  ⟨⟨v4_NoPlace,v8_NoPlace,v9_NoPlace⟩,Ie pO,v6_NoPlace,u1,u2,v2_NoPlace⟩,
  ky,
  jF,
  jE,
  kx,
  lC,
  kT,
  jD,
  qW,
  ⟨⟨v4_NoPlace,v8_NoPlace,v9_NoPlace⟩,v5_NoPlace,mq⟩,
  ⟨⟨v4_NoPlace,v8_NoPlace,v9_NoPlace⟩,v5_NoPlace,mo⟩,
  aK X G gint0,
  aK X G gint1,
  ck X G z0,
  ck X G z1,
  ck X G z2,
  ck X G z3,
  ck X G z4,
  ck X G z5,
  ck X G z6,
  ck X G z7,
  ck X G z8,
  ck X G z9,
  ck X G FQ,
  ck X G FP⟩,fun s v=>by
  obtain⟨_,_,_,_,_,_,_,_,_,rfl,_⟩:=F23.ex;exact .of_eq rfl⟩
theorem Wr(K:θ)(H:Hp)(a:ζ)(ns:List Int)(hl:ns.length≤63)(ho:BN H)(hS:gJ K H a (ns.map V.int)):mS K mV [.ref a] H (fun v _=>v=.bl true) fun _ _ _=>False:=by
 refine⟨[.fM (ns.map .int)],fun _=>none,fun d _=>d=.bl true,.cons ?_ .nil,(fun _ _ e=>nomatch e),⟨ns,rfl,hl,rfl⟩,fun v H' d G' hv _ _ q=>?_⟩
 ·unfold Hv;refine⟨a,ns.map V.int,rfl,?_,aJ.ints ns⟩;rcases hS with (h|h)|h
  ·rcases ho a with z|⟨o,xs,z⟩
   ·rw[z] at h;cases h
   ·rw[z] at h;cases h
  ·exact .inl h
  ·exact .inr h
 ·subst q;exact wo hv
theorem walk{l:v5}{q:Ω}{loose:List ν}{XP:(ν->Option δ)->au->Prop}{YP:aw->au->Prop}{d:DefRec}{K:Params->θ}(hn:l.most=some 63)(hdf:d.params.defaults=[])
  (hY:∀(w:aw) (h:au),YP w h->(K w.params).In h)
  (F:∀(w:aw) (mg:ν->Option δ) (fa:ζ) (h:au),(K w.params).In h->h.Ns aX mg->mg d.name=some (.ref fa) ->
   ∃fd:aB,(∀(s:η) (u:δ),oG s fd ⟨[u],[]⟩ [("script",u)])/\∀base:au,(K w.params).In base->base.Ns aX mg->je l.prog w (K w.params) mg base pT 6 fa fd ["script"] (mS (K w.params) mV)):
  PySem.W.WalkO q loose XP YP l.row.toRowW d [] (fun f vs=>vX f vs):=
 L2.zh (n:=63) (k:=6) (x:="script") (CX:=fun _=>pT) (sp:=fun w=>mS (K w.params) mV) hn (by decide) hdf ⟨rfl,by decide,by decide⟩ hY F (fun w H a ns hl ho hS=>Wr (K w.params) H a ns hl ho hS) fun _ _ _ _ _ z=>z
end My
open PySem PySem.W PyProof.Rows
set_option maxRecDepth 100000 in
set_option maxHeartbeats 0 in
theorem PySem.Challenge.cw_coverclocks_k33_clocks_split_holds : PySem.Challenge.rw_coverclocks_k33_clocks_split.Holds := by
 w_on;o_law;k_head;(case hw=>w_witness2)
 k_fill
 refine My.walk (l:=PySem.Challenge.rw_coverclocks_k33_clocks_split) rfl rfl (fun w h Y=>PySem.W.kIn_of Y) ?F
 case F=>
  intro w mg fa h KX G hmg
  refine' Exists.elim (My.xt KX G (My.dB ?a0 ?l0 ?c0 ?k0) (My.dB ?a1 ?l1 ?c1 ?k1) (My.dB ?a2 ?l2 ?c2 ?k2) (My.dB ?a3 ?l3 ?c3 ?k3) (My.dB ?a4 ?l4 ?c4 ?k4) (My.dB ?a5 ?l5 ?c5 ?k5) (My.dB ?a6 ?l6 ?c6 ?k6) (My.dB ?a7 ?l7 ?c7 ?k7) (My.dB ?a8 ?l8 ?c8 ?k8) (My.dB ?a9 ?l9 ?c9 ?k9) (My.dB ?a10 ?l10 ?c10 ?k10) (My.dB ?a11 ?l11 ?c11 ?k11) (My.dB ?a12 ?l12 ?c12 ?k12) (My.dB ?a13 ?l13 ?c13 ?k13) (My.dB ?a14 ?l14 ?c14 ?k14) (My.dB ?a15 ?l15 ?c15 ?k15) (My.dB ?a16 ?l16 ?c16 ?k16) (My.dB ?a17 ?l17 ?c17 ?k17) (My.dB ?a18 ?l18 ?c18 ?k18) (My.dB ?a19 ?l19 ?c19 ?k19) (My.dB ?a20 ?l20 ?c20 ?k20) (My.dB ?a21 ?l21 ?c21 ?k21) (My.dB ?a22 ?l22 ?c22 ?k22) (My.dB ?a23 ?l23 ?c23 ?k23) ?n_ClockError ?n_NoClock ?n_NoNumber ?n_NoPlace ?n_NoRow ?n_NoClocks ?n_NoText ?n_TooGreat ?i_TooGreat ?j_TooGreat ?h_TooGreat ?g_TooGreat ?y_TooGreat ?lO ?p7 ?v2_TooGreat ?v3_TooGreat ?v4_TooGreat ?v8_TooGreat ?v9_TooGreat ?v5_TooGreat ?v6_TooGreat ?jm ?jk ?jC ?jc ?jb ?jB ?kS ?kv ?ja ?p6 ?pO ?vq ?v2_NoPlace ?v3_NoPlace ?v4_NoPlace ?v8_NoPlace ?v9_NoPlace ?v5_NoPlace ?v6_NoPlace ?mq ?mo ?ky ?jF ?jE ?kx ?lC ?kT ?jD ?qW ?eb ?u1 ?u2 ?gint0 ?gint1 ?z0 ?z1 ?z2 ?z3 ?z4 ?z5 ?z6 ?z7 ?z8 ?z9 ?FQ ?FP) ?fin
  case a0|l0|c0|k0|a1|l1|c1|k1|a2|l2|c2|k2|a3|l3|c3|k3|a4|l4|c4|k4|a5|l5|c5|k5|a6|l6|c6|k6|a7|l7|c7|k7|a8|l8|c8|k8|a9|l9|c9|k9=>k_is
  case a10|l10|c10|k10|a11|l11|c11|k11|a12|l12|c12|k12|a13|l13|c13|k13|a14|l14|c14|k14|a15|l15|c15|k15|a16|l16|c16|k16|a17|l17|c17|k17|a18|l18|c18|k18|a19|l19|c19|k19=>k_is
  case a20|l20|c20|k20|a21|l21|c21|k21|a22|l22|c22|k22|a23|l23|c23|k23|n_ClockError|n_NoClock|n_NoNumber|n_NoPlace|n_NoRow|n_NoClocks|n_NoText|n_TooGreat|i_TooGreat|j_TooGreat|h_TooGreat|g_TooGreat|y_TooGreat=>k_is
  case lO=>kernel_rfl
  case p7|v2_TooGreat|v3_TooGreat|v4_TooGreat|v8_TooGreat|v9_TooGreat|v5_TooGreat|v6_TooGreat|jm|jk=>k_is
  case jC|jc|jb|jB|kS|kv|ja|p6|pO=>kernel_rfl
  case vq|v2_NoPlace|v3_NoPlace|v4_NoPlace|v8_NoPlace|v9_NoPlace|v5_NoPlace|v6_NoPlace|mq|mo=>k_is
  case ky|jF|jE|kx|lC|kT|jD|qW|eb=>kernel_rfl
  case u1|u2|gint0|gint1|z0|z1|z2|z3|z4|z5|z6|z7|z8|z9|FQ|FP=>k_is
  case fin=>
   rintro t ⟨T,b⟩
   have e2:=hmg.symm.trans T.LV
   cases e2
   exact⟨t.vM,b,fun base _ _=>My.KG T⟩
