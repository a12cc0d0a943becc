import PyProof.Rows.All
import Wide.All
import OpenK.AllK
import Wide.FinOn
import Lean
import PyProof.EqAt
import PyProof.EqKinds
import PyProof.TupleCall
import PyProof.NeKinds
import KE.KSortAsk
import PySem.SetTable
import PyProof.SetKind
import PyProof.TupleKey
import PyProof.IsRules
import PyProof.DictKinds
import PyProof.FactsAll.set
import PyProof.RangeIter
import PyProof.Seq
import PyProof.ForAny
import PyProof.WalksMore
import PyProof.CollectWalk
import PyProof.CollectIter
import PyProof.WalksS
import PyProof.Rows.SetFrom
import KE.KSortTup
import PyProof.Draws
import PyProof.Rows.Range3
import PyProof.ExcClass2
import PyProof.InstSpecial
import PyProof.RaisesMany
import PyProof.Rows.Own
import KE.KTryDeep
import PyProof.InstStoreFacts
import PyProof.ExcArgs
import PyProof.SetRoads
import PyProof.Rows.CallKwBuiltin
import KE.KMinKey
import KE.KMinBuiltin
import PyProof.DictRoadsH
import KE.BitLaws
import PyProof.ListCopy
import PyProof.Rows.SortShell
import PyProof.DictTruth
import PyProof.DictItems
import PyProof.Rows.TupDisplay
import KE.KItemsList
import KE.KDictList
import PyProof.DictKeyH
import PyProof.DictWalks
import PyProof.Rows.SeqMore
import PySem.Challenge.RW_coverclocks_k63_exact_clocks_by_steps
set_option Elab.async false
set_option linter.all false
set_option maxRecDepth 100000
set_option maxHeartbeats 6400000
namespace PySem.W.Fast
def tw10287693965608003544:=0
def tw10361876813385942729:=0
def tw10425483023056605097:=0
def tw10427156395598508008:=0
def tw10561196339979242256:=0
def tw10612361844484354893:=0
def tw10801515614249956137:=0
def tw10994136093834451243:=0
def tw11102890329623247958:=0
def tw11235441278689513644:=0
def tw11484712822452784635:=0
def tw1188663243830793188:=0
def tw12207605596514491573:=0
def tw12455393955947838849:=0
def tw12723052329886869632:=0
def tw12854276927630511553:=0
def tw1290778928199305816:=0
def tw12972387612573200900:=0
def tw1313732010105899946:=0
def tw13259972734108983433:=0
def tw13359589272376546218:=0
def tw13545025525037513615:=0
def tw13798971627430025064:=0
def tw13821650096838434943:=0
def tw13870899204510299924:=0
def tw13931648257641155734:=0
def tw14046830409828852987:=0
def tw1409631362286219849:=0
def tw14637730677415114538:=0
def tw14649392077753313001:=0
def tw14673749062711391013:=0
def tw14996935584617267240:=0
def tw15008739619250537420:=0
def tw15062833513674914301:=0
def tw15081493146193570687:=0
def tw15429727428145818164:=0
def tw15602096579820638502:=0
def tw15603050581733744444:=0
def tw16230278982727370770:=0
def tw16302173969610978602:=0
def tw16350215969903922264:=0
def tw16517171183269703182:=0
def tw16720645459942888120:=0
def tw17113150501255286750:=0
def tw17114345983398351497:=0
def tw17126291578744404911:=0
def tw17161321050073505763:=0
def tw17831685368035502588:=0
def tw18337566113924272533:=0
def tw18401279377976420683:=0
def tw1912767096181207647:=0
def tw1967691651641330167:=0
def tw2062236628016586709:=0
def tw2114346461378775584:=0
def tw2194498230788481289:=0
def tw225088616342965344:=0
def tw235549043305086112:=0
def tw2454826708428741984:=0
def tw2719630458462105848:=0
def tw2741732366458620844:=0
def tw2839862545627746741:=0
def tw3174478373324333664:=0
def tw3321573475210304881:=0
def tw3350266590605623550:=0
def tw346367990477057018:=0
def tw3654242616020836477:=0
def tw3758847465309107976:=0
def tw4407456726777052309:=0
def tw456427006479610892:=0
def tw4667612709893707891:=0
def tw4687970451615802056:=0
def tw4893046994215154127:=0
def tw4952551760465889548:=0
def tw5549540110026316303:=0
def tw5689147720799257367:=0
def tw5706013548617382903:=0
def tw5875290240209115031:=0
def tw5975009804837559845:=0
def tw6149550898302437246:=0
def tw6266129714395582435:=0
def tw6625378810663672005:=0
def tw6915729916929040894:=0
def tw7258437571599814858:=0
def tw7312763466735099737:=0
def tw768840257915189385:=0
def tw7975127527874032208:=0
def tw8297599095266872540:=0
def tw8414360026186765135:=0
def tw8545248201022291753:=0
def tw8775584663948179033:=0
def tw9281069243720390285:=0
def tw9494635396321831834:=0
def tw9572337259659668700:=0
def tw9723832235485415440:=0
def tw987079175190889997:=0
def tw9894198829055117517:=0
def tw12031405665893446088:=0
def tw12166666119189562115:=0
def tw1219370789638058444:=0
def tw12352909993191182382:=0
def tw13237628338856534312:=0
def tw13419578890362446472:=0
def tw13539869333944830901:=0
def tw13545882871153002950:=0
def tw1396518799262302693:=0
def tw14019423004185010191:=0
def tw14610530591116415719:=0
def tw15330780779819297291:=0
def tw1547363595359052721:=0
def tw1609362678741263570:=0
def tw16324717264854741867:=0
def tw16570799111619422190:=0
def tw17065802046262765333:=0
def tw17910301705085902979:=0
def tw18430316233999753067:=0
def tw2197170932003385647:=0
def tw2224914384435151383:=0
def tw2479202189838139069:=0
def tw274077699926483675:=0
def tw3115599370645859844:=0
def tw3201049336286101387:=0
def tw3747447718266087284:=0
def tw3883459618062869636:=0
def tw4222635358064892867:=0
def tw4305781560560163273:=0
def tw4854681167384272288:=0
def tw6040805808533459166:=0
def tw6351905716115490143:=0
def tw6683276553697850510:=0
def tw6751886638417610959:=0
def tw8026275614101666935:=0
def tw8388203944540271536:=0
def tw869443110250222218:=0
def tw8937583852126038929:=0
def tw9362747820329053185:=0
def tw9777051972365919169:=0
def tw9800038056075092490:=0
def tw9931371361210965707:=0
def tw1012251799584690774:=0
def tw10488157120316626403:=0
def tw10901559480266815443:=0
def tw11497600024563504529:=0
def tw11517286047753308827:=0
def tw11674735628027829886:=0
def tw12109293898997152267:=0
def tw12742245818002446305:=0
def tw12810634527116624110:=0
def tw1365199422217554008:=0
def tw1385394185334839316:=0
def tw14996896502183653258:=0
def tw15057776567137686312:=0
def tw15145469434959556137:=0
def tw15304903148206599012:=0
def tw16444467814855103915:=0
def tw16470228493164417039:=0
def tw1690266628051361076:=0
def tw17015749229160224250:=0
def tw17892867931263640759:=0
def tw18388557784853144914:=0
def tw18404447139193431638:=0
def tw2419215629199303272:=0
def tw2551678266599023418:=0
def tw3052435577230129364:=0
def tw3926921293747861841:=0
def tw4558873036099963542:=0
def tw479181650143590857:=0
def tw5966927743015518406:=0
def tw6194522910572525593:=0
def tw6276302230258399388:=0
def tw6297898522967442008:=0
def tw7205906642197778991:=0
def tw8146185153544810178:=0
def tw8196654747081036096:=0
def tw8264629434639819691:=0
def tw8507888068816984269:=0
def tw9264068146941906290:=0
def tw9343057304465066133:=0
def tw14043846897537799058:=0
def tw14119918024771862777:=0
def tw4272504534450697038:=0
def tw5768149485702202917:=0
def tw1494952766790814100:=0
def tw6413873792354365537:=0
def tw8822289971373267750:=0
def tw15988641615572456060:=0
def tw3601272996588110022:=0
end PySem.W.Fast
open Array renaming length_toList->aS,getElem?_toList->bf,getElem?_eq_getElem->cQ,toList_append->df,getElem?_eq_none->kW,toList_reverse->mF,toList->mG,mem_toList_iff->mH,toList_setIfInBounds->oe,getElem?_eq_some_iff->og,toList_push->ow,getElem_toList->sg,toList_modify->sC,getElem_mem->t5,getD->vB
open Bool renaming false_ne_true->ak,and_eq_true->bV,false_eq_true->cq,eq_iff_iff->dI,not_eq_true'->gJ,not_eq_false'->iH,and_true->n9
open Classical renaming byContradiction->cP
open False renaming elim->gT
open ForInStep renaming yield->gC
open Int renaming toNat_of_nonneg->ba,toNat_natCast->bz,emod_lt_of_pos->dM,natCast_ediv->eK,emod_nonneg->fc,le_of_lt->fu,natCast_dvd_natCast->gb,emod_eq_emod_iff_emod_sub_eq_zero->gp,dvd_mul_right->gI,emod_eq_of_lt->iT,natCast_mul->jQ,natCast_add->jR,mul_le_mul_of_nonneg_left->mI,dvd_trans->nW,zero_add->pL,eq_ofNat_of_zero_le->pQ,emod_eq_zero_of_dvd->pR,dvd_of_emod_eq_zero->pS,ediv_nonneg->qg,one_mul->qK,mul_sub->qL,dvd_sub->qM,dvd_add->qN,mul_ediv_add_emod->rl,mul_assoc->sx,mul_one->uf
open List renaming length_map->ε,length_append->ξ,mem_cons_self->ο,mem_cons_of_mem->χ,size_toArray->Γ,getElem?_eq_getElem->Θ,getElem?_eq_some_iff->Φ,pairwise_append->Ψ,append_assoc->aa,length_cons->ag,mem_singleton->ah,mem_append_right->aq,mem_append->ar,range->av,mem_cons->ay,getElem?_map->az,mem_map->aE,mem_append_left->aM,map_map->aN,pairwise_singleton->aT,length_drop->aV,map_append->aW,map_cons->aZ,nil_append->bw,length_take->bA,take_append_drop->bC,getElem?_append_right->bD,replicate->bF,mem_of_getElem?->bG,pairwise_map->bN,length_nil->bO,length->bR,pairwise_cons->b5,length_singleton->b6,length_range'->b7,map_congr_left->b9,mem_range->cm,length_range->cn,sum_cons->cH,eq_nil_of_length_eq_zero->cJ,pairwise_iff_getElem->cM,getElem?_append_left->cN,drop_eq_getElem_cons->cO,take_of_length_le->cS,append_nil->cV,mem_of_mem_drop->dq,not_mem_nil->dz,take_sublist->dB,nodup_cons->dG,find?_cons->dH,zip_cons_cons->dJ,mem_of_mem_take->dP,getD_eq_getElem?_getD->dX,getElem_of_mem->ed,getElem?_eq_none_iff->ef,getElem_mem->eH,all_eq_true->eJ,filter_cons_of_pos->eY,flatten_cons->e7,toArray->fo,filter_eq_nil_iff->fq,drop_eq_nil_of_le->ft,pairwise_reverse->fF,filter_append->fG,getElem?_take_of_lt->fQ,filter_cons_of_neg->fZ,replicate_succ->gg,length_pos_iff->gh,mem_reverse->gk,getElem_cons_drop->gr,getElem?_drop->gv,drop_sublist->gH,perm_middle->g8,mem_of_mem_eraseIdx->g9,lookup_cons->hJ,getElem?_range->ie,filter_eq_self->ig,length_eq_zero_iff->ip,mem_filter->iF,getD->iG,perm_append_comm->jc,map_eq_nil_iff->jH,getElem?_zip_eq_some->jO,zip_nil_right->km,drop_drop->kr,zip_nil_left->kH,take_add_one->kI,reverse_perm->kJ,filter_congr->kK,ext_getElem?->kL,getElem?_set_self->kT,take_length->lA,filter_cons->lB,any_toArray->lC,mem_of_mem_erase->lH,mem_iff_getElem?->lJ,length_replicate->lK,getElem?_eq_none->lL,eraseIdx_eq_take_drop_succ->lO,perm_cons_erase->mz,length_zip->mB,length_set->mC,getElem?_set_ne->mD,filterMap_cons->mM,drop_zero->m4,dropLast_concat_getLast->m6,countP_eq_length_filter->m7,map_inj_right->nE,nil_perm->nU,length_eraseIdx_of_lt->nV,mem_of_find?_eq_some->oI,getLast?_eq_none_iff->oJ,nodup_range->pI,mem_flatMap->pJ,idxOf_lt_length_iff->pK,getElem?_replicate->pP,sum_append->qd,of_mem_zip->qe,filter_map->qf,sum_replicate_nat->qH,length_pos_of_mem->qI,take_zero->qZ,take_take->ra,set_append_right->rb,nodup_nil->rh,eq_replicate_iff->rj,reverse_reverse->sd,nodup_iff_count->se,reverse_append->sy,flatMap_append->sA,mem_filterMap->tG,getElem_idxOf->tH,find?_eq_none->tI,map_id->ue,map->uM,foldl->vw
open List.Pairwise renaming imp_of_mem->fR,nil->iS
open List.Perm renaming append_right->cA,append_left->cG,trans->cW,refl->ku,of_eq->vA
open List.cons renaming inj->gF,injEq->vz
open Nat renaming le_refl->υ,le_trans->aD,zero_le->aQ,ne_of_lt->aX,gcd->bE,lt_of_lt_of_le->bK,ne_of_gt->b0,lt_irrefl->cU,mul_comm->dW,lt_of_le_of_lt->eG,lcm->fE,mul_le_mul_right->fO,le_of_dvd->fU,gcd_pos_of_pos_left->fY,le_add_right->gi,pow_le_pow_right->gR,gcd_dvd_left->g7,gcd_dvd_right->iR,le_of_ble_eq_true->jb,min_eq_left->jN,lt_trans->kh,le_of_lt->ki,div_mul_cancel->kj,mul_div_cancel_left->kA,dvd_mul_right->kG,sub_self->mv,pow_succ->mw,mul_le_mul_left->mL,mul_assoc->nT,lt_succ_of_lt->oq,gcd_comm->pF,dvd_mul_left->pG,div_self->pH,le_mul_of_pos_right->pO,not_lt_zero->qc,one_mul->qB,mul_pos->qC,le_succ->qD,lcm_pos->qE,lcm_dvd->qF,dvd_of_mod_eq_zero->qG,dvd_trans->sq,add_assoc->sr,zero_add->tx,sub_zero->tz,min_self->tD,lt_or_ge->tE,le_of_eq->tF,gcd_rec->ud
open Ne renaming symm->eU
open Option renaming getD_none->uL
open Option.some renaming inj->aA
open Or renaming inr->nC,inl->pE
open Prod renaming ext->uK
open PyProof.Rows renaming Keyed->θ,SortSt->aH,SortKind->cv,IntsAre->dg,slot_tuple_getitem->dj,callWith_type1->fb,get?_update_seq->gB,IsTup->gS,listUpdate_at->iu,seqEpoch_at->kS,mergeAt'->lG,AllBare->lN,listItems_at->mo,assignInOrder_cons->nz,collect_list->pB,list_sort_plain->qa,entry_list_sort->qb,slot_list_sort->qW,args_list_sort->qX
open PyProof.Rows.SortSt renaming mk'->r9
open PySem renaming wpAny_bind->γ,Value->δ,Shared->ζ,Addr->η,wpAny_pure->ι,wpAny->π,Expr->ρ,Str->Ξ,sizeLine->ao,Program->aw,World->aG,FuncData->aL,Pos->aP,Around->aR,Stmt->bp,Obj->br,wpAny_newObj_type->bx,mainGlobals->bH,wpAny_call_entry->bU,wpAny_callSpecial?_slot->bW,sizeLine_eq->bX,starEach->b8,wpAny_typeNameOfWhole_itemiter->ck,wpAny_holding->cx,wpAny_typeNameOf_itemiter->cL,wpAny_field->dZ,wpAny_mono->ee,wpAny_truthy_bool->eZ,wpAny_dictEntries->e6,codeAny_builtin->e8,wpAny_isOneOf_itemiter->fk,wpAny_setField_rec->fD,wpAny_dictEpoch->fN,wpAny_typeNameOfWhole_keyiter->fW,NameKind->gj,Builtin->gm,Moved->gq,wpAny_updateSeq->gx,wpAny_passesOwn->gA,wpAny_attempt->gD,plainId_quiet->gE,wpAny_rule->gQ,DictEntry->gY,wpAny_typeNameOf_keyiter->g5,bootBuiltins->g6,wpAny_newList->iq,codeAny->iw,wpAny_pyIter_tuple->iD,Scope->iE,richCompare_meets_room->iL,richCompare->iM,wpAny_setField->i8,wpAny_seqItems->i9,wpAny_fieldsOf->ja,Env->jk,wpAny_isInstance->ju,IsItemIter->jx,wpAny_typeOf->ke,wpAny_eqBool_tuple->kf,wpAny_newTuple->ko,Tok->kz,wpAny_letGo->kR,wpAny_forIn_list->ls,Operator->lu,wpAny_execs_nil->mn,call_meets->mq,IsPart->mE,wpAny_tryCatch->mY,isSubtype_stop->mZ,wpAny_of_eq->nc,wpAny_Call_Name_kw->nv,tupleKind_room_in1->ny,PassesOwn->nB,wpAny_standAt->nQ,wpAny_handled->nR,CmpOp->oK,wpAny_eqBool_int->pk,wpAny_comprehension_free->pz,noFill_tuple_add->pA,codeAny_mono->pC,Result->pD,wpAny_ite_split->p9,wpAny_throw->qy,seqIndex_of->qz,IsRangeIter->qJ,Keyword->rk,BindsTo->rm,wpAny_load->r8,seq_tuple_add->sk,IsItemIterOut->sv
open PySem.Around renaming under_plainId->eW
open PySem.AutoSeq1 renaming sub_tuple_tuple->hZ
open PySem.Builtin.Builtins renaming bindParams->nH
open PySem.Builtin.Dict renaming showsAll->jd
open PySem.Builtin.Dict_items renaming ownsTuple->cT,ownedTupleIsFree->eV,pairFromOwner->fB,ownedTupleFields->kv
open PySem.Builtin.Int renaming intBits->jI
open PySem.Builtin.List renaming listExtendWith->dh,listTooLong->hX,listLengthHint->nG,listSameRef->pN,listItems->qO
open PySem.Builtin.Range renaming rangeSize->dk,small->mN
open PySem.Builtin.Slice renaming slicePlaces->gV,sliceAdjust->jT,sliceApplied->nZ
open PySem.Builtin.SmallTypes renaming nextOf->gU
open PySem.Builtin.Tuple renaming tupleCompareSizes->fI,tupleExact->hU,tupleItemsOf->nY
open PySem.Calls renaming call_function_entry->jS,callWith_builtin->kU,spliced_cons->nF,Name_function_global->nX,evalArgs_plain->sf,spliced_nil->t4
open PySem.Data renaming fields->ug
open PySem.Moved renaming trans->ng
open PySem.NameKind renaming free->dm,cell->su
open PySem.Obj renaming mapSeq->aU,data_mapFields->kg,isFreed_of_fields->qY
open PySem.PassesOwn renaming never->bu
open PySem.SeqAt renaming EqAt->vt
open PySem.SeqAt.EqAt renaming int_int->tu
open PySem.SeqAt.RcAt renaming lists_lengths->tw
open PySem.Shared renaming TypeIs->nS
open PySem.Str renaming ofString->fm,empty->jj
open PySem.Value renaming ref->au,none->bT,int->eF,bool->fw,isInt_shape->iQ,notImplemented->jw,type->kq,isInt->qA
open PySem.W renaming kasC_bind->Δ,kasC_pure->af,kasC_range->dO,kasC_modify->gX,kasC_get->jv,kas_ask->lE,kasC_lift->lF,kat_nil->oP
open PySem.W.KasT renaming kasWp_bind->jP
open PySem.W.KatTups renaming cons->tJ
open Sum renaming inr->oQ,inl->oR
open True renaming intro->oH
namespace L2
open PySem PySem.Spec PyProof.Rows
abbrev Key:=Sum Int Ξ
def Gm:Key->δ->Bool
 |.inl k,v=>qA k v
 |.inr x,v=>δ.isStrOf x v
def aaM(w:aG):Key->Int
 |.inl k=>hashInt k
 |.inr x=>hashStr w x
theorem rG:∀{k:Key} {v:δ},Gm k v=true->(∃i t,k=oR i/\v=eF i t)∨(∃x t,k=oQ x/\v=δ.str x t)
 |.inl i,v,h=>by
  obtain⟨t,e⟩:=iQ (k:=i) (v:=v) h;exact .inl ⟨i,t,rfl,e⟩
 |.inr x,v,h=>by
  obtain⟨t,e⟩:=δ.isStrOf_shape (x:=x) (v:=v) h;exact .inr ⟨x,t,rfl,e⟩
theorem WC(a b:Int):decide ((oR a:Key)=oR b)=(a==b):=by
 by_cases e:a=b
 ·subst e;simp
 ·have h:¬(oR a:Key)=oR b:=fun q=>e (oR.inj q);rw[decide_eq_false h];exact (beq_eq_false_iff_ne.mpr e).symm
theorem WB(a b:Ξ):decide ((oQ a:Key)=oQ b)=decide (a=b):=by
 by_cases e:a=b
 ·subst e;simp
 ·have h:¬(oQ a:Key)=oQ b:=fun q=>e (oQ.inj q);rw[decide_eq_false h,decide_eq_false e]
theorem WA(a:Int)(b:Ξ):decide ((oR a:Key)=oQ b)=false:=decide_eq_false (fun q=>nomatch q)
theorem Wz(a:Ξ)(b:Int):decide ((oQ a:Key)=oR b)=false:=decide_eq_false (fun q=>nomatch q)
def wd(prog:aw)(w:aG):PySem.KeyKind prog w Key where
 is:=Gm
 hash:=aaM w
 inj:=fun v a b ha hb=>by
  rcases rG ha with⟨i,t,rfl,rfl⟩|⟨x,t,rfl,rfl⟩
  ·rcases rG hb with⟨j,u,rfl,e⟩|⟨y,u,rfl,e⟩
   ·injection e with e1 _;rw[e1]
   ·exact nomatch e
  ·rcases rG hb with⟨j,u,rfl,e⟩|⟨y,u,rfl,e⟩
   ·exact nomatch e
   ·injection e with e1 _;rw[e1]
 byValue:=fun k v h=>by
  rcases rG h with⟨i,t,rfl,rfl⟩|⟨x,t,rfl,rfl⟩<;>rfl
 pyHash:=fun hv h=>by
  rcases rG hv with⟨i,t,rfl,rfl⟩|⟨x,t,rfl,rfl⟩
  ·exact wpAny_pyHash_int h
  ·exact wpAny_pyHash_str h
 eqBool:=fun hu hv h=>by
  rcases rG hu with⟨i,t,rfl,rfl⟩|⟨x,t,rfl,rfl⟩
  ·rcases rG hv with⟨j,u,rfl,rfl⟩|⟨y,u,rfl,rfl⟩
   ·rw[WC] at h;exact pk h
   ·rw[WA] at h;exact vt.int_str i t y u _ _ _ _ h
  ·rcases rG hv with⟨j,u,rfl,rfl⟩|⟨y,u,rfl,rfl⟩
   ·rw[Wz] at h;exact vt.str_int x t j u _ _ _ _ h
   ·rw[WB] at h;exact wpAny_eqBool_str h
 «strs»:=fun k x t v h=>by
  rcases rG h with⟨i,u,rfl,e⟩|⟨y,u,rfl,e⟩
  ·exact nomatch e
  ·injection e with e1 _;subst e1;cases v<;>rfl
end L2
namespace L2
open PySem PySem.Spec PyProof.Rows
inductive V where
 |aF|bl (b:Bool)|int (i:Int)|str (x:Ξ)|Dc (b:Array UInt8)|MY (b:UInt64)|ref (a:η)|ty (n:String)
 deriving DecidableEq
def RelV:V->δ->Prop
 |.aF,u=>u=bT
 |.bl b,u=>u=fw b
 |.int i,u=>∃t,u=eF i t
 |.str x,u=>∃t,u=δ.str x t
 |.Dc b,u=>∃t,u=δ.bytes b t
 |.MY b,u=>∃t,u=δ.float b t
 |.ref a,u=>u=au a
 |.ty n,u=>u=kq n
abbrev bo:List V->List δ->Prop:=Paired RelV
theorem bo.length{xs:List V}{us:List δ}(r:bo xs us):xs.length=us.length:=Paired.length r
theorem bo.get:∀{xs:List V} {us:List δ} {i:Nat} {x:V},bo xs us->xs[i]?=some x->∃u,us[i]?=some u/\RelV x u
 |_,_,_,_,.nil,e=>by simp at e
 |_,_,0,_,.cons r _,e=>by simp at e;subst e;exact⟨_,rfl,r⟩
 |_,_,i+1,x,.cons _ t,e=>by
  obtain⟨u,h1,h2⟩:=bo.get (i:=i) (x:=x) t (by simpa using e);exact⟨u,by simpa using h1,h2⟩
theorem bo.set{x:V}{u:δ}(r:RelV x u):∀{xs:List V} {us:List δ} (i:Nat),bo xs us->bo (xs.set i x) (us.set i u)
 |_,_,_,.nil=>.nil
 |_,_,0,.cons _ t=>.cons r t
 |_,_,i+1,.cons q t=>.cons q (bo.set r i t)
theorem bo.append:∀{xs ys:List V} {us ws:List δ},bo xs us->bo ys ws->bo (xs++ys) (us++ws)
 |_,_,_,_,.nil,s=>s
 |_,_,_,_,.cons r t,s=>.cons r (bo.append t s)
theorem bo.take:∀{xs:List V} {us:List δ} (n:Nat),bo xs us->bo (xs.take n) (us.take n)
 |_,_,0,_=>.nil
 |_,_,_+1,.nil=>.nil
 |_,_,n+1,.cons r t=>.cons r (bo.take n t)
theorem bo.drop:∀{xs:List V} {us:List δ} (n:Nat),bo xs us->bo (xs.drop n) (us.drop n)
 |_,_,0,r=>r
 |_,_,_+1,.nil=>.nil
 |_,_,n+1,.cons _ t=>bo.drop n t
def Nb:Option V->Option δ->Prop
 |some v,some u=>RelV v u
 |none,none=>True
 |_,_=>False
def KV{κ:Type}:List (κ×V)->List (κ×δ)->Prop:=Paired fun (p:κ×V) (q:κ×δ)=>p.1=q.1/\RelV p.2 q.2
def kV:Key->V
 |.inl i=>.int i
 |.inr x=>.str x
inductive HO where
 |lst (xs:List V)
 |tup (xs:List V)
 |dK (kvs:List (Key×V))|dT (kvs:List (List Key×V))
 |set (S:Int->Bool) (n:Nat)
 |ins (C dx:η) (fs:List (Ξ×V))
 |own (x:η)
 |xd (fs:List (Ξ×V))
 |met (f x:η)
 |FD (lo hi:Int)
 |iO (o:br) (u:HO)
 |wz (ps:Array δ)
 |ext (φ:Heap->Prop)
abbrev Hp:=η->Option HO
def upd(H:Hp)(a:η)(o:HO):Hp:=fun b=>if b=a then some o else H b
theorem jW{H:Hp}{a:η}{o:HO}:upd H a o a=some o:=by unfold upd;rw[if_pos rfl]
theorem fi{H:Hp}{a b:η}{o:HO}(h:b≠a):upd H a o b=H b:=by unfold upd;rw[if_neg h]
theorem mU{H:Hp}{a b:η}{o:HO}(h:H a=some o)(h':H b=none):a≠b:=by
 intro e;subst e;rw[h] at h';cases h'
def kP(h:Heap)(a:η)(items:Array δ):Prop:=∃o,h.get? a=some o/\o.cls=.type "tuple"/\(∃n,o.data=.seq items n)/\o.dict=none
theorem kP.tup{h:Heap}{a:η}{items:Array δ}(x:kP h a items):gS h a items:=let ⟨o,h1,h2,h3,_⟩:=x;⟨o,h1,h2,h3⟩
theorem kP.new(h:Heap)(items:Array δ):kP (h.push { cls:=.type "tuple",data:=.seq items }) h.objs.size items:=⟨_,Heap.get?_push_size _ rfl,rfl,⟨_,rfl⟩,rfl⟩
theorem kP.lt{h:Heap}{a:η}{items:Array δ}(x:kP h a items):a<h.objs.size:=let ⟨_,ho,_⟩:=x;Heap.lt_size ho
section
variable (P:aw) (w:aG)
def fX(H:Hp)(h:Heap)(a:η):HO->Prop
 |.lst xs=>xs.length≤ao/\∃(its:List δ) (n:Nat),bo xs its/\h.get? a=some { cls:=.type "list",data:=.seq its.toArray n }
 |.tup xs=>xs.length≤ao/\∃its:List δ,bo xs its/\kP h a its.toArray
 |.dK kvs=>kvs.length≤ao/\(a==sysModules)=false/\∃vs,KV kvs vs/\h.DictOf (wd P w) a vs
 |.dT kvs=>kvs.length≤ao/\(a==sysModules)=false/\∃xs:List (List Key×η×δ),
   Paired (fun (p:List Key×V) (q:List Key×η×δ)=>p.1=q.1/\H q.2.1=some (.tup (p.1.map kV))/\RelV p.2 q.2.2) kvs xs ∧
   ∃o es ep,h.get? a=some o/\o.ExactDict/\o.data=.dict es ep/\es.toList=xs.map (entryOfKey (tupleKind (wd P w)))/\(xs.map (·.1)).Nodup
 |.set S n=>h.SetOf (intKind P w) a S n
 |.ins C dx fs=>H dx=some (.own a)/\fs.length≤1000/\dx≠a/\h.get? a=some (PySem.W.instObj C dx) ∧
   ∃mA,h.Ns1 dx mA/\(∀f,Nb (fs.lookup f) (mA f))/\PySem.Within mA (fs.map (·.1))
 |.own _=>∃o,h.get? a=some o
 |.xd fs=>∃mA,h.Ns1 a mA/\∀f,Nb (fs.lookup f) (mA f)
 |.FD lo hi=>∃t u v,h.get? a=some { cls:=.type "range",data:=.fields #[.int lo t,.int hi u,.int 1 v]}
 |.iO o u=>h.get? a=some o/\fX H h a u
 |.wz ps=>h.get? a=some { cls:=.none,data:=.fields ps }
 |.met f x=>h.get? a=some (PySem.W.methodObj (.ref f) (.ref x))
 |.ext φ=>φ h/\(∃o,h.get? a=some o)/\∀h1 h2:Heap,φ h1->(∀o,h1.get? a=some o->h2.get? a=some o)->φ h2
def kc(H:Hp)(h:Heap):Prop:=∀a o,H a=some o->fX P w H h a o
end
section
variable {P:aw} {w:aG} {H H':Hp} {h h':Heap} {a:η} {o:HO}
theorem fX.lt(x:fX P w H h a o):a<h.objs.size:=by
 cases o with
 |lst xs=>obtain⟨_,_,_,_,e⟩:=x;exact Heap.lt_size e
 |tup xs=>obtain⟨_,_,_,p⟩:=x;exact p.lt
 |dK kvs=>obtain⟨_,_,_,_,o,_,_,e,_⟩:=x;exact Heap.lt_size e
 |dT kvs=>obtain⟨_,_,_,_,o,_,_,e,_⟩:=x;exact Heap.lt_size e
 |set S n=>obtain⟨o,_,_,_,e,_⟩:=x;exact Heap.lt_size e
 |ins C dx fs=>obtain⟨_,_,_,e,_⟩:=x;exact Heap.lt_size e
 |own y=>obtain⟨_,e⟩:=x;exact Heap.lt_size e
 |xd fs=>obtain⟨_,⟨_,_,_,e,_⟩,_⟩:=x;exact Heap.lt_size e
 |FD lo hi=>obtain⟨_,_,_,e⟩:=x;exact Heap.lt_size e
 |iO ob u=>obtain⟨e,_⟩:=x;exact Heap.lt_size e
 |wz ps=>exact Heap.lt_size (show h.get? a=some _ from x)
 |met f y=>exact Heap.lt_size (show h.get? a=some _ from x)
 |ext φ=>obtain⟨_,⟨_,e⟩,_⟩:=x;exact Heap.lt_size e
theorem Paired.MD{α β:Type}{F G:α->β->Prop}:∀{l₁:List α} {l₂:List β},Paired F l₁ l₂->(∀a b,F a b->G a b)->Paired G l₁ l₂
 |_,_,.nil,_=>.nil
 |_,_,.cons r t,f=>.cons (f _ _ r) (Paired.MD t f)
theorem fX.sE(x:fX P w H h a o)(k:∀b u,(b=a∨H b=some (.own a))->h.get? b=some u->h'.get? b=some u)
  (ho:∀b,H b=some (.own a)->H' b=some (.own a)) (ht:∀b xs,H b=some (.tup xs)->H' b=some (.tup xs)):fX P w H' h' a o:=by
 induction o with
 |lst xs=>obtain⟨z,its,n,r,e⟩:=x;exact⟨z,its,n,r,k _ _ (.inl rfl) e⟩
 |tup xs=>obtain⟨z,its,r,ob,e,c⟩:=x;exact⟨z,its,r,ob,k _ _ (.inl rfl) e,c⟩
 |dK kvs=>obtain⟨z,y,vs,r,ob,es,ep,e,c⟩:=x;exact⟨z,y,vs,r,ob,es,ep,k _ _ (.inl rfl) e,c⟩
 |dT kvs=>
  obtain⟨z,y,xs,r,ob,es,ep,e,c⟩:=x;exact⟨z,y,xs,Paired.MD r fun p q z=>⟨z.1,ht _ _ z.2.1,z.2.2⟩,ob,es,ep,k _ _ (.inl rfl) e,c⟩
 |set S n=>obtain⟨ob,es,ep,t,e,c⟩:=x;exact⟨ob,es,ep,t,k _ _ (.inl rfl) e,c⟩
 |ins C dx fs=>
  obtain⟨d,z,ne,e,mA,⟨od,es,ep,e2,c⟩,r⟩:=x;exact⟨ho _ d,z,ne,k _ _ (.inl rfl) e,mA,⟨od,es,ep,k _ _ (.inr d) e2,c⟩,r⟩
 |own y=>obtain⟨ob,e⟩:=x;exact⟨ob,k _ _ (.inl rfl) e⟩
 |xd fs=>obtain⟨mA,⟨od,es,ep,e,c⟩,r⟩:=x;exact⟨mA,⟨od,es,ep,k _ _ (.inl rfl) e,c⟩,r⟩
 |FD lo hi=>obtain⟨t,u,v,e⟩:=x;exact⟨t,u,v,k _ _ (.inl rfl) e⟩
 |iO ob u ih=>obtain⟨e,q⟩:=x;exact⟨k _ _ (.inl rfl) e,ih q⟩
 |wz ps=>
  have e:h.get? a=some { cls:=.none,data:=.fields ps }:=x;show h'.get? a=some { cls:=.none,data:=.fields ps };exact k a _ (.inl rfl) e
 |met f y=>
  have e:h.get? a=some (PySem.W.methodObj (.ref f) (.ref y)):=x;show h'.get? a=some (PySem.W.methodObj (.ref f) (.ref y));exact k a _ (.inl rfl) e
 |ext φ=>obtain⟨p,⟨o,e⟩,st⟩:=x;exact⟨st _ _ p fun o q=>k _ _ (.inl rfl) q,⟨o,k _ _ (.inl rfl) e⟩,st⟩
theorem kc.lt(x:kc P w H h)(e:H a=some o):a<h.objs.size:=(x a o e).lt
theorem kc.fresh(x:kc P w H h)(e:h.objs.size≤a):H a=none:=by
 cases q:H a with
 |none=>rfl
 |some u=>exact absurd (bK (x.lt q) e) (cU _)
theorem kc.kept(x:kc P w H h)(k:∀b u,h.get? b=some u->h'.get? b=some u):kc P w H h':=fun a o e=>
 (x a o e).sE (fun b u _ q=>k b u q) (fun _ q=>q) fun _ _ q=>q
theorem kc.laid(x:kc P w H h)(k:∀b u,h.get? b=some u->h'.get? b=some u)(hp:h.objs.size≤a)(new:fX P w (upd H a o) h' a o):kc P w (upd H a o) h':=fun b u e=>by
 have hn:=x.fresh hp;by_cases hb:b=a
 ·subst hb;rw[jW] at e;cases e;exact new
 ·rw[fi hb] at e;exact (x b u e).sE (fun c v _ q=>k c v q) (fun c q=>by rw[fi (mU q hn)];exact q) fun c xs q=>by rw[fi (mU q hn)];exact q
end
def Rd(H:Hp)(a:η)(u:HO):Prop:=H a=some u∨∃o,H a=some (.iO o u)
theorem Rd.ok{P:aw}{w:aG}{H:Hp}{h:Heap}{a:η}{u:HO}(r:Rd H a u)(x:kc P w H h):fX P w H h a u:=by
 rcases r with r|⟨o,r⟩
 ·exact x a u r
 ·obtain⟨_,q⟩:=x a _ r;exact q
def Df:Option HO->Prop
 |some (.lst _)=>True
 |some (.dK _)=>True
 |some (.dT _)=>True
 |some (.set _ _)=>True
 |some (.ins _ _ _)=>True
 |some (.ext _)=>True
 |_=>False
section
variable {P:aw} {w:aG} {H:Hp} {h h':Heap} {x e:η} {o':HO}
theorem kc.write(ok:kc P w H h)(mu:Df (H x))(he:e=x∨H e=some (.own x))(k:∀b u,b≠e->h.get? b=some u->h'.get? b=some u)(heo:∃u,h'.get? e=some u)
  (new:fX P w (upd H x o') h' x o'):kc P w (upd H x o') h':=fun b u q=>by
 have nown:∀c y,H c=some (.own y)->c≠x:=fun c y r z=>by subst z;rw[r] at mu;exact mu
 have ntup:∀c xs,H c=some (.tup xs)->c≠x:=fun c xs r z=>by subst z;rw[r] at mu;exact mu
 by_cases hb:b=x
 ·subst hb;rw[jW] at q;cases q;exact new
 ·rw[fi hb] at q;by_cases hbe:b=e
  ·have q':H b=some (.own x):=by
    rcases he with z|z
    ·exact absurd (hbe.trans z) hb
    ·rw[hbe];exact z
   rw[q] at q';cases q';obtain⟨v,hv⟩:=heo;exact⟨v,by rw[hbe];exact hv⟩
  ·refine (ok b u q).sE (fun c v hc r=>k c v ?_ r) (fun c r=>by rw[fi (nown c b r)];exact r) fun c xs r=>by rw[fi (ntup c xs r)];exact r
   rcases hc with rfl|hc
   ·exact hbe
   ·rintro rfl;rcases he with z|z
    ·exact nown c b hc z
    ·rw[hc] at z;cases z;exact hb rfl
end
structure Un(fs ex:List η)(H H':Hp)(h h':Heap):Prop where
 keep:∀b o,h.get? b=some o->H b=none->b∉fs->b∉ex->h'.get? b=some o
 slot:∀b o,h.get? b=some o->H b=none->b∈fs->b∉ex->∃sl,h'.get? b=some { o with slots:=sl }
 free:∀b o,h.get? b=some o->H b=none->b∉ex->H' b=none
 there:∀b o,h.get? b=some o->b∉ex->∃o',h'.get? b=some o'
 mO:∀b xs,H b=some (.tup xs)->H' b=some (.tup xs)
 rS:∀b o u,H b=some (.iO o u)->H' b=some (.iO o u)
 sD:∀b ps,H b=some (.wz ps)->∃more,H' b=some (.wz (ps++more))
section
variable {fs fs' ex ex':List η} {H H1 H2:Hp} {h h1 h2 h':Heap} {a x e:η} {o:HO}
theorem Un.any(u:Un fs ex H H1 h h1){b:η}{ob:br}(q:h.get? b=some ob)(n:H b=none)(hx:b∉ex):∃sl,h1.get? b=some { ob with slots:=sl }:=by
 by_cases hb:b∈fs
 ·exact u.slot b ob q n hb hx
 ·exact⟨ob.slots,u.keep b ob q n hb hx⟩
theorem Un.kept(k:∀b u,h.get? b=some u->h'.get? b=some u):Un fs ex H H h h':=
 ⟨fun b ob q _ _ _=>k b ob q,fun b ob q _ _ _=>⟨ob.slots,k b ob q⟩,fun _ _ _ n _=>n,fun b ob q _=>⟨ob,k b ob q⟩,fun _ _ q=>q,fun _ _ _ q=>q,fun _ ps q=>⟨#[],by rw[q];simp⟩⟩
theorem Un.refl:Un fs ex H H h h:=Un.kept fun _ _ q=>q
theorem Un.laid(k:∀b u,h.get? b=some u->h'.get? b=some u)(hp:h.objs.size≤a)(hn:H a=none):Un fs ex H (upd H a o) h h' where
 keep:=fun b u q _ _ _=>k b u q
 slot:=fun b u q _ _ _=>⟨u.slots,k b u q⟩
 free:=fun b u q n _=>by rw[fi (aX (bK (Heap.lt_size q) hp))];exact n
 there:=fun b u q _=>⟨u,k b u q⟩
 mO:=fun b xs q=>by rw[fi (mU q hn)];exact q
 rS:=fun b u xs q=>by rw[fi (mU q hn)];exact q
 sD:=fun b ps q=>⟨#[],by rw[fi (mU q hn),q];simp⟩
theorem Un.write(mu:Df (H x))(he:e=x∨H e=some (.own x))(k:∀b u,b≠e->h.get? b=some u->h'.get? b=some u)(heo:∃u,h'.get? e=some u):Un fs ex H (upd H x o) h h':=by
 have hx:∀b,H b=none->b≠x:=fun b n z=>by subst z;rw[n] at mu;exact mu
 have hb:∀b,H b=none->b≠e:=fun b n z=>by
  subst z;rcases he with r|r
  ·exact hx b n r
  ·rw[n] at r;cases r
 have hm:∀b u,H b=some u->¬Df (some u)->b≠x:=fun b u q nm z=>by subst z;rw[q] at mu;exact nm mu
 refine⟨fun b u q n _ _=>k b u (hb b n) q,fun b u q n _ _=>⟨u.slots,k b u (hb b n) q⟩,fun b u q n _=>by rw[fi (hx b n)];exact n,fun b u q _=>?_,
  fun b xs q=>by rw[fi (hm b _ q fun z=>z)];exact q,fun b u xs q=>by rw[fi (hm b _ q fun z=>z)];exact q,fun b ps q=>⟨#[],by rw[fi (hm b _ q fun z=>z),q];simp⟩⟩
 by_cases hbe:b=e
 ·subst hbe;exact heo
 ·exact⟨u,k b u hbe q⟩
end
def pT(h:Heap)(H:Hp):List η:=(av h.objs.size).filter fun a=>(H a).isSome
def rO(h:Heap)(H:Hp):Heap:=PySem.W.hideAll h (pT h H)
theorem Wy(h:Heap)(H:Hp):(rO h H).objs.size=h.objs.size:=PySem.W.hideAll_size _ _
theorem WN{h:Heap}{H:Hp}{b:η}{o:br}(e:h.get? b=some o)(n:H b=none):(rO h H).get? b=some o:=
 PySem.W.hideAll_get _ e fun hm=>by
  have q:(H b).isSome=true:=(iF.mp hm).2;rw[n] at q;simp at q
theorem WM{h:Heap}{H:Hp}{b:η}{o:br}(e:(rO h H).get? b=some o):h.get? b=some o/\H b=none:=by
 have e':h.get? b=some o:=PySem.W.of_hideAll (pT h H) e;refine⟨e',?_⟩;cases q:H b with
 |none=>rfl
 |some x=>
  have hm:b∈pT h H:=iF.mpr ⟨cm.mpr (Heap.lt_size e'),by simp[q]⟩;have z:(rO h H).get? b=none:=PySem.W.hideAll_none (pT h H) hm;rw[z] at e;cases e
end L2
namespace L2
open PySem PySem.Spec PyProof.Rows
structure Mod(K:PySem.W.Frag)(mg:Ξ->Option δ)(base:Heap):Prop where
 Gk:K.In base
 glob:base.Ns bH mg
 blt:∃mb,base.Ns builtinsNs mb/\∀x:Ξ,x≠"__name__"->mb x=g6 x
 nolimit:base.NoLimit
structure Cx where
 prog:aw
 w:aG
 K:PySem.W.Frag
 mg:Ξ->Option δ
 base:Heap
 A:aR
 N:List Ξ
 s₀:ζ
 H₀:Hp
 env:jk
 outer:List jk
 stack:List jk
 ex:List η
 fn:Ξ->Bool
 calm:Bool
 pn:List (η×br)
 xe:δ->ζ->Prop
def sY(l:List jk):List η:=l.filterMap (·.frame)
abbrev Cx.fs(X:Cx):List η:=sY X.outer
def GI(sc:iE)(x:Ξ):Prop:=sc.names.lookup x=some .local∨sc.names.lookup x=some .cell∨sc.names.lookup x=some .free
def Loc(sc:iE)(x:Ξ):Prop:=sc.names.lookup x=some .local∨sc.names.lookup x=some .cell
def Look(env:jk)(h:Heap)(m:Ξ->Option δ)(x:Ξ)(u:δ):Prop:=
 (env.kindOf x=some .local/\m x=some u)∨((env.kindOf x=some .cell∨env.kindOf x=some .free)/\∃c,env.cells.lookup x=some c/\h.IsCell c (some u))
structure Cx.Ok(X:Cx):Prop where
 mod:Mod X.K X.mg X.base
 kind:X.env.scope.kind=.function
 glob:X.env.globals=bH
 blt:X.env.builtins=builtinsNs
 above:X.s₀.heap.objs.size≤X.env.locals
 inj:∀x y c,X.env.cells.lookup x=some c->X.env.cells.lookup y=some c->x=y
 has:∀x,(X.env.kindOf x=some .cell∨X.env.kindOf x=some .free)->∃c,X.env.cells.lookup x=some c
 zo:∀x c,X.fn x=true->X.env.cells.lookup x=some c->X.s₀.heap.objs.size≤c
 hd:X.calm=true->X.A.handled=none
 frames:X.A.frames=some X.stack
 CI:X.stack=X.outer∨(X.stack=X.env::X.outer/\X.env.frame=some X.env.locals)
 C7:∀b∈X.ex,b≠X.env.locals/\∀x c,X.env.cells.lookup x=some c->c≠b
 bs:∀b o,X.base.get? b=some o->X.s₀.heap.get? b=some o/\X.H₀ b=none
 vm:X.base.objs.size≤X.s₀.heap.objs.size
 uG:∀b o,X.base.get? b=some o->b∉X.ex
 wu:∀b∈X.ex,b∉X.fs
 nN:X.s₀.heap.FunFrames X.base X.outer
 yC:∀b∈X.fs,X.H₀ b=none
structure Inv(X:Cx)(pins:List (η×br))(σ:List (Option V))(H:Hp)(s:ζ):Prop where
 ok:X.Ok
 os:s.os=X.s₀.os
 bare:lN s.gens
 base:Un X.fs X.ex X.H₀ H X.s₀.heap s.heap
 loc:∃m,s.heap.Ns X.env.locals m/\∀(i:Nat) (x:Ξ) (v:V),X.N[i]?=some x->σ[i]?=some (some v)->GI X.env.scope x->∃u,RelV v u/\Look X.env s.heap m x u
 cell:∀x c,X.env.cells.lookup x=some c->∃v,s.heap.IsCell c v
 free:H X.env.locals=none
 m9:∀x c,X.env.cells.lookup x=some c->H c=none
 pin:∀p∈X.pn++pins,s.heap.get? p.1=some p.2/\H p.1=none/\p.1≠X.env.locals/\p.1∉X.fs/\∀v,p.2.data≠.cell v
 cB:kc X.prog X.w H s.heap
 len:σ.length=X.N.length
section
variable {X:Cx} {pins:List (η×br)} {σ:List (Option V)} {H H':Hp} {s:ζ} {h':Heap}
theorem Cx.Ok.aaA(ok:X.Ok){b:η}{o:br}(e:X.base.get? b=some o):b∉X.fs:=fun hb=>by
 have:=(ok.nN.mem hb).1;rw[e] at this;cases this
theorem Inv.bs(I:Inv X pins σ H s):∀b o,X.base.get? b=some o->s.heap.get? b=some o/\H b=none:=fun b o e=>
 ⟨I.base.keep b o (I.ok.bs b o e).1 (I.ok.bs b o e).2 (I.ok.aaA e) (I.ok.uG b o e),I.base.free b o (I.ok.bs b o e).1 (I.ok.bs b o e).2 (I.ok.uG b o e)⟩
theorem Inv.bk(I:Inv X pins σ H s):∀b o,X.base.get? b=some o->s.heap.get? b=some o:=fun b o e=>(I.bs b o e).1
theorem Inv.mod(I:Inv X pins σ H s):Mod X.K X.mg X.base:=I.ok.mod
theorem Inv.oi(I:Inv X pins σ H s):X.K.In s.heap:=I.ok.mod.Gk.keeps I.bk
theorem Inv.lt(I:Inv X pins σ H s):X.env.locals<s.heap.objs.size:=let ⟨_,hn,_⟩:=I.loc;hn.lt
theorem Inv.sz(I:Inv X pins σ H s):X.s₀.heap.objs.size≤s.heap.objs.size:=aD I.ok.above (ki I.lt)
theorem Inv.aaz(I:Inv X pins σ H s){a:η}(h:s.heap.objs.size≤a):a∉X.fs:=fun hb=>by
 obtain⟨_,o,ho,_⟩:=I.ok.nN.mem hb;exact absurd (bK (Heap.lt_size ho) (aD I.sz h)) (cU _)
theorem Inv.yE(I:Inv X pins σ H s):∀x c,X.env.cells.lookup x=some c->c≠X.env.locals:=fun x c e z=>by
 obtain⟨v,o,ho,hd⟩:=I.cell x c e;obtain⟨m,⟨o',es,ep,ho',hd',_⟩,_⟩:=I.loc;rw[z,ho'] at ho;cases ho;rw[hd'] at hd;cases hd
theorem Inv.nN(I:Inv X pins σ H s):s.heap.FunFrames X.base X.outer:=by
 have all:∀(l:List jk),(∀b∈sY l,b∈X.fs)->X.s₀.heap.FunFrames X.base l->s.heap.FunFrames X.base l:=by
  intro l
  induction l with
  |nil=>intro _ _;trivial
  |cons env r ih=>
   intro hs hl;obtain⟨hk,⟨L,o,hf,hn,ho,hd⟩,hr⟩:=hl;have hL:L∈X.fs:=hs L (by unfold sY;rw[mM,hf];exact ο);obtain⟨sl,e⟩:=I.base.slot L o ho (I.ok.yC L hL) hL fun z=>I.ok.wu L z hL;exact⟨hk,⟨L,_,hf,hn,e,hd⟩,ih (fun b hb=>hs b (by unfold sY;rw[mM,hf];exact χ _ hb)) hr⟩
 exact all X.outer (fun _ hb=>hb) I.ok.nN
theorem Inv.stack(I:Inv X pins σ H s):s.heap.FunFrames X.base X.stack:=by
 rcases I.ok.CI with e|⟨e,hf⟩
 ·rw[e];exact I.nN
 ·rw[e];obtain⟨m,hn,_⟩:=I.loc;refine .cons (by rw[I.ok.kind];decide) hf hn ?_ I.nN;exact Heap.get?_none_of_le (aD I.ok.vm I.ok.above)
theorem Inv.xi(I:Inv X pins σ H s):∀b∈sY X.stack,b∈X.env.locals::X.fs:=fun b hb=>by
 rcases I.ok.CI with e|⟨e,hf⟩
 ·rw[e] at hb;exact χ _ hb
 ·rw[e] at hb;unfold sY at hb;rw[mM,hf] at hb;exact hb
theorem Inv.yY(I:Inv X pins σ H s):∀b∈sY X.stack,H b=none:=fun b hb=>by
 rcases ay.mp (I.xi b hb) with e|hb
 ·rw[e];exact I.free
 ·obtain⟨_,o,ho,_⟩:=I.ok.nN.mem hb;exact I.base.free b o ho (I.ok.yC b hb) fun z=>I.ok.wu b z hb
theorem Inv.step{g':Array GenState}{t':Nat}{d':Drawn}{ch:List η}(I:Inv X pins σ H s)
  (t6:∀b∈ch,(b∈X.ex∨X.s₀.heap.objs.size≤b)/\b≠X.env.locals/\(∀x c,X.env.cells.lookup x=some c->c≠b)/\∀p∈X.pn++pins,p.1≠b)
  (keep:∀b o,b≠X.env.locals->b∉X.fs->b∉ch->s.heap.get? b=some o->H b=none->h'.get? b=some o)
  (slot:∀b o,b≠X.env.locals->b∈X.fs->b∉ch->s.heap.get? b=some o->H b=none->∃sl,h'.get? b=some { o with slots:=sl }) (free:∀b o,b∉ch->s.heap.get? b=some o->H b=none->H' b=none)
  (there:∀b o,b∉ch->s.heap.get? b=some o->∃o',h'.get? b=some o')
  (mO:∀b xs,H b=some (.tup xs)->H' b=some (.tup xs)) (rS:∀b o u,H b=some (.iO o u)->H' b=some (.iO o u)) (sD:∀b ps,H b=some (.wz ps)->∃more,H' b=some (.wz (ps++more)))
  (ns:∀m,s.heap.Ns X.env.locals m->h'.Ns X.env.locals m) (cB:kc X.prog X.w H' h') (hg:lN g'):
  Inv X pins σ H' { s with heap:=h',gens:=g',drawn:=d',toks:=t' }:=by
 have neL:∀b o,X.s₀.heap.get? b=some o->b≠X.env.locals:=fun b o e=>aX (bK (Heap.lt_size e) I.ok.above);have neC:∀b o,X.s₀.heap.get? b=some o->b∉X.ex->b∉ch:=fun b o e hx hb=>by
  rcases (t6 b hb).1 with z|z
  ·exact hx z
  ·exact absurd (bK (Heap.lt_size e) z) (cU _)
 have cellK:∀x c,X.env.cells.lookup x=some c->∀v,s.heap.IsCell c v->h'.IsCell c v:=fun x c e v ⟨o,ho,hd⟩=>by
  have nch:c∉ch:=fun z=>(t6 c z).2.2.1 x c e rfl;by_cases hc:c∈X.fs
  ·obtain⟨sl,q⟩:=slot c o (I.yE x c e) hc nch ho (I.m9 x c e);exact⟨_,q,hd⟩
  ·exact⟨o,keep c o (I.yE x c e) hc nch ho (I.m9 x c e),hd⟩
 refine⟨I.ok,I.os,hg,⟨fun b o e n hb hx=>?_,fun b o e n hb hx=>?_,fun b o e n hx=>?_,fun b o e hx=>?_,fun b xs e=>mO b xs (I.base.mO b xs e),fun b o xs e=>rS b o xs (I.base.rS b o xs e),fun b ps e=>?_⟩,?_,fun x c e=>?_,?_,fun x c e=>?_,fun p hp=>?_,cB,I.len⟩
 ·exact keep b o (neL b o e) hb (neC b o e hx) (I.base.keep b o e n hb hx) (I.base.free b o e n hx)
 ·obtain⟨sl,e1⟩:=I.base.slot b o e n hb hx;obtain⟨sl',e2⟩:=slot b _ (neL b o e) hb (neC b o e hx) e1 (I.base.free b o e n hx);exact⟨sl',e2⟩
 ·obtain⟨o',e1⟩:=I.base.there b o e hx;exact free b o' (neC b o e hx) e1 (I.base.free b o e n hx)
 ·obtain⟨o',e1⟩:=I.base.there b o e hx;exact there b o' (neC b o e hx) e1
 ·obtain⟨m1,e1⟩:=I.base.sD b ps e;obtain⟨m2,e2⟩:=sD b _ e1;exact⟨m1++m2,by rw[e2,Array.append_assoc]⟩
 ·obtain⟨m,hn,hl⟩:=I.loc;refine⟨m,ns m hn,fun i x v e1 e2 e3=>?_⟩;obtain⟨u,r,l⟩:=hl i x v e1 e2 e3;refine⟨u,r,?_⟩;rcases l with l|⟨k,c,e,z⟩
  ·exact .inl l
  ·exact .inr ⟨k,c,e,cellK x c e _ z⟩
 ·obtain⟨v,z⟩:=I.cell x c e;exact⟨v,cellK x c e v z⟩
 ·obtain⟨m,⟨o,_,_,ho,_⟩,_⟩:=I.loc;exact free _ o (fun z=>(t6 _ z).2.1 rfl) ho I.free
 ·obtain⟨v,o,ho,hd⟩:=I.cell x c e;exact free c o (fun z=>(t6 c z).2.2.1 x c e rfl) ho (I.m9 x c e)
 ·obtain⟨e,n,ne,nf,d⟩:=I.pin p hp;have nch:p.1∉ch:=fun z=>(t6 p.1 z).2.2.2 p hp rfl;exact⟨keep p.1 p.2 ne nf nch e n,free p.1 p.2 nch e n,ne,nf,d⟩
theorem Inv.un{t':Nat}(I:Inv X pins σ H s)(u:Un X.fs [] H H' s.heap h')(cB:kc X.prog X.w H' h'):Inv X pins σ H' { s with heap:=h',toks:=t' }:=by
 obtain⟨m,⟨o,es,ep,ho,r⟩,_⟩:=id I.loc;obtain⟨sl,hL⟩:=u.any ho I.free (by simp);exact I.step (g':=s.gens) (d':=s.drawn) (ch:=[]) (fun _ z=>nomatch z) (fun b o _ hb _ e n=>u.keep b o e n hb (by simp)) (fun b o _ hb _ e n=>u.slot b o e n hb (by simp)) (fun b o _ e n=>u.free b o e n (by simp)) (fun b o _ e=>u.there b o e (by simp)) u.mO u.rS u.sD (fun m' hm=>by
  obtain⟨o',es',ep',ho',r'⟩:=hm;rw[ho] at ho';cases ho';exact⟨_,es',ep',hL,r'⟩) cB I.bare
theorem Inv.call{g':Array GenState}{t':Nat}{d':Drawn}{ch:List η}(I:Inv X pins σ H s)(u:Un (sY X.stack) ch H H' s.heap h')(cB:kc X.prog X.w H' h')(hg:lN g')
  (t6:∀b∈ch,(b∈X.ex∨X.s₀.heap.objs.size≤b)/\b≠X.env.locals/\(∀x c,X.env.cells.lookup x=some c->c≠b)/\∀p∈X.pn++pins,p.1≠b):
  Inv X pins σ H' { s with heap:=h',gens:=g',drawn:=d',toks:=t' }:=by
 obtain⟨m,⟨o,es,ep,ho,r⟩,_⟩:=id I.loc;obtain⟨sl,hL⟩:=u.any ho I.free fun z=>(t6 _ z).2.1 rfl;exact I.step (ch:=ch) t6 (fun b o hL hb hc e n=>u.keep b o e n (fun z=>(ay.mp (I.xi b z)).elim hL hb) hc) (fun b o _ _ hc e n=>u.any e n hc) (fun b o hc e n=>u.free b o e n hc) (fun b o hc e=>u.there b o e hc) u.mO u.rS u.sD (fun m' hm=>by
  obtain⟨o',es',ep',ho',r'⟩:=hm;rw[ho] at ho';cases ho';exact⟨_,es',ep',hL,r'⟩) cB hg
theorem Inv.turned{t':Nat}{it:η}(I:Inv X pins σ H s)(k:∀b o,b≠it->s.heap.get? b=some o->h'.get? b=some o)(hn:H it=none)(hL:it≠X.env.locals)
  (h1:it∈X.ex∨X.s₀.heap.objs.size≤it) (h2:∀x c,X.env.cells.lookup x=some c->c≠it) (h3:∀p∈X.pn++pins,p.1≠it):Inv X pins σ H { s with heap:=h',toks:=t' }:=by
 have nit:∀b u,H b=some u->b≠it:=fun b u e z=>by rw[z,hn] at e;cases e
 refine I.step (g':=s.gens) (d':=s.drawn) (ch:=[it]) (fun b hb=>?_) (fun b o _ _ hc e _=>k b o (fun z=>hc (by simp[z])) e) (fun b o _ _ hc e _=>⟨o.slots,k b o (fun z=>hc (by simp[z])) e⟩) (fun _ _ _ _ n=>n)
  (fun b o hc e=>⟨o,k b o (fun z=>hc (by simp[z])) e⟩) (fun _ _ e=>e) (fun _ _ _ e=>e) (fun b ps e=>⟨#[],by rw[e];simp⟩) (fun m hm=>?_) (fun b u e=>?_) I.bare
 ·have e:b=it:=by simpa using hb
  subst e;exact⟨h1,hL,h2,h3⟩
 ·obtain⟨o,es,ep,ho,r⟩:=hm;exact⟨o,es,ep,k _ o (eU hL) ho,r⟩
 ·refine (I.cB b u e).sE (fun c v hc q=>k c v ?_ q) (fun _ q=>q) fun _ _ q=>q;rcases hc with z|z
  ·rw[z];exact nit b u e
  ·exact nit c _ z
theorem Inv.tok(I:Inv X pins σ H s)(t:Nat):Inv X pins σ H { s with toks:=t }:=I.un (h':=s.heap) (t':=t) Un.refl I.cB
theorem Inv.kept{t':Nat}(I:Inv X pins σ H s)(k:∀b u,s.heap.get? b=some u->h'.get? b=some u):Inv X pins σ H { s with heap:=h',toks:=t' }:=I.un (Un.kept k) (I.cB.kept k)
theorem Inv.laid{a:η}{o:HO}{t':Nat}(I:Inv X pins σ H s)(k:∀b u,s.heap.get? b=some u->h'.get? b=some u)(hp:s.heap.objs.size≤a)(new:fX X.prog X.w (upd H a o) h' a o):
  Inv X pins σ (upd H a o) { s with heap:=h',toks:=t' }:=I.un (Un.laid k hp (I.cB.fresh hp)) (I.cB.laid k hp new)
theorem Inv.write{x e:η}{o:HO}{t':Nat}(I:Inv X pins σ H s)(mu:Df (H x))(he:e=x∨H e=some (.own x))(k:∀b u,b≠e->s.heap.get? b=some u->h'.get? b=some u)(heo:∃u,h'.get? e=some u)
  (new:fX X.prog X.w (upd H x o) h' x o):Inv X pins σ (upd H x o) { s with heap:=h',toks:=t' }:=I.un (Un.write mu he k heo) (I.cB.write mu he k heo new)
theorem Inv.zf{pins':List (η×br)}(I:Inv X pins σ H s)(h:∀p∈pins',s.heap.get? p.1=some p.2/\H p.1=none/\p.1≠X.env.locals/\p.1∉X.fs/\∀v,p.2.data≠.cell v):Inv X pins' σ H s:=
 ⟨I.ok,I.os,I.bare,I.base,I.loc,I.cell,I.free,I.m9,fun p hp=>(ar.mp hp).elim (fun z=>I.pin p (aM _ z)) (h p),I.cB,I.len⟩
theorem Mj{N:List Ξ}(hN:N.Nodup){i j:Nat}{x:Ξ}(a:N[i]?=some x)(b:N[j]?=some x):i=j:=by
 obtain⟨h1,e1⟩:=Φ.mp a;obtain⟨h2,e2⟩:=Φ.mp b;exact (List.getElem_inj hN).mp (e1.trans e2.symm)
theorem Mi{M:Model}{A:aR}{E:δ->ζ->Prop}{i:Nat}{x:Ξ}{v:V}{u:δ}{Q:Unit->ζ->Prop}(I:Inv X pins σ H s)(hN:X.N.Nodup)(hi:X.N[i]?=some x)(hx:Loc X.env.scope x)(r:RelV v u)
  (h:∀s',Inv X pins (σ.set i (some v)) H s'->(∃a,Heap.SameBut a s.heap s'.heap/\(a=X.env.locals∨X.env.cells.lookup x=some a))->Q () s') (hf:X.fn x=true∨X.env.scope.names.lookup x=some .local:=by first|exact .inl rfl|exact .inr rfl|assumption):π M A (storeName X.env x u) Q E s:=by
 obtain⟨m,hn,hl⟩:=id I.loc;have hcls:(X.env.scope.kind==.class||(X.env.scope.kind==.module&&X.env.locals != X.env.globals))=false:=by rw[I.ok.kind];rfl
 have hiσ:i<σ.length:=by rw[I.len];exact (Φ.mp hi).1
 have yE:=I.yE;have tracked:∀{a:η} {h':Heap},(∃o,s.heap.get? a=some o/\H a=none)->Heap.SameBut a s.heap h'->kc X.prog X.w H h':=fun {a h'} ha hs b ob e=>by
  obtain⟨_,_,hfree⟩:=ha;refine (I.cB b ob e).sE (fun c w' hc q=>(hs.2 c ?_).trans q) (fun _ q=>q) fun _ _ q=>q;rintro rfl;rcases hc with rfl|hc
  ·rw[hfree] at e;cases e
  ·rw[hfree] at hc;cases hc
 rcases hx with hk|hk
 ·refine wpAny_storeName_local hk hn (fun h' hn' hs=>?_) hcls;obtain⟨oL,_,_,hoL,_⟩:=id hn;refine h _ ⟨I.ok,I.os,I.bare,⟨fun b o e n hb hx=>?_,fun b o e n hb hx=>?_,I.base.free,fun b o e hx=>?_,I.base.mO,I.base.rS,I.base.sD⟩,⟨_,hn',fun j y v' e1 e2 e3=>?_⟩,fun y c e=>?_,I.free,I.m9,fun p hp=>?_,tracked ⟨oL,hoL,I.free⟩ hs,by simpa using I.len⟩ ⟨_,hs,.inl rfl⟩
  ·exact (hs.2 b (aX (bK (Heap.lt_size e) I.ok.above))).trans (I.base.keep b o e n hb hx)
  ·obtain⟨sl,e1⟩:=I.base.slot b o e n hb hx;exact⟨sl,(hs.2 b (aX (bK (Heap.lt_size e) I.ok.above))).trans e1⟩
  ·obtain⟨o',e1⟩:=I.base.there b o e hx;exact⟨o',(hs.2 b (aX (bK (Heap.lt_size e) I.ok.above))).trans e1⟩
  ·by_cases hj:j=i
   ·subst hj;rw[hi] at e1;cases e1;rw[kT hiσ] at e2;cases e2;exact⟨u,r,.inl ⟨hk,by simp⟩⟩
   ·rw[mD (eU hj)] at e2;obtain⟨u',r',q⟩:=hl j y v' e1 e2 e3;refine⟨u',r',?_⟩;rcases q with⟨k,e⟩|⟨k,c,e,z⟩
    ·refine .inl ⟨k,?_⟩;have:y≠x:=fun e=>hj (Mj hN e1 (e▸hi));simp[this,e]
    ·exact .inr ⟨k,c,e,z.sameBut hs (yE y c e)⟩
  ·obtain⟨w',z⟩:=I.cell y c e;exact⟨w',z.sameBut hs (yE y c e)⟩
  ·obtain⟨e,n,ne,nf,d⟩:=I.pin p hp;exact⟨(hs.2 p.1 ne).trans e,n,ne,nf,d⟩
 ·have hfn:X.fn x=true:=by
   rcases hf with z|z
   ·exact z
   ·rw[z] at hk;cases hk
  obtain⟨c,hc⟩:=I.ok.has x (.inl hk);obtain⟨w',z⟩:=I.cell x c hc;refine wpAny_storeName_cell I.ok.kind hk hc z (fun h' hc' hs=>?_);obtain⟨oc,hoc,hocd⟩:=id z;refine h { s with heap:=h' } ⟨I.ok,I.os,I.bare,⟨fun b o e n hb hx=>?_,fun b o e n hb hx=>?_,I.base.free,fun b o e hx=>?_,I.base.mO,I.base.rS,I.base.sD⟩,⟨m,hn.sameBut hs (eU (yE x c hc)),fun j y v' e1 e2 e3=>?_⟩,fun y c' e=>?_,I.free,I.m9,fun p hp=>?_,tracked ⟨oc,hoc,I.m9 x c hc⟩ hs,by simpa using I.len⟩ ⟨c,hs,.inr hc⟩
  ·exact (hs.2 b (aX (bK (Heap.lt_size e) (I.ok.zo x c hfn hc)))).trans (I.base.keep b o e n hb hx)
  ·obtain⟨sl,e1⟩:=I.base.slot b o e n hb hx;exact⟨sl,(hs.2 b (aX (bK (Heap.lt_size e) (I.ok.zo x c hfn hc)))).trans e1⟩
  ·obtain⟨o',e1⟩:=I.base.there b o e hx;exact⟨o',(hs.2 b (aX (bK (Heap.lt_size e) (I.ok.zo x c hfn hc)))).trans e1⟩
  ·by_cases hj:j=i
   ·subst hj;rw[hi] at e1;cases e1;rw[kT hiσ] at e2;cases e2;exact⟨u,r,.inr ⟨.inl hk,c,hc,hc'⟩⟩
   ·rw[mD (eU hj)] at e2;obtain⟨u',r',q⟩:=hl j y v' e1 e2 e3;refine⟨u',r',?_⟩;rcases q with q|⟨k,c',e,z'⟩
    ·exact .inl q
    ·refine .inr ⟨k,c',e,z'.sameBut hs ?_⟩;rintro rfl;exact hj (Mj hN e1 (I.ok.inj _ _ _ e hc▸hi))
  ·by_cases hcc:c'=c
   ·subst hcc;exact⟨_,hc'⟩
   ·obtain⟨w2,z2⟩:=I.cell y c' e;exact⟨w2,z2.sameBut hs hcc⟩
  ·obtain⟨e,n,ne,nf,d⟩:=I.pin p hp;refine⟨(hs.2 p.1 ?_).trans e,n,ne,nf,d⟩;intro q;rw[q,hoc] at e;have q':oc=p.2:=aA e;exact d w' (by rw[←q'];exact hocd)
theorem yg{M:Model}{A:aR}{E:δ->ζ->Prop}{i:Nat}{x:Ξ}{v:V}{u:δ}{Q:Unit->ζ->Prop}(I:Inv X pins σ H s)(hN:X.N.Nodup)(hi:X.N[i]?=some x)(hx:Loc X.env.scope x)(r:RelV v u)
  (h:∀s',Inv X pins (σ.set i (some v)) H s'->Q () s') (hf:X.fn x=true∨X.env.scope.names.lookup x=some .local:=by first|exact .inl rfl|exact .inr rfl|assumption):π M A (storeName X.env x u) Q E s:=
 Mi I hN hi hx r (fun s' I' _=>h s' I') hf
theorem Inv.N7{s':ζ}{ch:List η}(I:Inv X pins σ H s)(ho:s'.os=s.os)(u:Un (sY X.stack) ch H H' s.heap s'.heap)(cB:kc X.prog X.w H' s'.heap)(hg:lN s'.gens)
  (t6:∀b∈ch,(b∈X.ex∨X.s₀.heap.objs.size≤b)/\b≠X.env.locals/\(∀x c,X.env.cells.lookup x=some c->c≠b)/\∀p∈X.pn++pins,p.1≠b):Inv X pins σ H' s':=by
 obtain⟨h',g',d',t',o'⟩:=s';have e:o'=s.os:=ho;subst e;exact I.call (g':=g') (t':=t') (d':=d') u cB hg t6
end
abbrev XK:=δ->Option η->Hp->Prop
abbrev St:=List (Option V)
abbrev VK:=V->Hp->Prop
abbrev TE:=St->Hp->VK->Prop
abbrev TT:=St->Hp->(Bool->Hp->Prop)->Prop
abbrev TA:=St->Hp->(List V->Hp->Prop)->Prop
structure Ends where
 nx:St->Hp->Prop
 rt:VK
 bk:St->Hp->Prop:=fun _ _=>False
 ct:St->Hp->Prop:=fun _ _=>False
abbrev TS:=Ends->St->Hp->Prop
def EP(X:Cx)(pins:List (η×br))(σ:St)(Q:VK)(u:δ)(s':ζ):Prop:=∃v H',Inv X pins σ H' s'/\RelV v u/\Q v H'
def TP(X:Cx)(pins:List (η×br))(σ:St)(Q:Bool->Hp->Prop)(b:Bool)(s':ζ):Prop:=∃H',Inv X pins σ H' s'/\Q b H'
def AP(X:Cx)(pins:List (η×br))(σ:St)(Q:List V->Hp->Prop)(us:List δ)(s':ζ):Prop:=∃vs H',Inv X pins σ H' s'/\bo vs us/\Q vs H'
def SP(X:Cx)(pins:List (η×br))(D:Ends)(f:Flow)(s':ζ):Prop:=
 match f with
 |.next=>∃σ' H',Inv X pins σ' H' s'/\D.nx σ' H'
 |.brk=>∃σ' H',Inv X pins σ' H' s'/\D.bk σ' H'
 |.cont=>∃σ' H',Inv X pins σ' H' s'/\D.ct σ' H'
 |.ret u=>∃v σ' H',Inv X pins σ' H' s'/\RelV v u/\D.rt v H'
def PE(X:Cx)(e:ρ)(t:TE):Prop:=
 ∀(pins:List (η×br)) (s:ζ) (σ:St) (H:Hp) (Q:VK),Inv X pins σ H s->t σ H Q->π (model X.prog X.w) X.A (eval e X.env) (EP X pins σ Q) X.xe s
def PT(X:Cx)(e:ρ)(t:TT):Prop:=
 ∀(pins:List (η×br)) (s:ζ) (σ:St) (H:Hp) (Q:Bool->Hp->Prop),Inv X pins σ H s->t σ H Q->π (model X.prog X.w) X.A (isTrue e X.env (eval e X.env)) (TP X pins σ Q) X.xe s
def PW(X:Cx)(e:ρ)(t:TT):Prop:=
 ∀(whole:Sem δ) (pins:List (η×br)) (s:ζ) (σ:St) (H:Hp) (Q:Bool->Hp->Prop),Inv X pins σ H s->t σ H Q->π (model X.prog X.w) X.A (isTrue e X.env whole) (TP X pins σ Q) X.xe s
theorem PW.pt{X:Cx}{e:ρ}{t:TT}(h:PW X e t):PT X e t:=h _
def PA(X:Cx)(es:List ρ)(t:TA):Prop:=
 ∀(pos:aP) (pins:List (η×br)) (s:ζ) (σ:St) (H:Hp) (Q:List V->Hp->Prop),Inv X pins σ H s->t σ H Q->π (model X.prog X.w) X.A (spliced (backTo pos (b8 es X.env))) (AP X pins σ Q) X.xe s
def PS(X:Cx)(st:bp)(t:TS):Prop:=
 ∀(pins:List (η×br)) (s:ζ) (σ:St) (H:Hp) (D:Ends),Inv X pins σ H s->t D σ H->π (model X.prog X.w) X.A (exec st X.env) (SP X pins D) X.xe s
def om(X:Cx)(st:List bp)(t:TS):Prop:=
 ∀(pins:List (η×br)) (s:ζ) (σ:St) (H:Hp) (D:Ends),Inv X pins σ H s->t D σ H->π (model X.prog X.w) X.A (execs st X.env) (SP X pins D) X.xe s
theorem bP{α:Type}{t:Sem α}{Q Q':α->ζ->Prop}{M:Model}{A:aR}{E:δ->ζ->Prop}{s:ζ}(h:π M A t Q E s)(hQ:∀a s,Q a s->Q' a s):π M A t Q' E s:=ee h hQ fun _ _ x=>x
end L2
namespace L2
open PySem PySem.Spec PyProof.Rows
section
variable {X:Cx}
theorem bin{a b:ρ}{ta tb:TE}(ha:PE X a ta)(hb:PE X b tb){pins:List (η×br)}{s:ζ}{σ:St}{H:Hp}{R:V->V->Hp->Prop}(I:Inv X pins σ H s)(h:ta σ H fun x H1=>tb σ H1 fun y H2=>R x y H2)
  {α:Type} {Q:α->ζ->Prop} {f:δ->δ->Sem α}
  (hf:∀v u s2 x y H2,Inv X pins σ H2 s2->RelV x v->RelV y u->R x y H2->π (model X.prog X.w) X.A (f v u) Q X.xe s2):
  π (model X.prog X.w) X.A (eval a X.env) (fun v s₁=>π (model X.prog X.w) X.A (eval b X.env) (fun u s₂=>π (model X.prog X.w) X.A (f v u) Q X.xe s₂) X.xe s₁) X.xe s:=by
 refine bP (ha pins s σ H _ I h) fun v s1 ⟨x,H1,I1,r1,q1⟩=>?_;refine bP (hb pins s1 σ H1 _ I1 q1) fun u s2 ⟨y,H2,I2,r2,q2⟩=>?_;exact hf v u s2 x y H2 I2 r1 r2 q2
def zr(i:Nat):TE:=fun σ H Q=>∃v,σ[i]?=some (some v)/\Q v H
def tC(v:V):TE:=fun _ H Q=>Q v H
theorem WL{i:Nat}{x:Ξ}{pos:aP}(hN:X.N[i]?=some x)(hv:GI X.env.scope x)(hd:(x==("__debug__":Ξ))=false:=by decide)(qS:(x==("__classdict__":Ξ))=false:=by decide):PE X (.Name x pos) (zr i):=by
 intro pins s σ H Q I h;obtain⟨v,e,h⟩:=h;obtain⟨m,hn,hl⟩:=I.loc;obtain⟨u,r,l⟩:=hl i x v hN e hv;have fin:EP X pins σ Q u s:=⟨v,H,I,r,h⟩;rcases l with⟨hk,hm⟩|⟨hk,c,hc,hcell⟩
 ·exact wpAny_Name (wpAny_loadName_local I.ok.kind hk hn hm fin) hd
 ·rcases hk with hk|hk
  ·exact wpAny_Name (wpAny_loadName_cell I.ok.kind hk hc hcell fin) hd
  ·exact wpAny_Name (wpAny_loadName_free I.ok.kind hk hc hcell fin qS) hd
theorem WK{i j pos}:PE X (.Constant (.int i) j pos) (tC (.int i)):=fun _ _ _ H _ I h=>wpAny_Constant_int ⟨.int i,H,I.tok _,⟨_,rfl⟩,h⟩
theorem WJ{b j pos}:PE X (.Constant (.bool b) j pos) (tC (.bl b)):=fun _ _ _ H _ I h=>Constant_bool ⟨.bl b,H,I,rfl,h⟩
theorem WI{j pos}:PE X (.Constant .none j pos) (tC .aF):=fun _ _ _ H _ I h=>Constant_none ⟨.aF,H,I,rfl,h⟩
def Gl(X:Cx)(x:Ξ):Prop:=X.env.kindOf x=some .globalImplicit
theorem Mh{E:δ->ζ->Prop}{pins:List (η×br)}{s:ζ}{σ:St}{H:Hp}{x:Ξ}{u:δ}{pos:aP}{Q:δ->ζ->Prop}(I:Inv X pins σ H s)(hg:Gl X x)(hm:X.mg x=some u)(h:Q u s)
  (hd:(x==("__debug__":Ξ))=false:=by decide):π (model X.prog X.w) X.A (eval (.Name x pos) X.env) Q E s:=
 nX I.ok.kind hg (Calls.loadGlobal_global (by rw[I.ok.glob];exact I.mod.glob.keeps I.bk) hm h) hd
theorem uC{E:δ->ζ->Prop}{pins:List (η×br)}{s:ζ}{σ:St}{H:Hp}{x:Ξ}{u:δ}{pos:aP}{Q:δ->ζ->Prop}(I:Inv X pins σ H s)(hg:Gl X x)(hm:X.mg x=none)(hv:g6 x=some u)(h:Q u s)
  (hn:x≠"__name__":=by decide) (hd:(x==("__debug__":Ξ))=false:=by decide):π (model X.prog X.w) X.A (eval (.Name x pos) X.env) Q E s:=by
 obtain⟨mb,h1,h2⟩:=I.mod.blt;exact nX I.ok.kind hg (Calls.loadGlobal_builtin (by rw[I.ok.glob];exact I.mod.glob.keeps I.bk) hm (by rw[I.ok.blt];exact h1.keeps I.bk) ((h2 x hn).trans hv) h) hd
theorem WH{x:Ξ}{v:V}{u:δ}{pos:aP}(hg:Gl X x)(hm:X.mg x=some u)(r:RelV v u)(hd:(x==("__debug__":Ξ))=false:=by decide):PE X (.Name x pos) (tC v):=
 fun _ _ _ H _ I h=>Mh I hg hm ⟨v,H,I,r,h⟩ hd
theorem WG{x:Ξ}{v:V}{u:δ}{pos:aP}(hg:Gl X x)(hm:X.mg x=none)(hv:g6 x=some u)(r:RelV v u)(hn:x≠"__name__":=by decide)(hd:(x==("__debug__":Ξ))=false:=by decide):PE X (.Name x pos) (tC v):=
 fun _ _ _ H _ I h=>uC I hg hm hv ⟨v,H,I,r,h⟩ hn hd
variable {a b:ρ} {ta tb:TE} {pos:aP}
variable {tA tB':TT} {rest:List ρ}
def OL(t u:TT):TT:=fun σ H Q=>t σ H fun c H1=>if c=true then u σ H1 Q else Q false H1
def tOr(t u:TT):TT:=fun σ H Q=>t σ H fun c H1=>if c=true then Q true H1 else u σ H1 Q
def OF(t:TT):TT:=fun σ H Q=>t σ H fun c H1=>Q (!c) H1
theorem pw_and1(ha:PT X a tA):PW X (.BoolOp .And [a] pos) tA:=by
 intro wh pins s σ H Q I h;refine isTrue_and (bP (ha pins s σ H Q I h) fun c s1 e=>?_);cases c with
 |true=>exact isTrue_and_nil e
 |false=>exact e
theorem pw_or1(ha:PT X a tA):PW X (.BoolOp .Or [a] pos) tA:=by
 intro wh pins s σ H Q I h;refine isTrue_or (bP (ha pins s σ H Q I h) fun c s1 e=>?_);cases c with
 |false=>exact isTrue_or_nil e
 |true=>exact e
theorem pw_and(ha:PT X a tA)(hb:PW X (.BoolOp .And (b::rest) pos) tB'):PW X (.BoolOp .And (a::b::rest) pos) (OL tA tB'):=by
 intro wh pins s σ H Q I h;refine isTrue_and (bP (ha pins s σ H _ I h) fun c s1 ⟨H1,I1,q1⟩=>?_);cases c with
 |true=>exact hb wh pins s1 σ H1 Q I1 q1
 |false=>exact⟨H1,I1,q1⟩
theorem pw_or(ha:PT X a tA)(hb:PW X (.BoolOp .Or (b::rest) pos) tB'):PW X (.BoolOp .Or (a::b::rest) pos) (tOr tA tB'):=by
 intro wh pins s σ H Q I h;refine isTrue_or (bP (ha pins s σ H _ I h) fun c s1 ⟨H1,I1,q1⟩=>?_);cases c with
 |true=>exact⟨H1,I1,q1⟩
 |false=>exact hb wh pins s1 σ H1 Q I1 q1
theorem WE(ha:PT X a tA):PT X (.UnaryOp .Not a pos) (OF tA):=by
 intro pins s σ H Q I h;exact isTrue_not (ha pins s σ H (fun c H1=>Q (!c) H1) I h)
def Nx(ta tb:TE):TE:=fun σ H Q=>ta σ H fun x H1=>∃c,x=.bl c/\if c=true then tb σ H1 Q else Q (.bl false) H1
def OE(ta tb:TE):TE:=fun σ H Q=>ta σ H fun x H1=>∃c,x=.bl c/\if c=true then Q (.bl true) H1 else tb σ H1 Q
def Nr(ta:TE):TE:=fun σ H Q=>ta σ H fun x H1=>∃c,x=.bl c/\Q (.bl (!c)) H1
theorem WD{op}{t:TE}(h:PE X a t):PE X (.BoolOp op [a] pos) t:=fun pins s σ H Q I hw=>BoolOp_one (h pins s σ H Q I hw)
theorem Wn(ha:PE X a ta)(hb:PE X (.BoolOp .And (b::rest) pos) tb):PE X (.BoolOp .And (a::b::rest) pos) (Nx ta tb):=by
 intro pins s σ H Q I h;refine BoolOp_and (bP (ha pins s σ H _ I h) fun v s1 ⟨x,H1,I1,r1,q1⟩=>?_);obtain⟨c,rfl,q1⟩:=q1;cases r1;refine eZ ?_;cases c with
 |true=>exact hb pins s1 σ H1 Q I1 q1
 |false=>exact⟨.bl false,H1,I1,rfl,q1⟩
theorem Wm(ha:PE X a ta)(hb:PE X (.BoolOp .Or (b::rest) pos) tb):PE X (.BoolOp .Or (a::b::rest) pos) (OE ta tb):=by
 intro pins s σ H Q I h;refine BoolOp_or (bP (ha pins s σ H _ I h) fun v s1 ⟨x,H1,I1,r1,q1⟩=>?_);obtain⟨c,rfl,q1⟩:=q1;cases r1;refine eZ ?_;cases c with
 |false=>exact hb pins s1 σ H1 Q I1 q1
 |true=>exact⟨.bl true,H1,I1,rfl,q1⟩
theorem Wl(ha:PE X a ta):PE X (.UnaryOp .Not a pos) (Nr ta):=by
 intro pins s σ H Q I h;refine UnaryOp_ (bP (ha pins s σ H _ I h) fun v s1 ⟨x,H1,I1,r1,q1⟩=>?_);obtain⟨c,rfl,q1⟩:=q1;cases r1;exact not_of (eZ ⟨.bl (!c),H1,I1,rfl,q1⟩)
end
end L2
namespace L2
open PySem PySem.Spec PyProof.Rows
def eN(K:PySem.W.Frag)(H:Hp)(a:η)(xs:List V):Prop:=
 Rd H a (.lst xs) ∨
  ∃(o:br) (its:Array δ) (n:Nat),K.lookup a=some o/\o.cls=.type "list"/\o.dict=none/\o.data=.seq its n/\its.size≤ao/\bo xs its.toList
def cK(K:PySem.W.Frag)(H:Hp)(a:η)(xs:List V):Prop:=
 Rd H a (.tup xs) ∨
  ∃(o:br) (its:Array δ) (n:Nat),K.lookup a=some o/\o.cls=.type "tuple"/\o.dict=none/\o.data=.seq its n/\its.size≤ao/\bo xs its.toList
def aa4:δ->Option V
 |.none=>some .aF
 |.bool b=>some (.bl b)
 |.int i _=>some (.int i)
 |.str x _=>some (.str x)
 |.bytes b _=>some (.Dc b)
 |.float b _=>some (.MY b)
 |.ref a=>some (.ref a)
 |.type n=>some (.ty n)
 |_=>none
theorem RelV.abs{x:V}{u:δ}(r:RelV x u):aa4 u=some x:=by
 cases x with
 |aF=>cases r;rfl
 |bl _=>cases r;rfl
 |int _=>obtain⟨t,rfl⟩:=r;rfl
 |str _=>obtain⟨t,rfl⟩:=r;rfl
 |Dc _=>obtain⟨t,rfl⟩:=r;rfl
 |MY _=>obtain⟨t,rfl⟩:=r;rfl
 |ref _=>cases r;rfl
 |ty _=>cases r;rfl
theorem RelV.inj{x y:V}{u:δ}(r:RelV x u)(q:RelV y u):x=y:=aA (r.abs.symm.trans q.abs)
theorem bo.inj:∀{xs ys:List V} {us:List δ},bo xs us->bo ys us->xs=ys
 |_,_,_,.nil,.nil=>rfl
 |_,_,_,.cons r t,.cons r' t'=>by rw[r.inj r',bo.inj t t']
section
variable {X:Cx} {pins:List (η×br)} {σ:St} {H:Hp} {s:ζ} {a:η} {xs ys:List V}
theorem eN.of{K:PySem.W.Frag}(h:H a=some (.lst xs)):eN K H a xs:=.inl (.inl h)
theorem cK.of{K:PySem.W.Frag}(h:H a=some (.tup xs)):cK K H a xs:=.inl (.inl h)
theorem Inv.list(I:Inv X pins σ H s)(h:eN X.K H a xs):∃its:List δ,bo xs its/\PlainL s.heap a its.toArray/\xs.length≤ao:=by
 rcases h with h|⟨o,its,n,hk,hc,hd,hs,hz,r⟩
 ·obtain⟨z,its,n,r,e⟩:=h.ok I.cB;exact⟨its,r,⟨_,n,e,rfl,rfl,rfl⟩,z⟩
 ·refine⟨its.toList,r,⟨o,n,I.oi a o hk,hc,hd,by simpa using hs⟩,?_⟩;have e:=r.length;simp only[aS] at e;lia
theorem Inv.tuple(I:Inv X pins σ H s)(h:cK X.K H a xs):∃its:List δ,bo xs its/\gS s.heap a its.toArray/\xs.length≤ao:=by
 rcases h with h|⟨o,its,n,hk,hc,_,hs,hz,r⟩
 ·obtain⟨z,its,r,p⟩:=h.ok I.cB;exact⟨its,r,p.tup,z⟩
 ·refine⟨its.toList,r,⟨o,I.oi a o hk,hc,n,by simpa using hs⟩,?_⟩;have e:=r.length;simp only[aS] at e;lia
theorem Inv.yw(I:Inv X pins σ H s)(h:eN X.K H a xs)(h':eN X.K H a ys):xs=ys:=by
 obtain⟨its,r,⟨o,n,e,_,_,d⟩,_⟩:=I.list h;obtain⟨its',r',⟨o',n',e',_,_,d'⟩,_⟩:=I.list h';rw[e] at e';cases e';rw[d] at d';injection d' with d1 _
 have:its=its':=by simpa using congrArg mG d1
 subst this;exact r.inj r'
theorem Inv.wy(I:Inv X pins σ H s)(h:cK X.K H a xs)(h':cK X.K H a ys):xs=ys:=by
 obtain⟨its,r,⟨o,e,_,n,d⟩,_⟩:=I.tuple h;obtain⟨its',r',⟨o',e',_,n',d'⟩,_⟩:=I.tuple h';rw[e] at e';cases e';rw[d] at d';injection d' with d1 _
 have:its=its':=by simpa using congrArg mG d1
 subst this;exact r.inj r'
end
abbrev Cx.qh(X:Cx)(E:δ->ζ->Prop):Cx:={ X with xe:=E }
abbrev Cx.zg(X:Cx):Cx:=X.qh fun _ _=>False
theorem Cx.Ok.qh{X:Cx}(ok:X.Ok)(E:δ->ζ->Prop):(X.qh E).Ok:=
 ⟨ok.mod,ok.kind,ok.glob,ok.blt,ok.above,ok.inj,ok.has,ok.zo,ok.hd,ok.frames,ok.CI,ok.C7,ok.bs,ok.vm,ok.uG,ok.wu,ok.nN,ok.yC⟩
theorem Cx.Ok.nj{X:Cx}{E:δ->ζ->Prop}(ok:(X.qh E).Ok):X.Ok:=
 ⟨ok.mod,ok.kind,ok.glob,ok.blt,ok.above,ok.inj,ok.has,ok.zo,ok.hd,ok.frames,ok.CI,ok.C7,ok.bs,ok.vm,ok.uG,ok.wu,ok.nN,ok.yC⟩
section
variable {X:Cx} {pins:List (η×br)} {σ:St} {H:Hp} {s:ζ} {E:δ->ζ->Prop}
theorem Inv.qh(I:Inv X pins σ H s)(E:δ->ζ->Prop):Inv (X.qh E) pins σ H s:=⟨I.ok.qh E,I.os,I.bare,I.base,I.loc,I.cell,I.free,I.m9,I.pin,I.cB,I.len⟩
theorem Inv.nj(I:Inv (X.qh E) pins σ H s):Inv X pins σ H s:=⟨I.ok.nj,I.os,I.bare,I.base,I.loc,I.cell,I.free,I.m9,I.pin,I.cB,I.len⟩
theorem SP.nj{D:Ends}{f:Flow}{s':ζ}(h:SP (X.qh E) pins D f s'):SP X pins D f s':=by
 cases f with
 |next=>obtain⟨σ',H',I,q⟩:=h;exact⟨σ',H',I.nj,q⟩
 |brk=>obtain⟨σ',H',I,q⟩:=h;exact⟨σ',H',I.nj,q⟩
 |cont=>obtain⟨σ',H',I,q⟩:=h;exact⟨σ',H',I.nj,q⟩
 |ret u=>obtain⟨v,σ',H',I,r,q⟩:=h;exact⟨v,σ',H',I.nj,r,q⟩
theorem om.zg{st:List bp}{t:TS}(h:om X.zg st t):om X st t:=fun pins s σ H D I hw=>
 ee (h pins s σ H D (I.qh _) hw) (fun _ _ q=>q.nj) fun _ _ z=>gT z
end
section
variable {X:Cx} {st:bp} {rest:List bp} {t u:TS} {e:ρ} {te:TE} {pos:aP}
def Nt:TS:=fun D σ H=>D.nx σ H
def OC(t u:TS):TS:=fun D σ H=>t { D with nx:=u D } σ H
theorem Wk:om X [] Nt:=fun _ _ σ H _ I h=>mn ⟨σ,H,I,h⟩
theorem Wj(h1:PS X st t)(h2:om X rest u):om X (st::rest) (OC t u):=by
 intro pins s σ H D I h;refine wpAny_execs_cons (bP (h1 pins s σ H { D with nx:=u D } I h) fun f s1 q=>?_);cases f with
 |next=>
  obtain⟨σ',H',I',q⟩:=q;exact h2 pins s1 σ' H' D I' q
 |ret v=>exact q
 |brk=>exact q
 |cont=>exact q
theorem Wi(h1:PS X st t):om X [st] t:=by
 intro pins s σ H D I h;refine wpAny_execs_cons (bP (h1 pins s σ H D I h) fun f s1 q=>?_);cases f with
 |next=>exact mn q
 |ret v=>exact q
 |brk=>exact q
 |cont=>exact q
theorem Inv.quiet{pins:List (η×br)}{σ:St}{H:Hp}{s:ζ}(I:Inv X pins σ H s):interactive X.env=false:=by simp[interactive,I.ok.kind]
def Nu(te:TE):TS:=fun D σ H=>te σ H fun _ H1=>D.nx σ H1
theorem Wh(he:PE X e te)(hs:swapsWith e none pos.line X.env=pure false:=by rfl):PS X (.Expr e pos) (Nu te):=by
 intro pins s σ H D I h;exact wpAny_Expr_any (bP (he pins s σ H _ I h) fun v s1 ⟨x,H1,I1,r1,q1⟩=>⟨σ,H1,I1,q1⟩) I.quiet hs
def OD(te:TE):TS:=fun D σ H=>te σ H D.rt
theorem Wg(he:PE X e te):PS X (.Return (some e) pos) (OD te):=by
 intro pins s σ H D I h;exact wpAny_Return_some (bP (he pins s σ H _ I h) fun v s1 ⟨x,H1,I1,r1,q1⟩=>⟨x,σ,H1,I1,r1,q1⟩)
def OI(c:TT)(t u:TS):TS:=fun D σ H=>c σ H fun b H1=>if b=true then t D σ H1 else u D σ H1
theorem Wf{c:ρ}{a b:List bp}{tc:TT}(hc:PT X c tc)(ha:om X a t)(hb:om X b u):PS X (.If c a b pos) (OI tc t u):=by
 intro pins s σ H D I h;refine wpAny_If (bP (hc pins s σ H _ I h) fun d s1 ⟨H1,I1,q1⟩=>?_);cases d with
 |true=>exact ha pins s1 σ H1 D I1 q1
 |false=>exact hb pins s1 σ H1 D I1 q1
def HB:TS:=fun _ _ _=>False
theorem We:PS X st HB:=fun _ _ _ _ _ _ h=>h.elim
end
abbrev TG:=V->St->Hp->(St->Hp->Prop)->Prop
abbrev vn:=List V->St->Hp->(St->Hp->Prop)->Prop
def PG(X:Cx)(target:ρ)(t:TG):Prop:=
 ∀(pins:List (η×br)) (s:ζ) (σ:St) (H:Hp) (v:V) (u:δ) (Q:St->Hp->Prop),Inv X pins σ H s->RelV v u->t v σ H Q ->
  π (model X.prog X.w) X.A (assign target X.env u) (fun _ s'=>∃σ' H',Inv X pins σ' H' s'/\Q σ' H') X.xe s
def pg(X:Cx)(ts:List ρ)(t:vn):Prop:=
 ∀(pins:List (η×br)) (s:ζ) (σ:St) (H:Hp) (vs:List V) (us:List δ) (Q:St->Hp->Prop),Inv X pins σ H s->bo vs us->t vs σ H Q ->
  π (model X.prog X.w) X.A (assignInOrder ((assignEach ts X.env).map (·.2)) us) (fun _ s'=>∃σ' H',Inv X pins σ' H' s'/\Q σ' H') X.xe s
abbrev yG:=V->V->V->Hp->(Hp->Prop)->Prop
def Fs(X:Cx)(t:yG):Prop:=
 ∀(pins:List (η×br)) (s:ζ) (σ:St) (H:Hp) (o i v:V) (ov iv u:δ) (Q:Hp->Prop),Inv X pins σ H s->RelV o ov->RelV i iv->RelV v u->t o i v H Q ->
  π (model X.prog X.w) X.A (setItem ov iv u) (fun _ s'=>∃H',Inv X pins σ H' s'/\Q H') X.xe s
abbrev wJ:=V->V->Hp->VK->Prop
def De(X:Cx)(op:lu)(t:wJ):Prop:=
 ∀(pins:List (η×br)) (s:ζ) (σ:St) (H:Hp) (x y:V) (v u:δ) (Q:VK),Inv X pins σ H s->RelV x v->RelV y u->t x y H Q ->
  π (model X.prog X.w) X.A (inplaceOp op v u) (EP X pins σ Q) X.xe s
section
variable {X:Cx} {pos:aP}
def Bj(i:Nat):TG:=fun v σ H Q=>Q (σ.set i (some v)) H
theorem Wd{i:Nat}{x:Ξ}(hN:X.N.Nodup)(hi:X.N[i]?=some x)(hx:Loc X.env.scope x)(hf:X.fn x=true∨X.env.scope.names.lookup x=some .local:=by first|exact .inl rfl|exact .inr rfl|assumption):PG X (.Name x pos) (Bj i):=by
 intro pins s σ H v u Q I r h;exact wpAny_assign_Name (yg I hN hi hx r (fun s' I'=>⟨_,H,I',h⟩) hf)
def aaQ:vn:=fun vs σ H Q=>vs=[]/\Q σ H
def NZ(t:TG)(u:vn):vn:=fun vs σ H Q=>∃v r,vs=v::r/\t v σ H fun σ' H'=>u r σ' H' Q
theorem Wc:pg X [] aaQ:=by
 intro pins s σ H vs us Q I r h;obtain⟨e,h⟩:=h;subst e;cases r;exact assignInOrder_nil ⟨σ,H,I,h⟩
theorem Wb{e:ρ}{es:List ρ}{t:TG}{u:vn}(h1:PG X e t)(h2:pg X es u)
  (hs:(assignEach (e::es) X.env).map (·.2)=assign e X.env::(assignEach es X.env).map (·.2):=by rfl):pg X (e::es) (NZ t u):=by
 intro pins s σ H vs us Q I r h;obtain⟨v,vr,e1,h⟩:=h;subst e1;cases r with
 |cons r rr=>
  rw[hs];refine nz (bP (h1 pins s σ H _ _ _ I r h) fun _ s1 ⟨σ1,H1,I1,q1⟩=>?_);exact h2 pins s1 σ1 H1 _ _ Q I1 rr q1
def aaO(K:PySem.W.Frag)(n:Nat)(t:vn):TG:=fun v σ H Q=>∃a xs,v=.ref a/\cK K H a xs/\xs.length=n/\t xs σ H Q
theorem Wa{es:List ρ}{k:Nat}{t:vn}{n:Nat}(hc:X.calm=true)(h:pg X es t)
  (hn:(assignEach es X.env).length=n:=by rfl) (hst:(assignEach es X.env).findIdx? (·.1)=none:=by rfl):PG X (.Tuple es k pos) (aaO X.K n t):=by
 intro pins s σ H v u Q I r hw;obtain⟨a,xs,e1,hq,hl,hw⟩:=hw;subst e1;cases r;obtain⟨its,rv,ht,hz⟩:=I.tuple hq;refine assign_Tuple_tuple (I.ok.hd hc) ht (by simp[hn,←hl,rv.length]) hst fun h' hx=>?_;have I1:Inv X pins σ H { s with heap:=h' }:=I.kept (t':=s.toks) fun b o e=>hx b o (aX (Heap.lt_size e)) e
 exact h pins _ σ H xs _ Q I1 (by simpa using rv) hw
def aaP(to ti:TE)(t:yG):TG:=fun v σ H Q=>to σ H fun o H1=>ti σ H1 fun i H2=>t o i v H2 fun H3=>Q σ H3
theorem V9{o i:ρ}{to ti:TE}{t:yG}(ho:PE X o to)(hi:PE X i ti)(hs:Fs X t)
  (ha:∀v,assign (.Subscript o i pos) X.env v=(do
   let ov ←holding [v] (eval o X.env)
   let iv ←holding [v,ov] (eval i X.env)
   standAt pos
   holding [v,ov,iv] (setItem ov iv v)
   release [v,ov,iv] []):=by intro _;rfl):PG X (.Subscript o i pos) (aaP to ti t):=by
 intro pins s σ H v u Q I r h
 rw[ha]
 refine γ (cx (bP (ho pins s σ H _ I h) fun ov s1 ⟨x,H1,I1,r1,q1⟩=>?_))
 refine γ (cx (bP (hi pins s1 σ H1 _ I1 q1) fun iv s2 ⟨y,H2,I2,r2,q2⟩=>?_))
 refine γ (nQ (γ (cx (bP (hs pins s2 σ H2 x y v ov iv u _ I2 r1 r2 r q2) fun _ s3 ⟨H3,I3,q3⟩=>?_))))
 exact wpAny_release ⟨σ,H3,I3,q3⟩
def Di(te:TE)(g:TG):TS:=fun D σ H=>te σ H fun x H1=>g x σ H1 D.nx
theorem V8{tg e:ρ}{te:TE}{g:TG}(he:PE X e te)(hg:PG X tg g)(hs:swapsWithSole [tg] e pos.line X.env=pure false:=by rfl)(hw:swappedStores [tg] e X.env=pure none:=by rfl)
  (h1:(assignEach [tg] X.env).map (·.2)=[assign tg X.env]:=by rfl):PS X (.Assign [tg] e pos) (Di te g):=by
 intro pins s σ H D I h;refine wpAny_Assign_stores (bP (he pins s σ H _ I h) fun v s1 ⟨x,H1,I1,r1,q1⟩=>?_) hs hw;rw[h1];exact bP (hg pins s1 σ H1 x v _ I1 r1 q1) fun _ s2 q=>q
theorem V7{i:Nat}{x:Ξ}{e:ρ}{te:TE}{pos':aP}(hN:X.N.Nodup)(hi:X.N[i]?=some x)(hx:Loc X.env.scope x)(he:PE X e te)(hs:swapsWith e (some (.Name x pos')) pos.line X.env=pure false:=by rfl)(hf:X.fn x=true∨X.env.scope.names.lookup x=some .local:=by first|exact .inl rfl|exact .inr rfl|assumption):
  PS X (.Assign [.Name x pos'] e pos) (Di te (Bj i)):=by
 intro pins s σ H D I h;refine wpAny_Assign_Name (bP (he pins s σ H _ I h) fun v s1 ⟨y,H1,I1,r1,q1⟩=>?_) hs;exact yg I1 hN hi hx r1 (fun s2 I2=>⟨_,H1,I2,q1⟩) hf
def HA(i j:Nat)(ta:TA):TS:=fun D σ H=>ta σ H fun vs H1=>∃v w,vs=[v,w]/\D.nx ((σ.set i (some v)).set j (some w)) H1
theorem V6{i j:Nat}{x y:Ξ}{a b:ρ}{ta:TA}{px py pt:aP}{kt k2 pt2}(hc:X.calm=true)(hN:X.N.Nodup)(hi:X.N[i]?=some x)(hj:X.N[j]?=some y)(hij:i≠j)
  (hx:X.env.scope.names.lookup x=some .local) (hy:X.env.scope.names.lookup y=some .local) (ha:PA X [a,b] ta)
  (hw:swappedStores [.Tuple [.Name x px,.Name y py] kt pt] (.Tuple [a,b] k2 pt2) X.env=pure (some [x,y]))
  (hs:swapsWithSole [.Tuple [.Name x px,.Name y py] kt pt] (.Tuple [a,b] k2 pt2) pos.line X.env=pure false:=by rfl):
  PS X (.Assign [.Tuple [.Name x px,.Name y py] kt pt] (.Tuple [a,b] k2 pt2) pos) (HA i j ta):=by
 intro pins s σ H D I h;rw[exec_Assign_arm];refine γ (nQ ?_);rw[hs];refine γ (ι ?_);rw[if_neg (by decide)];refine γ (Tuple_ (bP (ha _ pins s σ H _ I h) fun us s1 ⟨vs,H1,I1,r1,q1⟩=>?_));obtain⟨v,w,e1,q1⟩:=q1;subst e1;obtain⟨u1,u2,rfl,rv,rw'⟩:∃u1 u2,us=[u1,u2]/\RelV v u1/\RelV w u2:=by
  cases r1 with
  |cons p q=>
   cases q with
   |cons p' q'=>
    cases q';exact⟨_,_,rfl,p,p'⟩
 refine bx ?_ (by show 2≤ao;decide);have I2:Inv X pins σ H1 { s1 with heap:=s1.heap.push { cls:=.type "tuple",data:=.seq [u1,u2].toArray }}:=I1.kept (t':=s1.toks) fun b o e=>Heap.get?_push_of_some _ e;rw[hw];refine γ (ι ?_);show π (model X.prog X.w) X.A (do rule "assign.swapped-stores";let items ←unpackItems (.ref s1.heap.objs.size) 2 none;assignInOrder [fun v=>bindName X.env y v,fun v=>bindName X.env x v] items.reverse;pure Flow.next) _ _ _
 refine γ (gQ (γ (unpackItems_tuple (items:=#[u1,u2]) (I.ok.hd hc) (gS.new s1.heap _) fun h' hx'=>?_)));have I3:=I2.kept (h':=h') (t':=s1.toks) fun b o e=>hx' b o (aX (Heap.lt_size e)) e;show π _ _ (assignInOrder [fun v=>bindName X.env y v,fun v=>bindName X.env x v] [u2,u1] >>= fun _=>pure Flow.next) _ _ _
 refine γ (nz (wpAny_bindName (yg I3 hN hj (.inl hy) rw' (fun s2 I4=>?_) (.inr hy))));refine nz (wpAny_bindName (yg I4 hN hi (.inl hx) rv (fun s3 I5=>assignInOrder_nil (ι ?_)) (.inr hx)));rw[List.set_comm _ _ (eU hij)] at I5;exact⟨_,H1,I5,q1⟩
def OK(i:Nat)(te:TE)(ti:wJ):TS:=fun D σ H=>∃x,σ[i]?=some (some x)/\te σ H fun y H1=>ti x y H1 fun z H2=>D.nx (σ.set i (some z)) H2
theorem V5{i:Nat}{x:Ξ}{e:ρ}{te:TE}{op:lu}{ti:wJ}{pos':aP}(hN:X.N.Nodup)(hi:X.N[i]?=some x)(hx:Loc X.env.scope x)(he:PE X e te)(ho:De X op ti)(hf:X.fn x=true∨X.env.scope.names.lookup x=some .local:=by first|exact .inl rfl|exact .inr rfl|assumption):
  PS X (.AugAssign (.Name x pos') op e pos) (OK i te ti):=by
 intro pins s σ H D I h;obtain⟨v,e1,h⟩:=h;obtain⟨m,hn,hl⟩:=I.loc;have vis:GI X.env.scope x:=by rcases hx with k|k;exact .inl k;exact .inr (.inl k)
 obtain⟨u,r,l⟩:=hl i x v hi e1 vis;refine wpAny_AugAssign_Name ?_;have go:π (model X.prog X.w) X.A (eval e X.env) (fun w s₂=>π (model X.prog X.w) X.A (inplaceOp op u w) (fun r s₃=>π (model X.prog X.w) X.A (storeName X.env x r) (fun _=>SP X pins D .next) X.xe s₃) X.xe s₂) X.xe s:=by
  refine bP (he pins s σ H _ I h) fun w s1 ⟨y,H1,I1,r1,q1⟩=>?_;refine bP (ho pins s1 σ H1 v y u w _ I1 r r1 q1) fun z s2 ⟨zv,H2,I2,r2,q2⟩=>?_;exact yg I2 hN hi hx r2 (fun s3 I3=>⟨_,H2,I3,q2⟩) hf
 rcases l with⟨hk,hm⟩|⟨hk,c,hc,hcell⟩
 ·exact wpAny_loadName_local I.ok.kind hk hn hm go
 ·rcases hk with hk|hk
  ·exact wpAny_loadName_cell I.ok.kind hk hc hcell go
  ·rcases hx with k|k
   ·have:X.env.scope.names.lookup x=some .free:=hk;rw[k] at this;cases this
   ·have:X.env.scope.names.lookup x=some .free:=hk;rw[k] at this;cases this
def Nw(to ti te:TE)(tget:V->V->Hp->VK->Prop)(tip:wJ)(tset:yG):TS:=fun D σ H=>to σ H fun o H1=>ti σ H1 fun i H2=>tget o i H2 fun x H3=>te σ H3 fun y H4=>tip x y H4 fun z H5=>tset o i z H5 fun H6=>D.nx σ H6
def Nc(X:Cx)(t:V->V->Hp->VK->Prop):Prop:=
 ∀(pins:List (η×br)) (s:ζ) (σ:St) (H:Hp) (o i:V) (ov iv:δ) (Q:VK),Inv X pins σ H s->RelV o ov->RelV i iv->t o i H Q ->
  π (model X.prog X.w) X.A (getItem ov iv) (EP X pins σ Q) X.xe s
theorem V4{o i e:ρ}{to ti te:TE}{tget:V->V->Hp->VK->Prop}{tip:wJ}{tset:yG}{op:lu}{tpos:aP}(ho:PE X o to)(hi:PE X i ti)(hg:Nc X tget)(he:PE X e te)(hp:De X op tip)(hs:Fs X tset)
  (ha:∀ov iv new,augStore i ov iv new=(do holding [new,ov,iv] (setItem ov iv new);release [new,ov,iv] [];pure .next):=by intros;rfl):PS X (.AugAssign (.Subscript o i tpos) op e pos) (Nw to ti te tget tip tset):=by
 intro pins s σ H D I h;refine wpAny_AugAssign_SubscriptAny (bP (ho pins s σ H _ I h) fun ov s1 ⟨x1,H1,I1,r1,q1⟩=>?_) ha;refine bP (hi pins s1 σ H1 _ I1 q1) fun iv s2 ⟨x2,H2,I2,r2,q2⟩=>?_;refine bP (hg pins s2 σ H2 x1 x2 ov iv _ I2 r1 r2 q2) fun old s3 ⟨x3,H3,I3,r3,q3⟩=>?_;refine bP (he pins s3 σ H3 _ I3 q3) fun v s4 ⟨x4,H4,I4,r4,q4⟩=>?_;refine bP (hp pins s4 σ H4 x3 x4 old v _ I4 r3 r4 q4) fun new s5 ⟨x5,H5,I5,r5,q5⟩=>?_;exact bP (hs pins s5 σ H5 x1 x2 x5 ov iv new _ I5 r1 r2 r5 q5) fun _ s6 ⟨H6,I6,q6⟩=>⟨σ,H6,I6,q6⟩
def Ou(f:Int->Int->Int):wJ:=fun x y H Q=>∃i j,x=.int i/\y=.int j/\Q (.int (f i j)) H
theorem Mg:De X .Add (Ou fun i j=>i+j):=by
 intro pins s σ H x y v u Q I r1 r2 h;obtain⟨i,j,e1,e2,q⟩:=h;subst e1;subst e2;obtain⟨t,rfl⟩:=r1;obtain⟨t',rfl⟩:=r2;exact iadd_int ⟨.int _,H,I.tok _,⟨_,rfl⟩,q⟩
end
section
variable {X:Cx} {pos:aP}
def Hz(c:TT)(tb:TS):TS:=fun D σ H=>∃W:Nat->St->Hp->Prop,(∃m,W m σ H)/\∀m σ H,W m σ H ->
 c σ H fun b H1=>if b=true then ∃N:St->Hp->Prop,(∀σ' H',N σ' H'->∃m',m' < m/\W m' σ' H')/\tb { D with nx:=N,ct:=N,bk:=D.nx } σ H1 else D.nx σ H1
theorem V2{c:ρ}{body:List bp}{tc:TT}{tb:TS}(hp:nB (model X.prog X.w) X.A X.env X.xe)(hc:PT X c tc)(hb:om X body tb):PS X (.While c body [] pos) (Hz tc tb):=by
 intro pins s σ H D I h;obtain⟨W,⟨m0,w0⟩,turn⟩:=h;refine wpAny_While (codeAny_whileLoop (fun n s'=>∃σ' H',Inv X pins σ' H' s'/\W n σ' H') ?_ m0 ⟨σ,H,I,w0⟩);rintro n s1 ⟨σ1,H1,I1,w1⟩;refine gA hp (bP (hc pins s1 σ1 H1 _ I1 (turn n σ1 H1 w1)) fun b s2 ⟨H2,I2,q2⟩=>?_);cases b with
 |true=>
  obtain⟨N,hN,q2⟩:=q2;rw[if_pos rfl];refine gA hp (bP (hb pins s2 σ1 H2 _ I2 q2) fun f s3 q3=>?_);cases f with
  |next=>
   obtain⟨σ3,H3,I3,n3⟩:=q3;obtain⟨m',hm,w3⟩:=hN σ3 H3 n3;exact⟨m',hm,σ3,H3,I3,w3⟩
  |cont=>
   obtain⟨σ3,H3,I3,n3⟩:=q3;obtain⟨m',hm,w3⟩:=hN σ3 H3 n3;exact⟨m',hm,σ3,H3,I3,w3⟩
  |brk=>exact q3
  |ret v=>exact q3
 |false=>
  rw[if_neg ak];exact mn ⟨σ1,H2,I2,q2⟩
end
structure It where
 go:Nat->Hp->Prop
 Fw:Nat->Hp->V->Hp->Prop
 stop:Nat->Hp->Prop
def kE(X:Cx)(pins:List (η×br))(H:Hp)(b:η):Prop:=
 H b=none/\b≠X.env.locals/\b∉X.fs/\(b∈X.ex∨X.s₀.heap.objs.size≤b)/\(∀x c,X.env.cells.lookup x=some c->c≠b)/\∀p∈X.pn++pins,p.1≠b
theorem Inv.rT{X:Cx}{pins:List (η×br)}{σ:St}{H H':Hp}{s:ζ}{b:η}(I:Inv X pins σ H s)(hb:s.heap.objs.size≤b)(hn:H' b=none):kE X pins H' b:=by
 refine⟨hn,b0 (bK I.lt hb),I.aaz hb,.inr (aD I.sz hb),fun x c e z=>?_,fun p hp z=>?_⟩
 ·obtain⟨v,q⟩:=I.cell x c e;exact absurd (bK q.lt (by rw[z];exact hb)) (cU _)
 ·exact absurd (bK (Heap.lt_size (I.pin p hp).1) (by rw[z];exact hb)) (cU _)
structure Turn(P:aw)(w:aG)(K:PySem.W.Frag)(tg:ρ)(J:It)(fp:List η)(it:η)(tn:Nat->Heap->Prop):Prop where
 mem:it∈fp
 obj:∀i h,tn i h->∀b∈fp,∃o,h.get? b=some o/\∀v,o.data≠.cell v
 keep:∀i h h',tn i h->(∀b∈fp,∀o,h.get? b=some o->h'.get? b=some o)->tn i h'
 item:∀(X:Cx),X.prog=P->X.w=w->X.K=K->X.calm=true->∀(i:Nat) (pins:List (η×br)) (s:ζ) (σ:St) (H:Hp) (E:δ->ζ->Prop),Inv X pins σ H s->(∀b∈fp,kE X pins H b)->tn i s.heap->J.go i H ->
  π (model P w) X.A (pyNext (.ref it)) (fun r s1=>∃u,r=some u ∧
   π (model P w) X.A (letOwnedTupleGo tg (.ref it) u) (fun _ s2=>∃x H',Inv X pins σ H' s2/\RelV x u/\J.Fw i H x H'/\tn (i+1) s2.heap/\∀b∈fp,H' b=none) E s1) E s
 done:∀(X:Cx),X.prog=P->X.w=w->X.K=K->X.calm=true->∀(i:Nat) (pins:List (η×br)) (s:ζ) (σ:St) (H:Hp) (E:δ->ζ->Prop),Inv X pins σ H s->(∀b∈fp,kE X pins H b)->tn i s.heap->J.stop i H ->
  π (model P w) X.A (pyNext (.ref it)) (fun r s1=>r=none/\Inv X pins σ H s1) E s
 self:∀(A:aR) (i:Nat) (s:ζ) (Q:δ->ζ->Prop) (E:δ->ζ->Prop),tn i s.heap->Q (.ref it) s->π (model P w) A (pyIter (.ref it)) Q E s
abbrev TI:=St->Hp->(It->Hp->Prop)->Prop
def GK(X:Cx)(pins:List (η×br))(σ:St)(tg:ρ)(R:It->Hp->Prop)(itv:δ)(s2:ζ):Prop:=
 ∃(it:η) (fp:List η) (tn:Nat->Heap->Prop) (J:It) (H':Hp),itv=.ref it/\Inv X pins σ H' s2/\Turn X.prog X.w X.K tg J fp it tn/\tn 0 s2.heap/\(∀b∈fp,kE X pins H' b)/\R J H'
def PI(X:Cx)(tg iter:ρ)(wi:TI):Prop:=
 ∀(pins:List (η×br)) (s:ζ) (σ:St) (H:Hp) (R:It->Hp->Prop),Inv X pins σ H s->wi σ H R ->
  π (model X.prog X.w) X.A (eval iter X.env) (fun v s1=>π (model X.prog X.w) X.A (pyIter v) (GK X pins σ tg R) X.xe s1) X.xe s
theorem yf{M:Model}{A:aR}{E:δ->ζ->Prop}{s:ζ}{tg:ρ}{it:η}{u:δ}{o:br}{n:String}{vs:Array δ}{Q:Unit->ζ->Prop}(ho:s.heap.get? it=some o)(hc:o.cls=.type n)(hd:o.data=.fields vs)
    (hn:["enumerate","zip","dict_itemiterator","dict_reverseitemiterator","odict_iterator","itertools.zip_longest","itertools.pairwise"].contains n=false) (hQ:Q () s):π M A (letOwnedTupleGo tg (.ref it) u) Q E s:=by
  unfold letOwnedTupleGo;cases tg<;>first
    |exact ι hQ
    | (cases u<;>first
        |exact ι hQ
        | (refine γ (r8 ho ?_)
           rw[hc,hd];show π M A (if (["enumerate","zip","dict_itemiterator","dict_reverseitemiterator","odict_iterator","itertools.zip_longest","itertools.pairwise"].contains n&&vs[0]?==some (rawInt _))=true then _ else _) Q E s;rw[if_neg (by intro h;rw[hn,Bool.false_and] at h;cases h)];exact ι hQ))
def Oy(K:PySem.W.Frag)(a:η):It:=
 ⟨fun i H=>∃xs x,eN K H a xs/\xs[i]?=some x,fun i H x H'=>H'=H/\∀xs,eN K H a xs->xs[i]?=some x,fun i H=>∃xs,eN K H a xs/\xs.length≤i⟩
def Ow(K:PySem.W.Frag)(a:η):It:=
 ⟨fun i H=>∃xs x,cK K H a xs/\xs[i]?=some x,fun i H x H'=>H'=H/\∀xs,cK K H a xs->xs[i]?=some x,fun i H=>∃xs,cK K H a xs/\xs.length≤i⟩
def Dg(lo:Int)(n:Nat):It:=⟨fun i _=>i<n,fun i H x H'=>H'=H/\x=.int (lo+i),fun i _=>n≤i⟩
theorem V1{P:aw}{w:aG}{K:PySem.W.Frag}{tg:ρ}(a it:η):Turn P w K tg (Oy K a) [it] it (fun i h=>h.IsListIter it a i) where
 mem:=by simp
 obj:=fun i h st b hb=>by
  have e:b=it:=by simpa using hb
  subst e;obtain⟨o,e,c,d⟩:=st;exact⟨o,e,fun v z=>by rw[d] at z;cases z⟩
 keep:=fun i h h' st k=>st.at fun o e=>k it (by simp) o e
 item:=by
  intro X hP hw hK hc i pins s σ H E I hf st hg;subst hP hw hK;obtain⟨xs,x,hq,hx⟩:=hg;obtain⟨its,rv,p,hz⟩:=I.list hq;obtain⟨u,hu,ru⟩:=rv.get hx;obtain⟨f0,f1,f2,f3,f4,f5⟩:=hf it (by simp);refine wpAny_pyNext_list_item st p.isList (x:=u) (by simpa using hu) fun h' st' sb=>?_;have I1:Inv X pins σ H { s with heap:=h' }:=I.turned (t':=s.toks) (fun b o hb e=>(sb.2 b hb).trans e) f0 f1 f3 f4 f5;obtain⟨o,e,c,d⟩:=id st';exact⟨u,rfl,yf (s:={ s with heap:=h' }) e c d (by decide) ⟨x,H,I1,ru,⟨rfl,fun ys hy=>by rw[I.yw hy hq];exact hx⟩,st',fun b hb=>(hf b hb).1⟩⟩
 done:=by
  intro X hP hw hK hc i pins s σ H E I hf st hg;subst hP hw hK;obtain⟨xs,hq,hx⟩:=hg;obtain⟨its,rv,p,hz⟩:=I.list hq;obtain⟨f0,f1,f2,f3,f4,f5⟩:=hf it (by simp);have hl:=rv.length;exact wpAny_pyNext_list_end (I.ok.hd hc) st p.isList (by simp;lia) fun h' eb=>⟨rfl,I.turned (t':=s.toks) (fun b o hb e=>eb b o hb e) f0 f1 f3 f4 f5⟩
 self:=fun _ _ _ _ _ st h=>wpAny_pyIter_listiter st h
theorem V0{P:aw}{w:aG}{K:PySem.W.Frag}{tg:ρ}(a it:η):Turn P w K tg (Ow K a) [it] it (fun i h=>h.IsTupleIter it a i) where
 mem:=by simp
 obj:=fun i h st b hb=>by
  have e:b=it:=by simpa using hb
  subst e;obtain⟨o,e,c,d⟩:=st;exact⟨o,e,fun v z=>by rw[d] at z;cases z⟩
 keep:=fun i h h' st k=>st.at fun o e=>k it (by simp) o e
 item:=by
  intro X hP hw hK hc i pins s σ H E I hf st hg;subst hP hw hK;obtain⟨xs,x,hq,hx⟩:=hg;obtain⟨its,rv,p,hz⟩:=I.tuple hq;obtain⟨u,hu,ru⟩:=rv.get hx;obtain⟨f0,f1,f2,f3,f4,f5⟩:=hf it (by simp);refine wpAny_pyNext_tuple_item st (show s.heap.IsTuple a its.toArray from p) (x:=u) (by simpa using hu) fun h' st' sb=>?_;have I1:Inv X pins σ H { s with heap:=h' }:=I.turned (t':=s.toks) (fun b o hb e=>(sb.2 b hb).trans e) f0 f1 f3 f4 f5;obtain⟨o,e,c,d⟩:=id st';exact⟨u,rfl,yf (s:={ s with heap:=h' }) e c d (by decide) ⟨x,H,I1,ru,⟨rfl,fun ys hy=>by rw[I.wy hy hq];exact hx⟩,st',fun b hb=>(hf b hb).1⟩⟩
 done:=by
  intro X hP hw hK hc i pins s σ H E I hf st hg;subst hP hw hK;obtain⟨xs,hq,hx⟩:=hg;obtain⟨its,rv,p,hz⟩:=I.tuple hq;obtain⟨f0,f1,f2,f3,f4,f5⟩:=hf it (by simp);have hl:=rv.length;exact wpAny_pyNext_tuple_end (I.ok.hd hc) st (show s.heap.IsTuple a its.toArray from p) (by simp;lia) fun h' eb=>⟨rfl,I.turned (t':=s.toks) (fun b o hb e=>eb b o hb e) f0 f1 f3 f4 f5⟩
 self:=fun _ _ _ _ _ st h=>wpAny_pyIter_tupleiter st h
theorem VZ{P:aw}{w:aG}{K:PySem.W.Frag}{tg:ρ}(it:η)(lo:Int)(n:Nat):Turn P w K tg (Dg lo n) [it] it (fun i h=>qJ h it (lo+(i:Nat)*1) ((n:Int)-(i:Nat)) 1) where
 mem:=by simp
 obj:=fun i h st b hb=>by
  have e:b=it:=by simpa using hb
  subst e;exact⟨_,st,fun v z=>by
   have z':ug _=Data.cell v:=z;cases z'⟩
 keep:=fun i h h' st k=>k it (by simp) _ st
 item:=by
  intro X hP hw hK hc i pins s σ H E I hf st hg;subst hP hw hK;obtain⟨f0,f1,f2,f3,f4,f5⟩:=hf it (by simp);have W:=Walks.range (prog:=X.prog) (w:=X.w) (I.ok.hd hc) it lo 1 n;refine W.item i s _ _ hg st fun v h' tk hv st' kk=>?_;obtain⟨t,rfl⟩:=hv;have I1:Inv X pins σ H { s with heap:=h',toks:=tk }:=I.turned (fun b o hb e=>kk b o (by simpa using hb) e) f0 f1 f3 f4 f5;refine⟨_,rfl,yf (s:={ s with heap:=h',toks:=tk }) (n:="range_iterator") st' rfl rfl (by decide) ⟨.int (lo+i),H,I1,⟨t,?_⟩,⟨rfl,rfl⟩,st',fun b hb=>(hf b hb).1⟩⟩;rw[uf]
 done:=by
  intro X hP hw hK hc i pins s σ H E I hf st hg;subst hP hw hK;obtain⟨f0,f1,f2,f3,f4,f5⟩:=hf it (by simp);exact wpAny_pyNext_range_end (I.ok.hd hc) st (by have:n≤i:=hg;lia) fun h' eb=>⟨rfl,I.turned (t':=s.toks) (fun b o hb e=>eb b o hb e) f0 f1 f3 f4 f5⟩
 self:=fun _ _ _ _ _ st h=>wpAny_pyIter_rangeiter st h
end L2
namespace L2
open PySem PySem.Spec PyProof.Rows
section
variable {X:Cx} {tg:ρ}
theorem Mf{pins:List (η×br)}{σ:St}{H:Hp}{s:ζ}{R:It->Hp->Prop}{E:δ->ζ->Prop}{lo hi:Int}{t u v:kz}{tk:Nat}(I:Inv X pins σ H s)(h1:-(2^62)≤lo)(h2:lo<2^62)(h3:-(2^62)≤hi)(h4:hi<2^62)
  (q:R (Dg lo (hi-lo).toNat) H):π (model X.prog X.w) X.A (pyIter (.ref s.heap.objs.size)) (GK X pins σ tg R) E { s with heap:=s.heap.push { cls:=.type "range",data:=.fields #[.int lo t,.int hi u,.int 1 v]},toks:=tk }:=by
 refine wpAny_pyIter_range (IsRange.new ..) (small_one h1 h2 h3 h4) ?_;have I1:Inv X pins σ H { s with heap:=s.heap.push { cls:=.type "range",data:=.fields #[.int lo t,.int hi u,.int 1 v]},toks:=tk }:=I.kept fun b o e=>Heap.get?_push_of_some _ e;refine⟨(s.heap.push { cls:=.type "range",data:=.fields #[.int lo t,.int hi u,.int 1 v]}).objs.size,[(s.heap.push { cls:=.type "range",data:=.fields #[.int lo t,.int hi u,.int 1 v]}).objs.size],_,_,H,rfl,
  I1.kept (t':=tk) fun b o e=>Heap.get?_push_of_some _ e,VZ _ lo (hi-lo).toNat,?_,fun b hb=>?_,q⟩
 ·have e1:lo+((0:Nat):Int)*1=lo:=by simp
  have e2:(((hi-lo).toNat:Nat):Int)-((0:Nat):Int)=dk lo hi 1:=by rw[rangeSize_one];split<;>lia
  show qJ _ _ (lo+((0:Nat):Int)*1) ((((hi-lo).toNat:Nat):Int)-((0:Nat):Int)) 1;rw[e1,e2];exact Heap.get?_push_size _ rfl
 ·have e:b=(s.heap.push { cls:=.type "range",data:=.fields #[.int lo t,.int hi u,.int 1 v]}).objs.size:=by simpa using hb
  subst e;exact I1.rT (υ _) (I1.cB.fresh (υ _))
def mf(ta:TA):TI:=fun σ H R=>ta σ H fun vs H1=>∃j:Int,vs=[.int j]/\-(2^62)≤j/\j<2^62/\R (Dg 0 j.toNat) H1
def tQ(ta:TA):TI:=fun σ H R=>ta σ H fun vs H1=>∃i j:Int,vs=[.int i,.int j]/\(-(2^62)≤i/\i<2^62/\-(2^62)≤j/\j<2^62)/\R (Dg i (j-i).toNat) H1
theorem VY{a:ρ}{ta:TA}{p pos:aP}(hg:Gl X "range")(hm:X.mg "range" = none)(ha:PA X [a] ta)(hs:b8 [a] X.env=[(false,eval a X.env)]:=by rfl):PI X tg (.Call (.Name "range" p) [a] [] pos) (mf ta):=by
 intro pins s σ H R I h;refine Call_ (uC I hg hm boot_range (fb (bP (ha pos pins s σ H _ I h) fun us s1 ⟨vs,H1,I1,r1,q1⟩=>?_) hs rfl));obtain⟨j,e,q1,q2,q⟩:=q1;subst e;cases r1 with
 |cons r rr=>
  cases rr;obtain⟨t,rfl⟩:=r;exact call_range_1 (Mf I1 (by lia) (by lia) q1 q2 (by simpa using q))
theorem VX{a b:ρ}{ta:TA}{p pos:aP}(hg:Gl X "range")(hm:X.mg "range" = none)(ha:PA X [a,b] ta)(hs:b8 [a,b] X.env=[(false,eval a X.env),(false,eval b X.env)]:=by rfl)(hs2:b8 [b] X.env=[(false,eval b X.env)]:=by rfl):
  PI X tg (.Call (.Name "range" p) [a,b] [] pos) (tQ ta):=by
 intro pins s σ H R I h;refine Call_ (uC I hg hm boot_range (fb (bP (ha pos pins s σ H _ I h) fun us s1 ⟨vs,H1,I1,r1,q1⟩=>?_) (by rw[hs,hs2]) (by rw[hs2];rfl)));obtain⟨i,j,e,⟨q1,q2,q3,q4⟩,q⟩:=q1;subst e;cases r1 with
 |cons r rr=>
  cases rr with
  |cons r' rr=>
   cases rr;obtain⟨t,rfl⟩:=r;obtain⟨t',rfl⟩:=r';exact call_range_2 (Mf I1 q1 q2 q3 q4 q)
def OJ(wi:TI)(g:TG)(tb:TS):TS:=fun D σ H=>wi σ H fun J H1=>∃W:Nat->Nat->St->Hp->Prop,(∃m,W 0 m σ H1)/\∀i m σ H,W i m σ H ->
 (J.stop i H/\D.nx σ H)∨(J.go i H/\∃N:St->Hp->Prop,(∀σ' H',N σ' H'->∃m',m' < m/\W (i+1) m' σ' H')/\∀x H',J.Fw i H x H'->g x σ H' fun σ2 H2=>tb { D with nx:=N,ct:=N,bk:=D.nx } σ2 H2)
def sV(fp:List η)(h:Heap):List (η×br):=fp.filterMap fun b=>(h.get? b).map fun o=>(b,o)
theorem A2{fp:List η}{h:Heap}{b:η}{o:br}(hb:b∈fp)(e:h.get? b=some o):(b,o)∈sV fp h:=tG.mpr ⟨b,hb,by rw[e];rfl⟩
theorem Wx{fp:List η}{h:Heap}{p:η×br}(hp:p∈sV fp h):p.1∈fp/\h.get? p.1=some p.2:=by
 obtain⟨b,hb,e⟩:=tG.mp hp;cases q:h.get? b with
 |none=>rw[q] at e;cases e
 |some o=>
  rw[q] at e;have e':(b,o)=p:=aA e;subst e';exact⟨hb,q⟩
theorem Inv.pinned{pins:List (η×br)}{σ:St}{H:Hp}{s:ζ}{fp:List η}(I:Inv X pins σ H s)(hf:∀b∈fp,kE X pins H b)(ho:∀b∈fp,∃o,s.heap.get? b=some o/\∀v,o.data≠.cell v):Inv X (pins++sV fp s.heap) σ H s:=
 I.zf fun p hp=>(ar.mp hp).elim (fun z=>I.pin p (aq _ z)) fun z=>by
  obtain⟨hb,e⟩:=Wx z;obtain⟨f0,f1,f2,_⟩:=hf p.1 hb;obtain⟨o,e',d⟩:=ho p.1 hb;rw[e] at e';cases e';exact⟨e,f0,f1,f2,d⟩
theorem Inv.rn{pins pl:List (η×br)}{σ:St}{H:Hp}{s:ζ}(I:Inv X (pins++pl) σ H s):Inv X pins σ H s:=I.zf fun p hp=>I.pin p (aq _ (aM _ hp))
theorem Ww{iter:ρ}{body:List bp}{wi:TI}{g:TG}{tb:TS}{pos:aP}(hp:nB (model X.prog X.w) X.A X.env X.xe)(hc:X.calm=true)(hi:PI X tg iter wi)(hg:PG X tg g)(hb:om X body tb)
  (hs:∀x,foldedSetIterable iter X.env x=pure x:=by intro _;rfl):PS X (.For tg iter body [] pos) (OJ wi g tb):=by
 intro pins s σ H D I h;refine wpAny_For (bP (hi pins s σ H _ I h) fun v s1 h1=>bP h1 fun itv s2 h2=>?_) hs;obtain⟨it,fp,tn,J,H2,e,I2,T,st2,f2,W,⟨m0,w0⟩,turn⟩:=h2;subst e
 -- what stays true of the iterator's objects through the loop
 have stat:∀{H':Hp},(∀b∈fp,H' b=none)->∀b∈fp,kE X pins H' b:=fun hn b hb=>⟨hn b hb,(f2 b hb).2⟩;refine codeAny_forLoop_any (fun n s'=>∃i σ' H',Inv X pins σ' H' s'/\tn i s'.heap/\(∀b∈fp,H' b=none)/\W i n σ' H') ?_ m0 ⟨0,σ,H2,I2,st2,fun b hb=>(f2 b hb).1,w0⟩;rintro n s3 ⟨i,σ3,H3,I3,st3,fr3,w3⟩;rcases turn i n σ3 H3 w3 with⟨stop,qn⟩|⟨go,N,hN,step⟩
 ·refine gA hp (bP (T.done X rfl rfl rfl hc i pins s3 σ3 H3 X.xe I3 (stat fr3) st3 stop) fun r s4 ⟨hr,I4⟩=>?_);subst hr;exact mn ⟨σ3,H3,I4,qn⟩
 ·refine gA hp (bP (T.item X rfl rfl rfl hc i pins s3 σ3 H3 X.xe I3 (stat fr3) st3 go) fun r s4 ⟨u,hr,h4⟩=>?_);subst hr;refine gA hp (bP h4 fun _ s5 ⟨x,H5,I5,r5,y5,st5,fr5⟩=>?_);have I5':=I5.pinned (stat fr5) (T.obj _ _ st5);refine gA hp (bP (hg _ s5 σ3 H5 x u _ I5' r5 (step x H5 y5)) fun _ s6 ⟨σ6,H6,I6,q6⟩=>?_);refine gA hp (bP (hb _ s6 σ6 H6 _ I6 q6) fun f s7 q7=>?_);have again:∀{σ7:St} {H7:Hp},Inv X (pins++sV fp s5.heap) σ7 H7 s7->N σ7 H7->∃m,m<n/\∃i σ' H',Inv X pins σ' H' s7/\tn i s7.heap/\(∀b∈fp,H' b=none)/\W i m σ' H':=fun {σ7 H7} I7 n7=>by
   obtain⟨m',hm,w7⟩:=hN σ7 H7 n7;refine⟨m',hm,i+1,σ7,H7,I7.rn,T.keep _ _ _ st5 fun b hb o e=>(I7.pin (b,o) (aq _ (aq _ (A2 hb e)))).1,fun b hb=>?_,w7⟩;obtain⟨o,e,d⟩:=T.obj _ _ st5 b hb;exact (I7.pin (b,o) (aq _ (aq _ (A2 hb e)))).2.1
  cases f with
  |next=>obtain⟨σ7,H7,I7,n7⟩:=q7;exact again I7 n7
  |cont=>obtain⟨σ7,H7,I7,n7⟩:=q7;exact again I7 n7
  |brk=>obtain⟨σ7,H7,I7,q7⟩:=q7;exact⟨σ7,H7,I7.rn,q7⟩
  |ret v=>obtain⟨x7,σ7,H7,I7,r7,q7⟩:=q7;exact⟨x7,σ7,H7,I7.rn,r7,q7⟩
end
end L2
namespace L2
open PySem PySem.Spec PyProof.Rows
abbrev R2:=V->V->Hp->VK->Prop
def eO(X:Cx)(f:δ->δ->Sem δ)(r:R2):Prop:=
 ∀(pins:List (η×br)) (s:ζ) (σ:St) (H:Hp) (x y:V) (v u:δ) (Q:VK),Inv X pins σ H s->RelV x v->RelV y u->r x y H Q ->
  π (model X.prog X.w) X.A (f v u) (EP X pins σ Q) X.xe s
def M8(X:Cx)(f:δ->Sem δ)(r:V->Hp->VK->Prop):Prop:=
 ∀(pins:List (η×br)) (s:ζ) (σ:St) (H:Hp) (x:V) (v:δ) (Q:VK),Inv X pins σ H s->RelV x v->r x H Q ->
  π (model X.prog X.w) X.A (f v) (EP X pins σ Q) X.xe s
def gP(X:Cx)(f:δ)(r:List V->Hp->VK->Prop):Prop:=
 ∀(pins:List (η×br)) (s:ζ) (σ:St) (H:Hp) (xs:List V) (us:List δ) (Q:VK),Inv X pins σ H s->bo xs us->r xs H Q ->
  π (model X.prog X.w) X.A (call f us) (EP X pins σ Q) X.xe s
def aa5(X:Cx)(r:V->Hp->(Bool->Hp->Prop)->Prop):Prop:=
 ∀(pins:List (η×br)) (s:ζ) (σ:St) (H:Hp) (x:V) (v:δ) (Q:Bool->Hp->Prop),Inv X pins σ H s->RelV x v->r x H Q ->
  π (model X.prog X.w) X.A (truthy v) (TP X pins σ Q) X.xe s
def CH(r:R2)(ta tb:TE):TE:=fun σ H Q=>ta σ H fun x H1=>tb σ H1 fun y H2=>r x y H2 Q
def tUn(r:V->Hp->VK->Prop)(ta:TE):TE:=fun σ H Q=>ta σ H fun x H1=>r x H1 Q
def rI(C:Int->Int->Prop)(g:Int->Int->V):R2:=fun x y H Q=>∃i j,x=.int i/\y=.int j/\C i j/\Q (g i j) H
def oW(g:Int->Int->V):R2:=fun x y H Q=>∃i j,x=.int i/\y=.int j/\Q (g i j) H
def rU(g:Int->V):V->Hp->VK->Prop:=fun x H Q=>∃i,x=.int i/\Q (g i) H
section
variable {X:Cx} {a b c:ρ} {ta tb tc:TE} {pos:aP}
theorem Fp(ha:PE X a ta)(hb:PE X b tb){pins:List (η×br)}{s:ζ}{σ:St}{H:Hp}{R:V->V->Hp->Prop}(I:Inv X pins σ H s)
  (h:ta σ H fun x H1=>tb σ H1 fun y H2=>R x y H2) {Q:δ->ζ->Prop} {f:δ->δ->Sem δ}
  (hf:∀v u s2 x y H2,Inv X pins σ H2 s2->RelV x v->RelV y u->R x y H2->π (model X.prog X.w) X.A (f v u) Q X.xe s2):
  π (model X.prog X.w) X.A (eval a X.env) (fun v s₁=>π (model X.prog X.w) X.A (eval b X.env) (fun u s₂=>π (model X.prog X.w) X.A (f v u) Q X.xe s₂) X.xe s₁) X.xe s:=by
 refine bP (ha pins s σ H _ I h) fun v s1 ⟨x,H1,I1,r1,q1⟩=>?_;refine bP (hb pins s1 σ H1 _ I1 q1) fun u s2 ⟨y,H2,I2,r2,q2⟩=>?_;exact hf v u s2 x y H2 I2 r1 r2 q2
theorem Wv{op:lu}{r:R2}(ho:eO X (binaryOp op) r)(ha:PE X a ta)(hb:PE X b tb):PE X (.BinOp a op b pos) (CH r ta tb):=by
 intro pins s σ H Q I h;exact wpAny_BinOp (Fp ha hb I h fun v u s2 x y H2 I2 rx ry q=>ho pins s2 σ H2 x y v u Q I2 rx ry q)
theorem Wu{op:UnaryOp}{r:V->Hp->VK->Prop}(ho:M8 X (unaryOp op) r)(ha:PE X a ta):PE X (.UnaryOp op a pos) (tUn r ta):=by
 intro pins s σ H Q I h;exact UnaryOp_ (bP (ha pins s σ H _ I h) fun v s1 ⟨x,H1,I1,r1,q1⟩=>ho pins s1 σ H1 x v Q I1 r1 q1)
theorem FR{f:δ->δ->Sem δ}{C:Int->Int->Prop}{g:Int->Int->Int}
  (rule:∀(i j:Int) (t u:kz) (s:ζ) (Q:δ->ζ->Prop) (E:δ->ζ->Prop),C i j->Q (.int (g i j) s.toks) { s with toks:=s.toks+1 }->π (model X.prog X.w) X.A (f (.int i t) (.int j u)) Q E s):
  eO X f (rI C fun i j=>.int (g i j)):=by
 intro pins s σ H x y v u Q I rx ry h;obtain⟨i,j,rfl,rfl,hc,q⟩:=h;obtain⟨t,rfl⟩:=rx;obtain⟨t',rfl⟩:=ry;exact rule i j t t' s _ _ hc ⟨.int (g i j),H,I.tok _,⟨_,rfl⟩,q⟩
theorem Mz{f:δ->δ->Sem δ}{g:Int->Int->Int}
  (rule:∀(i j:Int) (t u:kz) (s:ζ) (Q:δ->ζ->Prop) (E:δ->ζ->Prop),Q (.int (g i j) s.toks) { s with toks:=s.toks+1 }->π (model X.prog X.w) X.A (f (.int i t) (.int j u)) Q E s):
  eO X f (oW fun i j=>.int (g i j)):=by
 intro pins s σ H x y v u Q I rx ry h;obtain⟨i,j,rfl,rfl,q⟩:=h;obtain⟨t,rfl⟩:=rx;obtain⟨t',rfl⟩:=ry;exact rule i j t t' s _ _ ⟨.int (g i j),H,I.tok _,⟨_,rfl⟩,q⟩
theorem A4{f:δ->δ->Sem δ}{g:Int->Int->Bool}
  (rule:∀(i j:Int) (t u:kz) (s:ζ) (Q:δ->ζ->Prop) (E:δ->ζ->Prop),Q (.bool (g i j)) s->π (model X.prog X.w) X.A (f (.int i t) (.int j u)) Q E s):
  eO X f (oW fun i j=>.bl (g i j)):=by
 intro pins s σ H x y v u Q I rx ry h;obtain⟨i,j,rfl,rfl,q⟩:=h;obtain⟨t,rfl⟩:=rx;obtain⟨t',rfl⟩:=ry;exact rule i j t t' s _ _ ⟨.bl (g i j),H,I,rfl,q⟩
def Fv(i j:Int):Prop:=0≤j/\j≤1000000/\i.natAbs<2^64
theorem Mx:eO X (binaryOp .Add) (oW fun i j=>.int (i+j)):=Mz fun _ _ _ _ _ _ _ q=>add_int q
theorem ye:eO X (binaryOp .Sub) (oW fun i j=>.int (i-j)):=Mz fun _ _ _ _ _ _ _ q=>sub_int q
theorem lT:eO X (binaryOp .Mod) (rI (fun _ j=>0<j) fun i j=>.int (i%j)):=FR fun i j _ _ _ _ _ hc q=>by
 have h1:(0:Int)<j:=hc;exact mod_int' (by lia) (by rw[Int.fmod_eq_emod_of_nonneg i (by lia)];exact q)
theorem Wt:eO X (binaryOp .Pow) (rI Fv fun i j=>.int (i^j.toNat)):=FR fun _ _ _ _ _ _ _ hc q=>pow_int_small hc.1 hc.2.1 hc.2.2 q
theorem unI{f:δ->Sem δ}{g:Int->Int}
  (rule:∀(i:Int) (t:kz) (s:ζ) (Q:δ->ζ->Prop) (E:δ->ζ->Prop),Q (.int (g i) s.toks) { s with toks:=s.toks+1 }->π (model X.prog X.w) X.A (f (.int i t)) Q E s):
  M8 X f (rU fun i=>.int (g i)):=by
 intro pins s σ H x v Q I rx h;obtain⟨i,rfl,q⟩:=h;obtain⟨t,rfl⟩:=rx;exact rule i t s _ _ ⟨.int (g i),H,I.tok _,⟨_,rfl⟩,q⟩
theorem Ws:M8 X (unaryOp .USub) (rU fun i=>.int (-i)):=unI fun _ _ _ _ _ q=>neg_int q
end
section
variable {X:Cx} {a b c:ρ} {ta tb tc:TE} {pos:aP}
theorem Me{pins:List (η×br)}{σ:St}{H:Hp}{s:ζ}{Q:VK}{k k':Bool}(I:Inv X pins σ H s)(q:Q (.bl k) H)(e:k=k'):EP X pins σ Q (.bool k') s:=by
 subst e;exact⟨.bl k,H,I,rfl,q⟩
theorem NC:eO X (compareOp .Lt) (oW fun i j=>.bl (decide (i<j))):=A4 fun _ _ _ _ _ _ _ q=>lt_int q
theorem Wr:eO X (compareOp .LtE) (oW fun i j=>.bl (decide (i≤j))):=A4 fun _ _ _ _ _ _ _ q=>le_int q
theorem wb:eO X (compareOp .Gt) (oW fun i j=>.bl (decide (j<i))):=A4 fun _ _ _ _ _ _ _ q=>gt_int q
theorem Wq:eO X (compareOp .GtE) (oW fun i j=>.bl (decide (j≤i))):=A4 fun _ _ _ _ _ _ _ q=>ge_int q
theorem Md:eO X (compareOp .Is) (fun x y H Q=>y=.aF/\Q (.bl (decide (x=.aF))) H):=by
 intro pins s σ H x y v u Q I rx ry h;obtain⟨rfl,q⟩:=h;cases ry;refine is_none_gen (Me I q ?_);cases x<;>first
  | (cases rx;rfl)
  | (obtain⟨t,rfl⟩:=rx;rfl)
theorem Wp:eO X (compareOp .IsNot) (fun x y H Q=>y=.aF/\Q (.bl (!decide (x=.aF))) H):=by
 intro pins s σ H x y v u Q I rx ry h;obtain⟨rfl,q⟩:=h;cases ry;refine isnot_none_gen (Me I q ?_);cases x<;>first
  | (cases rx;rfl)
  | (obtain⟨t,rfl⟩:=rx;rfl)
theorem eO.or{f:δ->δ->Sem δ}{r r':R2}(h:eO X f r)(h':eO X f r'):eO X f (fun x y H Q=>r x y H Q∨r' x y H Q):=by
 intro pins s σ H x y v u Q I rx ry q;rcases q with q|q
 ·exact h pins s σ H x y v u Q I rx ry q
 ·exact h' pins s σ H x y v u Q I rx ry q
theorem cf(b:ρ){op:oK}(h:op≠.In:=by decide)(h2:op≠.NotIn:=by decide):behindInMarks op b=false:=by
 have e1:(op==oK.In)=false:=by cases op<;>first|rfl|exact absurd rfl h
 have e2:(op==oK.NotIn)=false:=by cases op<;>first|rfl|exact absurd rfl h2
 cases b<;>simp[behindInMarks,e1,e2]
theorem Wo{op:oK}{r:R2}(ho:eO X (compareOp op) r)(ha:PE X a ta)(hb:PE X b tb)(hm:behindInMarks op b=false):PE X (.Compare a [op] [b] pos) (CH r ta tb):=by
 intro pins s σ H Q I h;exact wpAny_Compare1 (Fp ha hb I h fun v u s2 x y H2 I2 rx ry q=>ho pins s2 σ H2 x y v u Q I2 rx ry q) hm
def Fx(t:TE):TT:=fun σ H Q=>t σ H fun x H'=>∃k,x=.bl k/\Q k H'
theorem VM{op:oK}{r:R2}(ho:eO X (compareOp op) r)(ha:PE X a ta)(hb:PE X b tb)(hm:behindInMarks op b=false):PT X (.Compare a [op] [b] pos) (Fx (CH r ta tb)):=by
 intro pins s σ H Q I h;refine wpAny_isTrue_Compare1 (bP (ha pins s σ H _ I h) fun v s1 ⟨x,H1,I1,r1,q1⟩=>bP (hb pins s1 σ H1 _ I1 q1) fun u s2 ⟨y,H2,I2,r2,q2⟩=>
  bP (ho pins s2 σ H2 x y v u _ I2 r1 r2 q2) fun c s3 ⟨z,H3,I3,r3,k,e,q3⟩=>?_) hm
 subst e;cases r3;exact eZ ⟨H3,I3,q3⟩
def xg(r r':R2)(ta tb tc:TE):TE:=fun σ H Q=>ta σ H fun x H1=>tb σ H1 fun y H2=>r x y H2 fun z H3=>∃k,z=.bl k ∧
 (if k=true then tc σ H3 fun w' H4=>r' y w' H4 Q else Q (.bl false) H3)
theorem VL{op op':oK}{r r':R2}(ho:eO X (compareOp op) r)(ho':eO X (compareOp op') r')(ha:PE X a ta)(hb:PE X b tb)(hc:PE X c tc)
  (hm:lastMarks [op,op'] [b,c]=false:=by with_unfolding_all rfl):PE X (.Compare a [op,op'] [b,c] pos) (xg r r' ta tb tc):=by
 intro pins s σ H Q I h;refine Compare_chain (bP (ha pins s σ H _ I h) fun v s1 ⟨x,H1,I1,r1,q1⟩=>chain_link (bP (hb pins s1 σ H1 _ I1 q1) fun u s2 ⟨y,H2,I2,r2,q2⟩=>
  bP (ho pins s2 σ H2 x y v u _ I2 r1 r2 q2) fun d s3 ⟨z,H3,I3,r3,k,e,q3⟩=>?_)) hm
 subst e;cases r3;refine eZ ?_;cases k with
 |false=>exact ite_ff ⟨.bl false,H3,I3,rfl,q3⟩
 |true=>exact ite_tt (chain_last (bP (hc pins s3 σ H3 _ I3 q3) fun w' s4 ⟨z',H4,I4,r4,q4⟩=>ho' pins s4 σ H4 y z' u w' Q I4 r2 r4 q4))
def M9(K:PySem.W.Frag)(x:V)(H:Hp)(k:Bool):Prop:=
 match x with
 |.aF=>k=false
 |.bl b=>k=b
 |.int i=>k=(i != 0)
 |.str y=>y.length≤ao/\k=((y.length:Int) != 0)
 |.Dc y=>y.size≤ao/\k=((y.size:Int) != 0)
 |.ref p=>(∃xs,eN K H p xs/\k = !xs.isEmpty)∨(∃xs,cK K H p xs/\k = !xs.isEmpty)∨∃kvs,H p=some (.dK kvs)/\k = !kvs.isEmpty
 |_=>False
theorem VJ{κ:Type}{kvs:List (κ×V)}{vs:List (κ×δ)}(r:KV kvs vs):(!vs.isEmpty) = !kvs.isEmpty:=by
 cases r<;>rfl
theorem Mc{xs:List V}{its:List δ}(r:bo xs its):(!its.toArray.isEmpty) = !xs.isEmpty:=by
 cases r<;>simp
theorem o6:(ao:Nat)<2^63:=by rw[bX];decide
theorem VI:aa5 X (fun x H Q=>∃k,M9 X.K x H k/\Q k H):=by
 intro pins s σ H x v Q I rx h;obtain⟨k,e,q⟩:=h;have hl:=o6;have hs:ao=16777216:=bX;cases x with
 |aF=>
  cases rx;have e':k=false:=e;subst e';exact truthy_none ⟨H,I,q⟩
 |bl b=>
  cases rx;have e':k=b:=e;subst e';exact eZ ⟨H,I,q⟩
 |int i=>
  obtain⟨t,rfl⟩:=rx;have e':k=(i != 0):=e;subst e';exact PySem.P.truthy_int ⟨H,I,q⟩
 |str y=>
  obtain⟨t,rfl⟩:=rx;obtain⟨hy,e'⟩:y.length≤ao/\k=((y.length:Int) != 0):=e;subst e';exact PySem.P.truthy_str (by lia) ⟨H,I.tok _,q⟩
 |Dc y=>
  obtain⟨t,rfl⟩:=rx;obtain⟨hy,e'⟩:y.size≤ao/\k=((y.size:Int) != 0):=e;subst e';exact PySem.W.truthy_bytes (by lia) ⟨H,I.tok _,q⟩
 |ref p=>
  cases rx;have e':(∃xs,eN X.K H p xs/\k = !xs.isEmpty)∨(∃xs,cK X.K H p xs/\k = !xs.isEmpty)∨∃kvs,H p=some (.dK kvs)/\k = !kvs.isEmpty:=e;rcases e' with⟨xs,hx,e'⟩|⟨xs,hx,e'⟩|⟨kvs,hx,e'⟩
  ·subst e';obtain⟨its,r,pl,hz⟩:=I.list hx;have hlen:=r.length;exact wpAny_truthy_list pl.isList (by simp only[Γ];lia) ⟨H,I.tok _,by rw[Mc r];exact q⟩
  ·subst e';obtain⟨its,r,pl,hz⟩:=I.tuple hx;have hlen:=r.length;exact truthy_tuple pl (by simp only[Γ];lia) ⟨H,I.tok _,by rw[Mc r];exact q⟩
  ·subst e';obtain⟨hz,hS,vs,r,m⟩:kvs.length≤ao/\(p==sysModules)=false/\∃vs,KV kvs vs/\s.heap.DictOf (wd X.prog X.w) p vs:=I.cB p _ hx;have hlen:kvs.length=vs.length:=Paired.length r;exact wpAny_truthy_dict hS m (by lia) ⟨H,I.tok _,by rw[VJ r];exact q⟩
 |_=>exact (show False from e).elim
theorem VH(ha:PE X a ta)(he:∀whole,isTrue a X.env whole=(do let v ←whole;standAt a.pos;holding [v] (truthy v))):
  PT X a (fun σ H Q=>ta σ H fun x H'=>∃k,M9 X.K x H' k/\Q k H'):=by
 intro pins s σ H Q I h;exact isTrue_plain (bP (ha pins s σ H _ I h) fun v s1 ⟨x,H1,I1,r1,q1⟩=>VI pins s1 σ H1 x v Q I1 r1 q1) (he _)
theorem vals1{x:V}{us:List δ}(r:bo [x] us):∃u,us=[u]/\RelV x u:=by
 cases r with
 |cons r1 r2=>cases r2;exact⟨_,rfl,r1⟩
theorem vals2{x y:V}{us:List δ}(r:bo [x,y] us):∃u w',us=[u,w']/\RelV x u/\RelV y w':=by
 cases r with
 |cons r1 r2=>
  cases r2 with
  |cons r3 r4=>cases r4;exact⟨_,_,rfl,r1,r3⟩
theorem VG(hc:X.calm=true):gP X (.builtin "max") (fun xs H Q=>∃i j,xs=[.int i,.int j]/\Q (.int (if j > i then j else i)) H):=by
 intro pins s σ H xs us Q I r h;obtain⟨i,j,rfl,q⟩:=h;obtain⟨u,w',rfl,⟨t,rfl⟩,⟨t',rfl⟩⟩:=vals2 r;refine max_two_ints (I.ok.hd hc) fun h' tk k=>⟨_,H,I.kept k,?_,q⟩;by_cases hj:j > i
 ·rw[if_pos hj,if_pos hj];exact⟨_,rfl⟩
 ·rw[if_neg hj,if_neg hj];exact⟨_,rfl⟩
theorem VF(hc:X.calm=true):gP X (.builtin "min") (fun xs H Q=>∃i j,xs=[.int i,.int j]/\Q (.int (if j<i then j else i)) H):=by
 intro pins s σ H xs us Q I r h;obtain⟨i,j,rfl,q⟩:=h;obtain⟨u,w',rfl,⟨t,rfl⟩,⟨t',rfl⟩⟩:=vals2 r;refine min_two_ints (I.ok.hd hc) fun h' tk k=>⟨_,H,I.kept k,?_,q⟩;by_cases hj:j<i
 ·rw[if_pos hj,if_pos hj];exact⟨_,rfl⟩
 ·rw[if_neg hj,if_neg hj];exact⟨_,rfl⟩
theorem VE:gP X (.type "int") (fun xs H Q=>(∃i,xs=[.int i]/\Q (.int i) H)∨∃k,xs=[.bl k]/\Q (.int (if k then 1 else 0)) H):=by
 intro pins s σ H xs us Q I r h;rcases h with⟨i,rfl,q⟩|⟨k,rfl,q⟩
 ·obtain⟨u,rfl,t,rfl⟩:=vals1 r;exact call_int_int ⟨.int i,H,I,⟨_,rfl⟩,q⟩
 ·obtain⟨u,rfl,r1⟩:=vals1 r;cases r1;exact call_int_bool ⟨.int (if k then 1 else 0),H,I.tok _,⟨_,rfl⟩,q⟩
end
end L2
namespace L2
open PySem PySem.Spec PyProof.Rows
structure g4(k:Nat)(A:aR):Prop where
 hd:A.handled=none
 dp:A.depth+3*k+5<recursionLimit
 un:A.units+16*k+200<cLine
theorem g4.mono{j k:Nat}{A:aR}(r:g4 k A)(h:j≤k):g4 j A:=⟨r.hd,by have:=r.dp;lia,by have:=r.un;lia⟩
theorem g4.deeper{k:Nat}{A:aR}(r:g4 (k+1) A)(env:jk):g4 k (A.deeper env):=
 ⟨r.hd,by have:=r.dp;show A.depth+1+3*k+5<_;lia,by have:=r.un;show A.units+3+16*k+200<_;lia⟩
theorem g4.depth{k:Nat}{A:aR}(r:g4 k A):A.depth<recursionLimit:=by have:=r.dp;lia
theorem g4.units{k:Nat}{A:aR}(r:g4 k A):A.units+64<cLine:=by have:=r.un;lia
theorem g4.oS{k:Nat}{A:aR}(r:g4 k A):A.units<cLine:=by have:=r.un;lia
def OG:TA:=fun _ H Q=>Q [] H
def Nv(ta:TE)(tr:TA):TA:=fun σ H Q=>ta σ H fun x H1=>tr σ H1 fun xs H2=>Q (x::xs) H2
section
variable {X:Cx} {e:ρ} {es:List ρ} {te:TE} {t:TA} {pos:aP}
theorem A1:PA X [] OG:=fun _ _ _ _ H Q I h=>t4 ⟨[],H,I,.nil,h⟩
theorem yd(ha:PE X e te)(hr:PA X es t)(hs:b8 (e::es) X.env=(false,eval e X.env)::b8 es X.env:=by rfl):PA X (e::es) (Nv te t):=by
 intro pos pins s σ H Q I h;rw[hs];show π _ _ (spliced ((false,eval e X.env)::backTo pos (b8 es X.env))) _ _ s;refine nF (bP (ha pins s σ H _ I h) fun u s1 ⟨x,H1,I1,r1,q1⟩=>?_);exact bP (hr pos pins s1 σ H1 _ I1 q1) fun us s2 ⟨xs,H2,I2,r2,q2⟩=>⟨x::xs,H2,I2,.cons r1 r2,q2⟩
def OB(t:TA):TE:=fun σ H Q=>t σ H fun xs H1=>xs.length≤ao/\∀p,H1 p=none->Q (.ref p) (upd H1 p (.tup xs))
def OH(t:TA):TE:=fun σ H Q=>t σ H fun xs H1=>xs.length≤ao/\∀p,H1 p=none->Q (.ref p) (upd H1 p (.lst xs))
theorem VD{x1}(h:PA X es t):PE X (.Tuple es x1 pos) (OB t):=by
 intro pins s σ H Q I hq;refine wpAny_Tuple_spliced (bP (h pos pins s σ H _ I hq) fun us s1 ⟨xs,H1,I1,r,z,q⟩=>⟨by rw[←r.length];exact z,?_⟩);have hf:H1 s1.heap.objs.size=none:=I1.cB.fresh (υ _);refine⟨.ref s1.heap.objs.size,upd H1 s1.heap.objs.size (.tup xs),I1.laid (t':=s1.toks) (fun b u e=>Heap.get?_push_of_some _ e) (υ _) ?_,rfl,q _ hf⟩;exact⟨z,us,r,⟨_,Heap.get?_push_size _ rfl,rfl,⟨_,rfl⟩,rfl⟩⟩
theorem Mb(h:PA X es t):PE X (.List es pos) (OH t):=by
 intro pins s σ H Q I hq;refine wpAny_List_spliced (bP (h pos pins s σ H _ I hq) fun us s1 ⟨xs,H1,I1,r,z,q⟩=>⟨by rw[←r.length];exact z,?_⟩);have hf:H1 s1.heap.objs.size=none:=I1.cB.fresh (υ _);refine⟨.ref s1.heap.objs.size,upd H1 s1.heap.objs.size (.lst xs),I1.laid (t':=s1.toks) (fun b u e=>Heap.get?_push_of_some _ e) (υ _) ?_,rfl,q _ hf⟩;exact⟨z,us,0,r,Heap.get?_push_size _ rfl⟩
end
abbrev Sp:=List V->Hp->VK->XK->Prop
abbrev sj:=List jk->Hp->ζ->XK->δ->ζ->Prop
structure CC(P:aw)(w:aG)(K:PySem.W.Frag)(mg:Ξ->Option δ)(base:Heap)(A:aR)(outer:List jk)(s:ζ)(H:Hp):Prop where
 frames:A.frames=some outer
 mod:Mod K mg base
 bs:∀b o,base.get? b=some o->s.heap.get? b=some o/\H b=none
 vm:base.objs.size≤s.heap.objs.size
 nN:s.heap.FunFrames base outer
 yC:∀b∈sY outer,H b=none
 cB:kc P w H s.heap
 bare:lN s.gens
def CE(outer:List jk)(P:aw)(w:aG)(H:Hp)(s:ζ)(Q:VK)(u:δ)(s':ζ):Prop:=
 ∃v H',s'.os=s.os/\lN s'.gens/\Un (sY outer) [] H H' s.heap s'.heap/\kc P w H' s'.heap/\RelV v u/\Q v H'
def CR(CX:sj)(outer:List jk)(P:aw)(w:aG)(H:Hp)(s:ζ)(Q:VK)(E:XK)(r:pD)(s':ζ):Prop:=
 match r with
 |.ok (.ret u)=>CE outer P w H s Q u s'
 |.ok _=>False
 |.error e=>CX outer H s E e s'
structure kF(P:aw)(w:aG)(K:PySem.W.Frag)(mg:Ξ->Option δ)(base:Heap)(CX:sj)(k:Nat)(f:η)(fd:aL)(ps:List Ξ)(sp:Sp):Prop where
 len:∀vs H Q E,sp vs H Q E->vs.length=ps.length
 run:∀(A:aR) (outer:List jk) (s:ζ) (H:Hp) (args:Args) (us:List δ) (vs:List V) (Q:VK) (E:XK),g4 k A->CC P w K mg base A outer s H->rm s fd args (ps.zip us)->bo vs us->sp vs H Q E ->
  iw (model P w) A (.call (.ref f) args) (CR CX outer P w H s Q E) s
theorem kF.mono{P:aw}{w:aG}{K:PySem.W.Frag}{mg:Ξ->Option δ}{base:Heap}{CX:sj}{j k:Nat}{f:η}{fd:aL}{ps:List Ξ}{sp:Sp}(F:kF P w K mg base CX j f fd ps sp)(h:j≤k):
  kF P w K mg base CX k f fd ps sp:=⟨F.len,fun A outer s H args us vs Q E hr=>F.run A outer s H args us vs Q E (hr.mono h)⟩
theorem kF.imp{P:aw}{w:aG}{K:PySem.W.Frag}{mg:Ξ->Option δ}{base:Heap}{CX:sj}{k:Nat}{f:η}{fd:aL}{ps:List Ξ}{sp sp':Sp}(F:kF P w K mg base CX k f fd ps sp)
  (h:∀vs H Q E,sp' vs H Q E->sp vs H Q E):kF P w K mg base CX k f fd ps sp':=
 ⟨fun vs H Q E q=>F.len vs H Q E (h _ _ _ _ q),fun A outer s H args us vs Q E hr he hb hv hs=>F.run A outer s H args us vs Q E hr he hb hv (h _ _ _ _ hs)⟩
section
variable {X:Cx} {pins:List (η×br)} {σ:St} {H:Hp} {s s':ζ}
theorem Inv.aaR(I:Inv X pins σ H s):CC X.prog X.w X.K X.mg X.base X.A X.stack s H:=
 ⟨I.ok.frames,I.ok.mod,I.bs,aD I.ok.vm I.sz,I.stack,I.yY,I.cB,I.bare⟩
theorem Inv.after{Q:VK}{u:δ}(I:Inv X pins σ H s)(h:CE X.stack X.prog X.w H s Q u s'):EP X pins σ Q u s':=by
 obtain⟨v,H',os,bare,un,cB,r,q⟩:=h;obtain⟨hh,g,d,t,os'⟩:=s';obtain rfl:os'=s.os:=os;exact⟨v,H',I.call (h':=hh) (g':=g) (d':=d) (t':=t) (ch:=[]) un cB bare (fun b z=>absurd z (by simp)),r,q⟩
end
def Fy(sp:Sp)(dvs:List V)(E:XK)(t:TA):TE:=fun σ H Q=>t σ H fun vs H1=>sp (vs++dvs) H1 Q E
def Binds(K:PySem.W.Frag)(fd:aL)(ps:List Ξ)(ds:List δ):Prop:=
 ∀(s:ζ) (us:List δ),K.In s.heap->(us++ds).length=ps.length->rm s fd ⟨us,[]⟩ (ps.zip (us++ds))
theorem Binds.all{K:PySem.W.Frag}{fd:aL}{ps:List Ξ}(h:∀us:List δ,us.length=ps.length->bindArgs fd ⟨us,[]⟩=pure (ps.zip us)):Binds K fd ps []:=fun s us _ hl=>by
 rw[cV] at hl ⊢;exact .of_eq (h us hl)
def yI(CX:sj)(X:Cx)(E:XK):Prop:=∀(pins:List (η×br)) (σ:St) (H:Hp) (s:ζ) (e:δ) (s':ζ),Inv X pins σ H s->CX X.stack H s E e s'->X.xe e s'
section
variable {X:Cx} {CX:sj} {k:Nat} {f C:η} {fd:aL} {ps:List Ξ} {sp:Sp} {dvs:List V} {ds:List δ} {E:XK} {x m:Ξ} {p pos apos:aP} {e o:ρ} {es:List ρ} {ta:TE} {t:TA}
theorem VC{pins:List (η×br)}{σ:St}{H:Hp}{s:ζ}{Q:VK}{us:List δ}{vs:List V}(F:kF X.prog X.w X.K X.mg X.base CX k f fd ps sp)(hr:g4 k X.A)(hb:Binds X.K fd ps ds)(hd:bo dvs ds)(hx:yI CX X E)
  (I:Inv X pins σ H s) (r:bo vs us) (h:sp (vs++dvs) H Q E):π (model X.prog X.w) X.A (call (.ref f) us) (EP X pins σ Q) X.xe s:=by
 have r2:bo (vs++dvs) (us++ds):=r.append hd;have hl:(us++ds).length=ps.length:=by rw[←r2.length];exact F.len _ _ _ _ h
 refine wpAny_call (pC (F.run X.A X.stack s H ⟨us,[]⟩ (us++ds) (vs++dvs) Q E hr I.aaR (hb s us I.oi hl) r2 h) fun r s' hq=>?_);cases r with
 |error e=>exact hx pins σ H s e s' I hq
 |ok fl=>
  cases fl with
  |ret u=>exact I.after hq
  |next=>exact gT hq
  |brk=>exact gT hq
  |cont=>exact gT hq
theorem VB(F:kF X.prog X.w X.K X.mg X.base CX k f fd ps sp)(hr:g4 k X.A)(hg:Gl X x)(hm:X.mg x=some (.ref f))(hk:PySem.W.keepIn X.K (.ref f)=true)(hb:Binds X.K fd ps ds)(hd:bo dvs ds)(hx:yI CX X E)
  (ha:PA X (e::es) t) (hdb:(x==("__debug__":Ξ))=false:=by decide) (he:b8 (e::es) X.env=(false,eval e X.env)::b8 es X.env:=by rfl) (hpl:(backTo pos (b8 es X.env)).any (·.1)=false:=by rfl):
  PE X (.Call (.Name x p) (e::es) [] pos) (Fy sp dvs E t):=by
 intro pins s σ H Q I h;refine nv (Mh I hg hm ?_ hdb);refine PySem.W.callWith_K (h₀:=X.base) I.ok.mod.Gk hk (bP (ha pos pins s σ H _ I h) fun us s1 ⟨vs,H1,I1,r,q⟩=>⟨I1.oi,?_⟩) he hpl;exact VC F hr hb hd hx I1 r q
end
structure bL(N P:List Ξ)(sc:iE):Prop where
 kind:sc.kind=.function
 co:sc.isCoroutine=false
 gen:sc.isGenerator=false
 nd:N.Nodup
 pre:N.take P.length=P
 par:∀x∈P,sc.names.lookup x=some .local∨sc.names.lookup x=some .cell
 MB:∀y∈sc.names,y.2≠.free
theorem Ma{kindOf:Ξ->Option gj}{x:Ξ}:∀{binds:List (Ξ×δ)} {m:Ξ->Option δ},(∀v,(x,v)∉binds)->bindL kindOf binds m x=m x
 |[],_,_=>rfl
 | (n,v)::r,m,h=>by
  unfold bindL;rw[Ma fun w hw=>h w (χ _ hw)];split
  ·have:x≠n:=by rintro rfl;exact h v ο
   simp[this]
  ·rfl
theorem L9{kindOf:Ξ->Option gj}{x:Ξ}:∀{binds:List (Ξ×δ)} {m:Ξ->Option δ},(∀v,(x,v)∉binds)->bindC kindOf binds m x=m x
 |[],_,_=>rfl
 | (n,v)::r,m,h=>by
  unfold bindC;rw[L9 fun w hw=>h w (χ _ hw)];split
  ·rfl
  ·have:x≠n:=by rintro rfl;exact h v ο
   simp[this]
theorem L8{kindOf:Ξ->Option gj}{x:Ξ}{v:δ}:∀{P:List Ξ} {vs:List δ} {i:Nat} {m:Ξ->Option δ},P.Nodup->P[i]?=some x->vs[i]?=some v->kindOf x=some .local ->
  bindL kindOf (P.zip vs) m x=some v
 |[],_,_,_,_,h,_,_=>by simp at h
 |_::_,[],_,_,_,_,h,_=>by simp at h
 |p::P,w::vs,0,m,nd,h1,h2,hk=>by
  simp at h1 h2;subst h1;subst h2;show bindL kindOf ((p,w)::P.zip vs) m p=_;unfold bindL;rw[Ma fun v hv=>(dG.mp nd).1 (qe hv).1,if_pos hk];simp
 |p::P,w::vs,i+1,m,nd,h1,h2,hk=>by
  show bindL kindOf ((p,w)::P.zip vs) m x=_;unfold bindL;exact L8 (i:=i) (dG.mp nd).2 (by simpa using h1) (by simpa using h2) hk
theorem L7{kindOf:Ξ->Option gj}{x:Ξ}{v:δ}:∀{P:List Ξ} {vs:List δ} {i:Nat} {m:Ξ->Option δ},P.Nodup->P[i]?=some x->vs[i]?=some v->kindOf x≠some .local ->
  bindC kindOf (P.zip vs) m x=some v
 |[],_,_,_,_,h,_,_=>by simp at h
 |_::_,[],_,_,_,_,h,_=>by simp at h
 |p::P,w::vs,0,m,nd,h1,h2,hk=>by
  simp at h1 h2;subst h1;subst h2;show bindC kindOf ((p,w)::P.zip vs) m p=_;unfold bindC;rw[L9 fun v hv=>(dG.mp nd).1 (qe hv).1,if_neg hk];simp
 |p::P,w::vs,i+1,m,nd,h1,h2,hk=>by
  show bindC kindOf ((p,w)::P.zip vs) m x=_;unfold bindC;exact L7 (i:=i) (dG.mp nd).2 (by simpa using h1) (by simpa using h2) hk
def start(N:List Ξ)(vs:List V):St:=vs.map some++bF (N.length-vs.length) none
def tp(CX:sj)(P:aw)(w:aG)(K:PySem.W.Frag)(mg:Ξ->Option δ)(base:Heap)(N:List Ξ)(qual:Ξ)(scope:iE)(f:η)(cd:δ)(A:aR)(outer:List jk)(s:ζ)(H:Hp)(E:XK):Cx where
 prog:=P
 w:=w
 K:=K
 mg:=mg
 base:=base
 A:=A.deeper (envOfC qual scope s.heap.objs.size f cd)
 N:=N
 s₀:=s
 H₀:=H
 env:=envOfC qual scope s.heap.objs.size f cd
 outer:=outer
 stack:=envOfC qual scope s.heap.objs.size f cd::outer
 ex:=[]
 calm:=true
 fn:=fun _=>true
 pn:=[]
 xe:=fun e s'=>π (model P w) (A.deeper (envOfC qual scope s.heap.objs.size f cd)) (leaving (envOfC qual scope s.heap.objs.size f cd) e) (fun _ s''=>CX outer H s E e s'') (fun e' s''=>CX outer H s E e' s'') s'
theorem L6{sc:iE}{n:Nat}{x:Ξ}(h:sc.names.lookup x=some .cell):∃c,(cellsFrom n sc.names []).lookup x=some c:=by
 have q:=PySem.W.cellsFrom_some sc.names n [] (.inl h);exact Option.isSome_iff_exists.mp q
theorem VA{CX:sj}{P:aw}{w:aG}{K:PySem.W.Frag}{mg:Ξ->Option δ}{base:Heap}{N ps:List Ξ}{qual:Ξ}{scope:iE}{f:η}{cd:δ}{A:aR}{outer:List jk}{s s1:ζ}{H:Hp}{E:XK}{us:List δ}{vs:List V}
  (S:bL N ps scope) (hd:A.handled=none) (e0:CC P w K mg base A outer s H) (hl:vs.length=ps.length) (r:bo vs us)
  (x:InCallC s s.heap.objs.size (bindL (envOfC qual scope s.heap.objs.size f cd).kindOf (ps.zip us) fun _=>none) (cellsFrom (s.heap.objs.size+1) scope.names []) (bindC (envOfC qual scope s.heap.objs.size f cd).kindOf (ps.zip us) fun _=>none) s1):
  Inv (tp CX P w K mg base N qual scope f cd A outer s H E) [] (start N vs) H s1:=by
 have hpl:ps.length≤N.length:=by have:=congrArg bR S.pre;rw[bA] at this;lia
 obtain⟨h1,tk,rfl,hk⟩:=x.done;have noA:∀b:η,b∉(tp CX P w K mg base N qual scope f cd A outer s H E).ex:=fun b z=>absurd (show b∈([]:List η) from z) (by simp);refine⟨⟨e0.mod,S.kind,rfl,rfl,υ _,fun y z c h1 h2=>?_,fun y hy=>?_,fun y c _ h=>?_,fun _=>hd,aR.frames_deeper e0.frames,.inr ⟨rfl,rfl⟩,fun b z=>absurd z (noA b),e0.bs,e0.vm,fun b _ _=>noA b,fun b z=>absurd z (noA b),e0.nN,e0.yC⟩,
  rfl,e0.bare,Un.kept hk,⟨_,x.toInCall.ns,fun i y v h1 h2 h3=>?_⟩,fun y c h=>⟨_,x.cell y c h⟩,e0.cB.fresh (υ _),fun y c h=>?_,fun p hp=>absurd (show p∈([]:List (η×br)) from hp) (by simp),e0.cB.kept hk,?_⟩
 ·exact name_of_addr x.apart (PySem.mem_of_lookup h1) (PySem.mem_of_lookup h2)
 ·have hy:scope.names.lookup y=some .cell∨scope.names.lookup y=some .free:=hy;rcases hy with hy|hy
  ·exact L6 hy
  ·exact absurd rfl (S.MB _ (PySem.mem_of_lookup hy))
 ·exact ki (x.above y c (PySem.mem_of_lookup h))
 ·have hi:i<vs.length:=by
   unfold start at h2;by_cases hi:i<vs.length
   ·exact hi
   ·rw[bD (by simpa using hi)] at h2;rw[pP] at h2;split at h2<;>cases h2
  have ha:vs[i]?=some v:=by
   unfold start at h2;rw[cN (by simpa using hi),az] at h2;cases e:vs[i]? with
   |none=>rw[e] at h2;cases h2
   |some a=>rw[e] at h2;cases h2;rfl
  obtain⟨u,hu,rv⟩:=r.get ha;have hp:ps[i]?=some y:=by
   rw[←S.pre,fQ (by lia)];exact h1
  have ndP:ps.Nodup:=by rw[←S.pre];exact S.nd.sublist (dB _ _)
  refine⟨u,rv,?_⟩;rcases S.par y (bG hp) with k|k
  ·exact .inl ⟨k,L8 ndP hp hu k⟩
  ·obtain⟨c,e⟩:=L6 (n:=s.heap.objs.size+1) k;refine .inr ⟨.inl k,c,e,?_⟩;have q:=x.cell y c e;rw[L7 ndP hp hu (by show scope.names.lookup y≠_;rw[k];decide)] at q;exact q
 ·exact e0.cB.fresh (ki (x.above y c (PySem.mem_of_lookup h)))
 ·unfold start;show _=N.length;rw[ξ,ε,lK];lia
theorem Vz{CX:sj}{P:aw}{w:aG}{K:PySem.W.Frag}{mg:Ξ->Option δ}{base:Heap}{k:Nat}{f:η}{name qual:Ξ}{params:Arguments}{body:List bp}{scope:iE}{dV kV doc pm cdv ct oc:δ}{an od:Option η}
  {osl:Array (Option δ)} {N ps:List Ξ} {sp:Sp} (lk:K.lookup f=some ⟨oc,od,.func (PySem.W.fnOf name qual params body scope dV kV doc pm an cdv ct),osl⟩) (qS:PySem.W.codeIn K cdv qual=true) (S:bL N ps scope)
  (len:∀vs H Q E,sp vs H Q E->vs.length=ps.length)
  (rQ:∀(A:aR) (outer:List jk) (s:ζ) (H:Hp) (vs:List V) (Q:VK) (E:XK),g4 k (A.deeper (envOfC qual scope s.heap.objs.size f cdv))->sp vs H Q E ->
   ∃t,om (tp CX P w K mg base N qual scope f cdv A outer s H E) body t/\t { nx:=fun _ H'=>Q .aF H',rt:=Q } (start N vs) H):
  kF P w K mg base CX (k+1) f (PySem.W.fnOf name qual params body scope dV kV doc pm an cdv ct) ps sp:=by
 refine⟨len,fun A outer s H args us vs Q E hr e0 hb r wC=>?_⟩;have hl:=len _ _ _ _ wC;have KX:K.In s.heap:=e0.mod.Gk.keeps fun b o e=>(e0.bs b o e).1;have lim:s.heap.NoLimit:=e0.mod.nolimit.keeps fun b o e=>(e0.bs b o e).1;have hkind:∀y∈ps.zip us,scope.names.lookup y.1=some .local∨(scope.names.lookup y.1=some .cell/\((cellsFrom (s.heap.objs.size+1) scope.names []).lookup y.1).isSome=true):=fun⟨n,v⟩ hy=>by
  rcases S.par n (qe hy).1 with q|q
  ·exact .inl q
  ·exact .inr ⟨q,PySem.W.cellsFrom_some _ _ _ (.inl q)⟩
 refine codeAny_call_function hr.depth (KX _ _ lk) rfl S.co S.gen rfl (PySem.W.codeRec_of KX qS) (hb _ _ _ _ ?_);refine wpAny_newFunctionEnv_cells S.kind hkind fun env he s1 x=>?_;subst he;refine⟨lim.keeps x.toInCall.keep,codeAny_func ?_⟩;obtain⟨t,ht,hq⟩:=rQ A outer s H vs Q E (hr.deeper _) wC;have I:Inv (tp CX P w K mg base N qual scope f cdv A outer s H E) [] (start N vs) H s1:=VA S hr.hd e0 hl r x;refine ee (ht [] s1 (start N vs) H _ I hq) (fun fl s' hs=>?_) fun e s' hs=>hs;have fin:∀{σ':St} {H':Hp} {v:V} {u:δ},Inv (tp CX P w K mg base N qual scope f cdv A outer s H E) [] σ' H' s'->RelV v u->Q v H'->CE outer P w H s Q u s':=
  fun {σ' H' v u} J rv q=>⟨v,H',J.os,J.bare,J.base,J.cB,rv,q⟩
 cases fl with
 |ret u=>
  obtain⟨v,σ',H',J,rv,q⟩:=hs;exact fin J rv q
 |next=>
  obtain⟨σ',H',J,q⟩:=hs;exact fin (v:=V.aF) (u:=bT) J rfl q
 |brk=>
  obtain⟨_,_,_,q⟩:=hs;exact gT q
 |cont=>
  obtain⟨_,_,_,q⟩:=hs;exact gT q
end L2
namespace L2
open PySem PySem.Spec PyProof.Rows
section
variable {X:Cx} {x:Ξ} {p pos:aP} {e:ρ} {es:List ρ} {t:TA} {id T:String} {r:List V->Hp->VK->Prop}
def Fz(r:List V->Hp->VK->Prop)(t:TA):TE:=fun σ H Q=>t σ H fun vs H1=>r vs H1 Q
theorem lh(hc:gP X (.builtin id) r)(hg:Gl X x)(hm:X.mg x=none)(hv:g6 x=some (.builtin id))(ha:PA X (e::es) t)(hn:x≠"__name__":=by decide)(hdb:(x==("__debug__":Ξ))=false:=by decide)
  (he:b8 (e::es) X.env=(false,eval e X.env)::b8 es X.env:=by rfl) (hpl:(backTo pos (b8 es X.env)).any (·.1)=false:=by rfl):PE X (.Call (.Name x p) (e::es) [] pos) (Fz r t):=by
 intro pins s σ H Q I h;refine nv (uC I hg hm hv ?_ hn hdb);exact PyProof.Rows.callWith_builtin1 (bP (ha pos pins s σ H _ I h) fun us s1 ⟨vs,H1,I1,r1,q1⟩=>hc pins s1 σ H1 vs us Q I1 r1 q1) he hpl
theorem L5(hc:gP X (.type T) r)(hg:Gl X x)(hm:X.mg x=none)(hv:g6 x=some (.type T))(ha:PA X (e::es) t)(hn:x≠"__name__":=by decide)(hdb:(x==("__debug__":Ξ))=false:=by decide)
  (he:b8 (e::es) X.env=(false,eval e X.env)::b8 es X.env:=by rfl) (hpl:(backTo pos (b8 es X.env)).any (·.1)=false:=by rfl):PE X (.Call (.Name x p) (e::es) [] pos) (Fz r t):=by
 intro pins s σ H Q I h;refine nv (uC I hg hm hv ?_ hn hdb);exact fb (bP (ha pos pins s σ H _ I h) fun us s1 ⟨vs,H1,I1,r1,q1⟩=>hc pins s1 σ H1 vs us Q I1 r1 q1) he hpl
end
end L2
namespace HT
open PySem PyProof.Rows
def lexLt:List Int->List Int->Bool
 |[],[]=>false
 |[],_::_=>true
 |_::_,[]=>false
 |x::xs,y::ys=>if x=y then lexLt xs ys else decide (x<y)
theorem L4(x y:Int)(xs ys:List Int):lexLt (x::xs) (y::ys)=if x=y then lexLt xs ys else decide (x<y):=rfl
theorem L1:lexLt [] []=false:=rfl
theorem L0(y:Int)(ys:List Int):lexLt [] (y::ys)=true:=rfl
theorem LZ(x:Int)(xs:List Int):lexLt (x::xs) []=false:=rfl
theorem LY(A:aR)(s:ζ)(a:Int)(t:kz)(c:Int)(u:kz):∃e,vt A s (.int a t) (.int c u) e/\(e=true↔a=c):=
 ⟨(a==c),tu a t c u,by simp⟩
theorem Vy(A:aR)(s:ζ)(a:Int)(t:kz)(c:Int)(u:kz)(prog:aw)(w:aG)(E:δ->ζ->Prop)(Q:δ->ζ->Prop)(h:Q (.bool (decide (a<c))) s):
  π (model prog w) A (iM .Lt (.int a t) (.int c u)) Q E s:=
 (PyProof.Rows.lt_int h:π (model prog w) A (compareOp .Lt (.int a t) (.int c u)) Q E s)
section
open PySem.SeqAt
open PySem.AutoSeq1 (wpAny_loadPart')
open PySem.MeetsSeq PySem.MeetsSeq2 PySem.MeetsSeq3
theorem Vx(l b:η)(items items2:Array δ)(n n2:Nat)(dd dd2:Option η)(sl sl2:Array (Option δ))(ns ms:List Int)(hi:dg items.toList ns)(hj:dg items2.toList ms):
  Meets (gm.«tuple.__lt__» ⟨[.ref l,.ref b],[]⟩)
   (fun _ R s=>s.heap.get? l=some { cls:=.type "tuple",dict:=dd,data:=.seq items n,slots:=sl }/\s.heap.get? b=some { cls:=.type "tuple",dict:=dd2,data:=.seq items2 n2,slots:=sl2 } ∧
    R (.ok (.ret (.bool (lexLt ns ms)))) s):=
 .of_wp fun prog w A R s h=>by
  obtain⟨hp,g,d,tk,os⟩:=s;obtain⟨hl,hb,h⟩:=h;have f2:=hZ;have z1:items.size=ns.length:=by rw[←hi.length];simp
  have z2:items2.size=ms.length:=by rw[←hj.length];simp
  wp_walk using wpAny_loadPart' hl,wpAny_loadPart' hb,ls _ (fun rest b s'=>b.1=none/\s'=⟨hp,g,d,tk,os⟩/\∃(vs ws:List δ) (ns' ms':List Int),rest=vs.zip ws ∧
   dg vs ns'/\dg ws ms'/\ns'.length+items2.size=ms'.length+items.size/\R (.ok (.ret (.bool (lexLt ns' ms')))) ⟨hp,g,d,tk,os⟩) _
  case turn=>
   rintro⟨y,x⟩ rest b s' ⟨hb',rfl,vs,ws,ns',ms',hz,hvi,hwi,hlen,hR⟩;cases hvi with
   |nil=>rw[kH] at hz;cases hz
   |cons a t hvi'=>
    cases hwi with
    |nil=>rw[km] at hz;cases hz
    |cons c u hwi'=>
     rw[dJ] at hz;injection hz with hyx hrest;injection hyx with hy hx;subst hy hx;rw[L4] at hR;simp only[ag] at hlen;obtain⟨e,he,hiff⟩:=LY A.in1 ⟨hp,g,d,tk,os⟩ a t c u;refine γ (he prog w _ _ ?_);cases e with
     |true=>
      rw[if_pos (hiff.mp rfl)] at hR;wp_walk;exact⟨rfl,rfl,_,_,_,_,hrest,hvi',hwi',by lia,hR⟩
     |false=>
      rw[if_neg (fun q=>absurd (hiff.mpr q) ak)] at hR;have hri:=Vy A.in1 ⟨hp,g,d,tk,os⟩ a t c u prog w;wp_walk using hri;exact⟨_,rfl,by simpa using hR⟩
  case fin=>
   rintro⟨b1,b2⟩ s' ⟨hb',rfl,vs,ws,ns',ms',hz,hvi,hwi,hlen,hR⟩;simp only at hb';subst hb';have hv:lexLt ns' ms'=decide (items.size<items2.size):=by
    cases hvi with
    |nil=>
     cases hwi with
     |nil=>
      simp only[bO] at hlen;rw[L1];exact (decide_eq_false (by lia)).symm
     |cons c u hw=>
      simp only[bO,ag] at hlen;rw[L0];exact (decide_eq_true (by lia)).symm
    |cons a t hv=>
     cases hwi with
     |nil=>
      simp only[bO,ag] at hlen;rw[LZ];exact (decide_eq_false (by lia)).symm
     |cons c u hw=>
      rw[dJ] at hz;cases hz
   rw[hv] at hR;wp_walk;exact⟨_,rfl,by simpa [fI] using hR⟩
  case h=>
   exact⟨rfl,rfl,items.toList,items2.toList,ns,ms,rfl,hi,hj,by lia,h⟩
end
section
variable {prog:aw} {w:aG} {A:aR} {E:δ->ζ->Prop} {s:ζ}
theorem oC{l b:η}{items items2:Array δ}{ns ms:List Int}{Q:δ->ζ->Prop}(hl:gS s.heap l items)(hb:gS s.heap b items2)(hi:dg items.toList ns)(hj:dg items2.toList ms)
  (hu:A.units<cLine) (h:Q (.bool (lexLt ns ms)) s):π (model prog w) A (compareOp .Lt (.ref l) (.ref b)) Q E s:=by
 obtain⟨⟨cls,dd,data,sl⟩,ho,hc,n,hd⟩:=id hl;obtain⟨⟨cls2,dd2,data2,sl2⟩,ho2,hc2,n2,hd2⟩:=id hb;simp only at hc hd hc2 hd2;subst hc hd hc2 hd2;exact iL (op:=.Lt) ⟨_,ho,rfl⟩ ⟨_,ho2,rfl⟩ PySem.F.slot_tuple_lt PySem.F.entry_tuple_lt (PySem.F.args_tuple_lt_2 _ _) (Vx l b items items2 n n2 dd dd2 sl sl2 ns ms hi hj)
  ⟨ho,ho2,show fw (lexLt ns ms)≠jw/\Q (.bool (lexLt ns ms)) s from⟨(fun x=>nomatch x),h⟩⟩ hu
theorem Ht{t b:η}{vs ws:List δ}{Q:δ->ζ->Prop}(ht:gS s.heap t vs.toArray)(hb:gS s.heap b ws.toArray)(hv:vs≠[])
  (h1:ws=[]->Q (.ref t) s) (h2:ws≠[]->Q (.ref s.heap.objs.size) { s with heap:=s.heap.push { cls:=.type "tuple",data:=.seq (vs++ws).toArray }})
  (hsz:vs.length+ws.length≤ao):π (model prog w) A (binaryOp .Add (.ref t) (.ref b)) Q E s:=by
 obtain⟨⟨cls,dd,data,sl⟩,ho,hc,n,hd⟩:=id ht;obtain⟨⟨cls2,dd2,data2,sl2⟩,ho2,hc2,n2,hd2⟩:=id hb;simp only at hc hd hc2 hd2;subst hc hd hc2 hd2;have e:vs.toArray++ws.toArray=(vs++ws).toArray:=by simp
 by_cases hw:ws=[]
 ·exact concat_meets ⟨_,ho,rfl⟩ ⟨_,ho2,rfl⟩ pA sk PySem.F.slot_tuple_add PySem.F.entry_tuple_add (PySem.F.args_tuple_add_2 _ _)
   (tuple_addW1 t b vs.toArray ws.toArray n n2 dd dd2 sl sl2 (by simpa using hv) (by simp[hw])) ⟨ho,ho2,h1 hw⟩
 ·refine concat_meets ⟨_,ho,rfl⟩ ⟨_,ho2,rfl⟩ pA sk PySem.F.slot_tuple_add PySem.F.entry_tuple_add (PySem.F.args_tuple_add_2 _ _)
   (tuple_addW2 t b vs.toArray ws.toArray n n2 dd dd2 sl sl2 (by simpa using hv) (by simpa using hw) (by rw[Γ,Γ];exact hsz)) ⟨ho,ho2,?_⟩
  rw[e];exact h2 hw
def cC(n d:Nat):Option Int->Nat
 |none=>d
 |some v=>if v<0 then (v+(n:Int)).toNat else min v.toNat n
theorem xn(n d:Nat):cC n d none=d:=rfl
theorem za(n d k:Nat):cC n d (some (k:Int))=min k n:=by
 show (if (k:Int)<0 then ((k:Int)+(n:Int)).toNat else min (k:Int).toNat n)=min k n;rw[if_neg (by lia),bz]
theorem Vw(n d:Nat)(hd:d≤n)(o:Option Int):cC n d o≤n:=by
 cases o with
 |none=>exact hd
 |some v=>
  show (if v<0 then (v+(n:Int)).toNat else min v.toNat n)≤n;by_cases hv:v<0
  ·rw[if_pos hv];lia
  ·rw[if_neg hv];exact Nat.min_le_right _ _
theorem LX(v:Int)(n d:Nat):(if v<0 then max (v+(n:Int)) 0 else min v (n:Int))=((cC n d (some v):Nat):Int):=by
 show (if v<0 then max (v+(n:Int)) 0 else min v (n:Int))=(((if v<0 then (v+(n:Int)).toNat else min v.toNat n):Nat):Int);by_cases hv:v<0
 ·simp only[if_pos hv];lia
 ·simp only[if_neg hv];lia
theorem Vv(lo hi:Option Int)(n:Nat):jT lo hi 1 (n:Int)=(((cC n 0 lo:Nat):Int),((cC n n hi:Nat):Int)):=by
 have h1:¬((1:Int)<0):=by lia
 unfold jT;simp only[h1,if_false];refine uK ?_ ?_
 ·cases lo with
  |none=>rfl
  |some v=>exact LX v n 0
 ·cases hi with
  |none=>rfl
  |some v=>exact LX v n n
theorem Vu(i j:Nat):gV (i:Int) (j:Int) 1=j-i:=by
 unfold gV;have h1:(1:Int) > 0:=by lia
 simp only[h1,if_true,Int.ediv_one];split<;>lia
theorem LW{v:δ}{o:Option Int}{Q:Option Int->ζ->Prop}(p:mE v o)(h:Q o s):π (model prog w) A (gm.Slice.slicePartIndex v) Q E s:=by
 cases p with
 |none=>exact slicePart_none h
 |int i t=>exact slicePart_int h
theorem oT{sl:η}{vl vu:δ}{lo hi:Option Int}{n:Nat}{Q:Int×Int×Nat->ζ->Prop}(hs:s.heap.IsSliceOf sl vl vu .none)(pl:mE vl lo)(pu:mE vu hi)
  (h:Q (((cC n 0 lo:Nat):Int),1,cC n n hi-cC n 0 lo) s):π (model prog w) A (nZ (.ref sl) (pure (n:Int))) Q E s:=by
 obtain⟨os,hos,hcs,hds⟩:=id hs;unfold nZ gm.Slice.sliceFields;refine γ (γ (dZ hos hds (x:=vl) rfl (γ (dZ hos hds (x:=vu) rfl (γ (dZ hos hds (x:=.none) rfl (ι ?_)))))));refine γ (slicePart_none ?_);show π _ _ (if ((1:Int)==0)=true then _ else _) _ _ s;rw[if_neg (by decide)];refine γ (LW pl (γ (LW pu (γ (ι ?_)))));show π _ _ (match jT lo hi 1 (n:Int) with|(lo,hi)=>pure (lo,(1:Int),gV lo hi 1)) _ _ s
 rw[Vv lo hi n];show π _ _ (pure (((cC n 0 lo:Nat):Int),(1:Int),gV ((cC n 0 lo:Nat):Int) ((cC n n hi:Nat):Int) 1)) _ _ s;rw[Vu];exact ι h
theorem Vt(xs:Array δ)(i k:Nat):((av k).filterMap fun (m:Nat)=>xs[((i:Int)+(m:Int)*1).toNat]?).toArray=((xs.toList.drop i).take k).toArray:=by
 have e:(fun (m:Nat)=>xs[((i:Int)+(m:Int)*1).toNat]?)=fun m=>xs[i+m]?:=by
  funext m;have:((i:Int)+(m:Int)*1).toNat=i+m:=by lia
  rw[this]
 rw[e];have:=pick_run xs i k;rw[List.filterMap_map] at this;have e2:((fun x=>xs[x]?) ∘ fun x=>i+x)=fun m=>xs[i+m]?:=rfl;rw[e2] at this;rw[this]
theorem tZ{t sl:η}{items:Array δ}{vl vu:δ}{lo hi:Option Int}{Q:δ->ζ->Prop}(ht:gS s.heap t items)(hs:s.heap.IsSliceOf sl vl vu .none)(pl:mE vl lo)(pu:mE vu hi)
  (hw:¬(cC items.size 0 lo=0/\cC items.size items.size hi=items.size))
  (h:Q (.ref s.heap.objs.size) { s with heap:=s.heap.push { cls:=.type "tuple",data:=.seq ((items.toList.drop (cC items.size 0 lo)).take (cC items.size items.size hi-cC items.size 0 lo)).toArray }})
  (hsz:items.size≤ao):π (model prog w) A (getItem (.ref t) (.ref sl)) Q E s:=by
 have htake:sizeOk (.seq ((items.toList.drop (cC items.size 0 lo)).take (cC items.size items.size hi-cC items.size 0 lo)).toArray):=by
  show ((items.toList.drop (cC items.size 0 lo)).take (cC items.size items.size hi-cC items.size 0 lo)).toArray.size≤ao;rw[Γ,bA,aV,aS];lia
 have hj:cC items.size items.size hi≤items.size:=Vw _ _ (υ _) hi;obtain⟨os,hos,hcs,hds⟩:=id hs;have hTs:s.TypeIs (.ref sl) "slice":=⟨os,hos,hcs⟩;unfold getItem
 try with_reducible refine cx ?_
 first|refine γ (ι ?_)|skip
 refine γ (wpAny_sequenceKey ht.typeIs (by decide) ?_);refine γ (bW (name:=fm "__getitem__") ht.typeIs dj
  (bU dj ht.typeIs entry_tuple_getitem ?_ (args_tuple_getitem _ _)))
 show π _ _ (nY (.ref t) >>= _) _ _ s;refine γ (tupleItemsOf_ ht ?_);refine γ (ke hTs ?_);rw[if_pos (by decide)];refine γ (oT hs pl pu ?_);have nr:¬((((cC items.size 0 lo:Nat):Int)==0&&(1:Int)==1&&(cC items.size items.size hi-cC items.size 0 lo)==items.size)=true):=by
  intro q;rw[bV,bV] at q;have q1:((cC items.size 0 lo:Nat):Int)=0:=eq_of_beq q.1.1;have q2:cC items.size items.size hi-cC items.size 0 lo=items.size:=eq_of_beq q.2;exact hw ⟨by lia,by lia⟩
 show π _ _ (if (((cC items.size 0 lo:Nat):Int)==0&&(1:Int)==1&&(cC items.size items.size hi-cC items.size 0 lo)==items.size)=true then _ else _) _ _ s;rw[if_neg nr,Vt]
 first
  |exact γ (m:=hU _) (bx (ι ⟨_,rfl,ι h⟩) htake)
  |exact γ (m:=hU _) (bx (γ (ι (ι ⟨_,rfl,ι h⟩))) htake)
  |exact γ (γ (m:=hU _) (bx (ι (ι ⟨_,rfl,ι h⟩)) htake))
  |exact γ (γ (m:=hU _) (bx (ι ⟨_,rfl,ι h⟩) htake))
end
end HT
namespace L2
open PySem PySem.Spec PyProof.Rows
abbrev TO:=St->Hp->(Option Int->Hp->Prop)->Prop
def PO(X:Cx)(e:Option ρ)(t:TO):Prop:=
 ∀(pins:List (η×br)) (s:ζ) (σ:St) (H:Hp) (Q:Option Int->Hp->Prop),Inv X pins σ H s->t σ H Q ->
  π (model X.prog X.w) X.A (evalPart e X.env) (fun u s'=>∃o H',Inv X pins σ H' s'/\mE u o/\Q o H') X.xe s
def Hm:TO:=fun _ H Q=>Q none H
def Nq(t:TE):TO:=fun σ H Q=>t σ H fun x H1=>∃i,x=.int i/\Q (some i) H1
theorem intsAre_of{ns:List Int}:∀{us:List δ},bo (ns.map V.int) us->dg us ns:=by
 induction ns with
 |nil=>intro us r;rw[List.map_nil] at r;cases r;exact .nil
 |cons n ns ih=>
  intro us r;rw[aZ] at r;cases r with
  |cons r1 r2=>
   obtain⟨t,e⟩:=r1;subst e;exact .cons n t (ih r2)
section
variable {X:Cx} {e:ρ} {te:TE} {lo hi:Option ρ} {tl th:TO} {pos p2:aP}
theorem Vs:PO X none Hm:=by
 intro pins s σ H Q I h;rw[evalPart_none];exact ι ⟨none,H,I,.none,h⟩
theorem Vr(h:PE X e te):PO X (some e) (Nq te):=by
 intro pins s σ H Q I hw;rw[evalPart_some];refine bP (h pins s σ H _ I hw) fun u s1 ⟨x,H1,I1,r1,q1⟩=>?_;obtain⟨i,rfl,q⟩:=q1;obtain⟨t,rfl⟩:=r1;exact⟨some i,H1,I1,.int i t,q⟩
def wK(X:Cx)(r:V->Option Int->Option Int->Hp->VK->Prop):Prop:=
 ∀(pins:List (η×br)) (s:ζ) (σ:St) (H:Hp) (x:V) (v vl vu:δ) (lo hi:Option Int) (sl:η) (Q:VK),Inv X pins σ H s->RelV x v->s.heap.IsSliceOf sl vl vu .none->mE vl lo->mE vu hi->r x lo hi H Q ->
  ∃T id,typeLookup (.type T) "__getitem__" = pure (some (.builtin id))/\s.TypeIs v T/\π (model X.prog X.w) X.A (getItem v (.ref sl)) (EP X pins σ Q) X.xe s
theorem wK.or{r r':V->Option Int->Option Int->Hp->VK->Prop}(h:wK X r)(h':wK X r'):wK X (fun x lo hi H Q=>r x lo hi H Q∨r' x lo hi H Q):=by
 intro pins s σ H x v vl vu lo hi sl Q I rx hs pl pu q;rcases q with q|q
 ·exact h pins s σ H x v vl vu lo hi sl Q I rx hs pl pu q
 ·exact h' pins s σ H x v vl vu lo hi sl Q I rx hs pl pu q
def tSl(r:V->Option Int->Option Int->Hp->VK->Prop)(te:TE)(tl th:TO):TE:=fun σ H Q=>te σ H fun x H1=>tl σ H1 fun l H2=>th σ H2 fun u H3=>r x l u H3 Q
theorem Vq{r:V->Option Int->Option Int->Hp->VK->Prop}(hr:wK X r)(he:PE X e te)(hl:PO X lo tl)(hu:PO X hi th):PE X (.Subscript e (.Slice lo hi none p2) pos) (tSl r te tl th):=by
 intro pins s σ H Q I h;refine Subscript_ (bP (he pins s σ H _ I h) fun v s1 ⟨x,H1,I1,r1,q1⟩=>?_);refine wpAny_Slice (bP (hl pins s1 σ H1 _ I1 q1) fun vl s2 ⟨l,H2,I2,pl,q2⟩=>bP (hu pins s2 σ H2 _ I2 q2) fun vu s3 ⟨u,H3,I3,pu,q3⟩=>?_);rw[evalPart_none];refine ι ?_;have I4:Inv X pins σ H3 { s3 with heap:=s3.heap.push { cls:=.type "slice",data:=.fields #[vl,vu,.none]}}:=I3.kept (t':=s3.toks) fun b ob q=>Heap.get?_push_of_some _ q;obtain⟨T,id,hT,ht,hg⟩:=hr pins { s3 with heap:=s3.heap.push { cls:=.type "slice",data:=.fields #[vl,vu,.none]}} σ H3 x v vl vu l u s3.heap.objs.size Q I4 r1 (Heap.IsSliceOf.new ..) pl pu q3;show π (model X.prog X.w) X.A (subscriptTail e (.Slice lo hi none p2) v (.ref s3.heap.objs.size)) (EP X pins σ Q) X.xe { s3 with heap:=s3.heap.push { cls:=.type "slice",data:=.fields #[vl,vu,.none]}};exact tail_any (ops:=[.ref s3.heap.objs.size,v]) ht hT hg (by with_unfolding_all rfl)
def tq(xs:List V)(lo hi:Option Int):List V:=(xs.drop (HT.cC xs.length 0 lo)).take (HT.cC xs.length xs.length hi-HT.cC xs.length 0 lo)
theorem LV(xs:List V)(lo hi:Option Int):(tq xs lo hi).length≤xs.length:=by
 unfold tq;rw[bA,aV];lia
def OQ(K:PySem.W.Frag):V->Option Int->Option Int->Hp->VK->Prop:=fun x lo hi H Q=>∃a xs,x=.ref a/\cK K H a xs ∧
 ¬(HT.cC xs.length 0 lo=0/\HT.cC xs.length xs.length hi=xs.length)/\∀p,H p=none->Q (.ref p) (upd H p (.tup (tq xs lo hi)))
theorem HG:wK X (OQ X.K):=by
 intro pins s σ H x v vl vu lo hi sl Q I rx hs pl pu h;obtain⟨a,xs,rfl,hx,hw,q⟩:=h;cases rx;obtain⟨its,r,ht,hz⟩:=I.tuple hx;have hlen:its.toArray.size=xs.length:=by rw[Γ];exact r.length.symm
 refine⟨"tuple",_,dj.lookup,ht.typeIs,?_⟩;refine HT.tZ ht hs pl pu (by rw[hlen];exact hw) ?_ (by rw[hlen];exact hz);rw[hlen];refine⟨.ref s.heap.objs.size,_,I.laid (t':=s.toks) (o:=.tup (tq xs lo hi)) (fun b ob q=>Heap.get?_push_of_some _ q) (υ _) ?_,rfl,q _ (I.cB.fresh (υ _))⟩;exact⟨aD (LV xs lo hi) hz,_,(r.drop (HT.cC xs.length 0 lo)).take (HT.cC xs.length xs.length hi-HT.cC xs.length 0 lo),kP.new _ _⟩
def HK(K:PySem.W.Frag):R2:=fun x y H Q=>∃a b ns ms,x=.ref a/\y=.ref b/\cK K H a (ns.map V.int)/\cK K H b (ms.map V.int)/\Q (.bl (HT.lexLt ns ms)) H
theorem Vp(hu:X.A.units<cLine):eO X (compareOp .Lt) (HK X.K):=by
 intro pins s σ H x y v u Q I rx ry h;obtain⟨a,b,ns,ms,rfl,rfl,ha,hb,q⟩:=h;cases rx;cases ry;obtain⟨its,r1,p1,_⟩:=I.tuple ha;obtain⟨its2,r2,p2,_⟩:=I.tuple hb;have i1:dg its.toArray.toList ns:=intsAre_of r1;have i2:dg its2.toArray.toList ms:=intsAre_of r2;exact HT.oC p1 p2 i1 i2 hu ⟨.bl (HT.lexLt ns ms),H,I,rfl,q⟩
def FP(K:PySem.W.Frag):R2:=fun x y H Q=>∃a b xs ys,x=.ref a/\y=.ref b/\cK K H a xs/\cK K H b ys/\xs≠[]/\xs.length+ys.length≤ao ∧
 (ys=[]->Q (.ref a) H)/\(ys≠[]->∀p,H p=none->Q (.ref p) (upd H p (.tup (xs++ys))))
theorem bo.wc{xs:List V}{us:List δ}(r:bo xs us):us=[]↔xs=[]:=by
 cases r with
 |nil=>simp
 |cons _ _=>simp
theorem Hq:eO X (binaryOp .Add) (FP X.K):=by
 intro pins s σ H x y v u Q I rx ry h;obtain⟨a,b,xs,ys,rfl,rfl,ha,hb,hx,hz,q1,q2⟩:=h;cases rx;cases ry;obtain⟨its,r1,p1,_⟩:=I.tuple ha;obtain⟨its2,r2,p2,_⟩:=I.tuple hb;refine HT.Ht p1 p2 (fun z=>hx (r1.wc.mp z)) (fun z=>⟨.ref a,H,I,rfl,q1 (r2.wc.mp z)⟩) (fun z=>?_) (by rw[←r1.length,←r2.length];exact hz);refine⟨.ref s.heap.objs.size,_,I.laid (t':=s.toks) (o:=.tup (xs++ys)) (fun b ob q=>Heap.get?_push_of_some _ q) (υ _) ?_,rfl,q2 (fun w=>z (r2.wc.mpr w)) _ (I.cB.fresh (υ _))⟩;exact⟨by rw[ξ];exact hz,_,r1.append r2,kP.new _ _⟩
end
end L2
namespace L2
open PySem PySem.Spec PyProof.Rows
def qQ(n:Nat)(i:Int):Option Nat:=if 0≤i then (if i<n then some i.toNat else none) else if -(n:Int)≤i then some (i+n).toNat else none
def jL{α:Type}(xs:List α)(i:Int):Option α:=(qQ xs.length i).bind fun j=>xs[j]?
theorem Mt{n:Nat}{i:Int}{j:Nat}(h:qQ n i=some j):seqIndex? i n=some j/\j<n/\-(n:Int)≤i/\i<n:=by
 unfold qQ at h;by_cases h0:0≤i
 ·rw[if_pos h0] at h;by_cases h1:i<n
  ·rw[if_pos h1] at h;have e:i.toNat=j:=aA h;exact⟨by rw[qz h0 h1,e],by lia,by lia,h1⟩
  ·rw[if_neg h1] at h;cases h
 ·rw[if_neg h0] at h;by_cases h1:-(n:Int)≤i
  ·rw[if_pos h1] at h;have e:(i+n).toNat=j:=aA h;exact⟨by rw[seqIndex_neg (by lia) h1,e],by lia,h1,by lia⟩
  ·rw[if_neg h1] at h;cases h
theorem A0{α:Type}{xs:List α}{i:Int}{v:α}(h:jL xs i=some v):∃j,seqIndex? i xs.length=some j/\xs[j]?=some v/\j<xs.length/\-(xs.length:Int)≤i/\i<xs.length:=by
 unfold jL at h;cases e:qQ xs.length i with
 |none=>rw[e] at h;cases h
 |some j=>
  rw[e] at h;obtain⟨h1,h2,h3,h4⟩:=Mt e;exact⟨j,h1,h,h2,h3,h4⟩
theorem sU{α:Type}{xs:List α}{j:Nat}{v:α}(h:xs[j]?=some v):jL xs (j:Int)=some v:=by
 have hj:j<xs.length:=(Φ.mp h).1;have e:qQ xs.length (j:Int)=some j:=by
  unfold qQ;rw[if_pos (by lia),if_pos (by lia)];simp
 unfold jL;rw[e];exact h
def oO(b:ρ):Prop:=∀o i,subscripted b false o i=operate [o,i] (getItem o i)
def ua(X:Cx)(r:R2):Prop:=
 ∀(value slice:ρ) (pins:List (η×br)) (s:ζ) (σ:St) (H:Hp) (x y:V) (v u:δ) (Q:VK),Inv X pins σ H s->RelV x v->RelV y u->r x y H Q ->
  subscripted slice false v u=operate [v,u] (getItem v u)->π (model X.prog X.w) X.A (subscriptTail value slice v u) (EP X pins σ Q) X.xe s
def GL(X:Cx)(id:String)(r:V->List V->Hp->VK->Prop):Prop:=
 ∀(pins:List (η×br)) (s:ζ) (σ:St) (H:Hp) (x:V) (xs:List V) (v:δ) (us:List δ) (Q:VK),Inv X pins σ H s->RelV x v->bo xs us->r x xs H Q ->
  π (model X.prog X.w) X.A (call (.builtin id) (v::us)) (EP X pins σ Q) X.xe s
section
variable {X:Cx} {a b:ρ} {ta tb:TE} {pos:aP}
theorem ua.or{r r':R2}(h:ua X r)(h':ua X r'):ua X (fun x y H Q=>r x y H Q∨r' x y H Q):=by
 intro value slice pins s σ H x y v u Q I rx ry q hs;rcases q with q|q
 ·exact h value slice pins s σ H x y v u Q I rx ry q hs
 ·exact h' value slice pins s σ H x y v u Q I rx ry q hs
theorem ER{r:R2}(hr:ua X r)(ha:PE X a ta)(hb:PE X b tb)(hs:oO b):PE X (.Subscript a b pos) (CH r ta tb):=by
 intro pins s σ H Q I h;exact Subscript_ (Fp ha hb I h fun v u s2 x y H2 I2 rx ry q=>hr a b pins s2 σ H2 x y v u Q I2 rx ry q (hs _ _))
def Dl(K:PySem.W.Frag):R2:=fun x y H Q=>∃p xs i v,x=.ref p/\y=.int i/\eN K H p xs/\jL xs i=some v/\Q v H
def HP(K:PySem.W.Frag):R2:=fun x y H Q=>∃p xs i v,x=.ref p/\y=.int i/\cK K H p xs/\jL xs i=some v/\Q v H
def HQ:R2:=fun x y H Q=>∃z i c,x=.str z/\y=.int i/\z.length≤ao/\jL z.cps.toList i=some c/\Q (.str ⟨#[c]⟩) H
theorem Hs:ua X (Dl X.K):=by
 intro value slice pins s σ H x y v u Q I rx ry h hs;obtain⟨p,xs,i,z,rfl,rfl,hq,he,q⟩:=h;cases rx;obtain⟨t,rfl⟩:=ry;obtain⟨its,r,pl,hz⟩:=I.list hq;obtain⟨j,h1,h2,h3,h4,h5⟩:=A0 he;obtain⟨w,ew,rw'⟩:=r.get h2;have hl:=r.length;have hn:=o6;have fin:EP X pins σ Q w s:=⟨z,H,I,rw',q⟩;by_cases h0:0≤i
 ·have hj:i.toNat=j:=by
   rw[qz h0 h5] at h1;exact aA h1
  exact item_listR pl.isList h0 (by lia) (by rw[hj];simpa using ew) fin hs
 ·have hj:(i+(its.toArray.size:Int)).toNat=j:=by
   rw[seqIndex_neg (by lia) h4] at h1;rw[Γ,←hl];exact aA h1
  exact subscriptTail_builtinR (x:=w) pl.isList.typeIs slot_list_getitem.lookup
   (wpAny_getItem_list_neg (Q:=fun r s'=>r=w/\EP X pins σ Q r s') pl.isList (by lia) (by rw[Γ]<;>lia) (by lia) (by rw[hj];simpa using ew) ⟨rfl,fin⟩) hs
theorem MQ:ua X (HP X.K):=by
 intro value slice pins s σ H x y v u Q I rx ry h hs;obtain⟨p,xs,i,z,rfl,rfl,hq,he,q⟩:=h;cases rx;obtain⟨t,rfl⟩:=ry;obtain⟨its,r,pl,hz⟩:=I.tuple hq;obtain⟨j,h1,h2,h3,h4,h5⟩:=A0 he;obtain⟨w,ew,rw'⟩:=r.get h2;have hl:=r.length;have hn:=o6;have fin:EP X pins σ Q w s:=⟨z,H,I,rw',q⟩;exact subscriptTail_builtinR (x:=w) pl.typeIs slot_tuple_getitem.lookup
  (getItem_tuple (j:=j) (Q:=fun r s'=>r=w/\EP X pins σ Q r s') pl (by lia) (by lia) (by rw[Γ,←hl];exact h1) (by simpa using ew) ⟨rfl,fin⟩) hs
theorem Vo:ua X HQ:=by
 intro value slice pins s σ H x y v u Q I rx ry h hs;obtain⟨z,i,c,rfl,rfl,hz,he,q⟩:=h;obtain⟨t,rfl⟩:=rx;obtain⟨t',rfl⟩:=ry;obtain⟨j,h1,h2,h3,h4,h5⟩:=A0 he;have hl:z.cps.toList.length=z.length:=by simp[Ξ.length]
 rw[hl] at h1 h4 h5;have hn:=o6;exact tail_any (typeIs_str s z t) slot_str_getitem.lookup (getItem_str (c:=c) (by
  have e1:decide (i < -(2^63:Int))=false:=decide_eq_false (by lia);have e2:decide (i≥2^63)=false:=decide_eq_false (by lia);rw[e1,e2,Bool.or_false]) (by rw[h1];simpa using h2) ⟨.str ⟨#[c]⟩,H,I.tok _,⟨_,rfl⟩,q⟩) hs
def Oq(K:PySem.W.Frag):R2:=fun x y H Q=>Dl K x y H Q∨HP K x y H Q∨HQ x y H Q
theorem Ms:ua X (Oq X.K):=Hs.or (MQ.or Vo)
theorem Vn(its:List δ)(n j:Nat)(u:δ):aU (·.setIfInBounds j u) { cls:=.type "list",data:=.seq its.toArray n }={ cls:=.type "list",data:=.seq (its.set j u).toArray n }:=by
 simp[aU]
theorem Inv.lst{pins:List (η×br)}{σ:St}{H:Hp}{s:ζ}{p:η}{xs:List V}(I:Inv X pins σ H s)(h:H p=some (.lst xs)):
  ∃(its:List δ) (n:Nat),bo xs its/\s.heap.get? p=some { cls:=.type "list",data:=.seq its.toArray n }/\xs.length≤ao:=by
 obtain⟨z,its,n,r,e⟩:=I.cB p _ h;exact⟨its,n,r,e,z⟩
theorem Inv.MM{pins:List (η×br)}{σ:St}{H:Hp}{s:ζ}{p:η}{xs ys:List V}{its its':List δ}{n n':Nat}{f:br->br}(I:Inv X pins σ H s)(h:H p=some (.lst xs))
  (ho:s.heap.get? p=some { cls:=.type "list",data:=.seq its.toArray n }) (hf:f { cls:=.type "list",data:=.seq its.toArray n }={ cls:=.type "list",data:=.seq its'.toArray n' }) (r:bo ys its') (hz:ys.length≤ao) (t:Nat):
  Inv X pins σ (upd H p (.lst ys)) { s with heap:=s.heap.update p f,toks:=t }:=by
 have e:(s.heap.update p f).get? p=some { cls:=.type "list",data:=.seq its'.toArray n' }:=by
  rw[Heap.get?_update_self f ho (by rw[hf]<;>rfl),hf]
 refine I.write (x:=p) (e:=p) (by rw[h];trivial) (.inl rfl) (fun b u hb q=>(Heap.get?_update_other _ _ (eU hb)).trans q) ⟨_,e⟩ ?_;exact⟨hz,its',n',r,e⟩
def FK:V->V->V->Hp->(Hp->Prop)->Prop:=fun o i v H Q=>∃p xs k j,o=.ref p/\i=.int k/\H p=some (.lst xs)/\qQ xs.length k=some j/\Q (upd H p (.lst (xs.set j v)))
theorem set_list:Fs X FK:=by
 intro pins s σ H o i v ov iv u Q I ro ri rv h;obtain⟨p,xs,k,j,rfl,rfl,hp,hj,q⟩:=h;cases ro;obtain⟨t,rfl⟩:=ri;obtain⟨its,n,r,ho,hz⟩:=I.lst hp;obtain⟨h1,h2,h3,h4⟩:=Mt hj;have hl:=r.length;have hn:=o6;have I':Inv X pins σ (upd H p (.lst (xs.set j v))) { s with heap:=s.heap.update p (aU (·.setIfInBounds j u))}:=
  I.MM hp ho (Vn its n j u) (r.set rv j) (by rw[mC];exact hz) s.toks
 by_cases h0:0≤k
 ·have hk:k.toNat=j:=by
   rw[qz h0 h4] at h1;exact aA h1
  exact PySem.W.ki_setAt ho h0 (by lia) (by rw[Γ,←hl];exact h4) (by rw[hk];exact⟨_,I',q⟩)
 ·have hk:(k+(its.toArray.size:Int)).toNat=j:=by
   rw[seqIndex_neg (by lia) h3] at h1;rw[Γ,←hl];exact aA h1
  exact PySem.W.ki_setBack ho (by lia) (by rw[Γ,←hl];exact h3) (by lia) (by rw[hk];exact⟨_,I',q⟩)
theorem Vm(lo hi:Option Int)(n:Nat):(sliceBounds lo hi none n).1=((HT.cC n 0 lo:Nat):Int)/\(sliceBounds lo hi none n).2.1=((HT.cC n n hi:Nat):Int)/\(sliceBounds lo hi none n).2.2=1:=by
 refine⟨?_,?_,rfl⟩
 ·cases lo with
  |none=>simp[sliceBounds,HT.cC]
  |some i=>
   simp only[sliceBounds,HT.cC,uL,show (1:Int) > 0 by decide,if_true];by_cases h:i<0
   ·simp only[h,if_true]<;>lia
   ·simp only[h,if_false]<;>lia
 ·cases hi with
  |none=>simp[sliceBounds,HT.cC]
  |some i=>
   simp only[sliceBounds,HT.cC,uL,show (1:Int) > 0 by decide,if_true];by_cases h:i<0
   ·simp only[h,if_true]<;>lia
   ·simp only[h,if_false]<;>lia
theorem VW(its:List δ)(lo hi:Option Int):slicePick its.toArray lo hi none=((its.drop (HT.cC its.length 0 lo)).take (HT.cC its.length its.length hi-HT.cC its.length 0 lo)).toArray:=by
 obtain⟨h1,h2,h3⟩:=Vm lo hi its.toArray.size;unfold slicePick;rw[h1,h2,h3];simp only[sliceRange_one,pick_run,Γ]<;>rfl
def OR(K:PySem.W.Frag):V->Option Int->Option Int->Hp->VK->Prop:=fun x lo hi H Q=>∃a xs,x=.ref a/\eN K H a xs/\∀p,H p=none->Q (.ref p) (upd H p (.lst (tq xs lo hi)))
theorem VV:wK X (OR X.K):=by
 intro pins s σ H x v vl vu lo hi sl Q I rx hs pl pu h;obtain⟨a,xs,rfl,hx,q⟩:=h;cases rx;obtain⟨its,r,ht,hz⟩:=I.list hx;have hlen:=r.length;refine⟨"list",_,slot_list_getitem.lookup,ht.isList.typeIs,?_⟩;refine wpAny_getItem_list_slice ht.isList hs pl pu .none (by simp) ?_ (by rw[Γ]<;>lia)
 rw[VW,←hlen];refine⟨.ref s.heap.objs.size,_,I.laid (t':=s.toks) (o:=.lst (tq xs lo hi)) (fun b ob q=>Heap.get?_push_of_some _ q) (υ _) ?_,rfl,q _ (I.cB.fresh (υ _))⟩;exact⟨aD (LV xs lo hi) hz,_,0,(r.drop (HT.cC xs.length 0 lo)).take (HT.cC xs.length xs.length hi-HT.cC xs.length 0 lo),Heap.get?_push_size _ rfl⟩
theorem VU:gP X (.builtin "len") (fun xs H Q=>∃p ys,xs=[.ref p]/\(eN X.K H p ys∨cK X.K H p ys)/\Q (.int ys.length) H):=by
 intro pins s σ H xs us Q I r h;obtain⟨p,ys,rfl,hq,q⟩:=h;obtain⟨u,rfl,rx⟩:=vals1 r;cases rx;have hn:=o6;rcases hq with hq|hq
 ·obtain⟨its,r',pl,hz⟩:=I.list hq;have hlen:=r'.length;exact Calls.call_len_list pl.isList (by simp only[Γ]<;>lia) ⟨.int ys.length,H,I.tok _,⟨s.toks+1,by rw[Γ,hlen]⟩,q⟩
 ·obtain⟨its,r',pl,hz⟩:=I.tuple hq;have hlen:=r'.length;exact len_tuple pl (by simp only[Γ]<;>lia) ⟨.int ys.length,H,I.tok _,⟨s.toks+1,by rw[Γ,hlen]⟩,q⟩
theorem VT:gP X (.type "tuple") (fun xs H Q=>∃p ys,xs=[.ref p]/\((eN X.K H p ys/\∀l,H l=none->Q (.ref l) (upd H l (.tup ys)))∨(cK X.K H p ys/\Q (.ref p) H))):=by
 intro pins s σ H xs us Q I r h;obtain⟨p,ys,rfl,h⟩:=h;obtain⟨u,rfl,rx⟩:=vals1 r;cases rx;rcases h with⟨hq,q⟩|⟨hq,q⟩
 ·obtain⟨its,r',pl,hz⟩:=I.list hq;have hlen:=r'.length;refine call_tuple_list pl.isList (fun h' kp=>?_) (by simp only[Γ]<;>lia)
  have I1:Inv X pins σ H { s with heap:=h' }:=I.kept (t':=s.toks) kp;have I2:Inv X pins σ (upd H h'.objs.size (.tup ys)) { s with heap:=h'.push { cls:=.type "tuple",data:=.seq its.toArray }}:=
   I1.laid (t':=s.toks) (fun b o e=>Heap.get?_push_of_some _ e) (υ _) (show fX X.prog X.w _ _ _ (.tup ys) from⟨hz,its,r',kP.new _ _⟩)
  exact⟨.ref h'.objs.size,_,I2,rfl,q _ (I1.cB.fresh (υ _))⟩
 ·obtain⟨its,r',pl,hz⟩:=I.tuple hq;exact call_tuple_same pl ⟨.ref p,H,I,rfl,q⟩
def Oo(K:PySem.W.Frag)(T:String)(x:V)(H:Hp):Prop:=match x with
 |.str _=>T="str"
 |.int _=>T="int"
 |.ref p=>(T="list"/\∃xs,eN K H p xs)∨(T="tuple"/\∃o,K.lookup p=some o/\o.cls=.type "tuple"/\o.dict=none) ∨
   (T="dict"/\((∃kvs,H p=some (.dK kvs))∨∃kvs,H p=some (.dT kvs)))∨(T="set"/\∃S n,H p=some (.set S n))
 |_=>False
theorem VS{pins:List (η×br)}{σ:St}{H:Hp}{s:ζ}{T:String}{x:V}{v:δ}(I:Inv X pins σ H s)(r:RelV x v)(ty:Oo X.K T x H):
  s.TypeIs v T/\∀a,v=.ref a->∃ob,s.heap.get? a=some ob/\ob.dict=none:=by
 cases x with
 |str z=>
  obtain⟨t,rfl⟩:=r;cases (show T="str" from ty);exact⟨typeIs_str s z t,fun _ e=>nomatch e⟩
 |int i=>
  obtain⟨t,rfl⟩:=r;cases (show T="int" from ty);exact⟨typeIs_int s i t,fun _ e=>nomatch e⟩
 |ref p=>
  cases r;rcases ty with⟨rfl,xs,hq⟩|⟨rfl,o,hk,hc,hd⟩|⟨rfl,hk⟩|⟨rfl,S,n,hk⟩
  ·obtain⟨its,_,pl,_⟩:=I.list hq;refine⟨pl.isList.typeIs,fun a e=>?_⟩;cases e;obtain⟨o,n,e,c,hd,_⟩:=pl;exact⟨o,e,hd⟩
  ·refine⟨⟨o,I.oi p o hk,hc⟩,fun a e=>?_⟩;cases e;exact⟨o,I.oi _ o hk,hd⟩
  ·have z:∃o,s.heap.get? p=some o/\o.ExactDict:=by
    rcases hk with⟨kvs,hk⟩|⟨kvs,hk⟩
    ·obtain⟨_,_,_,_,o,_,_,e,ex,_⟩:=I.cB p _ hk;exact⟨o,e,ex⟩
    ·obtain⟨_,_,_,_,o,_,_,e,ex,_⟩:=I.cB p _ hk;exact⟨o,e,ex⟩
   obtain⟨o,e,ex⟩:=z;refine⟨⟨o,e,ex.1⟩,fun a e2=>?_⟩;cases e2;exact⟨o,e,ex.2.1⟩
  ·obtain⟨o,_,_,_,e,ex,_⟩:=I.cB p _ hk;refine⟨⟨o,e,ex.1⟩,fun a e2=>?_⟩;cases e2;exact⟨o,e,ex.2.1⟩
 |_=>exact gT ty
def HD(K:PySem.W.Frag)(T:String)(r:V->List V->Hp->VK->Prop)(to:TE)(t:TA):TE:=fun σ H Q=>to σ H fun x H1=>Oo K T x H1/\t σ H1 fun xs H2=>r x xs H2 Q
variable {o e:ρ} {es:List ρ} {to:TE} {t:TA} {name:Ξ} {apos cpos:aP} {T id:String} {r:V->List V->Hp->VK->Prop}
theorem VR(pa:PlainAttrs T)(slot:Slot T name id)(hty:typeOf (.builtin id)=pure (.type "method_descriptor"))(hm:GL X id r)(ho:PE X o to)(ha:PA X (e::es) t)
  (rR:attributeBase o name X.env (eval o X.env)=eval o X.env:=by rfl)
  (EZ:((backTo cpos (b8 (e::es) X.env)).all (fun x=>!x.1)&&(backToKw cpos (keywordEach [] X.env)).all (fun x=>x.1.isSome)
   && decide ((e::es).length+([]:List rk).length+(if ([]:List rk).isEmpty then 0 else 1)<30))=true:=by rfl)
  (rN:(apos.endLine==cpos.line)=true:=by rfl) (hs:b8 (e::es) X.env=(false,eval e X.env)::b8 es X.env:=by rfl) (hplain:(backTo cpos (b8 es X.env)).any (·.1)=false:=by rfl):
  PE X (.Call (.Attribute o name apos) (e::es) [] cpos) (HD X.K T r to t):=by
 intro pins s σ H Q I h;refine wpAny_Call_method_late rR EZ rN rfl (bP (ho pins s σ H _ I h) fun v s1 ⟨x,H1,I1,r1,ty,q1⟩=>?_);obtain⟨h1,h2⟩:=VS I1 r1 ty;refine⟨T,id,pa,slot,hty,h1,h2,?_⟩;have hA:=ha cpos pins s1 σ H1 _ I1 q1;rw[hs] at hA ⊢;refine kU (by show (false||(backTo cpos (b8 es X.env)).any (·.1))=false;rw[hplain]<;>rfl) (sf ?_)
 exact bP hA fun us s2 ⟨vs,H2,I2,r2,q2⟩=>hm pins s2 σ H2 x vs v us Q I2 r1 r2 q2
/- xs.append(e),list.index on a module's tuple .. are GL facts of 06m -/
end
end L2
namespace L2
open PySem PySem.Spec PyProof.Rows
def Nd(X:Cx)(id:String)(r:V->List V->Hp->VK->Prop):Prop:=
 ∀(pins:List (η×br)) (s:ζ) (σ:St) (H:Hp) (x:V) (xs:List V) (v:δ) (us:List δ) (Q:VK),Inv X pins σ H s->RelV x v->bo xs us->r x xs H Q ->
  π (model X.prog X.w) X.A (call (.builtin id) (v::us)) (EP X pins σ Q) X.xe s
theorem bo.one:∀{x:V} {us:List δ},bo [x] us->∃u,us=[u]/\RelV x u
 |_,_,.cons r .nil=>⟨_,rfl,r⟩
theorem bo.zero:∀{us:List δ},bo [] us->us=[]
 |_,.nil=>rfl
theorem bo.eraseIdx:∀{xs:List V} {us:List δ} (i:Nat),bo xs us->bo (xs.eraseIdx i) (us.eraseIdx i)
 |_,_,_,.nil=>.nil
 |_,_,0,.cons _ t=>t
 |_,_,i+1,.cons r t=>.cons r (bo.eraseIdx i t)
theorem bo.rep{xs:List V}{us:List δ}(h:bo xs us):∀k:Nat,bo (bF k xs).flatten (bF k us).flatten
 |0=>.nil
 |k+1=>by
  rw[gg,gg,e7,e7];exact bo.append h (bo.rep h k)
theorem Mr{α:Type}:∀(l:List α) (i:Nat),(l.eraseIdx i).length≤l.length
 |[],_=>υ _
 |_::_,0=>qD _
 |_::r,i+1=>Nat.succ_le_succ (Mr r i)
theorem foldl_rep(its:List δ):∀(k:Nat) (acc:List δ),
  vw (fun x1 x2=>x1++x2) acc.toArray (bF k its.toArray)=(acc++(bF k its).flatten).toArray
 |0,acc=>by simp
 |k+1,acc=>by
  have e:acc.toArray++its.toArray=(acc++its).toArray:=by simp
  have e2:(acc++its)++(bF k its).flatten=acc++(bF (k+1) its).flatten:=by
   rw[gg,e7,aa]
  rw[←e2,←foldl_rep its k (acc++its),←e,gg,List.foldl_cons]
section
variable {X:Cx} {pins:List (η×br)} {σ:St} {H:Hp} {s:ζ} {l b:η} {xs ys zs:List V}
theorem Inv.ET{its its':List δ}{n:Nat}{f:Array δ->Array δ}{t':Nat}(I:Inv X pins σ H s)(hH:H l=some (.lst xs))
  (e:s.heap.get? l=some { cls:=.type "list",data:=.seq its.toArray n }) (hf:f its.toArray=its'.toArray) (hv:bo ys its') (hz:ys.length≤ao):
  Inv X pins σ (upd H l (.lst ys)) { s with heap:=s.heap.update l (aU f),toks:=t' }:=by
 have q:=PySem.IsL.update e f;rw[hf] at q;refine I.write (x:=l) (e:=l) (by rw[hH];exact trivial) (.inl rfl) (fun b' u hb hu=>(Heap.get?_update_other s.heap (aU f) (eU hb)).trans hu) ⟨_,q⟩ ?_;exact⟨hz,its',_,hv,q⟩
theorem Inv.EU{its:List δ}{t':Nat}(I:Inv X pins σ H s)(hv:bo ys its)(hz:ys.length≤ao):
  Inv X pins σ (upd H s.heap.objs.size (.lst ys)) { s with heap:=s.heap.push { cls:=.type "list",data:=.seq its.toArray },toks:=t' }:=
 I.laid (fun _ _ q=>Heap.get?_push_of_some _ q) (υ _) ⟨hz,its,0,hv,Heap.get?_push_size _ rfl⟩
theorem Inv.fresh(I:Inv X pins σ H s):H s.heap.objs.size=none:=I.cB.fresh (υ _)
theorem Inv.sX(I:Inv X pins σ H s)(hH:H l=some (.lst xs)):xs.length≤ao/\∃(its:List δ) (n:Nat),bo xs its/\xs.length=its.length/\s.heap.get? l=some { cls:=.type "list",data:=.seq its.toArray n }:=by
 obtain⟨z,its,n,r,e⟩:=I.cB l _ hH;exact⟨z,its,n,r,r.length,e⟩
theorem yv{n:Nat}(h:n≤ao):hX n=false:=by
 unfold hX;exact decide_eq_false (by lia)
end
section
variable {X:Cx}
def ze:V->List V->Hp->VK->Prop:=fun x vs H Q=>∃l xs y,x=.ref l/\vs=[y]/\H l=some (.lst xs)/\xs.length<ao/\Q .aF (upd H l (.lst (xs++[y])))
theorem Mq:Nd X "list.append" ze:=by
 intro pins s σ H x vs v us Q I rx rv h;obtain⟨l,xs,y,rfl,rfl,hH,hz,q⟩:=h;cases rx;obtain⟨u,rfl,ru⟩:=rv.one;obtain⟨z,its,n,r,hl,e⟩:=I.sX hH;refine mq F.slot_list_append ⟨_,e,rfl⟩ F.entry_list_append (F.args_list_append_2 _ _) (PySem.list_append l its.toArray n u (by rw[Γ];lia)) ⟨e,?_⟩;refine⟨.aF,_,I.ET (its':=its++[u]) hH e (by simp) (r.append (.cons ru .nil)) ?_,rfl,q⟩;rw[ξ,b6];lia
def zc:V->List V->Hp->VK->Prop:=fun x vs H Q=>∃l b xs zs,x=.ref l/\vs=[.ref b]/\H l=some (.lst xs)/\H b=some (.lst zs)/\xs.length+zs.length≤ao/\Q .aF (upd H l (.lst (xs++zs)))
theorem VQ:Nd X "list.extend" zc:=by
 intro pins s σ H x vs v us Q I rx rv h;obtain⟨l,b,xs,zs,rfl,rfl,hH,hB,hz,q⟩:=h;cases rx;obtain⟨u,rfl,ru⟩:=rv.one;cases ru;obtain⟨z,its,n,r,hl,e⟩:=I.sX hH;obtain⟨z2,its2,n2,r2,hl2,e2⟩:=I.sX hB;have hsz:its.toArray.size+its2.toArray.size≤ao:=by rw[Γ,Γ];lia
 have hlong:¬(!its.toArray.isEmpty&&hX (its.toArray.size+its2.toArray.size))=true:=by
  rw[yv hsz,Bool.and_false];exact ak
 refine mq F.slot_list_extend ⟨_,e,rfl⟩ F.entry_list_extend (F.args_list_extend_2 _ _)
  (AutoSeq1.list_extend_list_list_0 l its.toArray n b its2.toArray n2 hlong (by rw[Γ];lia) (by lia)) ⟨e,e2,?_⟩
 refine⟨.aF,_,I.ET (its':=its++its2) hH e (by simp) (r.append r2) ?_,rfl,q⟩;rw[ξ];lia
def CS:V->List V->Hp->VK->Prop:=fun x vs H Q=>∃l xs i k y,x=.ref l/\vs=[.int i]/\H l=some (.lst xs)/\-(2^63)≤i/\i<2^63/\seqIndex? i xs.length=some k/\xs[k]?=some y/\Q y (upd H l (.lst (xs.eraseIdx k)))
theorem VP:Nd X "list.pop" CS:=by
 intro pins s σ H x vs v us Q I rx rv h;obtain⟨l,xs,i,k,y,rfl,rfl,hH,h1,h2,hk,hy,q⟩:=h;cases rx;obtain⟨u,rfl,ru⟩:=rv.one;obtain⟨t,rfl⟩:=ru;obtain⟨z,its,n,r,hl,e⟩:=I.sX hH;obtain⟨w,hw,rw'⟩:=r.get hy;refine mq F.slot_list_pop ⟨_,e,rfl⟩ F.entry_list_pop (F.args_list_pop_2 _ _)
  (MeetsSeq.list_pop_at l its.toArray n i t k w (fitsIndex_both h1 h2) (by rw[Γ,←hl];exact hk) (by rw[←bf];exact hw) (by rw[Γ];lia)) ⟨e,?_⟩
 refine⟨y,_,I.ET (its':=its.eraseIdx k) hH e ?_ (r.eraseIdx k) ?_,rw',q⟩
 ·show its.toArray.eraseIdxIfInBounds k=(its.eraseIdx k).toArray;rw[List.eraseIdxIfInBounds_toArray]
 ·have:=Mr xs k;lia
def HW:R2:=fun x y H Q=>∃l b xs zs,x=.ref l/\y=.ref b/\H l=some (.lst xs)/\H b=some (.lst zs)/\xs.length+zs.length≤ao/\∀p,H p=none->Q (.ref p) (upd H p (.lst (xs++zs)))
theorem Mw:eO X (binaryOp .Add) HW:=by
 intro pins s σ H x y v u Q I rx ry h;obtain⟨l,b,xs,zs,rfl,rfl,hH,hB,hz,q⟩:=h;cases rx;cases ry;obtain⟨z,its,n,r,hl,e⟩:=I.sX hH;obtain⟨z2,its2,n2,r2,hl2,e2⟩:=I.sX hB;refine PySem.P.add_list e e2 ?_ (by rw[Γ,Γ];lia);have ea:its.toArray++its2.toArray=(its++its2).toArray:=by simp
 rw[ea];exact⟨.ref _,_,I.EU (t':=s.toks) (r.append r2) (by rw[ξ];lia),rfl,q _ I.fresh⟩
def HJ:R2:=fun x y H Q=>∃l k xs,x=.ref l/\y=.int k/\H l=some (.lst xs)/\-(2^63)≤k/\k<2^63/\xs.length*k.toNat≤ao ∧
 ∀p,H p=none->Q (.ref p) (upd H p (.lst (bF k.toNat xs).flatten))
theorem len_rep{α:Type}(xs:List α)(k:Nat):(bF k xs).flatten.length=k*xs.length:=by
 induction k with
 |zero=>simp
 |succ k ih=>rw[gg,e7,ξ,ih,Nat.succ_mul,Nat.add_comm]
theorem VO:eO X (binaryOp .Mult) HJ:=by
 intro pins s σ H x y v u Q I rx ry h;obtain⟨l,k,xs,rfl,rfl,hH,h1,h2,hz,q⟩:=h;cases rx;obtain⟨t,rfl⟩:=ry;obtain⟨z,its,n,r,hl,e⟩:=I.sX hH;have hlen:its.toArray.size*k.toNat≤ao:=by rw[Γ,←hl];exact hz
 have hcap:¬its.toArray.size*k.toNat > (2^63-1) / 8:=by
  have:(ao:Nat)≤(2^63-1) / 8:=by decide
  lia
 have hfit:¬(!gm.List.listFitsIndex k)=true:=by
  rw[fitsIndex_both h1 h2];exact ak
 have hlong:¬hX (its.toArray.size*k.toNat)=true:=by
  rw[yv hlen];exact ak
 have hnew:vw (fun x1 x2=>x1++x2) #[] (bF (if its.toArray.isEmpty=true then 0 else k.toNat) its.toArray)=(bF k.toNat its).flatten.toArray:=by
  have f0:∀m:Nat,vw (fun x1 x2=>x1++x2) #[] (bF m its.toArray)=(bF m its).flatten.toArray:=fun m=>by
   have:=foldl_rep its m [];rw[bw] at this;exact this
  rw[f0];cases its with
  |nil=>simp
  |cons a r'=>rw[if_neg (by simp)]
 refine wpAny_binaryOp_repeat_ref (T:="list") (U:="int") (by decide) ⟨_,e,rfl⟩ (fun s'=>typeIs_int s' k t) noFill_list_mul F.fills_int_mul F.slot_int_rmul repeat_list F.slot_int_index.lookup
  (mq F.slot_int_rmul (typeIs_int s k t) F.entry_int_rmul (F.args_int_rmul_2 _ _) (int___rmul___int_list k t l its.toArray n)
   ⟨e,rfl,⟨_,e,rfl⟩,mq F.slot_list_mul ⟨_,e,rfl⟩ F.entry_list_mul (F.args_list_mul_2 _ _) (AutoListH.list___mul___list_int_3 l its.toArray n k t hfit hcap hlong) ⟨e,?_⟩⟩)
 rw[hnew];exact⟨.ref _,_,I.EU (t':=s.toks) (r.rep k.toNat) (by rw[len_rep,dW];exact hz),rfl,q _ I.fresh⟩
end
end L2
namespace Oz
open PySem PySem.W PySem.Calls PyProof.Rows
theorem VN{P:Params}{h:Heap}:∀(ns:List Int) (vs:List δ),WellAll P h vs (ns.map WData.int)->dg vs ns:=by
 intro ns
 induction ns with
 |nil=>
  intro vs w;rw[List.map_nil] at w;cases w;exact .nil
 |cons n ns ih=>
  intro vs w;rw[aZ] at w;cases w with
  |cons a b=>
   cases a;exact .cons _ _ (ih _ b)
theorem Vb{l:OpenLaw}{n:Nat}(hn:l.most=some n){P:Params}{h:Heap}{args:List WData}{vals:List δ}
  (Bg:l.row.toRowW.claim.pre args=true) (hwl:WellAll P h vals args):
  ∃a vs ns,vals=[au a]/\args=[WData.list (ns.map WData.int)]/\h.get? a=some { cls:=.type "list",data:=.seq vs.toArray }/\dg vs ns/\ns.length≤n:=by
 have hsh:WShape.hasAll [] args [.list .int]=true:=(pre_splitW Bg).1;have hc:l.pre.holds [] { args:=args }=true:=(pre_splitW Bg).2;obtain⟨d,r,rfl,h1,h2⟩:=hasAllW_cons hsh;obtain rfl:=hasAllW_nil h2;obtain⟨xs,rfl,h3⟩:=hasW_list h1;obtain⟨ns,rfl⟩:=items_int h3;have hlen:ns.length≤n:=by
  unfold OpenLaw.pre at hc;have h4:(WTm.not (.lt (.lit (.int (n:Int))) (.len (.arg 0)))).holds [] { args:=[.list (ns.map .int)]}=true:=by
   have h4:=(holds_andW hc).1;rw[hn] at h4;exact h4
  have h5:=condW_of h4 (w_not (w_lt w_lit (w_len_list (w_arg rfl))));rw[ε] at h5;refine Nat.le_of_not_lt fun q=>?_;have q':(n:Int)<((ns.length:Nat):Int):=by lia
  first
   | (rw[decide_eq_true q'] at h5;exact absurd h5 (by decide))
   | (simp at h5;lia)
 cases hwl with
 |cons w1 w2=>
  cases w2;cases w1 with
  |list ho hall=>exact⟨_,_,ns,rfl,rfl,ho,VN ns _ hall,hlen⟩
theorem U9(l:OpenLaw)(args:List WData):l.row.toRowW.claim.post args (.bool true) args=true:=
 postW_of (r:=l.row.toRowW) (X:=(true==true))
  (show WShape.has [] (.bool true) .bool=true by first|rfl|decide|simp[WShape.has,WShape.arms,WShape.armsAll])
  (show (WTm.eq .res (.lit (.bool true))).value [] { args:=args,res:=some (.bool true),after:=args }=some (.bool (true==true)) from w_eq_bool (w_res rfl) w_lit) rfl
theorem yU{l:OpenLaw}{n:Nat}{q:aw}{loose:List Ξ}{XP:(Ξ->Option δ)->Heap->Prop}{YP:aG->Heap->Prop}{d:DefRec}
  (hn:l.most=some n) (hdf:d.params.defaults=[])
  (call:∀(w:aG) (s₀ s₁:ζ) (mg mb:Ξ->Option δ) (fa:η) (o:br) (pm cd doc:δ) (a:η) (vs:List δ) (ns:List Int),
   Ground q loose [] XP w s₀ mg mb s₁.heap->YP w s₁.heap ->
   s₁.heap.get? fa=some o->o.data=.func (docDef d.name d.params d.body d.scope pm cd doc)->s₁.heap.CodeRec cd d.name->mg d.name=some (.ref fa) ->
   s₁.heap.get? a=some { cls:=.type "list",data:=.seq vs.toArray }->dg vs ns->ns.length≤n->s₁.gens = #[] ->
   iw (model l.prog w) callerA (.call (.ref fa) ⟨[.ref a],[]⟩) (fun r s'=>r=.ok (.ret (.bool true))/\OldK s₁.heap s'.heap/\s'.os=s₁.os/\lN s'.gens) s₁):
  WalkO q loose XP YP l.row.toRowW d [] (fun f vs=>PySem.call f vs):=by
 intro w s₀ s₁ mg mb G Y fa o pm cd doc dV kV ho hd qS hD hmg hg args vals as Bg hlay Gn hwl hlo;obtain rfl:dV=.none:=Dflts.none hD hdf;obtain rfl:kV=.none:=Dflts.noKw hD;obtain⟨a,vs,ns,rfl,rfl,hobj,hints,hlen⟩:=Vb hn Bg hwl;refine enter_call (pC (call w s₀ s₁ mg mb fa o pm cd doc a vs ns G Y ho (fd_plain hd) qS hmg hobj hints hlen hg) fun r s' hq=>?_);obtain⟨rfl,h2,h3,h4⟩:=hq;exact⟨.inl ⟨.bool true,.bool true,[],rfl,fun _=>rfl,.bool true,U9 l _,fun _=>⟨iS,fun _ hm=>(nomatch hm)⟩⟩,h2,h3,h4⟩
end Oz
namespace L2
open PySem PySem.Spec PyProof.Rows
theorem nh:∀{vs:List δ} {ns:List Int},dg vs ns->bo (ns.map V.int) vs
 |_,_,.nil=>.nil
 |_,_,.cons n t h=>.cons ⟨t,rfl⟩ (nh h)
def Cq(H:Hp):Prop:=∀b,H b=none∨∃o xs,H b=some (.iO o (.lst xs))
theorem U8{P:aw}{w:aG}{K:PySem.W.Frag}{mg mb:Ξ->Option δ}{CX:sj}{k:Nat}{fa a:η}{fd:aL}{x:Ξ}{sp:Sp}{s₁:ζ}{vs:List δ}{ns:List Int}
  (KX:K.In s₁.heap) (hns:s₁.heap.Ns bH mg) (hb:s₁.heap.Ns builtinsNs mb) (hbb:∀x:Ξ,x≠"__name__"->mb x=g6 x) (hlim:s₁.heap.NoLimit) (hg:s₁.gens = #[])
  (ha:s₁.heap.get? a=some { cls:=.type "list",data:=.seq vs.toArray }) (hi:dg vs ns) (hl:ns.length≤ao) (hr:g4 k callerA)
  (F:∀base:Heap,K.In base->base.Ns bH mg->kF P w K mg base CX k fa fd [x] sp) (hbind:∀(s:ζ) (u:δ),rm s fd ⟨[u],[]⟩ [(x,u)])
  (wC:∀H:Hp,Cq H->eN K H a (ns.map V.int)->sp [.ref a] H (fun v _=>v=.bl true) fun _ _ _=>False)
  (MV:∀H e s',CX [] H s₁ (fun _ _ _=>False) e s'->False):
  iw (model P w) callerA (.call (.ref fa) ⟨[.ref a],[]⟩) (fun r s'=>r=.ok (.ret (.bool true))/\OldK s₁.heap s'.heap/\s'.os=s₁.os/\lN s'.gens) s₁:=by
 have rv:=nh hi;have lenV:=hi.length
 -- from an abstract heap in which nothing but the script may be tracked
 have core:∀H:Hp,Cq H->eN K H a (ns.map V.int)->kc P w H s₁.heap->(∀b,H b≠none->b=a)->(H a≠none->K.lookup a=none) ->
   iw (model P w) callerA (.call (.ref fa) ⟨[.ref a],[]⟩) (fun r s'=>r=.ok (.ret (.bool true))/\OldK s₁.heap s'.heap/\s'.os=s₁.os/\lN s'.gens) s₁:=by
  intro H hO hS cB hA hK;have base_of:∀{b:η} {o:br},s₁.heap.get? b=some o->H b=none->(rO s₁.heap H).get? b=some o:=fun e n=>WN e n;have noA:∀{b:η} {o:br} {es:Array gY} {ep:Nat},s₁.heap.get? b=some o->o.data=.dict es ep->H b=none:=fun {b o es ep} e d=>by
   cases q:H b with
   |none=>rfl
   |some u=>
    have e':b=a:=hA b (by rw[q];simp);subst e';rw[ha] at e;cases e;have d':Data.seq vs.toArray _=Data.dict es ep:=d;cases d'
  have nsK:∀{b:η} {m:Ξ->Option δ},s₁.heap.Ns b m->(rO s₁.heap H).Ns b m:=fun {b m} ⟨o,es,ep,e,d,r⟩=>⟨o,es,ep,base_of e (noA e d),d,r⟩;have hKb:K.In (rO s₁.heap H):=fun b o e=>base_of (KX b o e) (by
   cases q:H b with
   |none=>rfl
   |some u=>
    have e':b=a:=hA b (by rw[q];simp);subst e';rw[hK (by rw[q];simp)] at e;cases e)
  have hM:Mod K mg (rO s₁.heap H):=⟨hKb,nsK hns,⟨mb,nsK hb,hbb⟩,let ⟨mc,h1,h2⟩:=hlim;⟨mc,nsK h1,h2⟩⟩
  have e0:CC P w K mg (rO s₁.heap H) callerA [] s₁ H:=⟨rfl,hM,fun b o e=>WM e,tF (Wy _ _),trivial,fun b hb=>absurd (show b∈([]:List η) from hb) (by simp),cB,.of_eq hg⟩;refine pC ((F _ hKb (nsK hns)).run callerA [] s₁ H ⟨[.ref a],[]⟩ [.ref a] [.ref a] _ _ hr e0 (hbind s₁ (.ref a)) (.cons rfl .nil) (wC H hO hS)) fun r s' h=>?_;cases r with
  |error e=>exact (MV H e s' h).elim
  |ok fl=>
   cases fl with
   |next=>exact gT h
   |brk=>exact gT h
   |cont=>exact gT h
   |ret u=>
    obtain⟨v,H',os,bare,un,hok',r',q⟩:=h;have q':v=.bl true:=q;subst q';obtain rfl:u=fw true:=r';refine⟨rfl,OldK.of_keep fun b o e=>?_,os,bare⟩;cases q:H b with
    |none=>exact un.keep b o e q (by intro z;exact absurd (show b∈([]:List η) from z) (by simp)) (by simp)
    |some u=>
     rcases hO b with z|⟨ob,xs,z⟩
     ·rw[q] at z;cases z
     ·have z2:=un.rS b ob _ z;obtain⟨e1,_⟩:=cB b _ z;obtain⟨e2,_⟩:=hok' b _ z2;rw[e] at e1;cases e1;exact e2
 cases hk:K.lookup a with
 |some o=>
  -- the script is one of the module's own objects
  have e:=KX a o hk;rw[ha] at e;cases e;refine core (fun _=>none) (fun _=>.inl rfl) (.inr ⟨_,vs.toArray,_,hk,rfl,rfl,rfl,by rw[Γ,lenV];exact hl,by simpa using rv⟩) (fun b u z=>by have z':(none:Option HO)=some u:=z;cases z') (fun b z=>absurd rfl z) fun z=>absurd rfl z
 |none=>
  refine core (fun b=>if b=a then some (.iO { cls:=.type "list",data:=.seq vs.toArray } (.lst (ns.map V.int))) else none) (fun b=>?_) (.inl (.inr ⟨{ cls:=.type "list",data:=.seq vs.toArray },if_pos rfl⟩)) (fun b u z=>?_) (fun b z=>?_) fun _=>hk
  ·by_cases hb:b=a
   ·exact .inr ⟨_,_,if_pos hb⟩
   ·exact .inl (if_neg hb)
  ·by_cases hb:b=a
   ·have z':=(if_pos hb).symm.trans z;cases z';subst hb;exact⟨ha,by rw[ε];exact hl,vs,_,rv,ha⟩
   ·have z':=(if_neg hb).symm.trans z;cases z'
  ·by_cases hb:b=a
   ·exact hb
   ·exact absurd (if_neg hb) z
end L2
namespace L2
open PySem PySem.Spec PyProof.Rows
theorem yV{l:PySem.W.OpenLaw}{n k:Nat}{q:aw}{loose:List Ξ}{XP:(Ξ->Option δ)->Heap->Prop}{YP:aG->Heap->Prop}{d:DefRec}{K:Params->PySem.W.Frag}{CX:aG->sj}{sp:aG->Sp}{x:Ξ}
  (hn:l.most=some n) (hn2:n≤ao) (hdf:d.params.defaults=[]) (hr:g4 k callerA)
  (hY:∀(w:aG) (h:Heap),YP w h->(K w.params).In h)
  (F:∀(w:aG) (mg:Ξ->Option δ) (fa:η) (h:Heap),(K w.params).In h->h.Ns bH mg->mg d.name=some (.ref fa) ->
   ∃fd:aL,(∀(s:ζ) (u:δ),rm s fd ⟨[u],[]⟩ [(x,u)]) ∧
    ∀base:Heap,(K w.params).In base->base.Ns bH mg->kF l.prog w (K w.params) mg base (CX w) k fa fd [x] (sp w))
  (wC:∀(w:aG) (H:Hp) (a:η) (ns:List Int),ns.length≤n->Cq H->eN (K w.params) H a (ns.map V.int)->sp w [.ref a] H (fun v _=>v=.bl true) fun _ _ _=>False)
  (MV:∀(w:aG) (H:Hp) (s:ζ) (e:δ) (s':ζ),CX w [] H s (fun _ _ _=>False) e s'->False):
  PySem.W.WalkO q loose XP YP l.row.toRowW d [] (fun f vs=>PySem.call f vs):=by
 refine Oz.yU hn hdf fun w s₀ s₁ mg mb fa o pm cd doc a vs ns G Y ho hd qS hmg hobj hints hlen hg=>?_;have KX:=hY w _ Y;obtain⟨fd,hb,hF⟩:=F w mg fa _ KX G.T.g hmg;exact U8 KX G.T.g G.T.b G.T.builtins G.T.nolimit hg hobj hints (aD hlen hn2) hr hF hb (fun H hO hS=>wC w H a ns hlen hO hS) fun H e s'=>MV w H s₁ e s'
end L2
/- THE LAST THEOREM (shape;LID,My.* are yours):
  My.Hh: a structure of the addresses that your layer names (classes,functions);My.Txt K t: a structure (Prop) of the equations over K;
  My.xc:{K} {implicit addresses ..} (e1:nsIn K bH "law" = some (some (.ref f))) (e2:K.lookup f=some ⟨oc,od,.func (fnOf "law" "law" params body scope dV kV doc pm an cdv ct),sl⟩) (e3:codeIn K cdv "law" = true) ..:∃t,My.Txt K t
set_option maxRecDepth 100000 in
set_option maxHeartbeats 0 in
theorem PySem.Challenge.cw_LID_holds : PySem.Challenge.rw_LID.Holds := by
 w_on;o_law;k_head;(case hw=>w_witness2)
 k_fill
 refine L2.yV (l:=PySem.Challenge.rw_LID) (n:=63) (k:=40) (x:="script") (CX:=fun w=>..) (sp:=fun _=>My.nk) rfl (by decide) rfl ⟨rfl,by decide,by decide⟩ (fun w h Y=>PySem.W.kIn_of Y) ?F ?S ?C
 case F=>
  intro w mg fa h KX G hmg
  have T:∃t,My.Txt (L2.KOf KX) t:=by
   dsimp only[L2.KOf]                          -- K must stand as «<heap const> w.params» for k_is
   refine' My.xc ?e1 ?e2 ?e3 ..
   (case e1=>PySem.W.k_is)                    -- in the order: a name -> its address -> its object -> its parts
   (case e2=>PySem.W.k_is)
   ..
  obtain⟨t,T⟩:=T
  have e0:=hmg.symm.trans (PySem.W.mg_of KX G T.law)
  cases e0                                       -- fa is the law's own address
  exact⟨_,fun s u=>.of_eq rfl,fun base kb nb=>My.law_fn T kb nb⟩     -- if «.of_eq rfl» comes too early: refine' ⟨_,?b,fun base kb nb=>My.law_fn T kb nb⟩;exact fun s u=>.of_eq rfl
 case S=>exact fun w H a ns hl hO hS=>..
 case C=>exact ..
(the tactic k_is has no namespace: write k_is) -/
namespace L2
open PySem PySem.Spec PyProof.Rows
def qT(s:bp):Arguments:=match s with
 |.FunctionDef _ a _ _ _ _ _ _ _ _=>a
 |_=>{ posonlyargs:=[],args:=[],vararg:=none,kwonlyargs:=[],kw_defaults:=[],kwarg:=none,defaults:=[]}
def lD(s:bp):List bp:=match s with
 |.FunctionDef _ _ b _ _ _ _ _ _ _=>b
 |_=>[]
def ax(s:bp):iE:=match s with
 |.FunctionDef _ _ _ _ _ _ sc _ _ _=>sc
 |_=>{ kind:=.function,names:=[],isGenerator:=false,isCoroutine:=false }
abbrev wM:sj:=fun _ _ _ _ _ _=>False
abbrev E0:XK:=fun _ _ _=>False
theorem NA{X:Cx}:yI wM X E0:=fun _ _ _ _ _ _ _ h=>h.elim
structure fj(K:PySem.W.Frag)(x qual:Ξ)(st:bp)(f:η)(fd:aL):Prop where
 ex:∃(oc:δ) (od:Option η) (kV doc pm:δ) (an:Option η) (cdv ct:δ) (osl:Array (Option δ)),
  fd=PySem.W.fnOf x qual (qT st) (lD st) (ax st) .none kV doc pm an cdv ct/\K.lookup f=some ⟨oc,od,.func fd,osl⟩/\PySem.W.codeIn K cdv qual=true
 kp:PySem.W.keepIn K (.ref f)=true
section
variable {P:aw} {w:aG} {K:PySem.W.Frag} {mg:Ξ->Option δ} {base:Heap}
theorem fj.ok{x qual:Ξ}{st:bp}{f:η}{fd:aL}{N ps:List Ξ}{k:Nat}{sp:Sp}(F:fj K x qual st f fd)(S:bL N ps (ax st))(len:∀vs H Q E,sp vs H Q E->vs.length=ps.length)
  (rQ:∀(cdv:δ) (A:aR) (outer:List jk) (s:ζ) (H:Hp) (vs:List V) (Q:VK) (E:XK),g4 k (A.deeper (envOfC qual (ax st) s.heap.objs.size f cdv))->sp vs H Q E ->
   ∃t,om (tp wM P w K mg base N qual (ax st) f cdv A outer s H E).zg (lD st) t/\t { nx:=fun _ H'=>Q .aF H',rt:=Q } (start N vs) H):kF P w K mg base wM (k+1) f fd ps sp:=by
 obtain⟨oc,od,kV,doc,pm,an,cdv,ct,osl,rfl,lk,qS⟩:=F.ex;refine Vz lk qS S len fun A outer s H vs Q E hr wC=>?_;obtain⟨t,h,q⟩:=rQ cdv A outer s H vs Q E hr wC;exact⟨t,h.zg,q⟩
theorem fj.binds{x qual:Ξ}{st:bp}{f:η}{fd:aL}{ps:List Ξ}(F:fj K x qual st f fd)
  (h:∀(kV doc pm:δ) (an:Option η) (cdv ct:δ) (us:List δ),us.length=ps.length->bindArgs (PySem.W.fnOf x qual (qT st) (lD st) (ax st) .none kV doc pm an cdv ct) ⟨us,[]⟩=pure (ps.zip us)):Binds K fd ps []:=by
 obtain⟨oc,od,kV,doc,pm,an,cdv,ct,osl,rfl,lk,qS⟩:=F.ex;exact .all (h kV doc pm an cdv ct)
theorem U7{x qual:Ξ}{st:bp}{f:η}{oc:δ}{od an:Option η}{osl:Array (Option δ)}{kV doc pm cdv ct:δ}(l:K.lookup f=some ⟨oc,od,.func (PySem.W.fnOf x qual (qT st) (lD st) (ax st) .none kV doc pm an cdv ct),osl⟩)
  (c:PySem.W.codeIn K cdv qual=true) (k:PySem.W.keepIn K (.ref f)=true):fj K x qual st f (PySem.W.fnOf x qual (qT st) (lD st) (ax st) .none kV doc pm an cdv ct):=⟨⟨oc,od,kV,doc,pm,an,cdv,ct,osl,rfl,l,c⟩,k⟩
end
section
variable {X:Cx}
theorem pv(i:Nat){x:Ξ}{pos:aP}(hN:X.N[i]?=some x:=by rfl)(hv:GI X.env.scope x:=by first|exact pE rfl|exact nC (pE rfl)|exact nC (nC rfl))(hd:(x==("__debug__":Ξ))=false:=by decide)
  (qS:(x==("__classdict__":Ξ))=false:=by decide):PE X (.Name x pos) (zr i):=WL hN hv hd qS
end
end L2
namespace L3
open PySem PySem.Spec PyProof.Rows L2
inductive D where
 |aF|bl (b:Bool)|int (i:Int)|str (x:Ξ)|tup (xs:List D)|gW (xs:List D)|obj (a:η)|dc (a:η)
def si(K:PySem.W.Frag)(H:Hp)(a:η)(xs:List V):Prop:=
 (∃o,H a=some (.iO o (.lst xs))) ∨
  ∃(o:br) (its:Array δ) (n:Nat),K.lookup a=some o/\o.cls=.type "list"/\o.dict=none/\o.data=.seq its n/\its.size≤ao/\bo xs its.toList
theorem si.l{K:PySem.W.Frag}{H:Hp}{a:η}{xs:List V}(h:si K H a xs):eN K H a xs:=by
 rcases h with h|h
 ·exact .inl (.inr h)
 ·exact .inr h
mutual
def Hv(K:PySem.W.Frag)(H:Hp):D->V->Prop
 |.aF,v=>v=.aF
 |.bl b,v=>v=.bl b
 |.int i,v=>v=.int i
 |.str x,v=>v=.str x
 |.tup ds,v=>∃a vs,v=.ref a/\cK K H a vs/\aI K H ds vs
 |.gW ds,v=>∃a vs,v=.ref a/\si K H a vs/\aI K H ds vs
 |.obj a,v=>v=.ref a
 |.dc a,v=>v=.ref a/\∃ob φ,H a=some (.iO ob (.ext φ))/\ob.cls=.type "dict"
def aI(K:PySem.W.Frag)(H:Hp):List D->List V->Prop
 |[],vs=>vs=[]
 |d::ds,vs=>∃v r,vs=v::r/\Hv K H d v/\aI K H ds r
end
inductive GO where
 |lst (ds:List D)|o4|iB
 |gen (R:PySem.W.Frag->η->Hp->Prop)
def GO.plain:GO->Prop
 |.gen _=>False
 |_=>True
abbrev Gp:=η->Option GO
def eu(G:Gp)(a:η)(o:GO):Gp:=fun b=>if b=a then some o else G b
theorem lg{G:Gp}{a:η}{o:GO}:eu G a o a=some o:=by simp[eu]
theorem kC{G:Gp}{a b:η}{o:GO}(h:b≠a):eu G a o b=G b:=by simp[eu,h]
theorem U6{G:Gp}{a b:η}{o u:GO}(hn:G a=none)(h:G b=some u):eu G a o b=some u:=by
 rw[kC]
 ·exact h
 ·intro e;rw[e,hn] at h;cases h
theorem U5{G:Gp}{a:η}{o u:GO}:eu (eu G a o) a u=eu G a u:=by
 funext b;unfold eu;by_cases h:b=a
 ·rw[if_pos h,if_pos h]
 ·rw[if_neg h,if_neg h,if_neg h]
def tW(a b c:Int):Prop:=0≤a/\0≤c/\c<2147483647
def uc(K:PySem.W.Frag)(H:Hp)(a:η):GO->Prop
 |.lst ds=>∃vs,H a=some (.lst vs)/\aI K H ds vs
 |.o4=>∃i j k,H a=some (.lst [.int i,.int j,.int k])/\tW i j k
 |.iB=>H a=some (.ext fun h=>∃o,h.get? a=some o/\o.cls=.type "dict")
 |.gen R=>R K a H/\(∃o,H a=some o/\(∀xs,o≠.tup xs)/\∀ob u,o≠.iO ob u)/\∀H1 H2:Hp,(∀b xs,H1 b=some (.tup xs)->H2 b=some (.tup xs))->(∀b o u,H1 b=some (.iO o u)->H2 b=some (.iO o u))->H2 a=H1 a->R K a H1->R K a H2
def bB(K:PySem.W.Frag)(G:Gp)(H:Hp):Prop:=∀a o,G a=some o->uc K H a o
structure Ext(H H':Hp):Prop where
 tup:∀b xs,H b=some (.tup xs)->H' b=some (.tup xs)
 iO:∀b o u,H b=some (.iO o u)->H' b=some (.iO o u)
theorem Ext.refl(H:Hp):Ext H H:=⟨fun _ _ h=>h,fun _ _ _ h=>h⟩
theorem Ext.trans{H H1 H2:Hp}(a:Ext H H1)(b:Ext H1 H2):Ext H H2:=⟨fun c x h=>b.tup c x (a.tup c x h),fun c o u h=>b.iO c o u (a.iO c o u h)⟩
structure Step(H:Hp)(G:Gp)(H':Hp)(G':Gp):Prop where
 fr:∀a o,H a=some o->G a=none->H' a=some o
 pT:∀a,H a≠none->H' a≠none
 new:∀a,G a=none->G' a≠none->H a=none
theorem Step.refl(H:Hp)(G:Gp):Step H G H G:=⟨fun _ _ h _=>h,fun _ h=>h,fun _ h1 h2=>absurd h1 h2⟩
theorem Step.trans{H H1 H2:Hp}{G G1 G2:Gp}(a:Step H G H1 G1)(b:Step H1 G1 H2 G2):Step H G H2 G2 where
 fr:=fun c o h n=>b.fr c o (a.fr c o h n) (by
  refine cP fun q=>?_;rw[a.new c n q] at h;cases h)
 pT:=fun c h=>b.pT c (a.pT c h)
 new:=fun c n q=>by
  by_cases h1:G1 c=none
  ·have h2:=b.new c h1 q;refine cP fun z=>?_;exact a.pT c z h2
  ·exact a.new c n h1
def Sub(G' G:Gp):Prop:=∀a o,G' a=some o->G a=some o
theorem Sub.refl(G:Gp):Sub G G:=fun _ _ h=>h
theorem Sub.trans{A B C:Gp}(a:Sub A B)(b:Sub B C):Sub A C:=fun x o h=>b x o (a x o h)
theorem Sub.upd{G:Gp}{a:η}{o:GO}(h:G a=none):Sub G (eu G a o):=fun _ _ e=>U6 h e
theorem Sub.of_none{G' G:Gp}(s:Sub G' G){a:η}(h:G a=none):G' a=none:=by
 cases e:G' a with
 |none=>rfl
 |some o=>
  rw[s a o e] at h;cases h
structure eQ(G:Gp)(p:η)(o:GO)(G':Gp):Prop where
 aF:G p=none
 sub:Sub G G'
 at_:G' p=some o
theorem eQ.mk'{G:Gp}{p:η}{o:GO}(h:G p=none):eQ G p o (eu G p o):=⟨h,Sub.upd h,lg⟩
theorem Step.sub{H:Hp}{G G':Gp}(s:Sub G' G):Step H G H G':=⟨fun _ _ h _=>h,fun _ h=>h,fun a n q=>by
 exact absurd (s.of_none n) q⟩
section
variable {K:PySem.W.Frag} {H H':Hp} {G G':Gp}
theorem bB.sub(R:bB K G H)(s:Sub G' G):bB K G' H:=fun a o e=>R a o (s a o e)
theorem uc.mut{a:η}{o:GO}(h:uc K H a o):∃o,H a=some o/\(∀xs,o≠.tup xs)/\∀ob u,o≠.iO ob u:=by
 cases o with
 |lst ds=>obtain⟨vs,e,_⟩:=h;exact⟨_,e,fun _=>nofun,fun _ _=>nofun⟩
 |o4=>obtain⟨i,j,k,e,_⟩:=h;exact⟨_,e,fun _=>nofun,fun _ _=>nofun⟩
 |iB=>exact⟨_,h,fun _=>nofun,fun _ _=>nofun⟩
 |gen R=>exact h.2.1
theorem bB.aaw(R:bB K G H){a:η}{xs:List V}(e:H a=some (.tup xs)):G a=none:=by
 cases q:G a with
 |none=>rfl
 |some u=>
  obtain⟨o,z,h1,_⟩:=(R a u q).mut;rw[e] at z;exact absurd (aA z).symm (h1 xs)
theorem bB.outF(R:bB K G H){a:η}{ob:br}{u:HO}(e:H a=some (.iO ob u)):G a=none:=by
 cases q:G a with
 |none=>rfl
 |some g=>
  obtain⟨o,z,_,h1⟩:=(R a g q).mut;rw[e] at z;exact absurd (aA z).symm (h1 ob u)
theorem bB.free(R:bB K G H){a:η}(e:H a=none):G a=none:=by
 cases q:G a with
 |none=>rfl
 |some u=>
  obtain⟨o,z,_⟩:=(R a u q).mut;rw[e] at z;cases z
theorem Step.ext(S:Step H G H' G')(R:bB K G H):Ext H H':=⟨fun b xs h=>S.fr b _ h (R.aaw h),fun b o u h=>S.fr b _ h (R.outF h)⟩
theorem cK.ext{a:η}{xs:List V}(E:Ext H H')(h:cK K H a xs):cK K H' a xs:=by
 rcases h with (h|⟨o,h⟩)|h
 ·exact .inl (.inl (E.tup _ _ h))
 ·exact .inl (.inr ⟨o,E.iO _ _ _ h⟩)
 ·exact .inr h
theorem si.ext{a:η}{xs:List V}(E:Ext H H')(h:si K H a xs):si K H' a xs:=by
 rcases h with⟨o,h⟩|h
 ·exact .inl ⟨o,E.iO _ _ _ h⟩
 ·exact .inr h
mutual
theorem Hv.ext(E:Ext H H'):∀{d:D} {v:V},Hv K H d v->Hv K H' d v
 |.aF,_,h=>by simpa [Hv] using h
 |.bl _,_,h=>by simpa [Hv] using h
 |.int _,_,h=>by simpa [Hv] using h
 |.str _,_,h=>by simpa [Hv] using h
 |.obj _,_,h=>by simpa [Hv] using h
 |.dc a,v,h=>by
  unfold Hv at h ⊢;obtain⟨e,ob,φ,q,c⟩:=h;exact⟨e,ob,φ,E.iO _ _ _ q,c⟩
 |.tup ds,v,h=>by
  unfold Hv at h ⊢;obtain⟨a,vs,e,q,r⟩:=h;exact⟨a,vs,e,cK.ext E q,aI.ext E r⟩
 |.gW ds,v,h=>by
  unfold Hv at h ⊢;obtain⟨a,vs,e,q,r⟩:=h;exact⟨a,vs,e,si.ext E q,aI.ext E r⟩
theorem aI.ext(E:Ext H H'):∀{ds:List D} {vs:List V},aI K H ds vs->aI K H' ds vs
 |[],_,h=>by simpa [aI] using h
 |d::ds,vs,h=>by
  unfold aI at h ⊢;obtain⟨v,r,e,q,z⟩:=h;exact⟨v,r,e,Hv.ext E q,aI.ext E z⟩
end
theorem aI.nil:aI K H [] []:=by simp[aI]
theorem aI.cons{d:D}{v:V}{ds:List D}{vs:List V}(h:Hv K H d v)(r:aI K H ds vs):aI K H (d::ds) (v::vs):=by
 unfold aI;exact⟨v,vs,rfl,h,r⟩
theorem aI.inv{d:D}{ds:List D}{vs:List V}(h:aI K H (d::ds) vs):∃v r,vs=v::r/\Hv K H d v/\aI K H ds r:=by
 unfold aI at h;exact h
theorem aI.iJ{vs:List V}(h:aI K H [] vs):vs=[]:=by
 unfold aI at h;exact h
theorem aI.length:∀{ds:List D} {vs:List V},aI K H ds vs->ds.length=vs.length
 |[],_,h=>by rw[h.iJ];rfl
 |d::ds,vs,h=>by
  obtain⟨v,r,rfl,_,q⟩:=h.inv;simp[q.length]
theorem aI.get:∀{ds:List D} {vs:List V} {i:Nat} {d:D},aI K H ds vs->ds[i]?=some d->∃v,vs[i]?=some v/\Hv K H d v
 |[],_,_,_,_,e=>by simp at e
 |x::ds,vs,0,d,h,e=>by
  obtain⟨v,r,rfl,q,_⟩:=h.inv;simp at e;subst e;exact⟨v,rfl,q⟩
 |x::ds,vs,i+1,d,h,e=>by
  obtain⟨v,r,rfl,_,q⟩:=h.inv;simp at e;obtain⟨u,e2,q2⟩:=q.get e;exact⟨u,by simpa using e2,q2⟩
theorem aI.append:∀{ds es:List D} {vs us:List V},aI K H ds vs->aI K H es us->aI K H (ds++es) (vs++us)
 |[],es,_,_,h,q=>by rw[h.iJ];exact q
 |d::ds,es,vs,us,h,q=>by
  obtain⟨v,r,rfl,z,w⟩:=h.inv;exact .cons z (w.append q)
theorem aI.drop:∀{ds:List D} {vs:List V} (n:Nat),aI K H ds vs->aI K H (ds.drop n) (vs.drop n)
 |ds,vs,0,h=>h
 |[],_,n+1,h=>by rw[h.iJ];exact .nil
 |d::ds,vs,n+1,h=>by
  obtain⟨v,r,rfl,_,q⟩:=h.inv;exact q.drop n
theorem aI.take:∀{ds:List D} {vs:List V} (n:Nat),aI K H ds vs->aI K H (ds.take n) (vs.take n)
 |ds,vs,0,h=>by simpa using aI.nil
 |[],_,n+1,h=>by rw[h.iJ];exact .nil
 |d::ds,vs,n+1,h=>by
  obtain⟨v,r,rfl,q,z⟩:=h.inv;exact .cons q (z.take n)
theorem aI.set:∀{ds:List D} {vs:List V} (i:Nat) {d:D} {v:V},aI K H ds vs->Hv K H d v->aI K H (ds.set i d) (vs.set i v)
 |[],_,i,d,v,h,_=>by rw[h.iJ];exact .nil
 |x::ds,vs,0,d,v,h,q=>by
  obtain⟨u,r,rfl,_,z⟩:=h.inv;exact .cons q z
 |x::ds,vs,i+1,d,v,h,q=>by
  obtain⟨u,r,rfl,y,z⟩:=h.inv;exact .cons y (z.set i q)
theorem aI.erase:∀{ds:List D} {vs:List V} (i:Nat),aI K H ds vs->aI K H (ds.eraseIdx i) (vs.eraseIdx i)
 |[],_,i,h=>by rw[h.iJ];exact .nil
 |x::ds,vs,0,h=>by
  obtain⟨u,r,rfl,_,z⟩:=h.inv;exact z
 |x::ds,vs,i+1,h=>by
  obtain⟨u,r,rfl,y,z⟩:=h.inv;exact .cons y (z.erase i)
theorem aI.rep{ds:List D}{vs:List V}(h:aI K H ds vs):∀k:Nat,aI K H (bF k ds).flatten (bF k vs).flatten
 |0=>.nil
 |k+1=>by
  simp only[gg,e7];exact h.append (h.rep k)
theorem aI.ints:∀(ns:List Int),aI K H (ns.map D.int) (ns.map V.int)
 |[]=>.nil
 |n::ns=>.cons (by simp[Hv]) (aI.ints ns)
theorem Ext.laid{p:η}{o:HO}(h:H p=none):Ext H (upd H p o):=⟨fun b xs e=>by rw[fi (mU e h)];exact e,fun b x u e=>by rw[fi (mU e h)];exact e⟩
theorem uc.ext{a:η}{o:GO}(h:uc K H a o)(E:Ext H H')(e:H' a=H a):uc K H' a o:=by
 cases o with
 |lst ds=>
  obtain⟨vs,z,q⟩:=h;exact⟨vs,e.trans z,q.ext E⟩
 |o4=>
  obtain⟨i,j,k,z,q⟩:=h;exact⟨i,j,k,e.trans z,q⟩
 |iB=>exact e.trans h
 |gen R=>
  obtain⟨h1,h2,h3⟩:=h;exact⟨h3 H H' E.tup E.iO e h1,by rw[e];exact h2,h3⟩
theorem bB.laid{p:η}{o:HO}(R:bB K G H)(h:H p=none):bB K G (upd H p o):=fun a u e=>by
 have hne:a≠p:=fun z=>by
  rw[z,R.free h] at e;cases e
 exact (R a u e).ext (Ext.laid h) (fi hne)
theorem bB.iP{p:η}{o:HO}{g:GO}(R:bB K G H)(h:H p=none)(new:uc K (upd H p o) p g):bB K (eu G p g) (upd H p o):=fun a u e=>by
 by_cases z:a=p
 ·subst z;rw[lg] at e;cases e;exact new
 ·rw[kC z] at e;exact (R.laid h) a u e
theorem Step.laid{p:η}{o:HO}(h:H p=none):Step H G (upd H p o) G:=⟨fun a u e _=>by rw[fi (mU e h)];exact e,fun a q=>by
 by_cases z:a=p
 ·rw[z,jW];simp
 ·rw[fi z];exact q,fun a n q=>absurd n q⟩
theorem Step.iP{p:η}{o:HO}{g:GO}(h:H p=none):Step H G (upd H p o) (eu G p g):=⟨(Step.laid (G:=G) h).fr,(Step.laid (G:=G) h).pT,fun a n q=>by
 by_cases z:a=p
 ·rw[z];exact h
 ·rw[kC z] at q;exact absurd n q⟩
theorem U4{p b:η}{xs ys:List V}(h:H p=some (.lst xs))(e:H b=some (.tup ys)):b≠p:=fun z=>by
 rw[z,h] at e;cases e
theorem U3{p b:η}{xs:List V}{o:br}{u:HO}(h:H p=some (.lst xs))(e:H b=some (.iO o u)):b≠p:=fun z=>by
 rw[z,h] at e;cases e
theorem Ext.wrote{p:η}{xs:List V}{o:HO}(h:H p=some (.lst xs)):Ext H (upd H p o):=
 ⟨fun b ys e=>by rw[fi (U4 h e)];exact e,fun b x u e=>by rw[fi (U3 h e)];exact e⟩
theorem bB.wrote{p:η}{xs:List V}{o:HO}{g:GO}(R:bB K G H)(h:H p=some (.lst xs))(new:uc K (upd H p o) p g):bB K (eu G p g) (upd H p o):=fun a u e=>by
 by_cases z:a=p
 ·subst z;rw[lg] at e;cases e;exact new
 ·rw[kC z] at e;exact (R a u e).ext (Ext.wrote h) (fi z)
theorem bB.qt{p:η}{xs:List V}{ds:List D}(R:bB K G H)(h:H p=none)(hv:aI K H ds xs):bB K (eu G p (.lst ds)) (upd H p (.lst xs)):=R.iP h ⟨xs,jW,hv.ext (.laid h)⟩
theorem bB.w9{p:η}{xs ys:List V}{ds:List D}(R:bB K G H)(e:H p=some (.lst xs))(hv:aI K H ds ys):bB K (eu G p (.lst ds)) (upd H p (.lst ys)):=R.wrote e ⟨ys,jW,hv.ext (.wrote e)⟩
theorem Step.wrote{p:η}{o:HO}{g u:GO}(h:G p=some u):Step H G (upd H p o) (eu G p g):=⟨fun a x e n=>by
 have hne:a≠p:=fun z=>by
  rw[z,h] at n;cases n
 rw[fi hne];exact e,fun a q=>by
 by_cases z:a=p
 ·rw[z,jW];simp
 ·rw[fi z];exact q,fun a n q=>by
 have hne:a≠p:=fun z=>by
  rw[z,h] at n;cases n
 rw[kC hne] at q;exact absurd n q⟩
end
abbrev S3:=List (Option D)
def j9:S3->Nat->Option D
 |[],_=>none
 |x::_,0=>x
 |_::r,n+1=>j9 r n
def lP:S3->Nat->D->S3
 |[],_,_=>[]
 |_::r,0,d=>some d::r
 |x::r,n+1,d=>x::lP r n d
structure fM(K:PySem.W.Frag)(τ:S3)(σ:L2.St)(H:Hp):Prop where
 len:τ.length=σ.length
 at_:∀(i:Nat) d,j9 τ i=some d->∃v,σ[i]?=some (some v)/\Hv K H d v
theorem Mp:∀(τ:S3) (i:Nat) (d:D),(lP τ i d).length=τ.length
 |[],_,_=>rfl
 |_::r,0,d=>rfl
 |x::r,n+1,d=>by simp[lP,Mp r n d]
theorem Mo:∀(τ:S3) (i j:Nat) (d:D),j9 (lP τ i d) j=if j=i/\i<τ.length then some d else j9 τ j
 |[],i,j,d=>by simp[lP,j9]
 |x::r,0,0,d=>by simp[lP,j9]
 |x::r,0,j+1,d=>by simp[lP,j9]
 |x::r,i+1,0,d=>by simp[lP,j9]
 |x::r,i+1,j+1,d=>by
  simp only[lP,j9,Mo r i j d,ag];by_cases h:j=i/\i<r.length
  ·rw[if_pos h,if_pos (by lia)]
  ·rw[if_neg h,if_neg (by lia)]
section
variable {K:PySem.W.Frag} {τ:S3} {σ:L2.St} {H H':Hp}
theorem fM.ext(R:fM K τ σ H)(E:Ext H H'):fM K τ σ H':=⟨R.len,fun i d h=>by
 obtain⟨v,e,q⟩:=R.at_ i d h;exact⟨v,e,q.ext E⟩⟩
theorem fM.set(R:fM K τ σ H){i:Nat}{d:D}{v:V}(h:Hv K H d v):fM K (lP τ i d) (σ.set i (some v)) H:=⟨by rw[Mp,mC];exact R.len,fun j e q=>by
 rw[Mo] at q;by_cases c:j=i/\i<τ.length
 ·rw[if_pos c] at q;cases q;refine⟨v,?_,h⟩;rw[c.1,kT (by rw[←R.len];exact c.2)]
 ·rw[if_neg c] at q;obtain⟨u,e1,e2⟩:=R.at_ j e q;refine⟨u,?_,e2⟩;by_cases hij:i=j
  ·subst hij;have:σ.length≤i:=by
    have:=R.len;have:¬i<τ.length:=fun z=>c ⟨rfl,z⟩;lia
   rw[ef.mpr this] at e1;cases e1
  ·rw[mD hij];exact e1⟩
end
def bI:List Ξ->List D->S3
 |[],_=>[]
 |_::N,[]=>none::bI N []
 |_::N,d::ds=>some d::bI N ds
theorem EO:∀(N:List Ξ) (ds:List D),(bI N ds).length=N.length
 |[],_=>rfl
 |_::N,[]=>by simp[bI,EO N []]
 |_::N,d::ds=>by simp[bI,EO N ds]
theorem Mn:∀(N:List Ξ) (i:Nat),j9 (bI N []) i=none
 |[],i=>rfl
 |_::N,0=>rfl
 |_::N,i+1=>Mn N i
theorem Mm:∀(N:List Ξ) (ds:List D) (i:Nat) (d:D),j9 (bI N ds) i=some d->ds[i]?=some d
 |[],_,_,_,h=>by cases h
 |_::N,[],i,d,h=>by
  rw[Mn] at h;cases h
 |_::N,x::ds,0,d,h=>by
  simp only[bI,j9] at h;simpa using h
 |_::N,x::ds,i+1,d,h=>by
  simp only[bI,j9] at h;simpa using Mm N ds i d h
theorem fM.start{K:PySem.W.Frag}{N:List Ξ}{ds:List D}{vs:List V}{H:Hp}(h:aI K H ds vs)(hl:vs.length≤N.length):fM K (bI N ds) (L2.start N vs) H:=⟨by
 rw[EO];simp[L2.start];lia,fun i d e=>by
 obtain⟨v,e1,q⟩:=h.get (Mm N ds i d e);refine⟨v,?_,q⟩;unfold L2.start;have hi:i<vs.length:=(Φ.mp e1).1;rw[cN (by simpa using hi),az,e1];rfl⟩
abbrev V3:=D->Gp->Prop
abbrev aO:=S3->Gp->V3->Prop
abbrev di:=S3->Gp->(Bool->Gp->Prop)->Prop
abbrev dF:=S3->Gp->(List D->Gp->Prop)->Prop
structure gO where
 nx:S3->Gp->Prop
 rt:V3
 bk:S3->Gp->Prop:=fun _ _=>False
 ct:S3->Gp->Prop:=fun _ _=>False
abbrev aB:=gO->S3->Gp->Prop
def low(K:PySem.W.Frag)(t:aO):TE:=fun σ H Q=>∃τ G Q3,fM K τ σ H/\bB K G H/\t τ G Q3/\∀v H' d G',Hv K H' d v->Step H G H' G'->bB K G' H'->Q3 d G'->Q v H'
def rL(K:PySem.W.Frag)(t:di):TT:=fun σ H Q=>∃τ G Q3,fM K τ σ H/\bB K G H/\t τ G Q3/\∀b H' G',Step H G H' G'->bB K G' H'->Q3 b G'->Q b H'
def uH(K:PySem.W.Frag)(t:dF):TA:=fun σ H Q=>∃τ G Q3,fM K τ σ H/\bB K G H/\t τ G Q3/\∀vs H' ds G',aI K H' ds vs->Step H G H' G'->bB K G' H'->Q3 ds G'->Q vs H'
structure tY(K:PySem.W.Frag)(H:Hp)(G:Gp)(D3:gO)(D2:Ends):Prop where
 nx:∀τ σ G' H',fM K τ σ H'->Step H G H' G'->bB K G' H'->D3.nx τ G'->D2.nx σ H'
 bk:∀τ σ G' H',fM K τ σ H'->Step H G H' G'->bB K G' H'->D3.bk τ G'->D2.bk σ H'
 ct:∀τ σ G' H',fM K τ σ H'->Step H G H' G'->bB K G' H'->D3.ct τ G'->D2.ct σ H'
 rt:∀d v G' H',Hv K H' d v->Step H G H' G'->bB K G' H'->D3.rt d G'->D2.rt v H'
theorem tY.step{K:PySem.W.Frag}{H H1:Hp}{G G1:Gp}{D3:gO}{D2:Ends}(E:tY K H G D3 D2)(S:Step H G H1 G1):tY K H1 G1 D3 D2:=
 ⟨fun τ σ G' H' a b c q=>E.nx τ σ G' H' a (S.trans b) c q,fun τ σ G' H' a b c q=>E.bk τ σ G' H' a (S.trans b) c q,fun τ σ G' H' a b c q=>E.ct τ σ G' H' a (S.trans b) c q,fun d v G' H' a b c q=>E.rt d v G' H' a (S.trans b) c q⟩
def MN(K:PySem.W.Frag)(t:aB):TS:=fun D2 σ H=>∃τ G D3,fM K τ σ H/\bB K G H/\t D3 τ G/\tY K H G D3 D2
abbrev cg(X:Cx)(e:ρ)(t:aO):Prop:=PE X e (low X.K t)
abbrev qV(X:Cx)(e:ρ)(t:di):Prop:=PT X e (rL X.K t)
abbrev wL(X:Cx)(e:ρ)(t:di):Prop:=PW X e (rL X.K t)
abbrev kO(X:Cx)(es:List ρ)(t:dF):Prop:=PA X es (uH X.K t)
abbrev oo(X:Cx)(st:bp)(t:aB):Prop:=PS X st (MN X.K t)
abbrev qx(X:Cx)(st:List bp)(t:aB):Prop:=om X st (MN X.K t)
section
variable {X:Cx} {e:ρ}
theorem jJ{t t':TE}(h:PE X e t)(f:∀σ H Q,t' σ H Q->t σ H Q):PE X e t':=fun pins s σ H Q I q=>h pins s σ H Q I (f σ H Q q)
theorem EN{t t':TT}(h:PT X e t)(f:∀σ H Q,t' σ H Q->t σ H Q):PT X e t':=fun pins s σ H Q I q=>h pins s σ H Q I (f σ H Q q)
theorem pw_of{t t':TT}(h:PW X e t)(f:∀σ H Q,t' σ H Q->t σ H Q):PW X e t':=fun w pins s σ H Q I q=>h w pins s σ H Q I (f σ H Q q)
theorem Ml{es:List ρ}{t t':TA}(h:PA X es t)(f:∀σ H Q,t' σ H Q->t σ H Q):PA X es t':=fun p pins s σ H Q I q=>h p pins s σ H Q I (f σ H Q q)
theorem mT{st:bp}{t t':TS}(h:PS X st t)(f:∀D σ H,t' D σ H->t D σ H):PS X st t':=fun pins s σ H Q I q=>h pins s σ H Q I (f Q σ H q)
theorem Mk{st:List bp}{t t':TS}(h:om X st t)(f:∀D σ H,t' D σ H->t D σ H):om X st t':=fun pins s σ H Q I q=>h pins s σ H Q I (f Q σ H q)
end
def Br(b:Bool)(A B:Prop):Prop:=(b=true->A)/\(b=false->B)
theorem Br.ite{b:Bool}{A B A' B':Prop}(h:Br b A B)(f:A->A')(g:B->B'):if b=true then A' else B':=by
 cases b with
 |true=>rw[if_pos rfl];exact f (h.1 rfl)
 |false=>rw[if_neg ak];exact g (h.2 rfl)
section
variable {X:Cx} {a b e c:ρ} {ta tb te:aO} {tA tB:di} {pos:aP} {es rest:List ρ}
def eC(d:D):aO:=fun _ G Q=>Q d G
def ν(i:Nat):aO:=fun τ G Q=>match j9 τ i with
 |some d=>Q d G
 |none=>False
theorem U2{i:Nat}{x:Ξ}(h:PE X (.Name x pos) (zr i)):cg X (.Name x pos) (ν i):=jJ h fun σ H Q zz=>by
 obtain⟨τ,G,Q3,RS,RG,h,k⟩:=zz;unfold ν at h;cases hd:j9 τ i with
 |none=>rw[hd] at h;exact h.elim
 |some d=>
  rw[hd] at h;obtain⟨v,e1,e2⟩:=RS.at_ i d hd;exact⟨v,e1,k v H d G e2 (.refl H G) RG h⟩
theorem AZ{v:V}{d:D}(h:PE X e (tC v))(r:∀H,Hv X.K H d v):cg X e (eC d):=jJ h fun σ H Q zz=>by obtain⟨τ,G,Q3,RS,RG,h,k⟩:=zz;exact k v H d G (r H) (.refl H G) RG h
theorem U1{i:Int}{j}:cg X (.Constant (.int i) j pos) (eC (.int i)):=AZ WK fun H=>by simp[Hv]
theorem aaW{i:Bool}{j}:cg X (.Constant (.bool i) j pos) (eC (.bl i)):=AZ WJ fun H=>by simp[Hv]
theorem U0{j}:cg X (.Constant .none j pos) (eC .aF):=AZ WI fun H=>by simp[Hv]
theorem UZ{x:Ξ}{i:Int}{u:kz}(hm:X.mg x=some (.int i u))(hg:Gl X x:=by rfl)(hd:(x==("__debug__":Ξ))=false:=by decide):cg X (.Name x pos) (eC (.int i)):=AZ (v:=.int i) (WH hg hm ⟨u,rfl⟩ hd) fun H=>by simp[Hv]
abbrev R3:=D->D->Gp->V3->Prop
def aJ(r:R3)(ta tb:aO):aO:=fun τ G Q=>ta τ G fun x G1=>tb τ G1 fun y G2=>r x y G2 Q
def dU(K:PySem.W.Frag)(r:R3)(r2:R2):Prop:=∀x y vx vy G H Q3 Q,Hv K H x vx->Hv K H y vy->bB K G H->r x y G Q3->(∀v H' d G',Hv K H' d v->Step H G H' G'->bB K G' H'->Q3 d G'->Q v H')->r2 vx vy H Q
theorem yc{K:PySem.W.Frag}{r:R3}{r2:R2}(L:dU K r r2){σ:L2.St}{H:Hp}{Q:VK}(h:low K (aJ r ta tb) σ H Q):CH r2 (low K ta) (low K tb) σ H Q:=by
 obtain⟨τ,G,Q3,RS,RG,h,k⟩:=h;refine⟨τ,G,_,RS,RG,h,fun v1 H1 d1 G1 h1 S1 R1 q1=>?_⟩;refine⟨τ,G1,_,RS.ext (S1.ext RG),R1,q1,fun v2 H2 d2 G2 h2 S2 R2 q2=>?_⟩;exact L _ _ _ _ _ _ _ _ (h1.ext (S2.ext R1)) h2 R2 q2 fun v H' d G' z1 z2 z3 z4=>k v H' d G' z1 ((S1.trans S2).trans z2) z3 z4
theorem aaU{op:lu}{r:R3}{r2:R2}(L:dU X.K r r2)(ho:eO X (binaryOp op) r2)(ha:cg X a ta)(hb:cg X b tb):cg X (.BinOp a op b pos) (aJ r ta tb):=
 jJ (Wv ho ha hb) fun _ _ _ h=>yc L h
theorem UY{op:oK}{r:R3}{r2:R2}(L:dU X.K r r2)(ho:eO X (compareOp op) r2)(ha:cg X a ta)(hb:cg X b tb)(hm:behindInMarks op b=false):cg X (.Compare a [op] [b] pos) (aJ r ta tb):=
 jJ (Wo ho ha hb hm) fun _ _ _ h=>yc L h
def bJ(t:aO):di:=fun τ G Q=>t τ G fun x G1=>match x with
 |.bl k=>Q k G1
 |_=>False
theorem LJ{K:PySem.W.Frag}{t:aO}{σ:L2.St}{H:Hp}{Q:Bool->Hp->Prop}(h:rL K (bJ t) σ H Q):Fx (low K t) σ H Q:=by
 obtain⟨τ,G,Q3,RS,RG,h,k⟩:=h;refine⟨τ,G,_,RS,RG,h,fun v H' d G' h1 h2 h3 h4=>?_⟩;cases d with
 |bl c=>
  unfold Hv at h1;exact⟨c,h1,k c H' G' h2 h3 h4⟩
 |_=>exact h4.elim
theorem UX{op:oK}{r:R3}{r2:R2}(L:dU X.K r r2)(ho:eO X (compareOp op) r2)(ha:cg X a ta)(hb:cg X b tb)(hm:behindInMarks op b=false):qV X (.Compare a [op] [b] pos) (bJ (aJ r ta tb)):=
 EN (VM ho ha hb hm) fun σ H Q h=>by
  obtain⟨τ,G,Q3,RS,RG,h,k⟩:=LJ h;exact yc L ⟨τ,G,Q3,RS,RG,h,k⟩
theorem UW(h:cg X a ta)(he:∀whole,isTrue a X.env whole=(do let v ←whole;standAt a.pos;holding [v] (truthy v)):=by intro _;rfl):qV X a (bJ ta):=
 EN (VH h he) fun σ H Q h=>by
  obtain⟨τ,G,Q3,RS,RG,h,k⟩:=LJ h;refine⟨τ,G,Q3,RS,RG,h,fun v H' d G' h1 h2 h3 h4=>?_⟩;obtain⟨c,rfl,q⟩:=k v H' d G' h1 h2 h3 h4;exact⟨c,rfl,q⟩
def vg(r r':R3)(ta tb tc:aO):aO:=fun τ G Q=>ta τ G fun x G1=>tb τ G1 fun y G2=>r x y G2 fun z G3=>match z with
 |.bl k=>Br k (tc τ G3 fun w G4=>r' y w G4 Q) (Q (.bl false) G3)
 |_=>False
theorem UU{K:PySem.W.Frag}{r r':R3}{r2 r2':R2}(L:dU K r r2)(L':dU K r' r2'){tc:aO}{σ:L2.St}{H:Hp}{Q:VK}(h:low K (vg r r' ta tb tc) σ H Q):xg r2 r2' (low K ta) (low K tb) (low K tc) σ H Q:=by
 obtain⟨τ,G,Q3,RS,RG,h,k⟩:=h;refine⟨τ,G,_,RS,RG,h,fun v1 H1 d1 G1 h1 S1 R1 q1=>?_⟩;refine⟨τ,G1,_,RS.ext (S1.ext RG),R1,q1,fun v2 H2 d2 G2 h2 S2 R2 q2=>?_⟩;refine L _ _ _ _ _ _ _ _ (h1.ext (S2.ext R1)) h2 R2 q2 fun v H3 d G3 z1 S3 R3 z4=>?_;cases d with
 |bl c=>
  unfold Hv at z1;refine⟨c,z1,Br.ite z4 (fun q=>?_) fun q=>?_⟩
  ·refine⟨τ,G3,_,((RS.ext (S1.ext RG)).ext (S2.ext R1)).ext (S3.ext R2),R3,q,fun v4 H4 d4 G4 h4 S4 R4 q4=>?_⟩;exact L' _ _ _ _ _ _ _ _ ((h2.ext (S3.ext R2)).ext (S4.ext R3)) h4 R4 q4 fun v H' d G' y1 y2 y3 y4=>k v H' d G' y1 ((((S1.trans S2).trans S3).trans S4).trans y2) y3 y4
  ·exact k _ H3 (.bl false) G3 (by simp[Hv]) ((S1.trans S2).trans S3) R3 q
 |_=>exact z4.elim
theorem UT{op op':oK}{r r':R3}{r2 r2':R2}{tc:aO}(L:dU X.K r r2)(L':dU X.K r' r2')(h:PE X e (xg r2 r2' (low X.K ta) (low X.K tb) (low X.K tc))):cg X e (vg r r' ta tb tc):=
 jJ h fun _ _ _ h=>UU L L' h
def M0(r:D->Gp->V3->Prop)(ta:aO):aO:=fun τ G Q=>ta τ G fun x G1=>r x G1 Q
def zD:D->Gp->V3->Prop:=fun x G Q=>match x with
 |.int i=>Q (.int (-i)) G
 |_=>False
theorem US(ha:cg X a ta):cg X (.UnaryOp .USub a pos) (M0 zD ta):=jJ (Wu Ws ha) fun σ H Q h=>by
 obtain⟨τ,G,Q3,RS,RG,h,k⟩:=h;refine⟨τ,G,_,RS,RG,h,fun v H' d G' h1 h2 h3 h4=>?_⟩;cases d with
 |int i=>
  unfold Hv at h1;exact⟨i,h1,k _ H' (.int (-i)) G' (by simp[Hv]) h2 h3 h4⟩
 |_=>exact h4.elim
def tj(t u:di):di:=fun τ G Q=>t τ G fun c G1=>Br c (u τ G1 Q) (Q false G1)
def tf(t u:di):di:=fun τ G Q=>t τ G fun c G1=>Br c (Q true G1) (u τ G1 Q)
def o9(t:di):di:=fun τ G Q=>t τ G fun c G1=>Q (!c) G1
theorem UR(ha:qV X a tA):wL X (.BoolOp .And [a] pos) tA:=pw_and1 ha
theorem UQ(ha:qV X a tA):wL X (.BoolOp .Or [a] pos) tA:=pw_or1 ha
theorem UP(ha:qV X a tA)(hb:wL X (.BoolOp .And (b::rest) pos) tB):wL X (.BoolOp .And (a::b::rest) pos) (tj tA tB):=pw_of (pw_and ha hb) fun σ H Q h=>by
 obtain⟨τ,G,Q3,RS,RG,h,k⟩:=h;refine⟨τ,G,_,RS,RG,h,fun c H1 G1 S1 R1 q1=>?_⟩;exact Br.ite q1 (fun q=>⟨τ,G1,Q3,RS.ext (S1.ext RG),R1,q,fun b' H' G' y1 y2 y3=>k b' H' G' (S1.trans y1) y2 y3⟩) fun q=>k false H1 G1 S1 R1 q
theorem UO(ha:qV X a tA)(hb:wL X (.BoolOp .Or (b::rest) pos) tB):wL X (.BoolOp .Or (a::b::rest) pos) (tf tA tB):=pw_of (pw_or ha hb) fun σ H Q h=>by
 obtain⟨τ,G,Q3,RS,RG,h,k⟩:=h;refine⟨τ,G,_,RS,RG,h,fun c H1 G1 S1 R1 q1=>?_⟩;exact Br.ite q1 (fun q=>k true H1 G1 S1 R1 q) fun q=>⟨τ,G1,Q3,RS.ext (S1.ext RG),R1,q,fun b' H' G' y1 y2 y3=>k b' H' G' (S1.trans y1) y2 y3⟩
theorem OA(h:wL X a tA):qV X a tA:=h.pt
theorem UN(ha:qV X a tA):qV X (.UnaryOp .Not a pos) (o9 tA):=EN (WE ha) fun σ H Q h=>by
 obtain⟨τ,G,Q3,RS,RG,h,k⟩:=h;exact⟨τ,G,_,RS,RG,h,fun c H1 G1 S1 R1 q1=>k _ H1 G1 S1 R1 q1⟩
def rW(ta tb:aO):aO:=fun τ G Q=>ta τ G fun x G1=>match x with
 |.bl c=>Br c (tb τ G1 Q) (Q (.bl false) G1)
 |_=>False
def Fe(ta tb:aO):aO:=fun τ G Q=>ta τ G fun x G1=>match x with
 |.bl c=>Br c (Q (.bl true) G1) (tb τ G1 Q)
 |_=>False
def BO(ta:aO):aO:=fun τ G Q=>ta τ G fun x G1=>match x with
 |.bl c=>Q (.bl (!c)) G1
 |_=>False
theorem UM{op}(h:cg X a ta):cg X (.BoolOp op [a] pos) ta:=WD h
theorem UL(ha:cg X a ta)(hb:cg X (.BoolOp .And (b::rest) pos) tb):cg X (.BoolOp .And (a::b::rest) pos) (rW ta tb):=jJ (Wn ha hb) fun σ H Q h=>by
 obtain⟨τ,G,Q3,RS,RG,h,k⟩:=h;refine⟨τ,G,_,RS,RG,h,fun v H1 d G1 h1 S1 R1 q1=>?_⟩;cases d with
 |bl c=>
  unfold Hv at h1;exact⟨c,h1,Br.ite q1 (fun q=>⟨τ,G1,Q3,RS.ext (S1.ext RG),R1,q,fun b' H' d' G' y0 y1 y2 y3=>k b' H' d' G' y0 (S1.trans y1) y2 y3⟩) fun q=>k _ H1 (.bl false) G1 (by simp[Hv]) S1 R1 q⟩
 |_=>exact q1.elim
theorem aaT(ha:cg X a ta)(hb:cg X (.BoolOp .Or (b::rest) pos) tb):cg X (.BoolOp .Or (a::b::rest) pos) (Fe ta tb):=jJ (Wm ha hb) fun σ H Q h=>by
 obtain⟨τ,G,Q3,RS,RG,h,k⟩:=h;refine⟨τ,G,_,RS,RG,h,fun v H1 d G1 h1 S1 R1 q1=>?_⟩;cases d with
 |bl c=>
  unfold Hv at h1;exact⟨c,h1,Br.ite q1 (fun q=>k _ H1 (.bl true) G1 (by simp[Hv]) S1 R1 q) fun q=>⟨τ,G1,Q3,RS.ext (S1.ext RG),R1,q,fun b' H' d' G' y0 y1 y2 y3=>k b' H' d' G' y0 (S1.trans y1) y2 y3⟩⟩
 |_=>exact q1.elim
theorem UK(ha:cg X a ta):cg X (.UnaryOp .Not a pos) (BO ta):=jJ (Wl ha) fun σ H Q h=>by
 obtain⟨τ,G,Q3,RS,RG,h,k⟩:=h;refine⟨τ,G,_,RS,RG,h,fun v H1 d G1 h1 S1 R1 q1=>?_⟩;cases d with
 |bl c=>
  unfold Hv at h1;exact⟨c,h1,k _ H1 (.bl (!c)) G1 (by simp[Hv]) S1 R1 q1⟩
 |_=>exact q1.elim
def notStar:ρ->Bool
 |.Starred ..=>false
 |_=>true
theorem gs{e:ρ}{es:List ρ}{env:jk}(h:notStar e=true):b8 (e::es) env=(false,eval e env)::b8 es env:=by
 cases e<;>first|rfl|(simp[notStar] at h)
theorem ma{pos:aP}{env:jk}:∀{es:List ρ},es.all notStar=true->(backTo pos (b8 es env)).any (·.1)=false
 |[],_=>rfl
 |e::es,h=>by
  rw[List.all_cons,bV] at h;rw[gs h.1];show (false||(backTo pos (b8 es env)).any (·.1))=false;rw[ma h.2];rfl
def ab:dF:=fun _ G Q=>Q [] G
def μ(ta:aO)(tr:dF):dF:=fun τ G Q=>ta τ G fun x G1=>tr τ G1 fun xs G2=>Q (x::xs) G2
theorem Vl:kO X [] ab:=Ml A1 fun σ H Q zz=>by obtain⟨τ,G,Q3,RS,RG,h,k⟩:=zz;exact k [] H [] G .nil (.refl H G) RG h
theorem Vk{tr:dF}(ha:cg X a ta)(hr:kO X es tr)(hs:notStar a=true:=by rfl):kO X (a::es) (μ ta tr):=Ml (yd ha hr (gs hs)) fun σ H Q h=>by
 obtain⟨τ,G,Q3,RS,RG,h,k⟩:=h;refine⟨τ,G,_,RS,RG,h,fun v1 H1 d1 G1 h1 S1 R1 q1=>?_⟩;refine⟨τ,G1,_,RS.ext (S1.ext RG),R1,q1,fun vs H2 ds G2 h2 S2 R2 q2=>?_⟩;exact k _ H2 _ G2 (.cons (h1.ext (S2.ext R1)) h2) (S1.trans S2) R2 q2
def sF{α:Type}(P:Prop):List α->Nat->Prop
 |[],_=>P
 |_::_,0=>False
 |_::xs,n+1=>sF P xs n
theorem AY{α:Type}{P:Prop}:∀{xs:List α} {n:Nat},sF P xs n->xs.length≤n/\P
 |[],n,h=>⟨aQ _,h⟩
 |_::_,0,h=>h.elim
 |_::xs,n+1,h=>by
  obtain⟨h1,h2⟩:=AY (xs:=xs) (n:=n) h;exact⟨Nat.succ_le_succ h1,h2⟩
theorem yx{n:Nat}(h:n≤64):n≤ao:=aD h (by decide)
def dw(t:dF):aO:=fun τ G Q=>t τ G fun ds G1=>sF (Q (.tup ds) G1) ds 64
def nO(t:dF):aO:=fun τ G Q=>t τ G fun ds G1=>sF (∀p G2,eQ G1 p (.lst ds) G2->Q (.obj p) G2) ds 64
theorem Vj{t:dF}{x1}(h:kO X es t):cg X (.Tuple es x1 pos) (dw t):=jJ (VD h) fun σ H Q h=>by
 obtain⟨τ,G,Q3,RS,RG,h,k⟩:=h;refine⟨τ,G,_,RS,RG,h,fun vs H1 ds G1 h1 S1 R1 q1=>?_⟩;obtain⟨z,q1⟩:=AY q1;refine⟨by rw[←h1.length];exact yx z,fun p hp=>?_⟩;refine k _ _ (.tup ds) G1 ?_ (S1.trans (.laid hp)) (R1.laid hp) q1;unfold Hv;exact⟨p,vs,rfl,.of jW,h1.ext (.laid hp)⟩
theorem Vi{t:dF}(h:kO X es t):cg X (.List es pos) (nO t):=jJ (Mb h) fun σ H Q h=>by
 obtain⟨τ,G,Q3,RS,RG,h,k⟩:=h;refine⟨τ,G,_,RS,RG,h,fun vs H1 ds G1 h1 S1 R1 q1=>?_⟩;obtain⟨z,q1⟩:=AY q1;refine⟨by rw[←h1.length];exact yx z,fun p hp=>?_⟩;exact k _ _ (.obj p) (eu G1 p (.lst ds)) (by simp[Hv]) (S1.trans (.iP hp)) (R1.iP hp ⟨vs,jW,h1.ext (.laid hp)⟩) (q1 p _ (.mk' (R1.free hp)))
end
end L3
namespace L2
open PySem PySem.Spec PyProof.Rows
def mW(env:jk):List (Ξ×gj)->List (Ξ×η)->List (Ξ×η)
 |[],acc=>acc
 | (n,k)::r,acc=>mW env r (if k=.free then (n,(env.cells.lookup n).getD 0)::acc else acc)
theorem LI{scope:iE}{env:jk}(h:∀y∈scope.names,y.2=.free->∃c,env.cells.lookup y.1=some c):closureFor scope env=pure (mW env scope.names []):=by
 have key:∀(l:List (Ξ×gj)) (acc:List (Ξ×η)),(∀y∈l,y.2=.free->∃c,env.cells.lookup y.1=some c) ->
   (forIn l acc fun (x:Ξ×gj) (r:List (Ξ×η))=>(do
    if (x.2==dm)=true then do
     let a ←cellOf env x.1
     pure (gC ((x.1,a)::r))
    else pure (gC r):Sem (ForInStep (List (Ξ×η)))))=pure (mW env l acc):=by
  intro l
  induction l with
  |nil=>intro acc _;rfl
  |cons y r ih=>
   intro acc hy;obtain⟨n,k⟩:=y;rw[List.forIn_cons];by_cases hk:k=.free
   ·obtain⟨c,hc⟩:=hy (n,k) ο hk;have e1:cellOf env n=pure c:=by unfold cellOf;rw[show env.cells.lookup n=some c from hc]
    subst hk;simp only[beq_self_eq_true,if_true,e1,pure_bind];rw[ih _ fun y hy'=>hy y (χ _ hy')];show _=pure (mW env r (if dm=dm then (n,(env.cells.lookup n).getD 0)::acc else acc));rw[if_pos rfl,show env.cells.lookup n=some c from hc];rfl
   ·have hb:(k==dm)=false:=by simpa using hk
    simp only[hb,cq,if_false,pure_bind];rw[ih _ fun y hy'=>hy y (χ _ hy')];show _=pure (mW env r (if k=dm then (n,(env.cells.lookup n).getD 0)::acc else acc));rw[if_neg hk]
 have:=key scope.names [] h;unfold closureFor
 first
  |exact (by simpa using this)
  | (simp only[bind_pure];exact this)
theorem LH{env:jk}{x:Ξ}{c:η}:∀(l:List (Ξ×gj)) (acc:List (Ξ×η)),(mW env l acc).lookup x=some c ->
  acc.lookup x=some c∨((x,dm)∈l/\c=(env.cells.lookup x).getD 0)
 |[],_,h=>.inl h
 | (n,k)::r,acc,h=>by
  rcases LH r _ h with q|⟨q1,q2⟩
  ·by_cases hk:k=.free
   ·rw[if_pos hk,hJ] at q;by_cases hx:(x==n)=true
    ·rw[hx] at q;have hx':x=n:=by simpa using hx
     subst hx' hk;exact .inr ⟨ο,(aA q).symm⟩
    ·have hx2:(x==n)=false:=by simpa using hx
     rw[hx2] at q;exact .inl q
   ·rw[if_neg hk] at q;exact .inl q
  ·exact .inr ⟨χ _ q1,q2⟩
theorem LG{env:jk}{x:Ξ}:∀(l:List (Ξ×gj)) (acc:List (Ξ×η)),acc.lookup x=some ((env.cells.lookup x).getD 0)->(mW env l acc).lookup x=some ((env.cells.lookup x).getD 0)
 |[],_,h=>h
 | (n,k)::r,acc,h=>by
  refine LG r _ ?_;by_cases hk:k=.free
  ·rw[if_pos hk,hJ];by_cases hx:(x==n)=true
   ·rw[hx];have hx':x=n:=by simpa using hx
    rw[hx']
   ·have hx2:(x==n)=false:=by simpa using hx
    rw[hx2];exact h
  ·rw[if_neg hk];exact h
theorem LF{env:jk}{x:Ξ}:∀(l:List (Ξ×gj)) (acc:List (Ξ×η)),(x,dm)∈l->(mW env l acc).lookup x=some ((env.cells.lookup x).getD 0)
 |[],_,h=>by cases h
 | (n,k)::r,acc,h=>by
  rcases ay.mp h with e|e
  ·cases e;refine LG r _ ?_;rw[if_pos rfl,hJ,beq_self_eq_true]
  ·exact LF r _ e
structure de(N:List Ξ)(sc scope:iE)(own:List Ξ)(js:List Nat):Prop where
 kind:scope.kind=.function
 CY:∀y∈scope.names,y.2≠.cell
 names:∀y∈scope.names,y.2=.local->scope.names.lookup y.1=some .local
 free:∀y∈scope.names,y.2=.free->sc.names.lookup y.1=some .cell/\own.contains y.1=false
 only:∀y∈scope.names,y.2=.free->scope.names.lookup y.1=some .free
 js:∀j∈js,j<N.length/\(N.getD j jj,dm)∈scope.names
def aaY(N own:List Ξ)(js:List Nat):List Ξ:=own++js.map fun j=>N.getD j jj
def tS(own:List Ξ)(js:List Nat)(σ:St):St:=bF own.length none++js.map fun j=>(σ[j]?).getD none
def Cx.cmp(X:Cx)(scope:iE)(own:List Ξ)(js:List Nat)(s:ζ)(H:Hp)(fp:List η):Cx:=
 { X with N:=aaY X.N own js,s₀:=s,H₀:=H,env:=compEnvC scope (mW X.env scope.names []) s.heap.objs.size X.env,outer:=X.stack,ex:=fp,fn:=fun x=>own.contains x,pn:=[],xe:=fun _ _=>False }
theorem AX{sc:iE}{env:jk}{x:Ξ}{k:gj}:∀(names:List (Ξ×gj)),
  (names.map fun (n,k)=>if (k==dm&&env.scope.kind==.function&&env.kindOf n==some .cell) then (n,su) else (n,k)).lookup x=some k ->
  (names.lookup x=some k/\(k≠.free∨k=.free))∨(k=.cell/\names.lookup x=some .free)
 |[],h=>by simp at h
 | (n,k')::r,h=>by
  have ih:=@AX sc env x k r;have h':List.lookup x ((if (k'==dm&&env.scope.kind==.function&&env.kindOf n==some .cell)=true then (n,su) else (n,k'))::_)=some k:=h;rw[hJ];by_cases hc:(k'==dm&&env.scope.kind==.function&&env.kindOf n==some .cell)=true
  ·rw[if_pos hc,hJ] at h';cases hx:x==n with
   |true=>
    rw[hx] at h';have e:su=k:=aA h';have hk':k'=.free:=by
     rw[bV,bV] at hc;simpa using hc.1.1
    exact .inr ⟨e.symm,by rw[hk']⟩
   |false=>
    rw[hx] at h';exact ih h'
  ·rw[if_neg hc,hJ] at h';cases hx:x==n with
   |true=>
    rw[hx] at h';have e:k'=k:=aA h';subst e;exact .inl ⟨rfl,by by_cases z:k'=.free;exact .inr z;exact .inl z⟩
   |false=>
    rw[hx] at h';exact ih h'
theorem EM{x:Ξ}{k:gj}{l:List (Ξ×gj)}(h:l.lookup x=some k):(x,k)∈l:=PySem.mem_of_lookup h
section
variable {X:Cx} {pins:List (η×br)} {σ:St} {H:Hp} {s:ζ} {scope:iE} {own:List Ξ} {js:List Nat} {fp:List η}
theorem de.cells(C:de X.N X.env.scope scope own js)(ok:X.Ok):∀y∈scope.names,y.2=.free->∃c,X.env.cells.lookup y.1=some c:=fun y hy e=>
 ok.has y.1 (.inl (C.free y hy e).1)
theorem de.tT(C:de X.N X.env.scope scope own js)(ok:X.Ok){x:Ξ}{c:η}(h:(mW X.env scope.names []).lookup x=some c):(x,dm)∈scope.names/\X.env.cells.lookup x=some c:=by
 rcases LH scope.names [] h with q|⟨q1,q2⟩
 ·cases q
 ·obtain⟨c',e⟩:=C.cells ok _ q1 rfl;refine⟨q1,?_⟩;rw[q2,show X.env.cells.lookup x=some c' from e];rfl
theorem de.C8(C:de X.N X.env.scope scope own js)(ok:X.Ok){x:Ξ}(h:(x,dm)∈scope.names):∃c,(mW X.env scope.names []).lookup x=some c/\X.env.cells.lookup x=some c:=by
 obtain⟨c,e⟩:=C.cells ok _ h rfl;refine⟨c,?_,e⟩;rw[LF scope.names [] h,show X.env.cells.lookup x=some c from e];rfl
theorem Inv.N6(I:Inv X pins σ H s)(C:de X.N X.env.scope scope own js)(hf:∀b∈fp,kE X pins H b/\b<s.heap.objs.size):(X.cmp scope own js s H fp).Ok where
 mod:=I.ok.mod
 kind:=C.kind
 glob:=I.ok.glob
 blt:=I.ok.blt
 above:=υ _
 inj:=fun x y c h1 h2=>I.ok.inj x y c (C.tT I.ok h1).2 (C.tT I.ok h2).2
 has:=fun x h=>by
  have hfree:(x,dm)∈scope.names:=by
   rcases h with h|h
   ·rcases AX (sc:=scope) (env:=X.env) scope.names h with⟨q,_⟩|⟨_,q⟩
    ·exact absurd rfl (C.CY _ (EM q))
    ·exact EM q
   ·rcases AX (sc:=scope) (env:=X.env) scope.names h with⟨q,_⟩|⟨q,_⟩
    ·exact EM q
    ·cases q
  obtain⟨c,e,_⟩:=C.C8 I.ok hfree;exact⟨c,e⟩
 zo:=fun x c h1 h2=>by
  have q:=(C.free _ (C.tT I.ok h2).1 rfl).2;have h1':own.contains x=true:=h1;rw[q] at h1';cases h1'
 hd:=I.ok.hd
 frames:=I.ok.frames
 CI:=.inl rfl
 C7:=fun b hb=>⟨aX (hf b hb).2,fun x c e=>(hf b hb).1.2.2.2.2.1 x c (C.tT I.ok e).2⟩
 bs:=I.bs
 vm:=aD I.ok.vm I.sz
 uG:=fun b o e hb=>by
  rcases (hf b hb).1.2.2.2.1 with z|z
  ·exact I.ok.uG b o e z
  ·exact absurd (bK (Heap.lt_size e) (aD I.ok.vm z)) (cU _)
 wu:=fun b hb z=>by
  rcases ay.mp (I.xi b z) with e|e
  ·exact (hf b hb).1.2.1 e
  ·exact (hf b hb).1.2.2.1 e
 nN:=I.stack
 yC:=I.yY
theorem Vh{N:List Ξ}{js:List Nat}{i:Nat}{x:Ξ}(h:(js.map fun j=>N.getD j jj)[i]?=some x):∃j,js[i]?=some j/\x=N.getD j jj:=by
 rw[az] at h;cases e:js[i]? with
 |none=>rw[e] at h;cases h
 |some j=>rw[e] at h;exact⟨j,rfl,(aA h).symm⟩
theorem Inv.cmp(I:Inv X pins σ H s)(C:de X.N X.env.scope scope own js)(hf:∀b∈fp,kE X pins H b/\b<s.heap.objs.size){h':Heap}{tk:Nat}(hn:h'.Ns s.heap.objs.size fun _=>none)
  (kept:∀b o,s.heap.get? b=some o->h'.get? b=some o):Inv (X.cmp scope own js s H fp) [] (tS own js σ) H { s with heap:=h',toks:=tk }:=by
 have ok:=I.N6 C hf;refine⟨ok,rfl,I.bare,Un.kept kept,⟨_,hn,fun i x v h1 h2 h3=>?_⟩,fun x c e=>?_,I.cB.fresh (υ _),fun x c e=>I.m9 x c (C.tT I.ok e).2,fun p hp=>?_,I.cB.kept kept,?_⟩
 ·have h1':(own++js.map fun j=>X.N.getD j jj)[i]?=some x:=h1;have h2':(bF own.length none++js.map fun j=>(σ[j]?).getD none)[i]?=some (some v):=h2;by_cases hi:i<own.length
  ·rw[cN (by simpa using hi),pP,if_pos hi] at h2';cases h2'
  ·rw[bD (by lia)] at h1';rw[bD (by simp;lia),lK] at h2';obtain⟨j,hj,rfl⟩:=Vh h1';rw[az,hj] at h2';have h2'':(σ[j]?).getD none=some v:=aA h2';have hσ:σ[j]?=some (some v):=by
    cases e:σ[j]? with
    |none=>rw[e] at h2'';cases h2''
    |some o=>
     rw[e] at h2'';have:o=some v:=h2'';rw[this]
   obtain⟨jl,jf⟩:=C.js j (bG hj);have hN:X.N[j]?=some (X.N.getD j jj):=by
    rw[dX,Θ jl];rfl
   have hcell:=(C.free _ jf rfl).1;obtain⟨m,hm,hl⟩:=I.loc;obtain⟨u,ru,lk⟩:=hl j _ v hN hσ (.inr (.inl hcell));refine⟨u,ru,?_⟩;obtain⟨c,e1,e2⟩:=C.C8 I.ok jf;rcases lk with⟨z,_⟩|⟨_,c',z1,z2⟩
   ·have z':X.env.scope.names.lookup (X.N.getD j jj)=some .local:=z;rw[show X.env.scope.names.lookup (X.N.getD j jj)=some .cell from hcell] at z';cases z'
   ·rw[e2] at z1;cases z1;have ic:h'.IsCell c (some u):=by
     obtain⟨o,q1,q2⟩:=z2;exact⟨o,kept _ _ q1,q2⟩
    rcases h3 with h3|h3|h3
    ·exfalso;rcases AX (sc:=scope) (env:=X.env) scope.names h3 with⟨q,_⟩|⟨q,_⟩
     ·have z:=C.only _ jf rfl;rw[q] at z;cases z
     ·cases q
    ·exact .inr ⟨.inl h3,c,e1,ic⟩
    ·exact .inr ⟨.inr h3,c,e1,ic⟩
 ·obtain⟨v,o,q1,q2⟩:=I.cell x c (C.tT I.ok e).2;exact⟨v,o,kept _ _ q1,q2⟩
 ·exact absurd (show p∈([]:List (η×br)) from hp) (by simp)
 ·show (bF own.length none++js.map fun j=>(σ[j]?).getD none).length=(own++js.map fun j=>X.N.getD j jj).length;simp
theorem Inv.Np{σ':St}{H':Hp}{s':ζ}{pl:List (η×br)}(I:Inv X pins σ H s)(hf:∀b∈fp,kE X pins H b/\b<s.heap.objs.size)(J:Inv (X.cmp scope own js s H fp) pl σ' H' s'):Inv X pins σ H' s':=by
 refine I.N7 (ch:=fp) J.os J.base J.cB J.bare fun b hb=>?_;obtain⟨f0,f1,f2,f3,f4,f5⟩:=(hf b hb).1;exact⟨f3,f1,f4,f5⟩
theorem Inv.other{H':Hp}{s':ζ}{h':Heap}{b:η}(I0:Inv X pins σ H s)(I:Inv X pins σ H' s')(hb:s.heap.objs.size≤b)(hn:H' b=none)(sb:Heap.SameBut b s'.heap h'):Inv X pins σ H' { s' with heap:=h' }:=by
 obtain⟨f0,f1,f2,f3,f4,f5⟩:=I0.rT hb hn;exact I.turned (t':=s'.toks) (fun c o hc e=>(sb.2 c hc).trans e) f0 f1 f3 f4 f5
end
def t9(X:Cx)(ifs:List ρ)(t:TT):Prop:=
 ∀(pins:List (η×br)) (s:ζ) (σ:St) (H:Hp) (Q:Bool->Hp->Prop),Inv X pins σ H s->t σ H Q ->
  π (model X.prog X.w) X.A (forIn ifs true fun c r=>if r=true then do let ok ←isTrue c X.env (eval c X.env);pure (gC ok) else pure (gC r)) (TP X pins σ Q) X.xe s
def Hl:TT:=fun _ H Q=>Q true H
theorem Vg{X:Cx}:t9 X [] Hl:=fun _ _ _ H _ I h=>wpAny_tests_nil ⟨H,I,h⟩
theorem Vf{X:Cx}{c:ρ}{t:TT}(h:PT X c t):t9 X [c] t:=fun pins s σ H Q I hq=>wpAny_tests_one (h pins s σ H Q I hq)
section
variable {prog:aw} {w:aG} {A:aR} {R:pD->ζ->Prop} {s:ζ}
theorem Ve{elt target iter:ρ}{ifs:List ρ}{scope:iE}{pos:aP}{it acc:δ}{env:jk}(I:Nat->ζ->Prop)
  (turn:∀n s,I n s->π (model prog w) A (pyNext it) (fun r s₁=>match r with
   |none=>R (.ok .next) s₁
   | some v=>π (model prog w) A (letOwnedTupleGo target it v) (fun _ s₁'=>π (model prog w) A (assign target env v) (fun _ s₂=>
     π (model prog w) A (forIn ifs true fun c r=>if r=true then do let ok ←isTrue c env (eval c env);pure (gC ok) else pure (gC r)) (fun ok s₃=>
      if ok=true then π (model prog w) A (eval elt env) (fun x s₄=>
       π (model prog w) A (call (.builtin "list.append") [acc,x]) (fun _ s₅=>∃m,m<n/\I m s₅) (fun _ _=>False) s₄) (fun _ _=>False) s₃
      else ∃m,m<n/\I m s₃) (fun _ _=>False) s₂) (fun _ _=>False) s₁') (fun _ _=>False) s₁) (fun _ _=>False) s)
  (n:Nat) (h:I n s):
  iw (model prog w) A (.compLoop (.ListComp elt [⟨target,iter,ifs,0⟩] scope pos) 0 it acc env) R s:=by
 refine codeAny_loop rfl I (fun n s hI=>?_) n h;show π _ A ((compTurn (.ListComp elt [⟨target,iter,ifs,0⟩] scope pos) 0 it acc env).onRaise (fun x=>do noteFrame x env;theTreesLotGoes x)) _ _ s
 refine wpAny_noted ?_;rw[compTurn_list];refine γ (nQ (γ (ee (turn n s hI) (fun r s₁ h₁=>?_) fun _ _ h'=>h'.elim)));cases r with
 |none=>exact ι h₁
 |some v=>
  refine γ (ee h₁ (fun _ s₁' h₁'=>?_) fun _ _ h'=>h'.elim);refine γ (ee h₁' (fun _ s₂ h₂=>γ (ee h₂ (fun ok s₃ h₃=>?_) fun _ _ h'=>h'.elim)) fun _ _ h'=>h'.elim);cases ok with
  |false=>exact ι ⟨rfl,h₃⟩
  |true=>
   exact γ (γ (ee h₃ (fun x s₄ h₄=>γ (ee h₄ (fun _ s₅ h₅=>ι (ι ⟨rfl,h₅⟩)) fun _ _ h'=>h'.elim)) fun _ _ h'=>h'.elim))
end
def Nf(own:List Ξ)(js:List Nat)(g:TG)(tc:TT)(te:TE)(J:It)(σ:St)(H:Hp)(Q:VK):Prop:=
 ∀D,H D=none->∃W:Nat->Nat->List V->St->Hp->Prop,(∃m,W 0 m [] (tS own js σ) (upd H D (.lst [])))/\∀i m ys σ' H',W i m ys σ' H'->H' D=some (.lst ys) ∧
  ((J.stop i H'/\Q (.ref D) H')∨(J.go i H'/\ys.length<ao/\∀x H2,J.Fw i H' x H2->g x σ' H2 fun σ2 H3=>tc σ2 H3 fun b H4=>
   if b=true then te σ2 H4 fun v H5=>H5 D=some (.lst ys)/\∃m',m' < m/\W (i+1) m' (ys++[v]) σ2 (upd H5 D (.lst (ys++[v]))) else ∃m',m' < m/\W (i+1) m' ys σ2 H4))
def HC(own:List Ξ)(js:List Nat)(wi:TI)(g:TG)(tc:TT)(te:TE):TE:=fun σ H Q=>wi σ H fun J H1=>Nf own js g tc te J σ H1 Q
section
variable {X:Cx} {tg iter elt:ρ} {ifs:List ρ} {scope:iE} {pos:aP} {own:List Ξ} {js:List Nat} {g:TG} {tc:TT} {te:TE}
theorem LD{pins:List (η×br)}{σ:St}{H:Hp}{s:ζ}{Q:VK}{it:η}{fp:List η}{tn:Nat->Heap->Prop}{J:It}{E:δ->ζ->Prop}{RR:δ->η->pD->ζ->Prop}
  (hc:X.calm=true) (C:de X.N X.env.scope scope own js)
  (hb:∀s H fp,PG (X.cmp scope own js s H fp) tg g/\t9 (X.cmp scope own js s H fp) ifs tc/\PE (X.cmp scope own js s H fp) elt te)
  (I:Inv X pins σ H s) (T:Turn X.prog X.w X.K tg J fp it tn) (st:tn 0 s.heap) (hf:∀b∈fp,kE X pins H b) (rd:Nf own js g tc te J σ H Q)
  (hRR:∀D N s' H',Inv X pins σ H' s'->Q (.ref D) H'->s.heap.objs.size≤N->H' N=none->(∃m,s'.heap.Ns N m)->RR (.ref D) N (.ok .next) s'):
  π (model X.prog X.w) X.A (newList []) (fun acc s₃=>π (model X.prog X.w) X.A (newFunctionEnv scope X.env.globals (mW X.env scope.names []) [] X.env.qual none .none (some X.env)) (fun cenv s₄=>
   iw (model X.prog X.w) X.A (.compStart (.ListComp elt [⟨tg,iter,ifs,0⟩] scope pos) 0 (.ref it) acc { cenv with scope:=relabel scope X.env }) (RR acc cenv.locals) s₄) E s₃) E s:=by
 have hD:H s.heap.objs.size=none:=I.fresh;obtain⟨W,⟨m0,w0⟩,turn⟩:=rd s.heap.objs.size hD;refine bx ?_;have hI3:Inv X pins σ (upd H s.heap.objs.size (.lst [])) { s with heap:=s.heap.push { cls:=.type "list",data:=.seq ([]:List δ).toArray }}:=
  I.EU (t':=s.toks) (its:=[]) (ys:=[]) .nil (aQ _)
 have hlt:∀b∈fp,b<s.heap.objs.size:=fun b hb=>by
  obtain⟨o,e,_⟩:=T.obj 0 _ st b hb;exact Heap.lt_size e
 have st3:tn 0 (s.heap.push { cls:=.type "list",data:=.seq ([]:List δ).toArray }):=T.keep 0 _ _ st fun b _ o e=>Heap.get?_push_of_some _ e;generalize hs3:({ s with heap:=s.heap.push { cls:=.type "list",data:=.seq ([]:List δ).toArray }}:ζ)=s3 at hI3 ⊢;have hsz3:s3.heap.objs.size=s.heap.objs.size+1:=by rw[←hs3];exact Heap.size_push ..
 have st3':tn 0 s3.heap:=by rw[←hs3];exact st3
 have hf3:∀b∈fp,kE X pins (upd H s.heap.objs.size (.lst [])) b/\b<s3.heap.objs.size:=fun b hb=>by
  obtain⟨f0,f1⟩:=hf b hb;refine⟨⟨?_,f1⟩,by rw[hsz3];exact oq (hlt b hb)⟩;rw[fi (aX (hlt b hb))];exact f0
 refine wpAny_newFunctionEnv C.CY (by intro y hy;simp at hy) (fun h₁ hns₁ hsb₁=>?_) C.kind;have kept1:∀b o,s3.heap.get? b=some o->h₁.get? b=some o:=fun b o e=>(hsb₁.2 b (aX (Heap.lt_size e))).trans (Heap.get?_push_of_some _ e);have I4:Inv (X.cmp scope own js s3 (upd H s.heap.objs.size (.lst [])) fp) [] (tS own js σ) (upd H s.heap.objs.size (.lst [])) { s3 with heap:=h₁,toks:=s3.toks+([]:List (Ξ×δ)).length }:=
  hI3.cmp C hf3 hns₁ kept1
 have st4:tn 0 h₁:=T.keep 0 _ _ st3' fun b _ o e=>kept1 b o e;obtain⟨hg,ht,he⟩:=hb s3 (upd H s.heap.objs.size (.lst [])) fp
 -- the iterator's objects in the block's context
 have stat:∀{H':Hp},(∀b∈fp,H' b=none)->∀b∈fp,kE (X.cmp scope own js s3 (upd H s.heap.objs.size (.lst [])) fp) [] H' b:=fun {H'} hn b hb=>by
  have q:=I4.ok;exact⟨hn b hb,(q.C7 b hb).1,q.wu b hb,.inl hb,(q.C7 b hb).2,fun p hp=>absurd (show p∈([]:List (η×br)) from hp) (by simp)⟩
 have loop:iw (model X.prog X.w) X.A (.compLoop (.ListComp elt [⟨tg,iter,ifs,0⟩] scope pos) 0 (.ref it) (.ref s.heap.objs.size) (compEnvC scope (mW X.env scope.names []) s3.heap.objs.size X.env))
   (RR (.ref s.heap.objs.size) s3.heap.objs.size) { s3 with heap:=h₁,toks:=s3.toks+([]:List (Ξ×δ)).length }:=by
  refine Ve (fun n s'=>∃i ys σ' H',Inv (X.cmp scope own js s3 (upd H s.heap.objs.size (.lst [])) fp) [] σ' H' s'/\tn i s'.heap/\(∀b∈fp,H' b=none)/\W i n ys σ' H') ?_ m0
   ⟨0,[],_,_,I4,st4,fun b hb=>(hf3 b hb).1.1,w0⟩
  rintro n s5 ⟨i,ys,σ5,H5,I5,st5,fr5,w5⟩;obtain⟨hacc,hcase⟩:=turn i n ys σ5 H5 w5;rcases hcase with⟨stop,qn⟩|⟨go,hys,step⟩
  ·refine bP (T.done (X.cmp scope own js s3 (upd H s.heap.objs.size (.lst [])) fp) rfl rfl rfl hc i [] s5 σ5 H5 (fun _ _=>False) I5 (stat fr5) st5 stop) fun r s6 ⟨hr,I6⟩=>?_;subst hr;have I7:=hI3.Np hf3 I6;obtain⟨m,hm,_⟩:=I6.loc;exact hRR _ _ _ _ I7 qn (by rw[hsz3];exact qD _) I6.free ⟨m,hm⟩
  ·refine bP (T.item (X.cmp scope own js s3 (upd H s.heap.objs.size (.lst [])) fp) rfl rfl rfl hc i [] s5 σ5 H5 (fun _ _=>False) I5 (stat fr5) st5 go) fun r s6 zz=>?_;obtain⟨u,hr,h6⟩:=zz;subst hr;refine bP h6 fun _ s7 zz=>?_;obtain⟨x,H7,I7,r7,y7,st7,fr7⟩:=zz;have I7':=I7.pinned (stat fr7) (T.obj _ _ st7);refine bP (hg _ s7 σ5 H7 x u _ I7' r7 (step x H7 y7)) fun _ s8 zz=>?_;obtain⟨σ8,H8,I8,q8⟩:=zz;refine bP (ht _ s8 σ8 H8 _ I8 q8) fun ok s9 zz=>?_;obtain⟨H9,I9,q9⟩:=zz;have back:∀{σ':St} {H':Hp} {s':ζ} {ys':List V},Inv (X.cmp scope own js s3 (upd H s.heap.objs.size (.lst [])) fp) ([]++sV fp s7.heap) σ' H' s'->(∃m',m' < n/\W (i+1) m' ys' σ' H') ->
     ∃m',m' < n/\∃i ys σ' H',Inv (X.cmp scope own js s3 (upd H s.heap.objs.size (.lst [])) fp) [] σ' H' s'/\tn i s'.heap/\(∀b∈fp,H' b=none)/\W i m' ys σ' H':=fun {σ' H' s' ys'} I' zz=>by
    obtain⟨m',hm,w'⟩:=zz;refine⟨m',hm,i+1,ys',σ',H',I'.rn,T.keep _ _ _ st7 fun b hb o e=>(I'.pin (b,o) (aq _ (aq _ (A2 hb e)))).1,fun b hb=>?_,w'⟩;obtain⟨o,e,d⟩:=T.obj _ _ st7 b hb;exact (I'.pin (b,o) (aq _ (aq _ (A2 hb e)))).2.1
   cases ok with
   |false=>
    rw[if_neg ak] at q9 ⊢;exact back I9 q9
   |true=>
    rw[if_pos rfl] at q9 ⊢;refine bP (he _ s9 σ8 H9 _ I9 q9) fun xv s10 zz=>?_;obtain⟨v,H10,I10,r10,hD10,q10⟩:=zz;refine bP (Mq (X:=X.cmp scope own js s3 (upd H s.heap.objs.size (.lst [])) fp) _ s10 σ8 H10 (.ref s.heap.objs.size) [v] (.ref s.heap.objs.size) [xv] (fun _ H'=>H'=upd H10 s.heap.objs.size (.lst (ys++[v]))) I10 rfl (.cons r10 .nil)
     ⟨_,ys,v,rfl,rfl,hD10,hys,rfl⟩) fun _ s11 ⟨_,H11,I11,_,e11⟩=>?_
    subst e11;exact back I11 q10
 exact codeAny_compStart_list loop (T.self _ 0 _ _ _ st4 loop)
theorem Vd{wi:TI}(hc:X.calm=true)(C:de X.N X.env.scope scope own js)(hi:PI X tg iter wi)
  (hb:∀s H fp,PG (X.cmp scope own js s H fp) tg g/\t9 (X.cmp scope own js s H fp) ifs tc/\PE (X.cmp scope own js s H fp) elt te)
  (hs:∀x,foldedSetIterable iter X.env x=pure x:=by intro _;rfl):PE X (.ListComp elt [⟨tg,iter,ifs,0⟩] scope pos) (HC own js wi g tc te):=by
 intro pins s σ H Q I h;rw[eval_ListComp];refine pz (use:=none) rfl hs (LI (C.cells I.ok)) C.kind C.names (bP (hi pins s σ H _ I h) fun xv s₁ h₁=>bP h₁ fun itv s₂ h₂=>?_);obtain⟨it,fp,tn,J,H2,e,I2,T,st2,f2,rd⟩:=h₂;subst e;refine LD (RR:=fun acc C'=>compPost (model X.prog X.w) X.A X.xe none (EP X pins σ Q) acc C') hc C hb I2 T st2 f2 rd fun D N s' H' I' q hN hHN ⟨m,hm⟩=>?_;exact⟨m,hm,fun h' sb=>⟨.ref D,H',I2.other I' hN hHN sb,rfl,q⟩⟩
theorem Vc{wi:TI}{i:Nat}{y:Ξ}{py spos:aP}(hc:X.calm=true)(hN:X.N.Nodup)(hy:X.N[i]?=some y)(hyl:X.env.scope.names.lookup y=some .local)(C:de X.N X.env.scope scope own js)(hi:PI X tg iter wi)
  (hb:∀s H fp,PG (X.cmp scope own js s H fp) tg g/\t9 (X.cmp scope own js s H fp) ifs tc/\PE (X.cmp scope own js s H fp) elt te)
  (C4:swapsWith (.ListComp elt [⟨tg,iter,ifs,0⟩] scope pos) (some (.Name y py)) spos.line X.env=pure true:=by rfl)
  (hs:∀x,foldedSetIterable iter X.env x=pure x:=by intro _;rfl):PS X (.Assign [.Name y py] (.ListComp elt [⟨tg,iter,ifs,0⟩] scope pos) spos) (Di (HC own js wi g tc te) (Bj i)):=by
 intro pins s σ H D I h;rw[exec_Assign_Name_used _ _ _ _ C4];refine γ (nQ (γ ?_));show π _ X.A (do let _ ←comprehension (.ListComp elt [⟨tg,iter,ifs,0⟩] scope pos) scope X.env _ (newList []) false (eval iter X.env) (some (assign (.Name y py) X.env))) _ _ s;refine γ (ee (pz (use:=some (assign (.Name y py) X.env)) (Q:=fun _ s'=>SP X pins D .next s') rfl hs (LI (C.cells I.ok)) C.kind C.names
  (bP (hi pins s σ H _ I h) fun xv s₁ h₁=>bP h₁ fun itv s₂ h₂=>?_)) (fun _ s' hq=>ι (ι hq)) fun _ _ e=>e)
 obtain⟨it,fp,tn,J,H2,e,I2,T,st2,f2,rd⟩:=h₂;subst e;refine LD (RR:=fun acc C'=>compPost (model X.prog X.w) X.A X.xe (some (assign (.Name y py) X.env)) (fun _ s'=>SP X pins D .next s') acc C') hc C hb I2 T st2 f2 rd fun L N s' H' I' q hN' hHN ⟨m,hm⟩=>?_
 show π _ _ (assign (.Name y py) X.env (.ref L)) _ _ _;refine wpAny_assign_Name (Mi I' hN hy (.inl hyl) (v:=.ref L) rfl (fun s'' I'' zz=>?_) (.inr hyl));obtain⟨a,sb,ha⟩:=zz;have hNa:N≠a:=by
  obtain⟨f0,f1,f2,f3,f4,f5⟩:=I2.rT hN' hHN;rcases ha with rfl|ha
  ·exact f1
  ·exact eU (f4 _ _ ha)
 refine⟨m,hm.sameBut sb hNa,fun h'' sb''=>?_⟩;refine⟨σ.set i (some (.ref L)),H',?_,q⟩;obtain⟨f0,f1,f2,f3,f4,f5⟩:=I2.rT hN' hHN;exact I''.turned (t':=s''.toks) (fun c o hc e=>(sb''.2 c hc).trans e) f0 f1 f3 f4 f5
end
end L2
namespace L3
open PySem PySem.Spec PyProof.Rows L2
section
variable {X:Cx} {st:bp} {rest:List bp} {t u:aB} {e c:ρ} {te:aO} {tc:di} {pos:aP}
def dN:aB:=fun D τ G=>D.nx τ G
def bj(t u:aB):aB:=fun D τ G=>t { D with nx:=u D } τ G
theorem Uy:qx X [] dN:=Mk Wk fun D σ H zz=>by obtain⟨τ,G,D3,RS,RG,h,k⟩:=zz;exact k.nx τ σ G H RS (.refl H G) RG h
theorem Ux(h1:oo X st t)(h2:qx X rest u):qx X (st::rest) (bj t u):=Mk (Wj h1 h2) fun D σ H zz=>by
 obtain⟨τ,G,D3,RS,RG,h,k⟩:=zz;exact
 ⟨τ,G,{ D3 with nx:=u D3 },RS,RG,h,⟨fun τ' σ' G' H' a b c q=>⟨τ',G',D3,a,c,q,k.step b⟩,k.bk,k.ct,k.rt⟩⟩
theorem Uw(h1:oo X st t):qx X [st] t:=Wi h1
def uT(te:aO):aB:=fun D τ G=>te τ G fun _ G1=>D.nx τ G1
theorem Uv(he:cg X e te)(hs:swapsWith e none pos.line X.env=pure false:=by rfl):oo X (.Expr e pos) (uT te):=mT (Wh he hs) fun D σ H zz=>by
 obtain⟨τ,G,D3,RS,RG,h,k⟩:=zz;exact
 ⟨τ,G,_,RS,RG,h,fun v H1 d G1 h1 S1 R1 q1=>k.nx τ σ G1 H1 (RS.ext (S1.ext RG)) S1 R1 q1⟩
def bY(te:aO):aB:=fun D τ G=>te τ G D.rt
theorem Uu(he:cg X e te):oo X (.Return (some e) pos) (bY te):=mT (Wg he) fun D σ H zz=>by
 obtain⟨τ,G,D3,RS,RG,h,k⟩:=zz;exact
 ⟨τ,G,D3.rt,RS,RG,h,fun v H1 d G1 h1 S1 R1 q1=>k.rt d v G1 H1 h1 S1 R1 q1⟩
def g0(c:di)(t u:aB):aB:=fun D τ G=>c τ G fun b G1=>Br b (t D τ G1) (u D τ G1)
theorem OM{a b:List bp}(hc:qV X c tc)(ha:qx X a t)(hb:qx X b u):oo X (.If c a b pos) (g0 tc t u):=mT (Wf hc ha hb) fun D σ H zz=>by
 obtain⟨τ,G,D3,RS,RG,h,k⟩:=zz;exact
 ⟨τ,G,_,RS,RG,h,fun b H1 G1 S1 R1 q1=>Br.ite q1 (fun q=>⟨τ,G1,D3,RS.ext (S1.ext RG),R1,q,k.step S1⟩) fun q=>⟨τ,G1,D3,RS.ext (S1.ext RG),R1,q,k.step S1⟩⟩
def xm:aB:=fun _ _ _=>False
theorem Ut:oo X st xm:=mT We fun D σ H zz=>by obtain⟨τ,G,D3,RS,RG,h,k⟩:=zz;exact h
end
abbrev ji:=D->S3->Gp->(S3->Gp->Prop)->Prop
abbrev pd:=List D->S3->Gp->(S3->Gp->Prop)->Prop
def lowG(K:PySem.W.Frag)(t:ji):TG:=fun v σ H Q=>∃d τ G Q3,Hv K H d v/\fM K τ σ H/\bB K G H/\t d τ G Q3/\∀τ' σ' G' H',fM K τ' σ' H'->Step H G H' G'->bB K G' H'->Q3 τ' G'->Q σ' H'
def NX(K:PySem.W.Frag)(t:pd):vn:=fun vs σ H Q=>∃ds τ G Q3,aI K H ds vs/\fM K τ σ H/\bB K G H/\t ds τ G Q3/\∀τ' σ' G' H',fM K τ' σ' H'->Step H G H' G'->bB K G' H'->Q3 τ' G'->Q σ' H'
abbrev vq(X:Cx)(tg:ρ)(t:ji):Prop:=PG X tg (lowG X.K t)
abbrev yK(X:Cx)(tgs:List ρ)(t:pd):Prop:=pg X tgs (NX X.K t)
section
variable {X:Cx} {pos:aP} {e:ρ} {es:List ρ}
theorem EL{t t':TG}(h:PG X e t)(f:∀v σ H Q,t' v σ H Q->t v σ H Q):PG X e t':=fun pins s σ H v u Q I r q=>h pins s σ H v u Q I r (f v σ H Q q)
theorem LC{t t':vn}(h:pg X es t)(f:∀v σ H Q,t' v σ H Q->t v σ H Q):pg X es t':=fun pins s σ H v u Q I r q=>h pins s σ H v u Q I r (f v σ H Q q)
def hName(i:Nat):ji:=fun d τ G Q=>Q (lP τ i d) G
theorem Us{i:Nat}{x:Ξ}(hN:X.N.Nodup)(hi:X.N[i]?=some x:=by rfl)(hx:Loc X.env.scope x:=by first|exact pE rfl|exact nC rfl)(hf:X.fn x=true∨X.env.scope.names.lookup x=some .local:=by first|exact .inl rfl|exact .inr rfl|assumption):vq X (.Name x pos) (hName i):=
 EL (Wd hN hi hx hf) fun v σ H Q zz=>by obtain⟨d,τ,G,Q3,hd,RS,RG,h,k⟩:=zz;exact k _ _ G H (RS.set hd) (.refl H G) RG h
def j6:pd:=fun ds τ G Q=>match ds with
 |[]=>Q τ G
 |_::_=>False
def dE(t:ji)(u:pd):pd:=fun ds τ G Q=>match ds with
 |[]=>False
 |d::r=>t d τ G fun τ' G'=>u r τ' G' Q
theorem Ur:yK X [] j6:=LC Wc fun vs σ H Q zz=>by
 obtain⟨ds,τ,G,Q3,hd,RS,RG,h,k⟩:=zz;cases ds with
 |nil=>exact⟨hd.iJ,k _ _ G H RS (.refl H G) RG h⟩
 |cons d r=>exact h.elim
theorem Uq{t:ji}{u:pd}(h1:vq X e t)(h2:yK X es u)(hs:(assignEach (e::es) X.env).map (·.2)=assign e X.env::(assignEach es X.env).map (·.2):=by rfl):yK X (e::es) (dE t u):=
 LC (Wb h1 h2 hs) fun vs σ H Q zz=>by
  obtain⟨ds,τ,G,Q3,hd,RS,RG,h,k⟩:=zz;cases ds with
  |nil=>exact h.elim
  |cons d r=>
   obtain⟨v,vr,rfl,q1,q2⟩:=hd.inv;refine⟨v,vr,rfl,d,τ,G,_,q1,RS,RG,h,fun τ' σ' G' H' a b c q=>?_⟩;exact⟨r,τ',G',Q3,q2.ext (b.ext RG),a,c,q,fun τ2 σ2 G2 H2 a2 b2 c2=>k τ2 σ2 G2 H2 a2 (b.trans b2) c2⟩
def j4(n:Nat)(t:pd):ji:=fun d τ G Q=>match d with
 |.tup ds=>ds.length=n/\t ds τ G Q
 |_=>False
theorem Up{k:Nat}{t:pd}{n:Nat}(hc:X.calm=true)(h:yK X es t)(hn:(assignEach es X.env).length=n:=by rfl)(hst:(assignEach es X.env).findIdx? (·.1)=none:=by rfl):vq X (.Tuple es k pos) (j4 n t):=
 EL (Wa hc h hn hst) fun v σ H Q zz=>by
  obtain⟨d,τ,G,Q3,hd,RS,RG,h,k⟩:=zz;cases d with
  |tup ds=>
   unfold Hv at hd;obtain⟨a,vs,e1,e2,e3⟩:=hd;exact⟨a,vs,e1,e2,by rw[←e3.length];exact h.1,ds,τ,G,Q3,e3,RS,RG,h.2,k⟩
  |_=>exact h.elim
def cu(te:aO)(g:ji):aB:=fun D τ G=>te τ G fun x G1=>g x τ G1 D.nx
theorem Uo{tg:ρ}{te:aO}{g:ji}(he:cg X e te)(hg:vq X tg g)(hs:swapsWithSole [tg] e pos.line X.env=pure false:=by rfl)(hw:swappedStores [tg] e X.env=pure none:=by rfl)
  (h1:(assignEach [tg] X.env).map (·.2)=[assign tg X.env]:=by rfl):oo X (.Assign [tg] e pos) (cu te g):=mT (V8 he hg hs hw h1) fun D σ H zz=>by
 obtain⟨τ,G,D3,RS,RG,h,k⟩:=zz;exact
 ⟨τ,G,_,RS,RG,h,fun v H1 d G1 h1 S1 R1 q1=>⟨d,τ,G1,D3.nx,h1,RS.ext (S1.ext RG),R1,q1,fun τ' σ' G' H' a b c q=>k.nx τ' σ' G' H' a (S1.trans b) c q⟩⟩
theorem Um{i:Nat}{x:Ξ}{te:aO}{pos':aP}(hN:X.N.Nodup)(he:cg X e te)(hi:X.N[i]?=some x:=by rfl)(hx:Loc X.env.scope x:=by first|exact pE rfl|exact nC rfl)(hs:swapsWith e (some (.Name x pos')) pos.line X.env=pure false:=by rfl)
  (hf:X.fn x=true∨X.env.scope.names.lookup x=some .local:=by first|exact .inl rfl|exact .inr rfl|assumption):oo X (.Assign [.Name x pos'] e pos) (cu te (hName i)):=mT (V7 hN hi hx he hs hf) fun D σ H zz=>by
 obtain⟨τ,G,D3,RS,RG,h,k⟩:=zz;exact
 ⟨τ,G,_,RS,RG,h,fun v H1 d G1 h1 S1 R1 q1=>k.nx _ _ G1 H1 ((RS.ext (S1.ext RG)).set h1) S1 R1 q1⟩
def Dk(i j:Nat)(ta:dF):aB:=fun D τ G=>ta τ G fun ds G1=>match ds with
 |[a,b]=>D.nx (lP (lP τ i a) j b) G1
 |_=>False
theorem Ul{i j:Nat}{st:bp}{ta:dF}(h:PS X st (HA i j (uH X.K ta))):oo X st (Dk i j ta):=mT h fun D σ H zz=>by
 obtain⟨τ,G,D3,RS,RG,h,k⟩:=zz;exact
 ⟨τ,G,_,RS,RG,h,fun vs H1 ds G1 h1 S1 R1 q1=>by
  match ds,h1,q1 with
  |[a,b],h1,q1=>
   obtain⟨v,r,rfl,z1,z2⟩:=h1.inv;obtain⟨w,r2,rfl,z3,z4⟩:=z2.inv;cases z4.iJ;exact⟨v,w,rfl,k.nx _ _ G1 H1 (((RS.ext (S1.ext RG)).set z1).set z3) S1 R1 q1⟩
  |[],_,q1=>exact q1.elim
  |[_],_,q1=>exact q1.elim
  |_::_::_::_,_,q1=>exact q1.elim⟩
def zA(i:Nat)(te:aO)(r:R3):aB:=fun D τ G=>match j9 τ i with
 |some x=>te τ G fun y G1=>r x y G1 fun z G2=>D.nx (lP τ i z) G2
 |none=>False
theorem Uk{i:Nat}{x:Ξ}{te:aO}{op:lu}{r:R3}{r2:wJ}{pos':aP}(L:dU X.K r r2)(hN:X.N.Nodup)(he:cg X e te)(ho:De X op r2)(hi:X.N[i]?=some x:=by rfl)(hx:Loc X.env.scope x:=by first|exact pE rfl|exact nC rfl)(hf:X.fn x=true∨X.env.scope.names.lookup x=some .local:=by first|exact .inl rfl|exact .inr rfl|assumption):
  oo X (.AugAssign (.Name x pos') op e pos) (zA i te r):=mT (V5 hN hi hx he ho hf) fun D σ H zz=>by
 obtain⟨τ,G,D3,RS,RG,h,k⟩:=zz;unfold zA at h;cases hd:j9 τ i with
 |none=>rw[hd] at h;exact h.elim
 |some d=>
  rw[hd] at h;obtain⟨v,e1,e2⟩:=RS.at_ i d hd;refine⟨v,e1,τ,G,_,RS,RG,h,fun v1 H1 d1 G1 h1 S1 R1 q1=>?_⟩;refine L _ _ _ _ _ _ _ _ (e2.ext (S1.ext RG)) h1 R1 q1 fun v2 H2 d2 G2 z1 z2 z3 z4=>?_;exact k.nx _ _ G2 H2 (((RS.ext (S1.ext RG)).ext (z2.ext R1)).set z1) (S1.trans z2) z3 z4
def zB:D->D->D->Gp->(Gp->Prop)->Prop:=fun o i v G Q=>match o,i with
 |.obj p,.int k=>∃ds j,G p=some (.lst ds)/\qQ ds.length k=some j/\Q (eu G p (.lst (ds.set j v)))
 |_,_=>False
def hSub(to ti:aO):ji:=fun v τ G Q=>to τ G fun o G1=>ti τ G1 fun i G2=>zB o i v G2 fun G3=>Q τ G3
theorem LB{K:PySem.W.Frag}{o i v:D}{vo vi vv:V}{G:Gp}{H:Hp}{Q3:Gp->Prop}{Q:Hp->Prop}(ho:Hv K H o vo)(hi:Hv K H i vi)(hv:Hv K H v vv)(RG:bB K G H)(h:zB o i v G Q3)
  (k:∀H' G',Step H G H' G'->bB K G' H'->Q3 G'->Q H'):FK vo vi vv H Q:=by
 match o,i,ho,hi,h with
 |.obj p,.int j,ho,hi,h=>
  unfold Hv at ho hi;obtain⟨ds,n,e1,e2,q⟩:=h;obtain⟨vs,e3,e4⟩:=RG p _ e1;refine⟨p,vs,j,n,ho,hi,e3,by rw[←e4.length];exact e2,k _ _ (Step.wrote (g:=.lst (ds.set n v)) e1) (RG.wrote e3 ⟨_,jW,?_⟩) q⟩;exact (e4.ext (Ext.wrote e3)).set n (hv.ext (Ext.wrote e3))
 |.obj _,.aF,_,_,h=>exact h.elim
 |.obj _,.bl _,_,_,h=>exact h.elim
 |.obj _,.str _,_,_,h=>exact h.elim
 |.obj _,.tup _,_,_,h=>exact h.elim
 |.obj _,.gW _,_,_,h=>exact h.elim
 |.obj _,.obj _,_,_,h=>exact h.elim
 |.obj _,.dc _,_,_,h=>exact h.elim
 |.dc _,_,_,_,h=>exact h.elim
 |.aF,_,_,_,h=>exact h.elim
 |.bl _,_,_,_,h=>exact h.elim
 |.int _,_,_,_,h=>exact h.elim
 |.str _,_,_,_,h=>exact h.elim
 |.tup _,_,_,_,h=>exact h.elim
 |.gW _,_,_,_,h=>exact h.elim
theorem Uj{o i:ρ}{to ti:aO}(ho:cg X o to)(hi:cg X i ti)
  (ha:∀v,assign (.Subscript o i pos) X.env v=(do
   let ov ←holding [v] (eval o X.env)
   let iv ←holding [v,ov] (eval i X.env)
   standAt pos
   holding [v,ov,iv] (setItem ov iv v)
   release [v,ov,iv] []):=by intro _;rfl):vq X (.Subscript o i pos) (hSub to ti):=EL (V9 ho hi set_list ha) fun v σ H Q zz=>by
 obtain⟨d,τ,G,Q3,hd,RS,RG,h,k⟩:=zz
 exact
 ⟨τ,G,_,RS,RG,h,fun v1 H1 d1 G1 h1 S1 R1 q1=>⟨τ,G1,_,RS.ext (S1.ext RG),R1,q1,fun v2 H2 d2 G2 h2 S2 R2 q2=>
  LB (h1.ext (S2.ext R1)) h2 ((hd.ext (S1.ext RG)).ext (S2.ext R1)) R2 q2 fun H' G' y1 y2 y3=>k _ _ G' H' (((RS.ext (S1.ext RG)).ext (S2.ext R1)).ext (y1.ext R2)) ((S1.trans S2).trans y1) y2 y3⟩⟩
def zy(to ti te:aO)(f:Int->Int->Int):aB:=fun D τ G=>to τ G fun o G1=>ti τ G1 fun i G2=>match o,i with
 |.obj p,.int k=>∃ds x,G2 p=some (.lst ds)/\jL ds k=some (.int x)/\te τ G2 fun y G3=>match y with
  |.int y=>zB o i (.int (f x y)) G3 fun G4=>D.nx τ G4
  |_=>False
 |_,_=>False
def qP(c:di)(tb:aB):aB:=fun D τ G=>∃W:Nat->S3->Gp->Prop,(∃m,W m τ G)/\∀m τ G,W m τ G ->
 c τ G fun b G1=>Br b (tb { D with nx:=fun τ' G'=>∃m',m' < m/\W m' τ' G',ct:=fun τ' G'=>∃m',m' < m/\W m' τ' G',bk:=D.nx } τ G1) (D.nx τ G1)
theorem Ui{c:ρ}{body:List bp}{tc:di}{tb:aB}(hp:nB (model X.prog X.w) X.A X.env X.xe)(hc:qV X c tc)(hb:qx X body tb):oo X (.While c body [] pos) (qP tc tb):=
 mT (V2 hp hc hb) fun D σ H zz=>by
  obtain⟨τ,G,D3,RS,RG,⟨W,⟨m0,w0⟩,turn⟩,k⟩:=zz;refine⟨fun m σ' H'=>∃τ' G',W m τ' G'/\fM X.K τ' σ' H'/\bB X.K G' H'/\Step H G H' G',⟨m0,τ,G,w0,RS,RG,.refl H G⟩,fun m σ1 H1 zz=>?_⟩;obtain⟨τ1,G1,w1,RS1,RG1,S1⟩:=zz;refine⟨τ1,G1,_,RS1,RG1,turn m τ1 G1 w1,fun b H2 G2 S2 R2 q2=>Br.ite q2 (fun q=>?_) fun q=>k.nx _ _ G2 H2 (RS1.ext (S2.ext RG1)) (S1.trans S2) R2 q⟩;refine⟨fun σ' H'=>∃τ' G',(∃m',m' < m/\W m' τ' G')/\fM X.K τ' σ' H'/\bB X.K G' H'/\Step H G H' G',fun σ' H' ⟨τ',G',⟨m',hm,w'⟩,a,b,c⟩=>⟨m',hm,τ',G',w',a,b,c⟩,?_⟩;refine⟨τ1,G2,_,RS1.ext (S2.ext RG1),R2,q,⟨?_,?_,?_,?_⟩⟩
  ·exact fun τ' σ' G' H' a b c q=>⟨τ',G',q,a,c,(S1.trans S2).trans b⟩
  ·exact fun τ' σ' G' H' a b c q=>k.nx τ' σ' G' H' a ((S1.trans S2).trans b) c q
  ·exact fun τ' σ' G' H' a b c q=>⟨τ',G',q,a,c,(S1.trans S2).trans b⟩
  ·exact fun d v G' H' a b c q=>k.rt d v G' H' a ((S1.trans S2).trans b) c q
end
abbrev eX:=List D->Gp->V3->Prop
def oD(K:PySem.W.Frag)(sp:eX):Sp:=fun vs H Q _=>∃ds G Q3,aI K H ds vs/\bB K G H/\sp ds G Q3/\∀v H' d G',Hv K H' d v->Step H G H' G'->bB K G' H'->Q3 d G'->Q v H'
abbrev cz(P:aw)(w:aG)(K:PySem.W.Frag)(mg:Ξ->Option δ)(base:Heap)(k:Nat)(f:η)(fd:aL)(ps:List Ξ)(sp:eX):Prop:=kF P w K mg base wM k f fd ps (oD K sp)
def bh(sp:eX)(t:dF):aO:=fun τ G Q=>t τ G fun ds G1=>sp ds G1 Q
section
variable {X:Cx} {k:Nat} {f:η} {fd:aL} {ps:List Ξ} {sp:eX} {x:Ξ} {p pos:aP} {e:ρ} {es:List ρ} {t:dF}
theorem Uh{K:PySem.W.Frag}{σ:L2.St}{H:Hp}{Q:VK}{E:XK}(h:low K (bh sp t) σ H Q):Fy (oD K sp) [] E (uH K t) σ H Q:=by
 obtain⟨τ,G,Q3,RS,RG,h,k⟩:=h;refine⟨τ,G,_,RS,RG,h,fun vs H1 ds G1 h1 S1 R1 q1=>?_⟩;refine⟨ds,G1,Q3,by rw[cV];exact h1,R1,q1,fun v H' d G' z1 z2 z3 z4=>k v H' d G' z1 (S1.trans z2) z3 z4⟩
theorem Ug(F:cz X.prog X.w X.K X.mg X.base k f fd ps sp)(hr:g4 k X.A)(hm:X.mg x=some (.ref f))(hk:PySem.W.keepIn X.K (.ref f)=true)(hb:Binds X.K fd ps [])(ha:kO X (e::es) t)(hg:Gl X x:=by rfl)
  (hdb:(x==("__debug__":Ξ))=false:=by decide) (he:notStar e=true:=by rfl) (hpl:es.all notStar=true:=by rfl):
  cg X (.Call (.Name x p) (e::es) [] pos) (bh sp t):=jJ (VB (E:=E0) F hr hg hm hk hb .nil NA ha hdb (gs he) (ma hpl)) fun σ H Q h=>Uh h
end
section
variable {P:aw} {w:aG} {K:PySem.W.Frag} {mg:Ξ->Option δ} {base:Heap}
def bq(Q:V3):gO:={ nx:=fun _ G'=>∃G0,Sub G0 G'/\Q .aF G0,rt:=fun d G'=>∃G0,Sub G0 G'/\Q d G0 }
theorem fn3{x qual:Ξ}{st:bp}{f:η}{fd:aL}{N ps:List Ξ}{k:Nat}{sp:eX}(F:fj K x qual st f fd)(S:bL N ps (ax st))(hN:ps.length≤N.length)(len:∀ds G Q,sp ds G Q->ds.length=ps.length)(tb:aB)
  (rQ:∀(cdv:δ) (A:aR) (outer:List jk) (s:ζ) (H:Hp) (E:XK),g4 k (A.deeper (envOfC qual (ax st) s.heap.objs.size f cdv)) ->
   qx (tp wM P w K mg base N qual (ax st) f cdv A outer s H E).zg (lD st) tb)
  (Gn:∀ds G Q,sp ds G Q->tb (bq Q) (bI N ds) G):cz P w K mg base (k+1) f fd ps sp:=by
 refine F.ok S (fun vs H Q E h=>?_) (fun cdv A outer s H vs Q E hr h=>?_)
 ·obtain⟨ds,G,Q3,h1,h2,h3,h4⟩:=h;rw[←h1.length];exact len _ _ _ h3
 ·obtain⟨ds,G,Q3,h1,h2,h3,h4⟩:=h;refine⟨_,rQ cdv A outer s H E hr,bI N ds,G,bq Q3,.start h1 ?_,h2,Gn _ _ _ h3,⟨?_,?_,?_,?_⟩⟩
  ·rw[←h1.length,len _ _ _ h3];exact hN
  ·exact fun τ σ G' H' a b c zz=>by obtain⟨G0,s0,q⟩:=zz;exact h4 _ H' .aF G0 (by simp[Hv]) (b.trans (.sub s0)) (c.sub s0) q
  ·exact fun τ σ G' H' a b c q=>q.elim
  ·exact fun τ σ G' H' a b c q=>q.elim
  ·exact fun d v G' H' a b c zz=>by obtain⟨G0,s0,q⟩:=zz;exact h4 _ H' d G0 a (b.trans (.sub s0)) (c.sub s0) q
end
end L3
namespace L3
open PySem PySem.Spec PyProof.Rows L2
structure Src where
 items:List D
 guard:Gp->Prop
structure Co(K:PySem.W.Frag)(H0:Hp)(J:It)(S:Src):Prop where
 go:∀(i:Nat) d H G,Ext H0 H->bB K G H->S.guard G->S.items[i]?=some d->J.go i H/\∀x H',J.Fw i H x H'->Hv K H' d x/\Step H G H' G/\bB K G H'
 stop:∀(i:Nat) H G,Ext H0 H->bB K G H->S.guard G->S.items.length≤i->J.stop i H
abbrev nt:=S3->Gp->(Src->Gp->Prop)->Prop
def MO(K:PySem.W.Frag)(ti:nt):TI:=fun σ H R=>∃τ G R3,fM K τ σ H/\bB K G H/\ti τ G R3/\∀J H' S G',Co K H' J S->Step H G H' G'->bB K G' H'->R3 S G'->R J H'
abbrev t8(X:Cx)(tg iter:ρ)(ti:nt):Prop:=PI X tg iter (MO X.K ti)
section
variable {X:Cx} {tg iter:ρ} {pos p:aP}
theorem yb{t t':TI}(h:PI X tg iter t)(f:∀σ H R,t' σ H R->t σ H R):PI X tg iter t':=fun pins s σ H R I q=>h pins s σ H R I (f σ H R q)
def fL(te:aO):nt:=fun τ G R=>te τ G fun x G1=>match x with
 |.obj p=>∃ds,G1 p=some (.lst ds)/\R ⟨ds,fun G=>G p=some (.lst ds)⟩ G1
 |.tup ds=>R ⟨ds,fun _=>True⟩ G1
 |.gW ds=>R ⟨ds,fun _=>True⟩ G1
 |_=>False
theorem Ue{l:ρ}{te:aO}(hl:cg X l te):t8 X tg l (fL te):=by
 intro pins s σ H R I h;obtain⟨τ,G,R3,RS,RG,h,k⟩:=h
 -- the state carries what a list of the heap is
 refine bP (hl pins s σ H (fun v H'=>∃d G',Hv X.K H' d v/\Step H G H' G'/\bB X.K G' H'/\(match d with
  |.obj p=>∃ds,G' p=some (.lst ds)/\R3 ⟨ds,fun G=>G p=some (.lst ds)⟩ G'
  |.tup ds=>R3 ⟨ds,fun _=>True⟩ G'
  |.gW ds=>R3 ⟨ds,fun _=>True⟩ G'
  | _=>False)) I ⟨τ,G,_,RS,RG,h,fun v H' d G' a b c q=>⟨d,G',a,b,c,q⟩⟩) fun v s1 ⟨x,H1,I1,r1,d,G1,hv,S1,R1,q⟩=>?_
 have hlist:∀(a:η) (its:List δ) (xs:List V),bo xs its->PlainL s1.heap a its.toArray->R (Oy X.K a) H1->π (model X.prog X.w) X.A (pyIter (.ref a)) (GK X pins σ tg R) X.xe s1:=by
  intro a its xs rv p q;refine wpAny_pyIter_list p.isList ?_;refine⟨s1.heap.objs.size,[s1.heap.objs.size],_,_,H1,rfl,I1.kept (t':=s1.toks) fun b o e=>Heap.get?_push_of_some _ e,V1 a _,⟨_,Heap.get?_push_size _ rfl,rfl,rfl⟩,fun b hb=>?_,q⟩;have e:b=s1.heap.objs.size:=by simpa using hb
  subst e;exact I1.rT (υ _) (I1.cB.fresh (υ _))
 cases d with
 |obj a=>
  unfold Hv at hv;subst hv;cases r1;obtain⟨ds,e1,q⟩:=q;obtain⟨vs,e2,e3⟩:=R1 a _ e1;obtain⟨its,rv,p,hz⟩:=I1.list (eN.of e2);refine hlist a its vs rv p (k _ _ _ _ ⟨?_,?_⟩ S1 R1 q)
  ·intro i d H' G' E' RG' hg hi;obtain⟨vs',z1,z2⟩:=RG' a _ hg;obtain⟨v',y1,y2⟩:=z2.get hi;refine⟨⟨vs',v',.of z1,y1⟩,fun x H'' hy=>?_⟩;obtain⟨rfl,hy⟩:=hy;have:=hy vs' (.of z1);rw[y1] at this;cases this;exact⟨y2,.refl _ _,RG'⟩
  ·intro i H' G' E' RG' hg hi;obtain⟨vs',z1,z2⟩:=RG' a _ hg;exact⟨vs',.of z1,by rw[←z2.length];exact hi⟩
 |tup ds=>
  unfold Hv at hv;obtain⟨a,vs,rfl,e2,e3⟩:=hv;cases r1;obtain⟨its,rv,p,hz⟩:=I1.tuple e2;have hq:R (Ow X.K a) H1:=by
   refine k _ _ _ _ ⟨?_,?_⟩ S1 R1 q
   ·intro i d H' G' E' RG' hg hi;obtain⟨v',y1,y2⟩:=e3.get hi;refine⟨⟨vs,v',cK.ext E' e2,y1⟩,fun x H'' hy=>?_⟩;obtain⟨rfl,hy⟩:=hy;have:=hy vs (cK.ext E' e2);rw[y1] at this;cases this;exact⟨y2.ext E',.refl _ _,RG'⟩
   ·intro i H' G' E' RG' hg hi;exact⟨vs,cK.ext E' e2,by rw[←e3.length];exact hi⟩
  refine iD (show s1.heap.IsTuple a its.toArray from p) ?_;refine⟨s1.heap.objs.size,[s1.heap.objs.size],_,_,H1,rfl,I1.kept (t':=s1.toks) fun b o e=>Heap.get?_push_of_some _ e,V0 a _,⟨_,Heap.get?_push_size _ rfl,rfl,rfl⟩,fun b hb=>?_,hq⟩;have e:b=s1.heap.objs.size:=by simpa using hb
  subst e;exact I1.rT (υ _) (I1.cB.fresh (υ _))
 |gW ds=>
  unfold Hv at hv;obtain⟨a,vs,rfl,e2,e3⟩:=hv;cases r1;obtain⟨its,rv,p,hz⟩:=I1.list e2.l;refine hlist a its vs rv p (k _ _ _ _ ⟨?_,?_⟩ S1 R1 q)
  ·intro i d H' G' E' RG' hg hi;obtain⟨v',y1,y2⟩:=e3.get hi;refine⟨⟨vs,v',(si.ext E' e2).l,y1⟩,fun x H'' hy=>?_⟩;obtain⟨rfl,hy⟩:=hy;have:=hy vs (si.ext E' e2).l;rw[y1] at this;cases this;exact⟨y2.ext E',.refl _ _,RG'⟩
  ·intro i H' G' E' RG' hg hi;exact⟨vs,(si.ext E' e2).l,by rw[←e3.length];exact hi⟩
 |aF=>exact q.elim
 |bl _=>exact q.elim
 |int _=>exact q.elim
 |str _=>exact q.elim
 |dc _=>exact q.elim
def iI(lo:Int)(n:Nat):List D:=(av n).map fun i:Nat=>.int (lo+(i:Int))
theorem LA{lo:Int}{n i:Nat}{d:D}(h:(iI lo n)[i]?=some d):i<n/\d=.int (lo+(i:Int)):=by
 unfold iI at h;rw[az] at h;by_cases hi:i<n
 ·rw[ie hi] at h;simp at h;exact⟨hi,h.symm⟩
 ·rw[ef.mpr (by simpa using hi)] at h;cases h
theorem ya(lo:Int)(n:Nat):(iI lo n).length=n:=by simp[iI]
theorem Lz{K:PySem.W.Frag}{H:Hp}(lo:Int)(n:Nat):Co K H (Dg lo n) ⟨iI lo n,fun _=>True⟩:=⟨by
 intro i d H' G' _ RG _ hi;obtain⟨h1,h2⟩:=LA hi;refine⟨h1,fun x H'' hy=>?_⟩;obtain⟨rfl,rfl⟩:=hy;exact⟨by rw[h2];simp[Hv],.refl _ _,RG⟩,by
 intro i H' G' _ RG _ hi;rw[ya] at hi;exact hi⟩
def mf(ta:dF):nt:=fun τ G R=>ta τ G fun ds G1=>match ds with
 |[.int j]=>(-(2^62)≤j/\j<2^62)/\R ⟨iI 0 j.toNat,fun _=>True⟩ G1
 |_=>False
def tQ(ta:dF):nt:=fun τ G R=>ta τ G fun ds G1=>match ds with
 |[.int i,.int j]=>(-(2^62)≤i/\i<2^62/\-(2^62)≤j/\j<2^62)/\R ⟨iI i (j-i).toNat,fun _=>True⟩ G1
 |_=>False
theorem Ud{a:ρ}{ta:dF}(hm:X.mg "range" = none)(ha:kO X [a] ta)(hg:Gl X "range":=by rfl)(hs:notStar a=true:=by rfl):t8 X tg (.Call (.Name "range" p) [a] [] pos) (mf ta):=
 yb (VY hg hm ha (gs hs)) fun σ H R zz=>by
  obtain⟨τ,G,R3,RS,RG,h,k⟩:=zz;exact⟨τ,G,_,RS,RG,h,fun vs H1 ds G1 h1 S1 R1 q1=>by
  rcases ds with _|⟨d,_|⟨d2,ds⟩⟩
  ·exact q1.elim
  ·cases d with
   |int j=>
    obtain⟨v,r,rfl,z1,z2⟩:=h1.inv;cases z2.iJ;unfold Hv at z1;exact⟨j,by rw[z1],q1.1.1,q1.1.2,k _ _ _ _ (Lz 0 _) S1 R1 q1.2⟩
   |_=>exact q1.elim
  ·cases d<;>exact q1.elim⟩
theorem Uc{a b:ρ}{ta:dF}(hm:X.mg "range" = none)(ha:kO X [a,b] ta)(hg:Gl X "range":=by rfl)(hs:notStar a=true:=by rfl)(hs2:notStar b=true:=by rfl):
  t8 X tg (.Call (.Name "range" p) [a,b] [] pos) (tQ ta):=
 yb (VX hg hm ha (by rw[gs hs,gs hs2];rfl) (gs hs2)) fun σ H R zz=>by
  obtain⟨τ,G,R3,RS,RG,h,k⟩:=zz;exact⟨τ,G,_,RS,RG,h,fun vs H1 ds G1 h1 S1 R1 q1=>by
  rcases ds with _|⟨d,_|⟨d2,_|⟨d3,ds⟩⟩⟩
  ·exact q1.elim
  ·cases d<;>exact q1.elim
  ·cases d with
   |int i=>
    cases d2 with
    |int j=>
     obtain⟨v,r,rfl,z1,z2⟩:=h1.inv;obtain⟨v',r',rfl,z3,z4⟩:=z2.inv;cases z4.iJ;unfold Hv at z1 z3;exact⟨i,j,by rw[z1,z3],q1.1,k _ _ _ _ (Lz i _) S1 R1 q1.2⟩
    |_=>exact q1.elim
   |_=>exact q1.elim
  ·cases d with
   |int i=>cases d2<;>exact q1.elim
   |_=>exact q1.elim⟩
def iA(guard:Gp->Prop)(g:ji)(tb:aB)(D3:gO):List D->S3->Gp->Prop
 |[],τ,G=>guard G/\D3.nx τ G
 |d::ds,τ,G=>guard G/\g d τ G fun τ2 G2=>tb { D3 with nx:=iA guard g tb D3 ds,ct:=iA guard g tb D3 ds,bk:=D3.nx } τ2 G2
def iV(ti:nt)(g:ji)(tb:aB):aB:=fun D3 τ G=>ti τ G fun S G1=>iA S.guard g tb D3 S.items τ G1
theorem Ub{body:List bp}{ti:nt}{g:ji}{tb:aB}(hp:nB (model X.prog X.w) X.A X.env X.xe)(hc:X.calm=true)(hi:t8 X tg iter ti)(hg:vq X tg g)(hb:qx X body tb)
  (hs:∀x,foldedSetIterable iter X.env x=pure x:=by intro _;rfl):oo X (.For tg iter body [] pos) (iV ti g tb):=mT (Ww hp hc hi hg hb hs) fun D2 σ H zz=>by
 obtain⟨τ,G,D3,RS,RG,h,k⟩:=zz;refine⟨τ,G,_,RS,RG,h,fun J H1 S G1 ok S1 R1 q1=>?_⟩;refine⟨fun i m σ' H'=>∃τ' G',fM X.K τ' σ' H'/\bB X.K G' H'/\Step H G H' G'/\Ext H1 H'/\iA S.guard g tb D3 (S.items.drop i) τ' G'/\m+i=S.items.length,⟨S.items.length,τ,G1,RS.ext (S1.ext RG),R1,S1,.refl H1,by simpa using q1,by lia⟩,?_⟩;rintro i m σ' H' ⟨τ',G',RS',RG',S',E',q,hm⟩;by_cases hlt:i<S.items.length
 ·have hd:S.items.drop i=S.items[i]::S.items.drop (i+1):=cO hlt;have hget:S.items[i]?=some S.items[i]:=Θ hlt;rw[hd] at q;obtain⟨C5,q⟩:=q;obtain⟨z1,z2⟩:=ok.go i _ H' G' E' RG' C5 hget;refine .inr ⟨z1,fun σ2 H2=>∃τ2 G2,fM X.K τ2 σ2 H2/\bB X.K G2 H2/\Step H G H2 G2/\Ext H1 H2/\iA S.guard g tb D3 (S.items.drop (i+1)) τ2 G2,fun σ2 H2 ⟨τ2,G2,a1,a2,a3,a4,a5⟩=>⟨m-1,by lia,τ2,G2,a1,a2,a3,a4,a5,by lia⟩,fun x H2 hy=>?_⟩;obtain⟨y1,y2,y3⟩:=z2 x H2 hy;refine⟨S.items[i],τ',G',_,y1,RS'.ext (y2.ext RG'),y3,q,fun τ3 σ3 G3 H3 b1 b2 b3 b4=>?_⟩;refine⟨τ3,G3,_,b1,b3,b4,⟨?_,?_,?_,?_⟩⟩
  ·exact fun τ4 σ4 G4 H4 c1 c2 c3 c4=>⟨τ4,G4,c1,c3,((S'.trans y2).trans b2).trans c2,((E'.trans (y2.ext RG')).trans (b2.ext y3)).trans (c2.ext b3),c4⟩
  ·exact fun τ4 σ4 G4 H4 c1 c2 c3 c4=>k.nx τ4 σ4 G4 H4 c1 (((S'.trans y2).trans b2).trans c2) c3 c4
  ·exact fun τ4 σ4 G4 H4 c1 c2 c3 c4=>⟨τ4,G4,c1,c3,((S'.trans y2).trans b2).trans c2,((E'.trans (y2.ext RG')).trans (b2.ext y3)).trans (c2.ext b3),c4⟩
  ·exact fun d v G4 H4 c1 c2 c3 c4=>k.rt d v G4 H4 c1 (((S'.trans y2).trans b2).trans c2) c3 c4
 ·have hd:S.items.drop i=[]:=ft (by lia);rw[hd] at q;exact .inl ⟨ok.stop i H' G' E' RG' q.1 (by lia),k.nx τ' σ' G' H' RS' S' RG' q.2⟩
def jy(guard:Gp->Prop)(g:ji)(tc:di)(te:aO)(Q:List D->Gp->Prop):List D->List D->S3->Gp->Prop
 |[],acc,τ,G=>guard G/\Q acc G
 |d::ds,acc,τ,G=>guard G/\g d τ G fun τ2 G2=>tc τ2 G2 fun b G3=>Br b (te τ2 G3 fun v G4=>jy guard g tc te Q ds (acc++[v]) τ2 G4) (jy guard g tc te Q ds acc τ2 G3)
def yF(own:List Ξ)(js:List Nat)(τ:S3):S3:=(own.map fun _=>none)++js.map fun j=>j9 τ j
def eS(own:List Ξ)(js:List Nat)(ti:nt)(g:ji)(tc:di)(te:aO):aO:=fun τ G Q=>ti τ G fun S G1=>S.items.length≤ao ∧
 jy S.guard g tc te (fun ds G2=>∀p G3,eQ G2 p (.lst ds) G3->Q (.obj p) G3) S.items [] (yF own js τ) G1
theorem Ly:∀(τ:S3) (i:Nat),j9 τ i=(τ[i]?).getD none
 |[],i=>by simp[j9]
 |x::r,0=>by simp[j9]
 |x::r,i+1=>by simp[j9,Ly r i]
theorem fM.cmp{K:PySem.W.Frag}{τ:S3}{σ:L2.St}{H:Hp}(own:List Ξ)(js:List Nat)(R:fM K τ σ H):fM K (yF own js τ) (tS own js σ) H:=⟨by simp[yF,tS],fun i d h=>by
 rw[Ly] at h;unfold yF at h;by_cases hi:i<own.length
 ·rw[cN (by simpa using hi)] at h;rw[az,Θ hi] at h;cases h
 ·rw[bD (by simpa using hi),az] at h;simp only[ε] at h;cases hj:js[i-own.length]? with
  |none=>rw[hj] at h;cases h
  |some j=>
   rw[hj] at h;have h':j9 τ j=some d:=h;obtain⟨v,e1,e2⟩:=R.at_ j d h';refine⟨v,?_,e2⟩;unfold tS;rw[bD (by simpa using hi),az];simp only[lK,hj,Option.map_some,e1,Option.getD_some]⟩
def cY:di:=fun _ G Q=>Q true G
theorem Ua:t9 X [] (rL X.K cY):=fun pins s σ H Q I zz=>by obtain⟨τ,G,Q3,RS,RG,h,k⟩:=zz;exact Vg pins s σ H Q I (k true H G (.refl H G) RG h)
theorem T9{c:ρ}{t:di}(h:qV X c t):t9 X [c] (rL X.K t):=Vf h
theorem Lx{K:PySem.W.Frag}{own:List Ξ}{js:List Nat}{ti:nt}{g:ji}{tc:di}{te:aO}{σ:L2.St}{H:Hp}{Q:VK}(h:low K (eS own js ti g tc te) σ H Q):HC own js (MO K ti) (lowG K g) (rL K tc) (low K te) σ H Q:=by
 obtain⟨τ,G,Q3,RS,RG,h,k⟩:=h;refine⟨τ,G,_,RS,RG,h,fun J H1 S G1 ok S1 R1 q1=>?_⟩;obtain⟨hz,q1⟩:=q1;intro p hp;have hGp:G1 p=none:=R1.free hp;refine⟨fun i m ys σ' H'=>∃τ' G' acc,fM K τ' σ' H'/\bB K G' H'/\Step H G H' G'/\Ext H1 H'/\H' p=some (.lst ys)/\G' p=none/\aI K H' acc ys ∧
  jy S.guard g tc te (fun ds G2=>∀p G3,eQ G2 p (.lst ds) G3->Q3 (.obj p) G3) (S.items.drop i) acc τ' G'/\m+i=S.items.length/\ys.length≤i,?_,?_⟩
 ·have E1:Ext H1 (upd H1 p (.lst [])):=.laid hp;exact⟨S.items.length,yF own js τ,G1,[],((RS.ext (S1.ext RG)).cmp own js).ext E1,R1.laid hp,S1.trans (.laid hp),E1,jW,hGp,.nil,by simpa using q1,by lia,aQ _⟩
 rintro i m ys σ' H' ⟨τ',G',acc,RS',RG',S',E',hpl,hG',hacc,q,hm,hy⟩;refine⟨hpl,?_⟩;by_cases hlt:i<S.items.length
 ·have hd:S.items.drop i=S.items[i]::S.items.drop (i+1):=cO hlt;have hget:S.items[i]?=some S.items[i]:=Θ hlt;rw[hd] at q;obtain⟨C5,q⟩:=q;obtain⟨z1,z2⟩:=ok.go i _ H' G' E' RG' C5 hget;refine .inr ⟨z1,by lia,fun x H2 hyl=>?_⟩;obtain⟨y1,y2,y3⟩:=z2 x H2 hyl
  -- what is not in G stays
  have keep:∀{Ha Hb:Hp} {Ga Gb:Gp},Step Ha Ga Hb Gb->Ha p=some (.lst ys)->Ga p=none->Hb p=some (.lst ys)/\Gb p=none:=fun {Ha Hb Ga Gb} st e n=>by
   refine⟨st.fr p _ e n,?_⟩;refine cP fun z=>?_;rw[st.new p n z] at e;cases e
  obtain⟨p2,n2⟩:=keep y2 hpl hG';refine⟨S.items[i],τ',G',_,y1,RS'.ext (y2.ext RG'),y3,q,fun τ3 σ3 G3 H3 b1 b2 b3 b4=>?_⟩;obtain⟨p3,n3⟩:=keep b2 p2 n2;refine⟨τ3,G3,_,b1,b3,b4,fun bb H4 G4 c1 c2 c3=>?_⟩;obtain⟨p4,n4⟩:=keep c1 p3 n3;have E4:Ext H' H4:=((y2.ext RG').trans (b2.ext y3)).trans (c1.ext b3);have S4:Step H G H4 G4:=((S'.trans y2).trans b2).trans c1;have RS4:=b1.ext (c1.ext b3);refine Br.ite c3 (fun c3=>?_) fun c3=>?_
  ·refine⟨τ3,G4,_,RS4,c2,c3,fun v H5 d G5 e1 e2 e3 e4=>?_⟩;obtain⟨p5,n5⟩:=keep e2 p4 n4;refine⟨p5,m-1,by lia,τ3,G5,acc++[d],?_,?_,?_,?_,jW,n5,?_,e4,by lia,by rw[ξ];simp;lia⟩
   ·exact (RS4.ext (e2.ext c2)).ext (.wrote p5)
   ·intro a o e;have hne:a≠p:=fun z=>by
     rw[z,n5] at e;cases e
    exact (e3 a o e).ext (.wrote p5) (fi hne)
   ·refine⟨fun a o e n=>?_,fun a q=>?_,fun a n q=>((S4.trans e2).new a n q)⟩
    ·by_cases hne:a=p
     ·exfalso;rw[hne] at e n;have hh:=S1.fr p o e n;rw[hp] at hh;cases hh
     ·rw[fi hne];exact (S4.trans e2).fr a o e n
    ·by_cases hne:a=p
     ·rw[hne,jW];simp
     ·rw[fi hne];exact (S4.trans e2).pT a q
   ·exact ((E'.trans E4).trans (e2.ext c2)).trans (.wrote p5)
   ·have E5:Ext H' (upd H5 p (.lst (ys++[v]))):=(E4.trans (e2.ext c2)).trans (.wrote p5);exact (hacc.ext E5).append (.cons (e1.ext (.wrote p5)) .nil)
  ·exact⟨m-1,by lia,τ3,G4,acc,RS4,c2,S4,E'.trans E4,p4,n4,hacc.ext E4,c3,by lia,by lia⟩
 ·have hd:S.items.drop i=[]:=ft (by lia);rw[hd] at q;refine .inl ⟨ok.stop i H' G' E' RG' q.1 (by lia),?_⟩;refine k _ H' (.obj p) (eu G' p (.lst acc)) (by simp[Hv]) ?_ ?_ (q.2 p _ (.mk' hG'))
  ·refine⟨S'.fr,S'.pT,fun a n z=>?_⟩;by_cases hne:a=p
   ·rw[hne];cases hh:H p with
    |none=>rfl
    |some o=>
     exfalso;rw[hne] at n;have:=S1.fr p o hh n;rw[hp] at this;cases this
   ·rw[kC hne] at z;exact S'.new a n z
  ·intro a o e;by_cases hne:a=p
   ·rw[hne,lg] at e;cases e;rw[hne];exact⟨ys,hpl,hacc⟩
   ·rw[kC hne] at e;exact RG' a o e
theorem T8{elt:ρ}{ifs:List ρ}{scope:iE}{own:List Ξ}{js:List Nat}{ti:nt}{g:ji}{tc:di}{te:aO}(hc:X.calm=true)(C:de X.N X.env.scope scope own js)(hi:t8 X tg iter ti)
  (hb:∀s H fp,vq (X.cmp scope own js s H fp) tg g/\t9 (X.cmp scope own js s H fp) ifs (rL X.K tc)/\cg (X.cmp scope own js s H fp) elt te)
  (hs:∀x,foldedSetIterable iter X.env x=pure x:=by intro _;rfl):cg X (.ListComp elt [⟨tg,iter,ifs,0⟩] scope pos) (eS own js ti g tc te):=
 jJ (Vd hc C hi hb hs) fun σ H Q h=>Lx h
theorem T7{elt:ρ}{ifs:List ρ}{scope:iE}{own:List Ξ}{js:List Nat}{ti:nt}{g:ji}{tc:di}{te:aO}{i:Nat}{y:Ξ}{py spos:aP}(hc:X.calm=true)(hN:X.N.Nodup)(C:de X.N X.env.scope scope own js)(hi:t8 X tg iter ti)
  (hb:∀s H fp,vq (X.cmp scope own js s H fp) tg g/\t9 (X.cmp scope own js s H fp) ifs (rL X.K tc)/\cg (X.cmp scope own js s H fp) elt te) (hy:X.N[i]?=some y:=by rfl) (hyl:X.env.scope.names.lookup y=some .local:=by rfl)
  (C4:swapsWith (.ListComp elt [⟨tg,iter,ifs,0⟩] scope pos) (some (.Name y py)) spos.line X.env=pure true:=by rfl)
  (hs:∀x,foldedSetIterable iter X.env x=pure x:=by intro _;rfl):oo X (.Assign [.Name y py] (.ListComp elt [⟨tg,iter,ifs,0⟩] scope pos) spos) (cu (eS own js ti g tc te) (hName i)):=
 mT (Vc hc hN hy hyl C hi hb C4 hs) fun D2 σ H zz=>by
  obtain⟨τ,G,D3,RS,RG,h,k⟩:=zz;exact
  Lx ⟨τ,G,_,RS,RG,h,fun v H1 d G1 h1 S1 R1 q1=>k.nx _ _ G1 H1 ((RS.ext (S1.ext RG)).set h1) S1 R1 q1⟩
theorem UJ{guard:Gp->Prop}{g:ji}{tb:aB}{D3:gO}(I:List D->S3->Gp->Prop)(hg:∀ds τ G,I ds τ G->guard G)
  (step:∀d ds τ G,I (d::ds) τ G->g d τ G fun τ2 G2=>tb { D3 with nx:=I ds,ct:=I ds,bk:=D3.nx } τ2 G2) (o7:∀τ G,I [] τ G->D3.nx τ G)
  (mono:∀(N N':S3->Gp->Prop),(∀τ G,N τ G->N' τ G)->∀d τ G,(g d τ G fun τ2 G2=>tb { D3 with nx:=N,ct:=N,bk:=D3.nx } τ2 G2)->g d τ G fun τ2 G2=>tb { D3 with nx:=N',ct:=N',bk:=D3.nx } τ2 G2):
  ∀ds τ G,I ds τ G->iA guard g tb D3 ds τ G
 |[],τ,G,h=>⟨hg _ _ _ h,o7 _ _ h⟩
 |d::ds,τ,G,h=>⟨hg _ _ _ h,mono (I ds) _ (fun τ G q=>UJ I hg step o7 mono ds τ G q) d τ G (step d ds τ G h)⟩
theorem jE{guard:Gp->Prop}{g:ji}{tb:aB}{D3:gO}(I:List D->S3->Gp->Prop)(hg:∀ds τ G,I ds τ G->guard G)
  (step:∀d ds τ G (N:S3->Gp->Prop),I (d::ds) τ G->(∀τ' G',I ds τ' G'->N τ' G')->g d τ G fun τ2 G2=>tb { D3 with nx:=N,ct:=N,bk:=D3.nx } τ2 G2) (o7:∀τ G,I [] τ G->D3.nx τ G):
  ∀ds τ G,I ds τ G->iA guard g tb D3 ds τ G
 |[],τ,G,h=>⟨hg _ _ _ h,o7 _ _ h⟩
 |d::ds,τ,G,h=>⟨hg _ _ _ h,step d ds τ G _ h fun τ' G' q=>jE I hg step o7 ds τ' G' q⟩
end
end L3
namespace Dat
open PySem PySem.SeqAt
inductive D where
 |aF|bl (b:Bool)|int (i:Int)|str (x:Ξ)|tup (xs:List D)|lst (xs:List D)|iB
mutual
def D.dS:D->D->Bool
 |.aF,.aF=>true
 |.bl a,.bl b=>a==b
 |.bl a,.int b=>(if a then 1 else 0)==b
 |.int a,.bl b=>a==(if b then 1 else 0)
 |.int a,.int b=>a==b
 |.str a,.str b=>a==b
 |.tup xs,.tup ys=>iZ xs ys
 |.lst xs,.lst ys=>iZ xs ys
 |_,_=>false
def iZ:List D->List D->Bool
 |[],[]=>true
 |x::xs,y::ys=>x.dS y&&iZ xs ys
 |_,_=>false
end
mutual
def D.j8:D->Nat
 |.tup xs=>fH xs+1
 |.lst xs=>fH xs+1
 |_=>0
def fH:List D->Nat
 |[]=>0
 |x::xs=>max x.j8 (fH xs)
end
theorem kn{d:D}:∀{xs:List D},d∈xs->d.j8≤fH xs
 |x::xs,h=>by
  unfold fH;rcases ay.mp h with e|e
  ·rw[e];exact Nat.le_max_left _ _
  ·exact aD (kn e) (Nat.le_max_right _ _)
mutual
def Hv(h:Heap):D->δ->Prop
 |.aF,u=>u=.none
 |.bl b,u=>u=.bool b
 |.int i,u=>∃t,u=.int i t
 |.str x,u=>∃t,u=.str x t
 |.tup ds,u=>∃(a:η) (its:List δ),u=.ref a/\h.IsTuple a its.toArray/\aI h ds its
 |.lst ds,u=>∃(a:η) (its:List δ),u=.ref a/\h.IsList a its.toArray/\aI h ds its
 |.iB,_=>False
def aI(h:Heap):List D->List δ->Prop
 |[],us=>us=[]
 |d::ds,us=>∃u r,us=u::r/\Hv h d u/\aI h ds r
end
theorem aI.length{h:Heap}:∀{ds:List D} {us:List δ},aI h ds us->us.length=ds.length
 |[],us,e=>by
  unfold aI at e;rw[e];rfl
 |d::ds,us,e=>by
  unfold aI at e;obtain⟨u,r,rfl,_,e2⟩:=e;rw[ag,ag,e2.length]
theorem aI.get{h:Heap}:∀{ds:List D} {us:List δ} {j:Nat} {d:D} {u:δ},aI h ds us->ds[j]?=some d->us[j]?=some u->Hv h d u
 |[],_,_,_,_,_,e,_=>by simp at e
 |d::ds,us,0,_,_,q,e1,e2=>by
  unfold aI at q;obtain⟨u,r,rfl,q1,_⟩:=q;simp at e1 e2;rw[←e1,←e2];exact q1
 |d::ds,us,j+1,_,_,q,e1,e2=>by
  unfold aI at q;obtain⟨u,r,rfl,_,q2⟩:=q;exact q2.get (j:=j) (by simpa using e1) (by simpa using e2)
theorem Lw{h:Heap}{a:η}{xs ys:Array δ}(hl:h.IsList a xs)(ht:h.IsTuple a ys):False:=by
 obtain⟨o,ho,hc,_⟩:=hl;obtain⟨o',ho',hc',_⟩:=ht;rw[ho] at ho';cases ho';rw[hc] at hc';exact absurd hc' (by decide)
mutual
theorem Hv.inj{h:Heap}:∀{d e:D} {u:δ},Hv h d u->Hv h e u->d=e
 |d,e,u,p,q=>by
  cases d with
  |aF=>unfold Hv at p;subst p;cases e<;>unfold Hv at q<;>first|rfl|(simp at q)
  |bl b=>unfold Hv at p;subst p;cases e<;>unfold Hv at q<;>first|(simp at q;rw[q])|(simp at q)
  |int b=>unfold Hv at p;obtain⟨t,rfl⟩:=p;cases e<;>unfold Hv at q<;>first|(simp at q;rw[q])|(simp at q)
  |str b=>unfold Hv at p;obtain⟨t,rfl⟩:=p;cases e<;>unfold Hv at q<;>first|(simp at q;rw[q])|(simp at q)
  |iB=>unfold Hv at p;exact p.elim
  |tup ds=>
   unfold Hv at p;obtain⟨a,its,rfl,ha,p⟩:=p;cases e with
   |tup es=>
    unfold Hv at q;obtain⟨a',its',e1,ha',q⟩:=q;cases e1;have e2:its=its':=by
     obtain⟨o,ho,_,n,hd⟩:=ha;obtain⟨o',ho',_,n',hd'⟩:=ha';rw[ho] at ho';cases ho';rw[hd] at hd';injection hd' with e3 _
     simpa using congrArg mG e3
    subst e2;rw[aI.inj p q]
   |lst es=>
    unfold Hv at q;obtain⟨a',its',e1,ha',q⟩:=q;cases e1;exact (Lw ha' ha).elim
   |_=>unfold Hv at q<;>simp at q
  |lst ds=>
   unfold Hv at p;obtain⟨a,its,rfl,ha,p⟩:=p;cases e with
   |lst es=>
    unfold Hv at q;obtain⟨a',its',e1,ha',q⟩:=q;cases e1;have e2:its=its':=by
     obtain⟨o,ho,_,n,hd⟩:=ha;obtain⟨o',ho',_,n',hd'⟩:=ha';rw[ho] at ho';cases ho';rw[hd] at hd';injection hd' with e3 _
     simpa using congrArg mG e3
    subst e2;rw[aI.inj p q]
   |tup es=>
    unfold Hv at q;obtain⟨a',its',e1,ha',q⟩:=q;cases e1;exact (Lw ha ha').elim
   |_=>unfold Hv at q<;>simp at q
theorem aI.inj{h:Heap}:∀{ds es:List D} {us:List δ},aI h ds us->aI h es us->ds=es
 |[],[],_,_,_=>rfl
 |[],e::es,us,p,q=>by
  unfold aI at p q;subst p;obtain⟨_,_,e1,_⟩:=q;cases e1
 |d::ds,[],us,p,q=>by
  unfold aI at p q;subst q;obtain⟨_,_,e1,_⟩:=p;cases e1
 |d::ds,e::es,us,p,q=>by
  unfold aI at p q;obtain⟨u,r,rfl,p1,p2⟩:=p;obtain⟨u',r',e1,q1,q2⟩:=q;cases e1;rw[Hv.inj p1 q1,aI.inj p2 q2]
end
theorem uB:∀(ds es:List D),((av (min ds.length es.length)).all (fun j=>(ds.getD j .aF).dS (es.getD j .aF))&&ds.length==es.length)=iZ ds es
 |[],[]=>by simp[iZ]
 |[],e::es=>by simp[iZ]
 |d::ds,[]=>by simp[iZ]
 |d::ds,e::es=>by
  have ih:=uB ds es;unfold iZ;rw[←ih];rw[ag,ag,show min (ds.length+1) (es.length+1)=min ds.length es.length+1 by lia,List.range_succ_eq_map,List.all_cons,List.all_map];have e1:((ds.length+1==es.length+1):Bool)=(ds.length==es.length):=by simp
  rw[e1,Bool.and_assoc];rfl
theorem AJ:∀(ds es:List D),ds.length≠es.length->iZ ds es=false
 |[],[],h=>absurd rfl h
 |[],e::es,_=>rfl
 |d::ds,[],_=>rfl
 |d::ds,e::es,h=>by
  unfold iZ;rw[AJ ds es (by simpa using h),Bool.and_false]
mutual
theorem Hv.refl{h:Heap}:∀{d:D} {u:δ},Hv h d u->d.dS d=true
 |.aF,_,_=>rfl
 |.bl b,_,_=>by unfold D.dS;simp
 |.int b,_,_=>by unfold D.dS;simp
 |.str b,_,_=>by unfold D.dS;simp
 |.iB,_,p=>by unfold Hv at p;exact p.elim
 |.tup ds,_,p=>by
  unfold Hv at p;obtain⟨_,_,_,_,p⟩:=p;unfold D.dS;exact aI.refl p
 |.lst ds,_,p=>by
  unfold Hv at p;obtain⟨_,_,_,_,p⟩:=p;unfold D.dS;exact aI.refl p
theorem aI.refl{h:Heap}:∀{ds:List D} {us:List δ},aI h ds us->iZ ds ds=true
 |[],_,_=>rfl
 |d::ds,us,p=>by
  unfold aI at p;obtain⟨u,r,_,p1,p2⟩:=p;unfold iZ;rw[Hv.refl p1,aI.refl p2];rfl
end
theorem jD{h:Heap}{ds:List D}{us:List δ}(p:aI h ds us){j:Nat}(hj:j<us.toArray.size):Hv h (ds.getD j .aF) (us.toArray[j])/\ds.getD j .aF∈ds:=by
 have hl:=p.length;have hj':j<ds.length:=by simp at hj;lia
 have e1:ds[j]?=some (ds.getD j .aF):=by simp[hj']
 exact⟨p.get e1 (by simp at hj;simp[hj]),bG e1⟩
theorem sZ{s:ζ}:∀(d e:D) (u v:δ) (A:aR),Hv s.heap d u->Hv s.heap e v->A.units+d.j8+1<cLine->EqAt A s u v (d.dS e)
 |.aF,.aF,u,v,A,p1,p2,hu=>by
  unfold Hv at p1;subst p1;unfold Hv at p2;subst p2;exact EqAt.same _
 |.aF,.bl b2,u,v,A,p1,p2,hu=>by
  unfold Hv at p1;subst p1;unfold Hv at p2;subst p2;exact EqAt.none_bool  b2
 |.aF,.int b2,u,v,A,p1,p2,hu=>by
  unfold Hv at p1;subst p1;unfold Hv at p2;obtain⟨t2,rfl⟩:=p2;exact EqAt.none_int  b2 t2
 |.aF,.str b2,u,v,A,p1,p2,hu=>by
  unfold Hv at p1;subst p1;unfold Hv at p2;obtain⟨t2,rfl⟩:=p2;exact EqAt.none_str  b2 t2
 |.aF,.tup ds2,u,v,A,p1,p2,hu=>by
  unfold Hv at p1;subst p1;unfold Hv at p2;obtain⟨a2,its2,rfl,l2,p2⟩:=p2;exact EqAt.none_tuple  l2 (by lia)
 |.aF,.lst ds2,u,v,A,p1,p2,hu=>by
  unfold Hv at p1;subst p1;unfold Hv at p2;obtain⟨a2,its2,rfl,l2,p2⟩:=p2;exact EqAt.none_list  l2 (by lia)
 |.bl b1,.aF,u,v,A,p1,p2,hu=>by
  unfold Hv at p1;subst p1;unfold Hv at p2;subst p2;exact EqAt.bool_none b1
 |.bl b1,.bl b2,u,v,A,p1,p2,hu=>by
  unfold Hv at p1;subst p1;unfold Hv at p2;subst p2;exact EqAt.bool_bool b1 b2
 |.bl b1,.int b2,u,v,A,p1,p2,hu=>by
  unfold Hv at p1;subst p1;unfold Hv at p2;obtain⟨t2,rfl⟩:=p2;exact EqAt.bool_int b1 b2 t2
 |.bl b1,.str b2,u,v,A,p1,p2,hu=>by
  unfold Hv at p1;subst p1;unfold Hv at p2;obtain⟨t2,rfl⟩:=p2;exact EqAt.bool_str b1 b2 t2
 |.bl b1,.tup ds2,u,v,A,p1,p2,hu=>by
  unfold Hv at p1;subst p1;unfold Hv at p2;obtain⟨a2,its2,rfl,l2,p2⟩:=p2;exact EqAt.bool_tuple b1 l2 (by lia)
 |.bl b1,.lst ds2,u,v,A,p1,p2,hu=>by
  unfold Hv at p1;subst p1;unfold Hv at p2;obtain⟨a2,its2,rfl,l2,p2⟩:=p2;exact EqAt.bool_list b1 l2 (by lia)
 |.int b1,.aF,u,v,A,p1,p2,hu=>by
  unfold Hv at p1;obtain⟨t1,rfl⟩:=p1;unfold Hv at p2;subst p2;exact EqAt.int_none b1 t1
 |.int b1,.bl b2,u,v,A,p1,p2,hu=>by
  unfold Hv at p1;obtain⟨t1,rfl⟩:=p1;unfold Hv at p2;subst p2;exact EqAt.int_bool b1 t1 b2
 |.int b1,.int b2,u,v,A,p1,p2,hu=>by
  unfold Hv at p1;obtain⟨t1,rfl⟩:=p1;unfold Hv at p2;obtain⟨t2,rfl⟩:=p2;exact EqAt.int_int b1 t1 b2 t2
 |.int b1,.str b2,u,v,A,p1,p2,hu=>by
  unfold Hv at p1;obtain⟨t1,rfl⟩:=p1;unfold Hv at p2;obtain⟨t2,rfl⟩:=p2;exact EqAt.int_str b1 t1 b2 t2
 |.int b1,.tup ds2,u,v,A,p1,p2,hu=>by
  unfold Hv at p1;obtain⟨t1,rfl⟩:=p1;unfold Hv at p2;obtain⟨a2,its2,rfl,l2,p2⟩:=p2;exact EqAt.int_tuple b1 t1 l2 (by lia)
 |.int b1,.lst ds2,u,v,A,p1,p2,hu=>by
  unfold Hv at p1;obtain⟨t1,rfl⟩:=p1;unfold Hv at p2;obtain⟨a2,its2,rfl,l2,p2⟩:=p2;exact EqAt.int_list b1 t1 l2 (by lia)
 |.str b1,.aF,u,v,A,p1,p2,hu=>by
  unfold Hv at p1;obtain⟨t1,rfl⟩:=p1;unfold Hv at p2;subst p2;exact EqAt.str_none b1 t1
 |.str b1,.bl b2,u,v,A,p1,p2,hu=>by
  unfold Hv at p1;obtain⟨t1,rfl⟩:=p1;unfold Hv at p2;subst p2;exact EqAt.str_bool b1 t1 b2
 |.str b1,.int b2,u,v,A,p1,p2,hu=>by
  unfold Hv at p1;obtain⟨t1,rfl⟩:=p1;unfold Hv at p2;obtain⟨t2,rfl⟩:=p2;exact EqAt.str_int b1 t1 b2 t2
 |.str b1,.str b2,u,v,A,p1,p2,hu=>by
  unfold Hv at p1;obtain⟨t1,rfl⟩:=p1;unfold Hv at p2;obtain⟨t2,rfl⟩:=p2;exact EqAt.str_str b1 t1 b2 t2
 |.str b1,.tup ds2,u,v,A,p1,p2,hu=>by
  unfold Hv at p1;obtain⟨t1,rfl⟩:=p1;unfold Hv at p2;obtain⟨a2,its2,rfl,l2,p2⟩:=p2;exact EqAt.str_tuple b1 t1 l2 (by lia)
 |.str b1,.lst ds2,u,v,A,p1,p2,hu=>by
  unfold Hv at p1;obtain⟨t1,rfl⟩:=p1;unfold Hv at p2;obtain⟨a2,its2,rfl,l2,p2⟩:=p2;exact EqAt.str_list b1 t1 l2 (by lia)
 |.tup ds1,.aF,u,v,A,p1,p2,hu=>by
  unfold Hv at p1;obtain⟨a1,its1,rfl,l1,p1⟩:=p1;unfold Hv at p2;subst p2;exact EqAt.tuple_none  l1 (by lia)
 |.tup ds1,.bl b2,u,v,A,p1,p2,hu=>by
  unfold Hv at p1;obtain⟨a1,its1,rfl,l1,p1⟩:=p1;unfold Hv at p2;subst p2;exact EqAt.tuple_bool b2 l1 (by lia)
 |.tup ds1,.int b2,u,v,A,p1,p2,hu=>by
  unfold Hv at p1;obtain⟨a1,its1,rfl,l1,p1⟩:=p1;unfold Hv at p2;obtain⟨t2,rfl⟩:=p2;exact EqAt.tuple_int b2 t2 l1 (by lia)
 |.tup ds1,.str b2,u,v,A,p1,p2,hu=>by
  unfold Hv at p1;obtain⟨a1,its1,rfl,l1,p1⟩:=p1;unfold Hv at p2;obtain⟨t2,rfl⟩:=p2;exact EqAt.tuple_str b2 t2 l1 (by lia)
 |.tup ds1,.tup ds2,u,v,A,p1,p2,hu=>by
  unfold Hv at p1;obtain⟨a1,its1,rfl,l1,p1⟩:=p1;unfold Hv at p2;obtain⟨a2,its2,rfl,l2,p2⟩:=p2;unfold D.dS;by_cases ha:a1=a2
  ·subst ha;have e0:(.tup ds1:D)=.tup ds2:=Hv.inj (h:=s.heap) (u:=.ref a1) (by unfold Hv;exact⟨a1,its1,rfl,l1,p1⟩) (by unfold Hv;exact⟨a1,its2,rfl,l2,p2⟩);injection e0 with e0;subst e0;rw[p1.refl];exact EqAt.same _
  ·refine EqAt.of_refs ha ?_;have hdep:A.units+fH ds1+1+1<cLine:=by
    have e9:(.tup ds1:D).j8=fH ds1+1:=by first|rfl|(unfold D.j8;rfl)
    lia
   have q:=RcAt.tuples (e:=fun j=>(ds1.getD j .aF).dS (ds2.getD j .aF)) l1 l2 (by lia) fun j h1 h2=>
    have m:=(jD p1 h1).2
    sZ (ds1.getD j .aF) (ds2.getD j .aF) _ _ A.in1 (jD p1 h1).1 (jD p2 h2).1 (by
     have:=kn m;show A.units+1+_+1<cLine;lia)
   rw[Γ,Γ,p1.length,p2.length,uB] at q;exact q
 |.tup ds1,.lst ds2,u,v,A,p1,p2,hu=>by
  unfold Hv at p1;obtain⟨a1,its1,rfl,l1,p1⟩:=p1;unfold Hv at p2;obtain⟨a2,its2,rfl,l2,p2⟩:=p2;exact EqAt.tuple_list l1 l2 (by lia)
 |.lst ds1,.aF,u,v,A,p1,p2,hu=>by
  unfold Hv at p1;obtain⟨a1,its1,rfl,l1,p1⟩:=p1;unfold Hv at p2;subst p2;exact EqAt.list_none  l1 (by lia)
 |.lst ds1,.bl b2,u,v,A,p1,p2,hu=>by
  unfold Hv at p1;obtain⟨a1,its1,rfl,l1,p1⟩:=p1;unfold Hv at p2;subst p2;exact EqAt.list_bool b2 l1 (by lia)
 |.lst ds1,.int b2,u,v,A,p1,p2,hu=>by
  unfold Hv at p1;obtain⟨a1,its1,rfl,l1,p1⟩:=p1;unfold Hv at p2;obtain⟨t2,rfl⟩:=p2;exact EqAt.list_int b2 t2 l1 (by lia)
 |.lst ds1,.str b2,u,v,A,p1,p2,hu=>by
  unfold Hv at p1;obtain⟨a1,its1,rfl,l1,p1⟩:=p1;unfold Hv at p2;obtain⟨t2,rfl⟩:=p2;exact EqAt.list_str b2 t2 l1 (by lia)
 |.lst ds1,.tup ds2,u,v,A,p1,p2,hu=>by
  unfold Hv at p1;obtain⟨a1,its1,rfl,l1,p1⟩:=p1;unfold Hv at p2;obtain⟨a2,its2,rfl,l2,p2⟩:=p2;exact EqAt.list_tuple l1 l2 (by lia)
 |.lst ds1,.lst ds2,u,v,A,p1,p2,hu=>by
  unfold Hv at p1;obtain⟨a1,its1,rfl,l1,p1⟩:=p1;unfold Hv at p2;obtain⟨a2,its2,rfl,l2,p2⟩:=p2;unfold D.dS;by_cases ha:a1=a2
  ·subst ha;have e0:(.lst ds1:D)=.lst ds2:=Hv.inj (h:=s.heap) (u:=.ref a1) (by unfold Hv;exact⟨a1,its1,rfl,l1,p1⟩) (by unfold Hv;exact⟨a1,its2,rfl,l2,p2⟩);injection e0 with e0;subst e0;rw[p1.refl];exact EqAt.same _
  ·refine EqAt.of_refs ha ?_;have hdep:A.units+fH ds1+1+1<cLine:=by
    have e9:(.lst ds1:D).j8=fH ds1+1:=by first|rfl|(unfold D.j8;rfl)
    lia
   by_cases hn:ds1.length=ds2.length
   ·have q:=RcAt.lists (e:=fun j=>(ds1.getD j .aF).dS (ds2.getD j .aF)) l1 l2 (by simp[p1.length,p2.length,hn]) (by lia) fun j h1 h2=>
     have m:=(jD p1 h1).2
     sZ (ds1.getD j .aF) (ds2.getD j .aF) _ _ A.in1 (jD p1 h1).1 (jD p2 h2).1 (by
      have:=kn m;show A.units+1+_+1<cLine;lia)
    have q2:=uB ds1 ds2;rw[hn,tD,beq_self_eq_true,n9] at q2;rw[Γ,p1.length,hn,q2] at q;exact q
   ·rw[AJ _ _ hn];exact tw l1 l2 (by simp[p1.length,p2.length,hn]) (by lia)
 |.aF,.iB,u,v,A,p1,p2,hu=>by
  unfold Hv at p2;exact p2.elim
 |.bl b1,.iB,u,v,A,p1,p2,hu=>by
  unfold Hv at p2;exact p2.elim
 |.int b1,.iB,u,v,A,p1,p2,hu=>by
  unfold Hv at p2;exact p2.elim
 |.str b1,.iB,u,v,A,p1,p2,hu=>by
  unfold Hv at p2;exact p2.elim
 |.tup ds1,.iB,u,v,A,p1,p2,hu=>by
  unfold Hv at p2;exact p2.elim
 |.lst ds1,.iB,u,v,A,p1,p2,hu=>by
  unfold Hv at p2;exact p2.elim
 |.iB,e,u,v,A,p1,p2,hu=>by
  unfold Hv at p1;exact p1.elim
termination_by d=>sizeOf d
decreasing_by
 all_goals (have:=List.sizeOf_lt_of_mem m;first|(rw[D.tup.sizeOf_spec];lia)|(rw[D.lst.sizeOf_spec];lia))
theorem OP{s:ζ}(d e:D)(u v:δ)(A:aR)(p1:Hv s.heap d u)(p2:Hv s.heap e v)(hu:A.units+d.j8+1<cLine):RcAt A s u v (d.dS e):=
 match d,e,p1,p2,hu with
 |.aF,.aF,p1,p2,hu=>by
  unfold Hv at p1;subst p1;unfold Hv at p2;subst p2;exact RcAt.none_none
 |.aF,.bl b2,p1,p2,hu=>by
  unfold Hv at p1;subst p1;unfold Hv at p2;subst p2;exact RcAt.none_bool  b2
 |.aF,.int b2,p1,p2,hu=>by
  unfold Hv at p1;subst p1;unfold Hv at p2;obtain⟨t2,rfl⟩:=p2;exact RcAt.none_int  b2 t2
 |.aF,.str b2,p1,p2,hu=>by
  unfold Hv at p1;subst p1;unfold Hv at p2;obtain⟨t2,rfl⟩:=p2;exact RcAt.none_str  b2 t2
 |.aF,.tup ds2,p1,p2,hu=>by
  unfold Hv at p1;subst p1;unfold Hv at p2;obtain⟨a2,its2,rfl,l2,p2⟩:=p2;exact RcAt.none_tuple  l2 (by lia)
 |.aF,.lst ds2,p1,p2,hu=>by
  unfold Hv at p1;subst p1;unfold Hv at p2;obtain⟨a2,its2,rfl,l2,p2⟩:=p2;exact RcAt.none_list  l2 (by lia)
 |.bl b1,.aF,p1,p2,hu=>by
  unfold Hv at p1;subst p1;unfold Hv at p2;subst p2;exact RcAt.bool_none b1
 |.bl b1,.bl b2,p1,p2,hu=>by
  unfold Hv at p1;subst p1;unfold Hv at p2;subst p2;exact RcAt.bool_bool b1 b2
 |.bl b1,.int b2,p1,p2,hu=>by
  unfold Hv at p1;subst p1;unfold Hv at p2;obtain⟨t2,rfl⟩:=p2;exact RcAt.bool_int b1 b2 t2
 |.bl b1,.str b2,p1,p2,hu=>by
  unfold Hv at p1;subst p1;unfold Hv at p2;obtain⟨t2,rfl⟩:=p2;exact RcAt.bool_str b1 b2 t2
 |.bl b1,.tup ds2,p1,p2,hu=>by
  unfold Hv at p1;subst p1;unfold Hv at p2;obtain⟨a2,its2,rfl,l2,p2⟩:=p2;exact RcAt.bool_tuple b1 l2 (by lia)
 |.bl b1,.lst ds2,p1,p2,hu=>by
  unfold Hv at p1;subst p1;unfold Hv at p2;obtain⟨a2,its2,rfl,l2,p2⟩:=p2;exact RcAt.bool_list b1 l2 (by lia)
 |.int b1,.aF,p1,p2,hu=>by
  unfold Hv at p1;obtain⟨t1,rfl⟩:=p1;unfold Hv at p2;subst p2;exact RcAt.int_none b1 t1
 |.int b1,.bl b2,p1,p2,hu=>by
  unfold Hv at p1;obtain⟨t1,rfl⟩:=p1;unfold Hv at p2;subst p2;exact RcAt.int_bool b1 t1 b2
 |.int b1,.int b2,p1,p2,hu=>by
  unfold Hv at p1;obtain⟨t1,rfl⟩:=p1;unfold Hv at p2;obtain⟨t2,rfl⟩:=p2;exact RcAt.int_int b1 t1 b2 t2
 |.int b1,.str b2,p1,p2,hu=>by
  unfold Hv at p1;obtain⟨t1,rfl⟩:=p1;unfold Hv at p2;obtain⟨t2,rfl⟩:=p2;exact RcAt.int_str b1 t1 b2 t2
 |.int b1,.tup ds2,p1,p2,hu=>by
  unfold Hv at p1;obtain⟨t1,rfl⟩:=p1;unfold Hv at p2;obtain⟨a2,its2,rfl,l2,p2⟩:=p2;exact RcAt.int_tuple b1 t1 l2 (by lia)
 |.int b1,.lst ds2,p1,p2,hu=>by
  unfold Hv at p1;obtain⟨t1,rfl⟩:=p1;unfold Hv at p2;obtain⟨a2,its2,rfl,l2,p2⟩:=p2;exact RcAt.int_list b1 t1 l2 (by lia)
 |.str b1,.aF,p1,p2,hu=>by
  unfold Hv at p1;obtain⟨t1,rfl⟩:=p1;unfold Hv at p2;subst p2;exact RcAt.str_none b1 t1
 |.str b1,.bl b2,p1,p2,hu=>by
  unfold Hv at p1;obtain⟨t1,rfl⟩:=p1;unfold Hv at p2;subst p2;exact RcAt.str_bool b1 t1 b2
 |.str b1,.int b2,p1,p2,hu=>by
  unfold Hv at p1;obtain⟨t1,rfl⟩:=p1;unfold Hv at p2;obtain⟨t2,rfl⟩:=p2;exact RcAt.str_int b1 t1 b2 t2
 |.str b1,.str b2,p1,p2,hu=>by
  unfold Hv at p1;obtain⟨t1,rfl⟩:=p1;unfold Hv at p2;obtain⟨t2,rfl⟩:=p2;exact RcAt.str_str b1 t1 b2 t2
 |.str b1,.tup ds2,p1,p2,hu=>by
  unfold Hv at p1;obtain⟨t1,rfl⟩:=p1;unfold Hv at p2;obtain⟨a2,its2,rfl,l2,p2⟩:=p2;exact RcAt.str_tuple b1 t1 l2 (by lia)
 |.str b1,.lst ds2,p1,p2,hu=>by
  unfold Hv at p1;obtain⟨t1,rfl⟩:=p1;unfold Hv at p2;obtain⟨a2,its2,rfl,l2,p2⟩:=p2;exact RcAt.str_list b1 t1 l2 (by lia)
 |.tup ds1,.aF,p1,p2,hu=>by
  unfold Hv at p1;obtain⟨a1,its1,rfl,l1,p1⟩:=p1;unfold Hv at p2;subst p2;exact RcAt.tuple_none  l1 (by lia)
 |.tup ds1,.bl b2,p1,p2,hu=>by
  unfold Hv at p1;obtain⟨a1,its1,rfl,l1,p1⟩:=p1;unfold Hv at p2;subst p2;exact RcAt.tuple_bool b2 l1 (by lia)
 |.tup ds1,.int b2,p1,p2,hu=>by
  unfold Hv at p1;obtain⟨a1,its1,rfl,l1,p1⟩:=p1;unfold Hv at p2;obtain⟨t2,rfl⟩:=p2;exact RcAt.tuple_int b2 t2 l1 (by lia)
 |.tup ds1,.str b2,p1,p2,hu=>by
  unfold Hv at p1;obtain⟨a1,its1,rfl,l1,p1⟩:=p1;unfold Hv at p2;obtain⟨t2,rfl⟩:=p2;exact RcAt.tuple_str b2 t2 l1 (by lia)
 |.tup ds1,.tup ds2,p1,p2,hu=>by
  unfold Hv at p1;obtain⟨a1,its1,rfl,l1,p1⟩:=p1;unfold Hv at p2;obtain⟨a2,its2,rfl,l2,p2⟩:=p2;unfold D.dS;have hdep:A.units+fH ds1+1+1<cLine:=by
   have e9:(.tup ds1:D).j8=fH ds1+1:=by first|rfl|(unfold D.j8;rfl)
   lia
  have q:=RcAt.tuples (e:=fun j=>(ds1.getD j .aF).dS (ds2.getD j .aF)) l1 l2 (by lia) fun j h1 h2=>
   sZ (ds1.getD j .aF) (ds2.getD j .aF) _ _ A.in1 (jD p1 h1).1 (jD p2 h2).1 (by
    have:=kn (jD p1 h1).2;show A.units+1+_+1<cLine;lia)
  rw[Γ,Γ,p1.length,p2.length,uB] at q;exact q
 |.tup ds1,.lst ds2,p1,p2,hu=>by
  unfold Hv at p1;obtain⟨a1,its1,rfl,l1,p1⟩:=p1;unfold Hv at p2;obtain⟨a2,its2,rfl,l2,p2⟩:=p2;exact RcAt.tuple_list l1 l2 (by lia)
 |.lst ds1,.aF,p1,p2,hu=>by
  unfold Hv at p1;obtain⟨a1,its1,rfl,l1,p1⟩:=p1;unfold Hv at p2;subst p2;exact RcAt.list_none  l1 (by lia)
 |.lst ds1,.bl b2,p1,p2,hu=>by
  unfold Hv at p1;obtain⟨a1,its1,rfl,l1,p1⟩:=p1;unfold Hv at p2;subst p2;exact RcAt.list_bool b2 l1 (by lia)
 |.lst ds1,.int b2,p1,p2,hu=>by
  unfold Hv at p1;obtain⟨a1,its1,rfl,l1,p1⟩:=p1;unfold Hv at p2;obtain⟨t2,rfl⟩:=p2;exact RcAt.list_int b2 t2 l1 (by lia)
 |.lst ds1,.str b2,p1,p2,hu=>by
  unfold Hv at p1;obtain⟨a1,its1,rfl,l1,p1⟩:=p1;unfold Hv at p2;obtain⟨t2,rfl⟩:=p2;exact RcAt.list_str b2 t2 l1 (by lia)
 |.lst ds1,.tup ds2,p1,p2,hu=>by
  unfold Hv at p1;obtain⟨a1,its1,rfl,l1,p1⟩:=p1;unfold Hv at p2;obtain⟨a2,its2,rfl,l2,p2⟩:=p2;exact RcAt.list_tuple l1 l2 (by lia)
 |.lst ds1,.lst ds2,p1,p2,hu=>by
  unfold Hv at p1;obtain⟨a1,its1,rfl,l1,p1⟩:=p1;unfold Hv at p2;obtain⟨a2,its2,rfl,l2,p2⟩:=p2;unfold D.dS;have hdep:A.units+fH ds1+1+1<cLine:=by
   have e9:(.lst ds1:D).j8=fH ds1+1:=by first|rfl|(unfold D.j8;rfl)
   lia
  by_cases hn:ds1.length=ds2.length
  ·have q:=RcAt.lists (e:=fun j=>(ds1.getD j .aF).dS (ds2.getD j .aF)) l1 l2 (by simp[p1.length,p2.length,hn]) (by lia) fun j h1 h2=>
    sZ (ds1.getD j .aF) (ds2.getD j .aF) _ _ A.in1 (jD p1 h1).1 (jD p2 h2).1 (by
     have:=kn (jD p1 h1).2;show A.units+1+_+1<cLine;lia)
   have q2:=uB ds1 ds2;rw[hn,tD,beq_self_eq_true,n9] at q2;rw[Γ,p1.length,hn,q2] at q;exact q
  ·rw[AJ _ _ hn];exact tw l1 l2 (by simp[p1.length,p2.length,hn]) (by lia)
 |d,.iB,p1,p2,hu=>by
  unfold Hv at p2;exact p2.elim
 |.iB,e,p1,p2,hu=>by
  unfold Hv at p1;exact p1.elim
theorem OO{s:ζ}(d e:D)(u v:δ)(A:aR)(p1:Hv s.heap d u)(p2:Hv s.heap e v)(hu:A.units+d.j8+1<cLine):RcNeAt A s u v (!d.dS e):=
 match d,e,p1,p2,hu with
 |.aF,.aF,p1,p2,hu=>by
  unfold Hv at p1;subst p1;unfold Hv at p2;subst p2;exact RcNeAt.none_none
 |.aF,.bl b2,p1,p2,hu=>by
  unfold Hv at p1;subst p1;unfold Hv at p2;subst p2;exact RcNeAt.none_bool  b2
 |.aF,.int b2,p1,p2,hu=>by
  unfold Hv at p1;subst p1;unfold Hv at p2;obtain⟨t2,rfl⟩:=p2;exact RcNeAt.none_int  b2 t2
 |.aF,.str b2,p1,p2,hu=>by
  unfold Hv at p1;subst p1;unfold Hv at p2;obtain⟨t2,rfl⟩:=p2;exact RcNeAt.none_str  b2 t2
 |.aF,.tup ds2,p1,p2,hu=>by
  unfold Hv at p1;subst p1;unfold Hv at p2;obtain⟨a2,its2,rfl,l2,p2⟩:=p2;exact RcNeAt.none_tuple  l2 (by lia)
 |.aF,.lst ds2,p1,p2,hu=>by
  unfold Hv at p1;subst p1;unfold Hv at p2;obtain⟨a2,its2,rfl,l2,p2⟩:=p2;exact RcNeAt.none_list  l2 (by lia)
 |.bl b1,.aF,p1,p2,hu=>by
  unfold Hv at p1;subst p1;unfold Hv at p2;subst p2;exact RcNeAt.bool_none b1
 |.bl b1,.bl b2,p1,p2,hu=>by
  unfold Hv at p1;subst p1;unfold Hv at p2;subst p2;exact RcNeAt.bool_bool b1 b2
 |.bl b1,.int b2,p1,p2,hu=>by
  unfold Hv at p1;subst p1;unfold Hv at p2;obtain⟨t2,rfl⟩:=p2;exact RcNeAt.bool_int b1 b2 t2
 |.bl b1,.str b2,p1,p2,hu=>by
  unfold Hv at p1;subst p1;unfold Hv at p2;obtain⟨t2,rfl⟩:=p2;exact RcNeAt.bool_str b1 b2 t2
 |.bl b1,.tup ds2,p1,p2,hu=>by
  unfold Hv at p1;subst p1;unfold Hv at p2;obtain⟨a2,its2,rfl,l2,p2⟩:=p2;exact RcNeAt.bool_tuple b1 l2 (by lia)
 |.bl b1,.lst ds2,p1,p2,hu=>by
  unfold Hv at p1;subst p1;unfold Hv at p2;obtain⟨a2,its2,rfl,l2,p2⟩:=p2;exact RcNeAt.bool_list b1 l2 (by lia)
 |.int b1,.aF,p1,p2,hu=>by
  unfold Hv at p1;obtain⟨t1,rfl⟩:=p1;unfold Hv at p2;subst p2;exact RcNeAt.int_none b1 t1
 |.int b1,.bl b2,p1,p2,hu=>by
  unfold Hv at p1;obtain⟨t1,rfl⟩:=p1;unfold Hv at p2;subst p2;exact RcNeAt.int_bool b1 t1 b2
 |.int b1,.int b2,p1,p2,hu=>by
  unfold Hv at p1;obtain⟨t1,rfl⟩:=p1;unfold Hv at p2;obtain⟨t2,rfl⟩:=p2;exact RcNeAt.int_int b1 t1 b2 t2
 |.int b1,.str b2,p1,p2,hu=>by
  unfold Hv at p1;obtain⟨t1,rfl⟩:=p1;unfold Hv at p2;obtain⟨t2,rfl⟩:=p2;exact RcNeAt.int_str b1 t1 b2 t2
 |.int b1,.tup ds2,p1,p2,hu=>by
  unfold Hv at p1;obtain⟨t1,rfl⟩:=p1;unfold Hv at p2;obtain⟨a2,its2,rfl,l2,p2⟩:=p2;exact RcNeAt.int_tuple b1 t1 l2 (by lia)
 |.int b1,.lst ds2,p1,p2,hu=>by
  unfold Hv at p1;obtain⟨t1,rfl⟩:=p1;unfold Hv at p2;obtain⟨a2,its2,rfl,l2,p2⟩:=p2;exact RcNeAt.int_list b1 t1 l2 (by lia)
 |.str b1,.aF,p1,p2,hu=>by
  unfold Hv at p1;obtain⟨t1,rfl⟩:=p1;unfold Hv at p2;subst p2;exact RcNeAt.str_none b1 t1
 |.str b1,.bl b2,p1,p2,hu=>by
  unfold Hv at p1;obtain⟨t1,rfl⟩:=p1;unfold Hv at p2;subst p2;exact RcNeAt.str_bool b1 t1 b2
 |.str b1,.int b2,p1,p2,hu=>by
  unfold Hv at p1;obtain⟨t1,rfl⟩:=p1;unfold Hv at p2;obtain⟨t2,rfl⟩:=p2;exact RcNeAt.str_int b1 t1 b2 t2
 |.str b1,.str b2,p1,p2,hu=>by
  unfold Hv at p1;obtain⟨t1,rfl⟩:=p1;unfold Hv at p2;obtain⟨t2,rfl⟩:=p2;exact RcNeAt.str_str b1 t1 b2 t2
 |.str b1,.tup ds2,p1,p2,hu=>by
  unfold Hv at p1;obtain⟨t1,rfl⟩:=p1;unfold Hv at p2;obtain⟨a2,its2,rfl,l2,p2⟩:=p2;exact RcNeAt.str_tuple b1 t1 l2 (by lia)
 |.str b1,.lst ds2,p1,p2,hu=>by
  unfold Hv at p1;obtain⟨t1,rfl⟩:=p1;unfold Hv at p2;obtain⟨a2,its2,rfl,l2,p2⟩:=p2;exact RcNeAt.str_list b1 t1 l2 (by lia)
 |.tup ds1,.aF,p1,p2,hu=>by
  unfold Hv at p1;obtain⟨a1,its1,rfl,l1,p1⟩:=p1;unfold Hv at p2;subst p2;exact RcNeAt.tuple_none  l1 (by lia)
 |.tup ds1,.bl b2,p1,p2,hu=>by
  unfold Hv at p1;obtain⟨a1,its1,rfl,l1,p1⟩:=p1;unfold Hv at p2;subst p2;exact RcNeAt.tuple_bool b2 l1 (by lia)
 |.tup ds1,.int b2,p1,p2,hu=>by
  unfold Hv at p1;obtain⟨a1,its1,rfl,l1,p1⟩:=p1;unfold Hv at p2;obtain⟨t2,rfl⟩:=p2;exact RcNeAt.tuple_int b2 t2 l1 (by lia)
 |.tup ds1,.str b2,p1,p2,hu=>by
  unfold Hv at p1;obtain⟨a1,its1,rfl,l1,p1⟩:=p1;unfold Hv at p2;obtain⟨t2,rfl⟩:=p2;exact RcNeAt.tuple_str b2 t2 l1 (by lia)
 |.tup ds1,.tup ds2,p1,p2,hu=>by
  unfold Hv at p1;obtain⟨a1,its1,rfl,l1,p1⟩:=p1;unfold Hv at p2;obtain⟨a2,its2,rfl,l2,p2⟩:=p2;unfold D.dS;have hdep:A.units+fH ds1+1+1<cLine:=by
   have e9:(.tup ds1:D).j8=fH ds1+1:=by first|rfl|(unfold D.j8;rfl)
   lia
  have q:=RcNeAt.tuples (e:=fun j=>(ds1.getD j .aF).dS (ds2.getD j .aF)) l1 l2 (by lia) fun j h1 h2=>
   sZ (ds1.getD j .aF) (ds2.getD j .aF) _ _ A.in1 (jD p1 h1).1 (jD p2 h2).1 (by
    have:=kn (jD p1 h1).2;show A.units+1+_+1<cLine;lia)
  rw[Γ,Γ,p1.length,p2.length,uB] at q;exact q
 |.tup ds1,.lst ds2,p1,p2,hu=>by
  unfold Hv at p1;obtain⟨a1,its1,rfl,l1,p1⟩:=p1;unfold Hv at p2;obtain⟨a2,its2,rfl,l2,p2⟩:=p2;exact RcNeAt.tuple_list l1 l2 (by lia)
 |.lst ds1,.aF,p1,p2,hu=>by
  unfold Hv at p1;obtain⟨a1,its1,rfl,l1,p1⟩:=p1;unfold Hv at p2;subst p2;exact RcNeAt.list_none  l1 (by lia)
 |.lst ds1,.bl b2,p1,p2,hu=>by
  unfold Hv at p1;obtain⟨a1,its1,rfl,l1,p1⟩:=p1;unfold Hv at p2;subst p2;exact RcNeAt.list_bool b2 l1 (by lia)
 |.lst ds1,.int b2,p1,p2,hu=>by
  unfold Hv at p1;obtain⟨a1,its1,rfl,l1,p1⟩:=p1;unfold Hv at p2;obtain⟨t2,rfl⟩:=p2;exact RcNeAt.list_int b2 t2 l1 (by lia)
 |.lst ds1,.str b2,p1,p2,hu=>by
  unfold Hv at p1;obtain⟨a1,its1,rfl,l1,p1⟩:=p1;unfold Hv at p2;obtain⟨t2,rfl⟩:=p2;exact RcNeAt.list_str b2 t2 l1 (by lia)
 |.lst ds1,.tup ds2,p1,p2,hu=>by
  unfold Hv at p1;obtain⟨a1,its1,rfl,l1,p1⟩:=p1;unfold Hv at p2;obtain⟨a2,its2,rfl,l2,p2⟩:=p2;exact RcNeAt.list_tuple l1 l2 (by lia)
 |.lst ds1,.lst ds2,p1,p2,hu=>by
  unfold Hv at p1;obtain⟨a1,its1,rfl,l1,p1⟩:=p1;unfold Hv at p2;obtain⟨a2,its2,rfl,l2,p2⟩:=p2;unfold D.dS;have hdep:A.units+fH ds1+1+1<cLine:=by
   have e9:(.lst ds1:D).j8=fH ds1+1:=by first|rfl|(unfold D.j8;rfl)
   lia
  by_cases hn:ds1.length=ds2.length
  ·have q:=RcNeAt.lists (e:=fun j=>(ds1.getD j .aF).dS (ds2.getD j .aF)) l1 l2 (by simp[p1.length,p2.length,hn]) (by lia) fun j h1 h2=>
    sZ (ds1.getD j .aF) (ds2.getD j .aF) _ _ A.in1 (jD p1 h1).1 (jD p2 h2).1 (by
     have:=kn (jD p1 h1).2;show A.units+1+_+1<cLine;lia)
   have q2:=uB ds1 ds2;rw[hn,tD,beq_self_eq_true,n9] at q2;rw[Γ,p1.length,hn,q2] at q;exact q
  ·rw[AJ _ _ hn];exact RcNeAt.lists_lengths l1 l2 (by simp[p1.length,p2.length,hn]) (by lia)
 |d,.iB,p1,p2,hu=>by
  unfold Hv at p2;exact p2.elim
 |.iB,e,p1,p2,hu=>by
  unfold Hv at p1;exact p1.elim
end Dat
namespace L3
open PySem PySem.Spec PyProof.Rows L2
section
variable {X:Cx} {K:PySem.W.Frag}
def zb(f:Int->Int->D):R3:=fun x y G Q=>match x,y with
 |.int i,.int j=>Q (f i j) G
 |_,_=>False
theorem iX{H:Hp}{i:Int}{v:V}(h:Hv K H (.int i) v):v=.int i:=by unfold Hv at h;exact h
theorem x9{H:Hp}{i:Bool}{v:V}(h:Hv K H (.bl i) v):v=.bl i:=by unfold Hv at h;exact h
theorem ij{H:Hp}{a:η}{v:V}(h:Hv K H (.obj a) v):v=.ref a:=by unfold Hv at h;exact h
theorem kx{H:Hp}{ds:List D}{v:V}(h:Hv K H (.tup ds) v):∃a vs,v=.ref a/\cK K H a vs/\aI K H ds vs:=by unfold Hv at h;exact h
theorem uA{H:Hp}{ds:List D}{v:V}(h:Hv K H (.gW ds) v):∃a vs,v=.ref a/\si K H a vs/\aI K H ds vs:=by unfold Hv at h;exact h
theorem lZ{H:Hp}{i:Int}:Hv K H (.int i) (.int i):=by simp[Hv]
theorem lb{H:Hp}{i:Bool}:Hv K H (.bl i) (.bl i):=by simp[Hv]
theorem oZ{H:Hp}{a:η}:Hv K H (.obj a) (.ref a):=by simp[Hv]
theorem qp{H:Hp}{ds:List D}{a:η}{vs:List V}(h:cK K H a vs)(q:aI K H ds vs):Hv K H (.tup ds) (.ref a):=by
 unfold Hv;exact⟨a,vs,rfl,h,q⟩
theorem low_ints{f:Int->Int->D}{g:Int->Int->V}(hf:∀i j H,Hv K H (f i j) (g i j)):dU K (zb f) (oW g):=fun x y vx vy G H Q3 Q hx hy RG h k=>by
 cases x with
 |int i=>
  cases y with
  |int j=>
   rw[iX hx,iX hy];exact⟨i,j,rfl,rfl,k _ H _ G (hf i j H) (.refl H G) RG h⟩
  |_=>exact h.elim
 |_=>exact h.elim
abbrev tL:R3:=zb fun i j=>.int (i-j)
theorem x8:dU K tL (oW fun i j=>.int (i-j)):=low_ints fun _ _ _=>lZ
abbrev HM:R3:=zb fun i j=>.bl (decide (i≤j))
theorem aaJ:dU K HM (oW fun i j=>.bl (decide (i≤j))):=low_ints fun _ _ _=>lb
abbrev uk:R3:=zb fun i j=>.bl (decide (j<i))
theorem wo:dU K uk (oW fun i j=>.bl (decide (j<i))):=low_ints fun _ _ _=>lb
abbrev HV:R3:=zb fun i j=>.bl (decide (j≤i))
theorem aaL:dU K HV (oW fun i j=>.bl (decide (j≤i))):=low_ints fun _ _ _=>lb
def jM(i:Int):Prop:=i.natAbs<2^4000
theorem Lv{i:Int}(h:jM i):i.natAbs.log2<4000:=by
 by_cases h0:i.natAbs=0
 ·rw[h0];decide
 ·exact (Nat.log2_lt h0).mpr h
theorem Lu{i:Int}(h:jM i):jI i≤4000:=by
 unfold jI;split
 ·exact aQ _
 ·exact Lv h
theorem UI{i j:Int}(h1:jM i)(h2:jM j):IntMulOk i j:=by
 unfold IntMulOk gm.Int.intTooBig;have b1:=Lu h1;have b2:=Lu h2;have:¬((jI i:Int)+(jI j:Int) > (bitsLine:Int)):=by
  have:(bitsLine:Int)=134217728:=by decide
  lia
 rw[decide_eq_false this];simp
theorem rF:eO X (binaryOp .FloorDiv) (rI (fun _ j=>0<j/\jM j) fun i j=>.int (i / j)):=FR fun i j _ _ _ _ _ hc q=>by
 have h1:(0:Int)<j:=hc.1;exact floordiv_int (by lia) (by rw[Int.fdiv_eq_ediv_of_nonneg i (by lia)];exact q) (.inl (PyProof.noPylong_of_log2 (kh (Lv hc.2) (by decide))))
theorem Ho:eO X (binaryOp .Mult) (rI (fun i j=>jM i/\jM j) fun i j=>.int (i*j)):=FR fun _ _ _ _ _ _ _ hc q=>mul_int q (UI hc.1 hc.2)
def zE(C:Int->Int->Prop)(f:Int->Int->D):R3:=fun x y G Q=>match x,y with
 |.int i,.int j=>C i j/\Q (f i j) G
 |_,_=>False
theorem EK{C:Int->Int->Prop}{f:Int->Int->D}{g:Int->Int->V}(hf:∀i j H,Hv K H (f i j) (g i j)):dU K (zE C f) (rI C g):=fun x y vx vy G H Q3 Q hx hy RG h k=>by
 cases x with
 |int i=>
  cases y with
  |int j=>
   rw[iX hx,iX hy];exact⟨i,j,rfl,rfl,h.1,k _ H _ G (hf i j H) (.refl H G) RG h.2⟩
  |_=>exact h.elim
 |_=>exact h.elim
abbrev m8:R3:=zE (fun _ j=>0<j/\jM j) fun i j=>.int (i / j)
theorem rE:dU K m8 (rI (fun _ j=>0<j/\jM j) fun i j=>.int (i / j)):=EK fun _ _ _=>lZ
abbrev jm:R3:=zE (fun _ j=>0<j) fun i j=>.int (i%j)
theorem lS:dU K jm (rI (fun _ j=>0<j) fun i j=>.int (i%j)):=EK fun _ _ _=>lZ
abbrev FL:R3:=zE Fv fun i j=>.int (i^j.toNat)
theorem UH:dU K FL (rI Fv fun i j=>.int (i^j.toNat)):=EK fun _ _ _=>lZ
theorem UG{prog:aw}{w:aG}{A:aR}{E:δ->ζ->Prop}{s:ζ}{t b:η}{ws:List δ}{Q:δ->ζ->Prop}(ht:gS s.heap t #[])(hb:gS s.heap b ws.toArray)(h1:Q (.ref b) s):
  π (model prog w) A (binaryOp .Add (.ref t) (.ref b)) Q E s:=by
 obtain⟨⟨cls,dd,data,sl⟩,ho,hc,n,hd⟩:=id ht;obtain⟨⟨cls2,dd2,data2,sl2⟩,ho2,hc2,n2,hd2⟩:=id hb;simp only at hc hd hc2 hd2;subst hc hd hc2 hd2;exact concat_meets ⟨_,ho,rfl⟩ ⟨_,ho2,rfl⟩ pA sk PySem.F.slot_tuple_add PySem.F.entry_tuple_add (PySem.F.args_tuple_add_2 _ _)
   (tuple_addW0 t b #[] ws.toArray n n2 dd dd2 sl sl2 rfl) ⟨ho,ho2,h1⟩
def CU(K:PySem.W.Frag):R2:=fun x y H Q=>∃a b ys,x=.ref a/\y=.ref b/\cK K H a []/\cK K H b ys/\Q (.ref b) H
theorem UE:eO X (binaryOp .Add) (CU X.K):=by
 intro pins s σ H x y v u Q I rx ry h;obtain⟨a,b,ys,rfl,rfl,ha,hb,q⟩:=h;cases rx;cases ry;obtain⟨its,r1,p1,_⟩:=I.tuple ha;obtain⟨its2,r2,p2,_⟩:=I.tuple hb;cases r1;exact UG p1 p2 ⟨.ref b,H,I,rfl,q⟩
def eo:R3:=fun x y G Q=>match x,y with
 |.int i,.int j=>Q (.int (i+j)) G
 |.obj a,.obj b=>∃ds es,G a=some (.lst ds)/\G b=some (.lst es)/\ds.length+es.length≤ao/\∀p G',eQ G p (.lst (ds++es)) G'->Q (.obj p) G'
 |.tup ds,.tup es=>ds.length+es.length≤ao/\Q (.tup (ds++es)) G
 |_,_=>False
abbrev FQ(K:PySem.W.Frag):R2:=fun x y H Q=>oW (fun i j=>.int (i+j)) x y H Q∨(HW x y H Q∨(FP K x y H Q∨CU K x y H Q))
theorem jh:eO X (binaryOp .Add) (FQ X.K):=Mx.or (Mw.or (Hq.or UE))
theorem jg:dU K eo (FQ K):=fun x y vx vy G H Q3 Q hx hy RG h k=>by
 cases x with
 |int i=>
  cases y with
  |int j=>
   rw[iX hx,iX hy];exact .inl ⟨i,j,rfl,rfl,k _ H _ G lZ (.refl H G) RG h⟩
  |_=>exact h.elim
 |obj a=>
  cases y with
  |obj b=>
   rw[ij hx,ij hy];obtain⟨ds,es,e1,e2,hz,q⟩:=h;obtain⟨vs,z1,z2⟩:=RG a _ e1;obtain⟨us,y1,y2⟩:=RG b _ e2;refine .inr (.inl ⟨a,b,vs,us,rfl,rfl,z1,y1,by rw[←z2.length,←y2.length];exact hz,fun p hp=>?_⟩);exact k _ _ (.obj p) _ oZ (.iP hp) (RG.qt hp (z2.append y2)) (q p _ (.mk' (RG.free hp)))
  |_=>exact h.elim
 |tup ds=>
  cases y with
  |tup es=>
   obtain⟨a,vs,rfl,e1,e2⟩:=kx hx;obtain⟨b,us,rfl,y1,y2⟩:=kx hy;by_cases h0:vs=[]
   ·subst h0;have:ds=[]:=by
     have:=e2.length;exact cJ (by simpa using this)
    subst this;exact .inr (.inr (.inr ⟨a,b,us,rfl,rfl,e1,y1,k _ H (.tup es) G (qp y1 y2) (.refl H G) RG h.2⟩))
   ·refine .inr (.inr (.inl ⟨a,b,vs,us,rfl,rfl,e1,y1,h0,by rw[←e2.length,←y2.length];exact h.1,fun z=>?_,fun z p hp=>?_⟩))
    ·subst z;have:es=[]:=cJ (by simpa using y2.length);subst this;refine k _ H (.tup ds) G (qp e1 e2) (.refl H G) RG ?_;have:=h.2;rwa [cV] at this
    ·exact k _ _ (.tup (ds++es)) G (qp (.of jW) ((e2.append y2).ext (.laid hp))) (.laid hp) (RG.laid hp) h.2
  |_=>exact h.elim
 |_=>exact h.elim
def oA:R3:=fun x y G Q=>match x,y with
 |.int i,.int j=>(jM i/\jM j)/\Q (.int (i*j)) G
 |.obj a,.int k=>∃ds,G a=some (.lst ds)/\(-(2^63)≤k/\k<2^63)/\ds.length*k.toNat≤ao/\∀p G',eQ G p (.lst (bF k.toNat ds).flatten) G'->Q (.obj p) G'
 |_,_=>False
abbrev FN:R2:=fun x y H Q=>rI (fun i j=>jM i/\jM j) (fun i j=>.int (i*j)) x y H Q∨HJ x y H Q
theorem sT:eO X (binaryOp .Mult) FN:=Ho.or VO
theorem sS:dU K oA FN:=fun x y vx vy G H Q3 Q hx hy RG h k=>by
 cases x with
 |int i=>
  cases y with
  |int j=>
   rw[iX hx,iX hy];exact .inl ⟨i,j,rfl,rfl,h.1,k _ H _ G lZ (.refl H G) RG h.2⟩
  |_=>exact h.elim
 |obj a=>
  cases y with
  |int j=>
   rw[ij hx,iX hy];obtain⟨ds,e1,hk,hz,q⟩:=h;obtain⟨vs,z1,z2⟩:=RG a _ e1;refine .inr ⟨a,j,vs,rfl,rfl,z1,hk.1,hk.2,by rw[←z2.length];exact hz,fun p hp=>?_⟩;exact k _ _ (.obj p) _ oZ (.iP hp) (RG.qt hp (z2.rep _)) (q p _ (.mk' (RG.free hp)))
  |_=>exact h.elim
 |_=>exact h.elim
def Bd:D->Bool
 |.aF=>true
 |_=>false
def uj(neg:Bool):R3:=fun x y G Q=>match y with
 |.aF=>Q (.bl (if neg then !Bd x else Bd x)) G
 |_=>False
theorem Ls{H:Hp}{x:D}{v:V}(h:Hv K H x v):decide (v=.aF)=Bd x:=by
 cases x with
 |aF=>unfold Hv at h;subst h;rfl
 |bl b=>rw[x9 h];rfl
 |int b=>rw[iX h];rfl
 |str b=>unfold Hv at h;subst h;rfl
 |obj b=>rw[ij h];rfl
 |tup ds=>obtain⟨a,vs,rfl,_⟩:=kx h;rfl
 |gW ds=>obtain⟨a,vs,rfl,_⟩:=uA h;rfl
 |dc a=>unfold Hv at h;rw[h.1];rfl
theorem MP:dU K (uj false) (fun x y H Q=>y=.aF/\Q (.bl (decide (x=.aF))) H):=fun x y vx vy G H Q3 Q hx hy RG h k=>by
 cases y with
 |aF=>
  refine⟨by unfold Hv at hy;exact hy,?_⟩;rw[Ls hx];exact k _ H _ G lb (.refl H G) RG h
 |_=>exact h.elim
theorem UD:dU K (uj true) (fun x y H Q=>y=.aF/\Q (.bl (!decide (x=.aF))) H):=fun x y vx vy G H Q3 Q hx hy RG h k=>by
 cases y with
 |aF=>
  refine⟨by unfold Hv at hy;exact hy,?_⟩;rw[Ls hx];exact k _ H _ G lb (.refl H G) RG h
 |_=>exact h.elim
def intsOf:List D->Option (List Int)
 |[]=>some []
 |.int i::r=>(intsOf r).map (i::·)
 |_::_=>none
theorem lR{H:Hp}:∀{ds:List D} {vs:List V} {ns:List Int},aI K H ds vs->intsOf ds=some ns->vs=ns.map V.int
 |[],vs,ns,h,e=>by
  cases e;exact h.iJ
 |d::ds,vs,ns,h,e=>by
  cases d with
  |int i=>
   obtain⟨v,r,rfl,z1,z2⟩:=h.inv;unfold intsOf at e;cases hm:intsOf ds with
   |none=>rw[hm] at e;cases e
   |some ms=>
    rw[hm] at e;cases e;rw[iX z1,lR z2 hm];rfl
  |_=>cases e
def rq:R3:=fun x y G Q=>match x,y with
 |.int i,.int j=>Q (.bl (decide (i<j))) G
 |.tup ds,.tup es=>∃ns ms,intsOf ds=some ns/\intsOf es=some ms/\Q (.bl (HT.lexLt ns ms)) G
 |_,_=>False
abbrev HL(K:PySem.W.Frag):R2:=fun x y H Q=>oW (fun i j=>.bl (decide (i<j))) x y H Q∨HK K x y H Q
theorem wa(hu:X.A.units<cLine):eO X (compareOp .Lt) (HL X.K):=NC.or (Vp hu)
theorem v9:dU K rq (HL K):=fun x y vx vy G H Q3 Q hx hy RG h k=>by
 cases x with
 |int i=>
  cases y with
  |int j=>
   rw[iX hx,iX hy];exact .inl ⟨i,j,rfl,rfl,k _ H _ G lb (.refl H G) RG h⟩
  |_=>exact h.elim
 |tup ds=>
  cases y with
  |tup es=>
   obtain⟨a,vs,rfl,e1,e2⟩:=kx hx;obtain⟨b,us,rfl,y1,y2⟩:=kx hy;obtain⟨ns,ms,z1,z2,q⟩:=h;have q1:=lR e2 z1;have q2:=lR y2 z2;subst q1 q2;exact .inr ⟨a,b,ns,ms,rfl,rfl,e1,y1,k _ H _ G lb (.refl H G) RG q⟩
  |_=>exact h.elim
 |_=>exact h.elim
def ff:R3:=fun x y G Q=>match x,y with
 |.tup ds,.int i=>∃d,jL ds i=some d/\Q d G
 |.gW ds,.int i=>∃d,jL ds i=some d/\Q d G
 |.obj p,.int i=>∃ds d,G p=some (.lst ds)/\jL ds i=some d/\Q d G
 |_,_=>False
theorem yq{H:Hp}{ds:List D}{vs:List V}{i:Int}{d:D}(h:aI K H ds vs)(e:jL ds i=some d):∃v,jL vs i=some v/\Hv K H d v:=by
 unfold jL at e ⊢;rw[←h.length];cases hx:qQ ds.length i with
 |none=>rw[hx] at e;cases e
 |some j=>
  rw[hx] at e;exact h.get e
theorem aaK:dU K ff (Oq K):=fun x y vx vy G H Q3 Q hx hy RG h k=>by
 cases y with
 |int i=>
  rw[iX hy];cases x with
  |tup ds=>
   obtain⟨d,e,q⟩:=h;obtain⟨a,vs,rfl,e1,e2⟩:=kx hx;obtain⟨v,z1,z2⟩:=yq e2 e;exact .inr (.inl ⟨a,vs,i,v,rfl,rfl,e1,z1,k _ H d G z2 (.refl H G) RG q⟩)
  |gW ds=>
   obtain⟨d,e,q⟩:=h;obtain⟨a,vs,rfl,e1,e2⟩:=uA hx;obtain⟨v,z1,z2⟩:=yq e2 e;exact .inl ⟨a,vs,i,v,rfl,rfl,e1.l,z1,k _ H d G z2 (.refl H G) RG q⟩
  |obj p=>
   obtain⟨ds,d,e0,e,q⟩:=h;rw[ij hx];obtain⟨vs,e1,e2⟩:=RG p _ e0;obtain⟨v,z1,z2⟩:=yq e2 e;exact .inl ⟨p,vs,i,v,rfl,rfl,.of e1,z1,k _ H d G z2 (.refl H G) RG q⟩
  |_=>exact h.elim
 |_=>cases x<;>exact h.elim
theorem aaV{a b:ρ}{ta tb:aO}{pos:aP}(ha:cg X a ta)(hb:cg X b tb)(hs:oO b:=by intro _ _;rfl):cg X (.Subscript a b pos) (aJ ff ta tb):=jJ (ER Ms ha hb hs) fun _ _ _ h=>yc aaK h
def yD(ta:dF)(tb:aO):aO:=fun τ G Q=>ta τ G fun ds G1=>sF (tb τ G1 fun y G2=>match y with
 |.int i=>∃d,jL ds i=some d/\Q d G2
 | _=>False) ds 64
theorem UC{es:List ρ}{b:ρ}{ta:dF}{tb:aO}{pos pos':aP}(ha:kO X es ta)(hb:cg X b tb)(hs:oO b:=by intro _ _;rfl):cg X (.Subscript (.List es pos') b pos) (yD ta tb):=
 jJ (ER Ms (Mb ha) hb hs) fun σ H Q zz=>by
  obtain⟨τ,G,Q3,RS,RG,h,k⟩:=zz;refine⟨τ,G,_,RS,RG,h,fun vs H1 ds G1 h1 S1 R1 q1=>?_⟩;obtain⟨z,q1⟩:=AY q1;refine⟨by rw[←h1.length];exact yx z,fun p hp=>?_⟩;refine⟨τ,G1,_,(RS.ext (S1.ext RG)).ext (.laid hp),R1.laid hp,q1,fun v2 H2 d2 G2 h2 S2 R2 q2=>?_⟩;have e2:H2 p=some (.lst vs):=S2.fr p _ jW (R1.free hp);cases d2 with
  |int i=>
   obtain⟨d,e,q⟩:=q2;obtain⟨v,z1,z2⟩:=yq ((h1.ext (.laid hp)).ext (S2.ext (R1.laid hp))) e;rw[iX h2];exact .inl ⟨p,vs,i,v,rfl,rfl,.of e2,z1,k _ H2 d G2 z2 ((S1.trans (.laid hp)).trans S2) R2 q⟩
  |_=>exact q2.elim
end
end L3
namespace L3
open PySem PySem.Spec PyProof.Rows L2
mutual
def gG:D->Option Dat.D
 |.aF=>some .aF
 |.bl b=>some (.bl b)
 |.int i=>some (.int i)
 |.str x=>some (.str x)
 |.tup ds=>match dY ds with
  |some xs=>some (.tup xs)
  |none=>none
 |.gW ds=>match dY ds with
  |some xs=>some (.lst xs)
  |none=>none
 |.obj _=>none
 |.dc _=>none
def dY:List D->Option (List Dat.D)
 |[]=>some []
 |d::ds=>match gG d with
  |some x=>match dY ds with
   |some xs=>some (x::xs)
   |none=>none
  |none=>none
end
def kX(G:Gp):D->Option Dat.D
 |.obj a=>match G a with
  |some (.lst ds)=>match dY ds with
   |some xs=>some (.lst xs)
   |none=>none
  |_=>none
 |d=>gG d
section
variable {X:Cx} {pins:List (η×br)} {σ:L2.St} {H:Hp} {s:ζ}
mutual
theorem sR(I:Inv X pins σ H s):∀{d:D} {v:V} {u:δ} {x:Dat.D},Hv X.K H d v->RelV v u->gG d=some x->Dat.Hv s.heap x u
 |.aF,v,u,x,h,r,e=>by
  unfold Hv at h;subst h;cases e;unfold Dat.Hv;exact r
 |.bl b,v,u,x,h,r,e=>by
  unfold Hv at h;subst h;cases e;unfold Dat.Hv;exact r
 |.int b,v,u,x,h,r,e=>by
  unfold Hv at h;subst h;cases e;unfold Dat.Hv;exact r
 |.str b,v,u,x,h,r,e=>by
  unfold Hv at h;subst h;cases e;unfold Dat.Hv;exact r
 |.obj a,v,u,x,h,r,e=>by cases e
 |.dc a,v,u,x,h,r,e=>by cases e
 |.tup ds,v,u,x,h,r,e=>by
  obtain⟨a,vs,rfl,q1,q2⟩:=kx h;cases r;unfold gG at e;cases hd:dY ds with
  |none=>rw[hd] at e;cases e
  |some xs=>
   rw[hd] at e;cases e;obtain⟨its,rv,p,_⟩:=I.tuple q1;unfold Dat.Hv;exact⟨a,its,rfl,p,AI I q2 rv hd⟩
 |.gW ds,v,u,x,h,r,e=>by
  obtain⟨a,vs,rfl,q1,q2⟩:=uA h;cases r;unfold gG at e;cases hd:dY ds with
  |none=>rw[hd] at e;cases e
  |some xs=>
   rw[hd] at e;cases e;obtain⟨its,rv,p,_⟩:=I.list q1.l;unfold Dat.Hv;exact⟨a,its,rfl,p.isList,AI I q2 rv hd⟩
theorem AI(I:Inv X pins σ H s):∀{ds:List D} {vs:List V} {us:List δ} {xs:List Dat.D},aI X.K H ds vs->bo vs us->dY ds=some xs->Dat.aI s.heap xs us
 |[],vs,us,xs,h,r,e=>by
  cases h.iJ;cases r;cases e;unfold Dat.aI;rfl
 |d::ds,vs,us,xs,h,r,e=>by
  obtain⟨v,vr,rfl,q1,q2⟩:=h.inv;unfold dY at e;cases hd:gG d with
  |none=>rw[hd] at e;cases e
  |some x=>
   rw[hd] at e;cases hr:dY ds with
   |none=>rw[hr] at e;cases e
   |some xr=>
    rw[hr] at e;cases e;cases r with
    |cons r1 r2=>
     unfold Dat.aI;exact⟨_,_,rfl,sR I q1 r1 hd,AI I q2 r2 hr⟩
end
theorem qo{G:Gp}(I:Inv X pins σ H s)(RG:bB X.K G H){d:D}{v:V}{u:δ}{x:Dat.D}(h:Hv X.K H d v)(r:RelV v u)(e:kX G d=some x):Dat.Hv s.heap x u:=by
 cases d with
 |obj a=>
  rw[ij h] at r;cases r;unfold kX at e;cases hG:G a with
  |none=>simp[hG] at e
  |some o=>
   cases o with
   |lst ds=>
    simp only[hG] at e;cases hr:dY ds with
    |none=>rw[hr] at e;cases e
    |some xs=>
     rw[hr] at e;cases e;obtain⟨vs,e1,e2⟩:=RG a _ hG;obtain⟨its,rv,p,_⟩:=I.list (eN.of e1);unfold Dat.Hv;exact⟨a,its,rfl,p.isList,AI I e2 rv hr⟩
   |o4=>simp[hG] at e
   |iB=>simp[hG] at e
   |gen R=>simp[hG] at e
 |aF=>exact sR I h r e
 |bl _=>exact sR I h r e
 |int _=>exact sR I h r e
 |str _=>exact sR I h r e
 |tup _=>exact sR I h r e
 |gW _=>exact sR I h r e
 |dc _=>exact sR I h r e
end
section
variable {X:Cx} {a b e:ρ} {ta tb:aO} {pos:aP}
def fg(neg:Bool):R3:=fun x y G Q=>∃u v,kX G x=some u/\kX G y=some v/\u.j8≤50/\Q (.bl (if neg then !u.dS v else u.dS v)) G
def wx(X:Cx)(f:δ->δ->Sem δ)(r:R3):Prop:=
 ∀(pins:List (η×br)) (s:ζ) (σ:L2.St) (H:Hp) (G:Gp) (x y:D) (vx vy:V) (u v:δ) (Q3:V3),Inv X pins σ H s->bB X.K G H->Hv X.K H x vx->Hv X.K H y vy->RelV vx u->RelV vy v->r x y G Q3 ->
  π (model X.prog X.w) X.A (f u v) (EP X pins σ fun w H'=>∃d G',Hv X.K H' d w/\Step H G H' G'/\bB X.K G' H'/\Q3 d G') X.xe s
theorem eqR(hu:X.A.units+64<cLine):wx X (compareOp .Eq) (fg false):=by
 intro pins s σ H G x y vx vy u v Q3 I RG hx hy rx ry ⟨p,q,e1,e2,hd,h⟩;have:=Dat.OP p q u v X.A (qo I RG hx rx e1) (qo I RG hy ry e2) (by lia);exact this _ _ _ _ ⟨.bl (p.dS q),H,I,rfl,.bl (p.dS q),G,lb,.refl H G,RG,h⟩
theorem neR(hu:X.A.units+64<cLine):wx X (compareOp .NotEq) (fg true):=by
 intro pins s σ H G x y vx vy u v Q3 I RG hx hy rx ry ⟨p,q,e1,e2,hd,h⟩;have:=Dat.OO p q u v X.A (qo I RG hx rx e1) (qo I RG hy ry e2) (by lia);exact this _ _ _ _ ⟨.bl (!p.dS q),H,I,rfl,.bl (!p.dS q),G,lb,.refl H G,RG,h⟩
def pW(K:PySem.W.Frag)(r:R3):R2:=fun vx vy H Q=>∃x y G Q3,bB K G H/\Hv K H x vx/\Hv K H y vy/\r x y G Q3/\∀v H' d G',Hv K H' d v->Step H G H' G'->bB K G' H'->Q3 d G'->Q v H'
theorem wx.op{f:δ->δ->Sem δ}{r:R3}(h:wx X f r):eO X f (pW X.K r):=by
 intro pins s σ H vx vy u v Q I rx ry ⟨x,y,G,Q3,RG,hx,hy,q,k⟩;refine bP (h pins s σ H G x y vx vy u v Q3 I RG hx hy rx ry q) fun w s' zz=>by obtain⟨v',H',I',r',d,G',z1,z2,z3,z4⟩:=zz;exact⟨v',H',I',r',k v' H' d G' z1 z2 z3 z4⟩
theorem EJ{K:PySem.W.Frag}{r:R3}:dU K r (pW K r):=fun x y vx vy G H Q3 Q hx hy RG h k=>⟨x,y,G,Q3,RG,hx,hy,h,k⟩
theorem nL(hu:X.A.units+64<cLine):eO X (compareOp .Eq) (pW X.K (fg false)):=(eqR hu).op
theorem qm(hu:X.A.units+64<cLine):eO X (compareOp .NotEq) (pW X.K (fg true)):=(neR hu).op
theorem nM{K:PySem.W.Frag}:dU K (fg false) (pW K (fg false)):=EJ
theorem qu{K:PySem.W.Frag}:dU K (fg true) (pW K (fg true)):=EJ
abbrev wI:=S3->Gp->(Option Int->Gp->Prop)->Prop
def aaI(K:PySem.W.Frag)(t:wI):TO:=fun σ H Q=>∃τ G Q3,fM K τ σ H/\bB K G H/\t τ G Q3/\∀o H' G',Step H G H' G'->bB K G' H'->Q3 o G'->Q o H'
abbrev Dd(X:Cx)(e:Option ρ)(t:wI):Prop:=PO X e (aaI X.K t)
theorem Lr{o:Option ρ}{t t':TO}(h:PO X o t)(f:∀σ H Q,t' σ H Q->t σ H Q):PO X o t':=fun pins s σ H Q I q=>h pins s σ H Q I (f σ H Q q)
def rH:wI:=fun _ G Q=>Q none G
def oB(t:aO):wI:=fun τ G Q=>t τ G fun x G1=>match x with
 |.int i=>Q (some i) G1
 |_=>False
theorem UB:Dd X none rH:=Lr Vs fun σ H Q zz=>by obtain⟨τ,G,Q3,RS,RG,h,k⟩:=zz;exact k none H G (.refl H G) RG h
theorem UA(h:cg X e ta):Dd X (some e) (oB ta):=Lr (Vr h) fun σ H Q zz=>by
 obtain⟨τ,G,Q3,RS,RG,h,k⟩:=zz;exact
 ⟨τ,G,_,RS,RG,h,fun v H1 d G1 h1 S1 R1 q1=>by
  cases d with
  |int i=>exact⟨i,iX h1,k (some i) H1 G1 S1 R1 q1⟩
  |_=>exact q1.elim⟩
def jq(ds:List D)(lo hi:Option Int):List D:=(ds.drop (HT.cC ds.length 0 lo)).take (HT.cC ds.length ds.length hi-HT.cC ds.length 0 lo)
def wF(ta:aO)(tl th:wI):aO:=fun τ G Q=>ta τ G fun x G1=>tl τ G1 fun lo G2=>th τ G2 fun hi G3=>match x with
 |.tup ds=>Q (.tup (jq ds lo hi)) G3
 |.gW ds=>∀p G4,eQ G3 p (.lst (jq ds lo hi)) G4->Q (.obj p) G4
 |.obj a=>∃ds,G3 a=some (.lst ds)/\∀p G4,eQ G3 p (.lst (jq ds lo hi)) G4->Q (.obj p) G4
 |_=>False
theorem EI{K:PySem.W.Frag}{H:Hp}{ds:List D}{vs:List V}(h:aI K H ds vs)(lo hi:Option Int):aI K H (jq ds lo hi) (tq vs lo hi):=by
 unfold jq tq;rw[h.length];exact (h.drop _).take _
theorem Uz{prog:aw}{w:aG}{A:aR}{E:δ->ζ->Prop}{s:ζ}{t sl:η}{items:Array δ}{vl vu:δ}{lo hi:Option Int}{Q:δ->ζ->Prop}(ht:gS s.heap t items)(hs:s.heap.IsSliceOf sl vl vu .none)(pl:mE vl lo)(pu:mE vu hi)
  (hw:HT.cC items.size 0 lo=0/\HT.cC items.size items.size hi=items.size) (h:Q (.ref t) s):π (model prog w) A (getItem (.ref t) (.ref sl)) Q E s:=by
 obtain⟨os,hos,hcs,hds⟩:=id hs;have hTs:s.TypeIs (.ref sl) "slice":=⟨os,hos,hcs⟩;unfold getItem
 try with_reducible refine cx ?_
 first|refine γ (ι ?_)|skip
 refine γ (wpAny_sequenceKey ht.typeIs (by decide) ?_);refine γ (bW (name:=fm "__getitem__") ht.typeIs dj
  (bU dj ht.typeIs entry_tuple_getitem ?_ (args_tuple_getitem _ _)))
 show π _ _ (nY (.ref t) >>= _) _ _ s;refine γ (tupleItemsOf_ ht ?_);refine γ (ke hTs ?_);rw[if_pos (by decide)];refine γ (HT.oT hs pl pu ?_);have EY:(((HT.cC items.size 0 lo:Nat):Int)==0&&(1:Int)==1&&(HT.cC items.size items.size hi-HT.cC items.size 0 lo)==items.size)=true:=by
  rw[hw.1,hw.2];simp
 show π _ _ (if (((HT.cC items.size 0 lo:Nat):Int)==0&&(1:Int)==1&&(HT.cC items.size items.size hi-HT.cC items.size 0 lo)==items.size)=true then _ else _) _ _ s;rw[if_pos EY];unfold gm.Tuple.tupleIsExact;refine γ (γ (ke ht.typeIs (ι ?_)));rw[if_pos (by decide)];exact γ (gQ (ι ⟨_,rfl,ι h⟩))
def Ny(K:PySem.W.Frag):V->Option Int->Option Int->Hp->VK->Prop:=fun x lo hi H Q=>∃a xs,x=.ref a/\cK K H a xs ∧
 (HT.cC xs.length 0 lo=0/\HT.cC xs.length xs.length hi=xs.length)/\Q (.ref a) H
theorem Hn:wK X (Ny X.K):=by
 intro pins s σ H x v vl vu lo hi sl Q I rx hs pl pu h;obtain⟨a,xs,rfl,hx,hw,q⟩:=h;cases rx;obtain⟨its,r,ht,hz⟩:=I.tuple hx;have hlen:its.toArray.size=xs.length:=by rw[Γ];exact r.length.symm
 refine⟨"tuple",_,dj.lookup,ht.typeIs,?_⟩;exact Uz ht hs pl pu (by rw[hlen];exact hw) ⟨.ref a,H,I,rfl,q⟩
theorem aaS{lo hi:Option ρ}{tl th:wI}{p2:aP}(ha:cg X a ta)(hl:Dd X lo tl)(hh:Dd X hi th):cg X (.Subscript a (.Slice lo hi none p2) pos) (wF ta tl th):=
 jJ (Vq (HG.or (Hn.or VV)) ha hl hh) fun σ H Q zz=>by
  obtain⟨τ,G,Q3,RS,RG,h,k⟩:=zz;refine⟨τ,G,_,RS,RG,h,fun v1 H1 d1 G1 h1 S1 R1 q1=>?_⟩;have RS1:=RS.ext (S1.ext RG);refine⟨τ,G1,_,RS1,R1,q1,fun l H2 G2 S2 R2 q2=>?_⟩;have RS2:=RS1.ext (S2.ext R1);refine⟨τ,G2,_,RS2,R2,q2,fun u H3 G3 S3 R3 q3=>?_⟩;have S13:Step H G H3 G3:=(S1.trans S2).trans S3;have hv:=(h1.ext (S2.ext R1)).ext (S3.ext R2);cases d1 with
  |tup ds=>
   obtain⟨a',vs,rfl,e1,e2⟩:=kx hv;by_cases hw:HT.cC vs.length 0 l=0/\HT.cC vs.length vs.length u=vs.length
   ·refine .inr (.inl ⟨a',vs,rfl,e1,hw,k _ H3 (.tup (jq ds l u)) G3 (qp e1 ?_) S13 R3 q3⟩);have:jq ds l u=ds:=by
     unfold jq;rw[e2.length,hw.1,hw.2];simp[←e2.length]
    rw[this];exact e2
   ·refine .inl ⟨a',vs,rfl,e1,hw,fun p hp=>?_⟩;exact k _ _ (.tup (jq ds l u)) G3 (qp (.of jW) ((EI e2 l u).ext (.laid hp))) (S13.trans (.laid hp)) (R3.laid hp) q3
  |gW ds=>
   obtain⟨a',vs,rfl,e1,e2⟩:=uA hv;refine .inr (.inr ⟨a',vs,rfl,e1.l,fun p hp=>?_⟩);exact k _ _ (.obj p) _ oZ (S13.trans (.iP hp)) (R3.qt hp (EI e2 l u)) (q3 p _ (.mk' (R3.free hp)))
  |obj a'=>
   rw[ij hv];obtain⟨ds,e0,q3⟩:=q3;obtain⟨vs,e1,e2⟩:=R3 a' _ e0;refine .inr (.inr ⟨a',vs,rfl,.of e1,fun p hp=>?_⟩);exact k _ _ (.obj p) _ oZ (S13.trans (.iP hp)) (R3.qt hp (EI e2 l u)) (q3 p _ (.mk' (R3.free hp)))
  |_=>exact q3.elim
end
end L3
namespace L3
open PySem PySem.Spec PyProof.Rows L2
abbrev C3:=List D->Gp->V3->Prop
def cF(r:C3)(t:dF):aO:=fun τ G Q=>t τ G fun ds G1=>r ds G1 Q
def lq(K:PySem.W.Frag)(r:C3)(r2:List V->Hp->VK->Prop):Prop:=∀ds vs G H Q3 Q,aI K H ds vs->bB K G H->r ds G Q3->(∀v H' d G',Hv K H' d v->Step H G H' G'->bB K G' H'->Q3 d G'->Q v H')->r2 vs H Q
section
variable {X:Cx} {K:PySem.W.Frag} {e:ρ} {es:List ρ} {t:dF} {ta:aO} {pos p:aP}
theorem TQ{r:C3}{r2:List V->Hp->VK->Prop}(L:lq K r r2){σ:L2.St}{H:Hp}{Q:VK}(h:low K (cF r t) σ H Q):Fz r2 (uH K t) σ H Q:=by
 obtain⟨τ,G,Q3,RS,RG,h,k⟩:=h;refine⟨τ,G,_,RS,RG,h,fun vs H1 ds G1 h1 S1 R1 q1=>?_⟩;exact L _ _ _ _ _ _ h1 R1 q1 fun v H' d G' z1 z2 z3 z4=>k v H' d G' z1 (S1.trans z2) z3 z4
theorem mh{r:C3}{r2:List V->Hp->VK->Prop}(L:lq X.K r r2)(h:PE X e (Fz r2 (uH X.K t))):cg X e (cF r t):=jJ h fun _ _ _ h=>TQ L h
theorem kD{H:Hp}{d:D}{vs:List V}(h:aI K H [d] vs):∃v,vs=[v]/\Hv K H d v:=by
 obtain⟨v,r,rfl,z1,z2⟩:=h.inv;cases z2.iJ;exact⟨v,rfl,z1⟩
theorem aaN{H:Hp}{d d':D}{vs:List V}(h:aI K H [d,d'] vs):∃v v',vs=[v,v']/\Hv K H d v/\Hv K H d' v':=by
 obtain⟨v,r,rfl,z1,z2⟩:=h.inv;obtain⟨v',rfl,z3⟩:=kD z2;exact⟨v,v',rfl,z1,z3⟩
def jU:C3:=fun ds G Q=>match ds with
 |[.obj a]=>∃xs,G a=some (.lst xs)/\Q (.int xs.length) G
 |[.tup xs]=>Q (.int xs.length) G
 |[.gW xs]=>Q (.int xs.length) G
 |_=>False
theorem TN:lq K jU (fun xs H Q=>∃p ys,xs=[.ref p]/\(eN K H p ys∨cK K H p ys)/\Q (.int ys.length) H):=fun ds vs G H Q3 Q h RG q k=>by
 rcases ds with _|⟨d,_|⟨d2,ds⟩⟩
 ·exact q.elim
 ·obtain⟨v,rfl,hv⟩:=kD h;cases d with
  |obj a=>
   obtain⟨xs,e,q⟩:=q;obtain⟨us,e1,e2⟩:=RG a _ e;rw[ij hv];exact⟨a,us,rfl,.inl (.of e1),by rw[←e2.length];exact k _ H _ G lZ (.refl H G) RG q⟩
  |tup xs=>
   obtain⟨a,us,rfl,e1,e2⟩:=kx hv;exact⟨a,us,rfl,.inr e1,by rw[←e2.length];exact k _ H _ G lZ (.refl H G) RG q⟩
  |gW xs=>
   obtain⟨a,us,rfl,e1,e2⟩:=uA hv;exact⟨a,us,rfl,.inl e1.l,by rw[←e2.length];exact k _ H _ G lZ (.refl H G) RG q⟩
  |_=>exact q.elim
 ·cases d<;>exact q.elim
theorem TM(hu:X.A.units+64<cLine)(hm:X.mg "len" = none)(ha:kO X (e::es) t)(hg:Gl X "len":=by rfl)(he:notStar e=true:=by rfl)(hpl:es.all notStar=true:=by rfl):
  cg X (.Call (.Name "len" p) (e::es) [] pos) (cF jU t):=mh TN (lh VU hg hm PySem.boot_len ha (he:=gs he) (hpl:=ma hpl))
def AH:C3:=fun ds G Q=>match ds with
 |[.bl b]=>Q (.int (if b then 1 else 0)) G
 |[.int i]=>Q (.int i) G
 |_=>False
theorem TL:lq K AH (fun xs H Q=>(∃i,xs=[.int i]/\Q (.int i) H)∨∃k,xs=[.bl k]/\Q (.int (if k then 1 else 0)) H):=fun ds vs G H Q3 Q h RG q k=>by
 rcases ds with _|⟨d,_|⟨d2,ds⟩⟩
 ·exact q.elim
 ·obtain⟨v,rfl,hv⟩:=kD h;cases d with
  |bl b=>
   rw[x9 hv];exact .inr ⟨b,rfl,k _ H _ G lZ (.refl H G) RG q⟩
  |int b=>
   rw[iX hv];exact .inl ⟨b,rfl,k _ H _ G lZ (.refl H G) RG q⟩
  |_=>exact q.elim
 ·cases d<;>exact q.elim
theorem TK(hu:X.A.units+64<cLine)(hm:X.mg "int" = none)(ha:kO X (e::es) t)(hg:Gl X "int":=by rfl)(he:notStar e=true:=by rfl)(hpl:es.all notStar=true:=by rfl):
  cg X (.Call (.Name "int" p) (e::es) [] pos) (cF AH t):=mh TL (L5 VE hg hm rfl ha (he:=gs he) (hpl:=ma hpl))
def AG:C3:=fun ds G Q=>match ds with
 |[.int i,.int j]=>Q (.int (if j > i then j else i)) G
 |_=>False
def EH:C3:=fun ds G Q=>match ds with
 |[.int i,.int j]=>Q (.int (if j<i then j else i)) G
 |_=>False
theorem Lq{f:Int->Int->Int}:lq K (fun ds G Q=>match ds with
 |[.int i,.int j]=>Q (.int (f i j)) G
 | _=>False) (fun xs H Q=>∃i j,xs=[.int i,.int j]/\Q (.int (f i j)) H):=fun ds vs G H Q3 Q h RG q k=>by
 rcases ds with _|⟨d,_|⟨d2,_|⟨d3,ds⟩⟩⟩
 ·exact q.elim
 ·cases d<;>exact q.elim
 ·obtain⟨v,v',rfl,h1,h2⟩:=aaN h;cases d with
  |int i=>
   cases d2 with
   |int j=>
    rw[iX h1,iX h2];exact⟨i,j,rfl,k _ H _ G lZ (.refl H G) RG q⟩
   |_=>exact q.elim
  |_=>exact q.elim
 ·cases d with
  |int i=>cases d2<;>exact q.elim
  |_=>exact q.elim
theorem TJ(hu:X.A.units+64<cLine)(hm:X.mg "max" = none)(ha:kO X (e::es) t)(hc:X.calm=true:=by rfl)(hg:Gl X "max":=by rfl)(he:notStar e=true:=by rfl)(hpl:es.all notStar=true:=by rfl):
  cg X (.Call (.Name "max" p) (e::es) [] pos) (cF AG t):=mh (Lq (f:=fun i j=>if j > i then j else i)) (lh (VG hc) hg hm rfl ha (he:=gs he) (hpl:=ma hpl))
theorem TH(hu:X.A.units+64<cLine)(hm:X.mg "min" = none)(ha:kO X (e::es) t)(hc:X.calm=true:=by rfl)(hg:Gl X "min":=by rfl)(he:notStar e=true:=by rfl)(hpl:es.all notStar=true:=by rfl):
  cg X (.Call (.Name "min" p) (e::es) [] pos) (cF EH t):=mh (Lq (f:=fun i j=>if j<i then j else i)) (lh (VF hc) hg hm rfl ha (he:=gs he) (hpl:=ma hpl))
def mS:C3:=fun ds G Q=>match ds with
 |[.obj a]=>∃xs,G a=some (.lst xs)/\Q (.tup xs) G
 |[.tup xs]=>Q (.tup xs) G
 |[.gW xs]=>Q (.tup xs) G
 |_=>False
theorem TF:lq K mS (fun xs H Q=>∃p ys,xs=[.ref p]/\((eN K H p ys/\∀l,H l=none->Q (.ref l) (upd H l (.tup ys)))∨(cK K H p ys/\Q (.ref p) H))):=fun ds vs G H Q3 Q h RG q k=>by
 rcases ds with _|⟨d,_|⟨d2,ds⟩⟩
 ·exact q.elim
 ·obtain⟨v,rfl,hv⟩:=kD h;cases d with
  |obj a=>
   obtain⟨xs,e,q⟩:=q;obtain⟨us,e1,e2⟩:=RG a _ e;rw[ij hv];exact⟨a,us,rfl,.inl ⟨.of e1,fun l hl=>k _ _ (.tup xs) G (qp (.of jW) (e2.ext (.laid hl))) (.laid hl) (RG.laid hl) q⟩⟩
  |tup xs=>
   obtain⟨a,us,rfl,e1,e2⟩:=kx hv;exact⟨a,us,rfl,.inr ⟨e1,k _ H _ G (qp e1 e2) (.refl H G) RG q⟩⟩
  |gW xs=>
   obtain⟨a,us,rfl,e1,e2⟩:=uA hv;exact⟨a,us,rfl,.inl ⟨e1.l,fun l hl=>k _ _ (.tup xs) G (qp (.of jW) (e2.ext (.laid hl))) (.laid hl) (RG.laid hl) q⟩⟩
  |_=>exact q.elim
 ·cases d<;>exact q.elim
theorem TC(hu:X.A.units+64<cLine)(hm:X.mg "tuple" = none)(ha:kO X (e::es) t)(hg:Gl X "tuple":=by rfl)(he:notStar e=true:=by rfl)(hpl:es.all notStar=true:=by rfl):
  cg X (.Call (.Name "tuple" p) (e::es) [] pos) (cF mS t):=mh TF (L5 VT hg hm rfl ha (he:=gs he) (hpl:=ma hpl))
def eM(r:D->List D->Gp->V3->Prop)(to:aO)(t:dF):aO:=fun τ G Q=>to τ G fun x G1=>(∃a xs,x=.obj a/\G1 a=some (.lst xs))/\t τ G1 fun ds G2=>r x ds G2 Q
def uJ(K:PySem.W.Frag)(r:D->List D->Gp->V3->Prop)(r2:V->List V->Hp->VK->Prop):Prop:=∀x vx ds vs G H Q3 Q,Hv K H x vx->aI K H ds vs->bB K G H->r x ds G Q3->(∀v H' d G',Hv K H' d v->Step H G H' G'->bB K G' H'->Q3 d G'->Q v H')->r2 vx vs H Q
theorem TB{r:D->List D->Gp->V3->Prop}{r2:V->List V->Hp->VK->Prop}{to:aO}(L:uJ K r r2){σ:L2.St}{H:Hp}{Q:VK}(h:low K (eM r to t) σ H Q):HD K "list" r2 (low K to) (uH K t) σ H Q:=by
 obtain⟨τ,G,Q3,RS,RG,h,k⟩:=h;refine⟨τ,G,_,RS,RG,h,fun v1 H1 d1 G1 h1 S1 R1 q1=>?_⟩;obtain⟨⟨a,xs,rfl,e1⟩,q1⟩:=q1;obtain⟨us,e2,e3⟩:=R1 a _ e1;refine⟨?_,τ,G1,_,RS.ext (S1.ext RG),R1,q1,fun vs H2 ds G2 h2 S2 R2 q2=>?_⟩
 ·rw[ij h1];exact .inl ⟨rfl,us,.of e2⟩
 ·exact L _ _ _ _ _ _ _ _ (h1.ext (S2.ext R1)) h2 R2 q2 fun v H' d G' z1 z2 z3 z4=>k v H' d G' z1 ((S1.trans S2).trans z2) z3 z4
def Lp:D->List D->Gp->V3->Prop:=fun x ds G Q=>match x,ds with
 |.obj a,[d]=>∃xs,G a=some (.lst xs)/\xs.length<ao/\Q .aF (eu G a (.lst (xs++[d])))
 |_,_=>False
theorem Tz:uJ K Lp ze:=fun x vx ds vs G H Q3 Q hx hs RG q k=>by
 rcases ds with _|⟨d,_|⟨d2,ds⟩⟩
 ·cases x<;>exact q.elim
 ·cases x with
  |obj a=>
   obtain⟨xs,e1,hz,q⟩:=q;obtain⟨us,e2,e3⟩:=RG a _ e1;obtain⟨v,rfl,hv⟩:=kD hs;rw[ij hx];refine⟨a,us,v,rfl,rfl,e2,by rw[←e3.length];exact hz,?_⟩;exact k _ _ .aF _ (by simp[Hv]) (.wrote e1) (RG.w9 e2 (e3.append (.cons hv .nil))) q
  |_=>exact q.elim
 ·cases x<;>exact q.elim
theorem Tx{r:D->List D->Gp->V3->Prop}{r2:V->List V->Hp->VK->Prop}{to:aO}(L:uJ X.K r r2)(h:PE X e (HD X.K "list" r2 (low X.K to) (uH X.K t))):cg X e (eM r to t):=jJ h fun _ _ _ z=>TB L z
def Lo:D->List D->Gp->V3->Prop:=fun x ds G Q=>match x,ds with
 |.obj a,[.int i]=>∃xs k d,G a=some (.lst xs)/\(-(2^63)≤i/\i<2^63)/\seqIndex? i xs.length=some k/\xs[k]?=some d/\Q d (eu G a (.lst (xs.eraseIdx k)))
 |_,_=>False
theorem Tw:uJ K Lo CS:=fun x vx ds vs G H Q3 Q hx hs RG q k=>by
 rcases ds with _|⟨d,_|⟨d2,ds⟩⟩
 ·cases x<;>exact q.elim
 ·cases x with
  |obj a=>
   cases d with
   |int i=>
    obtain⟨xs,j,y,e1,hb,hk,hy,q⟩:=q;obtain⟨us,e2,e3⟩:=RG a _ e1;obtain⟨v,rfl,hv⟩:=kD hs;obtain⟨w,e4,e5⟩:=e3.get hy;rw[ij hx,iX hv];refine⟨a,us,i,j,w,rfl,rfl,e2,hb.1,hb.2,by rw[←e3.length];exact hk,e4,?_⟩;exact k _ _ y _ (e5.ext (.wrote e2)) (.wrote e1) (RG.w9 e2 (e3.erase j)) q
   |_=>exact q.elim
  |_=>exact q.elim
 ·cases x with
  |obj a=>cases d<;>exact q.elim
  |_=>exact q.elim
def Ln:D->List D->Gp->V3->Prop:=fun x ds G Q=>match x,ds with
 |.obj a,[.obj b]=>∃xs ys,G a=some (.lst xs)/\G b=some (.lst ys)/\xs.length+ys.length≤ao/\Q .aF (eu G a (.lst (xs++ys)))
 |_,_=>False
theorem Tv:uJ K Ln zc:=fun x vx ds vs G H Q3 Q hx hs RG q k=>by
 rcases ds with _|⟨d,_|⟨d2,ds⟩⟩
 ·cases x<;>exact q.elim
 ·cases x with
  |obj a=>
   cases d with
   |obj b=>
    obtain⟨xs,ys,e1,e0,hz,q⟩:=q;obtain⟨us,e2,e3⟩:=RG a _ e1;obtain⟨ws,e4,e5⟩:=RG b _ e0;obtain⟨v,rfl,hv⟩:=kD hs;rw[ij hx,ij hv];refine⟨a,b,us,ws,rfl,rfl,e2,e4,by rw[←e3.length,←e5.length];exact hz,?_⟩;exact k _ _ .aF _ (by simp[Hv]) (.wrote e1) (RG.w9 e2 (e3.append e5)) q
   |_=>exact q.elim
  |_=>exact q.elim
 ·cases x with
  |obj a=>cases d<;>exact q.elim
  |_=>exact q.elim
def me(T:String)(G:Gp):D->Option Bool
 |.aF=>some false
 |.bl _=>some (T=="bool" || T=="int")
 |.int _=>some (T=="int")
 |.str _=>some (T=="str")
 |.tup _=>some (T=="tuple")
 |.gW _=>some (T=="list")
 |.dc _=>some (T=="dict")
 |.obj a=>match G a with
  |some (.lst _)=>some (T=="list")
  |some .o4=>some (T=="list")
  |some .iB=>some (T=="dict")
  |some (.gen _)=>none
  |none=>none
def rV(T:String)(ta:aO):aO:=fun τ G Q=>ta τ G fun x G1=>match me T G1 x with
 |some b=>Q (.bl b) G1
 |none=>False
end
end L3
namespace Cr
open PySem PySem.W PyProof.Rows
structure Ord(n:Nat)(lt:Nat->Nat->Bool):Prop where
 ky:∀a b,a<n->b<n->lt a b=true->lt b a=false
 fS:∀a b c,a<n->b<n->c<n->lt b a=false->lt c b=false->lt c a=false
abbrev g(p:Array Nat)(i:Nat):Nat:=p.getD i 0
structure Va(n:Nat)(p:Array Nat):Prop where
 perm:p.toList.Perm (av n)
section
variable {n:Nat} {lt:Nat->Nat->Bool} {cmp:Nat->Nat->(Bool->ζ->Prop)->ζ->Prop} {s:ζ}
theorem Va.size{p:Array Nat}(v:Va n p):p.size=n:=by
 have:=v.perm.length_eq;simpa using this
theorem Va.get{p:Array Nat}(v:Va n p){i:Nat}(hi:i<n):p[i]?=some (g p i):=by
 have h:=v.size;simp[g,vB,h,hi]
theorem Va.inr{p:Array Nat}(v:Va n p){i:Nat}(hi:i<n):g p i<n:=by
 have h:=v.get hi;have hm:g p i∈p.toList:=bG (by rw[bf];exact h);have:=v.perm.mem_iff.mp hm;simpa using this
theorem Ord.refl(O:Ord n lt){a:Nat}(ha:a<n):lt a a=false:=by
 cases h:lt a a with
 |false=>rfl
 |true=>
  have:=O.ky a a ha ha h;rw[h] at this;exact this
def So(lt:Nat->Nat->Bool)(p:Array Nat)(k:Nat):Prop:=∀i j,i≤j->j<k->lt (g p j) (g p i)=false
def Ni(lt:Nat->Nat->Bool)(p:Array Nat)(k:Nat):Prop:=∀i j,i≤j->j<k->lt (g p i) (g p j)=false
def Dh(lt:Nat->Nat->Bool)(p:Array Nat)(lo hi:Nat):Prop:=∀i j,lo≤i->i<hi->lo≤j->j<hi->lt (g p i) (g p j)=false
theorem So.one(O:Ord n lt){p:Array Nat}(v:Va n p)(hn:1≤n):So lt p 1:=fun i j h1 h2=>by
 have e1:i=0:=by lia
 have e2:j=0:=by lia
 rw[e1,e2];exact O.refl (v.inr (by lia))
theorem So.next(O:Ord n lt){p:Array Nat}(v:Va n p){a:Nat}(h1:1≤a)(ha:a<n)(S:So lt p a)(h:lt (g p a) (g p (a-1))=false):So lt p (a+1):=fun i j hij hj=>by
 by_cases hja:j<a
 ·exact S i j hij hja
 ·have e:j=a:=by lia
  subst e;by_cases hij':i=j
  ·rw[hij'];exact O.refl (v.inr ha)
  ·exact O.fS (g p i) (g p (j-1)) (g p j) (v.inr (by lia)) (v.inr (by lia)) (v.inr ha) (S i (j-1) (by lia) (by lia)) h
theorem Ni.next(O:Ord n lt){p:Array Nat}(v:Va n p){a:Nat}(h1:1≤a)(ha:a<n)(S:Ni lt p a)(h:lt (g p (a-1)) (g p a)=false):Ni lt p (a+1):=fun i j hij hj=>by
 by_cases hja:j<a
 ·exact S i j hij hja
 ·have e:j=a:=by lia
  subst e;by_cases hij':i=j
  ·rw[hij'];exact O.refl (v.inr ha)
  ·exact O.fS (g p j) (g p (j-1)) (g p i) (v.inr ha) (v.inr (by lia)) (v.inr (by lia)) h (S i (j-1) (by lia) (by lia))
theorem uz{p:Array Nat}(v:Va n p)(i j:Nat):Va n (kas_rev p i j):=⟨(mirror_perm p i j _).toList.trans v.perm⟩
theorem AF{p:Array Nat}(v:Va n p){lo hi k:Nat}(hh:hi≤n)(hk:k<n):g (kas_rev p lo hi) k=if lo≤k/\k<hi then g p (lo+hi-1-k) else g p k:=by
 have h1:=getElem?_mirror_all (xs:=p) (i:=lo) (j:=hi) (by rw[v.size];exact hh) k;have h2:=(uz v lo hi).get hk;have h3:(kas_rev p lo hi)[k]?=_:=h1;rw[h2] at h3;by_cases hc:lo≤k/\k<hi
 ·rw[if_pos hc] at h3 ⊢;rw[v.get (by lia)] at h3;exact aA h3
 ·rw[if_neg hc] at h3 ⊢;rw[v.get hk] at h3;exact aA h3
theorem EG{p:Array Nat}(v:Va n p){lo hi k:Nat}(hh:hi≤k)(hk:k≤n)(S:Ni lt p k)(e:Dh lt p lo hi):Ni lt (kas_rev p lo hi) k:=fun i j hij hj=>by
 rw[AF v (by lia) (show i<n by lia),AF v (by lia) (show j<n by lia)];by_cases hi':lo≤i/\i<hi
 ·rw[if_pos hi'];by_cases hj':lo≤j/\j<hi
  ·rw[if_pos hj'];exact e _ _ (by lia) (by lia) (by lia) (by lia)
  ·rw[if_neg hj'];exact S _ _ (by lia) hj
 ·rw[if_neg hi'];by_cases hj':lo≤j/\j<hi
  ·rw[if_pos hj'];exact S _ _ (by lia) (by lia)
  ·rw[if_neg hj'];exact S _ _ hij hj
theorem Tu{p:Array Nat}(v:Va n p){k:Nat}(hk:k≤n)(S:Ni lt p k):So lt (kas_rev p 0 k) k:=fun i j hij hj=>by
 rw[AF v hk (show i<n by lia),AF v hk (show j<n by lia),if_pos (by lia),if_pos (by lia)];exact S _ _ (by lia) (by lia)
variable (O:Ord n lt) (hc:∀i j,i<n->j<n->∀(C:Bool->ζ->Prop) (s:ζ),C (lt i j) s->cmp i j C s)
include O hc
theorem qU{p:Array Nat}(v:Va n p){G:Nat->ζ->Prop}:∀(f a:Nat),1≤a->a+f≤n->So lt p a->(∀m,a≤m->m≤a+f->So lt p m->(m=a+f∨lt (g p m) (g p (m-1))=true)->G m s)->(kas_asc p f a).kasWp cmp G s
 |0,a,_,_,S,h=>h a (υ _) (by lia) S (.inl (by lia))
 |f+1,a,h1,h2,S,h=>by
  show cmp _ _ _ s;refine hc _ _ (v.inr (by lia)) (v.inr (by lia)) _ s ?_;cases hb:lt (g p a) (g p (a-1)) with
  |true=>
   ((try dsimp only);rw[if_pos rfl])
   exact h a (υ _) (by lia) S (.inr hb)
  |false=>
   ((try dsimp only);rw[if_neg ak])
   exact qU v f (a+1) (by lia) (by lia) (S.next O v h1 (by lia) hb) fun m q1 q2 q3 q4=>h m (by lia) (by lia) q3 (by
    rcases q4 with q4|q4
    ·exact .inl (by lia)
    ·exact .inr q4)
theorem AE{G:Array Nat×Nat×Nat->ζ->Prop}:∀(f:Nat) (p:Array Nat) (a q:Nat),Va n p->q+1≤a->a+f≤n->Ni lt p a->Dh lt p (a-(q+1)) a ->
  (∀p' m q',Va n p'->a≤m->m≤a+f->q'+1≤m->Ni lt p' m->Dh lt p' (m-(q'+1)) m->G (p',m,q') s)->(kas_desc f p a q).kasWp cmp G s
 |0,p,a,q,v,h1,h2,S,e,h=>h p a q v (υ _) (by lia) h1 S e
 |f+1,p,a,q,v,h1,h2,S,e,h=>by
  show cmp _ _ _ s;refine hc _ _ (v.inr (by lia)) (v.inr (by lia)) _ s ?_;have one:∀{p':Array Nat},Va n p'->Dh lt p' (a+1-(0+1)) (a+1):=fun {p'} v' i j i1 i2 j1 j2=>by
   have e1:i=a:=by lia
   have e2:j=a:=by lia
   rw[e1,e2];exact O.refl (v'.inr (by lia))
  cases hb:lt (g p a) (g p (a-1)) with
  |true=>
   ((try dsimp only);rw[if_pos rfl])
   have S':=S.next O v (by lia) (by lia) (O.ky _ _ (v.inr (by lia)) (v.inr (by lia)) hb)
   by_cases hq:q > 0
   ·rw[if_pos hq];exact AE f _ (a+1) 0 (uz v _ _) (by lia) (by lia) (EG v (by lia) (by lia) S' e) (one (uz v _ _)) fun p' m q' r1 r2 r3 r4 r5 r6=>h p' m q' r1 (by lia) (by lia) r4 r5 r6
   ·rw[if_neg hq];exact AE f _ (a+1) 0 v (by lia) (by lia) S' (one v) fun p' m q' r1 r2 r3 r4 r5 r6=>h p' m q' r1 (by lia) (by lia) r4 r5 r6
  |false=>
   ((try dsimp only);rw[if_neg ak])
   show cmp _ _ _ s;refine hc _ _ (v.inr (by lia)) (v.inr (by lia)) _ s ?_;cases hd:lt (g p (a-1)) (g p a) with
   |true=>
    ((try dsimp only);rw[if_pos rfl])
    exact h p a q v (υ _) (by lia) h1 S e
   |false=>
    ((try dsimp only);rw[if_neg ak])
    refine AE f _ (a+1) (q+1) v (by lia) (by lia) (S.next O v (by lia) (by lia) hd) (fun i j i1 i2 j1 j2=>?_) fun p' m q' r1 r2 r3 r4 r5 r6=>h p' m q' r1 (by lia) (by lia) r4 r5 r6
    have L:∀k,k<n->g p k<n:=fun k hk=>v.inr hk;by_cases hi:i=a
    ·by_cases hj:j=a
     ·rw[hi,hj];exact O.refl (L _ (by lia))
     ·rw[hi];exact O.fS (g p j) (g p (a-1)) (g p a) (L _ (by lia)) (L _ (by lia)) (L _ (by lia)) (e (a-1) j (by lia) (by lia) (by lia) (by lia)) hb
    ·by_cases hj:j=a
     ·rw[hj];exact O.fS (g p a) (g p (a-1)) (g p i) (L _ (by lia)) (L _ (by lia)) (L _ (by lia)) hd (e i (a-1) (by lia) (by lia) (by lia) (by lia))
     ·exact e i j (by lia) (by lia) (by lia) (by lia)
theorem Lm{p:Array Nat}(v:Va n p){a:Nat}{G:Nat×Array Nat->ζ->Prop}(h1:1≤a)(h2:a≤n)(S:Ni lt p a)(h:∀m p',Va n p'->1≤m->m≤n->So lt p' m->G (m,p') s):(kas_tail3 a n p).kasWp cmp G s:=by
 unfold kas_tail3;rw[jP];exact qU O hc (uz v 0 a) (n-a) a h1 (by lia) (Tu v h2 S) fun m q1 q2 q3 _=>h m _ (uz v 0 a) (by lia) (by lia) q3
theorem Ll{p:Array Nat}(v:Va n p){a:Nat}{G:Nat×Array Nat->ζ->Prop}(h1:1≤a)(h2:a+1≤n)(S:Ni lt p (a+1))(h:∀m p',Va n p'->1≤m->m≤n->So lt p' m->G (m,p') s):(kas_descPart a n p).kasWp cmp G s:=by
 unfold kas_descPart;rw[jP];refine AE O hc (n-(a+1)) p (a+1) 0 v (by lia) (by lia) S (fun i j i1 i2 j1 j2=>?_) fun p' m q' r1 r2 r3 r4 r5 r6=>?_
 ·have e1:i=a:=by lia
  have e2:j=a:=by lia
  rw[e1,e2];exact O.refl (v.inr (by lia))
 ·dsimp only;by_cases hq:q' > 0
  ·rw[if_pos hq];exact Lm O hc (uz r1 _ _) (by lia) (by lia) (EG r1 (υ _) (by lia) r5 r6) h
  ·rw[if_neg hq];exact Lm O hc r1 (by lia) (by lia) r5 h
theorem Tt{p:Array Nat}(v:Va n p){G:Nat×Array Nat->ζ->Prop}(hn:1≤n)(h:∀m p',Va n p'->1≤m->m≤n->So lt p' m->G (m,p') s):(kas_count n p).kasWp cmp G s:=by
 unfold kas_count;rw[jP];refine qU O hc v (n-1) 1 (υ _) (by lia) (So.one O v hn) fun a q1 q2 q3 q4=>?_;have L:∀k,k<n->g p k<n:=fun k hk=>v.inr hk;by_cases e1:(a==n)=true
 ·rw[if_pos e1];exact h a p v q1 (by lia) q3
 ·rw[if_neg e1];have hne:a≠n:=fun z=>e1 (by rw[z];exact beq_self_eq_true _);have hlt:lt (g p a) (g p (a-1))=true:=by
   rcases q4 with q4|q4
   ·lia
   ·exact q4
  have hle:=O.ky _ _ (L a (by lia)) (L (a-1) (by lia)) hlt;by_cases e2:a > 1
  ·rw[if_pos e2];show cmp _ _ _ s;refine hc _ _ (v.inr (by lia)) (v.inr (by lia)) _ s ?_;cases hb:lt (g p 0) (g p (a-1)) with
   |true=>
    ((try dsimp only);rw[if_pos rfl])
    exact h a p v q1 (by lia) q3
   |false=>
    ((try dsimp only);rw[if_neg ak])
    -- all of the run are alike
    have eqv:Dh lt p 0 a:=fun i j i1 i2 j1 j2=>by
     have h1:lt (g p i) (g p 0)=false:=q3 0 i (by lia) i2;have h2:lt (g p (a-1)) (g p j)=false:=q3 j (a-1) (by lia) (by lia);have h3:lt (g p 0) (g p j)=false:=O.fS _ _ _ (L j (by lia)) (L (a-1) (by lia)) (L 0 (by lia)) h2 hb;have h4:lt (g p (a-1)) (g p i)=false:=q3 i (a-1) (by lia) (by lia);exact O.fS _ _ _ (L j (by lia)) (L 0 (by lia)) (L i (by lia)) h3 h1
    have ni:Ni lt p (a+1):=Ni.next O v (by lia) (by lia) (fun i j hij hj=>eqv i j (by lia) (by lia) (by lia) hj) hle
    exact Ll O hc (uz v _ _) (by lia) (by lia) (EG v (by lia) (by lia) ni eqv) h
  ·rw[if_neg e2];have ea:a=1:=by lia
   subst ea;refine Ll O hc v (υ _) (by lia) (Ni.next O v (by lia) (by lia) (fun i j hij hj=>?_) hle) h
   have e3:i=0:=by lia
   have e4:j=0:=by lia
   rw[e3,e4];exact O.refl (L 0 (by lia))
theorem Eu{p:Array Nat}(v:Va n p){k:Nat}(hk:k<n)(S:So lt p k){G:Nat->ζ->Prop}:∀(f l r:Nat),l≤r->r≤k->r-l≤f->(∀i,i<l->lt (g p k) (g p i)=false)->(∀i,r≤i->i<k->lt (g p k) (g p i)=true) ->
  (∀l,l≤k->(∀i,i<l->lt (g p k) (g p i)=false)->(∀i,l≤i->i<k->lt (g p k) (g p i)=true)->G l s)->(kas_place p k f l r).kasWp cmp G s
 |0,l,r,h1,h2,h3,h4,h5,h=>by
  have e:l=r:=by lia
  subst e;exact h l h2 h4 h5
 |f+1,l,r,h1,h2,h3,h4,h5,h=>by
  unfold kas_place;by_cases hlr:l≥r
  ·rw[if_pos hlr];have e:l=r:=by lia
   subst e;exact h l h2 h4 h5
  ·rw[if_neg hlr];show cmp _ _ _ s;refine hc _ _ (v.inr hk) (v.inr (by lia)) _ s ?_;have L:∀k,k<n->g p k<n:=fun k hk=>v.inr hk;cases hb:lt (g p k) (g p ((l+r) / 2)) with
   |true=>
    ((try dsimp only);rw[if_pos rfl])
    refine Eu v hk S f l ((l+r) / 2) (by lia) (by lia) (by lia) h4 (fun i i1 i2=>?_) h;by_cases hri:r≤i
    ·exact h5 i hri i2
    ·cases hx:lt (g p k) (g p i) with
     |true=>rfl
     |false=>
      have h6:lt (g p i) (g p ((l+r) / 2))=false:=S _ _ i1 i2;have:=O.fS _ _ _ (L ((l+r) / 2) (by lia)) (L i (by lia)) (L k hk) h6 hx;rw[hb] at this;exact this.symm
   |false=>
    ((try dsimp only);rw[if_neg ak])
    refine Eu v hk S f ((l+r) / 2+1) r (by lia) h2 (by lia) (fun i hi=>?_) h5 h;exact O.fS _ _ _ (L i (by lia)) (L ((l+r) / 2) (by lia)) (L k hk) (S i ((l+r) / 2) (by lia) (by lia)) hb
theorem Lj{G:Array Nat->ζ->Prop}:∀(f:Nat) (p:Array Nat) (k:Nat),Va n p->k+f=n->So lt p k->(∀p',Va n p'->So lt p' n->G p' s)->(kas_bin f p k).kasWp cmp G s
 | 0,p,k,v,hk,S,h=>h p v (by
  have e:k=n:=by lia
  rw[←e];exact S)
 |f+1,p,k,v,hk,S,h=>by
  show ((kas_place p k k 0 k).bind fun l=>kas_bin f (bubble p k (k-l)) (k+1)).kasWp cmp G s;rw[jP];refine Eu O hc v (by lia) S k 0 k (by lia) (υ _) (by lia) (fun i hi=>by lia) (fun i i1 i2=>by lia) fun l hl q1 q2=>?_;have v':Va n (bubble p k (k-l)):=⟨(bubble_perm p k (k-l)).toList.trans v.perm⟩;have L:∀k,k<n->g p k<n:=fun k hk=>v.inr hk;have bg:∀i,i<n->g (bubble p k (k-l)) i=if i=l then g p k else if l<i/\i≤k then g p (i-1) else g p i:=fun i hi=>by
   have h1:=getElem?_bubble (xs:=p) (src:=k) (by rw[v.size];lia) (k-l) (by lia) i;rw[v'.get hi,show k-(k-l)=l by lia] at h1;by_cases c1:i=l
   ·rw[if_pos c1] at h1 ⊢;rw[v.get (by lia)] at h1;exact aA h1
   ·rw[if_neg c1] at h1 ⊢;by_cases c2:l<i/\i≤k
    ·rw[if_pos c2] at h1 ⊢;rw[v.get (by lia)] at h1;exact aA h1
    ·rw[if_neg c2] at h1 ⊢;rw[v.get hi] at h1;exact aA h1
  refine Lj f _ (k+1) v' (by lia) (fun i j hij hj=>?_) h;rw[bg i (by lia),bg j (by lia)];by_cases ci:i=l
  ·rw[if_pos ci];by_cases cj:j=l
   ·rw[if_pos cj];exact O.refl (L k (by lia))
   ·rw[if_neg cj,if_pos (by lia)];exact O.ky _ _ (L k (by lia)) (L _ (by lia)) (q2 (j-1) (by lia) (by lia))
  ·rw[if_neg ci];by_cases cj:j=l
   ·rw[if_pos cj,if_neg (by lia)];exact q1 i (by lia)
   ·rw[if_neg cj];by_cases c3:l<i/\i≤k
    ·rw[if_pos c3,if_pos (by lia)];exact S (i-1) (j-1) (by lia) (by lia)
    ·rw[if_neg c3];by_cases c4:l<j/\j≤k
     ·rw[if_pos c4];exact S i (j-1) (by lia) (by lia)
     ·rw[if_neg c4];exact S i j hij (by lia)
theorem Ts{G:Array Nat->ζ->Prop}(hn:1≤n)(h:∀p,Va n p->So lt p n->G p s):(kas_sort n).kasWp cmp G s:=by
 unfold kas_sort;rw[jP];have v0:Va n (fo (av n)):=⟨by simp⟩;refine Tt O hc v0 hn fun m p' v m1 m2 S=>?_;dsimp only;by_cases hm:m<n
 ·rw[if_pos hm];have e:max m 1=m:=by lia
  rw[e];exact Lj O hc (n-m) p' m v (by lia) S h
 ·rw[if_neg hm];have e:m=n:=by lia
  subst e;exact h p' v S
end
end Cr
namespace i6
open PySem
section
variable {prog:aw} {w:aG} {A:aR} {E:δ->ζ->Prop} {s:ζ}
abbrev kQ(prog:aw)(w:aG)(h:Heap)(ks:List Int)(a:η):Prop:=IsTupleKey (intKind prog w) h ks a
end
end i6
namespace aK
open PySem PySem.W PyProof.Rows i6 Cr
def lx:List Int->List Int->Bool
 |[],[]=>false
 |[],_::_=>true
 |_::_,[]=>false
 |x::xs,y::ys=>if x=y then lx xs ys else decide (x<y)
theorem uZ:∀{x y:List Int},lx x y=true->lx y x=false
 |[],[],h=>by cases h
 |[],_::_,_=>rfl
 |_::_,[],h=>by cases h
 |x::xs,y::ys,h=>by
  unfold lx at h ⊢;by_cases e:x=y
  ·rw[if_pos e] at h;rw[if_pos e.symm];exact uZ h
  ·rw[if_neg e] at h;rw[if_neg (eU e)];have:=of_decide_eq_true h;exact decide_eq_false (by lia)
theorem uY:∀{a b c:List Int},lx b a=false->lx c b=false->lx c a=false
 |[],b,[],_,_=>rfl
 |[],[],c::cs,_,h=>h
 |[],b::bs,c::cs,h,_=>rfl
 |a::as,[],c,h,_=>by cases h
 |a::as,b::bs,[],_,h=>by cases h
 |a::as,b::bs,c::cs,h1,h2=>by
  unfold lx at h1 h2 ⊢;by_cases e1:b=a
  ·rw[if_pos e1] at h1;by_cases e2:c=b
   ·rw[if_pos e2] at h2;rw[if_pos (e2.trans e1)];exact uY h1 h2
   ·rw[if_neg e2] at h2;have:=of_decide_eq_false h2;by_cases e3:c=a
    ·lia
    ·rw[if_neg e3];exact decide_eq_false (by lia)
  ·rw[if_neg e1] at h1;have:=of_decide_eq_false h1;by_cases e2:c=b
   ·rw[if_neg (by lia)];exact decide_eq_false (by lia)
   ·rw[if_neg e2] at h2;have:=of_decide_eq_false h2;by_cases e3:c=a
    ·lia
    ·rw[if_neg e3];exact decide_eq_false (by lia)
section
variable {prog:aw} {w:aG} {A:aR} {E:δ->ζ->Prop} {s:ζ}
theorem Tr{Q:Bool->ζ->Prop}:∀(xs ys:List Int) (us vs:List δ) (i:Nat) (fin:Bool),ItemsAre (intKind prog w) xs us->ItemsAre (intKind prog w) ys vs ->
  (fin=decide (us.length<vs.length)∨∃n m,fin=decide (n+us.length<n+vs.length)/\m=n)->Q (lx xs ys) s->KatLex prog w A true fin Q (us.zip vs) i s:=by
 intro xs
 induction xs with
 |nil=>
  intro ys us vs i fin h1 h2 hf h;cases h1;cases h2 with
  |nil=>
   have:fin=false:=by
    rcases hf with hf|⟨n,m,hf,_⟩<;>simp at hf<;>exact hf
   rw[this];exact oP h
  |cons h3 h4=>
   have:fin=true:=by
    rcases hf with hf|⟨n,m,hf,_⟩<;>rw[hf]<;>simp
   rw[this];exact oP h
 |cons x xs ih=>
  intro ys us vs i fin h1 h2 hf h;cases h1 with
  |cons h1 h1'=>
  cases h2 with
  |nil=>
   have:fin=false:=by
    rcases hf with hf|⟨n,m,hf,_⟩<;>rw[hf]<;>simp
   rw[this];exact oP h
  |cons h3 h4=>
   obtain⟨t,rfl⟩:=iQ h1;obtain⟨t',rfl⟩:=iQ h3;refine kat_cons (pk ?_);unfold lx at h;rename_i _ y ys _;by_cases e:x=y
   ·rw[if_pos e] at h;have:(x==y)=true:=by simpa using e
    rw[this];refine kat_yes (ih ys _ _ (i+1) fin h1' h4 (.inr ?_) h);rcases hf with hf|⟨n,m,hf,_⟩
    ·exact⟨1,1,by rw[hf];simp[Nat.add_comm],rfl⟩
    ·exact⟨n+1,n+1,by rw[hf];congr 1;simp only[ag];apply propext;lia,rfl⟩
   ·rw[if_neg e] at h;have:(x==y)=false:=by simpa using e
    rw[this];refine kat_no ?_;by_cases hi:i=0
    ·subst hi;exact oneLt_int h
    ·have hb:(true&&i==0)=false:=by simp[hi]
     rw[hb];exact kat_one _ _ (lt_int h)
theorem Tq{Q:Bool->ζ->Prop}{x y:List Int}{a b:η}(hx:kQ prog w s.heap x a)(hy:kQ prog w s.heap y b)(h:Q (lx x y) s):π (model prog w) A (keyLt' (tuples' true) (.ref a) (.ref b)) Q E s:=by
 obtain⟨o,its,n,ho,_,hd,hi⟩:=hx;obtain⟨o',its',n',ho',_,hd',hi'⟩:=hy;exact kat_lt ho hd ho' hd' (Tr x y its.toList its'.toList 0 _ hi hi' (.inl (by simp)) h)
def uX{α:Type}(lt:α->α->Bool)(d:α)(ps:List α)(i j:Nat):Bool:=lt (ps.getD i d) (ps.getD j d)
structure ph{α:Type}(lt:α->α->Bool):Prop where
 ky:∀x y,lt x y=true->lt y x=false
 fS:∀x y z,lt y x=false->lt z y=false->lt z x=false
theorem Tp{α:Type}{lt:α->α->Bool}(O:ph lt)(d:α)(ps:List α)(n:Nat):Ord n (uX lt d ps):=⟨fun a b _ _ h=>O.ky _ _ h,fun a b c _ _ _ h1 h2=>O.fS _ _ _ h1 h2⟩
abbrev ML(x y:List Int×η):Bool:=lx x.1 y.1
abbrev fT(p:List Int×η):δ:=.ref p.2
theorem aax:ph ML:=⟨fun _ _ h=>uZ h,fun _ _ _ h1 h2=>uY h1 h2⟩
def aaX(n:Nat)(lt:Nat->Nat->Bool)(i j:Nat)(C:Bool->ζ->Prop)(s:ζ):Prop:=i<n/\j<n/\C (lt i j) s
theorem conv{α:Type}{n:Nat}{lt:Nat->Nat->Bool}{κ:cv}{vs:List δ}{Q:α->ζ->Prop}(ha:∀i j,i<n->j<n->∀C:Bool->ζ->Prop,C (lt i j) s->lE prog w A κ vs i j C s):
  ∀t:KasT α,t.kasWp (aaX n lt) Q s->t.kasWp (lE prog w A κ vs) Q s
 |.ret a,h=>h
 |.ask i j k,h=>by
  obtain⟨h1,h2,h3⟩:=h;exact ha i j h1 h2 _ (conv ha (k (lt i j)) h3)
theorem yp{α:Type}{f:α->δ}{d:α}{ps:List α}{i:Nat}(hi:i<ps.length):(ps.map f).getD i bT=f (ps.getD i d):=by
 simp[iG,hi]
theorem getD_mem{ps:List (List Int×η)}{i:Nat}(hi:i<ps.length):ps.getD i ([],0)∈ps:=by
 simp[iG,hi]
theorem To{ps:List (List Int×η)}(hk:∀p∈ps,kQ prog w s.heap p.1 p.2):∀i j,i<ps.length->j<ps.length->∀C:Bool->ζ->Prop,C (uX ML ([],0) ps i j) s->lE prog w A (tuples' true) (ps.map fT) i j C s:=fun i j hi hj C h=>by
 unfold lE;rw[yp (d:=([],0)) hi,yp (d:=([],0)) hj];exact Tq (hk _ (getD_mem hi)) (hk _ (getD_mem hj)) h
theorem Li{h:Heap}:∀{ps:List (List Int×η)},(∀p∈ps,kQ prog w h p.1 p.2/\p.1≠[])->∃fs,KatTups h (ps.map fun p=>au p.2) fs/\fs.length=ps.length/\∀v∈fs,∃i t,v=.int i t
 |[],_=>⟨[],.nil,rfl,fun v hv=>nomatch hv⟩
 |p::ps,hk=>by
  obtain⟨fs,h1,h2,h3⟩:=Li (ps:=ps) fun q hq=>hk q (χ _ hq);obtain⟨⟨o,its,n,ho,hc,hd,hi⟩,hne⟩:=hk p ο;obtain⟨ks,a⟩:=p;cases ks with
  |nil=>exact absurd rfl hne
  |cons k ks=>
   obtain⟨its⟩:=its;cases hi with
   |cons h4 h5=>
    rename_i v vs;obtain⟨t,e⟩:=iQ h4;refine⟨v::fs,tJ ho hc hd (by simp) h1,by simp[h2],fun u hu=>?_⟩;rcases ay.mp hu with q|q
    ·exact⟨k,t,q.trans e⟩
    ·exact h3 u q
theorem Tn{ps:List (List Int×η)}(hne:ps≠[])(hk:∀p∈ps,kQ prog w s.heap p.1 p.2/\p.1≠[]){Q:cv->ζ->Prop}(h:Q (tuples' true) s):π (model prog w) A (keyKind' (ps.map fT).toArray) Q E s:=by
 obtain⟨fs,h1,h2,h3⟩:=Li hk;have hl:0<fs.length:=by
  rw[h2];exact gh.mpr hne
 refine kat_kind (T:=.type "int") h1 hl (fun v hv=>?_) rfl h;obtain⟨i,t,rfl⟩:=h3 v hv;exact .now
structure ll{α:Type}(lt:α->α->Bool)(ps qs:List α):Prop where
 perm:qs.Perm ps
 rise:qs.Pairwise fun x y=>lt y x=false
abbrev Ov(ps qs:List (List Int×η)):Prop:=ll ML ps qs
theorem Tj{α:Type}{lt:α->α->Bool}{d:α}{ps:List α}{p:Array Nat}(v:Va ps.length p)(S:So (uX lt d ps) p ps.length):ll lt ps (p.toList.map fun i=>ps.getD i d):=by
 refine⟨?_,?_⟩
 ·refine (v.perm.map _).trans ?_;have:(av ps.length).map (fun i=>ps.getD i d)=ps:=by
   refine kL fun i=>?_;by_cases hi:i<ps.length
   ·simp[az,ie hi,iG,hi]
   ·rw[ef.mpr (by simpa using hi),ef.mpr (by lia)]
  rw[this]
 ·rw[bN,cM];intro i j hi hj hij;have hs:=v.size;have h1:i<ps.length:=by rw[←hs];simpa using hi
  have h2:j<ps.length:=by rw[←hs];simpa using hj
  have e1:p.toList[i]=g p i:=by
   have:=v.get h1;simp[g,vB,hs,h1]
  have e2:p.toList[j]=g p j:=by simp[g,vB,hs,h2]
  rw[e1,e2];exact S i j (ki hij) h2
theorem Ti{α:Type}{f:α->δ}{d:α}{ps:List α}{p:Array Nat}(v:Va ps.length p):(p.toList.map fun i=>(ps.map f).getD i bT)=(p.toList.map fun i=>ps.getD i d).map f:=by
 rw[aN];refine b9 fun i hi=>?_;have:i<ps.length:=by
  have:=v.perm.mem_iff.mp hi;simpa using this
 exact yp this
theorem Th{α:Type}{lt:α->α->Bool}{f:α->δ}{d:α}{κ:cv}(O:ph lt){a:η}{n:Nat}{ps:List α}{P:PySem.Fin->ζ->Prop}(ho:s.heap.get? a=some (seqObj "list" (ps.map f).toArray n))
  (hk:∀h',(∀b o,b≠a->s.heap.get? b=some o->h'.get? b=some o)->(∀(Q:cv->ζ->Prop) (E':δ->ζ->Prop),Q κ { s with heap:=h' }->π (model prog w) A (keyKind' (ps.map f).toArray) Q E' { s with heap:=h' }) ∧
   ∀i j,i<ps.length->j<ps.length->∀C:Bool->ζ->Prop,C (uX lt d ps i j) { s with heap:=h' }->lE prog w A κ (ps.map f) i j C { s with heap:=h' }) (h2:2≤ps.length) (h64:ps.length<64)
  (h:∀qs h' c,ll lt ps qs->h'.get? a=some (seqObj "list" (qs.map f).toArray c)->(∀b o,b≠a->s.heap.get? b=some o->h'.get? b=some o)->P (.done (.ret .none)) { s with heap:=h' }):
  π (model prog w) A (gm.«list.sort» ⟨[.ref a],[]⟩) P E s:=by
 have ha:a<s.heap.objs.size:=Heap.lt_size ho;have s1:=Heap.SameBut.update s.heap a (aU fun _=>(#[]:Array δ));obtain⟨e1,ho1⟩:∃e1,(s.heap.update a (aU fun _=>(#[]:Array δ))).get? a=some (seqObj "list" #[] e1):=⟨_,gB ho fun _=>#[]⟩;generalize hvs:(ps.map f)=vs at ho;have hlen:vs.length=ps.length:=by rw[←hvs,ε]
 have hu3:∀b o,b≠a->s.heap.get? b=some o->(((s.heap.update a (aU fun _=>(#[]:Array δ))).push (seqObj "tuple" vs.toArray 0)).push (seqObj "list" #[] 0)).get? b=some o:=fun b o hb e=>
  Heap.get?_push_of_some _ (Heap.get?_push_of_some _ ((s1.2 b hb).trans e))
 have ho3:(((s.heap.update a (aU fun _=>(#[]:Array δ))).push (seqObj "tuple" vs.toArray 0)).push (seqObj "list" #[] 0)).get? a=some (seqObj "list" #[] e1):=Heap.get?_push_of_some _ (Heap.get?_push_of_some _ ho1);rw[qa];refine γ (mo ho rfl ?_);refine γ (iu ho rfl ?_ (by rw[Γ,bX];lia) (aQ _));refine γ (kS ho1 rfl ?_);refine γ (ko ?_ (by show vs.length≤_;rw[bX];lia));refine γ (iq ?_ (aQ _));refine cx ?_;show π (model prog w) A _ P E { s with heap:=((s.heap.update a (aU fun _=>(#[]:Array δ))).push (seqObj "tuple" vs.toArray 0)).push (seqObj "list" #[] 0)};generalize ((s.heap.update a (aU fun _=>(#[]:Array δ))).push (seqObj "tuple" vs.toArray 0)).push (seqObj "list" #[] 0)=h3 at hu3 ho3 ⊢;obtain⟨hk1,hk2⟩:=hk h3 hu3;dsimp only;have hn2:¬vs.toArray.size<2:=by rw[Γ];lia
 rw[if_neg hn2,if_neg hn2];refine γ ?_;rw[←hvs];refine hk1 _ _ ?_;have hsort:(kas_sort vs.length).kasWp (lE prog w A κ (ps.map f)) (fun p s'=>s'={ s with heap:=h3 }/\Va ps.length p/\So (uX lt d ps) p ps.length) { s with heap:=h3 }:=by
  refine conv (lt:=uX lt d ps) (n:=ps.length) hk2 _ ?_
  rw[hlen];exact Ts (Tp O d ps ps.length) (fun i j hi hj C s' hC=>⟨hi,hj,hC⟩) (by lia) fun p v S=>⟨rfl,v,S⟩
 have hsort:(kas_sort (ps.map f).length).kasWp (lE prog w A κ (ps.map f)) (fun p s'=>s'={ s with heap:=h3 }/\Va ps.length p/\So (uX lt d ps) p ps.length) { s with heap:=h3 }:=by
  rw[hlen] at hsort;rw[ε];exact hsort
 refine γ (ee (kat_run (Q:=fun st' s'=>∃p:Array Nat,p.size=(ps.map f).length/\arrOf st'=p.map (kas_item ((ps.map f).toArray.zip (ps.map f).toArray))/\failedOf st'=none/\s'={ s with heap:=h3 }/\Va ps.length p/\So (uX lt d ps) p ps.length)
  rfl (by rw[ε];exact h2) (by rw[ε];exact h64) (fun p' st' s' a1 a2 a3 a4=>⟨p',a1,a2,a3,a4⟩) hsort) ?_ fun _ _ e=>e)
 rintro⟨⟨⟩,st'⟩ s' ⟨p,hp,har,hf,rfl,va,so⟩;dsimp only;have hout:=kat_snds rfl har;rw[Ti va] at hout;have hS:=Tj va so;generalize (p.toList.map fun i=>ps.getD i d)=qs at hout hS;have hsz:(fo (qs.map f)).size=ps.length:=by rw[Γ,ε,hS.perm.length_eq]
 rw[hout];have s2:=Heap.SameBut.update h3 a (aU fun _=>fo (qs.map f));obtain⟨c2,hc2⟩:∃c2,(h3.update a (aU fun _=>fo (qs.map f))).get? a=some (seqObj "list" (fo (qs.map f)) c2):=⟨_,gB ho3 fun _=>fo (qs.map f)⟩;refine γ (kS ho3 rfl ?_);refine γ (iu ho3 rfl ?_ (aQ _) (aD (tF hsz) (by rw[bX];lia)));rw[hf];simp only[bne_self_eq_false,cq,if_false];exact ι (h qs _ c2 hS hc2 fun b o hb e=>(s2.2 b hb).trans (hu3 b o hb e))
theorem Et{a:η}{n:Nat}{vs:List δ}{P:PySem.Fin->ζ->Prop}(ho:s.heap.get? a=some (seqObj "list" vs.toArray n))(h2:vs.length<2)
  (h:∀h' c,h'.get? a=some (seqObj "list" vs.toArray c)->(∀b o,b≠a->s.heap.get? b=some o->h'.get? b=some o)->P (.done (.ret .none)) { s with heap:=h' }):
  π (model prog w) A (gm.«list.sort» ⟨[.ref a],[]⟩) P E s:=by
 have s1:=Heap.SameBut.update s.heap a (aU fun _=>(#[]:Array δ));obtain⟨e1,ho1⟩:∃e1,(s.heap.update a (aU fun _=>(#[]:Array δ))).get? a=some (seqObj "list" #[] e1):=⟨_,gB ho fun _=>#[]⟩;have hu3:∀b o,b≠a->s.heap.get? b=some o->(((s.heap.update a (aU fun _=>(#[]:Array δ))).push (seqObj "tuple" vs.toArray 0)).push (seqObj "list" #[] 0)).get? b=some o:=fun b o hb e=>
  Heap.get?_push_of_some _ (Heap.get?_push_of_some _ ((s1.2 b hb).trans e))
 have ho3:(((s.heap.update a (aU fun _=>(#[]:Array δ))).push (seqObj "tuple" vs.toArray 0)).push (seqObj "list" #[] 0)).get? a=some (seqObj "list" #[] e1):=Heap.get?_push_of_some _ (Heap.get?_push_of_some _ ho1);rw[qa];refine γ (mo ho rfl ?_);refine γ (iu ho rfl ?_ (by rw[Γ,bX];lia) (aQ _));refine γ (kS ho1 rfl ?_);refine γ (ko ?_ (by show vs.length≤_;rw[bX];lia));refine γ (iq ?_ (aQ _));refine cx ?_;show π (model prog w) A _ P E { s with heap:=((s.heap.update a (aU fun _=>(#[]:Array δ))).push (seqObj "tuple" vs.toArray 0)).push (seqObj "list" #[] 0)};generalize ((s.heap.update a (aU fun _=>(#[]:Array δ))).push (seqObj "tuple" vs.toArray 0)).push (seqObj "list" #[] 0)=h3 at hu3 ho3 ⊢;dsimp only;have hn2:vs.toArray.size<2:=by rw[Γ];lia
 rw[if_pos hn2,if_pos hn2];refine γ (ι ?_);rw[StateT.run_pure];refine γ (ι ?_);dsimp only;have hout:(arrOf (r9 general' (vs.toArray.zip vs.toArray) #[] 7 none)).map (·.2)=vs.toArray:=by
  show (vs.toArray.zip vs.toArray).map (·.2)=vs.toArray;refine Array.ext (by simp) fun i h1 h2=>?_;simp
 rw[hout];have s2:=Heap.SameBut.update h3 a (aU fun _=>vs.toArray);obtain⟨c2,hc2⟩:∃c2,(h3.update a (aU fun _=>vs.toArray)).get? a=some (seqObj "list" vs.toArray c2):=⟨_,gB ho3 fun _=>vs.toArray⟩;refine γ (kS ho3 rfl ?_);refine γ (iu ho3 rfl ?_ (aQ _) (by rw[Γ,bX];lia));simp only[bne_self_eq_false,cq,if_false];exact ι (h _ c2 hc2 fun b o hb e=>(s2.2 b hb).trans (hu3 b o hb e))
theorem Tg{h h':Heap}{ks:List Int}{a:η}(keep:∀c o,h.get? c=some o->h'.get? c=some o)(hk:kQ prog w h ks a):kQ prog w h' ks a:=by
 obtain⟨o,it,m,ho,r⟩:=hk;exact⟨o,it,m,keep a o ho,r⟩
theorem Lh{α:Type}{lt:α->α->Bool}{f:α->δ}{d:α}{κ:cv}(O:ph lt){l:η}{ps:List α}{Q:δ->ζ->Prop}
  (hk:∀s':ζ,2≤ps.length->(∀b o,s.heap.get? b=some o->s'.heap.get? b=some o)->(∀(Q:cv->ζ->Prop) (E':δ->ζ->Prop),Q κ s'->π (model prog w) A.in1.in1 (keyKind' (ps.map f).toArray) Q E' s') ∧
   ∀i j,i<ps.length->j<ps.length->∀C:Bool->ζ->Prop,C (uX lt d ps i j) s'->lE prog w A.in1.in1 κ (ps.map f) i j C s') (h64:ps.length<64)
  (rP:∀(R:List δ->ζ->Prop),(∀s',gq [] (fun x y=>y=x) s s'->R (ps.map f) s')->π (model prog w) A.in1 (collect (.ref l)) R E s)
  (h:∀qs s' c D,ll lt ps qs->s.heap.get? D=none->s'.heap.get? D=some (seqObj "list" (qs.map f).toArray c)->gq [] (fun x y=>y=x) s s'->Q (.ref D) s'):
  π (model prog w) A (call (.builtin "sorted") [.ref l]) Q E s:=by
 refine jS kind_sorted plain_sorted entry_sorted (args_sorted1 _) ?_;unfold gm.«sorted»;refine γ (m:=checkCount "sorted" 1 1 _) (ι ?_);refine γ (rP _ fun s1 hm=>?_);refine γ (iq ?_ (by rw[ε,bX];lia));have hoL:(s1.heap.push (seqObj "list" (ps.map f).toArray 0)).get? s1.heap.objs.size=some (seqObj "list" (ps.map f).toArray 0):=Heap.get?_push_size _ rfl;have keep0:∀b o,s.heap.get? b=some o->s1.heap.get? b=some o:=fun b o e=>hm.heap b o (fun z=>nomatch z) e;have hfr:s.heap.get? s1.heap.objs.size=none:=by
  cases hz:s.heap.get? s1.heap.objs.size with
  |none=>rfl
  |some o=>exact absurd (Heap.lt_size (keep0 _ _ hz)) (cU _)
 have keep:∀b o,s.heap.get? b=some o->(s1.heap.push (seqObj "list" (ps.map f).toArray 0)).get? b=some o:=fun b o e=>Heap.get?_push_of_some _ (keep0 b o e);show π _ _ _ _ _ { s1 with heap:=s1.heap.push (seqObj "list" (ps.map f).toArray 0)};refine γ (cx (bU qW ⟨_,hoL,rfl⟩ qb ?body (qX _)));have fin:∀qs h' c,ll lt ps qs->h'.get? s1.heap.objs.size=some (seqObj "list" (qs.map f).toArray c)->(∀b o,b≠s1.heap.objs.size->(s1.heap.push (seqObj "list" (ps.map f).toArray 0)).get? b=some o->h'.get? b=some o)->Q (.ref s1.heap.objs.size) { s1 with heap:=h' }:=fun qs h' c hS e kk=>
  h qs _ c _ hS hfr e ⟨fun b o _ e1=>kk b o (aX (Heap.lt_size (keep0 b o e1))) (keep b o e1),hm.gens,hm.drawn,hm.os,hm.toks⟩
 case body=>
  by_cases h2:2≤ps.length
  ·refine Th O (s:={ s1 with heap:=s1.heap.push (seqObj "list" (ps.map f).toArray 0)}) hoL (fun h' kk=>hk { s1 with heap:=h' } h2 fun b o e=>kk b o (aX (Heap.lt_size (keep0 b o e))) (keep b o e)) h2 h64 fun qs h' c hS e kk=>?_;exact⟨_,rfl,ι ⟨_,rfl,fin qs h' c hS e kk⟩⟩
  ·refine Et (s:={ s1 with heap:=s1.heap.push (seqObj "list" (ps.map f).toArray 0)}) hoL (by rw[ε];lia) fun h' c e kk=>?_;have hS:ll lt ps ps:=⟨.refl _,by
    rcases ps with _|⟨x,_|⟨y,r⟩⟩
    ·exact .nil
    ·exact aT _ _
    ·simp at h2⟩
   exact⟨_,rfl,ι ⟨_,rfl,fin ps h' c hS e kk⟩⟩
theorem wA{l:η}{ps:List (List Int×η)}{Q:δ->ζ->Prop}(hk:∀p∈ps,kQ prog w s.heap p.1 p.2/\p.1≠[])(h64:ps.length<64)
  (rP:∀(R:List δ->ζ->Prop),(∀s',gq [] (fun x y=>y=x) s s'->R (ps.map fT) s')->π (model prog w) A.in1 (collect (.ref l)) R E s)
  (h:∀qs s' c D,Ov ps qs->s.heap.get? D=none->s'.heap.get? D=some (seqObj "list" (qs.map fT).toArray c)->gq [] (fun x y=>y=x) s s'->Q (.ref D) s'):
  π (model prog w) A (call (.builtin "sorted") [.ref l]) Q E s:=by
 refine Lh (κ:=tuples' true) (d:=([],0)) aax (fun s' h2 kk=>?_) h64 rP h;have hk':∀p∈ps,kQ prog w s'.heap p.1 p.2/\p.1≠[]:=fun p hp=>⟨Tg kk (hk p hp).1,(hk p hp).2⟩;exact⟨fun Q E q=>Tn (fun z=>by rw[z] at h2;simp at h2) hk' q,To fun p hp=>(hk' p hp).1⟩
end
end aK
namespace L3
open PySem PySem.Spec PyProof.Rows L2
structure yM(T:String):Prop where
 aF:∀K,PySem.W.kitOne K (.type "NoneType") (.type T)=some false
 bl:∀K,PySem.W.kitOne K (.type "bool") (.type T)=some (T=="bool" || T=="int")
 int:∀K,PySem.W.kitOne K (.type "int") (.type T)=some (T=="int")
 str:∀K,PySem.W.kitOne K (.type "str") (.type T)=some (T=="str")
 tup:∀K,PySem.W.kitOne K (.type "tuple") (.type T)=some (T=="tuple")
 lst:∀K,PySem.W.kitOne K (.type "list") (.type T)=some (T=="list")
 iB:∀K,PySem.W.kitOne K (.type "dict") (.type T)=some (T=="dict")
theorem T6:yM "int":=⟨fun _=>rfl,fun _=>rfl,fun _=>rfl,fun _=>rfl,fun _=>rfl,fun _=>rfl,fun _=>rfl⟩
theorem T5:yM "bool":=⟨fun _=>rfl,fun _=>rfl,fun _=>rfl,fun _=>rfl,fun _=>rfl,fun _=>rfl,fun _=>rfl⟩
theorem kit_tuple:yM "tuple":=⟨fun _=>rfl,fun _=>rfl,fun _=>rfl,fun _=>rfl,fun _=>rfl,fun _=>rfl,fun _=>rfl⟩
theorem T4:yM "list":=⟨fun _=>rfl,fun _=>rfl,fun _=>rfl,fun _=>rfl,fun _=>rfl,fun _=>rfl,fun _=>rfl⟩
section
variable {X:Cx} {a e:ρ} {es:List ρ} {ta:aO} {t:dF} {pos p p2:aP}
theorem T2{T:String}(k:yM T):gP X (.builtin "isinstance") (fun vs H Q=>∃d v G b,vs=[v,.ty T]/\Hv X.K H d v/\bB X.K G H/\me T G d=some b/\Q (.bl b) H):=by
 intro pins s σ H vs us Q I r h;obtain⟨d,v,G,b,rfl,hd,RG,hb,q⟩:=h;obtain⟨u,c,rfl,ru,rc⟩:=vals2 r;cases (show c=kq T from rc);have fin:∀tk,EP X pins σ Q (.bool b) { s with toks:=tk }:=fun tk=>⟨.bl b,H,I.tok tk,rfl,q⟩
 cases d with
 |aF=>
  unfold Hv at hd;subst hd;cases (show u=bT from ru);cases hb;exact PySem.W.kia_one PySem.W.kitx_none I.oi oH (k.aF _) (fun z=>nomatch z) fin
 |bl y=>
  rw[x9 hd] at ru;cases (show u=fw y from ru);cases hb;exact PySem.W.kia_one PySem.W.kitx_bool I.oi oH (k.bl _) (fun z=>nomatch z) fin
 |int y=>
  rw[iX hd] at ru;obtain⟨t,rfl⟩:=(show ∃t,u=eF y t from ru);cases hb;exact PySem.W.kia_one PySem.W.kitx_int I.oi oH (k.int _) (fun z=>nomatch z) fin
 |str y=>
  unfold Hv at hd;subst hd;obtain⟨t,rfl⟩:=(show ∃t,u=δ.str y t from ru);cases hb;exact PySem.W.kia_one PySem.W.kitx_str I.oi oH (k.str _) (fun z=>nomatch z) fin
 |tup ds=>
  obtain⟨x,xs,rfl,e1,_⟩:=kx hd;cases (show u=au x from ru);cases hb;obtain⟨its,_,⟨o,h1,h2,_⟩,_⟩:=I.tuple e1;exact PySem.W.kia_one PySem.W.kitx_tuple I.oi ⟨o,h1,h2⟩ (k.tup _) (fun z=>nomatch z) fin
 |gW ds=>
  obtain⟨x,xs,rfl,e1,_⟩:=uA hd;cases (show u=au x from ru);cases hb;obtain⟨its,_,p1,_⟩:=I.list e1.l;obtain⟨o,h1,h2,_⟩:=p1.isList;exact PySem.W.kia_one PySem.W.kitx_list I.oi ⟨o,h1,h2⟩ (k.lst _) (fun z=>nomatch z) fin
 |dc x=>
  unfold Hv at hd;obtain⟨rfl,ob,φ,e1,c⟩:=hd;cases (show u=au x from ru);cases hb;obtain⟨h1,_⟩:=I.cB x _ e1;exact PySem.W.kia_one PySem.W.kitx_dict I.oi ⟨ob,h1,c⟩ (k.iB _) (fun z=>nomatch z) fin
 |obj x=>
  rw[ij hd] at ru;cases (show u=au x from ru);unfold me at hb;cases hG:G x with
  |none=>simp[hG] at hb
  |some o=>
   have hl:∀xs,H x=some (.lst xs)->∃o,s.heap.get? x=some o/\o.cls=.type "list":=fun xs e=>by
    obtain⟨_,_,n,_,h1⟩:=(show fX X.prog X.w H s.heap x (.lst xs) from I.cB x _ e);exact⟨_,h1,rfl⟩
   cases o with
   |lst ds=>
    simp only[hG] at hb;cases hb;obtain⟨vs,e1,_⟩:=RG x _ hG;obtain⟨o,h1,h2⟩:=hl _ e1;exact PySem.W.kia_one PySem.W.kitx_list I.oi ⟨o,h1,h2⟩ (k.lst _) (fun z=>nomatch z) fin
   |o4=>
    simp only[hG] at hb;cases hb;obtain⟨_,_,_,e1,_⟩:=RG x _ hG;obtain⟨o,h1,h2⟩:=hl _ e1;exact PySem.W.kia_one PySem.W.kitx_list I.oi ⟨o,h1,h2⟩ (k.lst _) (fun z=>nomatch z) fin
   |gen R=>simp[hG] at hb
   |iB=>
    simp only[hG] at hb;cases hb;have e1:H x=some (.ext fun h=>∃o,h.get? x=some o/\o.cls=.type "dict"):=RG x _ hG;obtain⟨⟨o,h1,h2⟩,_⟩:=(show fX X.prog X.w H s.heap x _ from I.cB x _ e1);exact PySem.W.kia_one PySem.W.kitx_dict I.oi ⟨o,h1,h2⟩ (k.iB _) (fun z=>nomatch z) fin
theorem TZ{T:String}{TS:Ξ}(k:yM T)(hv:g6 TS=some (.type T))(ha:cg X a ta)(hm:X.mg "isinstance" = none)(hm2:X.mg TS=none)(hgT:Gl X TS)(hnT:TS≠"__name__")(hdT:(TS==("__debug__":Ξ))=false)(hg:Gl X "isinstance":=by rfl)
  (he:notStar a=true:=by rfl):
  cg X (.Call (.Name "isinstance" p) [a,.Name TS p2] [] pos) (rV T ta):=
 jJ (lh (T2 k) hg hm rfl (yd ha (yd (WG (v:=.ty T) hgT hm2 hv rfl hnT hdT) A1 (gs rfl)) (gs he)) (he:=gs he) (hpl:=ma rfl)) fun σ H Q zz=>by
  obtain⟨τ,G,Q3,RS,RG,h,k⟩:=zz;refine⟨τ,G,_,RS,RG,h,fun v H1 d G1 h1 S1 R1 q1=>?_⟩;cases hb:me T G1 d with
  |none=>rw[hb] at q1;exact q1.elim
  |some b=>
   rw[hb] at q1;exact⟨d,v,G1,b,rfl,h1,R1,hb,k _ H1 (.bl b) G1 lb S1 R1 q1⟩
end
def tupI(ns:List Int):D:=.tup (ns.map D.int)
section
variable {P:aw} {w:aG} {H:Hp} {h:Heap} {a:η} {o:HO}
theorem TY(x:fX P w H h a o):∃o,h.get? a=some o:=by
 cases o with
 |lst xs=>obtain⟨_,_,_,_,e⟩:=x;exact⟨_,e⟩
 |tup xs=>obtain⟨_,_,_,o,e,_⟩:=x;exact⟨_,e⟩
 |dK kvs=>obtain⟨_,_,_,_,o,_,_,e,_⟩:=x;exact⟨_,e⟩
 |dT kvs=>obtain⟨_,_,_,_,o,_,_,e,_⟩:=x;exact⟨_,e⟩
 |set S n=>obtain⟨o,_,_,_,e,_⟩:=x;exact⟨_,e⟩
 |ins C dx fs=>obtain⟨_,_,_,e,_⟩:=x;exact⟨_,e⟩
 |own y=>obtain⟨_,e⟩:=x;exact⟨_,e⟩
 |xd fs=>obtain⟨_,⟨_,_,_,e,_⟩,_⟩:=x;exact⟨_,e⟩
 |FD lo hi=>obtain⟨_,_,_,e⟩:=x;exact⟨_,e⟩
 |iO ob u=>obtain⟨e,_⟩:=x;exact⟨_,e⟩
 |wz ps=>exact⟨_,(show h.get? a=some _ from x)⟩
 |met f y=>exact⟨_,(show h.get? a=some _ from x)⟩
 |ext φ=>obtain⟨_,⟨_,e⟩,_⟩:=x;exact⟨_,e⟩
end
section
variable {X:Cx} {pins:List (η×br)} {σ:L2.St} {H:Hp} {s:ζ}
theorem Inv.tR(I:Inv X pins σ H s){a:η}(hn:s.heap.get? a=none):H a=none:=by
 cases e:H a with
 |none=>rfl
 |some o=>
  obtain⟨ob,h⟩:=TY (I.cB a o e);rw[hn] at h;cases h
theorem Inv.u4{a:η}{o:HO}{t':Nat}{h':Heap}(I:Inv X pins σ H s)(k:∀b u,s.heap.get? b=some u->h'.get? b=some u)(hn:s.heap.get? a=none)(new:fX X.prog X.w (upd H a o) h' a o):
  Inv X pins σ (upd H a o) { s with heap:=h',toks:=t' }:=by
 have hH:=Inv.tR I hn;have ne:∀b u,s.heap.get? b=some u->b≠a:=fun b u e z=>by rw[z,hn] at e;cases e
 refine I.un ⟨fun b u q _ _ _=>k b u q,fun b u q _ _ _=>⟨u.slots,k b u q⟩,fun b u q n _=>by rw[fi (ne b u q)];exact n,fun b u q _=>⟨u,k b u q⟩,fun b xs q=>by rw[fi (mU q hH)];exact q,
  fun b u xs q=>by rw[fi (mU q hH)];exact q,fun b ps q=>⟨#[],by rw[fi (mU q hH),q];simp⟩⟩ fun b u e=>?_
 by_cases hb:b=a
 ·subst hb;rw[jW] at e;cases e;exact new
 ·rw[fi hb] at e;exact (I.cB b u e).sE (fun c v _ q=>k c v q) (fun c q=>by rw[fi (mU q hH)];exact q) fun c xs q=>by rw[fi (mU q hH)];exact q
theorem AD{ns:List Int}:∀{us:List δ},bo (ns.map V.int) us->ItemsAre (intKind X.prog X.w) ns us:=by
 induction ns with
 |nil=>intro us r;cases r;exact .nil
 |cons n ns ih=>
  intro us r;cases r with
  |cons r1 r2=>
   obtain⟨t,rfl⟩:=(show ∃t,_=eF n t from r1);exact .cons (by show qA n (.int n t)=true;simp[qA]) (ih r2)
theorem AB(I:Inv X pins σ H s):∀{nss:List (List Int)} {vs:List V} {us:List δ},aI X.K H (nss.map tupI) vs->bo vs us ->
  ∃ps:List (List Int×η),ps.map (·.1)=nss/\vs=ps.map (fun p=>.ref p.2)/\us=ps.map (fun p=>au p.2)/\∀p∈ps,cK X.K H p.2 (p.1.map V.int)/\i6.kQ X.prog X.w s.heap p.1 p.2
 |[],vs,us,h,r=>by
  cases h.iJ;cases r;exact⟨[],rfl,rfl,rfl,fun p hp=>nomatch hp⟩
 |ns::nss,vs,us,h,r=>by
  obtain⟨v,vr,rfl,q1,q2⟩:=h.inv;cases r with
  |cons r1 r2=>
   obtain⟨ps,e1,e2,e3,e4⟩:=AB I q2 r2;obtain⟨a,ws,rfl,z1,z2⟩:=kx q1;have hw:ws=ns.map V.int:=by
    refine lR z2 ?_;clear z2 z1 q1 h e1 e2 e3 e4 q2 r2 r1
    induction ns with
    |nil=>rfl
    |cons n ns ih=>simp[intsOf,ih]
   subst hw;cases (show _=au a from r1);obtain⟨its,rv,⟨o,h1,h2,n,h3⟩,_⟩:=I.tuple z1;refine⟨(ns,a)::ps,by simp[e1],by simp[e2],by simp[e3],fun p hp=>?_⟩;rcases ay.mp hp with rfl|hp
   ·exact⟨z1,o,its.toArray,n,h1,h2,h3,AD rv⟩
   ·exact e4 p hp
theorem Es{K:PySem.W.Frag}{H:Hp}:∀{qs:List (List Int×η)},(∀p∈qs,cK K H p.2 (p.1.map V.int))->aI K H ((qs.map (·.1)).map tupI) (qs.map fun p=>.ref p.2)
 |[],_=>.nil
 |q::qs,h=>.cons (qp (h q ο) (aI.ints _)) (Es fun p hp=>h p (χ _ hp))
theorem LU:∀(qs:List (List Int×η)),bo (qs.map fun p=>V.ref p.2) (qs.map fun p=>au p.2)
 |[]=>.nil
 |q::qs=>.cons rfl (LU qs)
def mi(nss:List (List Int)):Prop:=nss.Pairwise fun x y=>aK.lx y x=false
theorem LS{Q:VK}(I:Inv X pins σ H s){ps qs:List (List Int×η)}{s':ζ}{c:Nat}{D':η}(hz:ps.length<64)(hS:aK.Ov ps qs)(hn:s.heap.get? D'=none)(hD:s'.heap.get? D'=some (seqObj "list" (qs.map fun p=>au p.2).toArray c))
  (hm:gq [] (fun x y=>y=x) s s') (q:H D'=none->Q (.ref D') (upd H D' (.lst (qs.map fun p=>.ref p.2)))):EP X pins σ Q (.ref D') s':=by
 have e:s'={ s with heap:=s'.heap,toks:=s'.toks }:=by
  cases s';cases s;have h1:=hm.gens;have h2:=hm.drawn;have h3:=hm.os;simp only at h1 h2 h3;subst h1 h2 h3;rfl
 rw[e];refine⟨.ref D',_,Inv.u4 I (o:=.lst (qs.map fun p=>.ref p.2)) (fun b u z=>hm.heap b u (fun y=>nomatch y) z) hn ?_,rfl,q (Inv.tR I hn)⟩;refine⟨?_,_,c,LU qs,hD⟩;rw[ε,hS.perm.length_eq,bX];lia
theorem TX(hc:X.calm=true)(hu:X.A.units+64<cLine):gP X (.builtin "sorted") (fun vs H Q=>∃(a:η) (xs:List V) (nss:List (List Int)),vs=[.ref a]/\eN X.K H a xs/\aI X.K H (nss.map tupI) xs/\nss.length<64/\(∀ns∈nss,ns≠[]) ∧
  ∀(p:η) (mss:List (List Int)) (ys:List V),H p=none->mss.Perm nss->mi mss->aI X.K H (mss.map tupI) ys->Q (.ref p) (upd H p (.lst ys))):=by
 intro pins s σ H vs us Q I r h;obtain⟨a,xs,nss,rfl,hl,hv,hz,hne,q⟩:=h;obtain⟨u,rfl,ru⟩:=vals1 r;cases ru;obtain⟨its,rv,pl,_⟩:=I.list hl;obtain⟨ps,e1,e2,e3,e4⟩:=AB I hv rv;subst e3;have hlen:ps.length=nss.length:=by rw[←e1,ε]
 refine aK.wA (ps:=ps) (fun p hp=>⟨(e4 p hp).2,hne _ (by rw[←e1];exact aE.mpr ⟨p,hp,rfl⟩)⟩) (by lia) (fun R hR=>?_) fun qs s' c D' hS hn hD hm=>?_
 ·refine pB pl.isList (hR _ ⟨fun b o _ e=>?_,rfl,rfl,rfl,υ _⟩) (by rw[ε,bX];lia);have hlt:=Heap.lt_size e;show ((s.heap.push (seqObj "list" #[] 0)).update s.heap.objs.size _).get? b=some o;rw[Heap.get?_update_other _ _ (b0 hlt)];exact Heap.get?_push_of_some _ e
 ·refine LS I (by lia) hS hn hD hm fun hf=>?_;refine q _ (qs.map (·.1)) _ hf (by rw[←e1];exact hS.perm.map _) ?_ (Es fun p hp=>(e4 p (hS.perm.mem_iff.mp hp)).1);exact bN.mpr hS.rise
end
end L3
namespace L3
open PySem PySem.Spec PyProof.Rows L2
theorem qr{α β:Type}{f:α->β}{l l':List β}(h:l.Perm l'):∀{zs:List α},l'=zs.map f->∃zs':List α,zs'.Perm zs/\l=zs'.map f:=by
 induction h with
 |nil=>
  intro zs e;have:zs=[]:=by simpa using e.symm
  subst this;exact⟨[],.nil,rfl⟩
 |cons x _ ih=>
  intro zs e;cases zs with
  |nil=>cases e
  |cons z zs=>
   simp only[aZ,vz] at e;obtain⟨zs',h1,h2⟩:=ih e.2;exact⟨z::zs',h1.cons z,by simp[e.1,h2]⟩
 |swap x y l=>
  intro zs e;rcases zs with _|⟨z,_|⟨z2,zs⟩⟩
  ·cases e
  ·simp at e
  ·simp only[aZ,vz] at e;exact⟨z2::z::zs,.swap _ _ _,by simp[e.1,e.2.1,e.2.2]⟩
 |trans _ _ ih1 ih2=>
  intro zs e;obtain⟨z2,h1,h2⟩:=ih2 e;obtain⟨z1,h3,h4⟩:=ih1 h2;exact⟨z1,h3.trans h1,h4⟩
section
variable {X:Cx} {K:PySem.W.Frag} {e:ρ} {es:List ρ} {t:dF} {ta:aO} {pos p p' pos':aP}
def yo:C3:=fun ds G Q=>match ds with
 |[.obj a]=>∃nss:List (List Int),G a=some (.lst (nss.map tupI))/\nss.length<64/\(∀ns∈nss,ns≠[])/\∀(p:η) (mss:List (List Int)) (G':Gp),eQ G p (.lst (mss.map tupI)) G'->mss.Perm nss->mi mss->Q (.obj p) G'
 |_=>False
theorem TV:lq K yo (fun vs H Q=>∃(a:η) (xs:List V) (nss:List (List Int)),vs=[.ref a]/\eN K H a xs/\aI K H (nss.map tupI) xs/\nss.length<64/\(∀ns∈nss,ns≠[]) ∧
  ∀(p:η) (mss:List (List Int)) (ys:List V),H p=none->mss.Perm nss->mi mss->aI K H (mss.map tupI) ys->Q (.ref p) (upd H p (.lst ys))):=fun ds vs G H Q3 Q h RG q k=>by
 rcases ds with _|⟨d,_|⟨d2,ds⟩⟩
 ·exact q.elim
 ·obtain⟨v,rfl,hv⟩:=kD h;cases d with
  |obj a=>
   obtain⟨nss,e1,hz,hne,q⟩:=q;obtain⟨xs,e2,e3⟩:=RG a _ e1;rw[ij hv];exact⟨a,xs,nss,rfl,.of e2,e3,hz,hne,fun p mss ys hp h1 h2 h3=>k _ _ (.obj p) _ oZ (.iP hp) (RG.qt hp h3) (q p mss _ (.mk' (RG.free hp)) h1 h2)⟩
  |_=>exact q.elim
 ·cases d<;>exact q.elim
theorem TU(hu:X.A.units+64<cLine)(hm:X.mg "sorted" = none)(ha:kO X (e::es) t)(hc:X.calm=true:=by rfl)(hg:Gl X "sorted":=by rfl)(he:notStar e=true:=by rfl)(hpl:es.all notStar=true:=by rfl):
  cg X (.Call (.Name "sorted" p) (e::es) [] pos) (cF yo t):=mh TV (lh (TX hc hu) hg hm rfl ha (he:=gs he) (hpl:=ma hpl))
def rY:List D->Option (List Bool)
 |[]=>some []
 |.bl b::r=>(rY r).map (b::·)
 |_::_=>none
theorem LR{H:Hp}:∀{ds:List D} {vs:List V} {bs:List Bool},aI K H ds vs->rY ds=some bs->vs=bs.map V.bl
 |[],vs,ns,h,e=>by
  cases e;exact h.iJ
 |d::ds,vs,ns,h,e=>by
  cases d with
  |bl i=>
   obtain⟨v,r,rfl,z1,z2⟩:=h.inv;unfold rY at e;cases hm:rY ds with
   |none=>rw[hm] at e;cases e
   |some ms=>
    rw[hm] at e;cases e;rw[x9 z1,LR z2 hm];rfl
  |_=>cases e
theorem LQ:∀{bs:List Bool} {us:List δ},bo (bs.map V.bl) us->us=bs.map fw
 |[],_,.nil=>rfl
 |b::bs,_,.cons r rr=>by
  rw[(show _=fw b from r),LQ rr];rfl
theorem range_all(bs:List Bool):(av bs.length).all (fun i=>bs.getD i false)=bs.all id:=by
 rw[dI];simp only[eJ,cm,id_eq];constructor
 ·intro h b hb;obtain⟨i,hi,rfl⟩:=List.mem_iff_getElem.mp hb;have:=h i hi;simpa [iG,hi] using this
 ·intro h i hi;have:=h bs[i] (eH hi);simpa [iG,hi] using this
theorem AA(hc:X.calm=true){pins:List (η×br)}{s:ζ}{σ:L2.St}{H:Hp}{a:η}{xs:List V}{E:δ->ζ->Prop}(I:Inv X pins σ H s)(hl:eN X.K H a xs){Q:δ->ζ->Prop}
  (q:∀(its:List δ) (I':η),bo xs its->WalksS X.prog X.w X.A.in1 I' [I',a] [I'] (fun x y=>y=x) its.length (fun i v=>its[i]?=some v) (fun i s=>s.heap.IsListIter I' a i/\s.heap.IsList a its.toArray) ->
   (s.heap.push { cls:=.type "list_iterator",data:=.fields #[.ref a,.int 0 0]}).IsListIter I' a 0->(s.heap.push { cls:=.type "list_iterator",data:=.fields #[.ref a,.int 0 0]}).IsList a its.toArray ->
   (∀b∈[I',a],b<(s.heap.push { cls:=.type "list_iterator",data:=.fields #[.ref a,.int 0 0]}).objs.size) ->
   (∀s',gq [I'] (fun x y=>y=x) { s with heap:=s.heap.push { cls:=.type "list_iterator",data:=.fields #[.ref a,.int 0 0]}} s'->Inv X pins σ H s')->Q (.ref I') { s with heap:=s.heap.push { cls:=.type "list_iterator",data:=.fields #[.ref a,.int 0 0]}}):
  π (model X.prog X.w) X.A.in1 (pyIter (.ref a)) Q E s:=by
 obtain⟨its,rv,pl,_⟩:=I.list hl;have hla:a<s.heap.objs.size:=by
  obtain⟨o,h1,_⟩:=pl.isList;exact Heap.lt_size h1
 refine wpAny_pyIter_list pl.isList ?_;have hW:=(Walks.list (prog:=X.prog) (w:=X.w) (A:=X.A.in1) (by have:=I.ok.hd hc;simpa using this) s.heap.objs.size a (aX hla) its.toArray).toS;refine q its s.heap.objs.size rv (by simpa using hW) ⟨_,Heap.get?_push_size _ rfl,rfl,rfl⟩ ?_ ?_ fun s' hm=>?_
 ·obtain⟨o,h1,h2⟩:=pl.isList;exact⟨o,Heap.get?_push_of_some _ h1,h2⟩
 ·intro b hb;rw[size_push'];rcases ay.mp hb with e|e
  ·rw[e];exact Nat.lt_succ_self _
  ·have:b=a:=by simpa using e
   rw[this];exact oq hla
 ·have e:s'={ s with heap:=s'.heap,toks:=s'.toks }:=by
   cases s';cases s;have h1:=hm.gens;have h2:=hm.drawn;have h3:=hm.os;simp only at h1 h2 h3;subst h1 h2 h3;rfl
  rw[e];exact I.kept fun b u z=>hm.heap b u (fun y=>by
   have:b=s.heap.objs.size:=by simpa using y
   exact absurd (this▸Heap.lt_size z) (cU _)) (Heap.get?_push_of_some _ z)
theorem TR(hc:X.calm=true):gP X (.builtin "all") (fun vs H Q=>∃(a:η) (bs:List Bool),vs=[.ref a]/\eN X.K H a (bs.map V.bl)/\Q (.bl (bs.all id)) H):=by
 intro pins s σ H vs us Q I r h;obtain⟨a,bs,rfl,hl,q⟩:=h;obtain⟨u,rfl,ru⟩:=vals1 r;cases ru;refine call_all_walkS (AA hc I hl fun its I' rv W h1 h2 h3 back=>⟨I',_,_,_,_,_,_,fun i=>bs.getD i false,rfl,W,⟨h1,h2⟩,?_,fun s' hm=>?_⟩)
 ·intro i v s' Q' E' hv hq;have hx:=LQ rv;subst hx;rw[az] at hv;cases hb:bs[i]? with
  |none=>rw[hb] at hv;cases hv
  |some b=>
   rw[hb] at hv;cases hv;have:bs.getD i false=b:=by simp[iG,hb]
   dsimp only at hq;rw[this] at hq;exact eZ hq
 ·have:its.length=bs.length:=by rw[←rv.length,ε]
  rw[this,range_all];exact⟨.bl (bs.all id),H,back s' hm,rfl,q⟩
theorem LP(ns:List Int):∀k,k≤ns.length->preSum (fun i=>ns.getD i 0) k=(ns.take k).sum
 |0,_=>by simp[preSum]
 |k+1,hk=>by
  rw[preSum,LP ns k (by lia),List.take_succ,qd];have:k<ns.length:=by lia
  simp[iG,this]
theorem S0(hc:X.calm=true):gP X (.builtin "sum") (fun vs H Q=>∃(a:η) (ns:List Int),vs=[.ref a]/\eN X.K H a (ns.map V.int)/\Q (.int ns.sum) H):=by
 intro pins s σ H vs us Q I r h;obtain⟨a,ns,rfl,hl,q⟩:=h;obtain⟨u,rfl,ru⟩:=vals1 r;cases ru;refine call_sum_walkAnyS (AA hc I hl fun its I' rv W h1 h2 h3 back=>⟨I',_,_,_,_,_,_,fun i=>ns.getD i 0,rfl,W,⟨h1,h2⟩,h3,?_,fun s' t' hm=>?_⟩)
 ·intro i v hv;have hi:i<ns.length:=by
   have h4:its.length=ns.length:=by rw[←rv.length,ε]
   have:=(Φ.mp hv).1;lia
  obtain⟨u',e1,e2⟩:=rv.get (i:=i) (x:=.int ns[i]) (by rw[az,Θ hi];rfl);rw[hv] at e1;cases e1;obtain⟨t,rfl⟩:=(show ∃t,v=eF ns[i] t from e2);exact⟨t,by simp[iG,hi]⟩
 ·have h4:its.length=ns.length:=by rw[←rv.length,ε]
  rw[h4,LP ns ns.length (υ _),lA];exact⟨.int ns.sum,H,back s' hm,⟨t',rfl⟩,q⟩
def yn:C3:=fun ds G Q=>match ds with
 |[.obj a]=>∃xs bs,G a=some (.lst xs)/\rY xs=some bs/\Q (.bl (bs.all id)) G
 |_=>False
def v8:C3:=fun ds G Q=>match ds with
 |[.obj a]=>∃xs ns,G a=some (.lst xs)/\intsOf xs=some ns/\Q (.int ns.sum) G
 |_=>False
theorem SY:lq K yn (fun vs H Q=>∃(a:η) (bs:List Bool),vs=[.ref a]/\eN K H a (bs.map V.bl)/\Q (.bl (bs.all id)) H):=fun ds vs G H Q3 Q h RG q k=>by
 rcases ds with _|⟨d,_|⟨d2,ds⟩⟩
 ·exact q.elim
 ·obtain⟨v,rfl,hv⟩:=kD h;cases d with
  |obj a=>
   obtain⟨xs,bs,e1,e2,q⟩:=q;obtain⟨ys,e3,e4⟩:=RG a _ e1;rw[ij hv];rw[LR e4 e2] at e3;exact⟨a,bs,rfl,.of e3,k _ H _ G lb (.refl H G) RG q⟩
  |_=>exact q.elim
 ·cases d<;>exact q.elim
theorem SX:lq K v8 (fun vs H Q=>∃(a:η) (ns:List Int),vs=[.ref a]/\eN K H a (ns.map V.int)/\Q (.int ns.sum) H):=fun ds vs G H Q3 Q h RG q k=>by
 rcases ds with _|⟨d,_|⟨d2,ds⟩⟩
 ·exact q.elim
 ·obtain⟨v,rfl,hv⟩:=kD h;cases d with
  |obj a=>
   obtain⟨xs,bs,e1,e2,q⟩:=q;obtain⟨ys,e3,e4⟩:=RG a _ e1;rw[ij hv];rw[lR e4 e2] at e3;exact⟨a,bs,rfl,.of e3,k _ H _ G lZ (.refl H G) RG q⟩
  |_=>exact q.elim
 ·cases d<;>exact q.elim
theorem SW(hu:X.A.units+64<cLine)(hm:X.mg "all" = none)(ha:kO X (e::es) t)(hc:X.calm=true:=by rfl)(hg:Gl X "all":=by rfl)(he:notStar e=true:=by rfl)(hpl:es.all notStar=true:=by rfl):
  cg X (.Call (.Name "all" p) (e::es) [] pos) (cF yn t):=mh SY (lh (TR hc) hg hm rfl ha (he:=gs he) (hpl:=ma hpl))
theorem SV(hu:X.A.units+64<cLine)(hm:X.mg "sum" = none)(ha:kO X (e::es) t)(hc:X.calm=true:=by rfl)(hg:Gl X "sum":=by rfl)(he:notStar e=true:=by rfl)(hpl:es.all notStar=true:=by rfl):
  cg X (.Call (.Name "sum" p) (e::es) [] pos) (cF v8 t):=mh SX (lh (S0 hc) hg hm rfl ha (he:=gs he) (hpl:=ma hpl))
end
end L3
namespace L3
open PySem PySem.Spec PyProof.Rows L2
section
variable {X:Cx} {K:PySem.W.Frag} {e:ρ} {es:List ρ} {t:dF} {ta:aO} {pos p p' pos':aP}
theorem SU(hc:X.calm=true):gP X (.builtin "max") (fun vs H Q=>∃(a:η) (ns:List Int),vs=[.ref a]/\eN X.K H a (ns.map V.int)/\0<ns.length/\∀m,m∈ns->(∀n∈ns,n≤m)->Q (.int m) H):=by
 intro pins s σ H vs us Q I r h;obtain⟨a,ns,rfl,hl,h0,q⟩:=h;obtain⟨u,rfl,ru⟩:=vals1 r;cases ru;refine call_max_walkS (AA hc I hl fun its I' rv W h1 h2 h3 back=>?_);have h4:its.length=ns.length:=by rw[←rv.length,ε]
 have hP:∀(i:Nat) (v:δ),its[i]?=some v->∃t,v=eF (ns.getD i 0) t:=by
  intro i v hv;have hi:i<ns.length:=by
   have:=(Φ.mp hv).1;omega
  obtain⟨u',e1,e2⟩:=rv.get (i:=i) (x:=.int ns[i]) (by rw[az,Θ hi];rfl);rw[hv] at e1;cases e1;obtain⟨t,rfl⟩:=(show ∃t,v=eF ns[i] t from e2);exact⟨t,by simp[iG,hi]⟩
 refine⟨I',_,_,_,_,_,_,_,rfl,W,⟨h1,h2⟩,h3,by omega,CmpOf.ints_gt (fun i=>ns.getD i 0) hP,fun v s' hv hm=>?_⟩;obtain⟨g1,g2⟩:=argBest_gt (fun i=>ns.getD i 0) (its.length-1);obtain⟨t,rfl⟩:=hP _ _ hv;refine⟨.int (ns.getD (argBest (fun i j=>decide (ns.getD i 0 > ns.getD j 0)) (its.length-1)) 0),H,back s' hm,⟨t,rfl⟩,q _ ?_ ?_⟩
 ·have hlt:argBest (fun i j=>decide (ns.getD i 0 > ns.getD j 0)) (its.length-1)<ns.length:=by omega
  rw[dX,Θ hlt];exact eH hlt
 ·intro n hn;obtain⟨j,hj,e⟩:=ed hn;have:=g2 j (by omega);have e':ns.getD j 0=n:=by
   rw[dX,Θ hj];exact e
  rw[←e'];exact this
def v7:C3:=fun ds G Q=>match ds with
 |[.obj a]=>∃xs ns,G a=some (.lst xs)/\intsOf xs=some ns/\0<ns.length/\∀m,m∈ns->(∀n∈ns,n≤m)->Q (.int m) G
 |_=>False
theorem SR:lq K v7 (fun vs H Q=>∃(a:η) (ns:List Int),vs=[.ref a]/\eN K H a (ns.map V.int)/\0<ns.length/\∀m,m∈ns->(∀n∈ns,n≤m)->Q (.int m) H):=fun ds vs G H Q3 Q h RG q k=>by
 rcases ds with _|⟨d,_|⟨d2,ds⟩⟩
 ·exact q.elim
 ·obtain⟨v,rfl,hv⟩:=kD h;cases d with
  |obj a=>
   obtain⟨xs,bs,e1,e2,h0,q⟩:=q;obtain⟨ys,e3,e4⟩:=RG a _ e1;rw[ij hv];rw[lR e4 e2] at e3;exact⟨a,bs,rfl,.of e3,h0,fun m h1 h2=>k _ H _ G lZ (.refl H G) RG (q m h1 h2)⟩
  |_=>exact q.elim
 ·cases d<;>exact q.elim
theorem SQ(hu:X.A.units+64<cLine)(hm:X.mg "max" = none)(ha:kO X (e::es) t)(hc:X.calm=true:=by rfl)(hg:Gl X "max":=by rfl)(he:notStar e=true:=by rfl)(hpl:es.all notStar=true:=by rfl):
  cg X (.Call (.Name "max" p) (e::es) [] pos) (cF v7 t):=mh SR (lh (SU hc) hg hm rfl ha (he:=gs he) (hpl:=ma hpl))
end
end L3
namespace L3
open PySem PySem.Spec PyProof.Rows L2
open Sem (wp)
def Ik(k:Bool)(h:Heap)(jt a:η)(i:Nat):Prop:=match k with
 |true=>h.IsListIter jt a i
 |false=>h.IsTupleIter jt a i
def Sk(k:Bool)(h:Heap)(a:η)(xs:Array δ):Prop:=match k with
 |true=>h.IsList a xs
 |false=>h.IsTuple a xs
theorem Ik.of{k:Bool}{h h':Heap}{jt a:η}{i:Nat}(x:Ik k h jt a i)(f:∀o,h.get? jt=some o->h'.get? jt=some o):Ik k h' jt a i:=by
 cases k<;>(obtain⟨o,e,r⟩:=x;exact⟨o,f o e,r⟩)
theorem Sk.of{k:Bool}{h h':Heap}{a:η}{xs:Array δ}(x:Sk k h a xs)(f:∀o,h.get? a=some o->h'.get? a=some o):Sk k h' a xs:=by
 cases k<;>(obtain⟨o,e,r⟩:=x;exact⟨o,f o e,r⟩)
theorem Ik.obj{k:Bool}{h:Heap}{jt a:η}{i:Nat}(x:Ik k h jt a i):∃o,h.get? jt=some o/\∀v,o.data≠.cell v:=by
 cases k<;>(obtain⟨o,e,c,d⟩:=x;exact⟨o,e,fun v z=>by rw[d] at z;cases z⟩)
section
variable {P:aw} {w:aG} {A:aR} {E:δ->ζ->Prop} {s:ζ}
theorem nextK{k:Bool}{jt a:η}{i:Nat}{xs:Array δ}{u:δ}{Q:δ->ζ->Prop}(hi:Ik k s.heap jt a i)(ha:Sk k s.heap a xs)(hx:xs[i]?=some u)
  (q:∀h',Ik k h' jt a (i+1)->Heap.SameBut jt s.heap h'->Q u { s with heap:=h' }):π (model P w) A (gU (.ref jt)) Q E s:=by
 cases k with
 |true=>exact wpAny_nextOf_list_item hi ha hx q
 |false=>
  have hi:s.heap.IsTupleIter jt a i:=hi;obtain⟨o,e1,c1,d1⟩:=id hi;obtain⟨oa,e2,c2,n2,d2⟩:=(show s.heap.IsTuple a xs from ha);unfold gU;refine γ (bW (name:=fm "__next__") hi.typeIs F.slot_tuple_iterator_next (bU F.slot_tuple_iterator_next hi.typeIs F.entry_tuple_iterator_next ?_ (F.args_tuple_iterator_next_1 _)));show π _ _ (field (.ref jt) 0 >>= _) _ _ s;refine γ (dZ e1 d1 (x:=.ref a) rfl ?_);show π _ _ (if (au a==bT)=true then _ else _) _ _ s;rw[if_neg (show ¬((au a==bT)=true) from ak)];show π _ _ (field (.ref jt) 1 >>= _) _ _ s;refine γ (dZ e1 d1 (x:=.int i 0) rfl ?_);show π _ _ (seqItems? (.ref a) >>= _) _ _ s;refine γ (i9 e2 d2 ?_);simp only[hx,bz];refine γ (i8 e1 d1 (by simp) (ι ⟨u,rfl,ι (q _ ?_ (Heap.SameBut.update ..))⟩));exact⟨_,Heap.get?_update_self _ e1 (qY (kg d1 _)),(br.cls_mapFields ..).trans c1,by rw[kg d1];simp[rawInt]⟩
theorem LO{k:Bool}{jt a:η}{i:Nat}{xs:Array δ}{Q:δ->ζ->Prop}(hh:A.handled=none)(hi:Ik k s.heap jt a i)(ha:Sk k s.heap a xs)(hx:xs[i]?=none)
  (q:∀h' e,Heap.ExtBut jt s.heap h'->(∃o,h'.get? e=some o/\o.cls=.type "StopIteration")->E (.ref e) { s with heap:=h' }):π (model P w) A (gU (.ref jt)) Q E s:=by
 cases k with
 |true=>exact wpAny_nextOf_list_end hh hi ha hx q
 |false=>
  have hi:s.heap.IsTupleIter jt a i:=hi;obtain⟨o,e1,c1,d1⟩:=id hi;obtain⟨oa,e2,c2,n2,d2⟩:=(show s.heap.IsTuple a xs from ha);unfold gU;refine γ (bW (name:=fm "__next__") hi.typeIs F.slot_tuple_iterator_next (bU F.slot_tuple_iterator_next hi.typeIs F.entry_tuple_iterator_next ?_ (F.args_tuple_iterator_next_1 _)));show π _ _ (field (.ref jt) 0 >>= _) _ _ s;refine γ (dZ e1 d1 (x:=.ref a) rfl ?_);show π _ _ (if (au a==bT)=true then _ else _) _ _ s;rw[if_neg (show ¬((au a==bT)=true) from ak)];show π _ _ (field (.ref jt) 1 >>= _) _ _ s;refine γ (dZ e1 d1 (x:=.int i 0) rfl ?_);show π _ _ (seqItems? (.ref a) >>= _) _ _ s;refine γ (i9 e2 d2 ?_);simp only[hx,bz];refine γ (gQ (γ (i8 e1 d1 (by simp) ?_)));show π _ _ (newExc (.type "StopIteration") [] >>= _) _ _ ({ s with heap:=_ }:ζ);refine γ ?_;simp only[newTuple,newExc];refine γ (bx ?_ (by size_fits));refine γ (m:=firstArgMember _ _) (nc (a:=bT) (by first|(simp only[firstArgMember];rfl)|rfl) ?_)
  refine bx ?_ (by size_fits);simp only[raiseNew];refine γ (nR ?_)
  first|rw[hh]|rw[show A.in1.handled=none from hh]
  refine γ (ι (qy ?_));exact q _ _ (((Heap.SameBut.update ..).extBut.push _).push _) ⟨_,Heap.get?_push_size _ rfl,rfl⟩
end
end L3
namespace L3
open PySem PySem.Spec PyProof.Rows L2
open Sem (wp)
section
variable {X:Cx} {pins:List (η×br)} {σ:L2.St} {H:Hp} {s:ζ}
theorem yW{h':Heap}{t':Nat}{fp:List η}(I:L2.Inv X pins σ H s)(k:∀b o,b∉fp->s.heap.get? b=some o->h'.get? b=some o)(hf:∀b∈fp,kE X pins H b):L2.Inv X pins σ H { s with heap:=h',toks:=t' }:=by
 have nit:∀b u,H b=some u->b∉fp:=fun b u e z=>by rw[(hf b z).1] at e;cases e
 refine I.step (g':=s.gens) (d':=s.drawn) (ch:=fp) (fun b hb=>?_) (fun b o _ _ hc e _=>k b o hc e) (fun b o _ _ hc e _=>⟨o.slots,k b o hc e⟩) (fun _ _ _ _ n=>n) (fun b o hc e=>⟨o,k b o hc e⟩) (fun _ _ e=>e) (fun _ _ _ e=>e) (fun b ps e=>⟨#[],by rw[e];simp⟩) (fun m hm=>?_) (fun b u e=>?_) I.bare
 ·obtain⟨f0,f1,f2,f3,f4,f5⟩:=hf b hb;exact⟨f3,f1,f4,f5⟩
 ·obtain⟨o,es,ep,ho,r⟩:=hm;exact⟨o,es,ep,k _ o (fun z=>(hf _ z).2.1 rfl) ho,r⟩
 ·refine (I.cB b u e).sE (fun c v hc q=>k c v ?_ q) (fun _ q=>q) fun _ _ q=>q;rcases hc with z|z
  ·rw[z];exact nit b u e
  ·exact nit c _ z
def mK(K:PySem.W.Frag)(k:Bool)(H:Hp)(a:η)(xs:List V):Prop:=match k with
 |true=>eN K H a xs
 |false=>cK K H a xs
theorem mK.heap{k:Bool}{a:η}{xs:List V}(I:L2.Inv X pins σ H s)(h:mK X.K k H a xs):∃its,bo xs its/\Sk k s.heap a its.toArray:=by
 cases k with
 |true=>
  obtain⟨its,rv,p,hz⟩:=I.list (show eN X.K H a xs from h);exact⟨its,rv,p.isList⟩
 |false=>
  obtain⟨its,rv,p,hz⟩:=I.tuple (show cK X.K H a xs from h);exact⟨its,rv,p⟩
theorem mK.inj{k:Bool}{a:η}{xs ys:List V}(I:L2.Inv X pins σ H s)(h:mK X.K k H a xs)(h':mK X.K k H a ys):xs=ys:=by
 cases k with
 |true=>exact I.yw (show eN X.K H a xs from h) (show eN X.K H a ys from h')
 |false=>exact I.wy (show cK X.K H a xs from h) (show cK X.K H a ys from h')
theorem mK.apart{k:Bool}{a b:η}{xs:List V}(I:L2.Inv X pins σ H s)(h:mK X.K k H a xs)(f:kE X pins H b):a≠b:=by
 intro z;subst z;have hb:(∃u,H a=some u)∨∃o,X.K.lookup a=some o:=by
  cases k <;>
  ·rcases h with (h|⟨o,h⟩)|⟨o,_,_,h,_⟩
   ·exact .inl ⟨_,h⟩
   ·exact .inl ⟨_,h⟩
   ·exact .inr ⟨_,h⟩
 rcases hb with⟨u,e⟩|⟨o,e⟩
 ·rw[f.1] at e;cases e
 ·have e2:=I.mod.Gk a o e;rcases f.2.2.2.1 with q|q
  ·exact I.ok.uG a o e2 q
  ·exact absurd (bK (Heap.lt_size (I.ok.bs a o e2).1) q) (cU _)
end
section
variable {X:Cx} {es:List ρ} {n0:Nat} {ps p pos:aP}
def Dj(G:Gp):D->List D->Prop
 |.obj p,ds=>G p=some (.lst ds)
 |.tup es,ds=>ds=es
 |.gW es,ds=>ds=es
 |_,_=>False
def vC(xs ys:List D):List D:=List.zipWith (fun x y=>.tup [x,y]) xs ys
theorem SO{K:PySem.W.Frag}{H:Hp}{x:D}{v:V}(hv:Hv K H x v):∃k,∀H' G' xs,Ext H H'->bB K G' H'->Dj G' x xs->∃a vs,v=.ref a/\mK K k H' a vs/\aI K H' xs vs:=by
 cases x with
 |obj p=>
  unfold Hv at hv;subst hv;refine⟨true,fun H' G' xs E RG h=>?_⟩;obtain⟨vs,e2,e3⟩:=RG p _ h;exact⟨p,vs,rfl,eN.of e2,e3⟩
 |tup es=>
  unfold Hv at hv;obtain⟨a,vs,rfl,e2,e3⟩:=hv;refine⟨false,fun H' G' xs E RG h=>?_⟩;cases (show xs=es from h);exact⟨a,vs,rfl,cK.ext E e2,e3.ext E⟩
 |gW es=>
  unfold Hv at hv;obtain⟨a,vs,rfl,e2,e3⟩:=hv;refine⟨true,fun H' G' xs E RG h=>?_⟩;cases (show xs=es from h);exact⟨a,vs,rfl,(si.ext E e2).l,e3.ext E⟩
 |aF=>exact⟨true,fun _ _ _ _ _ h=>h.elim⟩
 |bl _=>exact⟨true,fun _ _ _ _ _ h=>h.elim⟩
 |int _=>exact⟨true,fun _ _ _ _ _ h=>h.elim⟩
 |str _=>exact⟨true,fun _ _ _ _ _ h=>h.elim⟩
 |dc _=>exact⟨true,fun _ _ _ _ _ h=>h.elim⟩
theorem SN{xs ys:List D}{i:Nat}{d:D}(h:(vC xs ys)[i]?=some d):∃x y,xs[i]?=some x/\ys[i]?=some y/\d=.tup [x,y]:=by
 unfold vC at h;rw[List.getElem?_zipWith] at h;cases hx:xs[i]? with
 |none=>rw[hx] at h;cases h
 |some x=>
  cases hy:ys[i]? with
  |none=>rw[hx,hy] at h;cases h
  |some y=>
   rw[hx,hy] at h;cases h;exact⟨x,y,rfl,rfl,rfl⟩
end
end L3
namespace L3
open PySem PySem.Spec PyProof.Rows L2
open Sem (wp)
theorem M4{P:aw}{w:aG}{A:aR}{k:Bool}(hh:A.handled=none)(it a:η)(hne:a≠it)(xs:Array δ):
  Draws P w A it [it,a] xs.size (fun i v=>xs[i]?=some v) (fun i h=>Ik k h it a i/\Sk k h a xs) where
 live:=fun _ _ st=>let ⟨o,ho,_⟩:=st.1.obj;⟨o,ho⟩
 frame:=fun _ _ _ st hk=>⟨st.1.of fun o e=>hk it (by simp) o e,st.2.of fun o e=>hk a (by simp) o e⟩
 item:=fun i s Q E hi st hQ=>by
  refine nextK st.1 st.2 (u:=xs[i]) (by simp[hi]) fun h' hit' hs'=>?_;exact hQ _ h' s.toks (by simp[hi]) ⟨hit',st.2.of fun o e=>hs'.extBut a o hne e⟩ hs'
 done:=fun s Q E st hE=>LO hh st.1 st.2 (by simp) hE
section
variable {P:aw} {w:aG} {A:aR} {E:δ->ζ->Prop} {s:ζ}
theorem SK{k:Bool}{e it a:η}{i:Int}{j:Nat}{xs:Array δ}{old:δ}{Q:Option δ->ζ->Prop}(hh:A.handled=none)(he:IsEnum s.heap e it i old)(hi:Ik k s.heap it a j)(ha:Sk k s.heap a xs)(hx:xs[j]?=none)
  (hQ:∀h',Heap.ExtBut it s.heap h'->Q none { s with heap:=h' }):π (model P w) A (pyNext (.ref e)) Q E s:=by
 have hT:s.TypeIs (.ref e) "enumerate":=⟨_,he,rfl⟩;unfold pyNext;refine γ (gD (bW (name:=fm "__next__") hT F.slot_enumerate_next
  (bU F.slot_enumerate_next hT F.entry_enumerate_next ?_ (F.args_enumerate_next_1 _))))
 show π _ _ (field (.ref e) 2 >>= _) _ _ _;refine γ (dZ he rfl (x:=.ref it) rfl ?_);refine γ (LO (by simpa using hh) hi ha hx fun h' x he' hx'=>?_);obtain⟨o,ho,hc⟩:=hx';refine γ (ju (T:="StopIteration") (b:=true) ⟨o,ho,hc⟩ mZ ?_);exact ι (hQ _ he')
open AutoSeq1 (wpAny_loadPart') in
theorem SJ(l:η)(items:Array δ)(n:Nat)(iB:Option η)(sl:Array (Option δ)):
  Meets (gm.«enumerate.__new__» ⟨[.type "enumerate",.ref l],[]⟩) (fun _ R s=>s.heap.get? l=some { cls:=.type "tuple",dict:=iB,data:=.seq items n,slots:=sl } ∧
   R (.ok (.ret (.ref (s.heap.push { cls:=.type "tuple_iterator",data:=.fields #[.ref l,.int 0 0]}).objs.size)))
    { s with heap:=(s.heap.push { cls:=.type "tuple_iterator",data:=.fields #[.ref l,.int 0 0]}).push { cls:=.type "enumerate",data:=.fields #[.none,.bool false,.ref s.heap.objs.size,rawInt 0,.none,.none]}}):=
 .of_wp fun prog w A R s h=>by
  obtain⟨hp,g,d,tk,os⟩:=s;obtain⟨hl,h⟩:=h;have hsub:=sub_enumerate;have hL:Heap.IsTuple (ζ.heap ⟨hp,g,d,tk,os⟩) l items:=⟨_,hl,rfl,n,rfl⟩;wp_walk using wpAny_loadPart' hl;refine wpAny_stack_any fun st=>ι ?_;split
  ·rename_i c _ _ _ _ _;cases (c==kq "enumerate")
   ·wp_walk using wpAny_loadPart' hl,iD hL;exact⟨_,rfl,h⟩
   ·wp_walk using wpAny_loadPart' hl,iD hL;exact⟨_,rfl,h⟩
  ·wp_walk using wpAny_loadPart' hl,iD hL;exact⟨_,rfl,h⟩
theorem SI{l:η}{items:Array δ}{Q:δ->ζ->Prop}(hL:s.heap.IsTuple l items)
  (h:∀h',IsEnum h' (s.heap.objs.size+1) s.heap.objs.size 0 .none->h'.IsTupleIter s.heap.objs.size l 0->h'.objs.size=s.heap.objs.size+2 ->
   (∀b o,s.heap.get? b=some o->h'.get? b=some o)->Q (.ref (s.heap.objs.size+1)) { s with heap:=h' }):
  π (model P w) A (call (.type "enumerate") [.ref l]) Q E s:=by
 obtain⟨⟨c,iB,dt,sl⟩,hl,hc,n,hd⟩:=hL
 replace hc:c=.type "tuple":=hc
 replace hd:dt=.seq items n:=hd
 subst hc hd;refine callType_new F.called_enumerate (by decide) (F.typeCall_enumerate_1 _) (F.newCall_enumerate_1 _) (fun obj=>F.args_object_init_2 obj _) F.entry_enumerate_new
  (SJ l items n iB sl) ⟨hl,?_⟩
 have hz:(s.heap.push { cls:=.type "tuple_iterator",data:=.fields #[.ref l,.int 0 0]}).objs.size=s.heap.objs.size+1:=Heap.size_push ..;show _/\_;rw[hz];have he:IsEnum ((s.heap.push { cls:=.type "tuple_iterator",data:=.fields #[.ref l,.int 0 0]}).push
   { cls:=.type "enumerate",data:=.fields #[.none,.bool false,.ref s.heap.objs.size,rawInt 0,.none,.none]}) (s.heap.objs.size+1) s.heap.objs.size 0 .none:=by
  have:=Heap.get?_push_size (s.heap.push { cls:=.type "tuple_iterator",data:=.fields #[.ref l,.int 0 0]})
   (o:={ cls:=.type "enumerate",data:=.fields #[.none,.bool false,.ref s.heap.objs.size,rawInt 0,.none,.none]}) rfl
  rw[hz] at this;exact this
 refine⟨⟨_,he,rfl⟩,h _ he ⟨_,Heap.get?_push_of_some _ (Heap.get?_push_size _ rfl),rfl,rfl⟩ (by rw[Heap.size_push,hz]) fun b o x=>Heap.get?_push_of_some _ (Heap.get?_push_of_some _ x)⟩
theorem SH{k:Bool}{l:η}{items:Array δ}{Q:δ->ζ->Prop}(hL:Sk k s.heap l items)
  (h:∀h',IsEnum h' (s.heap.objs.size+1) s.heap.objs.size 0 .none->Ik k h' s.heap.objs.size l 0->h'.objs.size=s.heap.objs.size+2 ->
   (∀b o,s.heap.get? b=some o->h'.get? b=some o)->Q (.ref (s.heap.objs.size+1)) { s with heap:=h' }):
  π (model P w) A (call (.type "enumerate") [.ref l]) Q E s:=by
 cases k with
 |true=>exact call_enumerate_list hL h
 |false=>exact SI hL h
end
def Ox(K:PySem.W.Frag)(k:Bool)(a:η):It:=
 ⟨fun i H=>∃xs x,mK K k H a xs/\xs[i]?=some x,
  fun i H x H'=>∃T u,x=.ref T/\H T=none/\H'=upd H T (.tup [.int i,u])/\∀xs,mK K k H a xs->xs[i]?=some u,
  fun i H=>∃xs,mK K k H a xs/\xs.length≤i⟩
theorem SG{P:aw}{w:aG}{K:PySem.W.Frag}{es:List ρ}{n0:Nat}{ps:aP}(k:Bool)(a en jt:η)(hne:en≠jt):
  Turn P w K (.Tuple es n0 ps) (Ox K k a) [en,jt] en (fun i h=>(∃old,IsEnum h en jt i old)/\Ik k h jt a i) where
 mem:=by simp
 obj:=fun i h st b hb=>by
  obtain⟨⟨old,Z⟩,g⟩:=st;simp only[ay,dz,or_false] at hb;rcases hb with rfl|rfl
  ·exact⟨_,Z,fun v z=>by cases (show ug _=Data.cell v from z)⟩
  ·exact g.obj
 keep:=fun i h h' st k=>⟨let ⟨old,Z⟩:=st.1;⟨old,k _ (by simp) _ Z⟩,st.2.of fun o e=>k _ (by simp) _ e⟩
 item:=by
  intro X hP hw hK hc i pins s σ H E I hf st hg;subst hP hw hK;obtain⟨⟨old,Z⟩,g⟩:=st;obtain⟨xs,x,q1,hx⟩:=hg;obtain⟨its,rv,p⟩:=mK.heap I q1;obtain⟨u,hu,ru⟩:=rv.get hx;have hi:i<its.toArray.size:=by
   have:=(Φ.mp hu).1;simpa using this
  have hja:a≠jt:=mK.apart I q1 (hf jt (by simp));have hea:a≠en:=mK.apart I q1 (hf en (by simp));refine wpAny_pyNext_enum_itemD (M4 (k:=k) (by have:=I.ok.hd hc;simpa using this) jt a hja its.toArray) Z ⟨g,p⟩ hi hne (by simp[hne,hea.symm]) fun x2 h' tk hx2 Z' g' T' sz kp=>⟨_,rfl,?_⟩;have ex:x2=u:=by
   have:its.toArray[i]?=some u:=by simpa using hu
   rw[hx2] at this;exact aA this
  subst ex;refine wpAny_letOwnedTupleGo_enum (s:={ s with heap:=h',toks:=tk+1 }) Z' fun h2 Z2 b2=>?_;have hn:H s.heap.objs.size=none:=I.cB.fresh (υ _);have I1:L2.Inv X pins σ (upd H s.heap.objs.size (.tup [.int i,x])) { s with heap:=s.heap.push { cls:=.type "tuple",data:=.seq #[.int i tk,x2]}}:=I.laid (t':=s.toks) (fun b o e=>Heap.get?_push_of_some _ e) (υ _) ⟨by show 2≤ao;decide,[.int i tk,x2],.cons ⟨_,rfl⟩ (.cons ru .nil),⟨_,Heap.get?_push_size _ rfl,rfl,⟨_,rfl⟩,rfl⟩⟩;have lt:∀b∈[en,jt],b<s.heap.objs.size:=fun b hb=>by
   simp only[ay,dz,or_false] at hb;rcases hb with rfl|rfl
   ·exact Heap.lt_size Z
   ·obtain⟨o,e,_⟩:=g.obj;exact Heap.lt_size e
  have hf':∀b∈[en,jt],kE X pins (upd H s.heap.objs.size (.tup [.int i,x])) b:=fun b hb=>⟨by rw[fi (aX (lt b hb))];exact (hf b hb).1,(hf b hb).2⟩;have I2:L2.Inv X pins σ (upd H s.heap.objs.size (.tup [.int i,x])) { s with heap:=h2,toks:=tk+1 }:=yW (s:={ s with heap:=s.heap.push { cls:=.type "tuple",data:=.seq #[.int i tk,x2]}}) (t':=tk+1) I1 (fun b o hb e=>by
   simp only[ay,dz,or_false,not_or] at hb;refine b2.extBut b o hb.1 ?_;rcases Heap.get?_push_cases e with⟨rfl,rfl⟩|e
   ·exact T'
   ·exact kp b o hb.1 hb.2 e) hf'
  exact⟨.ref s.heap.objs.size,_,I2,rfl,⟨_,x,rfl,hn,rfl,fun zs hz=>by rw[mK.inj I hz q1];exact hx⟩,⟨⟨_,Z2⟩,g'.1.of fun o e=>b2.extBut jt o hne.symm e⟩,fun b hb=>(hf' b hb).1⟩
 done:=by
  intro X hP hw hK hc i pins s σ H E I hf st hg;subst hP hw hK;obtain⟨⟨old,Z⟩,g⟩:=st;obtain⟨xs,q1,hl⟩:=hg;obtain⟨its,rv,p⟩:=mK.heap I q1;have l1:=rv.length;exact SK (I.ok.hd hc) Z g p (by simp;lia) fun h' kp=>⟨rfl,yW (t':=s.toks) I (fun b o hb e=>by
   simp only[ay,dz,or_false,not_or] at hb;exact kp b o hb.2 e) hf⟩
 self:=fun _ _ _ _ _ st h=>let ⟨⟨_,Z⟩,_⟩:=st;wpAny_pyIter_enum Z h
section
variable {X:Cx} {es:List ρ} {n0:Nat} {ps p pos:aP}
def NY(K:PySem.W.Frag)(ta:TA):TI:=fun σ H R=>ta σ H fun vs H1=>∃k a,vs=[.ref a]/\(∃xs,mK K k H1 a xs)/\R (Ox K k a) H1
theorem SF{a:ρ}{ta:TA}(hg:Gl X "enumerate")(hm:X.mg "enumerate" = none)(ha:PA X [a] ta)(hs:b8 [a] X.env=[(false,eval a X.env)]:=by rfl):PI X (.Tuple es n0 ps) (.Call (.Name "enumerate" p) [a] [] pos) (NY X.K ta):=by
 intro pins s σ H R I h;refine Call_ (uC I hg hm boot_enumerate (fb (bP (ha pos pins s σ H _ I h) fun us s1 zz=>?_) hs rfl));obtain⟨vs,H1,I1,r1,q1⟩:=zz;obtain⟨k,a1,e,⟨xs,q1⟩,q⟩:=q1;subst e;cases r1 with
 |cons r rr=>
  cases rr;cases r;obtain⟨its,rv,p⟩:=mK.heap I1 q1;refine SH p fun h' z1 z2 z3 z4=>?_;refine wpAny_pyIter_enum (s:={ s1 with heap:=h' }) z1 ?_
  refine⟨s1.heap.objs.size+1,[s1.heap.objs.size+1,s1.heap.objs.size],_,_,H1,rfl,I1.kept (t':=s1.toks) z4,SG k a1 _ _ (by simp),⟨⟨_,z1⟩,z2⟩,fun b hb=>?_,q⟩;have hb:s1.heap.objs.size≤b:=by
   simp only[ay,dz,or_false] at hb;rcases hb with rfl|rfl
   ·exact gi _ _
   ·exact υ _
  exact I1.rT hb (I1.cB.fresh hb)
def u9(xs:List D):List D:=vC (iI 0 xs.length) xs
def Bf(ta:dF):nt:=fun τ G R=>ta τ G fun ds G1=>match ds with
 |[x]=>∃xs,Dj G1 x xs/\R ⟨u9 xs,fun G=>Dj G x xs⟩ G1
 |_=>False
theorem SE{a:ρ}{ta:dF}(hm:X.mg "enumerate" = none)(ha:kO X [a] ta)(hg:Gl X "enumerate":=by rfl)(hs:notStar a=true:=by rfl):
  t8 X (.Tuple es n0 ps) (.Call (.Name "enumerate" p) [a] [] pos) (Bf ta):=
 yb (SF hg hm ha (gs hs)) fun σ H R zz=>by
  obtain⟨τ,G,R3,RS,RG,h,k⟩:=zz;exact⟨τ,G,_,RS,RG,h,fun vs H1 ds G1 h1 S1 R1 q1=>by
  rcases ds with _|⟨d,_|⟨d2,ds⟩⟩
  ·exact q1.elim
  ·obtain⟨xs,s1,q⟩:=q1;obtain⟨v,r,rfl,z1,z2⟩:=h1.inv;cases z2.iJ;obtain⟨kk,hsq⟩:=SO z1;obtain⟨a1,vs1,rfl,y1,w1⟩:=hsq _ _ _ (Ext.refl _) R1 s1;refine⟨kk,a1,rfl,⟨_,y1⟩,k _ _ _ _ ⟨?_,?_⟩ S1 R1 q⟩
   ·intro i d H' G' E' RG' hg hi;obtain⟨x,y,e1,e2,rfl⟩:=SN hi;obtain⟨b1,us1,c1,m1,n1⟩:=hsq _ _ _ E' RG' hg;cases c1;obtain⟨u1,o1,o2⟩:=n1.get e2;obtain⟨_,rfl⟩:=LA e1;refine⟨⟨_,_,m1,o1⟩,fun x' H'' hy=>?_⟩;obtain⟨T,u,rfl,hn,rfl,t1⟩:=hy;have:=t1 _ m1;rw[o1] at this;cases this;refine⟨?_,.laid hn,RG'.laid hn⟩;unfold Hv;exact⟨T,_,rfl,.of jW,.cons (by simp[Hv]) (.cons (o2.ext (.laid hn)) .nil)⟩
   ·intro i H' G' E' RG' hg hi;obtain⟨b1,us1,c1,m1,n1⟩:=hsq _ _ _ E' RG' hg;cases c1;refine⟨_,m1,?_⟩;have hi:(u9 xs).length≤i:=hi;unfold u9 vC at hi;rw[List.length_zipWith,ya] at hi;rw[←n1.length];lia
  ·exact q1.elim⟩
end
end L3
namespace L3
open PySem PySem.Spec PyProof.Rows L2
open Classical in
noncomputable def u7 (h:Heap) (vs:List Dat.D) (u:Dat.D) (y:δ):Bool:=if q:∃d,d∈vs/\Dat.Hv h d y then (Classical.choose q).dS u else false
theorem Er{h:Heap}{vs:List Dat.D}{u d:Dat.D}{y:δ}(hd:d∈vs)(hy:Dat.Hv h d y):u7 h vs u y=d.dS u:=by
 unfold u7;have q:∃d,d∈vs/\Dat.Hv h d y:=⟨d,hd,hy⟩;rw[dif_pos q,Dat.Hv.inj (Classical.choose_spec q).2 hy]
theorem ym{h:Heap}{vs0:List Dat.D}{u:Dat.D}:∀{vs:List Dat.D} {us:List δ},(∀d∈vs,d∈vs0)->Dat.aI h vs us->us.any (u7 h vs0 u)=vs.any fun v=>v.dS u
 |[],us,_,p=>by
  unfold Dat.aI at p;subst p;rfl
 |d::ds,us,hm,p=>by
  unfold Dat.aI at p;obtain⟨y,r,rfl,p1,p2⟩:=p;rw[List.any_cons,List.any_cons,Er (hm d ο) p1,ym (fun d hd=>hm d (χ _ hd)) p2]
theorem Ep{h:Heap}{y:δ}:∀{vs:List Dat.D} {us:List δ},Dat.aI h vs us->y∈us->∃d,d∈vs/\Dat.Hv h d y
 |[],us,p,hy=>by
  unfold Dat.aI at p;subst p;cases hy
 |d::ds,us,p,hy=>by
  unfold Dat.aI at p;obtain⟨x,r,rfl,p1,p2⟩:=p;rcases ay.mp hy with rfl|hy
  ·exact⟨d,ο,p1⟩
  ·obtain⟨e,h1,h2⟩:=Ep p2 hy;exact⟨e,χ _ h1,h2⟩
def vF(neg:Bool):R3:=fun x y G Q=>∃u vs,kX G x=some u/\(kX G y=some (.lst vs)∨kX G y=some (.tup vs))/\Dat.fH vs≤50/\Q (.bl (if neg then !(vs.any fun v=>v.dS u) else vs.any fun v=>v.dS u)) G
section
variable {X:Cx}
theorem inR(hu:X.A.units+64<cLine):wx X (compareOp .In) (vF false):=by
 intro pins s σ H G x y vx vy u v Q3 I RG hx hy rx ry ⟨p,vs,e1,e2,hd,h⟩;have dx:=qo I RG hx rx e1;have fin:EP X pins σ (fun w H'=>∃d G',Hv X.K H' d w/\Step H G H' G'/\bB X.K G' H'/\Q3 d G') (.bool (vs.any fun v=>v.dS p)) s:=⟨.bl _,H,I,rfl,.bl _,G,lb,.refl H G,RG,h⟩;have he:∀(its:List δ),Dat.aI s.heap vs its->∀y,y∈its.toArray->vt X.A.in1 s y u (u7 s.heap vs p y):=fun its hv y hy=>by
  obtain⟨d,hd',hv'⟩:=Ep hv (by simpa using hy);rw[Er hd' hv'];exact Dat.sZ d p y u _ hv' dx (by
   have:=Dat.kn hd';have h1:X.A.in1.units=X.A.units+1:=rfl;lia)
 rcases e2 with e2|e2
 ·have dy:=qo I RG hy ry e2;unfold Dat.Hv at dy;obtain⟨a,its,rfl,hl,hv⟩:=dy;refine SeqAt.in_listAt (u7 s.heap vs p) hl (he its hv) ?_;rw[lC,ym (fun d hd=>hd) hv];exact fin
 ·have dy:=qo I RG hy ry e2;unfold Dat.Hv at dy;obtain⟨a,its,rfl,hl,hv⟩:=dy;refine SeqAt.in_tupleAt (u7 s.heap vs p) hl (he its hv) ?_;rw[lC,ym (fun d hd=>hd) hv];exact fin
theorem aaB(hu:X.A.units+64<cLine):wx X (compareOp .NotIn) (vF true):=by
 intro pins s σ H G x y vx vy u v Q3 I RG hx hy rx ry ⟨p,vs,e1,e2,hd,h⟩;have dx:=qo I RG hx rx e1;have fin:EP X pins σ (fun w H'=>∃d G',Hv X.K H' d w/\Step H G H' G'/\bB X.K G' H'/\Q3 d G') (.bool (!(vs.any fun v=>v.dS p))) s:=⟨.bl _,H,I,rfl,.bl _,G,lb,.refl H G,RG,h⟩;have he:∀(its:List δ),Dat.aI s.heap vs its->∀y,y∈its.toArray->vt X.A.in1 s y u (u7 s.heap vs p y):=fun its hv y hy=>by
  obtain⟨d,hd',hv'⟩:=Ep hv (by simpa using hy);rw[Er hd' hv'];exact Dat.sZ d p y u _ hv' dx (by
   have:=Dat.kn hd';have h1:X.A.in1.units=X.A.units+1:=rfl;lia)
 rcases e2 with e2|e2
 ·have dy:=qo I RG hy ry e2;unfold Dat.Hv at dy;obtain⟨a,its,rfl,hl,hv⟩:=dy;refine SeqAt.notIn_listAt (u7 s.heap vs p) hl (he its hv) ?_;rw[lC,ym (fun d hd=>hd) hv];exact fin
 ·have dy:=qo I RG hy ry e2;unfold Dat.Hv at dy;obtain⟨a,its,rfl,hl,hv⟩:=dy;refine SeqAt.notIn_tupleAt (u7 s.heap vs p) hl (he its hv) ?_;rw[lC,ym (fun d hd=>hd) hv];exact fin
theorem SD(hu:X.A.units+64<cLine):eO X (compareOp .NotIn) (pW X.K (vF true)):=(aaB hu).op
theorem SA{K:PySem.W.Frag}:dU K (vF true) (pW K (vF true)):=EJ
end
end L3
namespace L2
open PySem PySem.Spec PyProof.Rows
def Cs(lo c:Int)(n:Nat):It:=⟨fun i _=>i<n,fun i H x H'=>H'=H/\x=.int (lo+i*c),fun i _=>n≤i⟩
theorem Sz{P:aw}{w:aG}{K:PySem.W.Frag}{tg:ρ}(it:η)(lo c:Int)(n:Nat):Turn P w K tg (Cs lo c n) [it] it (fun i h=>qJ h it (lo+(i:Nat)*c) ((n:Int)-(i:Nat)) c) where
 mem:=by simp
 obj:=fun i h st b hb=>by
  have e:b=it:=by simpa using hb
  subst e;exact⟨_,st,fun v z=>by
   have z':ug _=Data.cell v:=z;cases z'⟩
 keep:=fun i h h' st k=>k it (by simp) _ st
 item:=by
  intro X hP hw hK hc i pins s σ H E I hf st hg;subst hP hw hK;obtain⟨f0,f1,f2,f3,f4,f5⟩:=hf it (by simp);have W:=Walks.range (prog:=X.prog) (w:=X.w) (I.ok.hd hc) it lo c n;refine W.item i s _ _ hg st fun v h' tk hv st' kk=>?_;obtain⟨t,rfl⟩:=hv;have I1:Inv X pins σ H { s with heap:=h',toks:=tk }:=I.turned (fun b o hb e=>kk b o (by simpa using hb) e) f0 f1 f3 f4 f5;refine⟨_,rfl,yf (s:={ s with heap:=h',toks:=tk }) (n:="range_iterator") st' rfl rfl (by decide) ⟨.int (lo+i*c),H,I1,⟨t,rfl⟩,⟨rfl,rfl⟩,st',fun b hb=>(hf b hb).1⟩⟩
 done:=by
  intro X hP hw hK hc i pins s σ H E I hf st hg;subst hP hw hK;obtain⟨f0,f1,f2,f3,f4,f5⟩:=hf it (by simp);exact wpAny_pyNext_range_end (I.ok.hd hc) st (by have:n≤i:=hg;lia) fun h' eb=>⟨rfl,I.turned (t':=s.toks) (fun b o hb e=>eb b o hb e) f0 f1 f3 f4 f5⟩
 self:=fun _ _ _ _ _ st h=>wpAny_pyIter_rangeiter st h
def jr(i j c:Int):Nat:=if i<j then ((j-i-1) / c+1).toNat else 0
theorem Sy{i j c:Int}(hc:0<c):dk i j c=(jr i j c:Int):=by
 unfold dk jr;rw[if_pos hc];split
 ·rename_i h;have:0≤(j-i-1) / c:=qg (by lia) (by lia);lia
 ·rfl
theorem Sx{i j c:Int}(h1:-(2^61)≤i)(h2:i<2^61)(h3:-(2^61)≤j)(h4:j<2^61)(hc:0<c)(hc2:c<2^30):mN i j c=true:=by
 have hs:dk i j c≤2^62/\0≤dk i j c:=by
  unfold dk;rw[if_pos hc];split
  ·rename_i h;have e1:(j-i-1) / c≤j-i-1:=Int.ediv_le_self _ (by lia);have e2:0≤(j-i-1) / c:=qg (by lia) (by lia);lia
  ·lia
 unfold mN;generalize dk i j c=z at hs;simp only[gm.Range.rangeFitsLong,bV,Bool.or_eq_true,decide_eq_true_eq,beq_iff_eq,hc,gt_iff_lt,if_true];have:∀p q:Int,True:=fun _ _=>trivial;refine ?_;lia
section
variable {X:Cx} {tg:ρ}
theorem Sw{pins:List (η×br)}{σ:St}{H:Hp}{s:ζ}{R:It->Hp->Prop}{E:δ->ζ->Prop}{lo hi c:Int}{t u v:kz}{tk:Nat}(I:Inv X pins σ H s)(hs:mN lo hi c=true)(hc:0<c)
  (q:R (Cs lo c (jr lo hi c)) H):π (model X.prog X.w) X.A (pyIter (.ref s.heap.objs.size)) (GK X pins σ tg R) E { s with heap:=s.heap.push { cls:=.type "range",data:=.fields #[.int lo t,.int hi u,.int c v]},toks:=tk }:=by
 refine wpAny_pyIter_range (IsRange.new ..) hs ?_;have I1:Inv X pins σ H { s with heap:=s.heap.push { cls:=.type "range",data:=.fields #[.int lo t,.int hi u,.int c v]},toks:=tk }:=I.kept fun b o e=>Heap.get?_push_of_some _ e;refine⟨(s.heap.push { cls:=.type "range",data:=.fields #[.int lo t,.int hi u,.int c v]}).objs.size,[(s.heap.push { cls:=.type "range",data:=.fields #[.int lo t,.int hi u,.int c v]}).objs.size],_,_,H,rfl,
  I1.kept (t':=tk) fun b o e=>Heap.get?_push_of_some _ e,Sz _ lo c (jr lo hi c),?_,fun b hb=>?_,q⟩
 ·have e1:lo+((0:Nat):Int)*c=lo:=by simp
  have e2:(((jr lo hi c):Nat):Int)-((0:Nat):Int)=dk lo hi c:=by rw[Sy hc];simp
  show qJ _ _ (lo+((0:Nat):Int)*c) ((((jr lo hi c):Nat):Int)-((0:Nat):Int)) c;rw[e1,e2];exact Heap.get?_push_size _ rfl
 ·have e:b=(s.heap.push { cls:=.type "range",data:=.fields #[.int lo t,.int hi u,.int c v]}).objs.size:=by simpa using hb
  subst e;exact I1.rT (υ _) (I1.cB.fresh (υ _))
def MR(ta:TA):TI:=fun σ H R=>ta σ H fun vs H1=>∃i j c:Int,vs=[.int i,.int j,.int c]/\(-(2^61)≤i/\i<2^61/\-(2^61)≤j/\j<2^61/\0<c/\c<2^30)/\R (Cs i c (jr i j c)) H1
theorem Sv{a b d:ρ}{ta:TA}{p pos:aP}(hg:Gl X "range")(hm:X.mg "range" = none)(ha:PA X [a,b,d] ta)(hs:b8 [a,b,d] X.env=[(false,eval a X.env),(false,eval b X.env),(false,eval d X.env)])(hs2:b8 [b,d] X.env=[(false,eval b X.env),(false,eval d X.env)]):
  PI X tg (.Call (.Name "range" p) [a,b,d] [] pos) (MR ta):=by
 intro pins s σ H R I h;refine Call_ (uC I hg hm boot_range (fb (bP (ha pos pins s σ H _ I h) fun us s1 zz=>?_) (by rw[hs,hs2]) (by rw[hs2];rfl)));obtain⟨vs,H1,I1,r1,q1⟩:=zz;obtain⟨i,j,c,e,⟨q1,q2,q3,q4,q5,q6⟩,q⟩:=q1;subst e;cases r1 with
 |cons r rr=>
  cases rr with
  |cons r' rr=>
   cases rr with
   |cons r'' rr=>
    cases rr;obtain⟨t,rfl⟩:=r;obtain⟨t',rfl⟩:=r';obtain⟨t'',rfl⟩:=r'';exact call_range_3 (by lia) (Sw I1 (Sx q1 q2 q3 q4 q5 q6) q5 q) (.inl (PyProof.noPylong_small (by lia)))
end
section
variable {X:Cx}
theorem Su:Nc X (Dl X.K):=by
 intro pins s σ H x y v u Q I rx ry h;obtain⟨p,xs,i,z,rfl,rfl,hq,he,q⟩:=h;cases rx;obtain⟨t,rfl⟩:=ry;obtain⟨its,r,pl,hz⟩:=I.list hq;obtain⟨j,h1,h2,h3,h4,h5⟩:=A0 he;obtain⟨w,ew,rw'⟩:=r.get h2;have hl:=r.length;have hn:=o6;have fin:EP X pins σ Q w s:=⟨z,H,I,rw',q⟩;by_cases h0:0≤i
 ·have hj:i.toNat=j:=by
   rw[qz h0 h5] at h1;exact aA h1
  exact wpAny_getItem_list pl.isList h0 (by lia) (by rw[hj];simpa using ew) fin
 ·have hj:(i+(its.toArray.size:Int)).toNat=j:=by
   rw[seqIndex_neg (by lia) h4] at h1;rw[Γ,←hl];exact aA h1
  exact wpAny_getItem_list_neg pl.isList (by lia) (by rw[Γ]<;>lia) (by lia) (by rw[hj];simpa using ew) fin
end
end L2
namespace L3
open PySem PySem.Spec PyProof.Rows L2
section
variable {X:Cx} {tg:ρ} {p pos:aP}
def qi(lo c:Int)(n:Nat):List D:=(av n).map fun i:Nat=>.int (lo+(i:Int)*c)
theorem Ss{lo c:Int}{n i:Nat}{d:D}(h:(qi lo c n)[i]?=some d):i<n/\d=.int (lo+(i:Int)*c):=by
 unfold qi at h;rw[az] at h;by_cases hi:i<n
 ·rw[ie hi] at h;simp at h;exact⟨hi,h.symm⟩
 ·rw[ef.mpr (by simpa using hi)] at h;cases h
theorem Tf(lo c:Int)(n:Nat):(qi lo c n).length=n:=by simp[qi]
theorem Te{K:PySem.W.Frag}{H:Hp}(lo c:Int)(n:Nat):Co K H (Cs lo c n) ⟨qi lo c n,fun _=>True⟩:=⟨by
 intro i d H' G' _ RG _ hi;obtain⟨h1,h2⟩:=Ss hi;refine⟨h1,fun x H'' hy=>?_⟩;obtain⟨rfl,rfl⟩:=hy;exact⟨by rw[h2];simp[Hv],.refl _ _,RG⟩,by
 intro i H' G' _ RG _ hi;rw[Tf] at hi;exact hi⟩
def wU(ta:dF):nt:=fun τ G R=>ta τ G fun ds G1=>match ds with
 |[.int i,.int j,.int c]=>(-(2^61)≤i/\i<2^61/\-(2^61)≤j/\j<2^61/\0<c/\c<2^30)/\R ⟨qi i c (jr i j c),fun _=>True⟩ G1
 |_=>False
theorem Td{a b d:ρ}{ta:dF}(hm:X.mg "range" = none)(ha:kO X [a,b,d] ta)(hg:Gl X "range":=by rfl)(hs:notStar a=true:=by rfl)(hs2:notStar b=true:=by rfl)(hs3:notStar d=true:=by rfl):
  t8 X tg (.Call (.Name "range" p) [a,b,d] [] pos) (wU ta):=
 yb (Sv hg hm ha (by rw[gs hs,gs hs2,gs hs3];rfl) (by rw[gs hs2,gs hs3];rfl)) fun σ H R zz=>by
  obtain⟨τ,G,R3,RS,RG,h,k⟩:=zz;exact⟨τ,G,_,RS,RG,h,fun vs H1 ds G1 h1 S1 R1 q1=>by
  rcases ds with _|⟨d,_|⟨d2,_|⟨d3,_|⟨d4,ds⟩⟩⟩⟩
  ·exact q1.elim
  ·cases d<;>exact q1.elim
  ·cases d<;>(try exact q1.elim)<;>cases d2<;>exact q1.elim
  ·cases d with
   |int i=>
    cases d2 with
    |int j=>
     cases d3 with
     |int c=>
      obtain⟨v,r,rfl,z1,z2⟩:=h1.inv;obtain⟨v2,r2,rfl,z3,z4⟩:=z2.inv;obtain⟨v3,r3,rfl,z5,z6⟩:=z4.inv;cases z6.iJ;unfold Hv at z1 z3 z5;exact⟨i,j,c,by rw[z1,z3,z5],q1.1,k _ _ _ _ (Te i c _) S1 R1 q1.2⟩
     |_=>exact q1.elim
    |_=>cases d3<;>exact q1.elim
   |_=>cases d2<;>(try exact q1.elim)<;>cases d3<;>exact q1.elim
  ·cases d<;>(try exact q1.elim)<;>cases d2<;>(try exact q1.elim)<;>cases d3<;>exact q1.elim⟩
abbrev CT:R3:=zb fun i j=>.int (i+j)
theorem Tc{K:PySem.W.Frag}:dU K CT (Ou fun i j=>i+j):=low_ints fun _ _ _=>lZ
theorem Tb{o i e:ρ}{to ti te:aO}{tpos:aP}(ho:cg X o to)(hi:cg X i ti)(he:cg X e te)
  (ha:∀ov iv new,augStore i ov iv new=(do holding [new,ov,iv] (setItem ov iv new);release [new,ov,iv] [];pure .next):=by intros;rfl):
  oo X (.AugAssign (.Subscript o i tpos) .Add e pos) (zy to ti te (· + ·)):=
 mT (V4 ho hi Su he Mg set_list ha) fun D σ H zz=>by
  obtain⟨τ,G,D3,RS,RG,h,k⟩:=zz;refine⟨τ,G,_,RS,RG,h,fun v1 H1 d1 G1 h1 S1 R1 q1=>⟨τ,G1,_,RS.ext (S1.ext RG),R1,q1,fun v2 H2 d2 G2 h2 S2 R2 q2=>?_⟩⟩;cases d1 with
  |obj p=>
   cases d2 with
   |int j=>
    obtain⟨ds,x,e1,e2,q⟩:=q2;obtain⟨vs,z1,z2⟩:=R2 p _ e1;obtain⟨v,z3,z4⟩:=yq z2 e2;have hv1:v1=.ref p:=ij h1;have hv2:v2=.int j:=iX h2;refine⟨p,vs,j,v,hv1,hv2,.of z1,z3,⟨τ,G2,_,(RS.ext (S1.ext RG)).ext (S2.ext R1),R2,q,fun v5 H5 d5 G5 h5 S5 R5 q5=>?_⟩⟩;cases d5 with
    |int y=>
     have hx:v=.int x:=iX z4;have hy:v5=.int y:=iX h5;refine⟨x,y,hx,hy,?_⟩;exact LB (((h1.ext (S2.ext R1)).ext (S5.ext R2))) ((h2.ext (S5.ext R2))) lZ R5 q5 fun H' G' y1 y2 y3=>k.nx _ _ G' H' ((((RS.ext (S1.ext RG)).ext (S2.ext R1)).ext (S5.ext R2)).ext (y1.ext R5)) (((S1.trans S2).trans S5).trans y1) y2 y3
    |_=>exact q5.elim
   |_=>exact q2.elim
  |_=>cases d2<;>exact q2.elim
end
end L3
namespace L3
open PySem PySem.Spec PyProof.Rows L2
structure QE(X:Cx)(e:ρ)(t:aO):Prop where
 of:cg X e t
structure QT(X:Cx)(e:ρ)(t:di):Prop where
 of:qV X e t
structure QW(X:Cx)(e:ρ)(t:di):Prop where
 of:wL X e t
structure QA(X:Cx)(es:List ρ)(t:dF):Prop where
 of:kO X es t
structure QS(X:Cx)(st:bp)(t:aB):Prop where
 of:oo X st t
structure vp(X:Cx)(st:List bp)(t:aB):Prop where
 of:qx X st t
structure QG(X:Cx)(tg:ρ)(t:ji):Prop where
 of:vq X tg t
structure GJ(X:Cx)(tgs:List ρ)(t:pd):Prop where
 of:yK X tgs t
structure QI(X:Cx)(tg iter:ρ)(t:nt):Prop where
 of:t8 X tg iter t
structure QO(X:Cx)(e:Option ρ)(t:wI):Prop where
 of:Dd X e t
structure QC(X:Cx)(ifs:List ρ)(t:di):Prop where
 of:t9 X ifs (rL X.K t)
section
variable {X:Cx} {a b e c:ρ} {ta tb te:aO} {tA tB:di} {pos:aP} {es rest:List ρ}
theorem ψ{i:Nat}{x:Ξ}(h:PE X (.Name x pos) (zr i)):QE X (.Name x pos) (ν i):=⟨U2 (h:=h)⟩
end
section
variable {X:Cx} {a b e c:ρ} {ta tb te:aO} {tA tB:di} {pos:aP} {es rest:List ρ}
theorem aY{i:Int}{j}:QE X (.Constant (.int i) j pos) (eC (.int i)):=⟨U1 ⟩
end
section
variable {X:Cx} {a b e c:ρ} {ta tb te:aO} {tA tB:di} {pos:aP} {es rest:List ρ}
theorem kM{i:Bool}{j}:QE X (.Constant (.bool i) j pos) (eC (.bl i)):=⟨aaW ⟩
end
section
variable {X:Cx} {a b e c:ρ} {ta tb te:aO} {tA tB:di} {pos:aP} {es rest:List ρ}
theorem uy{j}:QE X (.Constant .none j pos) (eC .aF):=⟨U0 ⟩
end
section
variable {X:Cx} {a b e c:ρ} {ta tb te:aO} {tA tB:di} {pos:aP} {es rest:List ρ}
theorem Ta{x:Ξ}{i:Int}{u:kz}(hm:X.mg x=some (.int i u))(hg:Gl X x:=by rfl)(hd:(x==("__debug__":Ξ))=false:=by decide):QE X (.Name x pos) (eC (.int i)):=⟨UZ (hm:=hm) (hg:=hg) (hd:=hd)⟩
end
section
variable {X:Cx} {a b e c:ρ} {ta tb te:aO} {tA tB:di} {pos:aP} {es rest:List ρ}
theorem cZ{op:lu}{r:R3}{r2:R2}(L:dU X.K r r2)(ho:eO X (binaryOp op) r2)(ha:QE X a ta)(hb:QE X b tb):QE X (.BinOp a op b pos) (aJ r ta tb):=⟨aaU (L:=L) (ho:=ho) (ha:=ha.of) (hb:=hb.of)⟩
end
section
variable {X:Cx} {a b e c:ρ} {ta tb te:aO} {tA tB:di} {pos:aP} {es rest:List ρ}
theorem vZ{op:oK}{r:R3}{r2:R2}(L:dU X.K r r2)(ho:eO X (compareOp op) r2)(ha:QE X a ta)(hb:QE X b tb)(hm:behindInMarks op b=false):QE X (.Compare a [op] [b] pos) (aJ r ta tb):=⟨UY (L:=L) (ho:=ho) (ha:=ha.of) (hb:=hb.of) (hm:=hm)⟩
end
section
variable {X:Cx} {a b e c:ρ} {ta tb te:aO} {tA tB:di} {pos:aP} {es rest:List ρ}
theorem gw{op:oK}{r:R3}{r2:R2}(L:dU X.K r r2)(ho:eO X (compareOp op) r2)(ha:QE X a ta)(hb:QE X b tb)(hm:behindInMarks op b=false):QT X (.Compare a [op] [b] pos) (bJ (aJ r ta tb)):=⟨UX (L:=L) (ho:=ho) (ha:=ha.of) (hb:=hb.of) (hm:=hm)⟩
end
section
variable {X:Cx} {a b e c:ρ} {ta tb te:aO} {tA tB:di} {pos:aP} {es rest:List ρ}
theorem kB(h:QE X a ta)(he:∀whole,isTrue a X.env whole=(do let v ←whole;standAt a.pos;holding [v] (truthy v)):=by intro _;rfl):QT X a (bJ ta):=⟨UW (h:=h.of) (he:=he)⟩
end
section
variable {X:Cx} {a b e c:ρ} {ta tb te:aO} {tA tB:di} {pos:aP} {es rest:List ρ}
theorem S9(ha:QE X a ta):QE X (.UnaryOp .USub a pos) (M0 zD ta):=⟨US (ha:=ha.of)⟩
end
section
variable {X:Cx} {a b e c:ρ} {ta tb te:aO} {tA tB:di} {pos:aP} {es rest:List ρ}
theorem yl(ha:QT X a tA):QW X (.BoolOp .And [a] pos) tA:=⟨UR (ha:=ha.of)⟩
end
section
variable {X:Cx} {a b e c:ρ} {ta tb te:aO} {tA tB:di} {pos:aP} {es rest:List ρ}
theorem vY(ha:QT X a tA):QW X (.BoolOp .Or [a] pos) tA:=⟨UQ (ha:=ha.of)⟩
end
section
variable {X:Cx} {a b e c:ρ} {ta tb te:aO} {tA tB:di} {pos:aP} {es rest:List ρ}
theorem vX(ha:QT X a tA)(hb:QW X (.BoolOp .And (b::rest) pos) tB):QW X (.BoolOp .And (a::b::rest) pos) (tj tA tB):=⟨UP (ha:=ha.of) (hb:=hb.of)⟩
end
section
variable {X:Cx} {a b e c:ρ} {ta tb te:aO} {tA tB:di} {pos:aP} {es rest:List ρ}
theorem sQ(ha:QT X a tA)(hb:QW X (.BoolOp .Or (b::rest) pos) tB):QW X (.BoolOp .Or (a::b::rest) pos) (tf tA tB):=⟨UO (ha:=ha.of) (hb:=hb.of)⟩
end
section
variable {X:Cx} {a b e c:ρ} {ta tb te:aO} {tA tB:di} {pos:aP} {es rest:List ρ}
theorem oY(h:QW X a tA):QT X a tA:=⟨OA (h:=h.of)⟩
end
section
variable {X:Cx} {a b e c:ρ} {ta tb te:aO} {tA tB:di} {pos:aP} {es rest:List ρ}
theorem rD(ha:QT X a tA):QT X (.UnaryOp .Not a pos) (o9 tA):=⟨UN (ha:=ha.of)⟩
end
section
variable {X:Cx} {a b e c:ρ} {ta tb te:aO} {tA tB:di} {pos:aP} {es rest:List ρ}
theorem yk{op}(h:QE X a ta):QE X (.BoolOp op [a] pos) ta:=⟨UM (h:=h.of)⟩
end
section
variable {X:Cx} {a b e c:ρ} {ta tb te:aO} {tA tB:di} {pos:aP} {es rest:List ρ}
theorem yj(ha:QE X a ta)(hb:QE X (.BoolOp .And (b::rest) pos) tb):QE X (.BoolOp .And (a::b::rest) pos) (rW ta tb):=⟨UL (ha:=ha.of) (hb:=hb.of)⟩
end
section
variable {X:Cx} {a b e c:ρ} {ta tb te:aO} {tA tB:di} {pos:aP} {es rest:List ρ}
theorem S8(ha:QE X a ta)(hb:QE X (.BoolOp .Or (b::rest) pos) tb):QE X (.BoolOp .Or (a::b::rest) pos) (Fe ta tb):=⟨aaT (ha:=ha.of) (hb:=hb.of)⟩
end
section
variable {X:Cx} {a b e c:ρ} {ta tb te:aO} {tA tB:di} {pos:aP} {es rest:List ρ}
theorem S7(ha:QE X a ta):QE X (.UnaryOp .Not a pos) (BO ta):=⟨UK (ha:=ha.of)⟩
end
section
variable {X:Cx} {a b e c:ρ} {ta tb te:aO} {tA tB:di} {pos:aP} {es rest:List ρ}
theorem aC  : QA X [] ab:=⟨Vl ⟩
end
section
variable {X:Cx} {a b e c:ρ} {ta tb te:aO} {tA tB:di} {pos:aP} {es rest:List ρ}
theorem Ω{tr:dF}(ha:QE X a ta)(hr:QA X es tr)(hs:notStar a=true:=by rfl):QA X (a::es) (μ ta tr):=⟨Vk (ha:=ha.of) (hr:=hr.of) (hs:=hs)⟩
end
section
variable {X:Cx} {a b e c:ρ} {ta tb te:aO} {tA tB:di} {pos:aP} {es rest:List ρ}
theorem gd{t:dF}{x1}(h:QA X es t):QE X (.Tuple es x1 pos) (dw t):=⟨Vj (h:=h.of)⟩
end
section
variable {X:Cx} {a b e c:ρ} {ta tb te:aO} {tA tB:di} {pos:aP} {es rest:List ρ}
theorem ql{t:dF}(h:QA X es t):QE X (.List es pos) (nO t):=⟨Vi (h:=h.of)⟩
end
section
variable {X:Cx} {st:bp} {rest:List bp} {t u:aB} {e c:ρ} {te:aO} {tc:di} {pos:aP}
theorem iz  : vp X [] dN:=⟨Uy ⟩
end
section
variable {X:Cx} {st:bp} {rest:List bp} {t u:aB} {e c:ρ} {te:aO} {tc:di} {pos:aP}
theorem bZ(h1:QS X st t)(h2:vp X rest u):vp X (st::rest) (bj t u):=⟨Ux (h1:=h1.of) (h2:=h2.of)⟩
end
section
variable {X:Cx} {st:bp} {rest:List bp} {t u:aB} {e c:ρ} {te:aO} {tc:di} {pos:aP}
theorem bS(h1:QS X st t):vp X [st] t:=⟨Uw (h1:=h1.of)⟩
end
section
variable {X:Cx} {st:bp} {rest:List bp} {t u:aB} {e c:ρ} {te:aO} {tc:di} {pos:aP}
theorem Eo(he:QE X e te)(hs:swapsWith e none pos.line X.env=pure false:=by rfl):QS X (.Expr e pos) (uT te):=⟨Uv (he:=he.of) (hs:=hs)⟩
end
section
variable {X:Cx} {st:bp} {rest:List bp} {t u:aB} {e c:ρ} {te:aO} {tc:di} {pos:aP}
theorem du(he:QE X e te):QS X (.Return (some e) pos) (bY te):=⟨Uu (he:=he.of)⟩
end
section
variable {X:Cx} {st:bp} {rest:List bp} {t u:aB} {e c:ρ} {te:aO} {tc:di} {pos:aP}
theorem iy{a b:List bp}(hc:QT X c tc)(ha:vp X a t)(hb:vp X b u):QS X (.If c a b pos) (g0 tc t u):=⟨OM (hc:=hc.of) (ha:=ha.of) (hb:=hb.of)⟩
end
section
variable {X:Cx} {st:bp} {rest:List bp} {t u:aB} {e c:ρ} {te:aO} {tc:di} {pos:aP}
theorem S6  : QS X st xm:=⟨Ut ⟩
end
section
variable {X:Cx} {pos:aP} {e:ρ} {es:List ρ}
theorem dD{i:Nat}{x:Ξ}(hN:X.N.Nodup)(hi:X.N[i]?=some x:=by rfl)(hx:Loc X.env.scope x:=by first|exact pE rfl|exact nC rfl)(hf:X.fn x=true∨X.env.scope.names.lookup x=some .local:=by first|exact .inl rfl|exact .inr rfl|assumption):QG X (.Name x pos) (hName i):=⟨Us (hN:=hN) (hi:=hi) (hx:=hx) (hf:=hf)⟩
end
section
variable {X:Cx} {pos:aP} {e:ρ} {es:List ρ}
theorem mR  : GJ X [] j6:=⟨Ur ⟩
end
section
variable {X:Cx} {pos:aP} {e:ρ} {es:List ρ}
theorem je{t:ji}{u:pd}(h1:QG X e t)(h2:GJ X es u)(hs:(assignEach (e::es) X.env).map (·.2)=assign e X.env::(assignEach es X.env).map (·.2):=by rfl):GJ X (e::es) (dE t u):=⟨Uq (h1:=h1.of) (h2:=h2.of) (hs:=hs)⟩
end
section
variable {X:Cx} {pos:aP} {e:ρ} {es:List ρ}
theorem mQ{k:Nat}{t:pd}{n:Nat}(hc:X.calm=true)(h:GJ X es t)(hn:(assignEach es X.env).length=n:=by rfl)(hst:(assignEach es X.env).findIdx? (·.1)=none:=by rfl):QG X (.Tuple es k pos) (j4 n t):=⟨Up (hc:=hc) (h:=h.of) (hn:=hn) (hst:=hst)⟩
end
section
variable {X:Cx} {pos:aP} {e:ρ} {es:List ρ}
theorem Az{tg:ρ}{te:aO}{g:ji}(he:QE X e te)(hg:QG X tg g)(hs:swapsWithSole [tg] e pos.line X.env=pure false:=by rfl)(hw:swappedStores [tg] e X.env=pure none:=by rfl)(h1:(assignEach [tg] X.env).map (·.2)=[assign tg X.env]:=by rfl):QS X (.Assign [tg] e pos) (cu te g):=⟨Uo (he:=he.of) (hg:=hg.of) (hs:=hs) (hw:=hw) (h1:=h1)⟩
end
section
variable {X:Cx} {pos:aP} {e:ρ} {es:List ρ}
theorem fh{i:Nat}{x:Ξ}{te:aO}{pos':aP}(hN:X.N.Nodup)(he:QE X e te)(hi:X.N[i]?=some x:=by rfl)(hx:Loc X.env.scope x:=by first|exact pE rfl|exact nC rfl)(hs:swapsWith e (some (.Name x pos')) pos.line X.env=pure false:=by rfl)(hf:X.fn x=true∨X.env.scope.names.lookup x=some .local:=by first|exact .inl rfl|exact .inr rfl|assumption):QS X (.Assign [.Name x pos'] e pos) (cu te (hName i)):=⟨Um (hN:=hN) (he:=he.of) (hi:=hi) (hx:=hx) (hs:=hs) (hf:=hf)⟩
end
section
variable {X:Cx} {pos:aP} {e:ρ} {es:List ρ}
theorem Se{i:Nat}{x:Ξ}{te:aO}{op:lu}{r:R3}{r2:wJ}{pos':aP}(L:dU X.K r r2)(hN:X.N.Nodup)(he:QE X e te)(ho:De X op r2)(hi:X.N[i]?=some x:=by rfl)(hx:Loc X.env.scope x:=by first|exact pE rfl|exact nC rfl)(hf:X.fn x=true∨X.env.scope.names.lookup x=some .local:=by first|exact .inl rfl|exact .inr rfl|assumption):QS X (.AugAssign (.Name x pos') op e pos) (zA i te r):=⟨Uk (L:=L) (hN:=hN) (he:=he.of) (ho:=ho) (hi:=hi) (hx:=hx) (hf:=hf)⟩
end
section
variable {X:Cx} {pos:aP} {e:ρ} {es:List ρ}
theorem En{o i:ρ}{to ti:aO}(ho:QE X o to)(hi:QE X i ti) (ha:∀v,assign (.Subscript o i pos) X.env v=(do
   let ov ←holding [v] (eval o X.env)
   let iv ←holding [v,ov] (eval i X.env)
   standAt pos
   holding [v,ov,iv] (setItem ov iv v)
   release [v,ov,iv] []):=by intro _;rfl):QG X (.Subscript o i pos) (hSub to ti):=⟨Uj (ho:=ho.of) (hi:=hi.of) (ha:=ha)⟩
end
section
variable {X:Cx} {pos:aP} {e:ρ} {es:List ρ}
theorem Ay{c:ρ}{body:List bp}{tc:di}{tb:aB}(hp:nB (model X.prog X.w) X.A X.env X.xe)(hc:QT X c tc)(hb:vp X body tb):QS X (.While c body [] pos) (qP tc tb):=⟨Ui (hp:=hp) (hc:=hc.of) (hb:=hb.of)⟩
end
section
variable {X:Cx} {k:Nat} {f:η} {fd:aL} {ps:List Ξ} {sp:eX} {x:Ξ} {p pos:aP} {e:ρ} {es:List ρ} {t:dF}
theorem cR(F:cz X.prog X.w X.K X.mg X.base k f fd ps sp)(hr:g4 k X.A)(hm:X.mg x=some (.ref f))(hk:PySem.W.keepIn X.K (.ref f)=true)(hb:Binds X.K fd ps [])(ha:QA X (e::es) t)(hg:Gl X x:=by rfl)(hdb:(x==("__debug__":Ξ))=false:=by decide)(he:notStar e=true:=by rfl)(hpl:es.all notStar=true:=by rfl):QE X (.Call (.Name x p) (e::es) [] pos) (bh sp t):=⟨Ug (F:=F) (hr:=hr) (hm:=hm) (hk:=hk) (hb:=hb) (ha:=ha.of) (hg:=hg) (hdb:=hdb) (he:=he) (hpl:=hpl)⟩
end
section
variable {X:Cx} {tg iter:ρ} {pos p:aP}
theorem iW{l:ρ}{te:aO}(hl:QE X l te):QI X tg l (fL te):=⟨Ue (hl:=hl.of)⟩
end
section
variable {X:Cx} {tg iter:ρ} {pos p:aP}
theorem ux{a:ρ}{ta:dF}(hm:X.mg "range" = none)(ha:QA X [a] ta)(hg:Gl X "range":=by rfl)(hs:notStar a=true:=by rfl):QI X tg (.Call (.Name "range" p) [a] [] pos) (mf ta):=⟨Ud (hm:=hm) (ha:=ha.of) (hg:=hg) (hs:=hs)⟩
end
section
variable {X:Cx} {tg iter:ρ} {pos p:aP}
theorem LN{a b:ρ}{ta:dF}(hm:X.mg "range" = none)(ha:QA X [a,b] ta)(hg:Gl X "range":=by rfl)(hs:notStar a=true:=by rfl)(hs2:notStar b=true:=by rfl):QI X tg (.Call (.Name "range" p) [a,b] [] pos) (tQ ta):=⟨Uc (hm:=hm) (ha:=ha.of) (hg:=hg) (hs:=hs) (hs2:=hs2)⟩
end
section
variable {X:Cx} {tg iter:ρ} {pos p:aP}
theorem jC{body:List bp}{ti:nt}{g:ji}{tb:aB}(hp:nB (model X.prog X.w) X.A X.env X.xe)(hc:X.calm=true)(hi:QI X tg iter ti)(hg:QG X tg g)(hb:vp X body tb)(hs:∀x,foldedSetIterable iter X.env x=pure x:=by intro _;rfl):QS X (.For tg iter body [] pos) (iV ti g tb):=⟨Ub (hp:=hp) (hc:=hc) (hi:=hi.of) (hg:=hg.of) (hb:=hb.of) (hs:=hs)⟩
end
section
variable {X:Cx} {tg iter:ρ} {pos p:aP}
theorem lW  : QC X [] (cY):=⟨Ua ⟩
end
section
variable {X:Cx} {tg iter:ρ} {pos p:aP}
theorem Em{c:ρ}{t:di}(h:QT X c t):QC X [c] (t):=⟨T9 (h:=h.of)⟩
end
section
variable {X:Cx} {K:PySem.W.Frag}
theorem ix{a b:ρ}{ta tb:aO}{pos:aP}(ha:QE X a ta)(hb:QE X b tb)(hs:oO b:=by intro _ _;rfl):QE X (.Subscript a b pos) (aJ ff ta tb):=⟨aaV (ha:=ha.of) (hb:=hb.of) (hs:=hs)⟩
end
section
variable {X:Cx} {K:PySem.W.Frag}
theorem Sd{es:List ρ}{b:ρ}{ta:dF}{tb:aO}{pos pos':aP}(ha:QA X es ta)(hb:QE X b tb)(hs:oO b:=by intro _ _;rfl):QE X (.Subscript (.List es pos') b pos) (yD ta tb):=⟨UC (ha:=ha.of) (hb:=hb.of) (hs:=hs)⟩
end
section
variable {X:Cx} {a b e:ρ} {ta tb:aO} {pos:aP}
theorem yi  : QO X none rH:=⟨UB ⟩
end
section
variable {X:Cx} {a b e:ρ} {ta tb:aO} {pos:aP}
theorem uw(h:QE X e ta):QO X (some e) (oB ta):=⟨UA (h:=h.of)⟩
end
section
variable {X:Cx} {a b e:ρ} {ta tb:aO} {pos:aP}
theorem vW{lo hi:Option ρ}{tl th:wI}{p2:aP}(ha:QE X a ta)(hl:QO X lo tl)(hh:QO X hi th):QE X (.Subscript a (.Slice lo hi none p2) pos) (wF ta tl th):=⟨aaS (ha:=ha.of) (hl:=hl.of) (hh:=hh.of)⟩
end
section
variable {X:Cx} {K:PySem.W.Frag} {e:ρ} {es:List ρ} {t:dF} {ta:aO} {pos p:aP}
theorem lQ(hu:X.A.units+64<cLine)(hm:X.mg "len" = none)(ha:QA X (e::es) t)(hg:Gl X "len":=by rfl)(he:notStar e=true:=by rfl)(hpl:es.all notStar=true:=by rfl):QE X (.Call (.Name "len" p) (e::es) [] pos) (cF jU t):=⟨TM (hu:=hu) (hm:=hm) (ha:=ha.of) (hg:=hg) (he:=he) (hpl:=hpl)⟩
end
section
variable {X:Cx} {K:PySem.W.Frag} {e:ρ} {es:List ρ} {t:dF} {ta:aO} {pos p:aP}
theorem Sb(hu:X.A.units+64<cLine)(hm:X.mg "int" = none)(ha:QA X (e::es) t)(hg:Gl X "int":=by rfl)(he:notStar e=true:=by rfl)(hpl:es.all notStar=true:=by rfl):QE X (.Call (.Name "int" p) (e::es) [] pos) (cF AH t):=⟨TK (hu:=hu) (hm:=hm) (ha:=ha.of) (hg:=hg) (he:=he) (hpl:=hpl)⟩
end
section
variable {X:Cx} {K:PySem.W.Frag} {e:ρ} {es:List ρ} {t:dF} {ta:aO} {pos p:aP}
theorem LM(hu:X.A.units+64<cLine)(hm:X.mg "max" = none)(ha:QA X (e::es) t)(hc:X.calm=true:=by rfl)(hg:Gl X "max":=by rfl)(he:notStar e=true:=by rfl)(hpl:es.all notStar=true:=by rfl):QE X (.Call (.Name "max" p) (e::es) [] pos) (cF AG t):=⟨TJ (hu:=hu) (hm:=hm) (ha:=ha.of) (hc:=hc) (hg:=hg) (he:=he) (hpl:=hpl)⟩
end
section
variable {X:Cx} {K:PySem.W.Frag} {e:ρ} {es:List ρ} {t:dF} {ta:aO} {pos p:aP}
theorem Sa(hu:X.A.units+64<cLine)(hm:X.mg "min" = none)(ha:QA X (e::es) t)(hc:X.calm=true:=by rfl)(hg:Gl X "min":=by rfl)(he:notStar e=true:=by rfl)(hpl:es.all notStar=true:=by rfl):QE X (.Call (.Name "min" p) (e::es) [] pos) (cF EH t):=⟨TH (hu:=hu) (hm:=hm) (ha:=ha.of) (hc:=hc) (hg:=hg) (he:=he) (hpl:=hpl)⟩
end
section
variable {X:Cx} {K:PySem.W.Frag} {e:ρ} {es:List ρ} {t:dF} {ta:aO} {pos p:aP}
theorem sP(hu:X.A.units+64<cLine)(hm:X.mg "tuple" = none)(ha:QA X (e::es) t)(hg:Gl X "tuple":=by rfl)(he:notStar e=true:=by rfl)(hpl:es.all notStar=true:=by rfl):QE X (.Call (.Name "tuple" p) (e::es) [] pos) (cF mS t):=⟨TC (hu:=hu) (hm:=hm) (ha:=ha.of) (hg:=hg) (he:=he) (hpl:=hpl)⟩
end
section
variable {X:Cx} {a e:ρ} {es:List ρ} {ta:aO} {t:dF} {pos p p2:aP}
theorem yh{T:String}{TS:Ξ}(k:yM T)(hv:g6 TS=some (.type T))(ha:QE X a ta)(hm:X.mg "isinstance" = none)(hm2:X.mg TS=none)(hgT:Gl X TS)(hnT:TS≠"__name__")(hdT:(TS==("__debug__":Ξ))=false)(hg:Gl X "isinstance":=by rfl)(he:notStar a=true:=by rfl):QE X (.Call (.Name "isinstance" p) [a,.Name TS p2] [] pos) (rV T ta):=⟨TZ (k:=k) (hv:=hv) (ha:=ha.of) (hm:=hm) (hm2:=hm2) (hgT:=hgT) (hnT:=hnT) (hdT:=hdT) (hg:=hg) (he:=he)⟩
end
section
variable {X:Cx} {K:PySem.W.Frag} {e:ρ} {es:List ρ} {t:dF} {ta:aO} {pos p p' pos':aP}
theorem LL(hu:X.A.units+64<cLine)(hm:X.mg "sorted" = none)(ha:QA X (e::es) t)(hc:X.calm=true:=by rfl)(hg:Gl X "sorted":=by rfl)(he:notStar e=true:=by rfl)(hpl:es.all notStar=true:=by rfl):QE X (.Call (.Name "sorted" p) (e::es) [] pos) (cF yo t):=⟨TU (hu:=hu) (hm:=hm) (ha:=ha.of) (hc:=hc) (hg:=hg) (he:=he) (hpl:=hpl)⟩
end
section
variable {X:Cx} {K:PySem.W.Frag} {e:ρ} {es:List ρ} {t:dF} {ta:aO} {pos p p' pos':aP}
theorem LK(hu:X.A.units+64<cLine)(hm:X.mg "all" = none)(ha:QA X (e::es) t)(hc:X.calm=true:=by rfl)(hg:Gl X "all":=by rfl)(he:notStar e=true:=by rfl)(hpl:es.all notStar=true:=by rfl):QE X (.Call (.Name "all" p) (e::es) [] pos) (cF yn t):=⟨SW (hu:=hu) (hm:=hm) (ha:=ha.of) (hc:=hc) (hg:=hg) (he:=he) (hpl:=hpl)⟩
end
section
variable {X:Cx} {K:PySem.W.Frag} {e:ρ} {es:List ρ} {t:dF} {ta:aO} {pos p p' pos':aP}
theorem El(hu:X.A.units+64<cLine)(hm:X.mg "sum" = none)(ha:QA X (e::es) t)(hc:X.calm=true:=by rfl)(hg:Gl X "sum":=by rfl)(he:notStar e=true:=by rfl)(hpl:es.all notStar=true:=by rfl):QE X (.Call (.Name "sum" p) (e::es) [] pos) (cF v8 t):=⟨SV (hu:=hu) (hm:=hm) (ha:=ha.of) (hc:=hc) (hg:=hg) (he:=he) (hpl:=hpl)⟩
end
section
variable {X:Cx} {K:PySem.W.Frag} {e:ρ} {es:List ρ} {t:dF} {ta:aO} {pos p p' pos':aP}
theorem Ek(hu:X.A.units+64<cLine)(hm:X.mg "max" = none)(ha:QA X (e::es) t)(hc:X.calm=true:=by rfl)(hg:Gl X "max":=by rfl)(he:notStar e=true:=by rfl)(hpl:es.all notStar=true:=by rfl):QE X (.Call (.Name "max" p) (e::es) [] pos) (cF v7 t):=⟨SQ (hu:=hu) (hm:=hm) (ha:=ha.of) (hc:=hc) (hg:=hg) (he:=he) (hpl:=hpl)⟩
end
section
variable {X:Cx} {es:List ρ} {n0:Nat} {ps p pos:aP}
theorem R9{a:ρ}{ta:dF}(hm:X.mg "enumerate" = none)(ha:QA X [a] ta)(hg:Gl X "enumerate":=by rfl)(hs:notStar a=true:=by rfl):QI X (.Tuple es n0 ps) (.Call (.Name "enumerate" p) [a] [] pos) (Bf ta):=⟨SE (hm:=hm) (ha:=ha.of) (hg:=hg) (hs:=hs)⟩
end
section
variable {X:Cx} {tg:ρ} {p pos:aP}
theorem K5{a b d:ρ}{ta:dF}(hm:X.mg "range" = none)(ha:QA X [a,b,d] ta)(hg:Gl X "range":=by rfl)(hs:notStar a=true:=by rfl)(hs2:notStar b=true:=by rfl)(hs3:notStar d=true:=by rfl):QI X tg (.Call (.Name "range" p) [a,b,d] [] pos) (wU ta):=⟨Td (hm:=hm) (ha:=ha.of) (hg:=hg) (hs:=hs) (hs2:=hs2) (hs3:=hs3)⟩
end
section
variable {X:Cx} {tg:ρ} {p pos:aP}
theorem R8{o i e:ρ}{to ti te:aO}{tpos:aP}(ho:QE X o to)(hi:QE X i ti)(he:QE X e te)(ha:∀ov iv new,augStore i ov iv new=(do holding [new,ov,iv] (setItem ov iv new);release [new,ov,iv] [];pure .next):=by intros;rfl):QS X (.AugAssign (.Subscript o i tpos) .Add e pos) (zy to ti te (· + ·)):=⟨Tb (ho:=ho.of) (hi:=hi.of) (he:=he.of) (ha:=ha)⟩
end
section
variable {X:Cx} {a b c e o:ρ} {es:List ρ} {ta tb tc te to:aO} {t:dF} {pos apos cpos p:aP}
theorem R7{op op':oK}{r r':R3}{r2 r2':R2}(L:dU X.K r r2)(L':dU X.K r' r2')(ho:eO X (compareOp op) r2)(ho':eO X (compareOp op') r2')(ha:QE X a ta)(hb:QE X b tb)(hc:QE X c tc)(hm:lastMarks [op,op'] [b,c]=false:=by with_unfolding_all rfl):
  QE X (.Compare a [op,op'] [b,c] pos) (vg r r' ta tb tc):=⟨UT (op:=op) (op':=op') L L' (VL ho ho' ha.of hb.of hc.of hm)⟩
theorem Ax{name:Ξ}{id:String}{r:D->List D->Gp->V3->Prop}{r2:V->List V->Hp->VK->Prop}(L:uJ X.K r r2)(slot:Slot "list" name id)(hty:typeOf (.builtin id)=pure (.type "method_descriptor"))(hm:GL X id r2)(ho:QE X o to)(ha:QA X (e::es) t)
  (rR:attributeBase o name X.env (eval o X.env)=eval o X.env:=by rfl)
  (EZ:((backTo cpos (b8 (e::es) X.env)).all (fun x=>!x.1)&&(backToKw cpos (keywordEach [] X.env)).all (fun x=>x.1.isSome)
   && decide ((e::es).length+([]:List rk).length+(if ([]:List rk).isEmpty then 0 else 1)<30))=true:=by rfl)
  (rN:(apos.endLine==cpos.line)=true:=by rfl) (he:notStar e=true:=by rfl) (hpl:es.all notStar=true:=by rfl):
  QE X (.Call (.Attribute o name apos) (e::es) [] cpos) (eM r to t):=⟨Tx L (VR PySem.F.plainAttrs_list slot hty hm ho.of ha.of rR EZ rN (gs he) (ma hpl))⟩
theorem R6{i j:Nat}{x y:Ξ}{px py pt:aP}{kt k2 pt2}(hc:X.calm=true)(hN:X.N.Nodup)(hi:X.N[i]?=some x)(hj:X.N[j]?=some y)(hij:i≠j)(hx:X.env.scope.names.lookup x=some .local)(hy:X.env.scope.names.lookup y=some .local)(ha:QA X [a,b] t)
  (hw:swappedStores [.Tuple [.Name x px,.Name y py] kt pt] (.Tuple [a,b] k2 pt2) X.env=pure (some [x,y])) (hs:swapsWithSole [.Tuple [.Name x px,.Name y py] kt pt] (.Tuple [a,b] k2 pt2) pos.line X.env=pure false:=by rfl):
  QS X (.Assign [.Tuple [.Name x px,.Name y py] kt pt] (.Tuple [a,b] k2 pt2) pos) (Dk i j t):=⟨Ul (V6 hc hN hi hj hij hx hy ha.of hw hs)⟩
end
section
variable {X:Cx} {tg iter elt:ρ} {ifs:List ρ} {scope:iE} {own:List Ξ} {js:List Nat} {ti:nt} {g:ji} {tc:di} {te:aO} {pos:aP}
theorem jB(hc:X.calm=true)(C:de X.N X.env.scope scope own js)(hi:QI X tg iter ti)
  (hb:∀s H fp,QG (X.cmp scope own js s H fp) tg g/\QC (X.cmp scope own js s H fp) ifs tc/\QE (X.cmp scope own js s H fp) elt te)
  (hs:∀x,foldedSetIterable iter X.env x=pure x:=by intro _;rfl):QE X (.ListComp elt [⟨tg,iter,ifs,0⟩] scope pos) (eS own js ti g tc te):=
 ⟨T8 hc C hi.of (fun s H fp=>⟨(hb s H fp).1.of,(hb s H fp).2.1.of,(hb s H fp).2.2.of⟩) hs⟩
theorem Av{i:Nat}{y:Ξ}{py spos:aP}(hc:X.calm=true)(hN:X.N.Nodup)(C:de X.N X.env.scope scope own js)(hi:QI X tg iter ti)
  (hb:∀s H fp,QG (X.cmp scope own js s H fp) tg g/\QC (X.cmp scope own js s H fp) ifs tc/\QE (X.cmp scope own js s H fp) elt te) (hy:X.N[i]?=some y:=by rfl) (hyl:X.env.scope.names.lookup y=some .local:=by rfl)
  (C4:swapsWith (.ListComp elt [⟨tg,iter,ifs,0⟩] scope pos) (some (.Name y py)) spos.line X.env=pure true:=by rfl)
  (hs:∀x,foldedSetIterable iter X.env x=pure x:=by intro _;rfl):QS X (.Assign [.Name y py] (.ListComp elt [⟨tg,iter,ifs,0⟩] scope pos) spos) (cu (eS own js ti g tc te) (hName i)):=
 ⟨T7 hc hN C hi.of (fun s H fp=>⟨(hb s H fp).1.of,(hb s H fp).2.1.of,(hb s H fp).2.2.of⟩) hy hyl C4 hs⟩
end
theorem eE{P:aw}{w:aG}{K:PySem.W.Frag}{mg:Ξ->Option δ}{base:Heap}{x qual:Ξ}{st:bp}{f:η}{fd:aL}{N ps:List Ξ}{k:Nat}{sp:eX}(F:fj K x qual st f fd)(S:bL N ps (ax st))(hN:ps.length≤N.length)(len:∀ds G Q,sp ds G Q->ds.length=ps.length)(tb:aB)
  (rQ:∀(cdv:δ) (A:aR) (outer:List jk) (s:ζ) (H:Hp) (E:XK),g4 k (A.deeper (envOfC qual (ax st) s.heap.objs.size f cdv)) ->
   vp (tp wM P w K mg base N qual (ax st) f cdv A outer s H E).zg (lD st) tb)
  (Gn:∀ds G Q,sp ds G Q->tb (bq Q) (bI N ds) G):cz P w K mg base (k+1) f fd ps sp:=fn3 F S hN len tb (fun cdv A outer s H E hr=>(rQ cdv A outer s H E hr).of) Gn
theorem Ej{P:aw}{w:aG}{K:PySem.W.Frag}{mg:Ξ->Option δ}{base:Heap}{f:η}{fd:aL}{ps:List Ξ}{k:Nat}{sp:eX}(h:∀ds G Q,¬sp ds G Q):cz P w K mg base k f fd ps sp:=
 ⟨fun vs H Q E q=>by obtain⟨ds,G,Q3,_,_,z,_⟩:=q;exact absurd z (h _ _ _),fun A outer s H args us vs Q E _ _ _ _ q=>by obtain⟨ds,G,Q3,_,_,z,_⟩:=q;exact absurd z (h _ _ _)⟩
end L3
namespace My
open PySem L2 L3
def Known(G:Gp):D->Prop
 |.obj a=>∃o,G a=some o/\o.plain
 |_=>True
def Hy:D->Bool
 |.int _=>true
 |_=>false
theorem dQ{Q:V3}{d:D}{G:Gp}(h:Q d G):(bq Q).rt d G:=⟨G,Sub.refl G,h⟩
theorem Au{Q:V3}{d:D}{G G':Gp}(s:Sub G G')(h:Q d G):(bq Q).rt d G':=⟨G,s,h⟩
theorem lV{i:Int}(h1:-(10^80)<i)(h2:i<10^80):jM i:=by
 have:i.natAbs<10^80:=by lia
 exact kh this (by decide)
theorem Sub.xb{G G':Gp}{a:η}{o:GO}(s:Sub G G')(h:G a=none):Sub G (eu G' a o):=fun b u e=>by
 rw[kC (fun z=>by rw[z,h] at e;cases e)];exact s b u e
def K4:eX:=fun ds G Q=>match ds with
 |[d]=>Known G d/\Q (.bl (Hy d)) G
 |_=>False
def K3:aB:=bY (rW (rV "int" (ν 0)) (BO (rV "bool" (ν 0))))
theorem RZ{nm:Ξ}:∀ds G Q,K4 ds G Q->K3 (bq Q) (bI [nm] ds) G:=by
 intro ds G Q h;rcases ds with _|⟨d,_|⟨d2,ds⟩⟩
 ·exact h.elim
 ·cases d with
  |int i=>exact⟨fun _=>dQ h.2,nofun⟩
  |bl b=>exact⟨fun _=>dQ h.2,nofun⟩
  |aF=>exact⟨nofun,fun _=>dQ h.2⟩
  |str _=>exact⟨nofun,fun _=>dQ h.2⟩
  |tup _=>exact⟨nofun,fun _=>dQ h.2⟩
  |gW _=>exact⟨nofun,fun _=>dQ h.2⟩
  |dc _=>exact⟨nofun,fun _=>dQ h.2⟩
  |obj a=>
   obtain⟨o1,h1,hp⟩:∃o,G a=some o/\o.plain:=h.1;show match me "int" G (.obj a) with
    |some b=>_
    |none=>_
   cases hG:G a with
   |none=>rw[h1] at hG;cases hG
   |some o=>
    cases o with
    |lst _=>simp only[me,hG];exact⟨nofun,fun _=>dQ h.2⟩
    |o4=>simp only[me,hG];exact⟨nofun,fun _=>dQ h.2⟩
    |iB=>simp only[me,hG];exact⟨nofun,fun _=>dQ h.2⟩
    |gen R=>
     rw[h1] at hG;cases hG;exact hp.elim
 ·exact h.elim
abbrev vV:=K4
abbrev RY:=K3
abbrev RX:=@RZ "found"
def vU:eX:=fun ds G Q=>∃(ns:List Int) (k:Nat),ds=[.gW (ns.map .int),.int k]/\∀i:Int,Q (.int i) G
def K0:aB:=bj (g0 (bJ (aJ rq (ν 1) (cF jU (μ (ν 0) (ab))))) (bY (aJ ff (ν 0) (ν 1))) (dN)) (bY (eC (.int 0)))
theorem RW:∀ds G Q,vU ds G Q->K0 (bq Q) (bI ["script","k"] ds) G:=by
 rintro ds G Q ⟨ns,k,rfl,q⟩;refine⟨fun h=>?_,fun h=>dQ (q 0)⟩;have h':(k:Int)<((ns.map D.int).length:Nat):=of_decide_eq_true h;rw[ε] at h';have hk:k<ns.length:=by lia
 exact⟨.int ns[k],sU (by rw[az,Θ hk];rfl),dQ (q _)⟩
def vT:eX:=fun ds G Q=>∃n:Int,ds=[.int n]/\0≤n/\∀r:Int,0≤r->r<2147483629->Q (.int r) G
def KZ:aB:=bj (cu (aJ jm (aJ eo (ν 0) (eC (.int 7919))) (eC (.int 2147483647))) (hName 0)) (bY (aJ jm (aJ eo (aJ eo (aJ oA (ν 0) (ν 0)) (aJ oA (eC (.int 48271)) (ν 0))) (eC (.int 12345))) (eC (.int 2147483629))))
theorem RV:∀ds G Q,vT ds G Q->KZ (bq Q) (bI ["seed"] ds) G:=by
 rintro ds G Q ⟨n,rfl,hn,q⟩;have h1:=fc (n+7919) (show (2147483647:Int)≠0 by decide);have h2:=dM (n+7919) (show (0:Int)<2147483647 by decide);have hb:jM ((n+7919)%2147483647):=lV (by lia) (by lia);refine⟨(by decide:(0:Int)<2147483647),⟨hb,hb⟩,⟨lV (by decide) (by decide),hb⟩,(by decide:(0:Int)<2147483629),dQ (q _ ?_ ?_)⟩
 ·exact fc _ (by decide)
 ·exact dM _ (by decide)
def As:eX:=fun ds G Q=>∃(p:η) (m i j k:Int),ds=[.obj p,.int m]/\G p=some (.lst [.int i,.int j,.int k])/\tW i j k/\0<m/\jM m ∧
 ∀r i' j' k':Int,tW i' j' k'->0≤r->r<m->Q (.int r) (eu G p (.lst [.int i',.int j',.int k']))
def qk:eX:=fun ds G Q=>∃(p:η) (m:Int),ds=[.obj p,.int m]/\G p=some .o4/\(0<m/\jM m)/\∀r:Int,0≤r->r<m->Q (.int r) G
def KY:aB:=bj (g0 (bJ (aJ (fg false) (aJ ff (ν 0) (eC (.int 1))) (eC (.int 1)))) (bj (cu (aJ jm (aJ ff (ν 0) (eC (.int 0))) (ν 1)) (hName 2)) (bj (cu (aJ m8 (aJ ff (ν 0) (eC (.int 0))) (ν 1)) (hSub (ν 0) (eC (.int 0)))) (bY (ν 2)))) (dN)) (bj (cu (bh vT (μ (aJ eo (bh vT (μ (aJ ff (ν 0) (eC (.int 2))) (ab))) (eC (.int 7))) (ab))) (hSub (ν 0) (eC (.int 2)))) (bY (aJ jm (aJ m8 (aJ ff (ν 0) (eC (.int 2))) (eC (.int 64))) (ν 1))))
theorem RU:∀ds G Q,As ds G Q->KY (bq Q) (bI ["pen","many","found"] ds) G:=by
 rintro ds G Q ⟨p,m,i,j,k,rfl,hp,ok,hm,hb,q⟩;obtain⟨o1,o2,o3⟩:=ok;refine⟨_,_,hp,rfl,_,_,rfl,rfl,aQ _,fun _=>?_,fun _=>?_⟩
 ·refine⟨_,_,hp,rfl,hm,_,_,hp,rfl,⟨hm,hb⟩,_,0,hp,rfl,?_⟩;refine dQ (q (i%m) (i / m) j k ⟨?_,o2,o3⟩ ?_ ?_)
  ·exact qg o1 (by lia)
  ·exact fc _ (by lia)
  ·exact dM _ hm
 ·refine⟨_,_,hp,rfl,_,rfl,o2,fun r h1 h2=>⟨_,rfl,(by lia),fun r' h3 h4=>?_⟩⟩;refine⟨_,2,hp,rfl,_,_,lg,rfl,⟨by decide,lV (by decide) (by decide)⟩,hm,?_⟩;refine dQ (q _ i j r' ⟨o1,h3,by lia⟩ ?_ ?_)
  ·exact fc _ (by lia)
  ·exact dM _ hm
theorem RT{K:PySem.W.Frag}:∀vs H Q E,oD K qk vs H Q E->oD K As vs H Q E:=by
 rintro vs H Q E ⟨ds,G,Q3,hd,RG,⟨p,m,rfl,hp,hm,q⟩,k⟩;obtain⟨i,j,l,e,ok⟩:=RG p _ hp;refine⟨_,eu G p (.lst [.int i,.int j,.int l]),fun d G'=>∃i' j' l',tW i' j' l'/\G'=eu G p (.lst [.int i',.int j',.int l'])/\Q3 d G,hd,?_,⟨p,m,i,j,l,rfl,lg,ok,hm.1,hm.2,fun r i' j' k' ok' h1 h2=>⟨i',j',k',ok',U5,q r h1 h2⟩⟩,?_⟩
 ·intro a o ea;by_cases z:a=p
  ·subst z;rw[lg] at ea;cases ea;exact⟨_,e,.cons (by simp[Hv]) (.cons (by simp[Hv]) (.cons (by simp[Hv]) .nil))⟩
  ·rw[kC z] at ea;exact RG a o ea
 ·rintro v H' d G' hv S R ⟨i',j',l',ok',rfl,h3⟩;refine k v H' d G hv ⟨fun a o ea n=>S.fr a o ea ?_,S.pT,fun a n z=>absurd n z⟩ (fun a o ea=>?_) h3
  ·have:a≠p:=fun z=>by rw[z,hp] at n;cases n
   rw[kC this];exact n
  ·by_cases z:a=p
   ·subst z;rw[hp] at ea;cases ea;obtain⟨ws,e1,e2⟩:=R a _ lg;have:=lR e2 (ns:=[i',j',l']) rfl;subst this;exact⟨i',j',l',e1,ok'⟩
   ·exact R a o (by rw[kC z];exact ea)
def Ar:eX:=fun ds G Q=>∃c:Int,ds=[.int c]/\∀p i j k G',eQ G p (.lst [.int i,.int j,.int k]) G'->tW i j k->Q (.obj p) G'
def Aq:eX:=fun ds G Q=>∃c:Int,ds=[.int c]/\∀p G',eQ G p .o4 G'->Q (.obj p) G'
def KW:aB:=bj (cu (cF AG (μ (ν 0) (μ (aJ tL (eC (.int 0)) (ν 0)) (ab)))) (hName 1)) (bY (nO (μ (ν 1) (μ (cF AH (μ (aJ HV (ν 1) (aJ FL (eC (.int 10)) (eC (.int 18)))) (ab))) (μ (aJ jm (ν 1) (eC (.int 1000003))) (ab))))))
theorem RQ:∀ds G Q,Ar ds G Q->KW (bq Q) (bI ["cell","left"] ds) G:=by
 rintro ds G Q ⟨c,rfl,q⟩;refine⟨⟨by decide,by decide,by decide⟩,(by decide:(0:Int)<1000003),fun p G' hp=>dQ (q p _ _ _ _ hp ⟨?_,?_,?_⟩)⟩
 ·split<;>lia
 ·exact fc _ (by decide)
 ·exact Int.lt_trans (dM _ (by decide)) (by decide)
theorem RP{K:PySem.W.Frag}:∀vs H Q E,oD K Aq vs H Q E->oD K Ar vs H Q E:=by
 rintro vs H Q E ⟨ds,G,Q3,hd,RG,⟨c,rfl,q⟩,k⟩;refine⟨_,G,fun d G'=>∃p i j l,tW i j l/\eQ G p (.lst [.int i,.int j,.int l]) G'/\d=.obj p,hd,RG,⟨c,rfl,fun p i j l G' hp ok=>⟨p,i,j,l,ok,hp,rfl⟩⟩,?_⟩;rintro v H' d G' hv S R ⟨p,i,j,l,ok,hp,rfl⟩;refine k v H' _ (eu G' p .o4) hv ⟨S.fr,S.pT,fun a n z=>S.new a n ?_⟩ (fun a o ea=>?_) (q p _ ⟨hp.aF,Sub.xb hp.sub hp.aF,lg⟩)
 ·by_cases y:a=p
  ·rw[y,hp.at_];simp
  ·rw[kC y] at z;exact z
 ·by_cases z:a=p
  ·subst z;rw[lg] at ea;cases ea;obtain⟨ws,e1,e2⟩:=R a _ hp.at_;have:=lR e2 (ns:=[i,j,l]) rfl;subst this;exact⟨i,j,l,e1,ok⟩
  ·rw[kC z] at ea;exact R a o ea
abbrev ω:=Int×Int
def cD(c:ω):D:=.tup [.int c.1,.int c.2]
def bM(cs:List ω):D:=.tup (cs.map cD)
def Valid(c:ω):Prop:=0<c.1/\0≤c.2/\c.2<c.1
def rg(n:Int)(c:ω):Bool:=n%c.1==c.2
def xV:eX:=fun ds G Q=>∃(c:ω) (n:Int),ds=[cD c,.int n]/\0<c.1/\Q (.bl (rg n c)) G
def KU:aB:=bY (aJ (fg false) (aJ jm (ν 1) (aJ ff (ν 0) (eC (.int 0)))) (aJ ff (ν 0) (eC (.int 1))))
theorem RO:∀ds G Q,xV ds G Q->KU (bq Q) (bI ["clock","number"] ds) G:=by
 rintro ds G Q ⟨⟨s,r⟩,n,rfl,hs,q⟩;exact⟨_,rfl,hs,_,rfl,_,_,rfl,rfl,aQ _,dQ q⟩
def xU:eX:=fun ds G Q=>∃(cs:List ω) (n:Int),ds=[bM cs,.int n]/\(∀c∈cs,0<c.1)/\cs.length≤1000/\∀p G',eQ G p (.lst ((cs.filter (rg n)).map cD)) G'->Q (.obj p) G'
def KS:aB:=bY (eS ["clock"] [1] (fL (ν 0)) (hName 0) (bJ (bh xV (μ (ν 0) (μ (ν 1) (ab))))) (ν 0))
theorem bQ{n:Nat}(h:n≤1000):n≤ao:=aD h (by decide)
theorem lU{α:Type}{guard:Gp->Prop}{g:ji}{tc:di}{te:aO}{Q:List D->Gp->Prop}(I:S3->Prop)(h:α->D)(pr:α->Bool)(f:α->D){G:Gp}(hg:guard G):∀(xs:List α) (acc:List D) (τ:S3),I τ ->
  (∀x∈xs,∀τ (K1:S3->Gp->Prop) (K2:S3->D->Gp->Prop),I τ->(pr x=true->∀τ2,I τ2->K2 τ2 (f x) G)->(pr x=false->∀τ2,I τ2->K1 τ2 G)->g (h x) τ G fun τ2 G2=>tc τ2 G2 fun b G3=>Br b (te τ2 G3 fun v G4=>K2 τ2 v G4) (K1 τ2 G3)) ->
  Q (acc++(xs.filter pr).map f) G->jy guard g tc te Q (xs.map h) acc τ G
 |[],acc,τ,_,_,q=>⟨hg,by simpa using q⟩
 |d::ds,acc,τ,hI,hs,q=>by
  refine⟨hg,hs d ο τ (fun τ2 G3=>jy guard g tc te Q (ds.map h) acc τ2 G3) (fun τ2 v G4=>jy guard g tc te Q (ds.map h) (acc++[v]) τ2 G4) hI (fun hp τ2 h2=>?_) fun hp τ2 h2=>?_⟩
  ·refine lU I h pr f hg ds _ τ2 h2 (fun d' hd=>hs d' (χ _ hd)) ?_;rw[eY hp] at q;simpa using q
  ·refine lU I h pr f hg ds _ τ2 h2 (fun d' hd=>hs d' (χ _ hd)) ?_;rw[fZ (by rw[hp];simp)] at q;exact q
theorem RN:∀ds G Q,xU ds G Q->KS (bq Q) (bI ["clocks","number"] ds) G:=by
 rintro ds G Q ⟨cs,n,rfl,hc,hz,q⟩;refine⟨by show (cs.map cD).length≤ao;rw[ε];exact bQ hz,?_⟩;refine lU (fun τ=>∃x,τ=[x,some (.int n)]) cD (rg n) cD (G:=G) trivial cs [] _ ⟨none,rfl⟩ ?_ ?_
 ·rintro c hm τ K1 K2 ⟨x,rfl⟩ h1 h2;exact⟨c,n,rfl,hc c hm,fun e=>h1 e _ ⟨_,rfl⟩,fun e=>h2 e _ ⟨_,rfl⟩⟩
 ·exact fun p G' hp=>dQ (q p G' hp)
end My
namespace My
open PySem L2 L3
def cX(c:ω):Dat.D:=.tup [.int c.1,.int c.2]
theorem Ao:∀cs:List ω,dY (cs.map cD)=some (cs.map cX)
 |[]=>rfl
 |c::cs=>by
  show (match gG (cD c) with
   |some x=>match dY (cs.map cD) with
    |some xs=>some (x::xs)
    |none=>none
   | none=>none)=_
  rw[Ao cs];rfl
theorem An{G:Gp}{a:η}{ds:List D}{xs:List Dat.D}(h:G a=some (.lst ds))(e:dY ds=some xs):kX G (.obj a)=some (.lst xs):=by
 unfold kX;simp only[h,e]
theorem Am:∀cs:List ω,Dat.fH (cs.map cX)≤1
 |[]=>aQ _
 |c::cs=>by
  show max (cX c).j8 (Dat.fH (cs.map cX))≤1;have h1:(cX c).j8=1:=rfl;have:=Am cs;lia
theorem RM(cs:List ω):(Dat.D.lst (cs.map cX)).j8≤50:=by
 show Dat.fH (cs.map cX)+1≤50;have:=Am cs;lia
theorem RL(a b:ω):(cX a).dS (cX b)=decide (a=b):=by
 obtain⟨s,r⟩:=a;obtain⟨s',r'⟩:=b;show ((s==s')&&((r==r')&&true))=decide ((s,r)=(s',r'));rw[dI];simp
theorem Ei:∀as bs:List ω,Dat.iZ (as.map cX) (bs.map cX)=decide (as=bs)
 |[],[]=>rfl
 |[],b::bs=>rfl
 |a::as,[]=>rfl
 |a::as,b::bs=>by
  show ((cX a).dS (cX b)&&Dat.iZ (as.map cX) (bs.map cX))=_;rw[RL,Ei as bs,dI];simp
def eD(n:Int)(c:ω):Bool:=(n-c.2)%c.1==0
theorem uv{c:ω}(h:Valid c)(n:Int):eD n c=rg n c:=by
 obtain⟨h1,h2,h3⟩:=h;unfold rg eD;rw[dI];simp only[beq_iff_eq];constructor
 ·intro e;have h4:=Int.emod_emod_of_dvd n (Int.dvd_refl c.1);have:n%c.1=c.2%c.1:=gp.mpr e;rw[this];exact iT h2 h3
 ·intro e;refine gp.mp ?_;rw[e];exact (iT h2 h3).symm
end My
namespace My
open PySem L2 L3
def rX{α:Type}(xs:List α)(lo hi:Option Int):List α:=(xs.drop (HT.cC xs.length 0 lo)).take (HT.cC xs.length xs.length hi-HT.cC xs.length 0 lo)
theorem Al{α:Type}(f:α->D)(xs:List α)(lo hi:Option Int):jq (xs.map f) lo hi=(rX xs lo hi).map f:=by
 unfold jq rX;rw[ε,List.map_take,List.map_drop]
theorem RK{α:Type}(xs:List α)(lo hi:Option Int):(rX xs lo hi).length≤xs.length:=by
 unfold rX;rw[bA,aV];lia
theorem RJ{α:Type}(xs:List α)(k:Nat):rX xs none (some (k:Int))=xs.take k:=by
 unfold rX;rw[HT.xn,HT.za];simp only[m4,tz];by_cases h:k≤xs.length
 ·rw[jN h]
 ·rw[Nat.min_eq_right (by lia),lA,cS (by lia)]
theorem KR{α:Type}(xs:List α)(k:Nat):rX xs (some (k:Int)) none=xs.drop k:=by
 unfold rX;rw[HT.xn,HT.za];by_cases h:k≤xs.length
 ·rw[jN h];exact cS (by rw[aV];lia)
 ·rw[Nat.min_eq_right (by lia),List.drop_length,ft (by lia)];simp
def mm(M:Int)(cs:List ω):Prop:=∀c∈cs,Valid c/\c.1≤M
theorem RI{s r k i:Int}(h:Valid (s,r))(h1:0≤i)(h2:i<k):Valid (s*k,r+s*i):=by
 obtain⟨a,b,c⟩:=h;simp only at a b c;have q:=mI (show i≤k-1 by lia) (show 0≤s by lia);rw[qL,uf] at q;have q2:=Int.mul_nonneg (show 0≤s by lia) h1;refine⟨?_,?_,?_⟩
 ·exact Int.mul_pos a (by lia)
 ·show 0≤r+s*i;lia
 ·show r+s*i<s*k;lia
theorem KQ{α:Type}(f:α->D){xs:List α}{r:Int}(h1:0≤r)(h2:r<(xs.length:Nat)):∃x,xs[r.toNat]?=some x/\x∈xs/\jL (xs.map f) r=some (f x):=by
 have hk:r.toNat<xs.length:=by lia
 refine⟨xs[r.toNat],Θ hk,eH hk,?_⟩;have e:r=((r.toNat:Nat):Int):=by lia
 have q:jL (xs.map f) ((r.toNat:Nat):Int)=some (f xs[r.toNat]):=sU (by rw[az];simp[hk]);rw[←e] at q;exact q
theorem RH{ns:List Int}{r:Int}(h1:0≤r)(h2:r<(ns.length:Nat)):∃n,n∈ns/\jL (ns.map D.int) r=some (.int n):=by
 obtain⟨x,_,h3,h4⟩:=KQ D.int h1 h2;exact⟨x,h3,h4⟩
end My
namespace My
open PySem L2 L3
def fx(c:ω):List Int:=[c.1,c.2]
theorem Ak(cs:List ω):(cs.map fx).map tupI=cs.map cD:=by
 rw[aN];rfl
theorem KP{cs:List ω}:∀{mss:List (List Int)},(∀ns∈mss,ns∈cs.map fx)->∃cs':List ω,mss=cs'.map fx/\∀c∈cs',c∈cs
 |[],_=>⟨[],rfl,fun c hc=>nomatch hc⟩
 |ns::mss,h=>by
  obtain⟨cs',e,hc⟩:=KP (mss:=mss) fun n hn=>h n (χ _ hn);obtain⟨c,h1,rfl⟩:=aE.mp (h ns ο);refine⟨c::cs',by simp[e],fun d hd=>?_⟩;rcases ay.mp hd with rfl|hd
  ·exact h1
  ·exact hc d hd
def C9(a b:ω):Prop:=a.1<b.1∨(a.1=b.1/\a.2<b.2)
def uI(cs:List ω):Prop:=cs.Pairwise C9
theorem KO{a b:ω}(h:fx a=fx b):a=b:=by
 obtain⟨s,r⟩:=a;obtain⟨s',r'⟩:=b;simp[fx] at h;simp[h]
theorem Eh{a b:ω}(h:aK.lx (fx b) (fx a)=false)(hne:a≠b):C9 a b:=by
 obtain⟨s,r⟩:=a;obtain⟨s',r'⟩:=b;unfold fx at h;simp only[aK.lx] at h;by_cases e:s'=s
 ·rw[if_pos e] at h;by_cases e2:r'=r
  ·exact absurd (by rw[e,e2]) hne
  ·rw[if_neg e2] at h;have:=of_decide_eq_false h;exact .inr ⟨e.symm,by simp only;lia⟩
 ·rw[if_neg e] at h;have:=of_decide_eq_false h;exact .inl (by simp only;lia)
theorem RF{cs:List ω}(h:mi (cs.map fx))(nd:(cs.map fx).Nodup):uI cs:=by
 have h1:=bN.mp h;have h2:=bN.mp nd;exact (h1.and h2).imp fun {a b} q=>Eh q.1 fun z=>q.2 (by rw[z])
theorem KN{cs:List ω}:∀ns∈cs.map fx,ns≠[]:=fun ns hn=>by
 obtain⟨c,_,rfl⟩:=aE.mp hn;simp[fx]
theorem Sr{G:Gp}{a:η}{cs:List ω}(e:G a=some (.lst (cs.map cD))):G a=some (.lst ((cs.map fx).map tupI)):=by rw[Ak];exact e
theorem Sq{r:Int}{n:Nat}(h1:0≤r)(h2:r<(n:Int)):seqIndex? r n=some r.toNat:=by
 unfold seqIndex?;simp only[if_neg (show ¬r<0 by lia)];rw[if_pos (by simp;lia)]
theorem KL{α β:Type}(f:α->β):∀(xs:List α) (i:Nat),(xs.map f).eraseIdx i=(xs.eraseIdx i).map f
 |[],_=>rfl
 |_::_,0=>rfl
 |x::xs,i+1=>by simp[KL f xs i]
end My
namespace My
open PySem L2 L3
theorem Aj{guard:Gp->Prop}{g:ji}{tc:di}{te:aO}{Q:List D->Gp->Prop}(I:List D->List D->S3->Gp->Prop)(hg:∀ds acc τ G,I ds acc τ G->guard G)
  (step:∀d ds acc τ G (K1:S3->Gp->Prop) (K2:S3->D->Gp->Prop),I (d::ds) acc τ G->(∀τ' v G',I ds (acc++[v]) τ' G'->K2 τ' v G')->(∀τ' G',I ds acc τ' G'->K1 τ' G')->g d τ G fun τ2 G2=>tc τ2 G2 fun b G3=>Br b (te τ2 G3 fun v G4=>K2 τ2 v G4) (K1 τ2 G3))
  (o7:∀acc τ G,I [] acc τ G->Q acc G):∀ds acc τ G,I ds acc τ G->jy guard g tc te Q ds acc τ G
 |[],acc,τ,G,h=>⟨hg _ _ _ _ h,o7 _ _ _ h⟩
 |d::ds,acc,τ,G,h=>⟨hg _ _ _ _ h,step d ds acc τ G (fun τ2 G3=>jy guard g tc te Q ds acc τ2 G3) (fun τ2 v G4=>jy guard g tc te Q ds (acc++[v]) τ2 G4) h
   (fun τ' v G' q=>Aj I hg step o7 ds _ τ' G' q) fun τ' G' q=>Aj I hg step o7 ds _ τ' G' q⟩
theorem Sn{cs:List ω}{mss:List (List Int)}(hp:mss.Perm (cs.map fx)):∃cs':List ω,mss=cs'.map fx/\(∀c∈cs',c∈cs)/\cs'.length=cs.length:=by
 obtain⟨cs',rfl,hc⟩:=KP fun ns hn=>hp.mem_iff.mp hn;exact⟨cs',rfl,hc,by simpa using hp.length_eq⟩
def Sm:aB:=cu (aJ eo (ν 3) (eS ["part"] [5,4,6] (mf (μ (ν 4) (ab))) (hName 0) (cY) (dw (μ (aJ oA (ν 1) (ν 2)) (μ (aJ eo (ν 3) (aJ oA (ν 1) (ν 0))) (ab)))))) (hName 3)
def Sl:aB:=bj (g0 (bJ (aJ uk (aJ oA (ν 5) (ν 4)) (eC (.int 1000)))) (bY (cF yo (μ (aJ eo (ν 3) (nO (μ (dw (μ (ν 5) (μ (ν 6) (ab)))) (ab)))) (ab)))) (dN)) Sm
def KJ:aB:=bj (cu (eM Lo (ν 3) (μ (bh qk (μ (ν 0) (μ (cF jU (μ (ν 3) (ab))) (ab)))) (ab))) (j4 2 (dE (hName 5) (dE (hName 6) (j6))))) Sl
def Sj:aB:=bj (cu (cF EH (μ (ν 4) (μ (cF AG (μ (eC (.int 2)) (μ (aJ eo (aJ tL (ν 2) (cF jU (μ (ν 3) (ab)))) (eC (.int 1))) (ab)))) (ab)))) (hName 4)) KJ
def KI:aB:=bj (cu (yD (μ (eC (.int 2)) (μ (eC (.int 2)) (μ (eC (.int 3)) (μ (eC (.int 2)) (μ (eC (.int 3)) (μ (eC (.int 5)) (ab))))))) (bh qk (μ (ν 0) (μ (eC (.int 6)) (ab))))) (hName 4)) Sj
def Eg:aB:=bY (cF yo (μ (ν 3) (ab)))
def Si:aB:=bj (qP (tf (bJ (aJ rq (cF jU (μ (ν 3) (ab))) (ν 1))) (tj (bJ (aJ uk (bh qk (μ (ν 0) (μ (eC (.int 4)) (ab)))) (eC (.int 0)))) (bJ (aJ rq (cF jU (μ (ν 3) (ab))) (ν 2))))) (KI)) Eg
def Sh:aB:=bj (cu (nO (μ (dw (μ (eC (.int 1)) (μ (eC (.int 0)) (ab)))) (ab))) (hName 3)) Si
theorem wrote{G G1:Gp}{q:η}{o o':GO}(n:eQ G q o G1):eQ G q o' (eu G1 q o'):=⟨n.aF,Sub.xb n.sub n.aF,lg⟩
end My
namespace My
open PySem L2 L3
def uu:eX:=fun ds G Q=>∃a b:Nat,ds=[.int a,.int b]/\Q (.int (bE a b:Nat)) G
def Sg:aB:=Dk 0 1 (μ (ν 1) (μ (aJ jm (ν 0) (ν 1)) (ab)))
def Sf:aB:=bY (ν 0)
def KH:aB:=bj (qP (bJ (aJ uk (ν 1) (eC (.int 0)))) (Sg)) Sf
theorem Rt:∀ds G Q,uu ds G Q->KH (bq Q) (bI ["one","other"] ds) G:=by
 rintro ds G Q ⟨a,b,rfl,q⟩;refine⟨fun m τ G'=>G'=G/\∃a':Nat,τ=[some (.int a'),some (.int (m:Nat))]/\bE a' m=bE a b,⟨b,rfl,a,rfl,rfl⟩,?_⟩;rintro m τ G' ⟨rfl,a',rfl,hg⟩;refine⟨fun h=>?_,fun h=>?_⟩
 ·have h':(0:Int)<(m:Int):=of_decide_eq_true h;refine⟨h',a'%m,by exact_mod_cast Nat.mod_lt a' (by lia),rfl,m,?_,?_⟩
  ·show [some (D.int (m:Nat)),some (D.int ((a':Int)%(m:Int)))]=_;rw[←Int.natCast_emod]
  ·rw[←hg,pF a' m,ud m a',pF]
 ·have h':¬((0:Int)<(m:Int)):=of_decide_eq_false h;have:m=0:=by lia
  subst this;rw[Nat.gcd_zero_right] at hg;rw[←hg] at q;exact dQ q
def nI(cs:List ω)(a:Nat):Nat:=cs.foldl (fun a c=>fE a c.1.toNat) a
def cw(cs:List ω):Nat:=nI cs 1
theorem KG{M:Nat}:∀{cs:List ω} {a:Nat},(∀c∈cs,0<c.1/\c.1≤(M:Int))->0<a->0<nI cs a/\nI cs a≤a*M^cs.length
 |[],a,_,h=>⟨h,by simp[nI]⟩
 |c::cs,a,hc,h=>by
  obtain⟨h1,h2⟩:=hc c ο;have hp:0<fE a c.1.toNat:=qE h (by lia);obtain⟨h3,h4⟩:=KG (cs:=cs) (a:=fE a c.1.toNat) (fun d hd=>hc d (χ _ hd)) hp;refine⟨h3,aD h4 ?_⟩;rw[ag,mw,dW (M^cs.length) M,←nT];refine fO _ ?_;have:fE a c.1.toNat≤a*c.1.toNat:=fU (qC h (by lia)) (qF (kG _ _) (pG _ _));exact aD this (mL _ (by lia))
theorem KE{cs:List ω}(h:mm 1000 cs)(hl:cs.length≤12):0<cw cs/\cw cs≤1000^12:=by
 obtain⟨h1,h2⟩:=KG (M:=1000) (cs:=cs) (a:=1) (fun c hc=>⟨(h c hc).1.1,(h c hc).2⟩) (by decide);refine⟨h1,aD h2 ?_⟩;rw[qB];exact gR (by decide) hl
theorem Ai{n:Nat}(h:n<10^80):jM (n:Int):=by
 show (n:Int).natAbs<2^4000;exact kh (by simpa using h) (by decide)
def KC:aB:=cu (aJ oA (aJ m8 (ν 1) (bh uu (μ (ν 1) (μ (ν 2) (ab))))) (ν 2)) (hName 1)
def Rr:aB:=bY (ν 1)
def Rq:aB:=bj (iV (fL (ν 0)) (j4 2 (dE (hName 2) (dE (hName 3) (j6)))) (KC)) Rr
def Rp:aB:=bj (cu (eC (.int 1)) (hName 1)) Rq
end My
namespace My
open PySem L2 L3
def ur:eX:=fun ds G Q=>∃a b:Nat,ds=[.int a,.int b]/\Q (.int (bE a b:Nat)) G
def Ro:aB:=cu (ν 2) (hName 1)
def Rn:aB:=bj (cu (ν 1) (hName 0)) Ro
def Rm:aB:=bj (cu (aJ jm (ν 0) (ν 1)) (hName 2)) Rn
def Rl:aB:=bY (ν 0)
def KA:aB:=bj (qP (bJ (aJ (fg true) (ν 1) (eC (.int 0)))) (Rm)) Rl
theorem Rk:∀ds G Q,ur ds G Q->KA (bq Q) (bI ["one","other","left"] ds) G:=by
 rintro ds G Q ⟨a,b,rfl,q⟩;refine⟨fun m τ G'=>G'=G/\∃(a':Nat) (x:Option D),τ=[some (.int a'),some (.int (m:Nat)),x]/\bE a' m=bE a b,⟨b,rfl,a,_,rfl,rfl⟩,?_⟩;rintro m τ G' ⟨rfl,a',x,rfl,hg⟩;refine⟨_,_,rfl,rfl,aQ _,fun h=>?_,fun h=>?_⟩
 ·have h1:(!((m:Int)==0))=true:=h;have h':(0:Int)<(m:Int):=by simp at h1;lia
  refine⟨h',a'%m,by exact_mod_cast Nat.mod_lt a' (by lia),rfl,m,some (.int (a'%m:Nat)),?_,?_⟩
  ·show [some (D.int (m:Nat)),some (D.int ((a':Int)%(m:Int))),some (D.int ((a':Int)%(m:Int)))]=_;rw[←Int.natCast_emod]
  ·rw[←hg,pF a' m,ud m a',pF]
 ·have h1:(!((m:Int)==0))=false:=h;have:m=0:=by simp at h1;lia
  subst this;rw[Nat.gcd_zero_right] at hg;rw[←hg] at q;exact dQ q
def nD(n:Nat):D:=.int (n:Nat)
def wm(ns:List Nat)(a:Nat):Nat:=ns.foldl fE a
def xT:eX:=fun ds G Q=>∃(p:η) (ns:List Nat),ds=[.obj p]/\G p=some (.lst (ns.map nD))/\(∀n∈ns,0<n/\n≤1000)/\ns.length≤20/\Q (.int (wm ns 1:Nat)) G
def Rj:aB:=cu (aJ oA (ν 1) (aJ m8 (ν 2) (bh ur (μ (ν 1) (μ (ν 2) (ab)))))) (hName 1)
def Ri:aB:=bY (ν 1)
def Rh:aB:=bj (iV (fL (ν 0)) (hName 2) (Rj)) Ri
def Kz:aB:=bj (cu (eC (.int 1)) (hName 1)) Rh
theorem Rg:∀ds G Q,xT ds G Q->Kz (bq Q) (bI ["numbers","least","number"] ds) G:=by
 rintro ds G Q ⟨p,ns,rfl,hp,ok,hl,q⟩;refine⟨_,hp,?_⟩;refine jE (fun ds τ G'=>G'=G/\∃(zs:List Nat) (a:Nat) (x2:Option D),ds=zs.map nD/\τ=[some (.obj p),some (.int a),x2]/\(∀n∈zs,0<n/\n≤1000)/\0<a/\a*1000^zs.length≤1000^20/\wm zs a=wm ns 1) (fun _ _ _ h=>by rw[h.1];exact hp) ?_ ?_ _ _ _ ⟨rfl,ns,1,none,rfl,rfl,ok,by decide,?_,rfl⟩
 ·rintro d ds τ G' N ⟨rfl,zs,a,x2,e,rfl,okz,ha,hb,hr⟩ hN;cases zs with
  |nil=>cases e
  |cons n zs=>
   cases e;obtain⟨hs1,hs2⟩:=okz _ ο;have hg:0<bE a n:=fY _ ha;have hga:bE a n≤a:=fU ha (g7 _ _);have ha20:a≤1000^20:=aD (pO _ (Nat.pow_pos (by decide))) hb;have hbig:∀k:Nat,k≤1000^20->jM (k:Int):=fun k hk=>Ai (eG hk (by decide));refine⟨a,n,rfl,⟨by lia,hbig _ (aD hga ha20)⟩,⟨hbig _ ha20,?_⟩,?_⟩
   ·show jM ((n:Int) / (bE a n:Nat));rw[←eK];exact hbig _ (aD (Nat.div_le_self _ _) (aD hs2 (by decide)))
   have el:a*(n / bE a n)=fE a n:=by
    unfold fE;rw[Nat.mul_div_assoc a (iR a n)]
   refine hN _ _ ⟨rfl,zs,fE a n,some (nD n),rfl,?_,fun c hc=>okz c (χ _ hc),qE ha (by lia),?_,hr⟩
   ·show [some (D.obj p),some (D.int ((a:Int)*((n:Int) / (bE a n:Nat)))),_]=_;rw[←eK,←jQ,el]
   ·refine aD ?_ hb;rw[ag,mw,dW (1000^zs.length) 1000,←nT];refine fO _ ?_;have:fE a n≤a*n:=fU (qC ha (by lia)) (qF (kG _ _) (pG _ _));exact aD this (mL _ (by lia))
 ·rintro τ G' ⟨rfl,zs,a,x2,e,rfl,okz,ha,hb,hr⟩;have:zs=[]:=by cases zs with
   |nil=>rfl
   |cons z zs=>cases e
  subst this;have hr':a=wm ns 1:=hr;rw[←hr'] at q;exact dQ q
 ·rw[qB];exact gR (by decide) hl
theorem Rf(cs:List ω)(a:Nat):wm (cs.map fun c=>c.1.toNat) a=nI cs a:=by
 unfold wm nI;rw[List.foldl_map]
def vS:eX:=fun ds G Q=>∃cs:List ω,ds=[bM cs]/\mm 1000 cs/\cs.length≤20/\Q (.int (cw cs:Nat)) G
def Ky:aB:=bY (bh xT (μ (eS ["clock"] [] (fL (ν 0)) (hName 0) (cY) (aJ ff (ν 0) (eC (.int 0)))) (ab)))
theorem filter_all{α:Type}(xs:List α):xs.filter (fun _=>true)=xs:=ig.mpr fun _ _=>rfl
theorem Rc:∀ds G Q,vS ds G Q->Ky (bq Q) (bI ["clocks"] ds) G:=by
 rintro ds G Q ⟨cs,rfl,ok,hl,q⟩;refine⟨by show (cs.map cD).length≤ao;rw[ε];exact bQ (by lia),?_⟩;refine lU (fun τ=>∃x,τ=[x]) cD (fun _=>true) (fun c=>nD c.1.toNat) (G:=G) trivial cs [] _ ⟨none,rfl⟩ ?_ ?_
 ·rintro⟨s,r⟩ hm τ K1 K2 ⟨x,rfl⟩ h1 h2;refine⟨fun _=>⟨_,rfl,?_⟩,nofun⟩;have hs:0<s:=(ok _ hm).1.1;have:=h1 rfl [some (cD (s,r))] ⟨_,rfl⟩;show K2 [some (cD (s,r))] (.int s) G;rw[show D.int s=nD (s,r).1.toNat by show D.int s=D.int ((s.toNat:Nat):Int);rw[ba (by lia)]];exact this
 ·intro p G' n;rw[filter_all,bw,show cs.map (fun c:ω=>nD c.1.toNat)=(cs.map fun c:ω=>c.1.toNat).map nD by rw[aN];rfl] at n;refine⟨p,_,rfl,n.at_,fun k hk=>?_,by rw[ε];exact hl,?_⟩
  ·obtain⟨c,hc,rfl⟩:=aE.mp hk;obtain⟨⟨a,_⟩,b⟩:=ok c hc;lia
  ·rw[Rf];exact Au n.sub q
def xS:eX:=fun ds G Q=>∃t b:Nat,ds=[.int t,.int b]/\0<b/\b<10^80/\Q (.tup [nD (t / bE t b),nD (b / bE t b)]) G
def Rb:aB:=bY (dw (μ (aJ m8 (ν 0) (ν 2)) (μ (aJ m8 (ν 1) (ν 2)) (ab))))
def Kx:aB:=bj (cu (bh ur (μ (ν 0) (μ (ν 1) (ab)))) (hName 2)) Rb
theorem Ra:∀ds G Q,xS ds G Q->Kx (bq Q) (bI ["top","bottom","shared"] ds) G:=by
 rintro ds G Q ⟨t,b,rfl,hb,hz,q⟩;have hg:0<bE t b:=Nat.gcd_pos_of_pos_right _ hb;have hgb:bE t b≤b:=fU hb (iR _ _);have Gx:jM ((bE t b:Nat):Int):=Ai (by lia);refine⟨t,b,rfl,⟨by lia,Gx⟩,⟨by lia,Gx⟩,?_⟩;show (bq Q).rt (.tup [.int ((t:Int) / (bE t b:Nat)),.int ((b:Int) / (bE t b:Nat))]) G;rw[←eK,←eK];exact dQ q
def dR(cs:List ω)(R:Nat):Nat:=(cs.map fun c=>R / c.1.toNat).sum
def yZ(cs:List ω):Nat:=dR cs (cw cs) / bE (dR cs (cw cs)) (cw cs)
def y8(cs:List ω):Nat:=cw cs / bE (dR cs (cw cs)) (cw cs)
theorem rC:∀ns:List Int,intsOf (ns.map D.int)=some ns
 |[]=>rfl
 |n::ns=>by
  show (intsOf (ns.map D.int)).map (n::·)=_;rw[rC ns];rfl
theorem Kw{R:Nat}:∀{cs:List ω},(∀c∈cs,0<c.1)->(cs.map fun c=>(R:Int) / c.1).sum=((dR cs R:Nat):Int)
 |[],_=>rfl
 |c::cs,h=>by
  have h0:=h c ο;have ih:=Kw (R:=R) (cs:=cs) fun c hc=>h c (χ _ hc);unfold dR at ih ⊢;rw[aZ,cH,ih,aZ,cH,jR,eK,ba (by lia)]
def xR:eX:=fun ds G Q=>∃cs:List ω,ds=[bM cs]/\mm 1000 cs/\cs.length≤12/\Q (.tup [nD (yZ cs),nD (y8 cs)]) G
def Q9:aB:=bY (bh xS (μ (cF v8 (μ (eS ["clock"] [1] (fL (ν 0)) (hName 0) (cY) (aJ m8 (ν 1) (aJ ff (ν 0) (eC (.int 0))))) (ab))) (μ (ν 1) (ab))))
def Lg:aB:=bj (cu (bh vS (μ (ν 0) (ab))) (hName 1)) Q9
theorem Q8:∀ds G Q,xR ds G Q->Lg (bq Q) (bI ["clocks","bottom"] ds) G:=by
 rintro ds G Q ⟨cs,rfl,ok,hl,q⟩;obtain⟨r1,r2⟩:=KE ok hl;refine⟨cs,rfl,ok,by lia,by show (cs.map cD).length≤ao;rw[ε];exact bQ (by lia),?_⟩;refine lU (fun τ=>∃x,τ=[x,some (.int (cw cs:Nat))]) cD (fun _=>true) (fun c=>.int ((cw cs:Nat) / c.1)) (G:=G) trivial cs [] _ ⟨none,rfl⟩ ?_ ?_
 ·rintro⟨s,r⟩ hm τ K1 K2 ⟨x,rfl⟩ h1 h2;have hs:0<s:=(ok _ hm).1.1;have hs2:s≤1000:=(ok _ hm).2;exact⟨fun _=>⟨_,rfl,⟨hs,lV (by lia) (by lia)⟩,h1 rfl _ ⟨_,rfl⟩⟩,nofun⟩
 ·intro p G' n;rw[filter_all,bw,show cs.map (fun c:ω=>D.int ((cw cs:Nat) / c.1))=(cs.map fun c:ω=>((cw cs:Nat):Int) / c.1).map D.int by rw[aN];rfl] at n;refine⟨_,_,n.at_,rC _,dR cs (cw cs),cw cs,?_,r1,eG r2 (by decide),Au n.sub q⟩;rw[Kw fun c hc=>(ok c hc).1.1]
end My
namespace My
open PySem L2 L3
theorem fC{c:ω}{n:Int}:eD n c=true↔c.1∣n-c.2:=by
 unfold eD;rw[beq_iff_eq];exact⟨pS,pR⟩
end My
namespace My
open PySem L2 L3
theorem xp(n:Nat):iI 0 n=(av n).map nD:=by
 unfold iI;refine b9 fun i _=>?_;show D.int (0+(i:Int))=D.int (i:Int);rw[pL]
end My
namespace My
open PySem L2 L3
theorem Lf(as bs:List ω):(Dat.D.lst (as.map cX)).dS (.lst (bs.map cX))=decide (as=bs):=Ei as bs
theorem Ef{α:Type}(f:α->Bool):∀xs:List α,rY (xs.map fun x=>D.bl (f x))=some (xs.map f)
 |[]=>rfl
 |x::xs=>by
  show Option.map _ (rY (xs.map fun x=>D.bl (f x)))=_;rw[Ef f xs];rfl
end My
namespace My
open PySem L2 L3
theorem Ld{α β:Type}(f:α->D)(g:β->D):∀(as:List α) (bs:List β),vC (as.map f) (bs.map g)=(as.zip bs).map fun p=>D.tup [f p.1,g p.2]
 |[],_=>rfl
 |a::as,[]=>rfl
 |a::as,b::bs=>by
  show D.tup [f a,g b]::vC (as.map f) (bs.map g)=D.tup [f a,g b]::(as.zip bs).map _;rw[Ld f g as bs]
theorem Q7{β:Type}(g:β->D)(bs:List β):u9 (bs.map g)=((av bs.length).zip bs).map fun p=>D.tup [nD p.1,g p.2]:=by
 unfold u9;rw[ε,xp];exact Ld nD g _ _
end My
namespace My
open PySem L2 L3
def parts(c:ω)(k:Nat):List ω:=(av k).map fun t:Nat=>(c.1*(k:Int),c.2+c.1*(t:Int))
theorem Ah(c:ω)(k:Nat):(parts c k).length=k:=by simp[parts]
theorem Q6{a b:ω}(h:C9 a b)(h':C9 b a):False:=by
 rcases h with h|⟨h1,h2⟩<;>rcases h' with h' | ⟨h3,h4⟩<;>lia
theorem Q5{a b:ω}(h:aK.lx (fx b) (fx a)=false)(h':aK.lx (fx a) (fx b)=false):a=b:=
 cP fun hne=>Q6 (Eh h hne) (Eh h' fun z=>hne z.symm)
theorem Lc:∀{as bs:List ω},as.Perm bs->mi (as.map fx)->mi (bs.map fx)->as=bs
 |[],bs,p,_,_=>(nU.mp p).symm
 |a::as,[],p,_,_=>absurd p.length_eq (by simp)
 |a::as,b::bs,p,ha,hb=>by
  have ha':=b5.mp ha;have hb':=b5.mp hb;have hab:a=b:=by
   have m1:a∈b::bs:=p.mem_iff.mp ο;have m2:b∈a::as:=p.mem_iff.mpr ο;rcases ay.mp m1 with h|h
   ·exact h
   ·rcases ay.mp m2 with h2|h2
    ·exact h2.symm
    ·exact Q5 (ha'.1 _ (aE.mpr ⟨b,h2,rfl⟩)) (hb'.1 _ (aE.mpr ⟨a,h,rfl⟩))
  subst hab;rw[Lc (List.Perm.cons_inv p) ha'.2 hb'.2]
end My
namespace My
open PySem L2 L3
theorem Q4{cs:List ω}{d:Nat}:∀{a:Nat},a∣d->(∀c∈cs,c.1.toNat∣d)->nI cs a∣d:=by
 induction cs with
 |nil=>exact fun h _=>h
 |cons c cs ih=>
  intro a h hc;exact ih (a:=fE a c.1.toNat) (qF h (hc c ο)) fun c' h'=>hc c' (χ _ h')
theorem Q2{cs:List ω}:∀{a:Nat},a∣nI cs a:=by
 induction cs with
 |nil=>exact Nat.dvd_refl _
 |cons c cs ih=>intro a;exact sq (Nat.dvd_lcm_left a c.1.toNat) (ih (a:=fE a c.1.toNat))
theorem Q1{cs:List ω}{c:ω}:∀{a:Nat},c∈cs->c.1.toNat∣nI cs a:=by
 induction cs with
 |nil=>exact fun h=>nomatch h
 |cons d cs ih=>
  intro a h;rcases ay.mp h with rfl|h
  ·exact sq (Nat.dvd_lcm_right a c.1.toNat) (Q2 (cs:=cs) (a:=fE a c.1.toNat))
  ·exact ih (a:=fE a d.1.toNat) h
end My
namespace My
open PySem L2 L3
def xQ:eX:=fun ds G Q=>∃a b:Int,ds=[.int a,.int b]/\a≤b/\Q .aF G
def Lb:aB:=g0 (bJ (aJ uk (ν 0) (ν 1))) (xm) (dN)
theorem Q0:∀ds G Q,xQ ds G Q->Lb (bq Q) (bI ["many","most"] ds) G:=by
 rintro ds G Q ⟨a,b,rfl,h,q⟩;refine⟨fun h'=>?_,fun _=>⟨G,Sub.refl _,q⟩⟩;have:a > b:=of_decide_eq_true h';lia
def nums(c:ω)(n:Nat):List Nat:=(av (jr c.2 n c.1)).map fun i=>c.2.toNat+i*c.1.toNat
theorem La{c:ω}(h:Valid c)(n:Nat):qi c.2 c.1 (jr c.2 n c.1)=(nums c n).map nD:=by
 unfold qi nums;rw[aN];refine b9 fun i _=>?_;show D.int _=D.int ((c.2.toNat+i*c.1.toNat:Nat):Int);congr 1;have:=h.1;have:=h.2.1;rw[jR,jQ,ba (by lia),ba (by lia)]
theorem Ag{c:ω}(h:Valid c){n x:Nat}:x∈nums c n↔x<n/\rg x c=true:=by
 obtain⟨h1,h2,h3⟩:=h;unfold nums;rw[aE];obtain⟨s,hs⟩:∃s:Nat,c.1=(s:Int):=⟨c.1.toNat,by lia⟩;obtain⟨r,hr⟩:∃r:Nat,c.2=(r:Int):=⟨c.2.toNat,by lia⟩;have hrg:rg x c=true↔x%s=r:=by
  show ((x:Int)%c.1==c.2)=true↔_;rw[beq_iff_eq,hs,hr];constructor
  ·intro e;exact_mod_cast e
  ·intro e;exact_mod_cast e
 rw[hrg];have s0:0<s:=by lia
 have rs:r<s:=by lia
 have hc:∀i,i<jr c.2 n c.1↔r+i*s<n:=fun i=>by
  unfold jr;rw[hs,hr];split
  ·rename_i hlt;have hrn:r<n:=by lia
   rw[show ((n:Int)-(r:Int)-1) / (s:Int)+1=(((n-r-1) / s+1:Nat):Int) by
    rw[jR,eK,show ((n-r-1:Nat):Int)=(n:Int)-(r:Int)-1 by lia];rfl,bz,Nat.lt_succ_iff,Nat.le_div_iff_mul_le s0]
   lia
  ·rename_i hlt;have:¬r<n:=by lia
   constructor
   ·intro z;exact absurd z (qc _)
   ·intro z;lia
 rw[hs,hr,bz,bz];constructor
 ·rintro⟨i,hi,rfl⟩;have hi:=cm.mp hi;rw[←hs,←hr] at hi;refine⟨(hc i).mp hi,?_⟩;rw[Nat.add_mul_mod_self_right,Nat.mod_eq_of_lt rs]
 ·rintro⟨hx,e⟩;have hd:s*(x / s)+x%s=x:=Nat.div_add_mod x s;refine⟨x / s,?_,?_⟩
  ·rw[cm,←hs,←hr,hc,dW];lia
  ·rw[dW];lia
theorem K9{c:ω}(h:Valid c)(n:Nat):(nums c n).Nodup:=by
 unfold nums;unfold List.Nodup;rw[bN];refine List.Pairwise.imp ?_ (pI (n:=jr c.2 n c.1));intro a b hab e;have:=h.1;have h0:0<c.1.toNat:=by lia
 exact hab (Nat.eq_of_mul_eq_mul_right h0 (by lia))
def gu(cs:List ω)(x:Nat):Nat:=(cs.filter (rg x)).length
def jA(f:Nat->Nat)(n:Nat):List D:=(av n).map fun x=>nD (f x)
theorem AW(f:Nat->Nat)(n:Nat):(jA f n).length=n:=by simp[jA]
theorem K8{f:Nat->Nat}{n x:Nat}(h:x<n):jL (jA f n) (x:Int)=some (nD (f x)):=sU (by
 unfold jA;rw[az,ie h];rfl)
theorem RE{f:Nat->Nat}{n x v:Nat}(h:x<n):(jA f n).set x (nD v)=jA (fun y=>if y=x then v else f y) n:=by
 unfold jA;apply kL;intro i;rw[List.getElem?_set];by_cases hi:i<n
 ·by_cases hx:x=i
  ·subst hx;simp[h]
  ·have:¬i=x:=fun z=>hx z.symm;simp[hi,hx,this]
 ·have:¬x=i:=fun z=>hi (by lia);simp[hi,this]
theorem K7{f g:Nat->Nat}{n:Nat}(h:∀x,x<n->f x=g x):jA f n=jA g n:=by
 unfold jA;refine b9 fun x hx=>?_;rw[h x (cm.mp hx)]
theorem RC{n x:Nat}(h:x<n):qQ n (x:Int)=some x:=by
 unfold qQ;simp[h]
def xP:eX:=fun ds G Q=>∃(cs:List ω) (n:Nat),ds=[bM cs,.int n]/\mm 1000 cs/\cs.length≤1000/\n≤10000/\∀p G',eQ G p (.lst (jA (gu cs) n)) G'->Q (.obj p) G'
def RB:aB:=zy (ν 2) (ν 5) (eC (.int 1)) (· + ·)
def RA:aB:=iV (wU (μ (ν 4) (μ (ν 1) (μ (ν 3) (ab))))) (hName 5) (RB)
def Rz:aB:=bY (ν 2)
def Ry:aB:=bj (iV (fL (ν 0)) (j4 2 (dE (hName 3) (dE (hName 4) (j6)))) (RA)) Rz
def Rx:aB:=bj (cu (aJ oA (nO (μ (eC (.int 0)) (ab))) (ν 1)) (hName 2)) Ry
def K6:aB:=bj (uT (bh xQ (μ (ν 1) (μ (eC (.int 10000)) (ab))))) Rx
theorem zeros(n:Nat):(bF n [D.int 0]).flatten=jA (fun _=>0) n:=by
 unfold jA
 induction n with
 |zero=>rfl
 |succ n ih=>
  rw[List.replicate_succ',List.flatten_append,ih,List.range_succ,aW];rfl
theorem Kl(c:ω)(cs:List ω)(x:Nat):gu (c::cs) x=(if rg x c=true then 1 else 0)+gu cs x:=by
 unfold gu;rw[lB];split
 ·rw[ag];lia
 ·lia
theorem Rw:∀ds G Q,xP ds G Q->K6 (bq Q) (bI ["clocks","many","counts","step","rest","number"] ds) G:=by
 rintro ds G Q ⟨cs,n,rfl,ok,hl,hn,q⟩;refine⟨n,10000,rfl,by lia,?_⟩;intro p0 G0 n0;refine⟨_,n0.at_,⟨by lia,by lia⟩,?_,fun p G1 n1=>?_⟩
 ·rw[bz];exact aD (show 1*n≤10000 by lia) (by decide)
 rw[bz,zeros] at n1;have m1:eQ G p (.lst (jA (fun _=>0) n)) G1:=⟨n0.sub.of_none n1.aF,n0.sub.trans n1.sub,n1.at_⟩;refine jE (fun ds τ G'=>∃(zs:List ω) (f:Nat->Nat) (x3 x4 x5:Option D),ds=zs.map cD/\τ=[some (bM cs),some (.int n),some (.obj p),x3,x4,x5]/\eQ G p (.lst (jA f n)) G'/\(∀z∈zs,z∈cs)/\∀x,f x+gu zs x=gu cs x) (fun _ _ _ _=>trivial) ?_ ?_ _ _ _ ⟨cs,fun _=>0,none,none,none,rfl,rfl,m1,fun _ h=>h,fun x=>tx _⟩
 ·rintro d ds τ G' N ⟨zs,f,x3,x4,x5,e,rfl,m2,hm,hf⟩ hN;cases zs with
  |nil=>cases e
  |cons c zs=>
   cases e;obtain⟨hv,h1000⟩:=ok c (hm c ο);have v1:=hv.1;have v2:=hv.2.1;have v3:=hv.2.2;refine⟨rfl,⟨by lia,by lia,by lia,by lia,v1,by lia⟩,?_⟩;show iA _ _ _ _ (qi c.2 c.1 (jr c.2 n c.1)) _ _;rw[La hv];refine jE (fun ds τ G'=>∃(ms:List Nat) (g:Nat->Nat) (x5:Option D),ds=ms.map nD/\τ=[some (bM cs),some (.int n),some (.obj p),some (.int c.1),some (.int c.2),x5]/\eQ G p (.lst (jA g n)) G'/\ms.Nodup/\(∀x∈ms,x<n/\rg x c=true)/\∀x,x<n->g x=f x+(if rg x c=true/\x∉ms then 1 else 0)) (fun _ _ _ _=>trivial) ?_ ?_ _ _ _ ⟨nums c n,f,x5,rfl,rfl,m2,K9 hv n,fun x hx=>(Ag hv).mp hx,fun x hx=>?_⟩
   ·rintro d ds τ G2 N2 ⟨ms,g,x5,e,rfl,m3,nd,hr,hg⟩ hN2;cases ms with
    |nil=>cases e
    |cons x ms=>
     cases e;have nd':=dG.mp nd;obtain⟨hx,hrx⟩:=hr x ο;refine⟨_,_,m3.at_,K8 hx,?_⟩;refine⟨_,x,m3.at_,?_,?_⟩
     ·rw[AW];exact RC hx
     ·refine hN2 _ _ ⟨ms,fun y=>if y=x then g x+1 else g y,_,rfl,rfl,⟨m3.aF,Sub.xb m3.sub m3.aF,?_⟩,nd'.2,fun y hy=>hr y (χ _ hy),fun y hy=>?_⟩
      ·rw[lg,←RE hx];rfl
      ·have:=hg y hy;by_cases hyx:y=x
       ·subst hyx;rw[if_neg (fun z=>z.2 ο)] at this;rw[if_pos (⟨hrx,nd'.1⟩:rg y c=true/\y∉ms)];show (if y=y then g y+1 else g y)=f y+1;rw[if_pos rfl,this]
       ·show (if y=x then g x+1 else g y)=_;rw[if_neg hyx,this];have:y∉x::ms↔y∉ms:=by simp[hyx]
        simp only[this]
   ·rintro τ G2 ⟨ms,g,x5,e,rfl,m3,nd,hr,hg⟩;have e0:ms=[]:=by cases ms with
     |nil=>rfl
     |cons z zs=>cases e
    subst e0;refine hN _ _ ⟨zs,fun x=>f x+(if rg x c=true then 1 else 0),_,_,_,rfl,rfl,?_,fun z hz=>hm z (χ _ hz),fun x=>?_⟩
    ·rw[K7 (g:=g) fun x hx=>?_]
     ·exact m3
     ·rw[hg x hx];simp
    ·have:=hf x;rw[Kl] at this;show f x+(if rg x c=true then 1 else 0)+gu zs x=gu cs x;lia
   ·rw[if_neg]
    ·rfl
    ·rintro⟨z1,z2⟩;exact z2 ((Ag hv).mpr ⟨hx,z1⟩)
 ·rintro τ G' ⟨zs,f,x3,x4,x5,e,rfl,m2,hm,hf⟩;have e0:zs=[]:=by cases zs with
   |nil=>rfl
   |cons z zs=>cases e
  subst e0;refine dQ (q p G' ?_);rw[K7 (g:=f) fun x _=>by have:=hf x;have e:gu [] x=0:=rfl;lia];exact m2
def oN:Option Nat->D
 |none=>.aF
 |some x=>nD x
def xO:eX:=fun ds G Q=>∃(c:ω) (p:η) (f:Nat->Nat) (n m:Nat),ds=[cD c,.obj p,.int m]/\G p=some (.lst (jA f n))/\Valid c/\c.1≤1000000/\n≤10000/\Q (oN ((nums c n).find? fun x=>f x==m)) G
def Rv:aB:=g0 (bJ (aJ (fg false) (aJ ff (ν 1) (ν 3)) (ν 2))) (bY (ν 3)) (dN)
def Ru:aB:=bY (eC .aF)
def Kk:aB:=bj (iV (wU (μ (aJ ff (ν 0) (eC (.int 1))) (μ (cF jU (μ (ν 1) (ab))) (μ (aJ ff (ν 0) (eC (.int 0))) (ab))))) (hName 3) (Rv)) Ru
theorem QL:∀ds G Q,xO ds G Q->Kk (bq Q) (bI ["clock","counts","many","number"] ds) G:=by
 rintro ds G Q ⟨c,p,f,n,m,rfl,hp,hv,hb,hn,q⟩;have v1:=hv.1;have v2:=hv.2.1;have v3:=hv.2.2;refine⟨_,rfl,_,hp,_,rfl,⟨by lia,by lia,by rw[AW];lia,by rw[AW];lia,v1,by lia⟩,?_⟩;show iA _ _ _ _ (qi c.2 c.1 (jr c.2 (((jA f n).length:Nat):Int) c.1)) _ _;rw[AW,La hv];refine jE (fun ds τ G'=>G'=G/\∃(ms:List Nat) (x3:Option D),ds=ms.map nD/\τ=[some (cD c),some (.obj p),some (.int m),x3]/\(∀x∈ms,x<n)/\ms.find? (fun x=>f x==m)=(nums c n).find? fun x=>f x==m) (fun _ _ _ _=>trivial) ?_ ?_ _ _ _ ⟨rfl,nums c n,none,rfl,rfl,fun x hx=>((Ag hv).mp hx).1,rfl⟩
 ·rintro d ds τ G' N ⟨eg,ms,x3,e,rfl,hm,hf⟩ hN;cases ms with
  |nil=>cases e
  |cons x ms=>
   cases e;rw[dH] at hf;refine⟨_,_,by rw[eg];exact hp,K8 (hm x ο),_,_,rfl,rfl,aQ _,fun h=>?_,fun h=>?_⟩
   ·have h':(((f x:Nat):Int)==(m:Int))=true:=h;have e2:f x=m:=by
     rw[beq_iff_eq] at h';exact_mod_cast h'
    rw[show (f x==m)=true by rw[e2,beq_self_eq_true]] at hf;rw[←hf] at q;rw[eg];exact dQ q
   ·have h':(((f x:Nat):Int)==(m:Int))=false:=h;have e2:(f x==m)=false:=by
     cases e3:f x==m with
     |false=>rfl
     |true=>
      rw[beq_iff_eq] at e3;rw[e3,beq_self_eq_true] at h';cases h'
    rw[e2] at hf;exact hN _ _ ⟨eg,ms,_,rfl,rfl,fun y hy=>hm y (χ _ hy),hf⟩
 ·rintro τ G' ⟨eg,ms,x3,e,rfl,hm,hf⟩;cases ms with
  |cons x ms=>cases e
  |nil=>
   have hf:none=(nums c n).find? fun x=>f x==m:=hf;rw[←hf] at q;rw[eg];exact dQ q
end My
namespace My
open PySem L2 L3
def MX(cs:List ω)(c:ω):Option Nat:=(nums c (cw (cs++[c]))).find? fun x=>gu cs x==0
def o8(cs:List ω):Option Nat:=(av (cw cs)).find? fun x=>gu cs x==0
theorem Kj(cs:List ω):cw (cs++[(1,0)])=cw cs:=by
 unfold cw nI;rw[List.foldl_append];show fE _ 1=_;rw[Nat.lcm_one_right]
theorem QK(n:Nat):nums (1,0) n=av n:=by
 have e:jr 0 (n:Int) 1=n:=by
  unfold jr;split
  ·rw[Int.ediv_one];lia
  ·lia
 unfold nums;show (av (jr 0 (n:Int) 1)).map (fun i=>0+i*1)=_;rw[e];refine (b9 fun i _=>?_).trans (ue _);show 0+i*1=i;lia
theorem QJ(cs:List ω):MX cs (1,0)=o8 cs:=by
 unfold MX o8;rw[Kj,QK]
theorem QH{cs:List ω}(ok:mm 1000 cs):mm 1000 (cs++[(1,0)]):=fun z hz=>by
 rcases ar.mp hz with h|h
 ·exact ok z h
 ·have:z=(1,0):=by simpa using h
  subst this;exact⟨⟨by decide,by decide,by decide⟩,by decide⟩
end My
namespace My
open PySem L2 L3
theorem Ki{cs:List ω}{z:ω}(h:z∈cs):z.1.toNat∣cw cs:=Q1 h
theorem Ee{cs:List ω}(h:∀z∈cs,0<z.1):0<cw cs:=by
 have:∀(cs:List ω) (a:Nat),(∀z∈cs,0<z.1)->0<a->0<nI cs a:=by
  intro cs
  induction cs with
  |nil=>intro a _ h;exact h
  |cons z zs ih=>
   intro a hz ha;refine ih _ (fun y hy=>hz y (χ _ hy)) (qE ha ?_);have:=hz z ο;lia
 exact this cs 1 h (by decide)
theorem Ed{c p:ω}{k:Nat}(h:Valid c)(hp:p∈parts c k):Valid p/\p.1=c.1*(k:Int):=by
 obtain⟨t,ht,rfl⟩:=aE.mp hp;have ht:=cm.mp ht;exact⟨RI h (by lia) (by lia),rfl⟩
def FE(cs:List ω)(i:Nat):List ω:=cs.take i++cs.drop (i+1)
end My
namespace My
open PySem L2 L3
theorem QF{c:ω}(h:Valid c){N:Nat}(hd:c.1.toNat∣N)(h0:0<N):(nums c N).length=N / c.1.toNat:=by
 obtain⟨h1,h2,h3⟩:=h;obtain⟨s,hs⟩:∃s:Nat,c.1=(s:Int):=⟨c.1.toNat,by lia⟩;obtain⟨r,hr⟩:∃r:Nat,c.2=(r:Int):=⟨c.2.toNat,by lia⟩;unfold nums;rw[ε,cn];rw[hs,bz] at hd ⊢;have s0:0<s:=by lia
 have hle:s≤N:=fU h0 hd;unfold jr;rw[hr,if_pos (by lia)];obtain⟨q,rfl⟩:=hd;rw[kA q s0];have hq:1≤q:=by
  cases q with
  |zero=>simp at h0
  |succ q=>lia
 have e:(((s*q:Nat):Int)-(r:Int)-1) / (s:Int)=(q:Int)-1:=by
  have:((s*q:Nat):Int)-(r:Int)-1=((s:Int)-r-1)+(s:Int)*((q:Int)-1):=by
   rw[jQ,qL,uf];lia
  rw[this,Int.add_mul_ediv_left _ _ (by lia),Int.ediv_eq_zero_of_lt (by lia) (by lia)];lia
 rw[e];lia
theorem QD{c:ω}(h:Valid c){N:Nat}(hd:c.1.toNat∣N)(h0:0<N):((av N).filter fun x:Nat=>rg x c).length=N / c.1.toNat:=by
 rw[←QF h hd h0];refine List.Perm.length_eq ((List.perm_ext_iff_of_nodup (pI.filter _) (K9 h N)).mpr fun x=>?_);rw[Ag h,iF,cm]
theorem Kh{p:Nat->Bool}:∀xs:List Nat,(xs.map fun x=>if p x=true then 1 else 0).sum=(xs.filter p).length
 |[]=>rfl
 |x::xs=>by
  rw[aZ,cH,Kh xs,lB];split
  ·rw[ag];lia
  ·lia
theorem Kg{f g:Nat->Nat}:∀xs:List Nat,(xs.map fun x=>f x+g x).sum=(xs.map f).sum+(xs.map g).sum
 |[]=>rfl
 |x::xs=>by
  rw[aZ,cH,Kg xs,aZ,cH,aZ,cH];lia
theorem xN{N:Nat}(h0:0<N):∀{cs:List ω},(∀c∈cs,Valid c/\c.1.toNat∣N)->((av N).map (gu cs)).sum=dR cs N
 |[],_=>by
  have:∀xs:List Nat,(xs.map (gu [])).sum=0:=fun xs=>by
   induction xs with
   |nil=>rfl
   |cons x xs ih=>rw[aZ,cH,ih];rfl
  rw[this];rfl
 |c::cs,h=>by
  have hc:=h c ο;have e:(av N).map (gu (c::cs))=(av N).map fun x:Nat=>(if rg x c=true then 1 else 0)+gu cs x:=b9 fun x _=>Kl c cs x;rw[e,Kg,Kh (p:=fun x:Nat=>rg x c),QD hc.1 hc.2 h0,xN h0 fun d hd=>h d (χ _ hd)];unfold dR;rw[aZ,cH]
end My
namespace L3
open PySem PySem.Spec PyProof.Rows L2
theorem jF{us:List δ}(h:us.length=1):∃a,us=[a]:=List.length_eq_one_iff.mp h
theorem lj{us:List δ}(h:us.length=2):∃a b,us=[a,b]:=by
 rcases us with _|⟨a,us⟩
 ·cases h
 ·obtain⟨b,rfl⟩:=jF (us:=us) (Nat.succ.inj h);exact⟨a,b,rfl⟩
theorem Bc{us:List δ}(h:us.length=3):∃a b c,us=[a,b,c]:=by
 rcases us with _|⟨a,us⟩
 ·cases h
 ·obtain⟨b,c,rfl⟩:=lj (us:=us) (Nat.succ.inj h);exact⟨a,b,c,rfl⟩
end L3
namespace My
open PySem L2 L3
theorem QB(cs:List ω):(Dat.D.tup (cs.map cX)).dS (.tup (cs.map cX))=true:=by
 show Dat.iZ (cs.map cX) (cs.map cX)=true;rw[Ei];simp
theorem Qz{α:Type}(xs:List α):xs.filter (fun _=>true)=xs:=ig.mpr fun _ _=>rfl
end My
namespace My
open PySem L2 L3
def xh(C c:ω):ω:=(C.1*c.1,C.2+C.1*c.2)
theorem Qy{C c:ω}(hC:0<C.1)(n:Int):eD (C.2+C.1*n) (xh C c)=eD n c:=by
 rw[dI,fC,fC];show C.1*c.1∣C.2+C.1*n-(C.2+C.1*c.2)↔_;rw[show C.2+C.1*n-(C.2+C.1*c.2)=C.1*(n-c.2) by rw[qL];lia];exact Int.mul_dvd_mul_iff_left (by lia)
end My
namespace My
open PySem L2 L3
end My
namespace My
open PySem L2 L3
theorem Qx{c:ω}{N:Nat}(hd:c.1.toNat∣N)(hc:0<c.1)(n t:Int):eD (n+(N:Int)*t) c=eD n c:=by
 have d:c.1∣(N:Int)*t:=by
  have:=gb.mpr hd;rw[ba (by lia)] at this;exact nW this (gI _ _)
 rw[dI,fC,fC,show n+(N:Int)*t-c.2=(n-c.2)+(N:Int)*t by lia];exact⟨fun h=>by
  have:=qM h d;rwa [Int.add_sub_cancel] at this,fun h=>qN h d⟩
def lp(cs:List ω):Prop:=∀n:Int,(cs.filter (eD n)).length=1
theorem sO{c:ω}:eD c.2 c=true:=by
 rw[fC,Int.sub_self];exact Int.dvd_zero _
theorem lp.nodup{cs:List ω}(h:lp cs):cs.Nodup:=by
 rw[se];intro c;have h1:=h c.2;have:cs.count c≤(cs.filter (eD c.2)).length:=by
  rw[←m7];unfold List.count;refine List.countP_mono_left fun x _ hx=>?_;rw[eq_of_beq hx];exact sO
 lia
theorem Qw{c:ω}{os:List ω}(hc:0<c.1)(h:lp os)(n:Int):((os.map (xh c)).filter (eD n)).length=if eD n c=true then 1 else 0:=by
 by_cases q:eD n c=true
 ·rw[if_pos q];obtain⟨m,hm⟩:=fC.mp q;rw[qf,ε,←h m];refine congrArg bR (kK fun y _=>?_);show eD n (xh c y)=eD m y;rw[show n=c.2+c.1*m by lia];exact Qy hc m
 ·rw[if_neg q,ip,fq];intro z hz e;obtain⟨y,_,rfl⟩:=aE.mp hz;refine q (fC.mpr ?_);have d:=fC.mp e;have d1:c.1∣n-(c.2+c.1*y.2):=nW (gI c.1 y.1) d;have:=qN d1 (gI c.1 y.2);rwa [show n-(c.2+c.1*y.2)+c.1*y.2=n-c.2 by lia] at this
theorem Ec{cs:List ω}{i:Nat}{c:ω}(hi:cs[i]?=some c):cs=cs.take i++c::cs.drop (i+1):=by
 obtain⟨hl,e⟩:=Φ.mp hi;rw[←e,gr,bC]
theorem Qv{cs os:List ω}{i:Nat}{c:ω}(hc:0<c.1)(hi:cs[i]?=some c)(ho:lp os)(n:Int):((FE cs i++os.map (xh c)).filter (eD n)).length=(cs.filter (eD n)).length:=by
 have e:(cs.filter (eD n)).length=((cs.take i).filter (eD n)).length+((if eD n c=true then 1 else 0)+((cs.drop (i+1)).filter (eD n)).length):=by
  conv=>lhs;rw[Ec hi]
  rw[fG,ξ];by_cases q:eD n c=true
  ·rw[eY q,ag,if_pos q];lia
  ·rw[fZ q,if_neg q];lia
 rw[e,fG,ξ,Qw hc ho];unfold FE;rw[fG,ξ];lia
end My
namespace i6
open PySem
section
variable {prog:aw} {w:aG} {A:aR} {E:δ->ζ->Prop} {s:ζ}
inductive ml(prog:aw)(w:aG)(h:Heap):List (List Int)->List δ->Prop
 |nil:ml prog w h [] []
 |cons {ks:List Int} {b:η} {kss:List (List Int)} {vs:List δ}:kQ prog w h ks b->ml prog w h kss vs->ml prog w h (ks::kss) (.ref b::vs)
def nP(prog:aw)(w:aG)(h:Heap)(kss:List (List Int))(a:η):Prop:=∃o items n,h.get? a=some o/\o.cls=.type "tuple"/\o.data=.seq items n/\ml prog w h kss items.toList
theorem ml.inj{h:Heap}{x y:List (List Int)}{vs:List δ}(hx:ml prog w h x vs)(hy:ml prog w h y vs):x=y:=by
 induction hx generalizing y with
 |nil=>cases hy;rfl
 |cons h1 _ ih=>
  cases hy with
  |cons h2 t2=>rw[h1.inj h2,ih t2]
theorem ml.mono{h h':Heap}{x:List (List Int)}{vs:List δ}(m:∀ks b,kQ prog w h ks b->kQ prog w h' ks b)(hx:ml prog w h x vs):ml prog w h' x vs:=by
 induction hx with
 |nil=>exact .nil
 |cons h1 _ ih=>exact .cons (m _ _ h1) ih
theorem nP.inj{h:Heap}{a:η}{x y:List (List Int)}(hx:nP prog w h x a)(hy:nP prog w h y a):x=y:=by
 obtain⟨o,items,n,ho,_,hd,hi⟩:=hx;obtain⟨o',items',n',ho',_,hd',hi'⟩:=hy;obtain rfl:o=o':=aA (ho.symm.trans ho');rw[hd] at hd';injection hd' with h1 _;subst h1;exact hi.inj hi'
end
end i6
namespace HT
open PySem PyProof.Rows
def gf:List (List Int)->List (List Int)->Bool
 |[],[]=>false
 |[],_::_=>true
 |_::_,[]=>false
 |x::xs,y::ys=>if x=y then gf xs ys else lexLt x y
inductive jG(h:Heap):List δ->List (List Int)->Prop
 |nil:jG h [] []
 |cons {a:η} {its:Array δ} {ks:List Int} {vs:List δ} {kss:List (List Int)}:gS h a its->dg its.toList ks->jG h vs kss->jG h (.ref a::vs) (ks::kss)
theorem jG.length{h:Heap}{vs:List δ}{kss:List (List Int)}(t:jG h vs kss):vs.length=kss.length:=by
 induction t with
 |nil=>rfl
 |cons _ _ _ ih=>simp[ih]
theorem Qu{h:Heap}{prog:aw}{w:aG}{ks:List Int}{vs:List δ}(i:dg vs ks):ItemsAre (intKind prog w) ks vs:=by
 induction i with
 |nil=>exact .nil
 |cons a t _ ih=>exact .cons (by simp[intKind,qA]) ih
theorem Qt{prog:aw}{w:aG}{ks:List Int}{vs:List δ}(i:ItemsAre (intKind prog w) ks vs):dg vs ks:=by
 induction i with
 |nil=>exact .nil
 |cons h1 _ ih=>
  obtain⟨t,rfl⟩:=iQ h1;exact .cons _ _ ih
theorem AV{h:Heap}{prog:aw}{w:aG}{a:η}{its:Array δ}{ks:List Int}(t:gS h a its)(i:dg its.toList ks):i6.kQ prog w h ks a:=by
 obtain⟨o,ho,hc,n,hd⟩:=t;exact⟨o,its,n,ho,hc,hd,Qu (h:=h) i⟩
theorem nq{h:Heap}{prog:aw}{w:aG}{a:η}{ks:List Int}(k:i6.kQ prog w h ks a):∃its,gS h a its/\dg its.toList ks:=by
 obtain⟨o,its,n,ho,hc,hd,i⟩:=k;exact⟨its,⟨o,ho,hc,n,hd⟩,Qt i⟩
theorem rM{h:Heap}{prog:aw}{w:aG}{vs:List δ}{kss:List (List Int)}(t:i6.ml prog w h kss vs):jG h vs kss:=by
 induction t with
 |nil=>exact .nil
 |cons k _ ih=>
  obtain⟨its,t,i⟩:=nq k;exact .cons t i ih
section
open PySem.SeqAt
open PySem.AutoSeq1 (wpAny_loadPart')
open PySem.MeetsSeq PySem.MeetsSeq2 PySem.MeetsSeq3
theorem Qs(l b:η)(items items2:Array δ)(n n2:Nat)(dd dd2:Option η)(sl sl2:Array (Option δ))(ns ms:List (List Int)):
  Meets (gm.«tuple.__lt__» ⟨[.ref l,.ref b],[]⟩)
   (fun A R s=>s.heap.get? l=some { cls:=.type "tuple",dict:=dd,data:=.seq items n,slots:=sl }/\s.heap.get? b=some { cls:=.type "tuple",dict:=dd2,data:=.seq items2 n2,slots:=sl2 } ∧
    (jG s.heap items.toList ns/\jG s.heap items2.toList ms/\A.units+8<cLine)/\R (.ok (.ret (.bool (gf ns ms)))) s):=
 .of_wp fun prog w A R s h=>by
  obtain⟨hp,g,d,tk,os⟩:=s;obtain⟨hl,hb,⟨hi,hj,hu⟩,h⟩:=h;have f2:=hZ;have z1:items.size=ns.length:=by rw[←hi.length];simp
  have z2:items2.size=ms.length:=by rw[←hj.length];simp
  have hu1:A.in1.units<cLine:=by first|(show A.units<cLine;lia)|(show A.units+1<cLine;lia)
  wp_walk using wpAny_loadPart' hl,wpAny_loadPart' hb,ls _ (fun rest b s'=>b.1=none/\s'=⟨hp,g,d,tk,os⟩/\∃(vs ws:List δ) (ns' ms':List (List Int)),rest=vs.zip ws ∧
   jG hp vs ns'/\jG hp ws ms'/\ns'.length+items2.size=ms'.length+items.size/\R (.ok (.ret (.bool (gf ns' ms')))) ⟨hp,g,d,tk,os⟩) _
  case turn=>
   rintro⟨y,x⟩ rest b s' ⟨hb',rfl,vs,ws,ns',ms',hz,hvi,hwi,hlen,hR⟩;cases hvi with
   |nil=>rw[kH] at hz;cases hz
   |@cons a its ks _ _ t1 i1 hvi'=>
    cases hwi with
    |nil=>rw[km] at hz;cases hz
    |@cons c its2 ks2 _ _ t2 i2 hwi'=>
     rw[dJ] at hz;injection hz with hyx hrest;injection hyx with hy hx;subst hy hx;have hR2:R (.ok (.ret (.bool (if ks=ks2 then gf _ _ else lexLt ks ks2)))) ⟨hp,g,d,tk,os⟩:=hR;simp only[ag] at hlen;refine γ (kf (knd:=intKind prog w) (s:=⟨hp,g,d,tk,os⟩) hu1 (AV t1 i1) (AV t2 i2) ?_);by_cases e:ks=ks2
     ·rw[if_pos e] at hR2;rw[decide_eq_true e];wp_walk;exact⟨rfl,rfl,_,_,_,_,hrest,hvi',hwi',by lia,hR2⟩
     ·rw[if_neg e] at hR2;rw[decide_eq_false e];have hri:∀(E:δ->ζ->Prop) (Q:δ->ζ->Prop),Q (.bool (lexLt ks ks2)) ⟨hp,g,d,tk,os⟩->π (model prog w) A.in1 (iM .Lt (.ref a) (.ref c)) Q E ⟨hp,g,d,tk,os⟩:=fun E Q h=>(oC (s:=⟨hp,g,d,tk,os⟩) t1 t2 i1 i2 hu1 h:π (model prog w) A.in1 (compareOp .Lt (.ref a) (.ref c)) Q E ⟨hp,g,d,tk,os⟩);wp_walk using hri;exact⟨_,rfl,by simpa using hR2⟩
  case fin=>
   rintro⟨b1,b2⟩ s' ⟨hb',rfl,vs,ws,ns',ms',hz,hvi,hwi,hlen,hR⟩;simp only at hb';subst hb';have hv:gf ns' ms'=decide (items.size<items2.size):=by
    cases hvi with
    |nil=>
     cases hwi with
     |nil=>
      simp only[bO] at hlen;exact (decide_eq_false (by lia)).symm
     |cons c u hw=>
      simp only[bO,ag] at hlen;exact (decide_eq_true (by lia)).symm
    |cons a t hv=>
     cases hwi with
     |nil=>
      simp only[bO,ag] at hlen;exact (decide_eq_false (by lia)).symm
     |cons c u hw=>
      rw[dJ] at hz;cases hz
   rw[hv] at hR;wp_walk;exact⟨_,rfl,by simpa [fI] using hR⟩
  case h=>
   exact⟨rfl,rfl,items.toList,items2.toList,ns,ms,rfl,hi,hj,by lia,h⟩
end
section
variable {prog:aw} {w:aG} {A:aR} {E:δ->ζ->Prop} {s:ζ}
theorem Bb{l b:η}{items items2:Array δ}{ns ms:List (List Int)}{Q:δ->ζ->Prop}(hl:gS s.heap l items)(hb:gS s.heap b items2)(hi:jG s.heap items.toList ns)(hj:jG s.heap items2.toList ms)
  (hu:A.units+16<cLine) (h:Q (.bool (gf ns ms)) s):π (model prog w) A (compareOp .Lt (.ref l) (.ref b)) Q E s:=by
 obtain⟨⟨cls,dd,data,sl⟩,ho,hc,n,hd⟩:=id hl;obtain⟨⟨cls2,dd2,data2,sl2⟩,ho2,hc2,n2,hd2⟩:=id hb;simp only at hc hd hc2 hd2;subst hc hd hc2 hd2;exact iL (op:=.Lt) ⟨_,ho,rfl⟩ ⟨_,ho2,rfl⟩ PySem.F.slot_tuple_lt PySem.F.entry_tuple_lt (PySem.F.args_tuple_lt_2 _ _) (Qs l b items items2 n n2 dd dd2 sl sl2 ns ms)
  ⟨ho,ho2,⟨hi,hj,by first|lia|(show A.units+1+8<cLine;lia)|(show A.units+2+8<cLine;lia)⟩,show fw (gf ns ms)≠jw/\Q (.bool (gf ns ms)) s from⟨(fun x=>nomatch x),h⟩⟩ (by lia)
end
end HT
namespace i6
open PySem
section
variable {prog:aw} {w:aG} {A:aR} {E:δ->ζ->Prop} {s:ζ}
theorem wt{h h':Heap}{ks:List Int}{b:η}(k:∀c ob,h.get? c=some ob->h'.get? c=some ob)(z:kQ prog w h ks b):kQ prog w h' ks b:=by
 obtain⟨o,its,n,ho,r⟩:=z;exact⟨o,its,n,k _ _ ho,r⟩
theorem EX{h h':Heap}{kss:List (List Int)}{b:η}(k:∀c ob,h.get? c=some ob->h'.get? c=some ob)(z:nP prog w h kss b):nP prog w h' kss b:=by
 obtain⟨o,its,n,ho,hc,hd,hi⟩:=z;exact⟨o,its,n,k _ _ ho,hc,hd,hi.mono fun ks b z=>wt k z⟩
end
end i6
namespace aK
open PySem PySem.W PyProof.Rows PySem.Calls i6
theorem sW:∀x y:List Int,lx x y=HT.lexLt x y
 |[],[]=>rfl
 |[],_::_=>rfl
 |_::_,[]=>rfl
 |x::xs,y::ys=>by
  show (if x=y then lx xs ys else _)=(if x=y then HT.lexLt xs ys else _);rw[sW xs ys]
theorem Eb:∀{x y:List Int},x≠y->lx x y=false->lx y x=true
 |[],[],h,_=>absurd rfl h
 |[],_::_,_,h=>by cases h
 |_::_,[],_,_=>rfl
 |x::xs,y::ys,h,h2=>by
  have h2':(if x=y then lx xs ys else decide (x<y))=false:=h2;show (if y=x then lx ys xs else decide (y<x))=true;by_cases e:x=y
  ·subst e;rw[if_pos rfl] at h2' ⊢;exact Eb (fun z=>h (by rw[z])) h2'
  ·rw[if_neg e] at h2';rw[if_neg (eU e)];have:=of_decide_eq_false h2';exact decide_eq_true (by lia)
def fA:List (List Int)->List (List Int)->Bool
 |[],[]=>false
 |[],_::_=>true
 |_::_,[]=>false
 |x::xs,y::ys=>if x=y then fA xs ys else lx x y
theorem wk:∀x y:List (List Int),HT.gf x y=fA x y
 |[],[]=>rfl
 |[],_::_=>rfl
 |_::_,[]=>rfl
 |x::xs,y::ys=>by
  show (if x=y then HT.gf xs ys else HT.lexLt x y)=(if x=y then fA xs ys else lx x y);rw[wk xs ys,sW]
theorem oM:∀{x y:List (List Int)},fA x y=true->fA y x=false
 |[],[],h=>by cases h
 |[],_::_,_=>rfl
 |_::_,[],h=>by cases h
 |x::xs,y::ys,h=>by
  have h':(if x=y then fA xs ys else lx x y)=true:=h;show (if y=x then fA ys xs else lx y x)=false;by_cases e:x=y
  ·rw[if_pos e] at h';rw[if_pos e.symm];exact oM h'
  ·rw[if_neg e] at h';rw[if_neg (eU e)];exact uZ h'
theorem tO:∀{a b c:List (List Int)},fA b a=false->fA c b=false->fA c a=false
 |[],_,[],_,_=>rfl
 |[],[],_::_,_,_=>rfl
 |[],_::_,_::_,_,_=>rfl
 |_::_,[],_,h,_=>by cases h
 |_::_,_::_,[],_,h=>by cases h
 |a::as,b::bs,c::cs,h1,h2=>by
  have h1':(if b=a then fA bs as else lx b a)=false:=h1;have h2':(if c=b then fA cs bs else lx c b)=false:=h2;show (if c=a then fA cs as else lx c a)=false;by_cases e1:b=a
  ·rw[if_pos e1] at h1';by_cases e2:c=b
   ·rw[if_pos e2] at h2';rw[if_pos (e2.trans e1)];exact tO h1' h2'
   ·rw[if_neg e2] at h2';rw[if_neg (fun z=>e2 (z.trans e1.symm)),←e1];exact h2'
  ·rw[if_neg e1] at h1';by_cases e2:c=b
   ·rw[if_neg (fun z=>e1 (e2.symm.trans z)),e2];exact h1'
   ·rw[if_neg e2] at h2';by_cases e3:c=a
    ·subst e3;have:=Eb (eU e1) h2';rw[h1'] at this;cases this
    ·rw[if_neg e3];exact uY h1' h2'
theorem tP:∀{x y:List (List Int)},x≠y->fA x y=false->fA y x=true
 |[],[],h,_=>absurd rfl h
 |[],_::_,_,h=>by cases h
 |_::_,[],_,_=>rfl
 |x::xs,y::ys,h,h2=>by
  have h2':(if x=y then fA xs ys else lx x y)=false:=h2;show (if y=x then fA ys xs else lx y x)=true;by_cases e:x=y
  ·subst e;rw[if_pos rfl] at h2' ⊢;exact tP (fun z=>h (by rw[z])) h2'
  ·rw[if_neg e] at h2';rw[if_neg (eU e)];exact Eb e h2'
section
variable {prog:aw} {w:aG} {A:aR} {E:δ->ζ->Prop} {s:ζ}
theorem Qr{Q:Bool->ζ->Prop}(hu:A.units+16<cLine):∀(xs ys:List (List Int)) (us vs:List δ) (i:Nat) (fin:Bool),ml prog w s.heap xs us->ml prog w s.heap ys vs ->
  (∃n,fin=decide (n+us.length<n+vs.length))->Q (fA xs ys) s->KatLex prog w A false fin Q (us.zip vs) i s:=by
 intro xs
 induction xs with
 |nil=>
  intro ys us vs i fin h1 h2 hf h;cases h1;obtain⟨n,hf⟩:=hf;cases h2 with
  |nil=>
   have:fin=false:=by simp at hf;exact hf
   rw[this];exact oP h
  |cons h3 h4=>
   have:fin=true:=by rw[hf];simp
   rw[this];exact oP h
 |cons x xs ih=>
  intro ys us vs i fin h1 h2 hf h;cases h1 with
  |cons h1 h1'=>
  cases h2 with
  |nil=>
   obtain⟨n,hf⟩:=hf;have:fin=false:=by rw[hf];simp
   rw[this];exact oP h
  |cons h3 h4=>
   refine kat_cons (kf (by lia) h1 h3 ?_);rename_i _ y _ ys _;have h':Q (if x=y then fA xs ys else lx x y) s:=h;by_cases e:x=y
   ·rw[if_pos e] at h';rw[decide_eq_true e];refine kat_yes (ih ys _ _ (i+1) fin h1' h4 ?_ h');obtain⟨n,hf⟩:=hf;exact⟨n+1,by rw[hf];congr 1;simp only[ag];apply propext;lia⟩
   ·rw[if_neg e] at h';rw[decide_eq_false e];refine kat_no ?_;show π _ _ (oneLt' false _ _) _ _ _;obtain⟨i1,t1,j1⟩:=HT.nq h1;obtain⟨i2,t2,j2⟩:=HT.nq h3;refine kat_one _ _ (HT.oC t1 t2 j1 j2 (by lia) ?_);rw[←sW];exact h'
theorem C2{Q:Bool->ζ->Prop}{x y:List (List Int)}{a b:η}(hu:A.units+16<cLine)(hx:nP prog w s.heap x a)(hy:nP prog w s.heap y b)(h:Q (fA x y) s):π (model prog w) A (keyLt' (tuples' false) (.ref a) (.ref b)) Q E s:=by
 obtain⟨o,its,n,ho,_,hd,hi⟩:=hx;obtain⟨o',its',n',ho',_,hd',hi'⟩:=hy;exact kat_lt ho hd ho' hd' (Qr hu x y its.toList its'.toList 0 _ hi hi' ⟨0,by simp⟩ h)
abbrev aaH(x y:List (List Int)×η):Bool:=fA x.1 y.1
abbrev Gw(p:List (List Int)×η):δ:=.ref p.2
theorem NB:ph aaH:=⟨fun _ _ h=>oM h,fun _ _ _ h1 h2=>tO h1 h2⟩
theorem Kf{h:Heap}:∀{ps:List (List (List Int)×η)},(∀p∈ps,nP prog w h p.1 p.2/\p.1≠[])->∃fs,KatTups h (ps.map fun p=>au p.2) fs/\fs.length=ps.length/\∀v∈fs,∃ks b,v=.ref b/\kQ prog w h ks b
 |[],_=>⟨[],.nil,rfl,fun v hv=>nomatch hv⟩
 |p::ps,hk=>by
  obtain⟨fs,h1,h2,h3⟩:=Kf (ps:=ps) fun q hq=>hk q (χ _ hq);obtain⟨⟨o,its,n,ho,hc,hd,hi⟩,hne⟩:=hk p ο;obtain⟨ks,a⟩:=p;cases ks with
  |nil=>exact absurd rfl hne
  |cons k ks=>
   obtain⟨its⟩:=its;cases hi with
   |@cons _ b _ vs h4 h5=>
    refine⟨.ref b::fs,tJ ho hc hd (by simp) h1,by simp[h2],fun u hu=>?_⟩;rcases ay.mp hu with q|q
    ·exact⟨k,b,q,h4⟩
    ·exact h3 u q
theorem EV{ps:List (List (List Int)×η)}(hne:ps≠[])(hk:∀p∈ps,nP prog w s.heap p.1 p.2/\p.1≠[]){Q:cv->ζ->Prop}(h:Q (tuples' false) s):π (model prog w) A (keyKind' (ps.map Gw).toArray) Q E s:=by
 obtain⟨fs,h1,h2,h3⟩:=Kf hk;have hl:0<fs.length:=by
  rw[h2];exact gh.mpr hne
 refine kat_kind (T:=.type "tuple") h1 hl (fun v hv=>?_) rfl h;obtain⟨ks,b,rfl,⟨o,its,n,ho,hc,hd,hi⟩⟩:=h3 v hv;rw[←hc];exact (Looks.ld ho).andThen .now
end
end aK
namespace L3
open PySem PySem.Spec PyProof.Rows L2
section
variable {X:Cx} {e:ρ} {te:aO} {p p2 pos kp kp2 cp:aP} {j:Option Ξ}
theorem Ke{K:PySem.W.Frag}{H:Hp}:∀{ds:List D} {vs:List V} {i:Nat} {d:D},aI K H ds vs->ds[i]?=some d->∃v,vs[i]?=some v/\Hv K H d v
 |[],vs,i,d,_,e=>by cases e
 |x::ds,vs,i,d,h,e=>by
  obtain⟨v,r,rfl,h1,h2⟩:=h.inv;cases i with
  |zero=>
   cases e;exact⟨v,rfl,h1⟩
  |succ i=>exact Ke (i:=i) h2 e
end
end L3
namespace My
open PySem L2 L3
theorem Qq:∀ns:List Int,dY (ns.map D.int)=some (ns.map Dat.D.int):=by
 intro ns
 induction ns with
 |nil=>rfl
 |cons n ns ih=>
  show dY (D.int n::ns.map D.int)=_;rw[dY,ih];rfl
def tX(ns:List Int):Dat.D:=.tup (ns.map Dat.D.int)
theorem AU{G:Gp}(ns:List Int):kX G (tupI ns)=some (tX ns):=by
 show gG (.tup (ns.map D.int))=_;rw[gG,Qq];rfl
theorem Ea(ns:List Int):Dat.fH (ns.map Dat.D.int)=0:=by
 induction ns with
 |nil=>rfl
 |cons n ns ih=>
  show max 0 (Dat.fH (ns.map Dat.D.int))=0;lia
theorem Qp(ns:List Int)(n:Int):(ns.map Dat.D.int).any (fun v=>v.dS (.int n))=decide (n∈ns):=by
 rw[List.any_map,dI,List.any_eq_true,decide_eq_true_iff];constructor
 ·rintro⟨x,hx,h⟩;have h':(x==n)=true:=h;rw[←eq_of_beq h'];exact hx
 ·intro h;exact⟨n,h,by show (n==n)=true;exact beq_self_eq_true n⟩
end My
namespace My
open PySem PySem.Spec PyProof.Rows L2 L3
section
variable {prog:aw} {w:aG} {A:aR} {R:pD->ζ->Prop} {I:η} {fp wr:List η} {Gs:Array GenState->Array GenState->Prop} {n:Nat} {P:Nat->δ->Prop} {St:Nat->ζ->Prop}
theorem Qo(W:WalksS prog w A.in1 I fp wr Gs n P St)(bt:Nat->Nat->Bool)(S:η)(hSf:S∉fp)(s0:ζ)
  (yB:∀(i j:Nat) (v u:δ) (s':ζ),P i v->P j u->gq (S::wr) Gs s0 s'->∀(Q:δ->ζ->Prop) (E:δ->ζ->Prop),Q (.bool (bt i j)) s'->π (model prog w) A.in1 (iM .Lt v u) Q E s'):
  ∀(k j:Nat) (s:ζ) (vb:δ) (c:Nat),n-(j+1)=k->j+1≤n->St (j+1) s->P (argBest bt j) vb ->
  s.heap.get? S=some { cls:=.type "list",dict:=none,data:=.seq #[vb,vb] c,slots:=#[]}->gq (S::wr) Gs s0 s ->
  (∀v s',P (argBest bt (n-1)) v->gq (S::wr) Gs s s'->R (.ok (.ret v)) s')->iw (model prog w) A (.builtin "min.loop" ⟨[.ref I,.none,.ref S],[]⟩) R s:=by
 have hSw:S∉wr:=fun h=>hSf (W.sub _ h);have hsub:∀b∈wr,b∈S::wr:=fun b hb=>χ _ hb;have hname:(toString "min" ++ toString ".loop":String)="min.loop":=by decide
 have notS:∀{b:η},b∉S::wr->S≠b:=fun hb h=>hb (by rw[h];exact ο);intro k
 induction k with
 |zero=>
  intro j s vb c hk hj hst hPb hS hM hR;have hin:j+1=n:=by lia
  refine e8 F.entry_min_loop ?_;rw[eW F.plain_min_loop _];show π _ A.in1 (seqItems? (.ref S) >>= _) _ _ s;refine γ (i9 hS rfl ?_);show π _ A.in1 (tryCatch (pyNext (.ref I)) _ >>= _) _ _ s;refine γ (mY (W.done s _ _ (hin▸hst) fun s' hm=>?_));have hS':=hm.heap S _ hSw hS;show π _ A.in1 (updateSeq S (fun _=>#[]) >>= _) _ _ _;refine γ ?_;refine gx hS' rfl (γ (kR (ι ?_)));exact hR vb _ (by rw[←hin];exact hPb) ((hm.mono hsub).then_heap (tk:=s'.toks) (υ _) fun b o hb e=>(Heap.get?_update_other _ _ (notS hb)).trans e)
 |succ k ih=>
  intro j s vb c hk hj hst hPb hS hM hR;have hlt:j+1<n:=by lia
  refine e8 F.entry_min_loop ?_;rw[eW F.plain_min_loop _];show π _ A.in1 (seqItems? (.ref S) >>= _) _ _ s;refine γ (i9 hS rfl ?_);show π _ A.in1 (tryCatch (pyNext (.ref I)) _ >>= _) _ _ s;refine γ (mY (W.item (j+1) s _ _ hlt hst fun v s' hP hst' hm=>?_));have hS':=hm.heap S _ hSw hS;have hM':gq (S::wr) Gs s0 s':=ng W.gtrans hM (hm.mono hsub);show π _ A.in1 (tryCatch (holding [v,v] (iM .Lt v vb >>= _)) _ >>= _) _ _ _;refine γ (mY (cx (γ (yB (j+1) (argBest bt j) v vb s' hP hPb hM' _ _ ?_))));refine γ (cx (eZ ?_));refine γ (kR (ι ?_));cases hb:bt (j+1) (argBest bt j) with
  |true=>
   simp only[if_true];refine γ ?_;refine gx hS' rfl (γ (kR ?_));rw[hname];have hM3:gq (S::wr) Gs s { s' with heap:=s'.heap.update S (aU fun _=>#[v,v])}:=(hm.mono hsub).then_heap (tk:=s'.toks) (υ _) fun b o hb e=>(Heap.get?_update_other _ _ (notS hb)).trans e;refine ι ⟨gE F.plain_min_loop _,ih (j+1) _ v _ (by lia) hlt (W.frame _ s' _ s'.toks hst' (υ _) fun b hbf o e=>?_) (by simp only[argBest,hb,if_true];exact hP) (Heap.get?_update_self _ hS' rfl) (ng W.gtrans hM hM3)
    fun v' s'' hP' hm''=>?_⟩
   ·exact (Heap.get?_update_other _ _ (fun h:S=b=>hSf (by rw[h];exact hbf))).trans e
   ·exact hR v' s'' hP' (ng W.gtrans hM3 hm'')
  |false=>
   simp only[cq,if_false];refine γ (kR ?_);rw[hname];refine ι ⟨gE F.plain_min_loop _,ih (j+1) _ vb c (by lia) hlt hst' (by simp only[argBest,hb,cq,if_false];exact hPb) hS' hM' fun v' s'' hP' hm''=>?_⟩;exact hR v' s'' hP' (ng W.gtrans (hm.mono hsub) hm'')
theorem Qn(W:WalksS prog w A.in1 I fp wr Gs n P St)(bt:Nat->Nat->Bool)(S:η)(hSf:S∉fp)(hn:0<n){s:ζ}{c:Nat}(hst:St 0 s)
  (hS:s.heap.get? S=some { cls:=.type "list",dict:=none,data:=.seq #[] c,slots:=#[]})
  (yB:∀(i j:Nat) (v u:δ) (s':ζ),P i v->P j u->gq (S::wr) Gs s s'->∀(Q:δ->ζ->Prop) (E:δ->ζ->Prop),Q (.bool (bt i j)) s'->π (model prog w) A.in1 (iM .Lt v u) Q E s')
  (hR:∀v s',P (argBest bt (n-1)) v->gq (S::wr) Gs s s'->R (.ok (.ret v)) s'):iw (model prog w) A (.builtin "min.loop" ⟨[.ref I,.none,.ref S],[]⟩) R s:=by
 have hSw:S∉wr:=fun h=>hSf (W.sub _ h);have hsub:∀b∈wr,b∈S::wr:=fun b hb=>χ _ hb;have hname:(toString "min" ++ toString ".loop":String)="min.loop":=by decide
 have notS:∀{b:η},b∉S::wr->S≠b:=fun hb h=>hb (by rw[h];exact ο);refine e8 F.entry_min_loop ?_;rw[eW F.plain_min_loop _];show π _ A.in1 (seqItems? (.ref S) >>= _) _ _ s;refine γ (i9 hS rfl ?_);show π _ A.in1 (tryCatch (pyNext (.ref I)) _ >>= _) _ _ s;refine γ (mY (W.item 0 s _ _ hn hst fun v s' hP hst' hm=>?_));have hS':=hm.heap S _ hSw hS;show π _ A.in1 (updateSeq S (fun _=>#[v,v]) >>= _) _ _ _;refine γ ?_;refine gx hS' rfl ?_;rw[hname];have hM3:gq (S::wr) Gs s { s' with heap:=s'.heap.update S (aU fun _=>#[v,v])}:=(hm.mono hsub).then_heap (tk:=s'.toks) (υ _) fun b o hb e=>(Heap.get?_update_other _ _ (notS hb)).trans e;refine ι ⟨gE F.plain_min_loop _,Qo W bt S hSf s yB _ 0 _ v _ rfl hn (W.frame _ s' _ s'.toks hst' (υ _) fun b hbf o e=>?_) hP (Heap.get?_update_self _ hS' rfl) hM3 fun v' s'' hP' hm''=>?_⟩
 ·exact (Heap.get?_update_other _ _ (fun h:S=b=>hSf (by rw[h];exact hbf))).trans e
 ·exact hR v' s'' hP' (ng W.gtrans hM3 hm'')
theorem Qm{E:δ->ζ->Prop}{s:ζ}{x:δ}{Q:δ->ζ->Prop}
  (h:π (model prog w) A.in1 (pyIter x) (fun it s₂=>∃I fp wr Gs n P St bt,it=.ref I/\WalksS prog w A.in1 I fp wr Gs n P St/\St 0 s₂/\(∀b∈fp,b<s₂.heap.objs.size)/\0<n ∧
   (∀(i j:Nat) (v u:δ) (s':ζ),P i v->P j u->gq wr Gs s₂ s'->∀(Q:δ->ζ->Prop) (E:δ->ζ->Prop),Q (.bool (bt i j)) s'->π (model prog w) A.in1 (iM .Lt v u) Q E s') ∧
   ∀v s',P (argBest bt (n-1)) v->gq wr Gs s₂ s'->Q v s') E s):
  π (model prog w) A (call (.builtin "min") [x]) Q E s:=by
 have hname:(toString "min" ++ toString ".loop":String)="min.loop":=by decide
 refine call_function_tree F.kind_min F.plain_min F.entry_min (F.args_min1 _) ?_;show π _ A.in1 (nH "min" ["key","default"] 0 ⟨[],[]⟩ >>= _) _ _ s;refine γ (nc (show nH "min" ["key","default"] 0 ⟨[],[]⟩=pure [none,none] from rfl) ?_);refine γ (ι ?_);refine γ (ee h (fun it s₂ h₂=>?_) fun _ _ e=>e);obtain⟨I,fp,wr,Gs,n,P,St,bt,rfl,W,hst,hfp,hn,yB,hQ⟩:=h₂;refine γ (bx ?_);have hSf:s₂.heap.objs.size∉fp:=fun hm=>cU _ (hfp _ hm);rw[hname];refine ι ⟨gE F.plain_min_loop _,Qn W bt s₂.heap.objs.size hSf hn (W.frame 0 s₂ _ s₂.toks hst (υ _) fun b _ o e=>Heap.get?_push_of_some _ e) (Heap.get?_push_size _ rfl) (fun i j v u s' h1 h2 hm=>yB i j v u s' h1 h2 (gq.drop_new (tk:=s₂.toks) hm (υ _))) fun v s' hP hm=>?_⟩;exact hQ v s' hP (gq.drop_new (tk:=s₂.toks) hm (υ _))
end
theorem Kd{bt:Nat->Nat->Bool}(tr:∀i j k,bt i j=true->bt j k=true->bt i k=true)(ir:∀i,bt i i=false):∀n,argBest bt n≤n/\∀j,j≤n->bt j (argBest bt n)=false
 |0=>⟨υ _,fun j hj=>by
  have:j=0:=by lia
  rw[this];exact ir 0⟩
 |n+1=>by
  obtain⟨h1,h2⟩:=Kd tr ir n;cases hb:bt (n+1) (argBest bt n) with
  |true=>
   have e:argBest bt (n+1)=n+1:=by simp only[argBest,hb,if_true]
   rw[e];refine⟨υ _,fun j hj=>?_⟩;by_cases ej:j=n+1
   ·rw[ej];exact ir _
   ·cases h:bt j (n+1) with
    |false=>rfl
    |true=>
     have:=h2 j (by lia);rw[tr _ _ _ h hb] at this;cases this
  |false=>
   have e:argBest bt (n+1)=argBest bt n:=by simp only[argBest,hb,cq,if_false]
   rw[e];refine⟨by lia,fun j hj=>?_⟩;by_cases ej:j=n+1
   ·rw[ej];exact hb
   ·exact h2 j (by lia)
end My
namespace L2
open PySem PySem.Spec PyProof.Rows
section
variable {X:Cx} {pins:List (η×br)} {σ:St} {H:Hp} {s:ζ} {a:η} {y v:V} {u r:δ} {o:Option V} {A:aR} {E:δ->ζ->Prop}
theorem Inv.Gx(I:Inv X pins σ H s):sysModules<s.heap.objs.size:=by
 have h:bH<s.heap.objs.size:=(I.mod.glob.keeps I.bk).lt;exact kh (by decide) h
theorem Ql{h':Heap}{t':Nat}{ob:HO}(I:Inv X pins σ H s)(mu:Df (H a))(hs:Heap.SameBut a s.heap h')(he:∃q,h'.get? a=some q)(new:fX X.prog X.w (upd H a ob) h' a ob):
  Inv X pins σ (upd H a ob) { s with heap:=h',toks:=t' }:=
 I.write (x:=a) (e:=a) mu (.inl rfl) (fun b q hb z=>(hs.2 b hb).trans z) he new
end
structure M2(X:Cx)(o:ρ)(m:Ξ)(apos:aP)(e f:ρ)(cpos:aP):Prop where
 base:attributeBase o m X.env (eval o X.env)=eval o X.env
 few:((backTo cpos (b8 [e,f] X.env)).all (fun x=>!x.1)&&(backToKw cpos (keywordEach [] X.env)).all (fun x=>x.1.isSome)
  && decide (([e,f]:List ρ).length+([]:List rk).length+(if ([]:List rk).isEmpty then 0 else 1)<30))=true
 line:(apos.endLine==cpos.line)=true
 trees:backTo cpos (b8 [e,f] X.env)=[(false,eval e X.env),(false,eval f X.env)]
end L2
namespace L3
open PySem PySem.Spec PyProof.Rows L2 My
def fJ(kss:List (List Int)):D:=.tup (kss.map tupI)
def yH(K:PySem.W.Frag)(H:Hp)(kss:List (List Int))(a:η):Prop:=∃vs,cK K H a vs/\aI K H (kss.map tupI) vs
theorem xM{K:PySem.W.Frag}{H:Hp}{kss:List (List Int)}{v:V}(h:Hv K H (fJ kss) v):∃a,v=.ref a/\yH K H kss a:=by
 obtain⟨a,ws,rfl,z1,z2⟩:=kx h;exact⟨a,rfl,ws,z1,z2⟩
theorem Qk{K:PySem.W.Frag}{H:Hp}{kss:List (List Int)}{a:η}(h:yH K H kss a):Hv K H (fJ kss) (.ref a):=by
 obtain⟨vs,h1,h2⟩:=h;exact qp h1 h2
theorem Kc{K:PySem.W.Frag}{H:Hp}:∀{qs:List (List (List Int)×η)},(∀p∈qs,yH K H p.1 p.2)->aI K H ((qs.map (·.1)).map fJ) (qs.map fun p=>.ref p.2)
 |[],_=>.nil
 |q::qs,h=>.cons (Qk (h q ο)) (Kc fun p hp=>h p (χ _ hp))
theorem Kb{P:aw}{w:aG}{h:Heap}:∀(ps:List (List Int×η)),(∀p∈ps,i6.kQ P w h p.1 p.2)->i6.ml P w h (ps.map (·.1)) (ps.map fun p=>au p.2)
 |[],_=>.nil
 |p::ps,hk=>.cons (hk p ο) (Kb ps fun q hq=>hk q (χ _ hq))
section
variable {X:Cx} {pins:List (η×br)} {s:ζ} {σ:L2.St} {H:Hp}
theorem xK(I:Inv X pins σ H s){kss:List (List Int)}{a:η}(h:yH X.K H kss a):i6.nP X.prog X.w s.heap kss a:=by
 obtain⟨vs,h1,h2⟩:=h;obtain⟨its,rv,⟨o,ho,hc,n,hd⟩,_⟩:=I.tuple h1;obtain⟨ps,e1,e2,e3,e4⟩:=AB I h2 rv;refine⟨o,its.toArray,n,ho,hc,hd,?_⟩;rw[←e1,e3];exact Kb ps fun p hp=>(e4 p hp).2
theorem Ka(I:Inv X pins σ H s):∀{nss:List (List (List Int))} {vs:List V} {us:List δ},aI X.K H (nss.map fJ) vs->bo vs us ->
  ∃ps:List (List (List Int)×η),ps.map (·.1)=nss/\vs=ps.map (fun p=>.ref p.2)/\us=ps.map (fun p=>au p.2)/\∀p∈ps,yH X.K H p.1 p.2/\i6.nP X.prog X.w s.heap p.1 p.2
 |[],vs,us,h,r=>by
  cases h.iJ;cases r;exact⟨[],rfl,rfl,rfl,fun p hp=>nomatch hp⟩
 |ns::nss,vs,us,h,r=>by
  obtain⟨v,vr,rfl,q1,q2⟩:=aI.inv (show aI X.K H (fJ ns::nss.map fJ) vs from h);cases r with
  |cons r1 r2=>
   obtain⟨ps,e1,e2,e3,e4⟩:=Ka I q2 r2;obtain⟨a,rfl,z⟩:=xM q1;cases r1;refine⟨(ns,a)::ps,by rw[aZ,e1],by rw[aZ,e2],by rw[aZ,e3],fun p hp=>?_⟩;rcases ay.mp hp with rfl|hp
   ·exact⟨z,xK I z⟩
   ·exact e4 p hp
theorem J9:∀(qs:List (List (List Int)×η)),bo (qs.map fun p=>V.ref p.2) (qs.map fun p=>au p.2)
 |[]=>.nil
 |q::qs=>.cons rfl (J9 qs)
def iC(nss:List (List (List Int))):Prop:=nss.Pairwise fun x y=>aK.fA y x=false
end
section
variable {X:Cx}
theorem J8:∀x:List (List Int),aK.fA x x=false:=fun x=>by
 cases h:aK.fA x x with
 |false=>rfl
 |true=>
  have:=aK.oM h;rw[h] at this;cases this
theorem Qj{a b c:List (List Int)}(h1:aK.fA a b=true)(h2:aK.fA b c=true):aK.fA a c=true:=by
 cases h:aK.fA a c with
 |true=>rfl
 |false=>
  have h3:=aK.oM h1;have:=aK.tO h h3;rw[h2] at this;cases this
theorem Qi(hc:X.calm=true)(hu:X.A.units+64<cLine):gP X (.builtin "min") (fun vs H Q=>∃(a:η) (xs:List V) (nss:List (List (List Int))),vs=[.ref a]/\eN X.K H a xs/\aI X.K H (nss.map fJ) xs/\0<nss.length/\∀m x,m∈nss->Hv X.K H (fJ m) x->(∀r∈nss,aK.fA r m=false)->Q x H):=by
 intro pins s σ H vs us Q I r h;obtain⟨a,xs,qs,rfl,hl,hx,h0,q⟩:=h;obtain⟨u,rfl,ru⟩:=vals1 r;cases ru;refine Qm (AA hc I hl fun its I' rv W h1 h2 h3 back=>?_);have h4:its.length=qs.length:=by rw[←rv.length,←hx.length,ε]
 have hg:∀i (hi:i<qs.length),qs.getD i []=qs[i]:=fun i hi=>by
  rw[dX,Θ hi];rfl
 have hP:∀(i:Nat) (v:δ),its[i]?=some v->∃x,Hv X.K H (fJ (qs.getD i [])) x/\RelV x v/\qs.getD i []∈qs:=by
  intro i v hv;have hi:i<qs.length:=by
   have:=(Φ.mp hv).1;lia
  obtain⟨x,z1,z2⟩:=Ke (i:=i) (d:=fJ qs[i]) hx (by rw[az,Θ hi];rfl);obtain⟨u',z3,z4⟩:=rv.get z1;rw[hv] at z3;cases z3;rw[hg i hi];exact⟨x,z2,z4,eH hi⟩
 refine⟨I',_,_,_,_,_,_,fun i j=>aK.fA (qs.getD i []) (qs.getD j []),rfl,W,⟨h1,h2⟩,h3,by lia,fun i j v u s' pv pu hm Q E hq=>?_,fun v s' hv hm=>?_⟩
 ·obtain⟨x,a1,a2,_⟩:=hP i v pv;obtain⟨y,b1,b2,_⟩:=hP j u pu;have J:=back s' hm;obtain⟨a',rfl,sa⟩:=xM a1;obtain⟨b',rfl,sb⟩:=xM b1;cases a2;cases b2;obtain⟨oa,ia,na,ea,ca,da,ta⟩:=xK J sa;obtain⟨ob,ib,nb,eb,cb,db,tb⟩:=xK J sb;have hq:Q (.bool (aK.fA (qs.getD i []) (qs.getD j []))) s':=hq;rw[←aK.wk] at hq;exact (HT.Bb (prog:=X.prog) (w:=X.w) (A:=X.A.in1) (s:=s') ⟨oa,ea,ca,na,da⟩ ⟨ob,eb,cb,nb,db⟩ (HT.rM ta) (HT.rM tb) (by show X.A.units+1+16<cLine;lia) hq:π _ _ (compareOp .Lt (.ref a') (.ref b')) Q E s')
 ·obtain⟨x,a1,a2,a3⟩:=hP _ v hv;refine⟨x,H,back s' hm,a2,q _ x a3 a1 fun r hr=>?_⟩;obtain⟨j,hj,ej⟩:=ed hr;have:=(Kd (bt:=fun i j=>aK.fA (qs.getD i []) (qs.getD j [])) (fun i j k=>Qj) (fun i=>J8 _) (its.length-1)).2 j (by lia);rw[hg j hj,ej] at this;exact this
end
section
variable {X:Cx} {K:PySem.W.Frag} {e:ρ} {es:List ρ} {t:dF} {ta:aO} {pos p p' pos':aP}
def abO:C3:=fun ds G Q=>match ds with
 |[.obj a]=>∃nss:List (List (List Int)),G a=some (.lst (nss.map fJ))/\nss.length<64/\(∀ns∈nss,ns≠[])/\∀(p:η) (mss:List (List (List Int))) (G':Gp),eQ G p (.lst (mss.map fJ)) G'->mss.Perm nss->iC mss->Q (.obj p) G'
 |_=>False
def D9:C3:=fun ds G Q=>match ds with
 |[.obj a]=>∃nss:List (List (List Int)),G a=some (.lst (nss.map fJ))/\0<nss.length/\∀m,m∈nss->(∀r∈nss,aK.fA r m=false)->Q (fJ m) G
 |_=>False
theorem Qh:lq K D9 (fun vs H Q=>∃(a:η) (xs:List V) (nss:List (List (List Int))),vs=[.ref a]/\eN K H a xs/\aI K H (nss.map fJ) xs/\0<nss.length/\∀m x,m∈nss->Hv K H (fJ m) x->(∀r∈nss,aK.fA r m=false)->Q x H):=fun ds vs G H Q3 Q h RG q k=>by
 rcases ds with _|⟨d,_|⟨d2,ds⟩⟩
 ·exact q.elim
 ·obtain⟨v,rfl,hv⟩:=kD h;cases d with
  |obj a=>
   obtain⟨qs,e1,h0,q⟩:=q;obtain⟨xs,e2,e3⟩:=RG a _ e1;rw[ij hv];exact⟨a,xs,qs,rfl,.of e2,e3,h0,fun p x hp hx hm=>k x H (fJ p) G hx (.refl H G) RG (q p hp hm)⟩
  |_=>exact q.elim
 ·cases d<;>exact q.elim
theorem QZ(hu:X.A.units+64<cLine)(hm:X.mg "min" = none)(ha:QA X (e::es) t)(hc:X.calm=true:=by rfl)(hg:Gl X "min":=by rfl)(he:notStar e=true:=by rfl)(hpl:es.all notStar=true:=by rfl):
  QE X (.Call (.Name "min" p) (e::es) [] pos) (cF D9 t):=⟨mh Qh (lh (Qi hc hu) hg hm rfl ha.of (he:=gs he) (hpl:=ma hpl))⟩
end
end L3
namespace L3
open PySem PySem.Spec PyProof.Rows L2
section
variable {prog:aw} {w:aG} {A:aR} {E:δ->ζ->Prop} {s:ζ}
theorem QY{l:η}{vs:List δ}{Q:List δ->ζ->Prop}(hl:gS s.heap l vs.toArray)(hz:vs.length≤ao)
  (h:Q vs { s with heap:=(s.heap.push (seqObj "list" #[] 0)).update s.heap.objs.size (aU (· ++ vs.toArray))}):π (model prog w) A (collect (.ref l)) Q E s:=by
 obtain⟨o,ho,hc,n,hd⟩:=id hl;unfold collect;refine γ (wpAny_runValue (e8 entry_proto_collect' ?_));show π _ _ (do again (.builtin "list.__iadd__" ⟨[←newList [],.ref l],[]⟩)) _ _ s;refine γ (iq (ι ⟨Code.quiet_builtin _ (by decide +kernel),e8 entry_list_iadd' ?_⟩));show π _ _ (dh (.ref s.heap.objs.size) (.ref l) (.ref s.heap.objs.size)) _ _ { s with heap:=s.heap.push (seqObj "list" #[] 0)};unfold dh;have ho':(s.heap.push (seqObj "list" #[] 0)).get? l=some o:=Heap.get?_push_of_some _ ho;refine γ (ke (T:="tuple") ⟨o,ho',hc⟩ ?_);rw[if_pos (by simp)];refine γ (mo ho' hd ?_);refine γ (mo (xs:=#[]) (n:=0) (Heap.get?_push_size _ rfl) rfl ?_);rw[if_neg (by simp)];refine γ (iu (xs:=#[]) (n:=0) (Heap.get?_push_size _ rfl) rfl ?_ (aQ _) (by show (#[]++vs.toArray).size≤ao+1;simp only[Array.size_append,Γ,bO];lia));refine ι ?_;show π (model prog w) A (do
   let o ←load s.heap.objs.size
   match o.data with
   |.seq xs _=>pure xs.toList
   | _=>unsupported "internal:collect") Q E { s with heap:=(s.heap.push (seqObj "list" #[] 0)).update s.heap.objs.size (aU (· ++ vs.toArray))}
 refine γ (r8 (gB (Heap.get?_push_size _ rfl) _) ?_);show π _ _ (pure ((#[]:Array δ)++vs.toArray).toList) Q E _;rw[show ((#[]:Array δ)++vs.toArray).toList=vs by simp];exact ι h
end
section
variable {X:Cx} {e:ρ} {ta:aO} {pos p:aP}
theorem QX(hc:X.calm=true)(hu:X.A.units+64<cLine):gP X (.builtin "sorted") (fun vs H Q=>∃(a:η) (xs:List V) (nss:List (List Int)),vs=[.ref a]/\cK X.K H a xs/\aI X.K H (nss.map tupI) xs/\nss.length<64/\(∀ns∈nss,ns≠[]) ∧
  ∀(p:η) (mss:List (List Int)) (ys:List V),H p=none->mss.Perm nss->mi mss->aI X.K H (mss.map tupI) ys->Q (.ref p) (upd H p (.lst ys))):=by
 intro pins s σ H vs us Q I r h;obtain⟨a,xs,nss,rfl,hl,hv,hz,hne,q⟩:=h;obtain⟨u,rfl,ru⟩:=vals1 r;cases ru;obtain⟨its,rv,pl,_⟩:=I.tuple hl;obtain⟨ps,e1,e2,e3,e4⟩:=AB I hv rv;subst e3;have hlen:ps.length=nss.length:=by rw[←e1,ε]
 refine aK.wA (ps:=ps) (fun p hp=>⟨(e4 p hp).2,hne _ (by rw[←e1];exact aE.mpr ⟨p,hp,rfl⟩)⟩) (by lia) (fun R hR=>?_) fun qs s' c D' hS hn hD hm=>?_
 ·refine QY pl (by rw[ε,bX];lia) (hR _ ⟨fun b o _ e=>?_,rfl,rfl,rfl,υ _⟩);have hlt:=Heap.lt_size e;show ((s.heap.push (seqObj "list" #[] 0)).update s.heap.objs.size _).get? b=some o;rw[Heap.get?_update_other _ _ (b0 hlt)];exact Heap.get?_push_of_some _ e
 ·refine LS I (by lia) hS hn hD hm fun hf=>?_;refine q _ (qs.map (·.1)) _ hf (by rw[←e1];exact hS.perm.map _) ?_ (Es fun p hp=>(e4 p (hS.perm.mem_iff.mp hp)).1);exact bN.mpr hS.rise
def vd(ta:aO):aO:=fun τ G Q=>ta τ G fun x G1=>match x with
 |.tup ds=>∃nss:List (List Int),ds=nss.map tupI/\nss.length<64/\(∀ns∈nss,ns≠[])/\∀(p:η) (mss:List (List Int)) (G':Gp),eQ G1 p (.lst (mss.map tupI)) G'->mss.Perm nss->mi mss->Q (.obj p) G'
 |_=>False
theorem QV(hu:X.A.units+64<cLine)(ha:cg X e ta)(hm:X.mg "sorted" = none)(hc:X.calm=true:=by rfl)(hg:Gl X "sorted":=by rfl)(he:notStar e=true:=by rfl):
  cg X (.Call (.Name "sorted" p) [e] [] pos) (vd ta):=
 jJ (lh (QX hc hu) hg hm rfl (yd ha A1 (gs he)) (he:=gs he)) fun σ H Q zz=>by
  obtain⟨τ,G,Q3,RS,RG,h,k⟩:=zz;exact⟨τ,G,_,RS,RG,h,fun v H1 d G1 h1 S1 R1 q1=>by
  cases d with
  |tup ds=>
   obtain⟨nss,rfl,hz,hne,q⟩:=q1;obtain⟨a,xs,rfl,e1,e2⟩:=kx h1;exact⟨a,xs,nss,rfl,e1,e2,hz,hne,fun p mss ys hp h2 h3 h4=>k _ _ (.obj p) _ oZ (S1.trans (.iP hp)) (R1.qt hp h4) (q p mss _ (.mk' (R1.free hp)) h2 h3)⟩
  |_=>exact q1.elim⟩
theorem QU(hu:X.A.units+64<cLine)(ha:QE X e ta)(hm:X.mg "sorted" = none)(hc:X.calm=true:=by rfl)(hg:Gl X "sorted":=by rfl)(he:notStar e=true:=by rfl):
  QE X (.Call (.Name "sorted" p) [e] [] pos) (vd ta):=⟨QV hu ha.of hm hc hg he⟩
end
end L3
namespace My
open PySem L2 L3
def iU(cs:List ω):List (List Int):=cs.map fx
theorem AR(cs:List ω):bM cs=fJ (iU cs):=by
 unfold bM fJ iU;rw[aN];rfl
theorem D8(css:List (List ω)):css.map bM=(css.map iU).map fJ:=by
 rw[aN];refine b9 fun cs _=>AR cs
theorem D7{cs ds:List ω}(h:iU cs=iU ds):cs=ds:=nE (fun a b e=>KO e) |>.mp h
def zi(c d:ω):Bool:=!(aK.lx (fx d) (fx c))
def fy(cs:List ω):List ω:=cs.mergeSort zi
theorem D6(cs:List ω):(fy cs).Perm cs:=List.mergeSort_perm cs zi
theorem QR(cs:List ω):mi ((fy cs).map fx):=by
 have h:(fy cs).Pairwise fun a b=>zi a b=true:=by
  refine List.pairwise_mergeSort (fun a b c h1 h2=>?_) (fun a b=>?_) cs
  ·unfold zi at h1 h2 ⊢;rw[gJ] at h1 h2 ⊢;exact aK.uY h1 h2
  ·unfold zi;cases h:aK.lx (fx b) (fx a) with
   |false=>rfl
   |true=>
    rw[aK.uZ h];rfl
 unfold mi;rw[bN];refine h.imp fun h=>?_;unfold zi at h;rwa [gJ] at h
theorem QQ{cs:List ω}{mss:List (List Int)}(hp:mss.Perm (cs.map fx))(hr:mi mss):mss=(fy cs).map fx:=by
 obtain⟨zs,p1,e⟩:=qr hp rfl;subst e;rw[Lc (p1.trans (D6 cs).symm) hr (QR cs)]
def C0(k:Int)(c:ω):ω:=(c.1,(c.2+k)%c.1)
def Fn(G:Gp)(d:D)(cs:List ω):Prop:=d=bM cs∨∃q,d=.obj q/\G q=some (.lst (cs.map cD))
end My
namespace My
open PySem L2 L3
def xJ:eX:=fun ds G Q=>∃(cs:List ω) (c:ω),ds=[bM cs,cD c]/\mm 1000 (cs++[c])/\cs.length≤16/\cw (cs++[c])≤10000/\Q (oN (MX cs c)) G
def J7:aB:=bY (bh xO (μ (ν 1) (μ (bh xP (μ (ν 0) (μ (bh vS (μ (aJ eo (ν 0) (dw (μ (ν 1) (ab)))) (ab))) (ab)))) (μ (eC (.int 0)) (ab)))))
theorem QP:∀ds G Q,xJ ds G Q->J7 (bq Q) (bI ["clocks","clock"] ds) G:=by
 rintro ds G Q ⟨cs,c,rfl,ok,hl,hn,q⟩;have hc:=ok c (by simp);have h1:=hc.2;refine⟨?_,cs++[c],?_,ok,by simp;lia,cs,cw (cs++[c]),rfl,fun z hz=>ok z (aM _ hz),by lia,hn,fun p G1 n1=>?_⟩
 ·show (cs.map cD).length+1≤ao;rw[ε];exact bQ (by lia)
 ·show [D.tup (cs.map cD++[cD c])]=[bM (cs++[c])];unfold bM;rw[aW];rfl
 ·exact⟨c,p,gu cs,cw (cs++[c]),0,rfl,n1.at_,hc.1,by lia,hn,Au n1.sub q⟩
def Cp(cs:List ω):Prop:=mm 1000 cs/\cs.length≤16/\cw cs≤10000
def xI:eX:=fun ds G Q=>∃cs:List ω,ds=[bM cs]/\Cp cs/\Q (oN (o8 cs)) G
def J6:aB:=bY (bh xJ (μ (ν 0) (μ (dw (μ (eC (.int 1)) (μ (eC (.int 0)) (ab)))) (ab))))
theorem QN:∀ds G Q,xI ds G Q->J6 (bq Q) (bI ["clocks"] ds) G:=by
 rintro ds G Q ⟨cs,rfl,⟨ok,hl,hn⟩,q⟩;refine⟨cs,(1,0),rfl,QH ok,hl,by rw[Kj];exact hn,?_⟩;rw[QJ];exact dQ q
def kN(cs:List ω)(c:ω):Bool:=cs.all fun d=>!(decide ((d.2-c.2)%((bE d.1.toNat c.1.toNat:Nat):Int)=0))
def uq:eX:=fun ds G Q=>∃(cs:List ω) (c:ω),ds=[bM cs,cD c]/\(∀d∈cs,0<d.1)/\0<c.1/\Q (.bl (kN cs c)) G
def QM:aB:=g0 (bJ (aJ (fg false) (aJ jm (aJ tL (ν 3) (aJ ff (ν 1) (eC (.int 1)))) (bh ur (μ (ν 2) (μ (aJ ff (ν 1) (eC (.int 0))) (ab))))) (eC (.int 0)))) (bY (eC (.bl false))) (dN)
def P6:aB:=bY (eC (.bl true))
def J5:aB:=bj (iV (fL (ν 0)) (j4 2 (dE (hName 2) (dE (hName 3) (j6)))) (QM)) P6
theorem P5:∀ds G Q,uq ds G Q->J5 (bq Q) (bI ["clocks","clock","step","rest"] ds) G:=by
 rintro ds G Q ⟨cs,c,rfl,hd,hc,q⟩;refine jE (fun ds τ G'=>∃(rs:List ω) (x2 x3:Option D),ds=rs.map cD/\kN cs c=kN rs c/\(∀d∈rs,0<d.1)/\τ=[some (bM cs),some (cD c),x2,x3]/\G'=G) (fun _ _ _ _=>trivial) ?_ ?_ _ _ _ ⟨cs,none,none,rfl,rfl,hd,rfl,rfl⟩
 ·rintro d ds τ G' N ⟨rs,x2,x3,e,ec,hp,rfl,rfl⟩ hN;cases rs with
  |nil=>cases e
  |cons d rs=>
   cases e;obtain⟨s,r⟩:=d;obtain⟨s2,r2⟩:=c;have hs:0<s:=hp (s,r) ο;have hs2:0<s2:=hc;obtain⟨a,rfl⟩:=pQ (fu hs);obtain⟨b,rfl⟩:=pQ (fu hs2);have hg:0<bE a b:=fY _ (by lia);have ec2:kN cs ((b:Int),r2)=(!(decide ((r-r2)%((bE a b:Nat):Int)=0))&&kN rs ((b:Int),r2)):=ec;refine⟨rfl,_,rfl,_,rfl,a,b,rfl,by show (0:Int)<((bE a b:Nat):Int);lia,_,_,rfl,rfl,aQ _,fun g=>?_,fun g=>?_⟩
   ·have g':(((r-r2)%((bE a b:Nat):Int))==0)=true:=g;rw[beq_iff_eq] at g';rw[decide_eq_true g',Bool.not_true,Bool.false_and] at ec2;rw[ec2] at q;exact dQ q
   ·have g':(((r-r2)%((bE a b:Nat):Int))==0)=false:=g;have g2:¬(r-r2)%((bE a b:Nat):Int)=0:=fun z=>by rw[z] at g';cases g'
    rw[decide_eq_false g2,Bool.not_false,Bool.true_and] at ec2;exact hN _ _ ⟨rs,_,_,rfl,ec2,fun d hd=>hp d (χ _ hd),rfl,rfl⟩
 ·rintro τ G' ⟨rs,x2,x3,e,ec,hp,rfl,rfl⟩;have e0:rs=[]:=by
   cases rs with
   |nil=>rfl
   |cons z zs=>cases e
  subst e0;rw[ec] at q;exact dQ q
def grown(ss:List Int)(cs:List ω)(x:Int):List (List ω):=((ss.map fun s=>((s,x%s):ω)).filter (kN cs)).map fun c=>cs++[c]
def xH:eX:=fun ds G Q=>∃(p:η) (ss:List Int) (cs:List ω) (x:Int),ds=[.obj p,bM cs,.int x]/\G p=some (.lst (ss.map D.int))/\(∀s∈ss,0<s)/\ss.length≤60/\(∀c∈cs,0<c.1)/\cs.length≤100/\∀q G',eQ G q (.lst ((grown ss cs x).map bM)) G'->Q (.obj q) G'
def P4:aB:=bY (eS ["clock"] [1] (fL (ν 3)) (hName 0) (bJ (bh uq (μ (ν 1) (μ (ν 0) (ab))))) (aJ eo (ν 1) (dw (μ (ν 0) (ab)))))
def J4:aB:=bj (cu (eS ["step"] [2] (fL (ν 0)) (hName 0) (cY) (dw (μ (ν 0) (μ (aJ jm (ν 1) (ν 0)) (ab))))) (hName 3)) P4
theorem P2:∀ds G Q,xH ds G Q->J4 (bq Q) (bI ["steps","clocks","number","tried"] ds) G:=by
 rintro ds G Q ⟨p,ss,cs,x,rfl,hp,hs,hl,hc,hcl,q⟩;refine⟨_,hp,by rw[ε];exact bQ (by lia),?_⟩;refine lU (fun τ=>∃y,τ=[y,some (.int x)]) D.int (fun _=>true) (fun s=>cD ((s,x%s):ω)) (G:=G) hp ss [] _ ⟨none,rfl⟩ ?_ ?_
 ·rintro s hm τ K1 K2 ⟨_,rfl⟩ g1 g2;exact⟨fun _=>⟨hs s hm,g1 rfl _ ⟨_,rfl⟩⟩,nofun⟩
 rw[filter_all,bw];intro p3 G3 n3;have e3:G3 p3=some (.lst ((ss.map fun s=>((s,x%s):ω)).map cD)):=by
  rw[n3.at_,aN];rfl
 refine⟨_,e3,by rw[ε,ε];exact bQ (by lia),?_⟩;refine lU (fun τ=>∃y,τ=[y,some (bM cs)]) cD (kN cs) (fun c=>bM (cs++[c])) (G:=G3) e3 (ss.map fun s=>((s,x%s):ω)) [] _ ⟨none,rfl⟩ ?_ ?_
 ·rintro c hm τ K1 K2 ⟨_,rfl⟩ g1 g2;obtain⟨s,hs',rfl⟩:=aE.mp hm;refine⟨cs,_,rfl,hc,hs s hs',fun g=>⟨?_,?_⟩,fun g=>g2 g _ ⟨_,rfl⟩⟩
  ·show (cs.map cD).length+1≤ao;rw[ε];exact bQ (by lia)
  ·have e:bM (cs++[((s,x%s):ω)])=.tup (cs.map cD++[cD ((s,x%s):ω)]):=by
    unfold bM;rw[aW];rfl
   rw[e] at g1;exact g1 g _ ⟨_,rfl⟩
 ·intro p4 G4 n4;have e4:G4 p4=some (.lst ((grown ss cs x).map bM)):=by
   rw[n4.at_,bw];unfold grown;rw[aN];rfl
  exact dQ (q p4 G4 ⟨n3.sub.of_none n4.aF,n3.sub.trans n4.sub,e4⟩)
def yu(cs:List ω):Bool:=cs.all (fun c=>decide (0<c.1)&&decide (0≤c.2)&&decide (c.2<c.1)&&decide (c.1≤1000))&&decide (cs.length≤16)&&decide (cw cs≤10000)
def oh(ss:List Int):Nat->List ω->Bool
 |0,_=>false
 |f+1,cs=>yu cs&&match o8 cs with
  |none=>true
  |some x=>(grown ss cs (x:Int)).all (oh ss f)
def pV(ss:List Int):Nat->List ω->List (List ω)
 |0,_=>[]
 |f+1,cs=>match o8 cs with
  |none=>[cs]
  |some x=>(grown ss cs (x:Int)).flatMap (pV ss f)
theorem J3{cs:List ω}(h:yu cs=true):Cp cs:=by
 unfold yu at h;simp only[bV,decide_eq_true_eq,eJ] at h;refine⟨fun c hc=>?_,h.1.2,h.2⟩;have:=h.1.1 c hc;exact⟨⟨this.1.1.1,this.1.1.2,this.1.2⟩,this.2⟩
def sN(n:Nat):eX:=fun ds G Q=>∃(p:η) (ss:List Int) (cs:List ω),ds=[.obj p,bM cs]/\G p=some (.lst (ss.map D.int))/\(∀s∈ss,0<s)/\ss.length≤60/\oh ss n cs=true/\(pV ss n cs).length≤1000/\∀q G',eQ G q (.lst ((pV ss n cs).map bM)) G'->Q (.obj q) G'
theorem P1:∀ds G Q,¬sN 0 ds G Q:=by
 rintro ds G Q ⟨_,_,_,_,_,_,_,h,_⟩;cases h
def P0(n:Nat):aB:=uT (eM Ln (ν 3) (μ (bh (sN n) (μ (ν 0) (μ (ν 4) (ab)))) (ab)))
def PZ(n:Nat):aB:=bY (ν 3)
def PY(n:Nat):aB:=bj (iV (fL (bh xH (μ (ν 0) (μ (ν 1) (μ (ν 2) (ab)))))) (hName 4) ((P0 n))) (PZ n)
def PX(n:Nat):aB:=bj (cu (nO (ab)) (hName 3)) (PY n)
def PV(n:Nat):aB:=bj (g0 (bJ (aJ (uj false) (ν 2) (eC .aF))) (bY (nO (μ (ν 1) (ab)))) (dN)) (PX n)
def J2(n:Nat):aB:=bj (cu (bh xI (μ (ν 1) (ab))) (hName 2)) (PV n)
theorem PU(n:Nat):∀ds G Q,sN (n+1) ds G Q->J2 n (bq Q) (bI ["steps","clocks","number","found","grown"] ds) G:=by
 rintro ds G Q ⟨p,ss,cs,rfl,hp,hs,hl,ho,hx,q⟩;have ho':(yu cs&&match o8 cs with
  |none=>true
  | some x=>(grown ss cs (x:Int)).all (oh ss n))=true:=ho
 have hx':(match o8 cs with
  |none=>[cs]
  | some x=>(grown ss cs (x:Int)).flatMap (pV ss n)).length≤1000:=hx
 have q':∀q G',eQ G q (.lst ((match o8 cs with
  |none=>[cs]
  | some x=>(grown ss cs (x:Int)).flatMap (pV ss n)).map bM)) G'->Q (.obj q) G':=q
 rw[bV] at ho';obtain⟨hc,ho'⟩:=ho';have hR:=J3 hc;refine⟨cs,rfl,hR,?_⟩;cases hm:o8 cs with
 |none=>
  rw[hm] at q';exact⟨fun _ p1 G1 n1=>dQ (q' p1 G1 n1),nofun⟩
 |some x=>
  rw[hm] at q' ho' hx';have q':∀q G',eQ G q (.lst (((grown ss cs (x:Int)).flatMap (pV ss n)).map bM)) G'->Q (.obj q) G':=q';have ho':(grown ss cs (x:Int)).all (oh ss n)=true:=ho';have hx':((grown ss cs (x:Int)).flatMap (pV ss n)).length≤1000:=hx';refine⟨nofun,fun _ p3 G3 n3=>⟨p,ss,cs,(x:Int),rfl,n3.sub _ _ hp,hs,hl,fun c hc=>(hR.1 c hc).1.1,by have:=hR.2.1;lia,fun p4 G4 n4=>⟨_,n4.at_,?_⟩⟩⟩;have MW:p4≠p3:=fun z=>by
   have:=n4.aF;rw[z,n3.at_] at this;cases this
  rw[eJ] at ho';refine jE (fun ds τ G'=>∃(dn rs:List (List ω)) (x4:Option D),dn++rs=grown ss cs (x:Int)/\ds=rs.map bM/\τ=[some (.obj p),some (bM cs),some (.int (x:Nat)),some (.obj p3),x4]/\eQ G p3 (.lst ((dn.flatMap (pV ss n)).map bM)) G'/\G' p4=some (.lst ((grown ss cs (x:Int)).map bM))) (fun _ _ _ h=>?_) ?_ ?_ _ _ _ ⟨[],grown ss cs (x:Int),none,rfl,rfl,rfl,⟨n3.aF,n3.sub.trans n4.sub,n4.sub _ _ n3.at_⟩,n4.at_⟩
  ·obtain⟨_,_,_,_,_,_,_,h⟩:=h;exact h
  ·rintro d ds τ G5 N ⟨dn,rs,x4,e1,e2,rfl,n5,e5⟩ hN;cases rs with
   |nil=>cases e2
   |cons g rs=>
    cases e2;have hg:g∈grown ss cs (x:Int):=by
     rw[←e1];exact aq _ ο
    have hlen:(dn.flatMap (pV ss n)).length+(pV ss n g).length≤1000:=by
     rw[←e1,sA,List.flatMap_cons,ξ,ξ] at hx';lia
    refine⟨⟨p3,_,rfl,n5.at_⟩,p,ss,g,rfl,n5.sub _ _ hp,hs,hl,ho' g hg,by lia,fun q6 G6 n6=>?_⟩;have h6:=n6.sub _ _ n5.at_;refine⟨_,_,h6,n6.at_,bQ (by rw[ε,ε];lia),hN _ _ ⟨dn++[g],rs,_,by rw[aa];exact e1,rfl,rfl,⟨n5.aF,Sub.xb (n5.sub.trans n6.sub) n5.aF,?_⟩,?_⟩⟩
    ·rw[lg,sA,aW];simp
    ·rw[kC MW];exact n6.sub _ _ e5
  ·rintro τ G5 ⟨dn,rs,x4,e1,e2,rfl,n5,e5⟩;have e0:rs=[]:=by
    cases rs with
    |nil=>rfl
    |cons z zs=>cases e2
   subst e0;rw[cV] at e1;subst e1;exact dQ (q' p3 G5 n5)
def fK(n:Nat):List Int:=((av n).map fun k:Nat=>((k+1:Nat):Int)).filter fun s=>(n:Int)%s==0
def raw(n:Nat):List (List ω):=pV (fK n) 40 []
end My
namespace My
open PySem L2 L3
def dA:Nat:=9690712164777231700912800
theorem PQ:∀s:Fin 61,s.val=0∨dA%s.val=0:=by decide +kernel
theorem D5{s:Nat}(h1:1≤s)(h2:s≤60):s∣dA:=by
 rcases PQ ⟨s,by lia⟩ with h|h
 ·have h:s=0:=h;lia
 ·exact qG h
theorem uo:0<dA:=by decide +kernel
def oj(cs:List ω):Prop:=∀c∈cs,Valid c/\c.1≤60
theorem oj.lam{cs:List ω}(h:oj cs):∀c∈cs,Valid c/\c.1.toNat∣dA:=fun c hc=>by
 obtain⟨h1,h2⟩:=h c hc;have:=h1.1;exact⟨h1,D5 (by lia) (by lia)⟩
theorem PN{c:ω}(h:Valid c/\c.1≤60)(n:Int):eD n c=rg (((n%(dA:Nat)).toNat:Nat):Int) c:=by
 have hp:(0:Int)<(dA:Nat):=by have:=uo;lia
 rw[ba (fc _ (by lia)),←uv h.1];have e:=rl n (dA:Nat);conv=>lhs;rw[show n=n%(dA:Nat)+(dA:Nat)*(n / (dA:Nat)) by lia]
 exact Qx (D5 (by have:=h.1.1;lia) (by have:=h.2;lia)) h.1.1 _ _
theorem D4{cs:List ω}(h:oj cs)(n:Int):(cs.filter (eD n)).length=gu cs (n%(dA:Nat)).toNat:=by
 unfold gu;exact congrArg bR (kK fun c hc=>PN (h c hc) n)
def Ap(a b:ω):Prop:=∀n:Int,¬(eD n a=true/\eD n b=true)
theorem Ap.symm{a b:ω}(h:Ap a b):Ap b a:=fun n z=>h n ⟨z.2,z.1⟩
theorem bez:∀a b:Nat,∃x y:Int,(a:Int)*x+(b:Int)*y=((bE a b:Nat):Int):=by
 intro a b
 induction a,b using bE.induction with
 |H0 n=>exact⟨0,1,by simp⟩
 |H1 m n hm ih=>
  obtain⟨x,y,e⟩:=ih;refine⟨y-((n / m:Nat):Int)*x,x,?_⟩;rw[ud,←e];have e2:((n%m:Nat):Int)=(n:Int)-(m:Int)*((n / m:Nat):Int):=by
   have:=Nat.mod_add_div n m;have h3:((n%m+m*(n / m):Nat):Int)=(n:Int):=by rw[this]
   rw[jR,jQ] at h3;lia
  rw[e2,qL,Int.sub_mul,sx];lia
theorem AQ{d c:ω}(hd:0<d.1)(hc:0<c.1):(¬(d.2-c.2)%((bE d.1.toNat c.1.toNat:Nat):Int)=0)↔Ap d c:=by
 constructor
 ·intro h n ⟨h1,h2⟩;refine h (pR ?_);have g1:((bE d.1.toNat c.1.toNat:Nat):Int)∣d.1:=by
   have:=gb.mpr (g7 d.1.toNat c.1.toNat);rwa [ba (fu hd)] at this
  have g2:((bE d.1.toNat c.1.toNat:Nat):Int)∣c.1:=by
   have:=gb.mpr (iR d.1.toNat c.1.toNat);rwa [ba (fu hc)] at this
  have e1:=nW g1 (fC.mp h1);have e2:=nW g2 (fC.mp h2);have:=qM e2 e1;rwa [show n-c.2-(n-d.2)=d.2-c.2 by lia] at this
 ·intro h e;obtain⟨k,hk⟩:=pS e;obtain⟨x,y,hb⟩:=bez d.1.toNat c.1.toNat;rw[ba (fu hd),ba (fu hc)] at hb;refine h (d.2-d.1*(x*k)) ⟨fC.mpr ?_,fC.mpr ?_⟩
  ·rw[show d.2-d.1*(x*k)-d.2=d.1*(-(x*k)) by rw[Int.mul_neg];lia];exact gI _ _
  ·rw[←hb,Int.add_mul,sx,sx] at hk;rw[show d.2-d.1*(x*k)-c.2=c.1*(y*k) by lia];exact gI _ _
theorem vR{cs:List ω}{c:ω}(hd:∀d∈cs,0<d.1)(hc:0<c.1):kN cs c=true↔∀d∈cs,Ap d c:=by
 unfold kN;rw[eJ];constructor
 ·intro h d hm;refine (AQ (hd d hm) hc).mp fun e=>?_;have:=h d hm;rw[decide_eq_true e] at this;cases this
 ·intro h d hm;rw[decide_eq_false ((AQ (hd d hm) hc).mpr (h d hm))];rfl
theorem J1:∀{l:List Nat},(∀v∈l,1≤v)->l.length≤l.sum
 |[],_=>υ _
 |v::l,h=>by
  have h1:=h v ο;have h2:=J1 fun w hw=>h w (χ _ hw);rw[ag,cH];lia
theorem J0:∀{l:List Nat},(∀v∈l,v≤1)->l.sum≤l.length
 |[],_=>υ _
 |v::l,h=>by
  have h1:=h v ο;have h2:=J0 fun w hw=>h w (χ _ hw);rw[ag,cH];lia
theorem JZ:∀{l:List Nat},(∀v∈l,v≤1)->l.length≤l.sum->∀v∈l,v=1
 |[],_,_=>fun v hv=>nomatch hv
 |v::l,h,hs=>by
  have h1:=h v ο;have hl:∀w∈l,w≤1:=fun w hw=>h w (χ _ hw);have h2:=J0 hl;rw[ag,cH] at hs;intro w hw;rcases ay.mp hw with rfl|hw
  ·lia
  ·exact JZ hl (by lia) w hw
theorem PM{cs:List ω}(h:oj cs)(ht:dR cs dA<dA):∃x:Nat,x<dA/\∀c∈cs,eD (x:Int) c=false:=by
 have hs:=xN uo h.lam;cases hf:(av dA).find? (fun x=>gu cs x==0) with
 |some x=>
  have h1:=List.find?_some hf;have h2:=oI hf;refine⟨x,cm.mp h2,fun c hc=>?_⟩;have h3:(cs.filter (rg x)).length=0:=eq_of_beq h1;have h4:=fq.mp (ip.mp h3) c hc;rw[uv (h c hc).1];simpa using h4
 |none=>
  exfalso;have h1:(uM (gu cs) (av dA)).length≤(uM (gu cs) (av dA)).sum:=J1 fun v hv=>by
   obtain⟨x,hx,rfl⟩:=aE.mp hv;have:=tI.mp hf x hx;have:gu cs x≠0:=fun e=>this (by rw[e];rfl);lia
  rw[hs,ε,cn] at h1;lia
theorem JY:∀{cs:List ω} (n:Int),cs.Pairwise Ap->(cs.filter (eD n)).length≤1
 |[],_,_=>aQ _
 |c::cs,n,h=>by
  have h':=b5.mp h;have ih:=JY n h'.2;by_cases hc:eD n c=true
  ·rw[eY hc];have:cs.filter (eD n)=[]:=fq.mpr fun d hd e=>h'.1 d hd n ⟨hc,e⟩;rw[this];exact υ _
  ·rw[fZ hc];exact ih
theorem AO{cs:List ω}(h:oj cs)(ha:cs.Pairwise Ap)(ht:dR cs dA=dA):lp cs:=fun n=>by
 have hs:=xN uo h.lam;rw[D4 h n];have hlt:(n%(dA:Nat)).toNat<dA:=by
  have hp:=uo;have:=dM n (show (0:Int)<(dA:Nat) by lia);lia
 refine JZ (l:=(av dA).map (gu cs)) (fun v hv=>?_) (by rw[hs,ht,ε,cn];exact υ _) _ (aE.mpr ⟨_,cm.mpr hlt,rfl⟩);obtain⟨x,hx,rfl⟩:=aE.mp hv;have h1:=JY (x:Int) ha;rw[D4 h] at h1;have e:((x:Int)%(dA:Nat)).toNat=x:=by
  have:=cm.mp hx;rw[iT (by lia) (by lia)];lia
 rwa [e] at h1
theorem JX:∀{cs:List ω},(∀n:Int,(cs.filter (eD n)).length≤1)->cs.Pairwise Ap
 |[],_=>.nil
 |c::cs,h=>by
  refine b5.mpr ⟨fun d hd n ⟨h1,h2⟩=>?_,JX fun n=>?_⟩
  ·have:=h n;rw[eY h1,ag] at this;have h3:=qI (iF.mpr ⟨hd,h2⟩);lia
  ·have:=h n;by_cases hc:eD n c=true
   ·rw[eY hc,ag] at this;lia
   ·rw[fZ hc] at this;exact this
theorem PL{cs:List ω}(h:oj cs)(ho:lp cs):dR cs dA=dA:=by
 rw[←xN uo h.lam];have e:(av dA).map (gu cs)=bF dA 1:=rj.mpr ⟨by rw[ε,cn],fun b hb=>by
  obtain⟨x,hx,rfl⟩:=aE.mp hb;have h1:=ho (x:Int);rw[D4 h] at h1;have e:((x:Int)%(dA:Nat)).toNat=x:=by
   have:=cm.mp hx;rw[iT (by lia) (by lia)];lia
  rwa [e] at h1⟩
 rw[e,qH,Nat.mul_one]
def gK(ss:List Int):Nat:=(ss.map fun s=>dA / s.toNat).sum
theorem xG(cs:List ω):dR cs dA=gK (cs.map (·.1)):=by
 unfold dR gK;rw[aN];rfl
theorem PK(as bs:List Int):gK (as++bs)=gK as+gK bs:=by
 unfold gK;rw[aW,qd]
theorem JW{as bs:List Int}(h:as.Perm bs):gK as=gK bs:=(h.map _).sum_nat
theorem PH{ss:List Int}(h:∀s∈ss,1≤s/\s≤60)(hne:ss≠[]):0<gK ss:=by
 cases ss with
 |nil=>exact absurd rfl hne
 |cons s ss=>
  obtain⟨h1,h2⟩:=h s ο;have:0<dA / s.toNat:=Nat.div_pos (fU uo (D5 (by lia) (by lia))) (by lia);unfold gK;rw[aZ,cH];lia
def lr(cs:List ω)(ss:List Int):Prop:=∃rs:List ω,(rs.map (·.1)).Perm ss/\(∀c∈rs,Valid c)/\(cs++rs).Pairwise Ap
structure Fl(cs:List ω)(ss:List Int):Prop where
 ok:oj cs
 st:∀s∈ss,1≤s/\s≤60
 ap:cs.Pairwise Ap
 sum:dR cs dA+gK ss=dA
theorem Fl.miss{cs:List ω}{ss:List Int}(h:Fl cs ss)(hne:ss≠[]):∃x:Nat,x<dA/\∀c∈cs,eD (x:Int) c=false:=
 PM h.ok (by have:=PH h.st hne;have:=h.sum;lia)
theorem EF{as bs:List ω}(h:as.Perm bs):as.Pairwise Ap↔bs.Pairwise Ap:=h.pairwise_iff fun {a b} z=>z.symm
theorem Fl.once{cs rs:List ω}{ss:List Int}(h:Fl cs ss)(hp:(rs.map (·.1)).Perm ss)(hv:∀c∈rs,Valid c)(ha:(cs++rs).Pairwise Ap):oj (cs++rs)/\lp (cs++rs):=by
 have h60:oj (cs++rs):=fun c hc=>by
  rcases ar.mp hc with z|z
  ·exact h.ok c z
  ·exact⟨hv c z,(h.st c.1 (hp.mem_iff.mp (aE.mpr ⟨c,z,rfl⟩))).2⟩
 refine⟨h60,AO h60 ha ?_⟩;rw[xG,aW,PK,JW hp,←xG];exact h.sum
theorem Fl.step{cs:List ω}{ss:List Int}{c:ω}{i:Nat}(h:Fl cs ss)(hi:ss[i]?=some c.1)(hv:Valid c)(hc:∀d∈cs,Ap d c):Fl (cs++[c]) (ss.take i++ss.drop (i+1)):=by
 have hp:(c.1::(ss.take i++ss.drop (i+1))).Perm ss:=by
  obtain⟨hl,e⟩:=Φ.mp hi;have:ss=ss.take i++c.1::ss.drop (i+1):=by rw[←e,gr,bC]
  conv=>rhs;rw[this]
  exact (g8).symm
 have hc1:=h.st c.1 (bG hi);refine⟨fun d hd=>?_,fun s hs=>h.st s (hp.mem_iff.mp (χ _ hs)),?_,?_⟩
 ·rcases ar.mp hd with z|z
  ·exact h.ok d z
  ·rw[ah.mp z];exact⟨hv,hc1.2⟩
 ·refine Ψ.mpr ⟨h.ap,aT _ _,fun a ha b hb=>?_⟩;rw[ah.mp hb];exact hc a ha
 ·have e1:=JW hp;have e2:gK (c.1::(ss.take i++ss.drop (i+1)))=dA / c.1.toNat+gK (ss.take i++ss.drop (i+1)):=by
   unfold gK;rw[aZ,cH]
  have e3:dR (cs++[c]) dA=dR cs dA+dA / c.1.toNat:=by
   unfold dR;rw[aW,qd];simp
  have:=h.sum;lia
theorem Kv{s x:Int}(h:1≤s):Valid (s,x%s):=⟨by show 0<s;lia,fc _ (by lia),dM _ (by lia)⟩
theorem Ku(s:Int):∀ss:List Int,s∉ss.take (ss.idxOf s)
 |[]=>by simp
 |a::ss=>by
  by_cases h:a=s
  ·subst h;rw[List.idxOf_cons_self];simp
  ·rw[List.idxOf_cons,show (a==s)=false by simpa using h,cond_false,List.take_succ_cons,ay];rintro (e|e)
   ·exact h e.symm
   ·exact Ku s ss e
theorem Kt{cs:List ω}{ss:List Int}(h:Fl cs ss)(hne:ss≠[]){x:Int}(hx:∀c∈cs,eD x c=false):
  lr cs ss↔∃(i:Nat) (s:Int),ss[i]?=some s/\s∉ss.take i/\(∀d∈cs,Ap d (s,x%s))/\lr (cs++[(s,x%s)]) (ss.take i++ss.drop (i+1)):=by
 constructor
 ·rintro⟨rs,hp,hv,ha⟩;obtain⟨h60,ho⟩:=h.once hp hv ha;obtain⟨c,hc⟩:=List.exists_mem_of_length_pos (show 0<((cs++rs).filter (eD x)).length by rw[ho x];decide);obtain⟨hm,hr⟩:=iF.mp hc;have hcr:c∈rs:=by
   rcases ar.mp hm with z|z
   ·rw[hx c z] at hr;cases hr
   ·exact z
  have hcv:=hv c hcr;have ec:c=(c.1,x%c.1):=by
   rw[uv hcv] at hr;have:x%c.1=c.2:=eq_of_beq hr;rw[this]
  have hms:c.1∈ss:=hp.mem_iff.mp (aE.mpr ⟨c,hcr,rfl⟩);refine⟨ss.idxOf c.1,c.1,?_,?_,?_,?_⟩
  ·rw[Θ (pK.mpr hms),tH]
  ·exact Ku _ _
  ·rw[←ec];intro d hd;exact (Ψ.mp ha).2.2 d hd c hcr
  ·rw[←ec];have h1:rs.Perm (c::rs.erase c):=mz hcr;refine⟨rs.erase c,?_,fun d hd=>hv d (lH hd),?_⟩
   ·have hi:ss[ss.idxOf c.1]?=some c.1:=by rw[Θ (pK.mpr hms),tH]
    obtain⟨hl,e⟩:=Φ.mp hi;have e2:ss=ss.take (ss.idxOf c.1)++c.1::ss.drop (ss.idxOf c.1+1):=by
     conv=>lhs;rw[←bC (ss.idxOf c.1) ss,←gr hl,e]
    have h2:(c.1::(rs.erase c).map (·.1)).Perm (c.1::(ss.take (ss.idxOf c.1)++ss.drop (ss.idxOf c.1+1))):=by
     refine ((h1.map (·.1)).symm.trans hp).trans ?_;conv=>lhs;rw[e2]
     exact g8
    exact h2.cons_inv
   ·refine (EF ?_).mp ha;rw[aa];exact h1.append_left cs
 ·rintro⟨i,s,hi,_,hc,rs,hp,hv,ha⟩;refine⟨(s,x%s)::rs,?_,fun d hd=>?_,?_⟩
  ·rw[aZ];obtain⟨hl,e⟩:=Φ.mp hi;have e2:ss=ss.take i++s::ss.drop (i+1):=by rw[←e,gr,bC]
   conv=>rhs;rw[e2]
   exact (hp.cons s).trans g8.symm
  ·rcases ay.mp hd with rfl|hd
   ·exact Kv (h.st s (bG hi)).1
   ·exact hv d hd
  ·rw[aa] at ha;exact ha
theorem PF(cs:List ω)(h:cs.Pairwise Ap):lr cs []:=⟨[],.nil,fun c hc=>(nomatch hc),by rw[cV];exact h⟩
end My
namespace My
open PySem L2 L3
def A3(p:Nat):Nat->Nat->Nat
 |0,_=>1
 |k+1,n=>if n%p=0 then p*A3 p k (n / p) else 1
def yA(N:Nat):List Nat:=(([2,3,5,7,11,13,17,19,23,29,31,37,41,43,47,53,59]:List Nat).filter fun p=>N%p==0).map fun p=>dA / A3 p 10 dA*(A3 p 10 N / p)
def Cn:List Nat->List Nat
 |[]=>[0]
 |h::hs=>Cn hs++(Cn hs).map (h+·)
def zw:List Nat->List Nat
 |[]=>[]
 |h::hs=>zw hs++(Cn hs).map (h+·)
def Fo(N:Nat):Bool:=!(yA N).isEmpty&&((av N).all fun s=>s==0||(yA N).any fun h=>h%s==0)&&(zw (yA N)).all fun z=>!(z%N==0)
theorem PD:∀N:Fin 61,N.val<2∨Fo N.val=true:=by decide +kernel
def dl:List Nat->(Int->Int)->Int->Int
 |[],f,x=>f x
 |h::hs,f,x=>dl hs f x-dl hs f (x+(h:Int))
theorem AN(f g:Int->Int):∀(hs:List Nat) (x:Int),dl hs (fun y=>f y+g y) x=dl hs f x+dl hs g x
 |[],_=>rfl
 |h::hs,x=>by
  show dl hs _ x-dl hs _ (x+h)=_;rw[AN f g hs,AN f g hs];show _=dl hs f x-dl hs f (x+h)+(dl hs g x-dl hs g (x+h));lia
theorem EE{f:Int->Int}{k:Int}(hf:∀x,f (x+k)=f x):∀(hs:List Nat) (x:Int),dl hs f (x+k)=dl hs f x
 |[],x=>hf x
 |h::hs,x=>by
  show dl hs f (x+k)-dl hs f (x+k+h)=dl hs f x-dl hs f (x+h);rw[EE hf hs,show x+k+(h:Int)=x+h+k by lia,EE hf hs]
theorem AM{f:Int->Int}:∀{hs:List Nat} {h:Nat},h∈hs->(∀x,f (x+(h:Int))=f x)->∀x,dl hs f x=0
 |h::hs,k,hm,hf,x=>by
  show dl hs f x-dl hs f (x+h)=0;rcases ay.mp hm with rfl|hm
  ·rw[EE hf];lia
  ·rw[AM hm hf,AM hm hf];rfl
theorem AL{f:Int->Int}:∀{hs:List Nat} {x:Int},(∀z∈Cn hs,f (x+(z:Int))=0)->dl hs f x=0
 |[],x,h=>by
  have:=h 0 ο;rwa [show x+((0:Nat):Int)=x by lia] at this
 |k::hs,x,h=>by
  show dl hs f x-dl hs f (x+k)=0;rw[AL fun z hz=>h z (aM _ hz),AL (x:=x+k) fun z hz=>?_]
  ·rfl
  ·have:=h (k+z) (aq _ (aE.mpr ⟨z,hz,rfl⟩));rwa [show x+((k+z:Nat):Int)=x+k+z by lia] at this
theorem Ks{f:Int->Int}:∀{hs:List Nat} {x:Int},(∀z∈zw hs,f (x+(z:Int))=0)->dl hs f x=f x
 |[],x,h=>rfl
 |k::hs,x,h=>by
  show dl hs f x-dl hs f (x+k)=f x;rw[Ks fun z hz=>h z (aM _ hz),AL (x:=x+k) fun z hz=>?_]
  ·lia
  ·have:=h (k+z) (aq _ (aE.mpr ⟨z,hz,rfl⟩));rwa [show x+((k+z:Nat):Int)=x+k+z by lia] at this
def rI(c:ω)(x:Int):Int:=if eD x c=true then 1 else 0
def cI(cs:List ω)(x:Int):Int:=((cs.filter (eD x)).length:Nat)
theorem Kr(c:ω)(cs:List ω):cI (c::cs)=fun x=>rI c x+cI cs x:=by
 funext x;unfold cI rI;by_cases h:eD x c=true
 ·rw[eY h,if_pos h,ag];lia
 ·rw[fZ h,if_neg h];lia
theorem Kq{hs:List Nat}:∀{cs:List ω},(∀c∈cs,∀x,dl hs (rI c) x=0)->∀x,dl hs (cI cs) x=0
 |[],_,x=>AL fun _ _=>rfl
 |c::cs,h,x=>by
  rw[Kr,AN,h c ο,Kq (fun d hd=>h d (χ _ hd))];rfl
theorem PC{c:ω}{h:Int}(hd:c.1∣h)(x:Int):rI c (x+h)=rI c x:=by
 unfold rI;have:eD (x+h) c=eD x c:=by
  rw[dI,fC,fC];constructor
  ·intro z;have:=qM z hd;rwa [show x+h-c.2-h=x-c.2 by lia] at this
  ·intro z;have:=qN z hd;rwa [show x-c.2+h=x+h-c.2 by lia] at this
 rw[this]
theorem MC{c:ω}{cs:List ω}(h60:oj (c::cs))(ho:lp (c::cs))(h1:1<c.1)(hlt:∀d∈cs,d.1<c.1):False:=by
 obtain⟨hv,h6⟩:=h60 c ο;have hk:Fo c.1.toNat=true:=by
  rcases PD ⟨c.1.toNat,by lia⟩ with h|h
  ·have h:c.1.toNat<2:=h;lia
  ·exact h
 unfold Fo at hk;rw[bV,bV] at hk;obtain⟨⟨k1,k2⟩,k3⟩:=hk;have e1:dl (yA c.1.toNat) (cI (c::cs)) c.2=0:=by
  have:cI (c::cs)=fun _=>1:=by
   funext x;unfold cI;rw[ho x];rfl
  rw[this];cases hh:yA c.1.toNat with
  |nil=>rw[hh] at k1;cases k1
  |cons h hs=>exact AM (h:=h) ο (fun _=>rfl) _
 rw[Kr,AN] at e1;have e2:dl (yA c.1.toNat) (rI c) c.2=1:=by
  rw[Ks fun z hz=>?_]
  ·unfold rI;rw[if_pos sO]
  ·have hz':=eJ.mp k3 z hz;unfold rI;rw[if_neg fun e=>?_];have d:=fC.mp e;rw[show c.2+(z:Int)-c.2=(z:Int) by lia] at d;have d':c.1.toNat∣z:=by
    have:((c.1.toNat:Nat):Int)∣(z:Int):=by rw[ba (by lia)];exact d
    exact gb.mp this
   rw[Nat.mod_eq_zero_of_dvd d'] at hz';cases hz'
 have e3:dl (yA c.1.toNat) (cI cs) c.2=0:=Kq (fun d hd x=>by
  obtain⟨dv,d6⟩:=h60 d (χ _ hd);have dl':=hlt d hd;have dp:=dv.1;have:=eJ.mp k2 d.1.toNat (cm.mpr (by lia));rw[Bool.or_eq_true] at this;rcases this with h|h
  ·have:=eq_of_beq h;lia
  ·obtain⟨k,hk,hm⟩:=List.any_eq_true.mp h;refine AM hk (fun y=>PC ?_ y) x;have:d.1.toNat∣k:=qG (eq_of_beq hm);have:=gb.mpr this;rwa [ba (by lia)] at this) _
 lia
def nu(ss:List Int)(vs:List ω):Prop:=vs.map (·.1)=ss/\(∀c∈vs,Valid c)/\vs.Pairwise Ap
def Hg(ws vs:List ω):Prop:=∃(as:List ω) (s a b:Int) (bs cs:List ω),ws=as++(s,a)::bs/\vs=as++(s,b)::cs/\a<b
theorem Kp{ws vs:List ω}(h:Hg ws vs):aK.fA (iU ws) (iU vs)=true:=by
 obtain⟨as,s,a,b,bs,cs,rfl,rfl,hab⟩:=h;unfold iU;rw[aW,aW]
 induction as with
 |nil=>
  show (if ([s,a]:List Int)=[s,b] then _ else aK.lx [s,a] [s,b])=true;rw[if_neg (by intro e;injection e with _ e;injection e with e _;lia)];show (if s=s then (if a=b then _ else decide (a<b)) else _)=true;rw[if_pos rfl,if_neg (by lia),decide_eq_true hab]
 |cons c as ih=>
  show (if fx c=fx c then _ else _)=true;rw[if_pos rfl];exact ih
structure yL(ss:List Int)(j:Nat)(ws:List ω):Prop where
 st:ws.map (·.1)=ss.take j
 fl:Fl ws (ss.drop j)
 fill:lr ws (ss.drop j)
 least:∀vs,nu ss vs->vs.take j=ws∨Hg ws vs
theorem PB{ss:List Int}{vs:List ω}(h:nu ss vs)(j:Nat):lr (vs.take j) (ss.drop j):=by
 obtain⟨h1,h2,h3⟩:=h;refine⟨vs.drop j,?_,fun c hc=>h2 c (dq hc),by rw[bC];exact h3⟩;rw[←h1,List.map_drop]
theorem yL.next{ss:List Int}{j:Nat}{ws:List ω}{s r:Int}(L:yL ss j ws)(hs:ss[j]?=some s)(hv:Valid (s,r))(hc:∀d∈ws,Ap d (s,r))(hf:lr (ws++[(s,r)]) (ss.drop (j+1)))
  (hl:∀r':Int,0≤r'->r' < r->¬((∀d∈ws,Ap d (s,r'))/\lr (ws++[(s,r')]) (ss.drop (j+1)))):yL ss (j+1) (ws++[(s,r)]):=by
 have hj:=(Φ.mp hs).1;have hwl:ws.length=j:=by
  have:=congrArg bR L.st;rw[ε,bA] at this;lia
 have hd0:(ss.drop j)[0]?=some (s,r).1:=by rw[gv];exact hs
 refine⟨?_,?_,hf,fun vs ha=>?_⟩
 ·rw[aW,L.st,kI,hs];rfl
 ·have:=L.fl.step hd0 hv hc;rwa [qZ,bw,kr] at this
 ·rcases L.least vs ha with h|⟨as,t,a,b,bs,cs,e1,e2,hab⟩
  ·have hvj:j<vs.length:=by
    have:=congrArg bR ha.1;rw[ε] at this;lia
   have hvs:vs[j]?=some vs[j]:=Θ hvj;obtain⟨t,b,e⟩:∃t b,vs[j]=(t,b):=⟨_,_,rfl⟩;rw[e] at hvs;have et:t=s:=by
    have h2:(vs.map (·.1))[j]?=some t:=by rw[az,hvs];rfl
    rw[ha.1,hs] at h2;exact (aA h2).symm
   subst et;have htk:vs.take (j+1)=ws++[(t,b)]:=by rw[kI,h,hvs];rfl
   have hb:=ha.2.1 (t,b) (bG hvs);have hfb:=PB ha (j+1);rw[htk] at hfb;have hap:∀d∈ws,Ap d (t,b):=fun d hd=>by
    have h3:(vs.take (j+1)).Pairwise Ap:=ha.2.2.sublist (dB _ _);rw[htk] at h3;exact (Ψ.mp h3).2.2 d hd _ ο
   have hrb:¬b<r:=fun z=>hl b hb.2.1 z ⟨hap,hfb⟩;by_cases e2:r=b
   ·subst e2;exact .inl htk
   ·refine .inr ⟨ws,t,r,b,[],vs.drop (j+1),rfl,?_,by lia⟩;conv=>lhs;rw[←bC (j+1) vs,htk]
    rw[aa];rfl
  ·exact .inr ⟨as,t,a,b,bs++[(s,r)],cs,by rw[e1,aa];rfl,e2,hab⟩
structure kY(ss:List Int)(ws:List ω):Prop where
 ka:nu ss ws
 once:lp ws
 xo:oj ws
 least:∀vs,nu ss vs->vs=ws∨Hg ws vs
theorem yL.done{ss:List Int}{ws:List ω}(L:yL ss ss.length ws):kY ss ws:=by
 have e:=L.st;rw[lA] at e;have hf:=L.fl;rw[List.drop_length] at hf;have hv:∀c∈ws,Valid c:=fun c hc=>(hf.ok c hc).1;refine⟨⟨e,hv,hf.ap⟩,AO hf.ok hf.ap (by have:=hf.sum;simpa [gK] using this),hf.ok,fun vs ha=>?_⟩;have:=L.least vs ha;have hl:vs.take ss.length=vs:=cS (by rw[←ha.1,ε];exact υ _);rwa [hl] at this
theorem vQ{ss:List Int}{ws vs:List ω}(h:kY ss ws)(ha:nu ss vs):aK.fA (iU vs) (iU ws)=false:=by
 rcases h.least vs ha with rfl|hb
 ·exact J8 _
 ·exact aK.oM (Kp hb)
theorem Pz{ss:List Int}{ws vs:List ω}(h:kY ss ws)(h':kY ss vs):ws=vs:=by
 have h1:=vQ h h'.ka;have h2:=vQ h' h.ka;apply D7;exact cP fun e=>by
  rw[aK.tP e h2] at h1;cases h1
theorem Py{s:Int}{ss:List Int}{vs:List ω}(h:nu (s::ss) vs):lr [(s,0)] ss:=by
 obtain⟨h1,h2,h3⟩:=h;cases vs with
 |nil=>cases h1
 |cons c vs=>
  obtain⟨t,r⟩:=c;have e1:t=s:=(gF h1).1;have e2:vs.map (·.1)=ss:=(gF h1).2;subst e1;have hm:∀d:ω,0<d.1->∀n:Int,eD n (C0 (-r) d)=eD (n+r) d:=fun d hd n=>by
   rw[dI,fC,fC];show d.1∣n-(d.2 + -r)%d.1↔d.1∣n+r-d.2;have e:=rl (d.2 + -r) d.1;have z:d.1∣d.1*((d.2 + -r) / d.1):=gI _ _;constructor
   ·intro h;have:=qM h z;rwa [show n-(d.2 + -r)%d.1-d.1*((d.2 + -r) / d.1)=n+r-d.2 by lia] at this
   ·intro h;have:=qN h z;rwa [show n+r-d.2+d.1*((d.2 + -r) / d.1)=n-(d.2 + -r)%d.1 by lia] at this
  have hpos:∀d∈(t,r)::vs,0<d.1:=fun d hd=>(h2 d hd).1;have hc0:C0 (-r) (t,r)=(t,0):=by
   show (t,(r + -r)%t)=(t,0);rw[show r + -r=0 by lia,Int.zero_emod]
  refine⟨vs.map (C0 (-r)),?_,fun d hd=>?_,?_⟩
  ·rw[aN,←e2];exact .refl _
  ·obtain⟨d,hd',rfl⟩:=aE.mp hd;have hp:=hpos d (χ _ hd');exact⟨hp,fc _ (by lia),dM _ hp⟩
  ·have:([(t,0)]:List ω)++vs.map (C0 (-r))=((t,r)::vs).map (C0 (-r)):=by
    rw[aZ,hc0];rfl
   rw[this,bN];refine fR (fun {a b} ha hb hap n hn=>?_) h3;rw[hm a (hpos a ha),hm b (hpos b hb)] at hn;exact hap _ hn
end My
namespace My
open PySem L2 L3
def xF:eX:=fun ds G Q=>∃cs:List ω,ds=[bM cs]/\(∀c∈cs,Valid c)/\cs.length≤1000/\(∃x:Nat,∀c∈cs,eD (x:Int) c=false)/\∀(x:Nat) G',Sub G G'->(∀c∈cs,eD (x:Int) c=false)->Q (.int (x:Nat)) G'
def Px:aB:=zA 1 (eC (.int 1)) CT
def Pw:aB:=bY (ν 1)
def Pu:aB:=bj (qP (bJ (aJ (fg true) (bh xU (μ (ν 0) (μ (ν 1) (ab)))) (nO (ab)))) (Px)) Pw
def Ko:aB:=bj (cu (eC (.int 0)) (hName 1)) Pu
theorem Qg:∀ds G Q,xF ds G Q->Ko (bq Q) (bI ["clocks","number"] ds) G:=by
 rintro ds G Q ⟨cs,rfl,hv,hl,⟨x,hx⟩,q⟩;refine⟨fun m τ G'=>Sub G G'/\∃k:Nat,k+m=x/\τ=[some (bM cs),some (.int (k:Nat))],⟨x,Sub.refl _,0,by lia,rfl⟩,?_⟩;rintro m τ G' ⟨s1,k,hk,rfl⟩;refine⟨cs,(k:Int),rfl,fun c hc=>(hv c hc).1,hl,fun p1 G1 n1=>?_⟩;intro p2 G2 n2;refine⟨_,_,An (n2.sub _ _ n1.at_) (Ao _),An n2.at_ (Ao []),RM _,fun h=>?_,fun h=>?_⟩
 ·have h':(!((Dat.D.lst ((cs.filter (rg (k:Int))).map cX)).dS (.lst (([]:List ω).map cX))))=true:=h;rw[Lf] at h';have hne:cs.filter (rg (k:Int))≠[]:=by simpa using h'
  refine⟨m-1,?_,s1.trans (n1.sub.trans n2.sub),k+1,?_,rfl⟩
  ·have:m≠0:=fun z=>hne (fq.mpr fun c hc e=>by
    rw[←uv (hv c hc),show (k:Int)=(x:Int) by lia,hx c hc] at e;cases e)
   lia
  ·have:m≠0:=fun z=>hne (fq.mpr fun c hc e=>by
    rw[←uv (hv c hc),show (k:Int)=(x:Int) by lia,hx c hc] at e;cases e)
   lia
 ·have h':(!((Dat.D.lst ((cs.filter (rg (k:Int))).map cX)).dS (.lst (([]:List ω).map cX))))=false:=h;rw[Lf] at h';have he:cs.filter (rg (k:Int))=[]:=by simpa using h'
  refine dQ (q k _ (s1.trans (n1.sub.trans n2.sub)) fun c hc=>?_);rw[uv (hv c hc)];simpa using fq.mp he c hc
def rB(n:Nat):eX:=fun ds G Q=>∃(cs:List ω) (ss:List Int),ds=[bM cs,tupI ss]/\Fl cs ss/\cs.length+ss.length≤12/\ss.length<n/\∀(b:Bool) G',Sub G G'->(b=true↔lr cs ss)->Q (.bl b) G'
theorem Qf:∀ds G Q,¬rB 0 ds G Q:=by
 rintro ds G Q ⟨cs,ss,_,_,_,h,_⟩;lia
def Kn(n:Nat):aB:=g0 (tj (bJ (aJ (vF true) (ν 4) (wF (ν 1) (rH) (oB (ν 3))))) (bJ (bh uq (μ (ν 0) (μ (ν 5) (ab)))))) (g0 (bJ (bh (rB n) (μ (aJ eo (ν 0) (dw (μ (ν 5) (ab)))) (μ (aJ eo (wF (ν 1) (rH) (oB (ν 3))) (wF (ν 1) (oB (aJ eo (ν 3) (eC (.int 1)))) (rH))) (ab))))) (bY (eC (.bl true))) (dN)) (dN)
def Qe(n:Nat):aB:=bj (cu (dw (μ (ν 4) (μ (aJ jm (ν 2) (ν 4)) (ab)))) (hName 5)) (Kn n)
def Qd(n:Nat):aB:=bY (eC (.bl false))
def Qc(n:Nat):aB:=bj (iV (Bf (μ (ν 1) (ab))) (j4 2 (dE (hName 3) (dE (hName 4) (j6)))) ((Qe n))) (Qd n)
def Qb(n:Nat):aB:=bj (cu (bh xF (μ (ν 0) (ab))) (hName 2)) (Qc n)
def Km(n:Nat):aB:=bj (g0 (bJ (aJ (fg false) (cF jU (μ (ν 1) (ab))) (eC (.int 0)))) (bY (eC (.bl true))) (dN)) (Qb n)
theorem Qa{α:Type}:∀{ss:List α} {k:Nat} {z:Nat×α} {zs:List (Nat×α)},((av ss.length).zip ss).drop k=z::zs->z.1=k/\ss[k]?=some z.2/\((av ss.length).zip ss).drop (k+1)=zs:=by
 intro ss k z zs h;have h0:((av ss.length).zip ss)[k]?=some z:=by
  have:=gv (xs:=(av ss.length).zip ss) (i:=k) (j:=0);rw[h] at this;exact this.symm
 have h1:((av ss.length).zip ss).drop (k+1)=zs:=by
  rw[←kr,h];rfl
 obtain⟨ha,hb⟩:=jO.mp h0;have hk:k<ss.length:=(Φ.mp hb).1;rw[ie hk] at ha;exact⟨(aA ha).symm,hb,h1⟩
theorem JL(ss:List Int)(k:Nat):jq (ss.map D.int) none (some (k:Int))=(ss.take k).map D.int:=by rw[Al,RJ]
theorem JK(ss:List Int)(k:Nat):jq (ss.map D.int) (some ((k:Int)+1)) none=(ss.drop (k+1)).map D.int:=by
 rw[Al,show ((k:Int)+1)=((k+1:Nat):Int) by lia,KR]
theorem P9{n:Nat}{Q:V3}{D3:gO}{G:Gp}{cs:List ω}{ss:List Int}{x:Nat}{k:Nat}{s:Int}(h:Fl cs ss)(hl:cs.length+ss.length≤12)(hn:ss.length<n+1)(hx:∀c∈cs,eD (x:Int) c=false)(hk:ss[k]?=some s)
  (EY:∀G',Sub G G'->s∉ss.take k->(∀d∈cs,Ap d (s,(x:Int)%s))->lr (cs++[(s,(x:Int)%s)]) (ss.take k++ss.drop (k+1))->D3.rt (.bl true) G')
  (nr:∀G',Sub G G'->¬(s∉ss.take k/\(∀d∈cs,Ap d (s,(x:Int)%s))/\lr (cs++[(s,(x:Int)%s)]) (ss.take k++ss.drop (k+1)))->D3.nx [some (bM cs),some (tupI ss),some (.int (x:Nat)),some (nD k),some (.int s),some (cD (s,(x:Int)%s))] G'):
  Kn n D3 [some (bM cs),some (tupI ss),some (.int (x:Nat)),some (nD k),some (.int s),some (cD (s,(x:Int)%s))] G:=by
 have hs:=h.st s (bG hk);have hpos:∀d∈cs,0<d.1:=fun d hd=>(h.ok d hd).1.1;have hkl:=(Φ.mp hk).1;have hlen:(ss.take k++ss.drop (k+1)).length+1=ss.length:=by
  rw[ξ,bA,aV];lia
 refine⟨.int s,(ss.take k).map Dat.D.int,rfl,.inr ?_,by rw[Ea];decide,?_⟩
 ·show kX G (.tup (jq (ss.map D.int) none (some (k:Int))))=_;rw[JL];exact AU _
 rw[Qp];refine⟨fun h1=>?_,fun h1=>⟨nofun,fun _=>nr G (Sub.refl _) fun z=>?_⟩⟩
 rotate_left
 ·have h1':(!decide (s∈ss.take k))=false:=h1;rw[decide_eq_false z.1] at h1';cases h1'
 have h1':s∉ss.take k:=by
  have:(!decide (s∈ss.take k))=true:=h1;simpa using this
 refine⟨cs,(s,(x:Int)%s),rfl,hpos,by show 0<s;lia,fun h2=>?_,fun h2=>nr G (Sub.refl _) fun z=>?_⟩
 rotate_left
 ·rw[(vR hpos (by show 0<s;lia)).mpr z.2.1] at h2;cases h2
 have hap:=(vR hpos (by show 0<s;lia)).mp h2;have hv:Valid (s,(x:Int)%s):=Kv hs.1;show ((cs.map cD).length+[cD (s,(x:Int)%s)].length≤ao)/\_;refine⟨by rw[ε];exact bQ (by simp;lia),?_⟩;show ((jq (ss.map D.int) none (some (k:Int))).length+(jq (ss.map D.int) (some ((k:Int)+1)) none).length≤ao)/\_;rw[JL,JK,←ξ,←aW];refine⟨by rw[ε];exact bQ (by lia),cs++[(s,(x:Int)%s)],ss.take k++ss.drop (k+1),?_,h.step hk hv hap,?_,by lia,fun b G1 s1 hb=>⟨fun e=>?_,fun e=>?_⟩⟩
 ·show [D.tup (cs.map cD++[cD (s,(x:Int)%s)]),D.tup ((ss.take k++ss.drop (k+1)).map D.int)]=[D.tup ((cs++[(s,(x:Int)%s)]).map cD),_];rw[aW (f:=cD)];rfl
 ·rw[ξ,b6];lia
 ·exact EY G1 s1 h1' hap (hb.mp e)
 ·refine nr G1 s1 fun z=>?_;rw[hb.mpr z.2.2] at e;cases e
theorem P8(n:Nat):∀ds G Q,rB (n+1) ds G Q->Km n (bq Q) (bI ["clocks","steps","number","place","step","clock"] ds) G:=by
 rintro ds G Q ⟨cs,ss,rfl,h,hl,hn,q⟩;refine⟨_,_,rfl,rfl,aQ _,fun h0=>?_,fun h0=>?_⟩
 ·have h0':((((ss.map D.int).length:Nat):Int)==0)=true:=h0;have:ss=[]:=by
   have:=eq_of_beq h0';rw[ε] at this;exact ip.mp (by lia)
  subst this;exact dQ (q true G (Sub.refl _) ⟨fun _=>PF cs h.ap,fun _=>rfl⟩)
 have h0':((((ss.map D.int).length:Nat):Int)==0)=false:=h0;have hne:ss≠[]:=fun z=>by
  subst z;exact absurd h0' (by decide)
 obtain⟨x0,_,hx0⟩:=h.miss hne;refine⟨cs,rfl,fun c hc=>(h.ok c hc).1,by lia,⟨x0,hx0⟩,fun x G1 s1 hx=>?_⟩;refine⟨ss.map D.int,rfl,?_⟩;rw[Q7 D.int ss];refine jE (fun ds τ G'=>∃k,ds=(((av ss.length).zip ss).drop k).map (fun p=>D.tup [nD p.1,D.int p.2])/\Sub G1 G'/\(∀(i:Nat) (s:Int),i<k->ss[i]?=some s->¬(s∉ss.take i/\(∀d∈cs,Ap d (s,(x:Int)%s))/\lr (cs++[(s,(x:Int)%s)]) (ss.take i++ss.drop (i+1)))) ∧
  ∃x3 x4 x5,τ=[some (bM cs),some (tupI ss),some (.int (x:Nat)),x3,x4,x5]) (fun _ _ _ _=>rfl) ?_ ?_ _ _ _ ⟨0,rfl,Sub.refl _,fun i s hi=>absurd hi (qc _),none,none,none,rfl⟩
 ·rintro d ds τ G2 N ⟨k,e,s2,nr,x3,x4,x5,rfl⟩ hN;cases hz:((av ss.length).zip ss).drop k with
  |nil=>rw[hz] at e;cases e
  |cons z zs=>
   rw[hz] at e;cases e;obtain⟨z1,z2,z3⟩:=Qa hz;obtain⟨j,s⟩:=z;have z1:j=k:=z1;subst z1;have z2:ss[j]?=some s:=z2;have hs:=h.st s (bG z2);refine⟨rfl,by show 0<s;lia,P9 (Q:=Q) h hl hn hx z2 (fun G3 s3 a b c=>dQ (q true G3 (s1.trans (s2.trans s3)) ⟨fun _=>(Kt h hne hx).mpr ⟨j,s,z2,a,b,c⟩,fun _=>rfl⟩)) fun G3 s3 hn3=>hN _ _ ⟨j+1,by rw[z3],s2.trans s3,fun i t hi ht=>?_,_,_,_,rfl⟩⟩;rcases tE i j with hlt|hge
   ·exact nr i t hlt ht
   ·have:i=j:=by lia
    subst this;rw[z2] at ht;cases ht;exact hn3
 ·rintro τ G2 ⟨k,e,s2,nr,x3,x4,x5,rfl⟩;have hz:((av ss.length).zip ss).drop k=[]:=by
   cases hz:((av ss.length).zip ss).drop k with
   |nil=>rfl
   |cons z zs=>rw[hz] at e;cases e
  have hk:ss.length≤k:=by
   have:=congrArg bR hz;rw[aV,mB,cn] at this;simp at this;lia
  refine dQ (q false G2 (s1.trans s2) ⟨nofun,fun hf=>?_⟩);obtain⟨i,s,a,b⟩:=(Kt h hne hx).mp hf;exact absurd b (nr i s (by have:=(Φ.mp a).1;lia) a)
end My
namespace My
open PySem L2 L3
def Good(ws:List ω)(s:Int)(ss:List Int)(r:Int):Prop:=(∀d∈ws,Ap d (s,r))/\lr (ws++[(s,r)]) ss
theorem P7{ws:List ω}{s:Int}{ss:List Int}(h:lr ws (s::ss)):∃r,Valid (s,r)/\Good ws s ss r:=by
 obtain⟨rs,hp,hv,ha⟩:=h;obtain⟨c,hc,e⟩:=aE.mp (hp.mem_iff.mpr ο);obtain⟨t,r⟩:=c;have e:t=s:=e;subst e;have h1:rs.Perm ((t,r)::rs.erase (t,r)):=mz hc;refine⟨r,hv _ hc,fun d hd=>(Ψ.mp ha).2.2 d hd _ hc,rs.erase (t,r),?_,fun d hd=>hv d (lH hd),?_⟩
 ·have h2:(t::(rs.erase (t,r)).map (·.1)).Perm (t::ss):=(h1.map (fun c:ω=>c.1)).symm.trans hp;exact h2.cons_inv
 ·refine (EF ?_).mp ha;rw[aa];exact h1.append_left ws
def xE:eX:=fun ds G Q=>∃(ws:List ω) (s:Int) (ss:List Int),ds=[bM ws,.int s,tupI ss]/\Fl ws (s::ss)/\lr ws (s::ss)/\ws.length+ss.length≤11 ∧
 ∀r G',Sub G G'->Valid (s,r)->Good ws s ss r->(∀r',0≤r'->r' < r->¬Good ws s ss r')->Q (cD (s,r)) G'
def Ph:aB:=g0 (tj (bJ (bh uq (μ (ν 0) (μ (ν 4) (ab))))) (bJ (bh (rB 40) (μ (aJ eo (ν 0) (dw (μ (ν 4) (ab)))) (μ (ν 2) (ab)))))) (bY (ν 4)) (dN)
def Pg:aB:=bj (cu (dw (μ (ν 1) (μ (ν 3) (ab)))) (hName 4)) Ph
def Pf:aB:=bY (eC .aF)
def JJ:aB:=bj (iV (mf (μ (ν 1) (ab))) (hName 3) (Pg)) Pf
theorem range_drop{n k:Nat}{z:Nat}{zs:List Nat}(h:(av n).drop k=z::zs):z=k/\k<n/\(av n).drop (k+1)=zs:=by
 have hk:k<n:=by
  have:=congrArg bR h;rw[aV,cn,ag] at this;lia
 have e:=cO (l:=av n) (i:=k) (by rw[cn];exact hk);rw[h,List.getElem_range] at e;injection e with e1 e2;exact⟨e1,hk,e2.symm⟩
theorem Fl.one{ws:List ω}{s:Int}{ss:List Int}{r:Int}(h:Fl ws (s::ss))(hv:Valid (s,r))(ha:∀d∈ws,Ap d (s,r)):Fl (ws++[(s,r)]) ss:=h.step (i:=0) rfl hv ha
theorem Pe:∀ds G Q,xE ds G Q->JJ (bq Q) (bI ["clocks","step","steps","rest","clock"] ds) G:=by
 rintro ds G Q ⟨ws,s,ss,rfl,h,hf,hl,q⟩;have hs:=h.st s ο;have hpos:∀d∈ws,0<d.1:=fun d hd=>(h.ok d hd).1.1;refine⟨⟨by lia,by lia⟩,?_⟩;show iA _ _ _ _ (iI 0 s.toNat) _ _;rw[xp];refine jE (fun ds τ G'=>∃k:Nat,ds=((av s.toNat).drop k).map nD/\Sub G G'/\(∀r':Int,0≤r'->r' < (k:Int)->¬Good ws s ss r')/\∃x3 x4,τ=[some (bM ws),some (.int s),some (tupI ss),x3,x4]) (fun _ _ _ _=>trivial) ?_ ?_ _ _ _ ⟨0,rfl,Sub.refl _,fun r' a b=>by lia,none,none,rfl⟩
 ·rintro d ds τ G2 N ⟨k,e,s2,nr,x3,x4,rfl⟩ hN;cases hz:(av s.toNat).drop k with
  |nil=>rw[hz] at e;cases e
  |cons z zs=>
   rw[hz] at e;cases e;obtain⟨rfl,hk,rfl⟩:=range_drop hz;have hv:Valid (s,(z:Int)):=⟨by show 0<s;lia,by show (0:Int)≤(z:Int);lia,by show (z:Int)<s;lia⟩;have next:∀G3,Sub G2 G3->¬Good ws s ss (z:Int)->N [some (bM ws),some (.int s),some (tupI ss),some (nD z),some (cD (s,(z:Int)))] G3:=fun G3 s3 hg=>hN _ _ ⟨z+1,rfl,s2.trans s3,fun r' a b=>by
    by_cases e:r'=(z:Int)
    ·rw[e];exact hg
    ·exact nr r' a (by lia),_,_,rfl⟩
   refine⟨ws,(s,(z:Int)),rfl,hpos,hv.1,fun h2=>?_,fun h2=>⟨nofun,fun _=>next G2 (Sub.refl _) fun hg=>?_⟩⟩
   rotate_left
   ·rw[(vR hpos hv.1).mpr hg.1] at h2;cases h2
   have hap:=(vR hpos hv.1).mp h2;show ((ws.map cD).length+[cD (s,(z:Int))].length≤ao)/\_;refine⟨by rw[ε];exact bQ (by simp;lia),ws++[(s,(z:Int))],ss,?_,h.one hv hap,?_,by lia,fun b G3 s3 hb=>⟨fun e=>?_,fun e=>?_⟩⟩
   ·show [D.tup (ws.map cD++[cD (s,(z:Int))]),tupI ss]=[D.tup ((ws++[(s,(z:Int))]).map cD),tupI ss];rw[aW (f:=cD)];rfl
   ·rw[ξ,b6];lia
   ·exact dQ (q z G3 (s2.trans s3) hv ⟨hap,hb.mp e⟩ nr)
   ·refine next G3 s3 fun hg=>?_
    rw[hb.mpr hg.2] at e;cases e
 ·rintro τ G2 ⟨k,e,s2,nr,x3,x4,rfl⟩;exfalso;have hk:s.toNat≤k:=by
   have:=congrArg bR e;rw[ε,aV,cn] at this;simp at this;lia
  obtain⟨r,hv,hg⟩:=P7 hf;exact nr r hv.2.1 (by have:r<s:=hv.2.2;lia) hg
def zC(ss:List Int):List ω:=ss.map fun s=>((s,0):ω)
theorem JI{cs:List ω}(h:oj cs):(yZ cs=1/\y8 cs=1)↔dR cs dA=dA:=by
 have hp:=Ee fun z hz=>(h z hz).1.1;have hd:cw cs∣dA:=Q4 (Nat.one_dvd _) fun c hc=>(h.lam c hc).2;obtain⟨b,hb⟩:=hd;have hb0:0<b:=Nat.pos_of_ne_zero fun z=>by
  have:=uo;rw[hb,z] at this;lia
 have e:dR cs dA=b*dR cs (cw cs):=by
  have key:∀ds:List ω,(∀c∈ds,0<c.1/\c.1.toNat∣cw cs)->dR ds dA=b*dR ds (cw cs):=by
   intro ds
   induction ds with
   |nil=>intro _;rfl
   |cons c ds ih=>
    intro hc;obtain⟨c0,a,ha⟩:=hc c ο;have i:=ih fun d hd=>hc d (χ _ hd);have t1:∀R,dR (c::ds) R=R / c.1.toNat+dR ds R:=fun R=>by
     unfold dR;rw[aZ,cH]
    rw[t1,t1,i,Nat.mul_add];congr 1;rw[hb,ha,nT,kA _ (by lia),kA _ (by lia),dW]
  exact key cs fun c hc=>⟨(h c hc).1.1,Ki hc⟩
 rw[e,hb];unfold yZ y8;constructor
 ·rintro⟨h1,h2⟩;have d1:=kj (g7 (dR cs (cw cs)) (cw cs));have d2:=kj (iR (dR cs (cw cs)) (cw cs));rw[h1] at d1;rw[h2] at d2;rw[dW (cw cs) b];congr 1;lia
 ·intro h1;rw[dW (cw cs) b] at h1;have h2:dR cs (cw cs)=cw cs:=Nat.eq_of_mul_eq_mul_left hb0 h1;rw[h2,Nat.gcd_self];exact⟨pH hp,pH hp⟩
def nK:eX:=fun ds G Q=>∃ss:List Int,ds=[tupI ss]/\ss≠[]/\ss.length≤12/\(∀s∈ss,1≤s/\s≤60)/\∀G',Sub G G'->(gK ss≠dA->Q .aF G')/\((¬∃vs,nu ss vs)->Q .aF G')/\(gK ss=dA->∀ws,kY ss ws->Q (bM ws) G')
def Pd:aB:=cu (aJ eo (ν 1) (dw (μ (bh xE (μ (ν 1) (μ (aJ ff (ν 0) (ν 2)) (μ (wF (ν 0) (oB (aJ eo (ν 2) (eC (.int 1)))) (rH)) (ab))))) (ab)))) (hName 1)
def Pc:aB:=bY (ν 1)
def JH:aB:=bj (iV (tQ (μ (eC (.int 1)) (μ (cF jU (μ (ν 0) (ab))) (ab)))) (hName 2) (Pd)) Pc
def Pb:aB:=bj (g0 (o9 (bJ (bh (rB 40) (μ (ν 1) (μ (wF (ν 0) (oB (eC (.int 1))) (rH)) (ab)))))) (bY (eC .aF)) (dN)) JH
def Pa:aB:=bj (cu (dw (μ (dw (μ (aJ ff (ν 0) (eC (.int 0))) (μ (eC (.int 0)) (ab)))) (ab))) (hName 1)) Pb
def JG:aB:=bj (g0 (bJ (aJ (fg true) (bh xR (μ (cF mS (μ (eS ["step"] [] (fL (ν 0)) (hName 0) (cY) (dw (μ (ν 0) (μ (eC (.int 0)) (ab))))) (ab))) (ab))) (dw (μ (eC (.int 1)) (μ (eC (.int 1)) (ab)))))) (bY (eC .aF)) (dN)) Pa
theorem ED{ss:List Int}(h:∀s∈ss,1≤s/\s≤60):oj (zC ss):=fun c hc=>by
 obtain⟨s,hs,rfl⟩:=aE.mp hc;have:=h s hs;exact⟨⟨by show 0<s;lia,by show (0:Int)≤0;decide,by show 0<s;lia⟩,this.2⟩
theorem JF(ss:List Int):dR (zC ss) dA=gK ss:=by
 rw[xG];unfold zC;rw[aN];congr 1;exact ue ss
theorem O9{Q:V3}{G:Gp}{ss:List Int}{ws:List ω}{x2:Option D}(hl:ss.length≤12)(h1:1≤ss.length)(L:yL ss 1 ws)(q:∀ws G',Sub G G'->kY ss ws->Q (bM ws) G'):
  JH (bq Q) [some (tupI ss),some (bM ws),x2] G:=by
 have hlm:(ss.map D.int).length=ss.length:=ε _;show (_/\_/\-(2^62)≤(((ss.map D.int).length:Nat):Int)/\(((ss.map D.int).length:Nat):Int)<2^62)/\iA _ _ _ _ (iI 1 ((((ss.map D.int).length:Nat):Int)-1).toNat) _ _;rw[hlm];refine⟨⟨by decide,by decide,by lia,by lia⟩,?_⟩;have en:(((ss.length:Nat):Int)-1).toNat=ss.length-1:=by lia
 rw[en];have er:iI 1 (ss.length-1)=(av (ss.length-1)).map fun i:Nat=>nD (i+1):=b9 fun i _=>by
  show D.int (1+(i:Int))=D.int ((i+1:Nat):Int);rw[show (1:Int)+(i:Int)=((i+1:Nat):Int) by lia]
 rw[er];refine jE (fun ds τ G'=>∃k:Nat,ds=((av (ss.length-1)).drop k).map (fun i:Nat=>nD (i+1))/\Sub G G'/\k≤ss.length-1/\∃ws x2,yL ss (k+1) ws/\τ=[some (tupI ss),some (bM ws),x2]) (fun _ _ _ _=>trivial) ?_ ?_ _ _ _ ⟨0,rfl,Sub.refl _,aQ _,ws,x2,L,rfl⟩
 ·rintro d ds τ G2 N ⟨k,e,s2,hk,ws,x2,L,rfl⟩ hN;cases hz:(av (ss.length-1)).drop k with
  |nil=>rw[hz] at e;cases e
  |cons z zs=>
   rw[hz] at e;cases e;obtain⟨rfl,hk,rfl⟩:=range_drop hz;have hs:ss[z+1]?=some (ss[z+1]'(by lia)):=Θ (by lia);obtain⟨s,es⟩:∃s,ss[z+1]'(by lia)=s:=⟨_,rfl⟩;rw[es] at hs;have hdr:ss.drop (z+1)=s::ss.drop (z+2):=by rw[←gr (by lia),es]
   have hwl:ws.length=z+1:=by
    have:=congrArg bR L.st;rw[ε,bA] at this;lia
   have hfl:=L.fl;have hfi:=L.fill;rw[hdr] at hfl hfi;refine⟨.int s,sU (by rw[az,hs];rfl),ws,s,ss.drop (z+2),?_,hfl,hfi,?_,fun r G3 s3 hv hg hleast=>?_⟩
   ·show [bM ws,D.int s,D.tup (jq (ss.map D.int) (some (((z+1:Nat):Int)+1)) none)]=_;rw[JK];rfl
   ·rw[aV];lia
   show ((ws.map cD).length+[cD (s,r)].length≤ao)/\N [some (tupI ss),some (.tup (ws.map cD++[cD (s,r)])),some (nD (z+1))] G3;refine⟨by rw[ε];exact bQ (by simp;lia),hN _ _ ⟨z+1,rfl,s2.trans s3,by lia,ws++[(s,r)],some (nD (z+1)),L.next hs hv hg.1 hg.2 hleast,?_⟩⟩
   show _=[some (tupI ss),some (D.tup ((ws++[(s,r)]).map cD)),_];rw[aW (f:=cD)];rfl
 ·rintro τ G2 ⟨k,e,s2,hk,ws,x2,L,rfl⟩;have hk2:k=ss.length-1:=by
   have:=congrArg bR e;rw[ε,aV,cn] at this;simp at this;lia
  subst hk2;rw[show ss.length-1+1=ss.length by lia] at L;exact dQ (q ws G2 s2 L.done)
theorem O8:∀ds G Q,nK ds G Q->JG (bq Q) (bI ["steps","clocks","place"] ds) G:=by
 rintro ds G Q ⟨ss,rfl,hne,hl,h60,q⟩;refine⟨by show (ss.map D.int).length≤ao;rw[ε];exact bQ (by lia),?_⟩;refine lU (fun τ=>∃x,τ=[x]) D.int (fun _=>true) (fun s:Int=>cD (s,0)) (G:=G) trivial ss [] _ ⟨none,rfl⟩ ?_ ?_
 ·rintro s hm τ K1 K2 ⟨x,rfl⟩ h1 h2;exact⟨fun _=>h1 rfl _ ⟨_,rfl⟩,nofun⟩
 intro p1 G1 n1;have e1:([]:List D)++(ss.filter fun _=>true).map (fun s:Int=>cD (s,0))=(zC ss).map cD:=by
  rw[bw,Qz];unfold zC;rw[aN];rfl
 rw[e1] at n1;have hz:=ED h60;refine⟨_,n1.at_,zC ss,rfl,fun c hc=>⟨(hz c hc).1,by have:=(hz c hc).2;lia⟩,by unfold zC;rw[ε];exact hl,?_⟩;have hsh:=JI hz;rw[JF] at hsh;refine⟨_,_,rfl,rfl,jb rfl,fun h=>dQ ((q G1 n1.sub).1 fun e=>?_),fun h=>?_⟩
 ·obtain⟨a,b⟩:=hsh.mpr e;have h':(!(Dat.D.tup [.int (yZ (zC ss):Nat),.int (y8 (zC ss):Nat)]).dS (.tup [.int 1,.int 1]))=true:=h;rw[a,b] at h';exact absurd h' (by decide)
 have hsum:gK ss=dA:=hsh.mp (by
  have h':(!((((yZ (zC ss):Nat):Int)==1)&&((((y8 (zC ss):Nat):Int)==1)&&true)))=false:=h;rw[iH,bV,bV,beq_iff_eq,beq_iff_eq] at h';exact⟨by lia,by lia⟩)
 cases ss with
 |nil=>exact absurd rfl hne
 |cons s ss=>
  have hs:=h60 s ο;have hv:Valid (s,0):=⟨by show 0<s;lia,by show (0:Int)≤0;decide,by show 0<s;lia⟩;have hfl:Fl [(s,0)] ss:=by
   have h0:Fl [] (s::ss):=⟨fun c hc=>(nomatch hc),h60,.nil,by rw[hsum];show 0+dA=dA;lia⟩;exact h0.one hv fun d hd=>(nomatch hd)
  have hcut:jq ((s::ss).map D.int) (some 1) none=ss.map D.int:=by
   rw[Al,show (some (1:Int))=some ((1:Nat):Int) from rfl,KR];rfl
  refine⟨.int s,sU (j:=0) rfl,[(s,0)],ss,?_,hfl,by simp at hl ⊢;lia,by simp at hl;lia,fun b G2 s2 hb=>⟨fun e=>?_,fun e=>?_⟩⟩
  ·show [bM [(s,0)],D.tup (jq ((s::ss).map D.int) (some 1) none)]=_;rw[hcut];rfl
  ·have e':(!b)=true:=e;refine dQ ((q G2 (n1.sub.trans s2)).2.1 fun⟨vs,hvs⟩=>?_);rw[hb.mpr (Py hvs)] at e';cases e'
  ·have e':(!b)=false:=e;have hf:=hb.mp (by simpa using e');refine O9 (ws:=[(s,0)]) hl (by simp) ⟨rfl,hfl,hf,fun vs hvs=>?_⟩ fun ws G3 s3 hF=>(q G3 ((n1.sub.trans s2).trans s3)).2.2 hsum ws hF;cases vs with
   |nil=>exact absurd hvs.1 (by simp)
   |cons c vs=>
    obtain⟨t,b⟩:=c;have et:t=s:=(gF hvs.1).1;subst et;have hb2:0≤b:=(hvs.2.1 (t,b) ο).2.1;by_cases hb0:b=0
    ·subst hb0;exact .inl rfl
    ·exact .inr ⟨[],t,0,b,[],vs,rfl,rfl,by lia⟩
end My
namespace fV
open PySem PySem.W PyProof.Rows
abbrev SM:=StateT aH Sem
def gZ:Bool->θ->Array θ->Nat->Nat->Nat->SM (Option Nat):=sortPriv% PySem.Builtin.gallop
def wH(left:Bool)(key:θ)(arr:Array θ)(base i:Nat):SM (Option Bool):=do
 let x ←elem' arr (base+i)
 if left then lt' x key else return (←lt' key x).map (!·)
theorem Bi(left:Bool)(key:θ)(arr:Array θ)(base n hint:Nat):gZ left key arr base n hint=(do
 let mut lastofs:=0
 let mut ofs:=1
 let mut lo:=0
 let mut hi:=0
 let some right ←wH left key arr base hint|return none
 if right then
  let maxofs:=n-hint
  for _ in [0:n] do
   if ofs≥maxofs then break
   let some more ←wH left key arr base (hint+ofs)|return none
   if !more then break
   lastofs:=ofs
   ofs:=2*ofs+1
  lo:=hint+lastofs+1
  hi:=hint+min ofs maxofs
 else
  let maxofs:=hint+1
  for _ in [0:n] do
   if ofs≥maxofs then break
   let some found ←wH left key arr base (hint-ofs)|return none
   if found then break
   lastofs:=ofs
   ofs:=2*ofs+1
  lo:=hint+1-min ofs maxofs
  hi:=hint-lastofs
 for _ in [0:n] do
  if lo≥hi then break
  let m:=lo+(hi-lo) / 2
  let some more ←wH left key arr base m|return none
  if more then lo:=m+1 else hi:=m
 return some hi):=rfl
def u6(left:Bool)(key:θ)(arr:Array θ)(base n lo hi:Nat):SM (Option Nat):=do
 let mut lo:=lo
 let mut hi:=hi
 for _ in [0:n] do
  if lo≥hi then break
  let m:=lo+(hi-lo) / 2
  let some more ←wH left key arr base m|return none
  if more then lo:=m+1 else hi:=m
 return some hi
section
variable {prog:aw} {w:aG} {A:aR} {E:δ->ζ->Prop} {κ:cv} {s:ζ} {Ok:θ->Prop} {L:θ->θ->Bool} {st:aH}
def kd(prog:aw)(w:aG)(A:aR)(κ:cv)(s:ζ)(Ok:θ->Prop)(L:θ->θ->Bool):Prop:=
 ∀x y,Ok x->Ok y->∀(Q:Bool->ζ->Prop) (E:δ->ζ->Prop),Q (L x y) s->π (model prog w) A (keyLt' κ x.1 y.1) Q E s
theorem xf(C:kd prog w A κ s Ok L)(hk:kindOf st=κ){x y:θ}(hx:Ok x)(hy:Ok y){Q:Option Bool->aH->ζ->Prop}(h:Q (some (L x y)) st s):kasC (model prog w) A E (lt' x y) Q st s:=by
 rw[lt'_eq];refine Δ (jv ?_);rw[hk];exact Δ (lF (gD (C x y hx hy _ _ (af h))))
theorem jV{arr:Array θ}{i:Nat}{x:θ}(e:arr[i]?=some x){Q:θ->aH->ζ->Prop}(h:Q x st s):kasC (model prog w) A E (elem' arr i) Q st s:=by
 rw[elem'_eq,e];exact af h
theorem nJ{α:Type}{m:SM α}{Q Q':α->aH->ζ->Prop}(h:kasC (model prog w) A E m Q st s)(hq:∀a st' s',Q a st' s'->Q' a st' s'):kasC (model prog w) A E m Q' st s:=ee h (fun r s' z=>hq _ _ _ z) fun _ _ e=>e
theorem kZ{β:Type}{body:Nat->β->SM (ForInStep β)}{Q:β->aH->ζ->Prop}(I:Nat->β->aH->Prop)(hz:∀b st,I 0 b st->Q b st s)
  (hs:∀x k b st,I (k+1) b st->kasC (model prog w) A E (body x b) (fun r st' s'=>s'=s/\match r with
   |.done b'=>Q b' st' s
   | .yield b'=>I k b' st') st s) (l:List Nat):∀(b:β) (st:aH),I l.length b st->kasC (model prog w) A E (forIn l b body) Q st s:=by
 induction l with
 |nil=>exact fun b st h=>kasC_nil (hz b st h)
 |cons x l ih=>
  intro b st h;refine kasC_cons (nJ (hs x l.length b st h) ?_);rintro r st' s' ⟨e,z⟩;subst e;cases r with
  |done b'=>exact z
  |yield b'=>exact ih b' st' z
def mX(L:θ->θ->Bool)(left:Bool)(key x:θ):Bool:=if left then L x key else !(L key x)
theorem O7(C:kd prog w A κ s Ok L)(hk:kindOf st=κ){left:Bool}{key:θ}{arr:Array θ}{base i:Nat}{x:θ}(e:arr[base+i]?=some x)(hx:Ok x)(hy:Ok key){Q:Option Bool->aH->ζ->Prop}(h:Q (some (mX L left key x)) st s):
  kasC (model prog w) A E (wH left key arr base i) Q st s:=by
 unfold wH;refine Δ (jV e ?_);unfold mX at h;cases left with
 |true=>exact xf C hk hx hy h
 |false=>exact Δ (xf C hk hy hx (af h))
structure Bnd(B:Nat->Bool)(n k:Nat):Prop where
 le:k≤n
 lo:∀i,i<k->B i=true
 hi:∀i,k≤i->i<n->B i=false
theorem O6(C:kd prog w A κ s Ok L)(hk:kindOf st=κ){left:Bool}{key:θ}{arr:Array θ}{base n hint:Nat}(B:Nat->Bool)(hn:hint<n)(hy:Ok key)
  (cB:∀i,i<n->∃x,arr[base+i]?=some x/\Ok x/\mX L left key x=B i) (anti:∀i j,i≤j->j<n->B j=true->B i=true)
  {Q:Option Nat->aH->ζ->Prop} (q:∀k,Bnd B n k->Q (some k) st s):kasC (model prog w) A E (gZ left key arr base n hint) Q st s:=by
 have ask:∀{i:Nat} {R:Option Bool->aH->ζ->Prop},i<n->R (some (B i)) st s->kasC (model prog w) A E (wH left key arr base i) R st s:=fun {i R} hi h=>by
  obtain⟨x,e,hx,eb⟩:=cB i hi;refine O7 C hk e hx hy ?_;rw[eb];exact h
 have noB:∀i j,i≤j->j<n->B i=false->B j=false:=fun i j h1 h2 h3=>by
  cases h:B j with
  |false=>rfl
  |true=>
   rw[anti i j h1 h2 h] at h3;cases h3
 have fin:∀lo hi,lo≤hi->hi≤n->(∀i,i<lo->B i=true)->(∀i,hi≤i->i<n->B i=false)->kasC (model prog w) A E (u6 left key arr base n lo hi) Q st s:=by
  intro lo hi h1 h2 h3 h4;unfold u6;refine Δ (dO ?_);refine kZ (fun k (b:Option (Option Nat)×Nat×Nat) st'=>st'=st/\b.1=none/\b.2.1≤b.2.2/\b.2.2≤n/\b.2.2-b.2.1≤k/\(∀i,i<b.2.1->B i=true)/\(∀i,b.2.2≤i->i<n->B i=false)) ?_ ?_ _ _ _ ⟨rfl,rfl,h1,h2,by rw[b7];show hi-lo≤n-0;omega,h3,h4⟩
  ·rintro⟨r,lo,hi⟩ st' ⟨rfl,rfl,a1,a2,a3,a4,a5⟩;have e:lo=hi:=by
    have a1:lo≤hi:=a1;have a3:hi-lo≤0:=a3;omega
   subst e;exact af (q lo ⟨a2,a4,a5⟩)
  ·rintro x k ⟨r,lo,hi⟩ st' ⟨rfl,rfl,a1,a2,a3,a4,a5⟩;have a1:lo≤hi:=a1;have a2:hi≤n:=a2;have a3:hi-lo≤k+1:=a3;dsimp only;by_cases hge:lo≥hi
   ·rw[if_pos hge];have e:lo=hi:=by omega
    subst e;exact af ⟨rfl,af (q lo ⟨a2,a4,a5⟩)⟩
   ·rw[if_neg hge];have hm:lo+(hi-lo) / 2<hi:=by omega
    refine Δ (ask (by omega) ?_);dsimp only;cases hb:B (lo+(hi-lo) / 2) with
    |true=>
     rw[if_pos rfl];refine af ⟨rfl,rfl,rfl,?_,a2,?_,fun i hi'=>?_,a5⟩
     ·show lo+(hi-lo) / 2+1≤hi;omega
     ·show hi-(lo+(hi-lo) / 2+1)≤k;omega
     ·have hi':i<lo+(hi-lo) / 2+1:=hi';exact anti i _ (by omega) (by omega) hb
    |false=>
     rw[if_neg ak];refine af ⟨rfl,rfl,rfl,?_,?_,?_,a4,fun i h' hi'=>?_⟩
     ·show lo≤lo+(hi-lo) / 2;omega
     ·show lo+(hi-lo) / 2≤n;omega
     ·show lo+(hi-lo) / 2-lo≤k;omega
     ·exact noB _ i h' hi' hb
 rw[Bi];refine Δ (ask hn ?_);dsimp only;cases hB:B hint with
 |true=>
  rw[if_pos rfl];refine Δ (dO ?_);have out:∀la of,la<of->hint+la<n->B (hint+la)=true->(n-hint≤of∨(hint+of<n/\B (hint+of)=false))->kasC (model prog w) A E (u6 left key arr base n (hint+la+1) (hint+min of (n-hint))) Q st s:=by
   intro la of h1 h2 h3 h4;refine fin _ _ (by omega) (by omega) (fun i hi=>anti i _ (by omega) h2 h3) (fun i hi qR=>?_);rcases h4 with h4|⟨h4,h5⟩
   ·omega
   ·exact noB (hint+of) i (by omega) qR h5
  refine kZ (fun k (b:Option (Option Nat)×Nat×Nat) st'=>st'=st/\b.1=none/\b.2.1<b.2.2/\hint+b.2.1<n/\B (hint+b.2.1)=true/\n+1≤b.2.2+k) ?_ ?_ _ _ _ ⟨rfl,rfl,by decide,hn,(show B (hint+0)=true from hB),by rw[b7];show n+1≤1+(n-0);omega⟩
  ·rintro⟨r,la,of⟩ st' ⟨rfl,rfl,a1,a2,a3,a4⟩;have a4:n+1≤of+0:=a4;exact out la of a1 a2 a3 (.inl (by omega))
  ·rintro x k ⟨r,la,of⟩ st' ⟨rfl,rfl,a1,a2,a3,a4⟩;have a1:la<of:=a1;have a2:hint+la<n:=a2;have a4:n+1≤of+(k+1):=a4;dsimp only;by_cases hge:of≥n-hint
   ·rw[if_pos hge];exact af ⟨rfl,out la of a1 a2 a3 (.inl hge)⟩
   ·rw[if_neg hge];refine Δ (ask (by omega) ?_);dsimp only;cases hb:B (hint+of) with
    |true=>
     rw[if_neg (by decide)];exact af ⟨rfl,rfl,rfl,by show of<2*of+1;omega,by show hint+of<n;omega,hb,by show n+1≤2*of+1+k;omega⟩
    |false=>
     rw[if_pos (by decide)];exact af ⟨rfl,out la of a1 a2 a3 (.inr ⟨by omega,hb⟩)⟩
 |false=>
  rw[if_neg ak];refine Δ (dO ?_);have out:∀la of,la<of->la≤hint->B (hint-la)=false->(hint+1≤of∨(of≤hint/\B (hint-of)=true))->kasC (model prog w) A E (u6 left key arr base n (hint+1-min of (hint+1)) (hint-la)) Q st s:=by
   intro la of h1 h2 h3 h4;refine fin _ _ (by omega) (by omega) (fun i hi=>?_) (fun i hi qR=>noB _ i hi qR h3);rcases h4 with h4|⟨h4,h5⟩
   ·omega
   ·exact anti i (hint-of) (by omega) (by omega) h5
  refine kZ (fun k (b:Option (Option Nat)×Nat×Nat) st'=>st'=st/\b.1=none/\b.2.1<b.2.2/\b.2.1≤hint/\B (hint-b.2.1)=false/\n+1≤b.2.2+k) ?_ ?_ _ _ _ ⟨rfl,rfl,by decide,aQ _,(show B (hint-0)=false from hB),by rw[b7];show n+1≤1+(n-0);omega⟩
  ·rintro⟨r,la,of⟩ st' ⟨rfl,rfl,a1,a2,a3,a4⟩;have a4:n+1≤of+0:=a4;exact out la of a1 a2 a3 (.inl (by omega))
  ·rintro x k ⟨r,la,of⟩ st' ⟨rfl,rfl,a1,a2,a3,a4⟩;have a1:la<of:=a1;have a2:la≤hint:=a2;have a4:n+1≤of+(k+1):=a4;dsimp only;by_cases hge:of≥hint+1
   ·rw[if_pos hge];exact af ⟨rfl,out la of a1 a2 a3 (.inl hge)⟩
   ·rw[if_neg hge];refine Δ (ask (by omega) ?_);dsimp only;cases hb:B (hint-of) with
    |true=>
     rw[if_pos rfl];exact af ⟨rfl,out la of a1 a2 a3 (.inr ⟨by omega,hb⟩)⟩
    |false=>
     rw[if_neg ak];exact af ⟨rfl,rfl,rfl,by show of<2*of+1;omega,by show of≤hint;omega,hb,by show n+1≤2*of+1+k;omega⟩
end
end fV
namespace fV
open PySem PySem.W PyProof.Rows
def eL:Nat->SM Unit:=sortPriv% PySem.Builtin.setMinGallop
theorem uh(g:Nat):eL g=modify fun s=>r9 (kindOf s) (arrOf s) (pendingOf s) g (failedOf s):=rfl
def rJ:Array θ->Array θ->SM (Array θ):=sortPriv% PySem.Builtin.mergeLo
def gM(a b out:Array θ)(ia ib:Nat):Array θ:=out++a.extract ia a.size++b.extract ib b.size
def md(a b out:Array θ)(ia ib:Nat):Array θ:=out++b.extract ib b.size++a.extract ia a.size
theorem yP(a b:Array θ):rJ a b=(do
 rule "list.sort.merge-lo"
 let total:=a.size+b.size
 let mut out:Array θ:=#[←elem' b 0]
 let mut ia:=0
 let mut ib:=1
 if ib==b.size then return gM a b out ia ib
 if ia+1==a.size then return md a b out ia ib
 let mut minGallop:=gallopOf (←get)
 for _ in [0:total] do
  let mut acount:=0
  let mut bcount:=0
  for _ in [0:total] do
   let some bWins ←lt' (←elem' b ib) (←elem' a ia)|return gM a b out ia ib
   if bWins then
    out:=out.push (←elem' b ib);ib:=ib+1;bcount:=bcount+1;acount:=0
    if ib==b.size then return gM a b out ia ib
    if bcount≥minGallop then break
   else
    out:=out.push (←elem' a ia);ia:=ia+1;acount:=acount+1;bcount:=0
    if ia+1==a.size then return md a b out ia ib
    if acount≥minGallop then break
  rule "list.sort.gallop"
  minGallop:=minGallop+1
  for _ in [0:total] do
   if minGallop > 1 then minGallop:=minGallop-1
   eL minGallop
   let some k ←gZ false (←elem' b ib) a ia (a.size-ia) 0|return gM a b out ia ib
   acount:=k
   if k > 0 then
    out:=out++a.extract ia (ia+k);ia:=ia+k
    if ia+1==a.size then return md a b out ia ib
    if ia==a.size then return gM a b out ia ib
   out:=out.push (←elem' b ib);ib:=ib+1
   if ib==b.size then return gM a b out ia ib
   let some k ←gZ true (←elem' a ia) b ib (b.size-ib) 0|return gM a b out ia ib
   bcount:=k
   if k > 0 then
    out:=out++b.extract ib (ib+k);ib:=ib+k
    if ib==b.size then return gM a b out ia ib
   out:=out.push (←elem' a ia);ia:=ia+1
   if ia+1==a.size then return md a b out ia ib
   if acount<7&&bcount<7 then break
  minGallop:=minGallop+1
  eL minGallop
 unsupported "internal:list.sort.merge-bound"):=rfl
section
variable {L:θ->θ->Bool} {al bl:List θ}
abbrev Le(L:θ->θ->Bool)(x y:θ):Prop:=L y x=false
structure iK(L:θ->θ->Bool):Prop where
 ky:∀x y,L x y=true->L y x=false
 fS:∀x y z,Le L x y->Le L y z->Le L x z
structure MI(L:θ->θ->Bool)(al bl out:List θ)(ia ib:Nat):Prop where
 perm:(out++(al.drop ia++bl.drop ib)).Perm (al++bl)
 fy:out.Pairwise (Le L)
 low:∀x∈out,∀y∈al.drop ia++bl.drop ib,Le L x y
theorem JE(xs:List θ)(i k:Nat):xs.drop i=(xs.drop i).take k++xs.drop (i+k):=by
 rw[←kr];exact (bC k (xs.drop i)).symm
theorem MI.uW{out:List θ}{ia ib:Nat}(h:MI L al bl out ia ib)(hs:al.Pairwise (Le L))(k:Nat)(hx:∀x∈(al.drop ia).take k,∀y∈bl.drop ib,Le L x y):MI L al bl (out++(al.drop ia).take k) (ia+k) ib:=by
 have e:=JE al ia k;have hs':(al.drop ia).Pairwise (Le L):=hs.sublist (gH _ _);rw[e,Ψ] at hs';refine⟨?_,?_,fun x hx' y hy=>?_⟩
 ·have:=h.perm;rw[e] at this;simpa [aa] using this
 ·rw[Ψ];refine⟨h.fy,hs'.1,fun x hx' y hy=>h.low x hx' y (aM _ (dP hy))⟩
 ·rcases ar.mp hx' with z|z
  ·refine h.low x z y ?_;rw[e];rcases ar.mp hy with z2|z2
   ·exact aM _ (aq _ z2)
   ·exact aq _ z2
  ·rcases ar.mp hy with z2|z2
   ·exact hs'.2.2 x z y z2
   ·exact hx x z y z2
theorem MI.uV{out:List θ}{ia ib:Nat}(h:MI L al bl out ia ib)(hs:bl.Pairwise (Le L))(k:Nat)(hx:∀x∈(bl.drop ib).take k,∀y∈al.drop ia,Le L x y):MI L al bl (out++(bl.drop ib).take k) ia (ib+k):=by
 have e:=JE bl ib k;have hs':(bl.drop ib).Pairwise (Le L):=hs.sublist (gH _ _);rw[e,Ψ] at hs';refine⟨?_,?_,fun x hx' y hy=>?_⟩
 ·refine cW ?_ h.perm;have e2:al.drop ia++bl.drop ib=al.drop ia++((bl.drop ib).take k++bl.drop (ib+k)):=congrArg (al.drop ia++·) e;rw[e2,aa];refine cG _ ?_;rw[←aa,←aa];exact cA _ jc
 ·rw[Ψ];refine⟨h.fy,hs'.1,fun x hx' y hy=>h.low x hx' y (aq _ (dP hy))⟩
 ·rcases ar.mp hx' with z|z
  ·refine h.low x z y ?_;rw[e];rcases ar.mp hy with z2|z2
   ·exact aM _ z2
   ·exact aq _ (aq _ z2)
  ·rcases ar.mp hy with z2|z2
   ·exact hx x z y z2
   ·exact hs'.2.2 x z y z2
def Res(L:θ->θ->Bool)(al bl r:List θ):Prop:=r.Perm (al++bl)/\r.Pairwise (Le L)
theorem MI.done{out:List θ}{ia ib:Nat}(h:MI L al bl out ia ib)(ha:al.Pairwise (Le L))(hb:bl.Pairwise (Le L))(he:al.length≤ia∨bl.length≤ib):Res L al bl (out++al.drop ia++bl.drop ib):=by
 refine⟨by have:=h.perm;rwa [←aa] at this,?_⟩;have h1:(al.drop ia++bl.drop ib).Pairwise (Le L):=by
  rcases he with he|he
  ·rw[ft he,bw];exact hb.sublist (gH _ _)
  ·rw[ft he,cV];exact ha.sublist (gH _ _)
 rw[aa,Ψ];exact⟨h.fy,h1,h.low⟩
theorem MI.last{out:List θ}{ia ib:Nat}(O:iK L)(h:MI L al bl out ia ib)(hb:bl.Pairwise (Le L)){z:θ}(he:al.drop ia=[z])(hz:∀y∈bl,L y z=true):Res L al bl (out++bl.drop ib++al.drop ia):=by
 refine⟨cW ?_ h.perm,?_⟩
 ·rw[aa];exact cG _ jc
 ·rw[aa,Ψ];refine⟨h.fy,?_,fun x hx y hy=>h.low x hx y ?_⟩
  ·rw[he,Ψ];refine⟨hb.sublist (gH _ _),aT _ _,fun x hx y hy=>?_⟩;rw[ah.mp hy];exact O.ky _ _ (hz x (dq hx))
  ·rcases ar.mp hy with q|q
   ·exact aq _ q
   ·exact aM _ q
end
abbrev GS:=Option (Array θ)×Array θ×Nat×Nat×Nat×Nat×Nat
abbrev MS:=Option (Array θ)×Array θ×Nat×Nat×Nat×Nat
abbrev HS:=Option (Array θ)×Array θ×Nat×Nat×Nat
def lo1(a b:Array θ)(mg:Nat)(t:MS):SM (ForInStep MS):=do
 let x ←elem' b t.2.2.2.1
 let y ←elem' a t.2.2.1
 let r ←lt' x y
 match r with
 |some bWins=>
  if bWins=true then do
   let x ←elem' b t.2.2.2.1
   if (t.2.2.2.1+1==b.size)=true then pure (.done (some (gM a b (t.2.1.push x) t.2.2.1 (t.2.2.2.1+1)),t.2.1.push x,t.2.2.1,t.2.2.2.1+1,0,t.2.2.2.2.2+1))
   else if t.2.2.2.2.2+1≥mg then pure (.done (none,t.2.1.push x,t.2.2.1,t.2.2.2.1+1,0,t.2.2.2.2.2+1))
   else pure (.yield (none,t.2.1.push x,t.2.2.1,t.2.2.2.1+1,0,t.2.2.2.2.2+1))
  else do
   let y ←elem' a t.2.2.1
   if (t.2.2.1+1+1==a.size)=true then pure (.done (some (md a b (t.2.1.push y) (t.2.2.1+1) t.2.2.2.1),t.2.1.push y,t.2.2.1+1,t.2.2.2.1,t.2.2.2.2.1+1,0))
   else if t.2.2.2.2.1+1≥mg then pure (.done (none,t.2.1.push y,t.2.2.1+1,t.2.2.2.1,t.2.2.2.2.1+1,0))
   else pure (.yield (none,t.2.1.push y,t.2.2.1+1,t.2.2.2.1,t.2.2.2.2.1+1,0))
 |_=>pure (.done (some (gM a b t.2.1 t.2.2.1 t.2.2.2.1),t.2.1,t.2.2.1,t.2.2.2.1,t.2.2.2.2.1,t.2.2.2.2.2))
def Gh(a b out:Array θ)(ia ib mg ac bc:Nat):SM (ForInStep GS):=do
 let y ←elem' a ia
 if (ia+1+1==a.size)=true then pure (.done (some (md a b (out.push y) (ia+1) ib),out.push y,ia+1,ib,mg,ac,bc))
 else if (decide (ac<7)&&decide (bc<7))=true then pure (.done (none,out.push y,ia+1,ib,mg,ac,bc))
 else pure (.yield (none,out.push y,ia+1,ib,mg,ac,bc))
def Gi(a b out:Array θ)(ia ib mg ac bc0:Nat):SM (ForInStep GS):=do
 let x ←elem' b ib
 if (ib+1==b.size)=true then pure (.done (some (gM a b (out.push x) ia (ib+1)),out.push x,ia,ib+1,mg,ac,bc0))
 else do
  let y ←elem' a ia
  let r ←gZ true y b (ib+1) (b.size-(ib+1)) 0
  match r with
  |some k=>
   if k > 0 then
    if (ib+1+k==b.size)=true then pure (.done (some (gM a b (out.push x++b.extract (ib+1) (ib+1+k)) ia (ib+1+k)),out.push x++b.extract (ib+1) (ib+1+k),ia,ib+1+k,mg,ac,k))
    else Gh a b (out.push x++b.extract (ib+1) (ib+1+k)) ia (ib+1+k) mg ac k
   else Gh a b (out.push x) ia (ib+1) mg ac k
  |_=>pure (.done (some (gM a b (out.push x) ia (ib+1)),out.push x,ia,ib+1,mg,ac,bc0))
def u3(a b:Array θ)(mg:Nat)(t:GS):SM (ForInStep GS):=do
 eL mg
 let x ←elem' b t.2.2.2.1
 let r ←gZ false x a t.2.2.1 (a.size-t.2.2.1) 0
 match r with
 |some k=>
  if k > 0 then
   if (t.2.2.1+k+1==a.size)=true then pure (.done (some (md a b (t.2.1++a.extract t.2.2.1 (t.2.2.1+k)) (t.2.2.1+k) t.2.2.2.1),t.2.1++a.extract t.2.2.1 (t.2.2.1+k),t.2.2.1+k,t.2.2.2.1,mg,k,t.2.2.2.2.2.2))
   else if (t.2.2.1+k==a.size)=true then pure (.done (some (gM a b (t.2.1++a.extract t.2.2.1 (t.2.2.1+k)) (t.2.2.1+k) t.2.2.2.1),t.2.1++a.extract t.2.2.1 (t.2.2.1+k),t.2.2.1+k,t.2.2.2.1,mg,k,t.2.2.2.2.2.2))
   else Gi a b (t.2.1++a.extract t.2.2.1 (t.2.2.1+k)) (t.2.2.1+k) t.2.2.2.1 mg k t.2.2.2.2.2.2
  else Gi a b t.2.1 t.2.2.1 t.2.2.2.1 mg k t.2.2.2.2.2.2
 |_=>pure (.done (some (gM a b t.2.1 t.2.2.1 t.2.2.2.1),t.2.1,t.2.2.1,t.2.2.2.1,mg,t.2.2.2.2.2.1,t.2.2.2.2.2.2))
def Gj(a b:Array θ)(u:HS):SM (ForInStep HS):=do
 let t ←forIn [0:a.size+b.size] ((none,u.2.1,u.2.2.1,u.2.2.2.1,0,0):MS) fun _ t=>lo1 a b u.2.2.2.2 t
 match t.1 with
 |some r=>pure (.done (some r,t.2.1,t.2.2.1,t.2.2.2.1,u.2.2.2.2))
 |none=>do
  liftM (rule "list.sort.gallop")
  let v ←forIn [0:a.size+b.size] ((none,t.2.1,t.2.2.1,t.2.2.2.1,u.2.2.2.2+1,t.2.2.2.2.1,t.2.2.2.2.2):GS) fun _ v=>
   if v.2.2.2.2.1 > 1 then u3 a b (v.2.2.2.2.1-1) v else u3 a b v.2.2.2.2.1 v
  match v.1 with
  |some r=>pure (.done (some r,v.2.1,v.2.2.1,v.2.2.2.1,v.2.2.2.2.1))
  |none=>do
   eL (v.2.2.2.2.1+1)
   pure (.yield (none,v.2.1,v.2.2.1,v.2.2.2.1,v.2.2.2.2.1+1))
theorem fz{α β:Type}{m m':SM α}{f f':α->SM β}(h:m=m')(h2:∀a,f a=f' a):m >>= f=m' >>= f':=by
 rw[h,funext h2]
theorem qj{β:Type}{n:Nat}{b:β}{f f':Nat->β->SM (ForInStep β)}(h:∀x t,f x t=f' x t):(forIn [0:n] b f:SM β)=forIn [0:n] b f':=by
 rw[funext fun x=>funext (h x)]
theorem we(a b:Array θ):rJ a b=(do
 liftM (rule "list.sort.merge-lo")
 let x ←elem' b 0
 if (1==b.size)=true then pure (gM a b #[x] 0 1)
 else if (0+1==a.size)=true then pure (md a b #[x] 0 1)
 else do
  let g ←get
  let u ←forIn [0:a.size+b.size] ((none,#[x],0,1,gallopOf g):HS) fun _ u=>Gj a b u
  match u.1 with
  |some r=>pure r
  | none=>unsupported "internal:list.sort.merge-bound"):=by
 rw[yP]
 refine congrArg (fun z=>(liftM (rule "list.sort.merge-lo"):SM Unit) >>= z) (funext fun _=>?_)
 refine congrArg (fun z=>elem' b 0 >>= z) (funext fun x=>?_)
 dsimp only
 refine congrArg (fun z=>if (1==b.size)=true then _ else z) ?_
 refine congrArg (fun z=>if (0+1==a.size)=true then _ else z) ?_
 refine congrArg (fun z=>(get:SM aH) >>= z) (funext fun g=>?_)
 refine fz (qj fun _ u=>?_) (fun u=>by obtain⟨r,u⟩:=u;cases r<;>rfl)
 unfold Gj
 refine fz (qj fun _ t=>?_) (fun t=>?_)
 ·rfl
 obtain⟨r,t⟩:=t
 cases r with
 |some r=>rfl
 |none=>
  dsimp only
  refine fz rfl fun _=>?_
  refine fz (qj fun _ v=>?_) (fun v=>?_)
  ·by_cases h:v.2.2.2.2.1 > 1
   ·rw[if_pos h,if_pos h]
    unfold u3
    refine fz rfl fun _=>?_
    refine fz rfl fun x=>?_
    refine fz rfl fun r=>?_
    cases r with
    |none=>rfl
    |some k=>
     dsimp only
     by_cases h1:k > 0
     ·rw[if_pos h1,if_pos h1]
      rfl
     ·rw[if_neg h1,if_neg h1]
      rfl
   ·rw[if_neg h,if_neg h]
    unfold u3
    refine fz rfl fun _=>?_
    refine fz rfl fun x=>?_
    refine fz rfl fun r=>?_
    cases r with
    |none=>rfl
    |some k=>
     dsimp only
     by_cases h1:k > 0
     ·rw[if_pos h1,if_pos h1]
      rfl
     ·rw[if_neg h1,if_neg h1]
      rfl
  ·obtain⟨r,v⟩:=v
   cases r<;>rfl
end fV
namespace fV
open PySem PySem.W PyProof.Rows
section
variable {prog:aw} {w:aG} {A:aR} {E:δ->ζ->Prop} {κ:cv} {s:ζ} {Ok:θ->Prop} {L:θ->θ->Bool} {st:aH}
def sl(arr:Array θ)(base n:Nat):List θ:=(arr.toList.drop base).take n
theorem O5{arr:Array θ}{base n:Nat}(h:base+n≤arr.size):(sl arr base n).length=n:=by
 unfold sl;rw[bA,aV,aS];lia
theorem O4{arr:Array θ}{base n i:Nat}(hi:i<n):(sl arr base n)[i]?=arr[base+i]?:=by
 unfold sl;rw[fQ hi,gv,bf]
theorem iK.yz(O:iK L)(x:θ):L x x=false:=by
 cases h:L x x with
 |false=>rfl
 |true=>
  have:=O.ky x x h;rw[h] at this;cases this
theorem pw_get{xs:List θ}(h:xs.Pairwise (Le L))(O:iK L){i j:Nat}{x y:θ}(hij:i≤j)(hx:xs[i]?=some x)(hy:xs[j]?=some y):Le L x y:=by
 obtain⟨h1,rfl⟩:=Φ.mp hx;obtain⟨h2,rfl⟩:=Φ.mp hy;rcases Nat.lt_or_eq_of_le hij with q|q
 ·exact cM.mp h i j h1 h2 q
 ·subst q;exact O.yz _
theorem vP(C:kd prog w A κ s Ok L)(O:iK L)(hk:kindOf st=κ){left:Bool}{key:θ}{arr:Array θ}{base n hint:Nat}(hn:hint<n)(hz:base+n≤arr.size)(hy:Ok key)(cB:∀x∈sl arr base n,Ok x)(hs:(sl arr base n).Pairwise (Le L))
  {Q:Option Nat->aH->ζ->Prop} (q:∀k,k≤n->(∀z∈(sl arr base n).take k,mX L left key z=true)->(∀z∈(sl arr base n).drop k,mX L left key z=false)->Q (some k) st s):kasC (model prog w) A E (gZ left key arr base n hint) Q st s:=by
 have hl:=O5 hz;have get:∀i,i<n->∃x,arr[base+i]?=some x/\(sl arr base n)[i]?=some x/\x∈sl arr base n:=fun i hi=>by
  have h1:i<(sl arr base n).length:=by lia
  have h2:(sl arr base n)[i]?=some (sl arr base n)[i]:=Θ h1;exact⟨_,by rw[←O4 hi];exact h2,h2,eH h1⟩
 refine O6 C hk (fun i=>((sl arr base n)[i]?).any (mX L left key)) hn hy (fun i hi=>?_) (fun i j hij hj hb=>?_) fun k bd=>?_
 ·obtain⟨x,e1,e2,hm⟩:=get i hi;exact⟨x,e1,cB x hm,by rw[e2];rfl⟩
 ·obtain⟨x,_,e2,hm⟩:=get i (by lia);obtain⟨y,_,e3,hm2⟩:=get j hj;have hb:((sl arr base n)[j]?).any (mX L left key)=true:=hb;show ((sl arr base n)[i]?).any (mX L left key)=true;rw[e3] at hb;rw[e2];have hb:mX L left key y=true:=hb;show mX L left key x=true;have hxy:=pw_get hs O hij e2 e3;unfold mX at hb ⊢;cases left with
  |true=>
   have hb:L y key=true:=hb;show L x key=true;cases h:L x key with
   |true=>rfl
   |false=>
    have:=O.fS key x y h hxy;have this:L y key=false:=this;rw[hb] at this;cases this
  |false=>
   have hb:(!(L key y))=true:=hb;show (!(L key x))=true;rw[gJ] at hb ⊢;exact O.fS x y key hxy hb
 ·refine q k bd.le (fun z hz'=>?_) fun z hz'=>?_
  ·obtain⟨i,hi,e⟩:=ed hz';rw[bA] at hi;have h1:=bd.lo i (by lia);have h1:((sl arr base n)[i]?).any (mX L left key)=true:=h1;have e2:(sl arr base n)[i]?=some z:=by
    have:=Θ (l:=(sl arr base n).take k) (i:=i) (by rw[bA];lia);rw[e,fQ (by lia)] at this;exact this
   rw[e2] at h1;exact h1
  ·obtain⟨i,hi,e⟩:=ed hz';rw[aV] at hi;have h1:=bd.hi (k+i) (by lia) (by lia);have h1:((sl arr base n)[k+i]?).any (mX L left key)=false:=h1;have e2:(sl arr base n)[k+i]?=some z:=by
    have:=Θ (l:=(sl arr base n).drop k) (i:=i) (by rw[aV];lia);rw[e,gv] at this;exact this
   rw[e2] at h1;exact h1
def eT(st st':aH):Prop:=kindOf st'=kindOf st/\arrOf st'=arrOf st/\pendingOf st'=pendingOf st/\failedOf st'=failedOf st
theorem eT.rf:eT st st:=⟨rfl,rfl,rfl,rfl⟩
theorem eT.tr{s1 s2 s3:aH}(h:eT s1 s2)(h':eT s2 s3):eT s1 s3:=⟨h'.1.trans h.1,h'.2.1.trans h.2.1,h'.2.2.1.trans h.2.2.1,h'.2.2.2.trans h.2.2.2⟩
theorem AK{g:Nat}{Q:Unit->aH->ζ->Prop}(h:∀st',eT st st'->Q () st' s):kasC (model prog w) A E (eL g) Q st s:=by
 rw[uh];exact gX (h _ ⟨rfl,rfl,rfl,rfl⟩)
structure MH(prog:aw)(w:aG)(A:aR)(κ:cv)(s:ζ)(Ok:θ->Prop)(L:θ->θ->Bool)(a b:Array θ):Prop where
 C:kd prog w A κ s Ok L
 O:iK L
 oa:∀x∈a.toList,Ok x
 ob:∀x∈b.toList,Ok x
 sa:a.toList.Pairwise (Le L)
 sb:b.toList.Pairwise (Le L)
theorem oX{a:Array θ}{i:Nat}(h:i<a.size):∃x,a[i]?=some x/\a.toList.drop i=x::a.toList.drop (i+1)/\x∈a.toList:=by
 have h':i<a.toList.length:=by rw[aS];exact h
 refine⟨a[i],cQ h,?_,?_⟩
 ·rw[cO h',sg]
 ·exact mH.mpr (t5 h)
theorem um(O:iK L){xs ys:List θ}{x:θ}(h:xs.Pairwise (Le L))(e:xs=x::ys):∀z∈xs,Le L x z:=by
 subst e;intro z hz;rcases ay.mp hz with rfl|hz
 ·exact O.yz _
 ·exact (b5.mp h).1 z hz
theorem Af{xs ys:List θ}{x:θ}(e:xs=x::ys):xs.take 1=[x]:=by
 subst e;rfl
theorem xD(a:Array θ)(i j:Nat):(a.extract i j).toList=(a.toList.drop i).take (j-i):=by
 rw[Array.toList_extract,List.extract_eq_drop_take]
theorem Ae(a:Array θ)(i:Nat):(a.extract i a.size).toList=a.toList.drop i:=by
 rw[xD,cS];rw[aV,aS];exact υ _
theorem O3(a b out:Array θ)(ia ib:Nat):(gM a b out ia ib).toList=out.toList++a.toList.drop ia++b.toList.drop ib:=by
 unfold gM;rw[df,df,Ae,Ae]
theorem O2(a b out:Array θ)(ia ib:Nat):(md a b out ia ib).toList=out.toList++b.toList.drop ib++a.toList.drop ia:=by
 unfold md;rw[df,df,Ae,Ae]
end
end fV
namespace fV
open PySem PySem.W PyProof.Rows
section
variable {prog:aw} {w:aG} {A:aR} {E:δ->ζ->Prop} {κ:cv} {s:ζ} {Ok:θ->Prop} {L:θ->θ->Bool} {st:aH} {a b:Array θ}
def rem(a b:Array θ)(ia ib:Nat):Nat:=(a.size-ia)+(b.size-ib)
def pZ(L:θ->θ->Bool)(a b out:Array θ)(ia ib:Nat):Prop:=ia+1<a.size/\ib<b.size/\MI L a.toList b.toList out.toList ia ib
def PR(L:θ->θ->Bool)(a b:Array θ)(R0:Nat)(r:Option (Array θ))(out:Array θ)(ia ib:Nat):Prop:=match r with
 |some res=>Res L a.toList b.toList res.toList
 |none=>pZ L a b out ia ib/\rem a b ia ib<R0
def oF(L:θ->θ->Bool)(a b:Array θ):Prop:=∀z,a[a.size-1]?=some z->∀y∈b.toList,L y z=true
theorem xC(H:MH prog w A κ s Ok L a b){out:Array θ}{ia ib:Nat}(h:MI L a.toList b.toList out.toList ia ib)(he:a.size≤ia∨b.size≤ib):Res L a.toList b.toList (gM a b out ia ib).toList:=by
 rw[O3];exact h.done H.sa H.sb (by rw[aS,aS];exact he)
theorem Ad(H:MH prog w A κ s Ok L a b)(hL:oF L a b){out:Array θ}{ia ib:Nat}(h:MI L a.toList b.toList out.toList ia ib)(he:ia+1=a.size):Res L a.toList b.toList (md a b out ia ib).toList:=by
 rw[O2];obtain⟨x,e1,e2,_⟩:=oX (a:=a) (i:=ia) (by lia);have e3:a.toList.drop (ia+1)=[]:=ft (by rw[aS];lia);rw[e3] at e2;exact h.last H.O H.sb e2 (hL x (by rw[show a.size-1=ia by lia];exact e1))
theorem Ac(out:Array θ)(x:θ):(out.push x).toList=out.toList++[x]:=ow
theorem CV(H:MH prog w A κ s Ok L a b){out:Array θ}{ia ib:Nat}{y:θ}(h:MI L a.toList b.toList out.toList ia ib)(e:a.toList.drop ia=y::a.toList.drop (ia+1))(hx:∀z∈b.toList.drop ib,Le L y z):MI L a.toList b.toList (out.push y).toList (ia+1) ib:=by
 have:=h.uW H.sa 1 (by rw[Af e];intro x hx';rw[ah.mp hx'];exact hx);rw[Af e] at this;rw[Ac];exact this
theorem yt(H:MH prog w A κ s Ok L a b){out:Array θ}{ia ib:Nat}{x:θ}(h:MI L a.toList b.toList out.toList ia ib)(e:b.toList.drop ib=x::b.toList.drop (ib+1))(hx:∀z∈a.toList.drop ia,Le L x z):MI L a.toList b.toList (out.push x).toList ia (ib+1):=by
 have:=h.uV H.sb 1 (by rw[Af e];intro z hz;rw[ah.mp hz];exact hx);rw[Af e] at this;rw[Ac];exact this
theorem uF{xs:List θ}(h:xs.Pairwise (Le L))(i:Nat):(xs.drop i).Pairwise (Le L):=h.sublist (gH _ _)
def PMs(L:θ->θ->Bool)(a b:Array θ)(R0:Nat)(r:ForInStep MS):Prop:=match r with
 |.done v=>PR L a b R0 v.1 v.2.1 v.2.2.1 v.2.2.2.1
 |.yield v=>v.1=none/\PR L a b R0 none v.2.1 v.2.2.1 v.2.2.2.1
theorem O1(H:MH prog w A κ s Ok L a b)(hL:oF L a b)(hk:kindOf st=κ){mg ac bc ia ib:Nat}{out:Array θ}(h:pZ L a b out ia ib):
  kasC (model prog w) A E (lo1 a b mg (none,out,ia,ib,ac,bc)) (fun r st' s'=>s'=s/\st'=st/\PMs L a b (rem a b ia ib) r) st s:=by
 obtain⟨h1,h2,h3⟩:=h;obtain⟨x,ex,dx,mx⟩:=oX h2;obtain⟨y,ey,dy,my⟩:=oX (a:=a) (i:=ia) (by lia);unfold lo1;dsimp only;refine Δ (jV ex (Δ (jV ey (Δ (xf H.C hk (H.ob x mx) (H.oa y my) ?_)))));dsimp only;cases hl:L x y with
 |true=>
  rw[if_pos rfl];have h4:MI L a.toList b.toList (out.push x).toList ia (ib+1):=yt H h3 dx fun z hz=>H.O.fS x y z (H.O.ky _ _ hl) (um H.O (uF H.sa ia) dy z hz);refine Δ (jV ex ?_);by_cases e:(ib+1==b.size)=true
  ·rw[if_pos e];rw[beq_iff_eq] at e;exact af ⟨rfl,rfl,xC H h4 (.inr (by lia))⟩
  ·rw[if_neg e];have e':ib+1≠b.size:=fun z=>e (by rw[z,beq_self_eq_true]);have pr:PR L a b (rem a b ia ib) none (out.push x) ia (ib+1):=⟨⟨h1,by lia,h4⟩,by unfold rem;lia⟩;by_cases g:bc+1≥mg
   ·rw[if_pos g];exact af ⟨rfl,rfl,pr⟩
   ·rw[if_neg g];exact af ⟨rfl,rfl,rfl,pr⟩
 |false=>
  rw[if_neg ak];have h4:MI L a.toList b.toList (out.push y).toList (ia+1) ib:=CV H h3 dy fun z hz=>H.O.fS y x z hl (um H.O (uF H.sb ib) dx z hz);refine Δ (jV ey ?_);by_cases e:(ia+1+1==a.size)=true
  ·rw[if_pos e];rw[beq_iff_eq] at e;exact af ⟨rfl,rfl,Ad H hL h4 e⟩
  ·rw[if_neg e];have e':ia+1+1≠a.size:=fun z=>e (by rw[z,beq_self_eq_true]);have pr:PR L a b (rem a b ia ib) none (out.push y) (ia+1) ib:=⟨⟨by lia,h2,h4⟩,by unfold rem;lia⟩;by_cases g:ac+1≥mg
   ·rw[if_pos g];exact af ⟨rfl,rfl,pr⟩
   ·rw[if_neg g];exact af ⟨rfl,rfl,rfl,pr⟩
def pg(L:θ->θ->Bool)(a b:Array θ)(R0:Nat)(r:ForInStep GS):Prop:=match r with
 |.done v=>PR L a b R0 v.1 v.2.1 v.2.2.1 v.2.2.2.1
 |.yield v=>v.1=none/\PR L a b R0 none v.2.1 v.2.2.1 v.2.2.2.1
theorem JD(H:MH prog w A κ s Ok L a b)(hL:oF L a b){R0 mg ac bc ia ib:Nat}{out:Array θ}{y:θ}(h:pZ L a b out ia ib)(hr:rem a b ia ib≤R0)(ey:a[ia]?=some y)(hy:∀z∈b.toList.drop ib,Le L y z):
  kasC (model prog w) A E (Gh a b out ia ib mg ac bc) (fun r st' s'=>s'=s/\st'=st/\pg L a b R0 r) st s:=by
 obtain⟨h1,h2,h3⟩:=h;obtain⟨y',ey',dy,my⟩:=oX (a:=a) (i:=ia) (by lia);rw[ey] at ey';cases ey';have h4:=CV H h3 dy hy;unfold rem at hr;unfold Gh;refine Δ (jV ey ?_);by_cases e:(ia+1+1==a.size)=true
 ·rw[if_pos e];rw[beq_iff_eq] at e;exact af ⟨rfl,rfl,Ad H hL h4 e⟩
 ·rw[if_neg e];have e':ia+1+1≠a.size:=fun z=>e (by rw[z,beq_self_eq_true]);have pr:PR L a b R0 none (out.push y) (ia+1) ib:=⟨⟨by lia,h2,h4⟩,by unfold rem;lia⟩;by_cases g:(decide (ac<7)&&decide (bc<7))=true
  ·rw[if_pos g];exact af ⟨rfl,rfl,pr⟩
  ·rw[if_neg g];exact af ⟨rfl,rfl,rfl,pr⟩
theorem vO(arr:Array θ)(i:Nat):sl arr i (arr.size-i)=arr.toList.drop i:=by
 unfold sl;rw[cS];rw[aV,aS];exact υ _
theorem JC(out arr:Array θ)(i k:Nat):(out++arr.extract i (i+k)).toList=out.toList++(arr.toList.drop i).take k:=by
 rw[df,xD,show i+k-i=k by lia]
theorem JB(H:MH prog w A κ s Ok L a b)(hL:oF L a b)(hk:kindOf st=κ){R0 mg ac bc ia ib:Nat}{out:Array θ}{x:θ}(h:pZ L a b out ia ib)(hr:rem a b ia ib≤R0)(ex:b[ib]?=some x)(hx:∀z∈a.toList.drop ia,Le L x z):
  kasC (model prog w) A E (Gi a b out ia ib mg ac bc) (fun r st' s'=>s'=s/\st'=st/\pg L a b R0 r) st s:=by
 obtain⟨h1,h2,h3⟩:=h;obtain⟨x',ex',dx,mx⟩:=oX h2;rw[ex] at ex';cases ex';obtain⟨y,ey,dy,my⟩:=oX (a:=a) (i:=ia) (by lia);have h4:=yt H h3 dx hx;unfold rem at hr;unfold Gi;refine Δ (jV ex ?_);by_cases e:(ib+1==b.size)=true
 ·rw[if_pos e];rw[beq_iff_eq] at e;exact af ⟨rfl,rfl,xC H h4 (.inr (by lia))⟩
 rw[if_neg e];have e':ib+1≠b.size:=fun z=>e (by rw[z,beq_self_eq_true]);refine Δ (jV ey (Δ (vP H.C H.O hk (by lia) (by lia) (H.oa y my) (fun z hz=>?_) ?_ fun k hkn k1 k2=>?_)))
 ·rw[vO] at hz;exact H.ob z (dq hz)
 ·rw[vO];exact uF H.sb _
 rw[vO] at k1 k2;rw[kr] at k2;dsimp only;by_cases hk0:k > 0
 ·rw[if_pos hk0];have h5:MI L a.toList b.toList (out.push x++b.extract (ib+1) (ib+1+k)).toList ia (ib+1+k):=by
   rw[JC];exact h4.uV H.sb k fun z hz y' hy'=>H.O.fS z y y' (H.O.ky _ _ (k1 z hz)) (um H.O (uF H.sa ia) dy y' hy')
  by_cases e2:(ib+1+k==b.size)=true
  ·rw[if_pos e2];rw[beq_iff_eq] at e2;exact af ⟨rfl,rfl,xC H h5 (.inr (by lia))⟩
  ·rw[if_neg e2];have e2':ib+1+k≠b.size:=fun z=>e2 (by rw[z,beq_self_eq_true]);exact JD H hL ⟨h1,by lia,h5⟩ (by unfold rem;lia) ey fun z hz=>k2 z hz
 ·rw[if_neg hk0];have k0:k=0:=by lia
  subst k0;exact JD H hL ⟨h1,by lia,h4⟩ (by unfold rem;lia) ey fun z hz=>k2 z hz
theorem O0(H:MH prog w A κ s Ok L a b)(hL:oF L a b)(hk:kindOf st=κ){mg m0 ac bc ia ib:Nat}{out:Array θ}(h:pZ L a b out ia ib):
  kasC (model prog w) A E (u3 a b mg (none,out,ia,ib,m0,ac,bc)) (fun r st' s'=>s'=s/\eT st st'/\pg L a b (rem a b ia ib) r) st s:=by
 obtain⟨h1,h2,h3⟩:=h;obtain⟨x,ex,dx,mx⟩:=oX h2;unfold u3;dsimp only;refine Δ (AK fun st' sm=>?_);have hk':kindOf st'=κ:=sm.1.trans hk;have back:∀{m:SM (ForInStep GS)},kasC (model prog w) A E m (fun r st'' s'=>s'=s/\st''=st'/\pg L a b (rem a b ia ib) r) st' s->kasC (model prog w) A E m (fun r st'' s'=>s'=s/\eT st st''/\pg L a b (rem a b ia ib) r) st' s:=fun hm=>nJ hm fun r st'' s' zz=>by obtain⟨z1,z2,z3⟩:=zz;exact⟨z1,by rw[z2];exact sm,z3⟩
 refine Δ (jV ex (Δ (vP H.C H.O hk' (by lia) (by lia) (H.ob x mx) (fun z hz=>?_) ?_ fun k hkn k1 k2=>?_)))
 ·rw[vO] at hz;exact H.oa z (dq hz)
 ·rw[vO];exact uF H.sa _
 rw[vO] at k1 k2;rw[kr] at k2;have k1':∀z∈(a.toList.drop ia).take k,L x z=false:=fun z hz=>by
  have:(!(L x z))=true:=k1 z hz;rwa [gJ] at this
 have k2':∀z∈a.toList.drop (ia+k),Le L x z:=fun z hz=>by
  have:(!(L x z))=false:=k2 z hz;rw[iH] at this;exact H.O.ky _ _ this
 dsimp only;by_cases hk0:k > 0
 ·rw[if_pos hk0];have h5:MI L a.toList b.toList (out++a.extract ia (ia+k)).toList (ia+k) ib:=by
   rw[JC];exact h3.uW H.sa k fun z hz y' hy'=>H.O.fS z x y' (k1' z hz) (um H.O (uF H.sb ib) dx y' hy')
  by_cases e:(ia+k+1==a.size)=true
  ·rw[if_pos e];rw[beq_iff_eq] at e;exact af ⟨rfl,sm,Ad H hL h5 e⟩
  rw[if_neg e];have e':ia+k+1≠a.size:=fun z=>e (by rw[z,beq_self_eq_true]);by_cases e2:(ia+k==a.size)=true
  ·rw[if_pos e2];rw[beq_iff_eq] at e2;exact af ⟨rfl,sm,xC H h5 (.inl (by lia))⟩
  rw[if_neg e2];have e2':ia+k≠a.size:=fun z=>e2 (by rw[z,beq_self_eq_true]);exact back (JB H hL hk' ⟨by lia,h2,h5⟩ (by unfold rem;lia) ex k2')
 ·rw[if_neg hk0];have k0:k=0:=by lia
  subst k0;exact back (JB H hL hk' ⟨h1,h2,h3⟩ (υ _) ex k2')
def PHs(L:θ->θ->Bool)(a b:Array θ)(R0:Nat)(r:ForInStep HS):Prop:=match r with
 |.done v=>∃res,v.1=some res/\Res L a.toList b.toList res.toList
 |.yield v=>v.1=none/\pZ L a b v.2.1 v.2.2.1 v.2.2.2.1/\rem a b v.2.2.1 v.2.2.2.1<R0
theorem OZ(H:MH prog w A κ s Ok L a b)(hL:oF L a b)(hk:kindOf st=κ){mg ia ib:Nat}{out:Array θ}(h:pZ L a b out ia ib):
  kasC (model prog w) A E (Gj a b (none,out,ia,ib,mg)) (fun r st' s'=>s'=s/\eT st st'/\PHs L a b (rem a b ia ib) r) st s:=by
 unfold Gj;dsimp only;have hr0:rem a b ia ib≤a.size+b.size:=by unfold rem;lia
 refine Δ (dO ?_);refine kZ (fun k (t:MS) st'=>st'=st/\t.1=none/\pZ L a b t.2.1 t.2.2.1 t.2.2.2.1/\rem a b t.2.2.1 t.2.2.2.1≤k/\rem a b t.2.2.1 t.2.2.2.1≤rem a b ia ib) ?_ ?_ _ _ _ ⟨rfl,rfl,h,by rw[b7];exact hr0,υ _⟩
 ·rintro⟨r,out,ia,ib,ac,bc⟩ st' ⟨rfl,rfl,h',hr,_⟩;obtain⟨h1,h2,_⟩:=h';have h1:ia+1<a.size:=h1;have hr:rem a b ia ib≤0:=hr;unfold rem at hr;lia
 rintro x k ⟨r,o1,i1,j1,ac,bc⟩ st' ⟨rfl,rfl,h',hr,hr2⟩;have hr:rem a b i1 j1≤k+1:=hr;have hr2:rem a b i1 j1≤rem a b ia ib:=hr2;refine nJ (O1 H hL hk h') ?_;rintro r st'' s'' ⟨rfl,rfl,hp⟩;refine⟨rfl,?_⟩;cases r with
 |yield v=>
  obtain⟨v1,v2⟩:=hp;have v2:pZ L a b v.2.1 v.2.2.1 v.2.2.2.1/\rem a b v.2.2.1 v.2.2.2.1<rem a b i1 j1:=v2;exact⟨rfl,v1,v2.1,by lia,by lia⟩
 |done v=>
  obtain⟨r,o2,i2,j2,ac2,bc2⟩:=v;have hp:PR L a b (rem a b i1 j1) r o2 i2 j2:=hp;cases r with
  |some res=>exact af ⟨rfl,eT.rf,res,rfl,hp⟩
  |none=>
   have hp:pZ L a b o2 i2 j2/\rem a b i2 j2<rem a b i1 j1:=hp;dsimp only;refine Δ (lF (gQ ?_));refine Δ (dO ?_);have hr3:rem a b i2 j2≤a.size+b.size:=by lia
   refine kZ (fun k (t:GS) st3=>eT st'' st3/\t.1=none/\pZ L a b t.2.1 t.2.2.1 t.2.2.2.1/\rem a b t.2.2.1 t.2.2.2.1≤k/\rem a b t.2.2.1 t.2.2.2.1≤rem a b i2 j2) ?_ ?_ _ _ _ ⟨eT.rf,rfl,hp.1,by rw[b7];exact hr3,υ _⟩
   ·rintro⟨r,out,i3,j3,m3,ac,bc⟩ st3 ⟨_,rfl,h',hr,_⟩;obtain⟨h1,h2,_⟩:=h';have h1:i3+1<a.size:=h1;have hr:rem a b i3 j3≤0:=hr;unfold rem at hr;lia
   rintro x k ⟨r,o3,i3,j3,m3,ac3,bc3⟩ st3 ⟨sm3,rfl,h',hr,hr2'⟩;have hr:rem a b i3 j3≤k+1:=hr;have hr2':rem a b i3 j3≤rem a b i2 j2:=hr2';have hk3:kindOf st3=κ:=sm3.1.trans hk;have go:∀m,kasC (model prog w) A E (u3 a b m (none,o3,i3,j3,m3,ac3,bc3)) (fun r st' s'=>s'=s''/\eT st3 st'/\pg L a b (rem a b i3 j3) r) st3 s'':=fun m=>O0 H hL hk3 h';have both:kasC (model prog w) A E (if m3 > 1 then u3 a b (m3-1) (none,o3,i3,j3,m3,ac3,bc3) else u3 a b m3 (none,o3,i3,j3,m3,ac3,bc3)) (fun r st' s'=>s'=s''/\eT st3 st'/\pg L a b (rem a b i3 j3) r) st3 s'':=by
    by_cases g:m3 > 1
    ·rw[if_pos g];exact go _
    ·rw[if_neg g];exact go _
   refine nJ both ?_;rintro r st4 s4 ⟨rfl,sm4,hp4⟩;refine⟨rfl,?_⟩;cases r with
   |yield v=>
    obtain⟨v1,v2⟩:=hp4;have v2:pZ L a b v.2.1 v.2.2.1 v.2.2.2.1/\rem a b v.2.2.1 v.2.2.2.1<rem a b i3 j3:=v2;exact⟨sm3.tr sm4,v1,v2.1,by lia,by lia⟩
   |done v=>
    obtain⟨r,o5,i5,j5,m5,ac5,bc5⟩:=v;have hp4:PR L a b (rem a b i3 j3) r o5 i5 j5:=hp4;cases r with
    |some res=>exact af ⟨rfl,sm3.tr sm4,res,rfl,hp4⟩
    |none=>
     have hp4:pZ L a b o5 i5 j5/\rem a b i5 j5<rem a b i3 j3:=hp4;exact Δ (AK fun st5 sm5=>af ⟨rfl,(sm3.tr sm4).tr sm5,rfl,hp4.1,by show rem a b i5 j5<rem a b ia ib;lia⟩)
theorem OY(H:MH prog w A κ s Ok L a b)(hL:oF L a b)(hk:kindOf st=κ)(ha:0<a.size){x y:θ}(ex:b[0]?=some x)(ey:a[0]?=some y)(hxy:L x y=true){Q:Array θ->aH->ζ->Prop}
  (q:∀res st',eT st st'->Res L a.toList b.toList res.toList->Q res st' s):kasC (model prog w) A E (rJ a b) Q st s:=by
 have hb:0<b.size:=(og.mp ex).1;obtain⟨x',ex',dx,mx⟩:=oX hb;rw[ex] at ex';cases ex';obtain⟨y',ey',dy,my⟩:=oX ha;rw[ey] at ey';cases ey';have h0:MI L a.toList b.toList (#[]:Array θ).toList 0 0:=⟨by simp,iS,fun z hz=>absurd hz (by simp)⟩;have h1:MI L a.toList b.toList (#[x]:Array θ).toList 0 1:=by
  have:=yt H h0 dx fun z hz=>H.O.fS x y z (H.O.ky _ _ hxy) (um H.O (uF H.sa 0) dy z hz);exact this
 rw[we];refine Δ (lF (gQ ?_));refine Δ (jV ex ?_);by_cases e:(1==b.size)=true
 ·rw[if_pos e];rw[beq_iff_eq] at e;exact af (q _ _ eT.rf (xC H h1 (.inr (by lia))))
 rw[if_neg e];have e':1≠b.size:=fun z=>e (by rw[←z];rfl);by_cases e2:(0+1==a.size)=true
 ·rw[if_pos e2];rw[beq_iff_eq] at e2;exact af (q _ _ eT.rf (Ad H hL h1 e2))
 rw[if_neg e2];have e2':0+1≠a.size:=fun z=>e2 (by rw[z,beq_self_eq_true]);refine Δ (jv ?_);refine Δ (dO ?_);refine kZ (fun k (t:HS) st'=>eT st st'/\t.1=none/\pZ L a b t.2.1 t.2.2.1 t.2.2.2.1/\rem a b t.2.2.1 t.2.2.2.1≤k) ?_ ?_ _ _ _ ⟨eT.rf,rfl,⟨by show 0+1<a.size;lia,by show 1<b.size;lia,h1⟩,by rw[b7];show rem a b 0 1≤a.size+b.size-0;unfold rem;lia⟩
 ·rintro⟨r,out,ia,ib,m⟩ st' ⟨_,rfl,h',hr⟩;obtain⟨h1,h2,_⟩:=h';have h1:ia+1<a.size:=h1;have hr:rem a b ia ib≤0:=hr;unfold rem at hr;lia
 ·rintro z k ⟨r,out,ia,ib,m⟩ st' ⟨sm,rfl,h',hr⟩;have hr:rem a b ia ib≤k+1:=hr;refine nJ (OZ H hL (sm.1.trans hk) h') ?_;rintro r st'' s'' ⟨rfl,sm2,hp⟩;refine⟨rfl,?_⟩;cases r with
  |yield v=>
   obtain⟨v1,v2,v3⟩:=hp;exact⟨sm.tr sm2,v1,v2,by lia⟩
  |done v=>
   obtain⟨r,v⟩:=v;obtain⟨res,e,hres⟩:=hp;have e:r=some res:=e;subst e;exact af (q res st'' (sm.tr sm2) hres)
end
end fV
namespace fV
open PySem PySem.W PyProof.Rows
def rK:Array θ->Array θ->SM (Array θ):=sortPriv% PySem.Builtin.mergeHi
def gL(a b out:Array θ)(na nb:Nat):Array θ:=a.extract 0 na++b.extract 0 nb++out.reverse
def j7(a b out:Array θ)(na nb:Nat):Array θ:=b.extract 0 nb++a.extract 0 na++out.reverse
theorem yQ(a b:Array θ):rK a b=(do
 rule "list.sort.merge-hi"
 let total:=a.size+b.size
 let mut na:=a.size-1
 let mut nb:=b.size
 let mut out:Array θ:=#[←elem' a na]
 if na==0 then return gL a b out na nb
 if nb==1 then return j7 a b out na nb
 let mut minGallop:=gallopOf (←get)
 for _ in [0:total] do
  let mut acount:=0
  let mut bcount:=0
  for _ in [0:total] do
   let some aWins ←lt' (←elem' b (nb-1)) (←elem' a (na-1))|return gL a b out na nb
   if aWins then
    na:=na-1;out:=out.push (←elem' a na);acount:=acount+1;bcount:=0
    if na==0 then return gL a b out na nb
    if acount≥minGallop then break
   else
    nb:=nb-1;out:=out.push (←elem' b nb);bcount:=bcount+1;acount:=0
    if nb==1 then return j7 a b out na nb
    if bcount≥minGallop then break
  rule "list.sort.gallop"
  minGallop:=minGallop+1
  for _ in [0:total] do
   if minGallop > 1 then minGallop:=minGallop-1
   eL minGallop
   let some at_ ←gZ false (←elem' b (nb-1)) a 0 na (na-1)|return gL a b out na nb
   let k:=na-at_
   acount:=k
   if k > 0 then
    out:=out++(a.extract at_ na).reverse;na:=at_
    if na==0 then return gL a b out na nb
   nb:=nb-1;out:=out.push (←elem' b nb)
   if nb==1 then return j7 a b out na nb
   let some at_ ←gZ true (←elem' a (na-1)) b 0 nb (nb-1)|return gL a b out na nb
   let k:=nb-at_
   bcount:=k
   if k > 0 then
    out:=out++(b.extract at_ nb).reverse;nb:=at_
    if nb==1 then return j7 a b out na nb
    if nb==0 then return gL a b out na nb
   na:=na-1;out:=out.push (←elem' a na)
   if na==0 then return gL a b out na nb
   if acount<7&&bcount<7 then break
  minGallop:=minGallop+1
  eL minGallop
 unsupported "internal:list.sort.merge-bound"):=rfl
abbrev GT:=Option (Array θ)×Nat×Nat×Array θ×Nat×Nat×Nat
abbrev MT:=Option (Array θ)×Nat×Nat×Array θ×Nat×Nat
abbrev HT:=Option (Array θ)×Nat×Nat×Array θ×Nat
def MU(a b:Array θ)(mg:Nat)(t:MT):SM (ForInStep MT):=do
 let x ←elem' b (t.2.2.1-1)
 let y ←elem' a (t.2.1-1)
 let r ←lt' x y
 match r with
 |some aWins=>
  if aWins=true then do
   let y ←elem' a (t.2.1-1)
   if (t.2.1-1==0)=true then pure (.done (some (gL a b (t.2.2.2.1.push y) (t.2.1-1) t.2.2.1),t.2.1-1,t.2.2.1,t.2.2.2.1.push y,t.2.2.2.2.1+1,0))
   else if t.2.2.2.2.1+1≥mg then pure (.done (none,t.2.1-1,t.2.2.1,t.2.2.2.1.push y,t.2.2.2.2.1+1,0))
   else pure (.yield (none,t.2.1-1,t.2.2.1,t.2.2.2.1.push y,t.2.2.2.2.1+1,0))
  else do
   let x ←elem' b (t.2.2.1-1)
   if (t.2.2.1-1==1)=true then pure (.done (some (j7 a b (t.2.2.2.1.push x) t.2.1 (t.2.2.1-1)),t.2.1,t.2.2.1-1,t.2.2.2.1.push x,0,t.2.2.2.2.2+1))
   else if t.2.2.2.2.2+1≥mg then pure (.done (none,t.2.1,t.2.2.1-1,t.2.2.2.1.push x,0,t.2.2.2.2.2+1))
   else pure (.yield (none,t.2.1,t.2.2.1-1,t.2.2.2.1.push x,0,t.2.2.2.2.2+1))
 |_=>pure (.done (some (gL a b t.2.2.2.1 t.2.1 t.2.2.1),t.2.1,t.2.2.1,t.2.2.2.1,t.2.2.2.2.1,t.2.2.2.2.2))
def Gq(a b out:Array θ)(na nb mg ac bc:Nat):SM (ForInStep GT):=do
 let y ←elem' a (na-1)
 if (na-1==0)=true then pure (.done (some (gL a b (out.push y) (na-1) nb),na-1,nb,out.push y,mg,ac,bc))
 else if (decide (ac<7)&&decide (bc<7))=true then pure (.done (none,na-1,nb,out.push y,mg,ac,bc))
 else pure (.yield (none,na-1,nb,out.push y,mg,ac,bc))
def Gr(a b out:Array θ)(na nb mg ac bc0:Nat):SM (ForInStep GT):=do
 let x ←elem' b (nb-1)
 if (nb-1==1)=true then pure (.done (some (j7 a b (out.push x) na (nb-1)),na,nb-1,out.push x,mg,ac,bc0))
 else do
  let y ←elem' a (na-1)
  let r ←gZ true y b 0 (nb-1) (nb-1-1)
  match r with
  |some at_=>
   if nb-1-at_ > 0 then
    if (at_==1)=true then pure (.done (some (j7 a b (out.push x++(b.extract at_ (nb-1)).reverse) na at_),na,at_,out.push x++(b.extract at_ (nb-1)).reverse,mg,ac,nb-1-at_))
    else if (at_==0)=true then pure (.done (some (gL a b (out.push x++(b.extract at_ (nb-1)).reverse) na at_),na,at_,out.push x++(b.extract at_ (nb-1)).reverse,mg,ac,nb-1-at_))
    else Gq a b (out.push x++(b.extract at_ (nb-1)).reverse) na at_ mg ac (nb-1-at_)
   else Gq a b (out.push x) na (nb-1) mg ac (nb-1-at_)
  |_=>pure (.done (some (gL a b (out.push x) na (nb-1)),na,nb-1,out.push x,mg,ac,bc0))
def qR(a b:Array θ)(mg:Nat)(t:GT):SM (ForInStep GT):=do
 eL mg
 let x ←elem' b (t.2.2.1-1)
 let r ←gZ false x a 0 t.2.1 (t.2.1-1)
 match r with
 |some at_=>
  if t.2.1-at_ > 0 then
   if (at_==0)=true then pure (.done (some (gL a b (t.2.2.2.1++(a.extract at_ t.2.1).reverse) at_ t.2.2.1),at_,t.2.2.1,t.2.2.2.1++(a.extract at_ t.2.1).reverse,mg,t.2.1-at_,t.2.2.2.2.2.2))
   else Gr a b (t.2.2.2.1++(a.extract at_ t.2.1).reverse) at_ t.2.2.1 mg (t.2.1-at_) t.2.2.2.2.2.2
  else Gr a b t.2.2.2.1 t.2.1 t.2.2.1 mg (t.2.1-at_) t.2.2.2.2.2.2
 |_=>pure (.done (some (gL a b t.2.2.2.1 t.2.1 t.2.2.1),t.2.1,t.2.2.1,t.2.2.2.1,mg,t.2.2.2.2.2.1,t.2.2.2.2.2.2))
def Gu(a b:Array θ)(u:HT):SM (ForInStep HT):=do
 let t ←forIn [0:a.size+b.size] ((none,u.2.1,u.2.2.1,u.2.2.2.1,0,0):MT) fun _ t=>MU a b u.2.2.2.2 t
 match t.1 with
 |some r=>pure (.done (some r,t.2.1,t.2.2.1,t.2.2.2.1,u.2.2.2.2))
 |none=>do
  liftM (rule "list.sort.gallop")
  let v ←forIn [0:a.size+b.size] ((none,t.2.1,t.2.2.1,t.2.2.2.1,u.2.2.2.2+1,t.2.2.2.2.1,t.2.2.2.2.2):GT) fun _ v=>
   if v.2.2.2.2.1 > 1 then qR a b (v.2.2.2.2.1-1) v else qR a b v.2.2.2.2.1 v
  match v.1 with
  |some r=>pure (.done (some r,v.2.1,v.2.2.1,v.2.2.2.1,v.2.2.2.2.1))
  |none=>do
   eL (v.2.2.2.2.1+1)
   pure (.yield (none,v.2.1,v.2.2.1,v.2.2.2.1,v.2.2.2.2.1+1))
theorem wg(a b:Array θ):rK a b=(do
 liftM (rule "list.sort.merge-hi")
 let y ←elem' a (a.size-1)
 if (a.size-1==0)=true then pure (gL a b #[y] (a.size-1) b.size)
 else if (b.size==1)=true then pure (j7 a b #[y] (a.size-1) b.size)
 else do
  let g ←get
  let u ←forIn [0:a.size+b.size] ((none,a.size-1,b.size,#[y],gallopOf g):HT) fun _ u=>Gu a b u
  match u.1 with
  |some r=>pure r
  | none=>unsupported "internal:list.sort.merge-bound"):=by
 rw[yQ]
 refine congrArg (fun z=>(liftM (rule "list.sort.merge-hi"):SM Unit) >>= z) (funext fun _=>?_)
 refine congrArg (fun z=>elem' a (a.size-1) >>= z) (funext fun x=>?_)
 dsimp only
 refine congrArg (fun z=>if (a.size-1==0)=true then _ else z) ?_
 refine congrArg (fun z=>if (b.size==1)=true then _ else z) ?_
 refine congrArg (fun z=>(get:SM aH) >>= z) (funext fun g=>?_)
 refine fz (qj fun _ u=>?_) (fun u=>by obtain⟨r,u⟩:=u;cases r<;>rfl)
 unfold Gu
 refine fz (qj fun _ t=>?_) (fun t=>?_)
 ·rfl
 obtain⟨r,t⟩:=t
 cases r with
 |some r=>rfl
 |none=>
  dsimp only
  refine fz rfl fun _=>?_
  refine fz (qj fun _ v=>?_) (fun v=>?_)
  ·by_cases h:v.2.2.2.2.1 > 1
   ·rw[if_pos h,if_pos h]
    unfold qR
    refine fz rfl fun _=>?_
    refine fz rfl fun x=>?_
    refine fz rfl fun r=>?_
    cases r with
    |none=>rfl
    |some k=>
     dsimp only
     by_cases h1:v.2.1-k > 0
     ·rw[if_pos h1,if_pos h1]
      rfl
     ·rw[if_neg h1,if_neg h1]
      rfl
   ·rw[if_neg h,if_neg h]
    unfold qR
    refine fz rfl fun _=>?_
    refine fz rfl fun x=>?_
    refine fz rfl fun r=>?_
    cases r with
    |none=>rfl
    |some k=>
     dsimp only
     by_cases h1:v.2.1-k > 0
     ·rw[if_pos h1,if_pos h1]
      rfl
     ·rw[if_neg h1,if_neg h1]
      rfl
  ·obtain⟨r,v⟩:=v
   cases r<;>rfl
end fV
namespace fV
open PySem PySem.W PyProof.Rows
section
variable {L:θ->θ->Bool} {al bl:List θ}
structure MJ(L:θ->θ->Bool)(al bl out:List θ)(na nb:Nat):Prop where
 perm:(al.take na++(bl.take nb++out.reverse)).Perm (al++bl)
 fy:out.Pairwise fun x y=>Le L y x
 hi:∀x∈al.take na++bl.take nb,∀y∈out,Le L x y
theorem JA(xs:List θ){i n:Nat}(h:i≤n):xs.take n=xs.take i++(xs.take n).drop i:=by
 have:=bC i (xs.take n);rw[ra,jN h] at this;exact this.symm
theorem MJ.uW{out:List θ}{na nb:Nat}(h:MJ L al bl out na nb)(hs:al.Pairwise (Le L)){i:Nat}(hi:i≤na)(hx:∀z∈(al.take na).drop i,∀x∈bl.take nb,Le L x z):MJ L al bl (out++((al.take na).drop i).reverse) i nb:=by
 have e:=JA al hi;have hs':(al.take na).Pairwise (Le L):=hs.sublist (dB _ _);rw[e,Ψ] at hs';refine⟨?_,?_,fun x hx' y hy=>?_⟩
 ·refine cW ?_ h.perm;have e2:al.take na++(bl.take nb++out.reverse)=al.take i++((al.take na).drop i++(bl.take nb++out.reverse)):=
   (congrArg (· ++ (bl.take nb++out.reverse)) e).trans (aa _ _ _)
  rw[e2,sy,sd];refine cG _ ?_;rw[←aa,←aa];exact cA _ jc
 ·rw[Ψ];refine⟨h.fy,?_,fun x hx' y hy=>h.hi y (aM _ (dq (gk.mp hy))) x hx'⟩;rw[fF];exact hs'.2.1
 ·rcases ar.mp hy with z|z
  ·refine h.hi x ?_ y z;rcases ar.mp hx' with z2|z2
   ·rw[e];exact aM _ (aM _ z2)
   ·exact aq _ z2
  ·have z:=gk.mp z;rcases ar.mp hx' with z2|z2
   ·exact hs'.2.2 x z2 y z
   ·exact hx y z x z2
theorem MJ.uV{out:List θ}{na nb:Nat}(h:MJ L al bl out na nb)(hs:bl.Pairwise (Le L)){i:Nat}(hi:i≤nb)(hx:∀z∈(bl.take nb).drop i,∀x∈al.take na,Le L x z):MJ L al bl (out++((bl.take nb).drop i).reverse) na i:=by
 have e:=JA bl hi;have hs':(bl.take nb).Pairwise (Le L):=hs.sublist (dB _ _);rw[e,Ψ] at hs';refine⟨?_,?_,fun x hx' y hy=>?_⟩
 ·refine cW (vA ?_) h.perm;have e2:bl.take nb++out.reverse=bl.take i++((bl.take nb).drop i++out.reverse):=
   (congrArg (· ++ out.reverse) e).trans (aa _ _ _)
  rw[e2,sy,sd]
 ·rw[Ψ];refine⟨h.fy,?_,fun x hx' y hy=>h.hi y (aq _ (dq (gk.mp hy))) x hx'⟩;rw[fF];exact hs'.2.1
 ·rcases ar.mp hy with z|z
  ·refine h.hi x ?_ y z;rcases ar.mp hx' with z2|z2
   ·exact aM _ z2
   ·rw[e];exact aq _ (aM _ z2)
  ·have z:=gk.mp z;rcases ar.mp hx' with z2|z2
   ·exact hx y z x z2
   ·exact hs'.2.2 x z2 y z
theorem Jz{out:List θ}(h:out.Pairwise fun x y=>Le L y x):out.reverse.Pairwise (Le L):=by
 rw[fF];exact h
theorem MJ.done{out:List θ}{na nb:Nat}(h:MJ L al bl out na nb)(ha:al.Pairwise (Le L))(hb:bl.Pairwise (Le L))(he:na=0∨nb=0):Res L al bl (al.take na++bl.take nb++out.reverse):=by
 refine⟨by have:=h.perm;rwa [←aa] at this,?_⟩;have h1:(al.take na++bl.take nb).Pairwise (Le L):=by
  rcases he with rfl|rfl
  ·rw[qZ,bw];exact hb.sublist (dB _ _)
  ·rw[qZ,cV];exact ha.sublist (dB _ _)
 rw[Ψ];exact⟨h1,Jz h.fy,fun x hx y hy=>h.hi x hx y (gk.mp hy)⟩
theorem MJ.first{out:List θ}{na nb:Nat}(h:MJ L al bl out na nb)(ha:al.Pairwise (Le L)){z:θ}(he:bl.take nb=[z])(hz:∀x∈al,Le L z x):Res L al bl (bl.take nb++al.take na++out.reverse):=by
 refine⟨cW ?_ h.perm,?_⟩
 ·rw[←aa];exact cA _ jc
 ·rw[Ψ];refine⟨?_,Jz h.fy,fun x hx y hy=>h.hi x ?_ y (gk.mp hy)⟩
  ·rw[he,Ψ];refine⟨aT _ _,ha.sublist (dB _ _),fun x hx y hy=>?_⟩;rw[ah.mp hx];exact hz y (dP hy)
  ·rcases ar.mp hx with q|q
   ·exact aq _ q
   ·exact aM _ q
end
section
variable {prog:aw} {w:aG} {A:aR} {E:δ->ζ->Prop} {κ:cv} {s:ζ} {Ok:θ->Prop} {L:θ->θ->Bool} {st:aH} {a b:Array θ}
theorem BN(a:Array θ)(n:Nat):(a.extract 0 n).toList=a.toList.take n:=by
 rw[xD,m4,tz]
theorem OX(a b out:Array θ)(na nb:Nat):(gL a b out na nb).toList=a.toList.take na++b.toList.take nb++out.toList.reverse:=by
 unfold gL;rw[df,df,BN,BN,mF]
theorem OW(a b out:Array θ)(na nb:Nat):(j7 a b out na nb).toList=b.toList.take nb++a.toList.take na++out.toList.reverse:=by
 unfold j7;rw[df,df,BN,BN,mF]
def pY(L:θ->θ->Bool)(a b out:Array θ)(na nb:Nat):Prop:=(0<na/\na≤a.size)/\(1<nb/\nb≤b.size)/\MJ L a.toList b.toList out.toList na nb
def PJ(L:θ->θ->Bool)(a b:Array θ)(R0:Nat)(r:Option (Array θ))(out:Array θ)(na nb:Nat):Prop:=match r with
 |some res=>Res L a.toList b.toList res.toList
 |none=>pY L a b out na nb/\na+nb<R0
def pj(L:θ->θ->Bool)(a b:Array θ):Prop:=∀z,b[0]?=some z->∀x∈a.toList,Le L z x
theorem xB(H:MH prog w A κ s Ok L a b){out:Array θ}{na nb:Nat}(h:MJ L a.toList b.toList out.toList na nb)(he:na=0∨nb=0):Res L a.toList b.toList (gL a b out na nb).toList:=by
 rw[OX];exact h.done H.sa H.sb he
theorem Ab(H:MH prog w A κ s Ok L a b)(hF:pj L a b){out:Array θ}{na nb:Nat}(h:MJ L a.toList b.toList out.toList na nb)(he:nb=1)(hb:0<b.size):Res L a.toList b.toList (j7 a b out na nb).toList:=by
 rw[OW];obtain⟨x,e1,e2,_⟩:=oX hb;subst he;rw[m4] at e2;refine h.first H.sa (z:=x) ?_ (hF x e1)
 rw[e2];rfl
theorem uE{a:Array θ}{n:Nat}(h0:0<n)(hn:n≤a.size):∃x,a[n-1]?=some x/\(a.toList.take n).drop (n-1)=[x]/\x∈a.toList/\∀z∈a.toList.take n,∃i,i≤n-1/\a.toList[i]?=some z:=by
 have h':n-1<a.toList.length:=by rw[aS];lia
 refine⟨a[n-1],cQ (by lia),?_,mH.mpr (t5 _),fun z hz=>?_⟩
 ·rw[List.drop_take,show n-(n-1)=1 by lia,cO h',sg];rfl
 ·obtain⟨i,hi,e⟩:=ed hz;rw[bA] at hi;refine⟨i,by lia,?_⟩;have:=Θ (l:=a.toList.take n) (i:=i) (by rw[bA];lia);rw[e,fQ (by lia)] at this;exact this
theorem Aa(O:iK L){a:Array θ}(hs:a.toList.Pairwise (Le L)){n:Nat}{x:θ}(ex:a[n-1]?=some x)(hm:∀z∈a.toList.take n,∃i,i≤n-1/\a.toList[i]?=some z):∀z∈a.toList.take n,Le L z x:=fun z hz=>by
 obtain⟨i,hi,e⟩:=hm z hz;exact pw_get hs O hi e (by rw[bf];exact ex)
theorem wq(H:MH prog w A κ s Ok L a b){out:Array θ}{na nb:Nat}{y:θ}(h:MJ L a.toList b.toList out.toList na nb)(h0:0<na)(e:(a.toList.take na).drop (na-1)=[y])(hx:∀z∈b.toList.take nb,Le L z y):MJ L a.toList b.toList (out.push y).toList (na-1) nb:=by
 have:=h.uW H.sa (i:=na-1) (by lia) (by rw[e];intro z hz x hx';rw[ah.mp hz];exact hx x hx');rw[e] at this;rw[Ac];exact this
theorem zj(H:MH prog w A κ s Ok L a b){out:Array θ}{na nb:Nat}{x:θ}(h:MJ L a.toList b.toList out.toList na nb)(h0:0<nb)(e:(b.toList.take nb).drop (nb-1)=[x])(hx:∀z∈a.toList.take na,Le L z x):MJ L a.toList b.toList (out.push x).toList na (nb-1):=by
 have:=h.uV H.sb (i:=nb-1) (by lia) (by rw[e];intro z hz y hy;rw[ah.mp hz];exact hx y hy);rw[e] at this;rw[Ac];exact this
def PMt(L:θ->θ->Bool)(a b:Array θ)(R0:Nat)(r:ForInStep MT):Prop:=match r with
 |.done v=>PJ L a b R0 v.1 v.2.2.2.1 v.2.1 v.2.2.1
 |.yield v=>v.1=none/\PJ L a b R0 none v.2.2.2.1 v.2.1 v.2.2.1
theorem OV(H:MH prog w A κ s Ok L a b)(hF:pj L a b)(hk:kindOf st=κ){mg ac bc na nb:Nat}{out:Array θ}(h:pY L a b out na nb):
  kasC (model prog w) A E (MU a b mg (none,na,nb,out,ac,bc)) (fun r st' s'=>s'=s/\st'=st/\PMt L a b (na+nb) r) st s:=by
 obtain⟨h1,h2,h3⟩:=h;obtain⟨x,ex,dx,mx,lx⟩:=uE (a:=b) (n:=nb) (by lia) h2.2;obtain⟨y,ey,dy,my,ly⟩:=uE h1.1 h1.2;unfold MU;dsimp only;refine Δ (jV ex (Δ (jV ey (Δ (xf H.C hk (H.ob x mx) (H.oa y my) ?_)))));dsimp only;cases hl:L x y with
 |true=>
  rw[if_pos rfl];have h4:=wq H h3 h1.1 dy fun z hz=>H.O.fS z x y (Aa H.O H.sb ex lx z hz) (H.O.ky _ _ hl);refine Δ (jV ey ?_);by_cases e:(na-1==0)=true
  ·rw[if_pos e];rw[beq_iff_eq] at e;exact af ⟨rfl,rfl,xB H h4 (.inl e)⟩
  ·rw[if_neg e];have e':na-1≠0:=fun z=>e (by rw[z];rfl);have pr:PJ L a b (na+nb) none (out.push y) (na-1) nb:=⟨⟨⟨by lia,by lia⟩,h2,h4⟩,by lia⟩;by_cases g:ac+1≥mg
   ·rw[if_pos g];exact af ⟨rfl,rfl,pr⟩
   ·rw[if_neg g];exact af ⟨rfl,rfl,rfl,pr⟩
 |false=>
  rw[if_neg ak];have h4:=zj H h3 (by lia) dx fun z hz=>H.O.fS z y x (Aa H.O H.sa ey ly z hz) hl;refine Δ (jV ex ?_);by_cases e:(nb-1==1)=true
  ·rw[if_pos e];rw[beq_iff_eq] at e;exact af ⟨rfl,rfl,Ab H hF h4 e (by lia)⟩
  ·rw[if_neg e];have e':nb-1≠1:=fun z=>e (by rw[z];rfl);have pr:PJ L a b (na+nb) none (out.push x) na (nb-1):=⟨⟨h1,⟨by lia,by lia⟩,h4⟩,by lia⟩;by_cases g:bc+1≥mg
   ·rw[if_pos g];exact af ⟨rfl,rfl,pr⟩
   ·rw[if_neg g];exact af ⟨rfl,rfl,rfl,pr⟩
def yJ(L:θ->θ->Bool)(a b:Array θ)(R0:Nat)(r:ForInStep GT):Prop:=match r with
 |.done v=>PJ L a b R0 v.1 v.2.2.2.1 v.2.1 v.2.2.1
 |.yield v=>v.1=none/\PJ L a b R0 none v.2.2.2.1 v.2.1 v.2.2.1
theorem Jy(H:MH prog w A κ s Ok L a b){R0 mg ac bc na nb:Nat}{out:Array θ}{y:θ}(h:pY L a b out na nb)(hr:na+nb≤R0)(ey:a[na-1]?=some y)(hy:∀z∈b.toList.take nb,Le L z y):
  kasC (model prog w) A E (Gq a b out na nb mg ac bc) (fun r st' s'=>s'=s/\st'=st/\yJ L a b R0 r) st s:=by
 obtain⟨h1,h2,h3⟩:=h;obtain⟨y',ey',dy,my,ly⟩:=uE h1.1 h1.2;rw[ey] at ey';cases ey';have h4:=wq H h3 h1.1 dy hy;unfold Gq;refine Δ (jV ey ?_);by_cases e:(na-1==0)=true
 ·rw[if_pos e];rw[beq_iff_eq] at e;exact af ⟨rfl,rfl,xB H h4 (.inl e)⟩
 ·rw[if_neg e];have e':na-1≠0:=fun z=>e (by rw[z];rfl);have pr:PJ L a b R0 none (out.push y) (na-1) nb:=⟨⟨⟨by lia,by lia⟩,h2,h4⟩,by lia⟩;by_cases g:(decide (ac<7)&&decide (bc<7))=true
  ·rw[if_pos g];exact af ⟨rfl,rfl,pr⟩
  ·rw[if_neg g];exact af ⟨rfl,rfl,rfl,pr⟩
theorem vE(arr:Array θ)(n:Nat):sl arr 0 n=arr.toList.take n:=by
 unfold sl;rw[m4]
theorem Jx(out arr:Array θ)(i n:Nat):(out++(arr.extract i n).reverse).toList=out.toList++((arr.toList.take n).drop i).reverse:=by
 rw[df,mF,xD,List.drop_take]
theorem Jw{xs:List θ}(h:xs.Pairwise (Le L))(i:Nat):(xs.take i).Pairwise (Le L):=h.sublist (dB _ _)
theorem Jv(H:MH prog w A κ s Ok L a b)(hF:pj L a b)(hk:kindOf st=κ){R0 mg ac bc na nb:Nat}{out:Array θ}{x:θ}(h:pY L a b out na nb)(hr:na+nb≤R0)(ex:b[nb-1]?=some x)(hx:∀z∈a.toList.take na,Le L z x):
  kasC (model prog w) A E (Gr a b out na nb mg ac bc) (fun r st' s'=>s'=s/\st'=st/\yJ L a b R0 r) st s:=by
 obtain⟨h1,h2,h3⟩:=h;obtain⟨x',ex',dx,mx,lx⟩:=uE (a:=b) (n:=nb) (by lia) h2.2;rw[ex] at ex';cases ex';obtain⟨y,ey,dy,my,ly⟩:=uE h1.1 h1.2;have h4:=zj H h3 (by lia) dx hx;unfold Gr;refine Δ (jV ex ?_);by_cases e:(nb-1==1)=true
 ·rw[if_pos e];rw[beq_iff_eq] at e;exact af ⟨rfl,rfl,Ab H hF h4 e (by lia)⟩
 rw[if_neg e];have e':nb-1≠1:=fun z=>e (by rw[z];rfl);refine Δ (jV ey (Δ (vP H.C H.O hk (by lia) (by lia) (H.oa y my) (fun z hz=>?_) ?_ fun k hkn k1 k2=>?_)))
 ·rw[vE] at hz;exact H.ob z (dP hz)
 ·rw[vE];exact Jw H.sb _
 rw[vE] at k1 k2;rw[ra,jN hkn] at k1;have k1':∀z∈b.toList.take k,Le L z y:=fun z hz=>H.O.ky _ _ (k1 z hz);have k2':∀z∈(b.toList.take (nb-1)).drop k,Le L y z:=fun z hz=>k2 z hz;dsimp only;by_cases hk0:nb-1-k > 0
 ·rw[if_pos hk0];have h5:MJ L a.toList b.toList (out.push x++(b.extract k (nb-1)).reverse).toList na k:=by
   rw[Jx];exact h4.uV H.sb (by lia) fun z hz y' hy'=>H.O.fS y' y z (Aa H.O H.sa ey ly y' hy') (k2' z hz)
  by_cases e2:(k==1)=true
  ·rw[if_pos e2];rw[beq_iff_eq] at e2;exact af ⟨rfl,rfl,Ab H hF h5 e2 (by lia)⟩
  rw[if_neg e2];have e2':k≠1:=fun z=>e2 (by rw[z];rfl);by_cases e3:(k==0)=true
  ·rw[if_pos e3];rw[beq_iff_eq] at e3;exact af ⟨rfl,rfl,xB H h5 (.inr e3)⟩
  rw[if_neg e3];have e3':k≠0:=fun z=>e3 (by rw[z];rfl);exact Jy H ⟨h1,⟨by lia,by lia⟩,h5⟩ (by lia) ey k1'
 ·rw[if_neg hk0];have k0:k=nb-1:=by lia
  subst k0;exact Jy H ⟨h1,⟨by lia,by lia⟩,h4⟩ (by lia) ey k1'
theorem OU(H:MH prog w A κ s Ok L a b)(hF:pj L a b)(hk:kindOf st=κ){mg m0 ac bc na nb:Nat}{out:Array θ}(h:pY L a b out na nb):
  kasC (model prog w) A E (qR a b mg (none,na,nb,out,m0,ac,bc)) (fun r st' s'=>s'=s/\eT st st'/\yJ L a b (na+nb) r) st s:=by
 obtain⟨h1,h2,h3⟩:=h;obtain⟨x,ex,dx,mx,lx⟩:=uE (a:=b) (n:=nb) (by lia) h2.2;unfold qR;dsimp only;refine Δ (AK fun st' sm=>?_);have hk':kindOf st'=κ:=sm.1.trans hk;have back:∀{m:SM (ForInStep GT)},kasC (model prog w) A E m (fun r st'' s'=>s'=s/\st''=st'/\yJ L a b (na+nb) r) st' s->kasC (model prog w) A E m (fun r st'' s'=>s'=s/\eT st st''/\yJ L a b (na+nb) r) st' s:=fun hm=>nJ hm fun r st'' s' zz=>by obtain⟨z1,z2,z3⟩:=zz;exact⟨z1,by rw[z2];exact sm,z3⟩
 refine Δ (jV ex (Δ (vP H.C H.O hk' (by lia) (by lia) (H.ob x mx) (fun z hz=>?_) ?_ fun k hkn k1 k2=>?_)))
 ·rw[vE] at hz;exact H.oa z (dP hz)
 ·rw[vE];exact Jw H.sa _
 rw[vE] at k1 k2;rw[ra,jN hkn] at k1;have k1':∀z∈a.toList.take k,Le L z x:=fun z hz=>by
  have:(!(L x z))=true:=k1 z hz;rwa [gJ] at this
 have k2':∀z∈(a.toList.take na).drop k,Le L x z:=fun z hz=>by
  have:(!(L x z))=false:=k2 z hz;rw[iH] at this;exact H.O.ky _ _ this
 dsimp only;by_cases hk0:na-k > 0
 ·rw[if_pos hk0];have h5:MJ L a.toList b.toList (out++(a.extract k na).reverse).toList k nb:=by
   rw[Jx];exact h3.uW H.sa (by lia) fun z hz y' hy'=>H.O.fS y' x z (Aa H.O H.sb ex lx y' hy') (k2' z hz)
  by_cases e:(k==0)=true
  ·rw[if_pos e];rw[beq_iff_eq] at e;exact af ⟨rfl,sm,xB H h5 (.inl e)⟩
  rw[if_neg e];have e':k≠0:=fun z=>e (by rw[z];rfl);exact back (Jv H hF hk' ⟨⟨by lia,by lia⟩,h2,h5⟩ (by lia) ex k1')
 ·rw[if_neg hk0];have k0:k=na:=by lia
  subst k0;exact back (Jv H hF hk' ⟨h1,h2,h3⟩ (υ _) ex k1')
def PHt(L:θ->θ->Bool)(a b:Array θ)(R0:Nat)(r:ForInStep HT):Prop:=match r with
 |.done v=>∃res,v.1=some res/\Res L a.toList b.toList res.toList
 |.yield v=>v.1=none/\pY L a b v.2.2.2.1 v.2.1 v.2.2.1/\v.2.1+v.2.2.1<R0
theorem OT(H:MH prog w A κ s Ok L a b)(hF:pj L a b)(hk:kindOf st=κ){mg na nb:Nat}{out:Array θ}(h:pY L a b out na nb):
  kasC (model prog w) A E (Gu a b (none,na,nb,out,mg)) (fun r st' s'=>s'=s/\eT st st'/\PHt L a b (na+nb) r) st s:=by
 unfold Gu;dsimp only;have hr0:na+nb≤a.size+b.size:=by
  have:=h.1.2;have:=h.2.1.2;lia
 refine Δ (dO ?_);refine kZ (fun k (t:MT) st'=>st'=st/\t.1=none/\pY L a b t.2.2.2.1 t.2.1 t.2.2.1/\t.2.1+t.2.2.1≤k/\t.2.1+t.2.2.1≤na+nb) ?_ ?_ _ _ _ ⟨rfl,rfl,h,by rw[b7];exact hr0,υ _⟩
 ·rintro⟨r,na,nb,out,ac,bc⟩ st' ⟨rfl,rfl,h',hr,_⟩;have h1:0<na:=h'.1.1;have hr:na+nb≤0:=hr;lia
 rintro x k ⟨r,i1,j1,o1,ac,bc⟩ st' ⟨rfl,rfl,h',hr,hr2⟩;have hr:i1+j1≤k+1:=hr;have hr2:i1+j1≤na+nb:=hr2;refine nJ (OV H hF hk h') ?_;rintro r st'' s'' ⟨rfl,rfl,hp⟩;refine⟨rfl,?_⟩;cases r with
 |yield v=>
  obtain⟨v1,v2⟩:=hp;have v2:pY L a b v.2.2.2.1 v.2.1 v.2.2.1/\v.2.1+v.2.2.1<i1+j1:=v2;exact⟨rfl,v1,v2.1,by lia,by lia⟩
 |done v=>
  obtain⟨r,i2,j2,o2,ac2,bc2⟩:=v;have hp:PJ L a b (i1+j1) r o2 i2 j2:=hp;cases r with
  |some res=>exact af ⟨rfl,eT.rf,res,rfl,hp⟩
  |none=>
   have hp:pY L a b o2 i2 j2/\i2+j2<i1+j1:=hp;dsimp only;refine Δ (lF (gQ ?_));refine Δ (dO ?_);have hr3:i2+j2≤a.size+b.size:=by lia
   refine kZ (fun k (t:GT) st3=>eT st'' st3/\t.1=none/\pY L a b t.2.2.2.1 t.2.1 t.2.2.1/\t.2.1+t.2.2.1≤k/\t.2.1+t.2.2.1≤i2+j2) ?_ ?_ _ _ _ ⟨eT.rf,rfl,hp.1,by rw[b7];exact hr3,υ _⟩
   ·rintro⟨r,i3,j3,out,m3,ac,bc⟩ st3 ⟨_,rfl,h',hr,_⟩;have h1:0<i3:=h'.1.1;have hr:i3+j3≤0:=hr;lia
   rintro x k ⟨r,i3,j3,o3,m3,ac3,bc3⟩ st3 ⟨sm3,rfl,h',hr,hr2'⟩;have hr:i3+j3≤k+1:=hr;have hr2':i3+j3≤i2+j2:=hr2';have hk3:kindOf st3=κ:=sm3.1.trans hk;have go:∀m,kasC (model prog w) A E (qR a b m (none,i3,j3,o3,m3,ac3,bc3)) (fun r st' s'=>s'=s''/\eT st3 st'/\yJ L a b (i3+j3) r) st3 s'':=fun m=>OU H hF hk3 h';have both:kasC (model prog w) A E (if m3 > 1 then qR a b (m3-1) (none,i3,j3,o3,m3,ac3,bc3) else qR a b m3 (none,i3,j3,o3,m3,ac3,bc3)) (fun r st' s'=>s'=s''/\eT st3 st'/\yJ L a b (i3+j3) r) st3 s'':=by
    by_cases g:m3 > 1
    ·rw[if_pos g];exact go _
    ·rw[if_neg g];exact go _
   refine nJ both ?_;rintro r st4 s4 ⟨rfl,sm4,hp4⟩;refine⟨rfl,?_⟩;cases r with
   |yield v=>
    obtain⟨v1,v2⟩:=hp4;have v2:pY L a b v.2.2.2.1 v.2.1 v.2.2.1/\v.2.1+v.2.2.1<i3+j3:=v2;exact⟨sm3.tr sm4,v1,v2.1,by lia,by lia⟩
   |done v=>
    obtain⟨r,i5,j5,o5,m5,ac5,bc5⟩:=v;have hp4:PJ L a b (i3+j3) r o5 i5 j5:=hp4;cases r with
    |some res=>exact af ⟨rfl,sm3.tr sm4,res,rfl,hp4⟩
    |none=>
     have hp4:pY L a b o5 i5 j5/\i5+j5<i3+j3:=hp4;exact Δ (AK fun st5 sm5=>af ⟨rfl,(sm3.tr sm4).tr sm5,rfl,hp4.1,by show i5+j5<na+nb;lia⟩)
theorem OS(H:MH prog w A κ s Ok L a b)(hL:oF L a b)(hF:pj L a b)(hk:kindOf st=κ)(ha:0<a.size)(hb:0<b.size){Q:Array θ->aH->ζ->Prop}
  (q:∀res st',eT st st'->Res L a.toList b.toList res.toList->Q res st' s):kasC (model prog w) A E (rK a b) Q st s:=by
 obtain⟨y,ey,dy,my,ly⟩:=uE ha (υ a.size);have h0:MJ L a.toList b.toList (#[]:Array θ).toList a.size b.size:=by
  refine⟨?_,iS,fun x hx y hy=>nomatch hy⟩;rw[cS (by rw[aS];exact υ _),cS (by rw[aS];exact υ _)];simp
 have h1:MJ L a.toList b.toList (#[y]:Array θ).toList (a.size-1) b.size:=wq H h0 ha dy fun z hz=>H.O.ky _ _ (hL y ey z (dP hz));rw[wg];refine Δ (lF (gQ ?_));refine Δ (jV ey ?_);by_cases e:(a.size-1==0)=true
 ·rw[if_pos e];rw[beq_iff_eq] at e;exact af (q _ _ eT.rf (xB H h1 (.inl e)))
 rw[if_neg e];have e':a.size-1≠0:=fun z=>e (by rw[z];rfl);by_cases e2:(b.size==1)=true
 ·rw[if_pos e2];rw[beq_iff_eq] at e2;exact af (q _ _ eT.rf (Ab H hF h1 e2 hb))
 rw[if_neg e2];have e2':b.size≠1:=fun z=>e2 (by rw[z];rfl);refine Δ (jv ?_);refine Δ (dO ?_);refine kZ (fun k (t:HT) st'=>eT st st'/\t.1=none/\pY L a b t.2.2.2.1 t.2.1 t.2.2.1/\t.2.1+t.2.2.1≤k) ?_ ?_ _ _ _ ⟨eT.rf,rfl,⟨⟨by show 0<a.size-1;lia,by show a.size-1≤a.size;lia⟩,⟨by show 1<b.size;lia,υ _⟩,h1⟩,by rw[b7];show a.size-1+b.size≤a.size+b.size-0;lia⟩
 ·rintro⟨r,na,nb,out,m⟩ st' ⟨_,rfl,h',hr⟩;have h1:0<na:=h'.1.1;have hr:na+nb≤0:=hr;lia
 ·rintro z k ⟨r,na,nb,out,m⟩ st' ⟨sm,rfl,h',hr⟩;have hr:na+nb≤k+1:=hr;refine nJ (OT H hF (sm.1.trans hk) h') ?_;rintro r st'' s'' ⟨rfl,sm2,hp⟩;refine⟨rfl,?_⟩;cases r with
  |yield v=>
   obtain⟨v1,v2,v3⟩:=hp;exact⟨sm.tr sm2,v1,v2,by lia⟩
  |done v=>
   obtain⟨r,v⟩:=v;obtain⟨res,e,hres⟩:=hp;have e:r=some res:=e;subst e;exact af (q res st'' (sm.tr sm2) hres)
end
end fV
namespace fV
open PySem PySem.W PyProof.Rows
def mergeAt':Nat->SM Bool:=sortPriv% PySem.Builtin.mergeAt
abbrev y9(st:aH)(p:Array (Nat×Nat×Nat)):aH:=r9 (kindOf st) (arrOf st) p (gallopOf st) (failedOf st)
def CG(base:Nat)(xs:List (θ×Nat))(a:Array θ):Array θ:=xs.foldl (fun a (p,j)=>a.setIfInBounds (base+j) p) a
theorem yR(i:Nat):mergeAt' i=(do
 let s ←get
 let (some (sa,na,power),some (sb,nb,_)):=((pendingOf s)[i]?,(pendingOf s)[i+1]?)|unsupported "internal:list.sort.pending"
 set (y9 s (((pendingOf s).setIfInBounds i (sa,na+nb,power)).eraseIdxIfInBounds (i+1)))
 let some k ←gZ false (←elem' (arrOf s) sb) (arrOf s) sa na 0|return false
 let (sa,na):=(sa+k,na-k)
 if na==0 then return true
 let some nb ←gZ true (←elem' (arrOf s) (sa+na-1)) (arrOf s) sb nb (nb-1)|return false
 if nb==0 then return true
 let x:=(arrOf s).extract sa sb
 let y:=(arrOf s).extract sb (sb+nb)
 let merged ←if na≤nb then rJ x y else rK x y
 modify fun s=>setArr s (CG sa merged.toList.zipIdx (arrOf s))
 return (failedOf (←get)).isNone):=rfl
theorem Pt(base:Nat):∀(xs:List θ) (k:Nat) (a:Array θ) (P X S:List θ),a.toList=P++X++S->P.length=base+k->X.length=xs.length->(CG base (xs.zipIdx k) a).toList=P++xs++S:=by
 intro xs
 induction xs with
 |nil=>
  intro k a P X S e h1 h2;have:X=[]:=cJ h2;subst this;exact e
 |cons x xs ih=>
  intro k a P X S e h1 h2;cases X with
  |nil=>cases h2
  |cons z X=>
   have h2:X.length=xs.length:=by simpa using h2
   show (CG base (xs.zipIdx (k+1)) (a.setIfInBounds (base+k) x)).toList=_;have e2:(a.setIfInBounds (base+k) x).toList=(P++[x])++X++S:=by
    rw[oe,e,←h1,aa,rb _ _ (υ _),mv];simp
   rw[ih (k+1) _ (P++[x]) X S e2 (by rw[ξ,h1];rfl) h2];simp
section
variable {prog:aw} {w:aG} {A:aR} {E:δ->ζ->Prop} {κ:cv} {s:ζ} {Ok:θ->Prop} {L:θ->θ->Bool} {st:aH}
theorem Pr{st':aH}{Q:PUnit->aH->ζ->Prop}(h:Q ⟨⟩ st' s):kasC (model prog w) A E (set st':SM PUnit) Q st s:=by
 unfold kasC;rw[StateT.run_set];exact ι h
theorem EC{arr:Array θ}{P X S:List θ}(e:arr.toList=P++X++S):sl arr P.length X.length=X:=by
 unfold sl;rw[e,aa,List.drop_left,List.take_left]
theorem xA{arr:Array θ}{P S:List θ}{x:θ}(e:arr.toList=P++x::S):arr[P.length]?=some x:=by
 rw[←bf,e,bD (υ _),mv];rfl
theorem Ju{arr:Array θ}{P X S:List θ}(e:arr.toList=P++X++S):(arr.extract P.length (P.length+X.length)).toList=X:=by
 rw[xD,show P.length+X.length-P.length=X.length by lia];exact EC e
theorem Pq(C:kd prog w A κ s Ok L)(O:iK L)(hk:kindOf st=κ)(hf:failedOf st=none){i sa na pw sb nb p2:Nat}{P R1 R2 S:List θ}(hp1:(pendingOf st)[i]?=some (sa,na,pw))(hp2:(pendingOf st)[i+1]?=some (sb,nb,p2))
  (e:(arrOf st).toList=P++R1++R2++S) (l0:P.length=sa) (l1:R1.length=na) (l2:R2.length=nb) (l3:sb=sa+na) (h1:0<na) (h2:0<nb) (ok:∀x∈R1++R2,Ok x) (s1:R1.Pairwise (Le L)) (s2:R2.Pairwise (Le L))
  {Q:Bool->aH->ζ->Prop} (q:∀(M:List θ) (st':aH),M.Perm (R1++R2)->M.Pairwise (Le L)->kindOf st'=κ->failedOf st'=none->pendingOf st'=((pendingOf st).setIfInBounds i (sa,na+nb,pw)).eraseIdxIfInBounds (i+1)->(arrOf st').toList=P++M++S->Q true st' s):kasC (model prog w) A E (mergeAt' i) Q st s:=by
 rw[yR];refine Δ (jv ?_);rw[hp1,hp2];dsimp only;refine Δ (Pr ?_);generalize hst1:y9 st (((pendingOf st).setIfInBounds i (sa,na+nb,pw)).eraseIdxIfInBounds (i+1))=st1;have k1:kindOf st1=κ:=by rw[←hst1];exact hk
 have f1:failedOf st1=none:=by rw[←hst1];exact hf
 have p1:pendingOf st1=((pendingOf st).setIfInBounds i (sa,na+nb,pw)).eraseIdxIfInBounds (i+1):=by rw[←hst1]
 have a1:arrOf st1=arrOf st:=by rw[←hst1]
 have eP1:(arrOf st).toList=P++R1++(R2++S):=by rw[e,aa (P++R1)]
 have eP2:(arrOf st).toList=(P++R1)++R2++S:=e;have lz:(arrOf st).size=P.length+R1.length+R2.length+S.length:=by
  rw[←aS,e];simp only[ξ]
 have lPR:(P++R1).length=sb:=by rw[ξ];lia
 obtain⟨y0,R2',rfl⟩:∃y0 R2',R2=y0::R2':=by
  cases R2 with
  |nil=>simp at l2;lia
  |cons y r=>exact⟨y,r,rfl⟩
 have gy:(arrOf st)[sb]?=some y0:=by
  rw[←lPR];exact xA (S:=R2'++S) (by rw[e];simp)
 have oy0:Ok y0:=ok y0 (aq _ ο);have sl1:sl (arrOf st) sa na=R1:=by
  rw[←l0,←l1];exact EC eP1
 have sl2:sl (arrOf st) sb nb=y0::R2':=by
  rw[←lPR,←l2];exact EC eP2
 refine Δ (jV gy (Δ (vP C O k1 h1 (by lia) oy0 (by rw[sl1];exact fun x hx=>ok x (aM _ hx)) (by rw[sl1];exact s1) fun k hkn b1 b2=>?_)));rw[sl1] at b1 b2;have b1':∀z∈R1.take k,Le L z y0:=fun z hz=>by
  have:(!(L y0 z))=true:=b1 z hz;rwa [gJ] at this
 have b2':∀z∈R1.drop k,L y0 z=true:=fun z hz=>by
  have:(!(L y0 z))=false:=b2 z hz;rwa [iH] at this
 have hy0:∀z∈y0::R2',Le L y0 z:=um O s2 rfl;have eR1:R1.take k++R1.drop k=R1:=bC k R1;have s1':=s1;rw[←eR1,Ψ] at s1';dsimp only;by_cases e0:(na-k==0)=true
 ·rw[if_pos e0];rw[beq_iff_eq] at e0;have ek:R1.take k=R1:=cS (by lia);rw[ek] at b1';refine af (q (R1++y0::R2') st1 (ku _) ?_ k1 f1 p1 (by rw[a1,e];simp));rw[Ψ];exact⟨s1,s2,fun x hx y hy=>O.fS x y0 y (b1' x hx) (hy0 y hy)⟩
 rw[if_neg e0];have e0':na-k≠0:=fun z=>e0 (by rw[z];rfl)
 -- the last of the first run
 have hne:R1.drop k≠[]:=fun z=>by
  have:=congrArg bR z;rw[aV,bO] at this;lia
 obtain⟨I1,z0,eI⟩:∃I z,R1.drop k=I++[z]:=⟨_,_,(m6 hne).symm⟩;have lI:I1.length+1=na-k:=by
  have:=congrArg bR eI;rw[aV,ξ] at this;simp at this;lia
 have mz0:z0∈R1.drop k:=by rw[eI];simp
 have gz:(arrOf st)[sa+k+(na-k)-1]?=some z0:=by
  have hlen:sa+k+(na-k)-1=(P++R1.take k++I1).length:=by
   simp only[ξ,bA];lia
  rw[hlen];refine xA (S:=(y0::R2')++S) ?_;have eR:P++R1=P++(R1.take k++(I1++[z0])):=by rw[←eI,eR1]
  rw[e,eR];simp
 have oz0:Ok z0:=ok z0 (aM _ (dq mz0));refine Δ (jV gz (Δ (vP C O k1 (by lia) (by lia) oz0 (by rw[sl2];exact fun x hx=>ok x (aq _ hx)) (by rw[sl2];exact s2) fun m hm c1 c2=>?_)));rw[sl2] at c1 c2;have c1':∀z∈(y0::R2').take m,L z z0=true:=fun z hz=>c1 z hz;have c2':∀z∈(y0::R2').drop m,Le L z0 z:=fun z hz=>c2 z hz;have hz0:∀x∈R1.drop k,Le L x z0:=fun x hx=>by
  have:=s1'.2.1;rw[eI,Ψ] at this;rw[eI] at hx;rcases ar.mp hx with hx|hx
  ·exact this.2.2 x hx z0 (by simp)
  ·rw[ah.mp hx];exact O.yz _
 dsimp only;by_cases e1:(m==0)=true
 ·rw[if_pos e1];rw[beq_iff_eq] at e1;subst e1;refine af (q (R1++y0::R2') st1 (ku _) ?_ k1 f1 p1 (by rw[a1,e];simp));have cy:=c2' y0 (by simp);have by0:=b2' z0 mz0;have:L y0 z0=false:=cy;rw[by0] at this;cases this
 rw[if_neg e1];have e1':m≠0:=fun z=>e1 (by rw[z];rfl);have eR2:(y0::R2').take m++(y0::R2').drop m=y0::R2':=bC m _;have s2':=s2;rw[←eR2,Ψ] at s2';have lX:(R1.drop k).length=na-k:=by rw[aV];lia
 have lY:((y0::R2').take m).length=m:=by rw[bA];lia
 have eA:(arrOf st).toList=(P++R1.take k)++R1.drop k++((y0::R2')++S):=by
  have eR:P++R1=P++(R1.take k++R1.drop k):=by rw[eR1]
  rw[e,eR];simp
 have eB:(arrOf st).toList=(P++R1)++(y0::R2').take m++((y0::R2').drop m++S):=by
  have eR:P++R1++(y0::R2')=P++R1++((y0::R2').take m++(y0::R2').drop m):=by rw[eR2]
  rw[e,eR];simp only[aa]
 have lPk:(P++R1.take k).length=sa+k:=by
  simp only[ξ,bA];lia
 have ex:((arrOf st).extract (sa+k) sb).toList=R1.drop k:=by
  have:=Ju eA;rw[lPk,lX,show sa+k+(na-k)=sb by lia] at this;exact this
 have ey:((arrOf st).extract sb (sb+m)).toList=(y0::R2').take m:=by
  have:=Ju eB;rw[lPR,lY] at this;exact this
 generalize (arrOf st).extract (sa+k) sb=X at ex ⊢;generalize (arrOf st).extract sb (sb+m)=Y at ey ⊢;have H:MH prog w A κ s Ok L X Y:=⟨C,O,by rw[ex];exact fun x hx=>ok x (aM _ (dq hx)),by rw[ey];exact fun x hx=>ok x (aq _ (dP hx)),by rw[ex];exact s1'.2.1,by rw[ey];exact s2'.1⟩;have szX:X.size=na-k:=by rw[←aS,ex,lX]
 have szY:Y.size=m:=by rw[←aS,ey,lY]
 obtain⟨m',rfl⟩:∃m',m=m'+1:=⟨m-1,by lia⟩;have gY0:Y[0]?=some y0:=by
  rw[←bf,ey];rfl
 obtain⟨x0,gX0,_,mX0⟩:=oX (a:=X) (i:=0) (by lia);rw[ex] at mX0;have hL:oF L X Y:=fun z hz y hy=>by
  rw[ey] at hy;have:z=z0:=by
   rw[←bf,ex,eI,szX,bD (by lia),show na-k-1-I1.length=0 by lia] at hz;exact (aA hz).symm
  rw[this];exact c1' y hy
 have hF:pj L X Y:=fun z hz x hx=>by
  rw[gY0] at hz;cases hz;rw[ex] at hx;exact O.ky _ _ (b2' x hx)
 have fin:∀(res:Array θ) (st':aH),eT st1 st'->Res L X.toList Y.toList res.toList->kasC (model prog w) A E (do
   modify fun s=>setArr s (CG (sa+k) res.toList.zipIdx (arrOf s))
   return (failedOf (←get)).isNone:SM Bool) Q st' s:=fun res st' sm ⟨rp,rs⟩=>by
  rw[ex,ey] at rp;refine Δ (gX (Δ (jv (af ?_))));have hff:failedOf st'=none:=sm.2.2.2.trans f1;show Q (failedOf st').isNone _ s;rw[hff];have eC:(arrOf st').toList=(P++R1.take k)++(R1.drop k++(y0::R2').take (m'+1))++((y0::R2').drop (m'+1)++S):=by
   have eR:P++R1++(y0::R2')=P++(R1.take k++R1.drop k)++((y0::R2').take (m'+1)++(y0::R2').drop (m'+1)):=by rw[eR1,eR2]
   rw[sm.2.1,a1,e,eR];simp only[aa]
  have ew:(CG (sa+k) res.toList.zipIdx (arrOf st')).toList=(P++R1.take k)++res.toList++((y0::R2').drop (m'+1)++S):=Pt (sa+k) res.toList 0 _ _ _ _ eC lPk rp.length_eq.symm;refine q (R1.take k++(res.toList++(y0::R2').drop (m'+1))) _ ?_ ?_ (sm.1.trans k1) hff (sm.2.2.1.trans p1) (by rw[ew];simp only[aa])
  ·refine cW (cG _ (cA _ rp)) (vA ?_);rw[aa,eR2,←aa,eR1]
  ·rw[Ψ];refine⟨s1'.1,?_,fun x hx y hy=>?_⟩
   ·rw[Ψ];refine⟨rs,s2'.2.1,fun x hx y hy=>?_⟩;rcases ar.mp (rp.mem_iff.mp hx) with z|z
    ·exact O.fS x z0 y (hz0 x z) (c2' y hy)
    ·exact s2'.2.2 x z y hy
   ·rcases ar.mp hy with z|z
    ·rcases ar.mp (rp.mem_iff.mp z) with z2|z2
     ·exact s1'.2.2 x hx y z2
     ·exact O.fS x y0 y (b1' x hx) (hy0 y (dP z2))
    ·exact O.fS x y0 y (b1' x hx) (hy0 y (dq z))
 by_cases hle:na-k≤m'+1
 ·rw[if_pos hle];exact Δ (OY H hL k1 (by lia) gY0 gX0 (b2' x0 mX0) fin)
 ·rw[if_neg hle];exact Δ (OS H hL hF k1 (by lia) (by lia) fin)
end
end fV
namespace fV
open PySem PySem.W PyProof.Rows
theorem get3{α:Type}(P X S:List α)(k:Nat):(P++X++S)[k]?=if k<P.length then P[k]? else if k<P.length+X.length then X[k-P.length]? else S[k-P.length-X.length]?:=by
 by_cases h:k<P.length
 ·rw[if_pos h,aa,cN h]
 ·rw[if_neg h,aa,bD (by lia)];by_cases h2:k<P.length+X.length
  ·rw[if_pos h2,cN (by lia)]
  ·rw[if_neg h2,bD (by lia)]
theorem Pp{a:Array θ}{P M S:List θ}{i j:Nat}(e:a.toList=P++M++S)(hi:P.length=i)(hj:i+M.length=j):(mirror a i j ((j-i) / 2)).toList=P++M.reverse++S:=by
 have hz:j≤a.size:=by
  rw[←aS,e];simp only[ξ];lia
 refine kL fun k=>?_;rw[bf,getElem?_mirror_all hz,get3,List.length_reverse,←bf,←bf,e,get3,get3]
 repeat' split
 all_goals first
  |rfl
  | (exfalso;lia)
  | (rw[List.getElem?_reverse (by lia),show i+j-1-k-P.length=M.length-1-(k-P.length) by lia])
theorem Po{a:Array θ}{P X S:List θ}{x:θ}{src d:Nat}(e:a.toList=P++(X++[x])++S)(hs:P.length+X.length=src)(hd:X.length=d):(bubble a src d).toList=P++(x::X)++S:=by
 have hz:src<a.size:=by
  rw[←aS,e];simp only[ξ,ag,bO];lia
 refine kL fun k=>?_;rw[bf,getElem?_bubble hz d (by lia),←bf,←bf,←bf,e,get3,get3,get3,get3];have hl:(X++[x]).length=X.length+1:=by simp
 have hl2:(x::X).length=X.length+1:=by simp
 rw[hl,hl2]
 repeat' split
 all_goals first
  |rfl
  | (exfalso;lia)
  | (rw[show src-P.length=X.length by lia,show k-P.length=0 by lia];simp)
  | (obtain⟨u,hu⟩:∃u,k-P.length=u+1:=⟨k-P.length-1,by lia⟩;rw[hu,List.getElem?_cons_succ,show k-1-P.length=u by lia,cN (by lia)])
abbrev AS:=Option (Option Nat)×Nat
abbrev DS:=Option (Option Nat)×Nat×Nat
def zp(lo:Nat)(t:AS):SM (ForInStep AS):=do
 let r ←ltAt' (lo+t.2) (lo+t.2-1)
 match r with
 |some smaller=>if smaller=true then pure (.done (none,t.2)) else pure (.yield (none,t.2+1))
 |_=>pure (.done (some none,t.2))
def wG(lo nrem n:Nat):SM (Option Nat):=do
 reverseSlice' lo (lo+n)
 let t ←forIn [n:nrem] ((none,n):AS) fun _ t=>zp lo t
 match t.1 with
 |some r=>pure r
 |none=>pure (some t.2)
def M3(lo:Nat)(t:DS):SM (ForInStep DS):=do
 let r ←ltAt' (lo+t.2.1) (lo+t.2.1-1)
 match r with
 |some smaller=>
  if smaller=true then
   if t.2.2 > 0 then do
    reverseSlice' (lo+t.2.1-(t.2.2+1)) (lo+t.2.1)
    pure (.yield (none,t.2.1+1,0))
   else pure (.yield (none,t.2.1+1,0))
  else do
   let r ←ltAt' (lo+t.2.1-1) (lo+t.2.1)
   match r with
   |some larger=>if larger=true then pure (.done (none,t.2.1,t.2.2)) else pure (.yield (none,t.2.1+1,t.2.2+1))
   |_=>pure (.done (some none,t.2.1,t.2.2))
 |_=>pure (.done (some none,t.2.1,t.2.2))
def zm(lo nrem n:Nat):SM (Option Nat):=do
 liftM (rule "list.sort.descending-run")
 let t ←forIn [n+1:nrem] ((none,n+1,0):DS) fun _ t=>M3 lo t
 match t.1 with
 |some r=>pure r
 |none=>
  if t.2.2 > 0 then do
   reverseSlice' (lo+t.2.1-(t.2.2+1)) (lo+t.2.1)
   wG lo nrem t.2.1
  else wG lo nrem t.2.1
theorem EB{β:Type}{m n:Nat}{b:β}{f f':Nat->β->SM (ForInStep β)}(h:∀x t,f x t=f' x t):(forIn [m:n] b f:SM β)=forIn [m:n] b f':=by
 rw[funext fun x=>funext (h x)]
theorem vk(lo nrem:Nat):countRun' lo nrem=(do
 let t ←forIn [1:nrem] ((none,1):AS) fun _ t=>zp lo t
 match t.1 with
 |some r=>pure r
 |none=>
  if (t.2==nrem)=true then pure (some t.2)
  else if t.2 > 1 then do
   let r ←ltAt' lo (lo+t.2-1)
   match r with
   |some rose=>if rose=true then pure (some t.2) else do
    reverseSlice' lo (lo+t.2)
    zm lo nrem t.2
   |_=>pure none
  else zm lo nrem t.2):=by
 rw[countRun'_eq];have e3:∀n,(do
   reverseSlice' lo (lo+n)
   let mut n:=n
   for _ in [n:nrem] do
    let some smaller ←ltAt' (lo+n) (lo+n-1)|return none
    if smaller then break
    n:=n+1
   return some n:SM (Option Nat))=wG lo nrem n:=fun n=>by
  unfold wG;refine fz rfl fun _=>?_;refine fz (EB fun _ t=>?_) fun t=>?_
  ·unfold zp;refine fz rfl fun r=>?_;cases r<;>rfl
  ·obtain⟨r,n⟩:=t;cases r<;>rfl
 have e1:∀n,(do
   liftM (rule "list.sort.descending-run")
   let mut n:=n
   n:=n+1
   let mut neq:=0
   for _ in [n:nrem] do
    let some smaller ←ltAt' (lo+n) (lo+n-1)|return none
    if smaller then
     if neq > 0 then reverseSlice' (lo+n-(neq+1)) (lo+n)
     neq:=0
    else
     let some larger ←ltAt' (lo+n-1) (lo+n)|return none
     if larger then break
     neq:=neq+1
    n:=n+1
   if neq > 0 then reverseSlice' (lo+n-(neq+1)) (lo+n)
   reverseSlice' lo (lo+n)
   for _ in [n:nrem] do
    let some smaller ←ltAt' (lo+n) (lo+n-1)|return none
    if smaller then break
    n:=n+1
   return some n:SM (Option Nat))=zm lo nrem n:=fun n=>by
  unfold zm;refine fz rfl fun _=>?_;refine fz (EB fun _ t=>?_) fun t=>?_
  ·unfold M3;refine fz rfl fun r=>?_;cases r with
   |none=>rfl
   |some b=>
    cases b with
    |true=>rfl
    |false=>
     show (ltAt' _ _ >>= _)=(ltAt' _ _ >>= _);refine fz rfl fun r=>?_;cases r<;>rfl
  ·obtain⟨r,n,q⟩:=t;cases r with
   |some r=>rfl
   |none=>
    dsimp only;by_cases h:q > 0
    ·rw[if_pos h,if_pos h];refine fz rfl fun _=>?_;exact e3 n
    ·rw[if_neg h,if_neg h];exact e3 n
 refine fz (EB fun _ t=>?_) fun t=>?_
 ·unfold zp;refine fz rfl fun r=>?_;cases r<;>rfl
 obtain⟨r,n⟩:=t;cases r with
 |some r=>rfl
 |none=>
  dsimp only;by_cases h:(n==nrem)=true
  ·rw[if_pos h,if_pos h]
  ·rw[if_neg h,if_neg h];by_cases h2:n > 1
   ·rw[if_pos h2,if_pos h2];refine fz rfl fun r=>?_;cases r with
    |none=>rfl
    |some b=>
     cases b with
     |true=>rfl
     |false=>
      dsimp only;rw[if_neg ak,if_neg ak];refine fz rfl fun _=>?_;exact e1 n
   ·rw[if_neg h2,if_neg h2];exact e1 n
section
variable {prog:aw} {w:aG} {A:aR} {E:δ->ζ->Prop} {κ:cv} {s:ζ} {Ok:θ->Prop} {L:θ->θ->Bool} {st:aH}
theorem xy(C:kd prog w A κ s Ok L)(hk:kindOf st=κ){i j:Nat}{x y:θ}(ex:(arrOf st)[i]?=some x)(ey:(arrOf st)[j]?=some y)(hx:Ok x)(hy:Ok y){Q:Option Bool->aH->ζ->Prop}(h:Q (some (L x y)) st s):kasC (model prog w) A E (ltAt' i j) Q st s:=by
 rw[ltAt'_eq];refine Δ (jv ?_);exact Δ (jV ex (Δ (jV ey (xf C hk hx hy h))))
theorem zZ{i j:Nat}{Q:Unit->aH->ζ->Prop}(h:Q () (setArr st (mirror (arrOf st) i j ((j-i) / 2))) s):kasC (model prog w) A E (reverseSlice' i j) Q st s:=by
 rw[reverseSlice'_eq];exact gX h
structure At(κ:cv)(st0 st:aH)(P D T S:List θ):Prop where
 kind:kindOf st=κ
 fail:failedOf st=none
 pend:pendingOf st=pendingOf st0
 arr:(arrOf st).toList=P++D++T++S
theorem At.hd{st0:aH}{P D T S:List θ}{t:θ}(h:At κ st0 st P D (t::T) S):(arrOf st)[P.length+D.length]?=some t:=by
 rw[←ξ];refine xA (S:=T++S) ?_;rw[h.arr];simp
theorem At.lst{st0:aH}{P D T S:List θ}{d:θ}(h:At κ st0 st P (D++[d]) T S):(arrOf st)[P.length+(D++[d]).length-1]?=some d:=by
 have el:P.length+(D++[d]).length-1=(P++D).length:=by
  simp only[ξ,ag,bO];lia
 rw[el];refine xA (S:=T++S) ?_;rw[h.arr];simp
theorem At.next{st0:aH}{P D T S:List θ}{t:θ}(h:At κ st0 st P D (t::T) S):At κ st0 st P (D++[t]) T S:=⟨h.kind,h.fail,h.pend,by rw[h.arr];simp⟩
theorem At.rev{st0:aH}{P D B T S:List θ}{i j:Nat}(h:At κ st0 st P (D++B) T S)(hi:P.length+D.length=i)(hj:i+B.length=j):At κ st0 (setArr st (mirror (arrOf st) i j ((j-i) / 2))) P (D++B.reverse) T S:=by
 refine⟨h.kind,h.fail,h.pend,?_⟩;have e:(arrOf st).toList=(P++D)++B++(T++S):=by rw[h.arr];simp
 show (mirror (arrOf st) i j ((j-i) / 2)).toList=_;rw[Pp e (by rw[ξ];exact hi) hj];simp
abbrev Ge(L:θ->θ->Bool)(x y:θ):Prop:=L x y=false
theorem snoc_cases{xs:List θ}(h:0<xs.length):∃ys y,xs=ys++[y]:=⟨_,_,(m6 (fun z=>by rw[z] at h;simp at h)).symm⟩
theorem Pn(O:iK L){ys:List θ}{y t:θ}(h:(ys++[y]).Pairwise (Le L))(ht:Le L y t):(ys++[y]++[t]).Pairwise (Le L):=by
 rw[Ψ];refine⟨h,aT _ _,fun x hx z hz=>?_⟩;rw[ah.mp hz];rw[Ψ] at h;rcases ar.mp hx with q|q
 ·exact O.fS x y t (h.2.2 x q y (by simp)) ht
 ·rw[ah.mp q];exact ht
theorem Jt(O:iK L){ys:List θ}{y t:θ}(h:(ys++[y]).Pairwise (Ge L))(ht:Ge L y t):(ys++[y]++[t]).Pairwise (Ge L):=by
 rw[Ψ];refine⟨h,aT _ _,fun x hx z hz=>?_⟩;rw[ah.mp hz];rw[Ψ] at h;rcases ar.mp hx with q|q
 ·exact O.fS t y x ht (h.2.2 x q y (by simp))
 ·rw[ah.mp q];exact ht
structure Run(κ:cv)(L:θ->θ->Bool)(st0 st:aH)(P X S R T:List θ):Prop where
 at_:At κ st0 st P R T S
 fy:R.Pairwise (Le L)
 perm:(R++T).Perm X
 pos:0<R.length
theorem qU(C:kd prog w A κ s Ok L)(O:iK L){st0:aH}{P X S:List θ}{nrem n0:Nat}(ok:∀x∈X,Ok x)(hn:X.length=nrem){R0 T0:List θ}(h0:Run κ L st0 st P X S R0 T0)(hl0:R0.length=n0)
  {Q:AS->aH->ζ->Prop} (q:∀(R T:List θ) (st':aH),Run κ L st0 st' P X S R T->(T=[]∨∃t T' R' d,T=t::T'/\R=R'++[d]/\L t d=true)->Q (none,R.length) st' s):
  kasC (model prog w) A E (forIn [n0:nrem] ((none,n0):AS) fun _ t=>zp P.length t) Q st s:=by
 refine dO ?_;have hl:=h0.perm.length_eq;rw[ξ,hn] at hl;refine kZ (fun k (b:AS) st'=>b.1=none/\∃R T,Run κ L st0 st' P X S R T/\R.length=b.2/\T.length=k) ?_ ?_ _ _ _ ⟨rfl,R0,T0,h0,hl0,by rw[b7];lia⟩
 ·rintro⟨r,n⟩ st' ⟨rfl,R,T,hR,rfl,hT⟩;exact q R T st' hR (.inl (cJ hT))
 rintro xx k ⟨r,n⟩ st' ⟨rfl,R,T,hR,rfl,hT⟩;have hT:T.length=k+1:=hT;obtain⟨t,T',rfl⟩:∃t T',T=t::T':=by
  cases T with
  |nil=>simp at hT
  |cons t T'=>exact⟨t,T',rfl⟩
 obtain⟨R',d,rfl⟩:=snoc_cases hR.pos;have od:=ok d (hR.perm.mem_iff.mp (by simp));have ot:=ok t (hR.perm.mem_iff.mp (by simp));unfold zp;dsimp only;refine Δ (xy C hR.at_.kind hR.at_.hd hR.at_.lst ot od ?_);dsimp only;cases hl1:L t d with
 |false=>
  rw[if_neg ak];exact af ⟨rfl,rfl,R'++[d]++[t],T',⟨hR.at_.next,Pn O hR.fy hl1,by have:=hR.perm;simpa using this,by simp⟩,by simp,by simpa using hT⟩
 |true=>
  rw[if_pos rfl];exact af ⟨rfl,q _ _ st' hR (.inr ⟨t,T',R',d,rfl,rfl,hl1⟩)⟩
theorem Js(C:kd prog w A κ s Ok L)(O:iK L){st0:aH}{P X S:List θ}{nrem:Nat}(ok:∀x∈X,Ok x)(hn:X.length=nrem){D T:List θ}(h:At κ st0 st P D T S)(hg:D.Pairwise (Ge L))(hp:(D++T).Perm X)(h0:0<D.length)
  {Q:Option Nat->aH->ζ->Prop} (q:∀(R T:List θ) (st':aH),Run κ L st0 st' P X S R T->Q (some R.length) st' s):kasC (model prog w) A E (wG P.length nrem D.length) Q st s:=by
 unfold wG;refine Δ (zZ ?_);have h2:=At.rev (D:=[]) (B:=D) (i:=P.length) (j:=P.length+D.length) (by simpa using h) (by simp) rfl;refine Δ (qU C O ok hn (R0:=D.reverse) (T0:=T) ⟨by simpa using h2,?_,cW (cA _ (kJ D)) hp,by simpa using h0⟩ (by simp) fun R T' st' hR _=>af (q R T' st' hR));rw[fF];exact hg
theorem Jr(C:kd prog w A κ s Ok L)(O:iK L){st0:aH}{P X S:List θ}{nrem:Nat}(ok:∀x∈X,Ok x)(hn:X.length=nrem){D' T:List θ}{d t:θ}(h:At κ st0 st P (D'++[d]) (t::T) S)(hg:(D'++[d]).Pairwise (Ge L))(hp:(D'++[d]++t::T).Perm X)(hd:Ge L d t)
  {Q:Option Nat->aH->ζ->Prop} (q:∀(R T:List θ) (st':aH),Run κ L st0 st' P X S R T->Q (some R.length) st' s):kasC (model prog w) A E (zm P.length nrem (D'++[d]).length) Q st s:=by
 unfold zm;refine Δ (lF (gQ ?_));refine Δ (dO ?_);have hl:=hp.length_eq;rw[ξ,hn] at hl
 -- D++B,B of like ones at its end
 have out:∀(D B T:List θ) (st':aH),At κ st0 st' P (D++B) T S->(D++B).Pairwise (Ge L)->(∀x∈B,∀y∈B,L x y=false)->0<B.length->(D++B++T).Perm X->kasC (model prog w) A E (if B.length-1 > 0 then do
    reverseSlice' (P.length+(D++B).length-(B.length-1+1)) (P.length+(D++B).length)
    wG P.length nrem (D++B).length
   else wG P.length nrem (D++B).length) Q st' s:=fun D B T st' a g hB hb p=>by
  have le:(D++B).length=D.length+B.length:=ξ;by_cases h1:B.length-1 > 0
  ·rw[if_pos h1];refine Δ (zZ ?_);have a2:=a.rev (i:=P.length+(D++B).length-(B.length-1+1)) (j:=P.length+(D++B).length) (by lia) (by lia);have hl2:(D++B).length=(D++B.reverse).length:=by simp
   have g3:(D++B.reverse).Pairwise (Ge L):=by
    rw[Ψ] at g ⊢;refine⟨g.1,?_,fun x hx y hy=>g.2.2 x hx y (gk.mp hy)⟩;rw[fF];exact fR (fun {x y} hx hy _=>hB y hy x hx) g.2.1
   have r3:=Js (E:=E) C O ok hn a2 g3 (cW (cA _ (cG _ (kJ B))) p) (by simp;lia) q;rw[←hl2] at r3;exact r3
  ·rw[if_neg h1];exact Js C O ok hn a g p (by lia) q
 refine kZ (fun k (b:DS) st'=>b.1=none/\∃D B T,At κ st0 st' P (D++B) T S/\(D++B).Pairwise (Ge L)/\(∀x∈B,∀y∈B,L x y=false)/\0<B.length/\(D++B++T).Perm X/\b.2.1=(D++B).length/\b.2.2=B.length-1/\T.length=k) ?_ ?_ _ _ _ ⟨rfl,D'++[d],[t],T,h.next,Jt O hg hd,?_,by simp,by simpa using hp,by show (D'++[d]).length+1=_;simp,rfl,?_⟩
 ·rintro⟨r,n,qq⟩ st' ⟨rfl,D,B,T,a,g,hB,hb,p,rfl,rfl,_⟩;exact out D B T st' a g hB hb p
 ·rintro xx k ⟨r,n,qq⟩ st' ⟨rfl,D,B,T,a,g,hB,hb,p,rfl,rfl,hT⟩;have hT:T.length=k+1:=hT;obtain⟨u,T',rfl⟩:∃u T',T=u::T':=by
   cases T with
   |nil=>simp at hT
   |cons u T'=>exact⟨u,T',rfl⟩
  obtain⟨B',c,rfl⟩:=snoc_cases hb;have a':At κ st0 st' P (D++B'++[c]) (u::T') S:=by simpa using a
  have oc:=ok c (p.mem_iff.mp (by simp));have ou:=ok u (p.mem_iff.mp (by simp));have ghd:(arrOf st')[P.length+(D++(B'++[c])).length]?=some u:=a.hd;have glt:(arrOf st')[P.length+(D++(B'++[c])).length-1]?=some c:=by
   have:=a'.lst;rwa [aa D B' [c]] at this
  unfold M3;dsimp only;refine Δ (xy C a.kind ghd glt ou oc ?_);dsimp only;have g':(D++B'++[c]).Pairwise (Ge L):=by simpa using g
  cases hl1:L u c with
  |true=>
   rw[if_pos rfl];have hcu:Ge L c u:=O.ky _ _ hl1;have keep:∀(B2:List θ) (st2:aH),At κ st0 st2 P (D++B2) (u::T') S->B2.Perm (B'++[c])->∃D1 B1 T1,At κ st0 st2 P (D1++B1) T1 S/\(D1++B1).Pairwise (Ge L)/\(∀x∈B1,∀y∈B1,L x y=false)/\0<B1.length/\(D1++B1++T1).Perm X/\(D++(B'++[c])).length+1=(D1++B1).length/\0=B1.length-1/\T1.length=k:=fun B2 st2 a2 pb=>by
    refine⟨D++B2,[u],T',a2.next,?_,?_,by simp,?_,?_,rfl,by simpa using hT⟩
    ·rw[Ψ] at g ⊢;refine⟨?_,aT _ _,fun x hx y hy=>?_⟩
     ·rw[Ψ];refine⟨g.1,?_,fun x hx y hy=>g.2.2 x hx y (pb.mem_iff.mp hy)⟩;exact fR (fun {x y} hx hy _=>hB x (pb.mem_iff.mp hx) y (pb.mem_iff.mp hy)) (List.pairwise_of_forall (R:=fun _ _=>True) fun _ _=>trivial)
     ·rw[ah.mp hy];rcases ar.mp hx with z|z
      ·exact O.fS u c x hcu (g.2.2 x z c (by simp))
      ·exact O.fS u c x hcu (hB x (pb.mem_iff.mp z) c (by simp))
    ·intro x hx y hy;rw[ah.mp hx,ah.mp hy];exact O.yz _
    ·refine cW ?_ p;have:D++B2++[u]++T'=D++B2++(u::T'):=by simp
     rw[this];exact cA _ (cG _ pb)
    ·show (D++(B'++[c])).length+1=(D++B2++[u]).length;have:=pb.length_eq;simp only[ξ,ag,bO] at this ⊢;lia
   by_cases h1:(B'++[c]).length-1 > 0
   ·rw[if_pos h1];refine Δ (zZ ?_);have le:(D++(B'++[c])).length=D.length+(B'++[c]).length:=ξ;exact af ⟨rfl,rfl,keep _ _ (a.rev (i:=P.length+(D++(B'++[c])).length-((B'++[c]).length-1+1)) (j:=P.length+(D++(B'++[c])).length) (by lia) (by lia)) (kJ _)⟩
   ·rw[if_neg h1];exact af ⟨rfl,rfl,keep _ _ a (ku _)⟩
  |false=>
   rw[if_neg ak];refine Δ (xy C a.kind glt ghd oc ou ?_);dsimp only;cases hl2:L c u with
   |true=>
    rw[if_pos rfl];exact af ⟨rfl,out D (B'++[c]) (u::T') st' a g hB hb p⟩
   |false=>
    rw[if_neg ak];refine af ⟨rfl,rfl,D,B'++[c]++[u],T',by have:=a.next;simpa using this,by have:=Jt O g' hl2;simpa using this,?_,by simp,by simpa using p,by simp;lia,?_,by simpa using hT⟩
    ·intro x hx y hy;rcases ar.mp hx with z|z
     ·rcases ar.mp hy with z2|z2
      ·exact hB x z y z2
      ·rw[ah.mp z2];exact O.fS u c x hl2 (hB x z c (by simp))
     ·rw[ah.mp z];rcases ar.mp hy with z2|z2
      ·exact O.fS y c u (hB c (by simp) y z2) hl1
      ·rw[ah.mp z2];exact O.yz _
    ·show (B'++[c]).length-1+1=(B'++[c]++[u]).length-1;simp
 ·intro x hx y hy;rw[ah.mp hx,ah.mp hy];exact O.yz _
 ·rw[b7];simp only[ag] at hl;lia
theorem Pm(C:kd prog w A κ s Ok L)(O:iK L){st0:aH}{P X S:List θ}{lo nrem:Nat}(h:At κ st0 st P [] X S)(hlo:P.length=lo)(hn:X.length=nrem)(h1:0<nrem)(ok:∀x∈X,Ok x)
  {Q:Option Nat->aH->ζ->Prop} (q:∀(R T:List θ) (st':aH),Run κ L st0 st' P X S R T->Q (some R.length) st' s):kasC (model prog w) A E (countRun' lo nrem) Q st s:=by
 obtain⟨x0,X',rfl⟩:∃x0 X',X=x0::X':=by
  cases X with
  |nil=>simp at hn;lia
  |cons x r=>exact⟨x,r,rfl⟩
 subst hlo;rw[vk];refine Δ (qU C O (S:=S) ok hn (R0:=[x0]) (T0:=X') ⟨⟨h.kind,h.fail,h.pend,by rw[h.arr];simp⟩,aT _ _,ku _,by simp⟩ rfl fun R T st' hR o7=>?_);have hl:=hR.perm.length_eq;rw[ξ,hn] at hl;dsimp only;rcases o7 with rfl|⟨t,T',R',d,rfl,rfl,htd⟩
 ·rw[if_pos (by rw[beq_iff_eq];simp at hl;lia)];exact af (q R [] st' hR)
 have hne:(R'++[d]).length≠nrem:=fun z=>by simp only[ag] at hl;lia
 rw[if_neg (by rw[beq_iff_eq];exact hne)];have hdt:Ge L d t:=O.ky _ _ htd;by_cases h2:(R'++[d]).length > 1
 ·rw[if_pos h2];obtain⟨x1,R'',rfl⟩:∃x1 R'',R'=x1::R'':=by
   cases R' with
   |nil=>simp at h2
   |cons x r=>exact⟨x,r,rfl⟩
  have o1:=ok x1 (hR.perm.mem_iff.mp (by simp));have od:=ok d (hR.perm.mem_iff.mp (by simp));have g1:(arrOf st')[P.length]?=some x1:=xA (S:=R''++[d]++(t::T')++S) (by rw[hR.at_.arr];simp);refine Δ (xy C hR.at_.kind g1 hR.at_.lst o1 od ?_);dsimp only;cases hr:L x1 d with
  |true=>
   rw[if_pos rfl];exact af (q _ _ st' hR)
  |false=>
   rw[if_neg ak];refine Δ (zZ ?_)
   -- all are alike
   have up:∀x∈x1::R''++[d],Le L x1 x:=um O hR.fy rfl;have dn:∀x∈x1::R''++[d],Le L x d:=fun x hx=>by
    have:=hR.fy;rw[Ψ] at this;rcases ar.mp hx with z|z
    ·exact this.2.2 x z d (by simp)
    ·rw[ah.mp z];exact O.yz _
   have like:∀x∈x1::R''++[d],∀y∈x1::R''++[d],L x y=false:=fun x hx y hy=>O.fS y d x (dn y hy) (O.fS d x1 x hr (up x hx));have a2:=At.rev (D:=[]) (B:=x1::R''++[d]) (i:=P.length) (j:=P.length+(x1::R''++[d]).length) (by simpa using hR.at_) (by simp) rfl;have er:(x1::R''++[d]).reverse=(R''++[d]).reverse++[x1]:=by simp
   rw[bw,er] at a2;have hl3:(x1::R''++[d]).length=((R''++[d]).reverse++[x1]).length:=by simp
   rw[hl3] at a2 ⊢;refine Jr C O ok hn a2 ?_ ?_ ?_ q
   ·rw[←er];rw[fF];exact fR (fun {x y} hx hy _=>like y hy x hx) hR.fy
   ·rw[←er];exact cW (cA _ (kJ _)) hR.perm
   ·exact O.fS t d x1 hdt (like x1 (by simp) d (by simp))
 ·rw[if_neg h2];have:R'=[]:=by
   cases R' with
   |nil=>rfl
   |cons x r=>simp at h2
  subst this;exact Jr C O ok hn (D':=[]) hR.at_ (aT _ _) hR.perm hdt q
end
end fV
namespace fV
open PySem PySem.W PyProof.Rows
section
variable {prog:aw} {w:aG} {A:aR} {E:δ->ζ->Prop} {κ:cv} {s:ζ} {Ok:θ->Prop} {L:θ->θ->Bool} {st:aH}
theorem Pl{β:Type}{body:Nat->β->SM (ForInStep β)}{Q:β->aH->ζ->Prop}(I:Nat->β->aH->Prop)(e:Nat)(hz:∀b st,I e b st->Q b st s)
  (hs:∀x b st,x<e->I x b st->kasC (model prog w) A E (body x b) (fun r st' s'=>s'=s/\match r with
   |.done b'=>Q b' st' s
   | .yield b'=>I (x+1) b' st') st s) (m:Nat):∀(a:Nat) (b:β) (st:aH),a+m=e->I a b st->kasC (model prog w) A E (forIn (List.range' a m) b body) Q st s:=by
 induction m with
 |zero=>
  intro a b st h1 h2;have:a=e:=by lia
  subst this;exact kasC_nil (hz b st h2)
 |succ m ih=>
  intro a b st h1 h2;rw[List.range'_succ];refine kasC_cons (nJ (hs a b st (by lia) h2) ?_);rintro r st' s' ⟨rfl,z⟩;cases r with
  |done b'=>exact z
  |yield b'=>exact ih (a+1) b' st' (by lia) z
theorem Pk{i j:Nat}{Q:Unit->aH->ζ->Prop}(h:Q () (setArr st (bubble (arrOf st) i (i-j))) s):kasC (model prog w) A E (moveDown' i j) Q st s:=by
 rw[moveDown'_eq];exact gX h
theorem Pj{st0:aH}{P R T S:List θ}(h:At κ st0 st P R T S){i:Nat}{x:θ}(e:R[i]?=some x):(arrOf st)[P.length+i]?=some x:=by
 obtain⟨hi,rfl⟩:=Φ.mp e;rw[←bf,h.arr,aa (P++R),get3,if_neg (by lia),if_pos (by lia),show P.length+i-P.length=i by lia];exact e
theorem aal(C:kd prog w A κ s Ok L)(O:iK L){st0:aH}{P X S R T:List θ}{lo n:Nat}(h:Run κ L st0 st P X S R T)(hlo:P.length=lo)(hn:R.length≤n)(hx:n≤X.length)(ok:∀x∈X,Ok x)
  {Q:Bool->aH->ζ->Prop} (q:∀(R T:List θ) (st':aH),Run κ L st0 st' P X S R T->R.length=n->Q true st' s):kasC (model prog w) A E (binarySort' lo n R.length) Q st s:=by
 subst hlo;rw[binarySort'_eq];have hm:max R.length 1=R.length:=by have:=h.pos;lia
 rw[hm];refine Δ (dO ?_);refine Pl (fun k (b:Option Bool×Unit) st'=>b.1=none/\∃R T,Run κ L st0 st' P X S R T/\R.length=k) n ?_ ?_ _ _ _ _ (by lia) ⟨rfl,R,T,h,rfl⟩
 ·rintro⟨r,⟨⟩⟩ st' ⟨rfl,R,T,hR,hl⟩;exact af (q R T st' hR hl)
 rintro k ⟨r,⟨⟩⟩ st' hk ⟨rfl,R,T,hR,rfl⟩;have hl:=hR.perm.length_eq;rw[ξ] at hl;obtain⟨x,T',rfl⟩:∃t T',T=t::T':=by
  cases T with
  |nil=>simp at hl;lia
  |cons t T'=>exact⟨t,T',rfl⟩
 have ox:=ok x (hR.perm.mem_iff.mp (by simp));have get:∀i,i<R.length->∃y,R[i]?=some y/\Ok y:=fun i hi=>⟨R[i],Θ hi,ok _ (hR.perm.mem_iff.mp (aM _ (eH hi)))⟩;have out:∀l,l≤R.length->(∀i y,i<l->R[i]?=some y->Le L y x)->(∀i y,l≤i->R[i]?=some y->L x y=true)->kasC (model prog w) A E (do
   moveDown' (P.length+R.length) (P.length+l)
   pure (gC (none,())):SM (ForInStep (Option Bool×Unit))) (fun r st' s'=>s'=s/\match r with
    | .done b'=>kasC (model prog w) A E (match b'.1 with
     |some r=>pure r
     | none=>pure true:SM Bool) Q st' s
    | .yield b'=>b'.1=none/\∃R2 T,Run κ L st0 st' P X S R2 T/\R2.length=R.length+1) st' s:=fun l hl1 h1 h2=>by
  refine Δ (Pk (af ⟨rfl,rfl,R.take l++(x::R.drop l),T',⟨⟨hR.at_.kind,hR.at_.fail,hR.at_.pend,?_⟩,?_,?_,by simp;lia⟩,?_⟩))
  ·have e:(arrOf st').toList=(P++R.take l)++(R.drop l++[x])++(T'++S):=by
    have eR:P++R=P++(R.take l++R.drop l):=by rw[bC]
    rw[hR.at_.arr,eR];simp only[aa,List.singleton_append,List.cons_append,bw]
   have:=Po e (src:=P.length+R.length) (d:=P.length+R.length-(P.length+l)) (by simp only[ξ,bA,aV];lia) (by rw[aV];lia);show (bubble (arrOf st') (P.length+R.length) (P.length+R.length-(P.length+l))).toList=_;rw[this];simp
  ·have hs:=hR.fy;rw[←bC l R,Ψ] at hs;rw[Ψ];have tk:∀z∈R.take l,Le L z x:=fun z hz=>by
    obtain⟨i,hi,e⟩:=ed hz;rw[bA] at hi;refine h1 i z (by lia) ?_;have:=Θ (l:=R.take l) (i:=i) (by rw[bA];lia);rw[e,fQ (by lia)] at this;exact this
   have dr:∀z∈R.drop l,Le L x z:=fun z hz=>by
    obtain⟨i,hi,e⟩:=ed hz;rw[aV] at hi;refine O.ky _ _ (h2 (l+i) z (by lia) ?_);have:=Θ (l:=R.drop l) (i:=i) (by rw[aV];lia);rw[e,gv] at this;exact this
   refine⟨hs.1,b5.mpr ⟨dr,hs.2.1⟩,fun a ha b hb=>?_⟩;rcases ay.mp hb with rfl|hb
   ·exact tk a ha
   ·exact hs.2.2 a ha b hb
  ·refine cW ?_ hR.perm;have e1:R++x::T'=R.take l++(R.drop l++x::T'):=by rw[←aa,bC]
   rw[e1,aa];refine cG _ ?_;exact (g8 (a:=x) (l₁:=R.drop l) (l₂:=T')).symm
  ·simp only[ξ,ag,bA,aV];lia
 dsimp only;refine Δ (dO ?_);refine kZ (fun k (b:Option Bool×Nat×Nat) st2=>st2=st'/\b.1=none/\b.2.1≤b.2.2/\b.2.2≤R.length/\b.2.2-b.2.1≤k/\(∀i y,i<b.2.1->R[i]?=some y->Le L y x)/\(∀i y,b.2.2≤i->R[i]?=some y->L x y=true)) ?_ ?_ _ _ _ ⟨rfl,rfl,aQ _,υ _,by rw[b7];exact υ _,fun i y hi=>absurd hi (qc _),fun i y hi e=>?_⟩
 ·rintro⟨r,l,rr⟩ st2 ⟨rfl,rfl,a1,a2,a3,a4,a5⟩;have a1:l≤rr:=a1;have a3:rr-l≤0:=a3;have e:l=rr:=by lia
  subst e;exact out l a2 a4 a5
 ·rintro xx k ⟨r,l,rr⟩ st2 ⟨rfl,rfl,a1,a2,a3,a4,a5⟩;have a1:l≤rr:=a1;have a2:rr≤R.length:=a2;have a3:rr-l≤k+1:=a3;dsimp only;by_cases hge:l≥rr
  ·rw[if_pos hge];have e:l=rr:=by lia
   subst e;exact af ⟨rfl,out l a2 a4 a5⟩
  ·rw[if_neg hge];obtain⟨y,ey,oy⟩:=get ((l+rr) / 2) (by lia);refine Δ (xy C hR.at_.kind hR.at_.hd (Pj hR.at_ ey) ox oy ?_);dsimp only;cases hc:L x y with
   |true=>
    rw[if_pos rfl];refine af ⟨rfl,rfl,rfl,by show l≤(l+rr) / 2;lia,by show (l+rr) / 2≤R.length;lia,by show (l+rr) / 2-l≤k;lia,a4,fun i z hi ez=>?_⟩;have hyz:=pw_get hR.fy O hi ey ez;cases hxz:L x z with
    |true=>rfl
    |false=>
     have:Le L y x:=O.fS y z x hyz hxz;have this:L x y=false:=this;rw[hc] at this;cases this
   |false=>
    rw[if_neg ak];refine af ⟨rfl,rfl,rfl,by show (l+rr) / 2+1≤rr;lia,a2,by show rr-((l+rr) / 2+1)≤k;lia,fun i z hi ez=>?_,a5⟩;have hi:i<(l+rr) / 2+1:=hi;exact O.fS z y x (pw_get hR.fy O (by lia) ez ey) hc
 ·have:=(Φ.mp e).1;have hi:R.length≤i:=hi;lia
end
end fV
namespace fV
open PySem PySem.W PyProof.Rows
abbrev PT:=Nat×Nat×Nat
def i7:List (List θ)->Nat->List PT->Prop
 |[],_,[]=>True
 |r::rs,off,(s,n,_)::ps=>s=off/\n=r.length/\i7 rs (off+r.length) ps
 |_,_,_=>False
theorem i7.len:∀{rs:List (List θ)} {off:Nat} {ps:List PT},i7 rs off ps->ps.length=rs.length
 |[],_,[],_=>rfl
 |[],_,_::_,h=>h.elim
 |_::_,_,[],h=>h.elim
 |r::rs,off,(s,n,p)::ps,h=>by
  have:=i7.len h.2.2;simp[this]
theorem i7.cut:∀{as rs:List (List θ)} {off:Nat} {ps:List PT},i7 (as++rs) off ps->∃p1 p2,ps=p1++p2/\i7 as off p1/\i7 rs (off+as.flatten.length) p2
 |[],rs,off,ps,h=>⟨[],ps,rfl,trivial,by simpa using h⟩
 |a::as,rs,off,[],h=>h.elim
 |a::as,rs,off,(s,n,p)::ps,h=>by
  obtain⟨h1,h2,h3⟩:=h;obtain⟨p1,p2,rfl,h4,h5⟩:=i7.cut (as:=as) h3;exact⟨(s,n,p)::p1,p2,rfl,⟨h1,h2,h4⟩,by rw[e7,ξ,←sr];exact h5⟩
theorem i7.app:∀{as rs:List (List θ)} {off:Nat} {p1 p2:List PT},i7 as off p1->i7 rs (off+as.flatten.length) p2->i7 (as++rs) off (p1++p2)
 |[],rs,off,[],p2,_,h=>by simpa using h
 |[],_,_,_::_,_,h,_=>h.elim
 |_::_,_,_,[],_,h,_=>h.elim
 |a::as,rs,off,(s,n,p)::p1,p2,h,h2=>⟨h.1,h.2.1,i7.app h.2.2 (by rw[e7,ξ,←sr] at h2;exact h2)⟩
theorem i7.mod{f:PT->PT}(hf:∀p,(f p).1=p.1/\(f p).2.1=p.2.1):∀{rs:List (List θ)} {off i:Nat} {ps:List PT},i7 rs off ps->i7 rs off (ps.modify i f)
 |[],_,i,[],_=>by
  cases i<;>exact trivial
 |[],_,_,_::_,h=>h.elim
 |_::_,_,_,[],h=>h.elim
 |r::rs,off,0,(s,n,p)::ps,h=>by
  have h1:=hf (s,n,p);show i7 (r::rs) off (f (s,n,p)::ps);obtain⟨a,b,c⟩:=h;generalize f (s,n,p)=q at h1;obtain⟨q1,q2,q3⟩:=q;have e1:q1=s:=h1.1;have e2:q2=n:=h1.2;exact⟨e1.trans a,e2.trans b,c⟩
 |r::rs,off,i+1,(s,n,p)::ps,h=>⟨h.1,h.2.1,i7.mod hf (i:=i) h.2.2⟩
section
variable {prog:aw} {w:aG} {A:aR} {E:δ->ζ->Prop} {κ:cv} {s:ζ} {Ok:θ->Prop} {L:θ->θ->Bool} {st:aH} {X0:List θ}
structure SS(κ:cv)(L:θ->θ->Bool)(X0:List θ)(st:aH)(rs:List (List θ))(T:List θ):Prop where
 kind:kindOf st=κ
 fail:failedOf st=none
 pend:i7 rs 0 (pendingOf st).toList
 arr:(arrOf st).toList=rs.flatten++T
 fy:∀r∈rs,r.Pairwise (Le L)/\0<r.length
 perm:(rs.flatten++T).Perm X0
theorem SS.size{rs:List (List θ)}{T:List θ}(h:SS κ L X0 st rs T):(pendingOf st).size=rs.length:=by
 rw[←aS];exact h.pend.len
theorem aak{ps:Array PT}{p1 p2:List PT}{x y z:PT}{i:Nat}(e:ps.toList=p1++x::y::p2)(hi:p1.length=i):((ps.setIfInBounds i z).eraseIdxIfInBounds (i+1)).toList=p1++z::p2:=by
 subst hi;have e1:(ps.setIfInBounds p1.length z).toList=p1++z::y::p2:=by
  rw[oe,e,rb _ _ (υ _),mv];rfl
 rw[Array.toList_eraseIdxIfInBounds,e1,List.eraseIdx_append_of_length_le (by lia),show p1.length+1-p1.length=1 by lia];rfl
theorem HF{rs:List (List θ)}{i:Nat}(h:i+1<rs.length):∃as r1 r2 bs,rs=as++r1::r2::bs/\as.length=i:=by
 refine⟨rs.take i,rs[i],rs[i+1],rs.drop (i+2),?_,by rw[bA];lia⟩;have h1:rs.drop i=rs[i]::rs.drop (i+1):=cO (by lia);have h2:rs.drop (i+1)=rs[i+1]::rs.drop (i+2):=cO h;rw[←h2,←h1,bC]
theorem zh(C:kd prog w A κ s Ok L)(O:iK L)(ok:∀x∈X0,Ok x){rs:List (List θ)}{T:List θ}(h:SS κ L X0 st rs T){i:Nat}(hi:i+1<rs.length)
  {Q:Bool->aH->ζ->Prop} (q:∀(rs':List (List θ)) (st':aH),SS κ L X0 st' rs' T->rs'.length+1=rs.length->rs'.flatten.length=rs.flatten.length->Q true st' s):kasC (model prog w) A E (lG i) Q st s:=by
 obtain⟨as,r1,r2,bs,rfl,hal⟩:=HF hi;obtain⟨p1,p2,ep,hp1,hp2⟩:=h.pend.cut;obtain⟨x,y,p3,rfl⟩:∃x y p3,p2=x::y::p3:=by
  match p2,hp2 with
  |[],hp2=>exact hp2.elim
  |[x],hp2=>obtain⟨a,b,c⟩:=x;exact hp2.2.2.elim
  |x::y::p3,_=>exact⟨x,y,p3,rfl⟩
 obtain⟨sa,na,pw⟩:=x;obtain⟨sb,nb,pw2⟩:=y;obtain⟨e1,e2,e3,e4,hp3⟩:=hp2;rw[tx] at e1 e3 hp3;have hl1:p1.length=i:=by rw[hp1.len];exact hal
 have g1:(pendingOf st)[i]?=some (sa,na,pw):=by
  rw[←bf,ep,bD (by lia),show i-p1.length=0 by lia];rfl
 have g2:(pendingOf st)[i+1]?=some (sb,nb,pw2):=by
  rw[←bf,ep,bD (by lia),show i+1-p1.length=1 by lia];rfl
 have sr1:=h.fy r1 (by simp);have sr2:=h.fy r2 (by simp);have fe:(as++r1::r2::bs).flatten=as.flatten++r1++r2++bs.flatten:=by simp
 refine Pq C O h.kind h.fail (P:=as.flatten) (R1:=r1) (R2:=r2) (S:=bs.flatten++T) g1 g2 (by rw[h.arr,fe];simp only[aa]) e1.symm e2.symm e4.symm (by lia) (by lia) (by lia) (fun z hz=>ok z (h.perm.mem_iff.mp ?_)) sr1.1 sr2.1 fun M st' pM sM k' f' pe ae=>?_
 ·rw[fe];rcases ar.mp hz with hz|hz
  ·simp[hz]
  ·simp[hz]
 ·have lM:M.length=r1.length+r2.length:=by rw[pM.length_eq,ξ]
  have fe2:(as++M::bs).flatten=as.flatten++M++bs.flatten:=by simp
  refine q (as++M::bs) st' ⟨k',f',?_,by rw[ae,fe2];simp only[aa],fun r hr=>?_,?_⟩ (by simp;lia) (by rw[fe2,fe];simp only[ξ];lia)
  ·rw[pe,aak ep hl1];refine i7.app hp1 ⟨by lia,by lia,?_⟩;rw[tx,lM,←sr];exact hp3
  ·rcases ar.mp hr with z|z
   ·exact h.fy r (aM _ z)
   ·rcases ay.mp z with rfl|z
    ·exact⟨sM,by lia⟩
    ·exact h.fy r (aq _ (χ _ (χ _ z)))
  ·refine cW ?_ h.perm;rw[fe2,fe,aa as.flatten r1 r2];exact cA _ (cA _ (cG _ pM))
def C1(pw:Nat):SM (ForInStep (Option Unit×Unit)):=do
 let g ←get
 match (if (pendingOf g).size > 1 then (pendingOf g)[(pendingOf g).size-2]? else none) with
 |some (_,_,older)=>if older≤pw then pure (.done (none,())) else do
  let ok ←lG ((pendingOf g).size-2)
  if (!ok)=true then pure (.done (some (),())) else pure (.yield (none,()))
 |_=>pure (.done (none,()))
def mV(size lo n:Nat):SM (ForInStep (Option Unit×Nat)):=do
 let g ←get
 match (pendingOf g).back? with
 |some (s1,n1,_)=>do
  let t ←forIn [0:size] ((none,()):Option Unit×Unit) fun _ _=>C1 (power' size (2*s1+n1) (2*s1+n1+n1+n) size)
  match t.1 with
  |some r=>pure (.done (some r,lo))
  |none=>do
   modify fun s=>setPending s ((pendingOf s).modify ((pendingOf s).size-1) fun x=>(x.1,x.2.1,power' size (2*s1+n1) (2*s1+n1+n1+n) size))
   modify fun s=>setPending s ((pendingOf s).push (lo,n,0))
   pure (.yield (none,lo+n))
 |_=>do
  modify fun s=>setPending s ((pendingOf s).push (lo,n,0))
  pure (.yield (none,lo+n))
theorem zY{α:Type}{m m':SM α}{Q:α->aH->ζ->Prop}(e:m=m')(h:kasC (model prog w) A E m' Q st s):kasC (model prog w) A E m Q st s:=e▸h
theorem aaj(C:kd prog w A κ s Ok L)(O:iK L)(ok:∀x∈X0,Ok x){rs:List (List θ)}{R T:List θ}(h:SS κ L X0 st rs (R++T))(hR:R.Pairwise (Le L)/\0<R.length){size lo:Nat}(hlo:lo=rs.flatten.length)
  {Q:ForInStep (Option Unit×Nat)->aH->ζ->Prop} (q:∀(rs':List (List θ)) (st':aH),SS κ L X0 st' rs' T->lo+R.length=rs'.flatten.length->Q (.yield (none,lo+R.length)) st' s):kasC (model prog w) A E (mV size lo R.length) Q st s:=by
 have push:∀(rs1:List (List θ)) (st1:aH),SS κ L X0 st1 rs1 (R++T)->rs1.flatten.length=lo->Q (.yield (none,lo+R.length)) (setPending st1 ((pendingOf st1).push (lo,R.length,0))) s:=fun rs1 st1 h1 hl=>by
  have fe:(rs1++[R]).flatten=rs1.flatten++R:=by simp
  refine q (rs1++[R]) _ ⟨h1.kind,h1.fail,?_,?_,fun r hr=>?_,?_⟩ (by rw[fe,ξ];lia)
  ·show i7 (rs1++[R]) 0 ((pendingOf st1).push (lo,R.length,0)).toList;rw[ow];exact i7.app h1.pend ⟨by lia,rfl,trivial⟩
  ·show (arrOf st1).toList=_;rw[h1.arr,fe,aa]
  ·rcases ar.mp hr with z|z
   ·exact h1.fy r z
   ·rw[ah.mp z];exact hR
  ·rw[fe,aa];exact h1.perm
 unfold mV;refine Δ (jv ?_);cases hb:(pendingOf st).back? with
 |none=>exact Δ (gX (af (push rs st h hlo.symm)))
 |some p=>
  obtain⟨s1,n1,p3⟩:=p;dsimp only;refine Δ (dO ?_);refine kZ (fun k (b:Option Unit×Unit) st'=>b.1=none/\∃rs',SS κ L X0 st' rs' (R++T)/\rs'.flatten.length=lo) ?_ ?_ _ _ _ ⟨rfl,rs,h,hlo.symm⟩
  ·rintro⟨r,⟨⟩⟩ st' ⟨rfl,rs',h',hl'⟩;dsimp only;refine Δ (gX (Δ (gX (af ?_))));refine push rs' _ ⟨h'.kind,h'.fail,?_,h'.arr,h'.fy,h'.perm⟩ hl';show i7 rs' 0 ((pendingOf st').modify _ _).toList;rw[sC];exact i7.mod (f:=fun x=>(x.1,x.2.1,power' size (2*s1+n1) (2*s1+n1+n1+R.length) size)) (fun p=>⟨rfl,rfl⟩) h'.pend
  ·rintro xx k ⟨r,⟨⟩⟩ st' ⟨rfl,rs',h',hl'⟩;have fin:kasC (model prog w) A E (match (none:Option Unit) with
     |some r=>pure (ForInStep.done (some r,lo))
     |none=>do
      modify fun s=>setPending s ((pendingOf s).modify ((pendingOf s).size-1) fun x=>(x.1,x.2.1,power' size (2*s1+n1) (2*s1+n1+n1+R.length) size))
      modify fun s=>setPending s ((pendingOf s).push (lo,R.length,0))
      pure (.yield (none,lo+R.length)):SM (ForInStep (Option Unit×Nat))) Q st' s:=by
    dsimp only;refine Δ (gX (Δ (gX (af ?_))));refine push rs' _ ⟨h'.kind,h'.fail,?_,h'.arr,h'.fy,h'.perm⟩ hl';show i7 rs' 0 ((pendingOf st').modify _ _).toList;rw[sC];exact i7.mod (f:=fun x=>(x.1,x.2.1,power' size (2*s1+n1) (2*s1+n1+n1+R.length) size)) (fun p=>⟨rfl,rfl⟩) h'.pend
   unfold C1;refine Δ (jv ?_);by_cases h2:(pendingOf st').size > 1
   ·rw[if_pos h2];have h3:=h'.size;obtain⟨p,hp⟩:∃p,(pendingOf st')[(pendingOf st').size-2]?=some p:=⟨_,cQ (by lia)⟩;rw[hp];obtain⟨a1,a2,older⟩:=p;dsimp only;by_cases g:older≤power' size (2*s1+n1) (2*s1+n1+n1+R.length) size
    ·rw[if_pos g];exact af ⟨rfl,fin⟩
    ·rw[if_neg g];refine Δ (zh C O ok h' (by lia) fun rs2 st2 h4 _ h5=>?_);exact af ⟨rfl,rfl,rs2,h4,by lia⟩
   ·rw[if_neg h2];exact af ⟨rfl,fin⟩
end
end fV
namespace fV
open PySem PySem.W PyProof.Rows
section
variable {prog:aw} {w:aG} {A:aR} {E:δ->ζ->Prop} {κ:cv} {s:ζ} {Ok:θ->Prop} {L:θ->θ->Bool} {st:aH} {X0:List θ}
theorem aai{rs:List (List θ)}(h:∀r∈rs,0<r.length):rs.length≤rs.flatten.length:=by
 induction rs with
 |nil=>simp
 |cons r rs ih=>
  have h1:=h r ο;have h2:=ih fun x hx=>h x (χ _ hx);rw[ag,e7,ξ];lia
theorem Jq:∀(f n r:Nat),0<n->0<minRun' f n r
 |0,n,r,h=>by
  show 0<n+r;lia
 |f+1,n,r,h=>by
  rw[minRun'_succ];split
  ·lia
  ·exact Jq f _ _ (by lia)
def Bk(p:Array PT):Nat:=if (if p.size-2 > 0 then p[p.size-2-1]?.map (·.2.1) else none).any (· < (p[p.size-2+1]?.elim 0 (·.2.1))) then p.size-2-1 else p.size-2
theorem aah(p:Array PT):Bk p≤p.size-2:=by
 unfold Bk;generalize (if p.size-2 > 0 then p[p.size-2-1]?.map (·.2.1) else none).any (· < (p[p.size-2+1]?.elim 0 (·.2.1)))=b;cases b with
 |true=>rw[if_pos rfl];lia
 |false=>rw[if_neg ak];lia
def C6:SM (ForInStep (Option Unit×Unit)):=do
 let g ←get
 if (pendingOf g).size≤1 then pure (.done (none,()))
 else do
  let ok ←lG (Bk (pendingOf g))
  if (!ok)=true then pure (.done (some (),())) else pure (.yield (none,()))
def Bl(size:Nat):SM Unit:=do
 let t ←forIn [0:size] ((none,()):Option Unit×Unit) fun _ _=>C6
 match t.1 with
 |some r=>pure r
 |none=>pure ()
theorem Jp(C:kd prog w A κ s Ok L)(O:iK L)(ok:∀x∈X0,Ok x){rs:List (List θ)}(h:SS κ L X0 st rs [])
  {Q:Unit->aH->ζ->Prop} (q:∀st',failedOf st'=none->(arrOf st').toList.Perm X0->(arrOf st').toList.Pairwise (Le L)->Q () st' s):kasC (model prog w) A E (Bl X0.length) Q st s:=by
 have out:∀(rs:List (List θ)) (st':aH),SS κ L X0 st' rs []->rs.length≤1->Q () st' s:=fun rs st' h hl=>by
  have e:=h.arr;rw[cV] at e;have p:=h.perm;rw[cV] at p;refine q st' h.fail (by rw[e];exact p) ?_;rw[e]
  match rs,hl,h with
  |[],_,_=>exact iS
  |[r],_,h=>
   have:=(h.fy r ο).1;simpa using this
 unfold Bl;refine Δ (dO ?_);have hl:=aai fun r hr=>(h.fy r hr).2;have hz:=h.perm.length_eq;rw[cV] at hz;refine kZ (fun k (b:Option Unit×Unit) st'=>b.1=none/\∃rs,SS κ L X0 st' rs []/\rs.length≤k+1) ?_ ?_ _ _ _ ⟨rfl,rs,h,by rw[b7];lia⟩
 ·rintro⟨r,⟨⟩⟩ st' ⟨rfl,rs,h',hl'⟩;exact af (out rs st' h' hl')
 ·rintro xx k ⟨r,⟨⟩⟩ st' ⟨rfl,rs,h',hl'⟩;unfold C6;refine Δ (jv ?_);have hs:=h'.size;by_cases g:(pendingOf st').size≤1
  ·rw[if_pos g];exact af ⟨rfl,af (out rs st' h' (by lia))⟩
  ·rw[if_neg g];have:=aah (pendingOf st');refine Δ (zh C O ok h' (by lia) fun rs2 st2 h4 h5 _=>?_);exact af ⟨rfl,rfl,rs2,h4,by lia⟩
theorem aag(C:kd prog w A κ s Ok L)(O:iK L)(ok:∀x∈X0,Ok x)(hk:kindOf st=κ)(hf:failedOf st=none)(hp:pendingOf st = #[])(ha:(arrOf st).toList=X0)(h0:0<X0.length)
  {Q:Unit->aH->ζ->Prop} (q:∀st',failedOf st'=none->(arrOf st').toList.Perm X0->(arrOf st').toList.Pairwise (Le L)->Q () st' s):kasC (model prog w) A E sortRuns' Q st s:=by
 have hsz:(arrOf st).size=X0.length:=by rw[←aS,ha]
 rw[sortRuns'_eq];refine Δ (jv ?_);dsimp only;rw[hsz];have hmr:0<minRun' X0.length X0.length 0:=Jq _ _ _ h0;generalize minRun' X0.length X0.length 0=mr at hmr;have init:SS κ L X0 st [] X0:=⟨hk,hf,by rw[hp];exact trivial,by rw[ha];rfl,nofun,ku _⟩;have sizeT:∀{st':aH} {rs:List (List θ)} {T:List θ},SS κ L X0 st' rs T->rs.flatten.length+T.length=X0.length:=fun h=>by
  have:=h.perm.length_eq;rwa [ξ] at this
 refine Δ (dO ?_);refine kZ (fun k (b:Option Unit×Nat) st'=>b.1=none/\∃rs T,SS κ L X0 st' rs T/\b.2=rs.flatten.length/\T.length≤k) ?_ ?_ _ _ _ ⟨rfl,[],X0,init,rfl,by rw[b7];show X0.length≤X0.length-0;lia⟩
 ·rintro⟨r,lo⟩ st' ⟨rfl,rs,T,h,hlo,hT⟩;have:T=[]:=cJ (Nat.le_zero.mp hT);subst this;dsimp only;refine zY (m':=Bl X0.length) ?_ (Jp C O ok h q);refine fz (qj fun _ t=>?_) fun t=>?_
  ·refine fz rfl fun g=>?_;rfl
  ·obtain⟨r,⟨⟩⟩:=t;cases r<;>rfl
 rintro xx k ⟨r,lo⟩ st' ⟨rfl,rs,T,h,hlo,hT⟩;have hlo:lo=rs.flatten.length:=hlo;have hT:T.length≤k+1:=hT;have hst:=sizeT h;dsimp only;by_cases hge:lo≥X0.length
 ·rw[if_pos hge];have:T=[]:=cJ (by lia);subst this;refine af ⟨rfl,?_⟩;dsimp only;refine zY (m':=Bl X0.length) ?_ (Jp C O ok h q);refine fz (qj fun _ t=>?_) fun t=>?_
  ·refine fz rfl fun g=>?_;rfl
  ·obtain⟨r,⟨⟩⟩:=t;cases r<;>rfl
 rw[if_neg hge];have okT:∀x∈T,Ok x:=fun x hx=>ok x (h.perm.mem_iff.mp (aq _ hx));have eqP:∀n,∀m:SM (ForInStep (Option Unit×Nat)),m=mV X0.length lo n->m=mV X0.length lo n:=fun _ _ e=>e;refine Δ (Pm C O (st0:=st') (P:=rs.flatten) (X:=T) (S:=[]) ⟨h.kind,h.fail,rfl,by rw[h.arr];simp⟩ hlo.symm (by lia) (by lia) okT fun R T' st2 hR=>?_);dsimp only
 -- a run that stands
 have stand:∀(R T':List θ) (st3:aH),Run κ L st' st3 rs.flatten T [] R T'->SS κ L X0 st3 rs (R++T'):=fun R T' st3 hR=>by
  refine⟨hR.at_.kind,hR.at_.fail,by rw[hR.at_.pend];exact h.pend,by rw[hR.at_.arr];simp,h.fy,?_⟩;exact cW (cG _ hR.perm) h.perm
 have go:∀(R T':List θ) (st3:aH),Run κ L st' st3 rs.flatten T [] R T'->kasC (model prog w) A E (mV X0.length lo R.length) (fun r st' s'=>s'=s/\∃rs',r=.yield (none,lo+R.length)/\SS κ L X0 st' rs' T'/\lo+R.length=rs'.flatten.length/\T'.length≤k) st3 s:=fun R T' st3 hR=>by
  refine aaj C O ok (stand R T' st3 hR) ⟨hR.fy,hR.pos⟩ hlo fun rs' st4 h4 h5=>⟨rfl,rs',rfl,h4,h5,?_⟩;have:=hR.perm.length_eq;have:=hR.pos;rw[ξ] at *;lia
 by_cases hlt:R.length<mr
 ·rw[if_pos hlt];refine Δ (lF (gQ ?_));have hl:=hR.perm.length_eq;rw[ξ] at hl;refine Δ (aal C O hR hlo.symm (n:=min (X0.length-lo) mr) (by lia) (by lia) okT fun R3 T3 st3 hR3 hl3=>?_);rw[if_neg (by decide),←hl3];refine nJ (zY (m':=mV X0.length lo R3.length) ?_ (go R3 T3 st3 hR3)) ?_
  ·refine fz rfl fun g=>?_;cases hb:(pendingOf g).back? with
   |none=>rfl
   |some p=>
    obtain⟨s1,n1,p3⟩:=p;refine fz (qj fun _ t=>?_) fun t=>?_
    ·refine fz rfl fun g=>?_;cases (if (pendingOf g).size > 1 then (pendingOf g)[(pendingOf g).size-2]? else none)<;>rfl
    ·obtain⟨r,⟨⟩⟩:=t;cases r<;>rfl
  ·rintro r st4 s4 ⟨rfl,rs',rfl,h4,h5,h6⟩;exact⟨rfl,rfl,rs',T3,h4,h5,h6⟩
 ·rw[if_neg hlt];refine nJ (zY (m':=mV X0.length lo R.length) ?_ (go R T' st2 hR)) ?_
  ·refine fz rfl fun g=>?_;cases hb:(pendingOf g).back? with
   |none=>rfl
   |some p=>
    obtain⟨s1,n1,p3⟩:=p;refine fz (qj fun _ t=>?_) fun t=>?_
    ·refine fz rfl fun g=>?_;cases (if (pendingOf g).size > 1 then (pendingOf g)[(pendingOf g).size-2]? else none)<;>rfl
    ·obtain⟨r,⟨⟩⟩:=t;cases r<;>rfl
  ·rintro r st4 s4 ⟨rfl,rs',rfl,h4,h5,h6⟩;exact⟨rfl,rfl,rs',T',h4,h5,h6⟩
end
end fV
namespace fV
open PySem PySem.W PyProof.Rows PySem.Calls aK
section
variable {α:Type} {lt:α->α->Bool} {f:α->δ} {ps:List α}
def tm(f:α->δ)(ps:List α)(x:θ):Option α:=ps.find? fun p=>f p==x.1
def Lk(lt:α->α->Bool)(f:α->δ)(ps:List α)(x y:θ):Bool:=match tm f ps x,tm f ps y with
 |some p,some q=>lt p q
 |none,some _=>true
 |_,none=>false
theorem aaf(O:ph lt):iK (Lk lt f ps):=by
 constructor
 ·intro x y h;unfold Lk at h ⊢;cases hx:tm f ps x with
  |none=>
   rw[hx] at h;cases hy:tm f ps y with
   |none=>rfl
   |some q=>rfl
  |some p=>
   rw[hx] at h;cases hy:tm f ps y with
   |none=>rw[hy] at h;cases h
   |some q=>
    rw[hy] at h;exact O.ky _ _ h
 ·intro x y z h1 h2;have h1:Lk lt f ps y x=false:=h1;have h2:Lk lt f ps z y=false:=h2;show Lk lt f ps z x=false;unfold Lk at h1 h2 ⊢;cases hx:tm f ps x with
  |none=>
   cases hz:tm f ps z<;>rfl
  |some p=>
   rw[hx] at h1;cases hy:tm f ps y with
   |none=>rw[hy] at h1;cases h1
   |some q=>
    rw[hy] at h1 h2;cases hz:tm f ps z with
    |none=>rw[hz] at h2;cases h2
    |some r=>
     rw[hz] at h2;exact O.fS _ _ _ h1 h2
theorem Jo(inj:∀p∈ps,∀q∈ps,f p=f q->p=q){p:α}(hp:p∈ps):tm f ps (f p,f p)=some p:=by
 unfold tm;cases h:ps.find? fun q=>f q==f p with
 |none=>
  have:=tI.mp h p hp;rw[beq_self_eq_true] at this;exact absurd rfl this
 |some q=>
  have h1:=List.find?_some h;have h2:=oI h;rw[inj q h2 p hp (eq_of_beq h1)]
theorem Jn(inj:∀p∈ps,∀q∈ps,f p=f q->p=q){p q:α}(hp:p∈ps)(hq:q∈ps):Lk lt f ps (f p,f p) (f q,f q)=lt p q:=by
 unfold Lk;rw[Jo inj hp,Jo inj hq]
end
section
variable {prog:aw} {w:aG} {A:aR} {E:δ->ζ->Prop} {s:ζ}
theorem Jm{α β:Type}(f:α->β):∀ps:List α,(ps.map f).zip (ps.map f)=ps.map fun p=>(f p,f p)
 |[]=>rfl
 |p::ps=>by
  rw[aZ,dJ,Jm f ps];rfl
theorem JV{α:Type}{lt:α->α->Bool}{f:α->δ}{κ:cv}(O:ph lt){a:η}{n:Nat}{ps:List α}{P:PySem.Fin->ζ->Prop}(ho:s.heap.get? a=some (seqObj "list" (ps.map f).toArray n))(inj:∀p∈ps,∀q∈ps,f p=f q->p=q)
  (hk:∀h',(∀b o,b≠a->s.heap.get? b=some o->h'.get? b=some o)->(∀(Q:cv->ζ->Prop) (E':δ->ζ->Prop),Q κ { s with heap:=h' }->π (model prog w) A (keyKind' (ps.map f).toArray) Q E' { s with heap:=h' }) ∧
   ∀p∈ps,∀q∈ps,∀(Q:Bool->ζ->Prop) (E':δ->ζ->Prop),Q (lt p q) { s with heap:=h' }->π (model prog w) A (keyLt' κ (f p) (f q)) Q E' { s with heap:=h' }) (h2:2≤ps.length) (hz:ps.length≤1000000)
  (h:∀qs h' c,ll lt ps qs->h'.get? a=some (seqObj "list" (qs.map f).toArray c)->(∀b o,b≠a->s.heap.get? b=some o->h'.get? b=some o)->P (.done (.ret .none)) { s with heap:=h' }):
  π (model prog w) A (gm.«list.sort» ⟨[.ref a],[]⟩) P E s:=by
 have ha:a<s.heap.objs.size:=Heap.lt_size ho;have s1:=Heap.SameBut.update s.heap a (aU fun _=>(#[]:Array δ));obtain⟨e1,ho1⟩:∃e1,(s.heap.update a (aU fun _=>(#[]:Array δ))).get? a=some (seqObj "list" #[] e1):=⟨_,gB ho fun _=>#[]⟩;have hlz:ps.length≤ao:=aD hz (by decide);generalize hvs:(ps.map f)=vs at ho;have hlen:vs.length=ps.length:=by rw[←hvs,ε]
 have hu3:∀b o,b≠a->s.heap.get? b=some o->(((s.heap.update a (aU fun _=>(#[]:Array δ))).push (seqObj "tuple" vs.toArray 0)).push (seqObj "list" #[] 0)).get? b=some o:=fun b o hb e=>
  Heap.get?_push_of_some _ (Heap.get?_push_of_some _ ((s1.2 b hb).trans e))
 have ho3:(((s.heap.update a (aU fun _=>(#[]:Array δ))).push (seqObj "tuple" vs.toArray 0)).push (seqObj "list" #[] 0)).get? a=some (seqObj "list" #[] e1):=Heap.get?_push_of_some _ (Heap.get?_push_of_some _ ho1);rw[qa];refine γ (mo ho rfl ?_);refine γ (iu ho rfl ?_ (by rw[Γ,hlen];exact hlz) (aQ _));refine γ (kS ho1 rfl ?_);refine γ (ko ?_ (by show vs.length≤_;rw[hlen];exact hlz));refine γ (iq ?_ (aQ _));refine cx ?_;show π (model prog w) A _ P E { s with heap:=((s.heap.update a (aU fun _=>(#[]:Array δ))).push (seqObj "tuple" vs.toArray 0)).push (seqObj "list" #[] 0)};generalize ((s.heap.update a (aU fun _=>(#[]:Array δ))).push (seqObj "tuple" vs.toArray 0)).push (seqObj "list" #[] 0)=h3 at hu3 ho3 ⊢;obtain⟨hk1,hk2⟩:=hk h3 hu3;dsimp only;have hn2:¬vs.toArray.size<2:=by rw[Γ];lia
 rw[if_neg hn2,if_neg hn2];refine γ ?_;rw[←hvs];refine hk1 _ _ ?_;have C:kd prog w A κ { s with heap:=h3 } (fun x=>∃p∈ps,x=(f p,f p)) (Lk lt f ps):=by
  rintro x y ⟨p,hp,rfl⟩ ⟨q,hq,rfl⟩ Q E' hQ;rw[Jn inj hp hq] at hQ;exact hk2 p hp q hq Q E' hQ
 have run:=aag (E:=E) (Q:=fun _ st' s'=>s'={ s with heap:=h3 }/\∃qs:List α,ll lt ps qs/\failedOf st'=none/\(arrOf st').map (·.2)=(qs.map f).toArray) (X0:=ps.map fun p=>(f p,f p)) (st:=r9 κ ((ps.map f).toArray.zip (ps.map f).toArray) #[] 7 none) C (aaf O) (fun x hx=>by obtain⟨p,hp,rfl⟩:=aE.mp hx;exact⟨p,hp,rfl⟩) rfl rfl rfl
  (by show ((ps.map f).toArray.zip (ps.map f).toArray).toList=_;rw[Array.toList_zip];exact Jm f ps) (by rw[ε];lia) fun st' hf hp hs=>⟨rfl,?_⟩
 ·refine γ (ee run ?_ fun _ _ e=>e);rintro⟨⟨⟩,st'⟩ s' ⟨rfl,qs,hS,hf,hout⟩;dsimp only;have hsz:(fo (qs.map f)).size=ps.length:=by rw[Γ,ε,hS.perm.length_eq]
  rw[hout];have s2:=Heap.SameBut.update h3 a (aU fun _=>fo (qs.map f));obtain⟨c2,hc2⟩:∃c2,(h3.update a (aU fun _=>fo (qs.map f))).get? a=some (seqObj "list" (fo (qs.map f)) c2):=⟨_,gB ho3 fun _=>fo (qs.map f)⟩;refine γ (kS ho3 rfl ?_);refine γ (iu ho3 rfl ?_ (aQ _) (aD (tF hsz) (Nat.le_succ_of_le hlz)));rw[hf];simp only[bne_self_eq_false,cq,if_false];exact ι (h qs _ c2 hS hc2 fun b o hb e=>(s2.2 b hb).trans (hu3 b o hb e))
 ·obtain⟨qs,pq,eq⟩:=L3.qr hp rfl;refine⟨qs,⟨pq,?_⟩,hf,?_⟩
  ·rw[eq,bN] at hs;exact fR (fun {x y} hx hy hle=>by
    have hle:Lk lt f ps (f y,f y) (f x,f x)=false:=hle;rwa [Jn inj (pq.mem_iff.mp hy) (pq.mem_iff.mp hx)] at hle) hs
  ·apply Array.toList_inj.mp;rw[Array.toList_map,eq,aN];rfl
theorem uO{α:Type}{lt:α->α->Bool}{f:α->δ}{κ:cv}(O:ph lt){l:η}{ps:List α}{Q:δ->ζ->Prop}(inj:∀p∈ps,∀q∈ps,f p=f q->p=q)
  (hk:∀s':ζ,2≤ps.length->(∀b o,s.heap.get? b=some o->s'.heap.get? b=some o)->(∀(Q:cv->ζ->Prop) (E':δ->ζ->Prop),Q κ s'->π (model prog w) A.in1.in1 (keyKind' (ps.map f).toArray) Q E' s') ∧
   ∀p∈ps,∀q∈ps,∀(Q:Bool->ζ->Prop) (E':δ->ζ->Prop),Q (lt p q) s'->π (model prog w) A.in1.in1 (keyLt' κ (f p) (f q)) Q E' s') (hz:ps.length≤1000000)
  (rP:∀(R:List δ->ζ->Prop),(∀s',gq [] (fun x y=>y=x) s s'->R (ps.map f) s')->π (model prog w) A.in1 (collect (.ref l)) R E s)
  (h:∀qs s' c D,ll lt ps qs->s.heap.get? D=none->s'.heap.get? D=some (seqObj "list" (qs.map f).toArray c)->gq [] (fun x y=>y=x) s s'->Q (.ref D) s'):
  π (model prog w) A (call (.builtin "sorted") [.ref l]) Q E s:=by
 refine jS kind_sorted plain_sorted entry_sorted (args_sorted1 _) ?_;unfold gm.«sorted»;refine γ (m:=checkCount "sorted" 1 1 _) (ι ?_);refine γ (rP _ fun s1 hm=>?_);refine γ (iq ?_ (by rw[ε];exact aD hz (by decide)));have hoL:(s1.heap.push (seqObj "list" (ps.map f).toArray 0)).get? s1.heap.objs.size=some (seqObj "list" (ps.map f).toArray 0):=Heap.get?_push_size _ rfl;have keep0:∀b o,s.heap.get? b=some o->s1.heap.get? b=some o:=fun b o e=>hm.heap b o (fun z=>nomatch z) e;have hfr:s.heap.get? s1.heap.objs.size=none:=by
  cases hz:s.heap.get? s1.heap.objs.size with
  |none=>rfl
  |some o=>exact absurd (Heap.lt_size (keep0 _ _ hz)) (cU _)
 have keep:∀b o,s.heap.get? b=some o->(s1.heap.push (seqObj "list" (ps.map f).toArray 0)).get? b=some o:=fun b o e=>Heap.get?_push_of_some _ (keep0 b o e);show π _ _ _ _ _ { s1 with heap:=s1.heap.push (seqObj "list" (ps.map f).toArray 0)};refine γ (cx (bU qW ⟨_,hoL,rfl⟩ qb ?body (qX _)));have fin:∀qs h' c,ll lt ps qs->h'.get? s1.heap.objs.size=some (seqObj "list" (qs.map f).toArray c)->(∀b o,b≠s1.heap.objs.size->(s1.heap.push (seqObj "list" (ps.map f).toArray 0)).get? b=some o->h'.get? b=some o)->Q (.ref s1.heap.objs.size) { s1 with heap:=h' }:=fun qs h' c hS e kk=>
  h qs _ c _ hS hfr e ⟨fun b o _ e1=>kk b o (aX (Heap.lt_size (keep0 b o e1))) (keep b o e1),hm.gens,hm.drawn,hm.os,hm.toks⟩
 case body=>
  by_cases h2:2≤ps.length
  ·refine JV O (s:={ s1 with heap:=s1.heap.push (seqObj "list" (ps.map f).toArray 0)}) hoL inj (fun h' kk=>hk { s1 with heap:=h' } h2 fun b o e=>kk b o (aX (Heap.lt_size (keep0 b o e))) (keep b o e)) h2 hz fun qs h' c hS e kk=>?_;exact⟨_,rfl,ι ⟨_,rfl,fin qs h' c hS e kk⟩⟩
  ·refine Et (s:={ s1 with heap:=s1.heap.push (seqObj "list" (ps.map f).toArray 0)}) hoL (by rw[ε];lia) fun h' c e kk=>?_;have hS:ll lt ps ps:=⟨.refl _,by
    rcases ps with _|⟨x,_|⟨y,r⟩⟩
    ·exact .nil
    ·exact aT _ _
    ·simp at h2⟩
   exact⟨_,rfl,ι ⟨_,rfl,fin ps h' c hS e kk⟩⟩
end
end fV
namespace L3
open PySem PySem.Spec PyProof.Rows L2 My
section
variable {X:Cx} {K:PySem.W.Frag} {e:ρ} {es:List ρ} {t:dF} {pos p:aP}
theorem aae(hc:X.calm=true)(hu:X.A.units+64<cLine):gP X (.builtin "sorted") (fun vs H Q=>∃(a:η) (xs:List V) (nss:List (List (List Int))),vs=[.ref a]/\eN X.K H a xs/\aI X.K H (nss.map fJ) xs/\nss.length≤1000/\(∀ns∈nss,ns≠[]) ∧
  ∀(p:η) (mss:List (List (List Int))) (ys:List V),H p=none->mss.Perm nss->iC mss->aI X.K H (mss.map fJ) ys->Q (.ref p) (upd H p (.lst ys))):=by
 intro pins s σ H vs us Q I r h;obtain⟨a,xs,nss,rfl,hl,hv,hz,hne,q⟩:=h;obtain⟨u,rfl,ru⟩:=vals1 r;cases ru;obtain⟨its,rv,pl,_⟩:=I.list hl;obtain⟨ps,e1,e2,e3,e4⟩:=Ka I hv rv;subst e3;have hlen:ps.length=nss.length:=by rw[←e1,ε]
 have inj:∀p∈ps,∀q∈ps,aK.Gw p=aK.Gw q->p=q:=fun p hp q hq e=>by
  obtain⟨k,b⟩:=p;obtain⟨k',b'⟩:=q;have e:au b=au b':=e;injection e with e;subst e;have ek:k=k':=(e4 _ hp).2.inj (e4 _ hq).2;rw[ek]
 refine fV.uO (κ:=tuples' false) (f:=aK.Gw) (ps:=ps) aK.NB inj (fun s' h2 kk=>?_) (by lia) (fun R hR=>?_) fun qs s' c D' hS hn hD hm=>?_
 ·have hk':∀p∈ps,i6.nP X.prog X.w s'.heap p.1 p.2/\p.1≠[]:=fun p hp=>⟨i6.EX kk (e4 p hp).2,hne _ (by rw[←e1];exact aE.mpr ⟨p,hp,rfl⟩)⟩;exact⟨fun Q E q=>aK.EV (fun z=>by rw[z] at h2;simp at h2) hk' q,fun p hp q hq Q E hq'=>aK.C2 (by show X.A.units+1+1+16<cLine;lia) (hk' p hp).1 (hk' q hq).1 hq'⟩
 ·refine pB pl.isList (hR _ ⟨fun b o _ e=>?_,rfl,rfl,rfl,υ _⟩) (by rw[ε,bX];lia);have hlt:=Heap.lt_size e;show ((s.heap.push (seqObj "list" #[] 0)).update s.heap.objs.size _).get? b=some o;rw[Heap.get?_update_other _ _ (b0 hlt)];exact Heap.get?_push_of_some _ e
 ·have e:s'={ s with heap:=s'.heap,toks:=s'.toks }:=by
   cases s';cases s;have h1:=hm.gens;have h2:=hm.drawn;have h3:=hm.os;simp only at h1 h2 h3;subst h1 h2 h3;rfl
  rw[e];refine⟨.ref D',_,Inv.u4 I (o:=.lst (qs.map fun p=>.ref p.2)) (fun b u z=>hm.heap b u (fun y=>nomatch y) z) hn ?_,rfl,?_⟩
  ·refine⟨?_,_,c,J9 qs,hD⟩;rw[ε,hS.perm.length_eq,bX];lia
  ·refine q _ (qs.map (·.1)) _ (Inv.tR I hn) (by rw[←e1];exact hS.perm.map _) ?_ (Kc fun p hp=>(e4 p (hS.perm.mem_iff.mp hp)).1);exact bN.mpr hS.rise
def zX:C3:=fun ds G Q=>match ds with
 |[.obj a]=>∃nss:List (List (List Int)),G a=some (.lst (nss.map fJ))/\nss.length≤1000/\(∀ns∈nss,ns≠[])/\∀(p:η) (mss:List (List (List Int))) (G':Gp),eQ G p (.lst (mss.map fJ)) G'->mss.Perm nss->iC mss->Q (.obj p) G'
 |_=>False
theorem aad:lq K zX (fun vs H Q=>∃(a:η) (xs:List V) (nss:List (List (List Int))),vs=[.ref a]/\eN K H a xs/\aI K H (nss.map fJ) xs/\nss.length≤1000/\(∀ns∈nss,ns≠[]) ∧
  ∀(p:η) (mss:List (List (List Int))) (ys:List V),H p=none->mss.Perm nss->iC mss->aI K H (mss.map fJ) ys->Q (.ref p) (upd H p (.lst ys))):=fun ds vs G H Q3 Q h RG q k=>by
 rcases ds with _|⟨d,_|⟨d2,ds⟩⟩
 ·exact q.elim
 ·obtain⟨v,rfl,hv⟩:=kD h;cases d with
  |obj a=>
   obtain⟨nss,e1,hz,hne,q⟩:=q;obtain⟨xs,e2,e3⟩:=RG a _ e1;rw[ij hv];exact⟨a,xs,nss,rfl,.of e2,e3,hz,hne,fun p mss ys hp h1 h2 h3=>k _ _ (.obj p) _ oZ (.iP hp) (RG.qt hp h3) (q p mss _ (.mk' (RG.free hp)) h1 h2)⟩
  |_=>exact q.elim
 ·cases d<;>exact q.elim
theorem aac(hu:X.A.units+64<cLine)(hm:X.mg "sorted" = none)(ha:QA X (e::es) t)(hc:X.calm=true:=by rfl)(hg:Gl X "sorted":=by rfl)(he:notStar e=true:=by rfl)(hpl:es.all notStar=true:=by rfl):
  QE X (.Call (.Name "sorted" p) (e::es) [] pos) (cF zX t):=⟨mh aad (lh (aae hc hu) hg hm rfl ha.of (he:=gs he) (hpl:=ma hpl))⟩
end
end L3
namespace My
open PySem L2 L3
def ui(n:Nat):List Int:=(av n).map fun x:Nat=>(x:Int)
def HE(n:Nat):List Int:=(av n).map fun k:Nat=>((k+1:Nat):Int)
def own(n:Nat)(last step:Int):List Int:=(ui n).filter fun x=>(x-last)%step==0
def fits(n:Nat)(left:List Int)(last step:Int):Bool:=((n:Int)%step==0)&&(own n last step).all fun x=>left.contains x
def rest(n:Nat)(left:List Int)(last step:Int):List Int:=left.filter fun x=>!((own n last step).contains x)
def E2(n:Nat):Nat->List Int->List (List ω)
 |0,_=>[]
 |f+1,left=>match left.getLast? with
  |none=>[[]]
  |some last=>(HE n).flatMap fun step=>if fits n left last step then (E2 n f (rest n left last step)).map (fun c=>c++[((step,last%step):ω)]) else []
def t7(n:Nat):List (List ω):=E2 n 40 (ui n)
end My
namespace My
open PySem L2 L3
def MZ(n:Nat):Bool:=oh (fK n) 40 []&&(t7 n).length==(raw n).length&&decide ((raw n).length≤1000)
theorem aab:∀n,n<12->1≤n->MZ n=true:=by decide +kernel
theorem NI:oh (fK 12) 40 []=true:=by decide +kernel
theorem FJ:(raw 12).length=206:=by decide +kernel
theorem N5:(t7 12).length=206:=by decide +kernel
theorem NH:oh (fK 13) 40 []=true:=by decide +kernel
theorem FI:(raw 13).length=2:=by decide +kernel
theorem N4:(t7 13).length=2:=by decide +kernel
theorem NG:oh (fK 14) 40 []=true:=by decide +kernel
theorem FH:(raw 14).length=132:=by decide +kernel
theorem N3:(t7 14).length=132:=by decide +kernel
theorem NF:oh (fK 15) 40 []=true:=by decide +kernel
theorem FG:(raw 15).length=40:=by decide +kernel
theorem N1:(t7 15).length=40:=by decide +kernel
theorem ND:oh (fK 16) 40 []=true:=by decide +kernel
theorem FF:(raw 16).length=677:=by decide +kernel
theorem N0:(t7 16).length=677:=by decide +kernel
theorem aaa(n:Nat)(h2:n<17)(h1:1≤n):oh (fK n) 40 []=true/\(raw n).length≤1000/\(t7 n).length=(raw n).length:=by
 by_cases h:n<12
 ·have:=aab n h h1;unfold MZ at this;simp only[bV,decide_eq_true_eq,beq_iff_eq] at this;exact⟨this.1.1,this.2,this.1.2⟩
 ·have:n=12∨n=13∨n=14∨n=15∨n=16:=by omega
  rcases this with rfl|rfl|rfl|rfl|rfl
  ·exact⟨NI,by rw[FJ];decide,by rw[FJ,N5]⟩
  ·exact⟨NH,by rw[FI];decide,by rw[FI,N4]⟩
  ·exact⟨NG,by rw[FH];decide,by rw[FH,N3]⟩
  ·exact⟨NF,by rw[FG];decide,by rw[FG,N1]⟩
  ·exact⟨ND,by rw[FF];decide,by rw[FF,N0]⟩
end My
namespace My
open PySem L2 L3
theorem EA:∀{as bs:List (List (List Int))},as.Perm bs->iC as->iC bs->as=bs
 |[],bs,p,_,_=>(nU.mp p).symm
 |a::as,[],p,_,_=>absurd p.length_eq (by simp)
 |a::as,b::bs,p,ha,hb=>by
  have ha':=b5.mp ha;have hb':=b5.mp hb;have e:a=b:=by
   refine cP fun z=>?_;have h1:aK.fA b a=false:=by
    rcases ay.mp (p.symm.mem_iff.mp ο) with rfl|h
    ·exact absurd rfl z
    ·exact ha'.1 b h
   have h2:aK.fA a b=false:=by
    rcases ay.mp (p.mem_iff.mp ο) with rfl|h
    ·exact absurd rfl z
    ·exact hb'.1 a h
   have:=aK.tP z h2;rw[h1] at this;cases this
  subst e;rw[EA (p.cons_inv) ha'.2 hb'.2]
structure aa6(n:Nat):Prop where
 okf:oh (fK n) 40 []=true
 len:(raw n).length≤1000
 HH:∀cs∈raw n,Cp cs/\cs≠[]
 abP:(t7 n).length=(raw n).length
 fne:∀cs∈t7 n,cs≠[]
theorem Ez{ss:List Int}:∀(k:Nat) (cs:List ω),oh ss k cs=true->∀c∈pV ss k cs,yu c=true/\cs.length≤c.length
 |0,cs,h,c,hc=>nomatch hc
 |k+1,cs,h,c,hc=>by
  have h':(yu cs&&match o8 cs with
   |none=>true
   | some x=>(grown ss cs (x:Int)).all (oh ss k))=true:=h
  have hc':c∈match o8 cs with
   |none=>[cs]
   |some x=>(grown ss cs (x:Int)).flatMap (pV ss k):=hc
  rw[bV] at h';cases hm:o8 cs with
  |none=>
   rw[hm] at hc';rw[ah.mp hc'];exact⟨h'.1,υ _⟩
  |some x=>
   rw[hm] at hc' h';obtain⟨g,hg,hcg⟩:=pJ.mp hc';have h2:=eJ.mp h'.2 g hg;have:=Ez k g h2 c hcg;obtain⟨d,_,rfl⟩:=aE.mp hg;refine⟨this.1,?_⟩;have h3:=this.2;rw[ξ] at h3;exact aD (gi _ _) h3
theorem Z9{n:Nat}(h:oh (fK n) 40 []=true):∀c∈raw n,c≠[]:=fun c hc z=>by
 subst z;have hf:o8 []=some 0:=by decide
 have hc':([]:List ω)∈match o8 [] with
  |none=>[([]:List ω)]
  |some x=>(grown (fK n) [] (x:Int)).flatMap (pV (fK n) 39):=hc
 have h':(yu []&&match o8 [] with
  |none=>true
  | some x=>(grown (fK n) [] (x:Int)).all (oh (fK n) 39))=true:=h
 rw[hf] at hc' h';rw[bV] at h';obtain⟨g,hg,hcg⟩:=pJ.mp hc';have:=(Ez 39 g (eJ.mp h'.2 g hg) [] hcg).2;obtain⟨d,_,rfl⟩:=aE.mp hg;simp at this
theorem Z8{n:Nat}(h1:1≤n):∀c∈t7 n,c≠[]:=fun c hc z=>by
 subst z;have hc':([]:List ω)∈match (ui n).getLast? with
  |none=>[[]]
  |some last=>(HE n).flatMap fun step=>if fits n (ui n) last step then (E2 n 39 (rest n (ui n) last step)).map (fun c=>c++[((step,last%step):ω)]) else []:=hc
 cases hl:(ui n).getLast? with
 |none=>
  rw[oJ] at hl;have:=congrArg bR hl;unfold ui at this;rw[ε,cn] at this;simp at this;lia
 |some last=>
  rw[hl] at hc';obtain⟨st,_,h⟩:=pJ.mp hc';split at h
  ·obtain⟨c',_,e⟩:=aE.mp h;have:=congrArg bR e;rw[ξ] at this;simp at this
  ·cases h
theorem HI{n:Nat}(h1:1≤n)(h2:n<17):aa6 n:=by
 obtain⟨a,b,d⟩:=aaa n h2 h1;exact⟨a,b,fun cs hc=>⟨J3 (Ez 40 [] a cs hc).1,Z9 a cs hc⟩,d,Z8 h1⟩
def vN:eX:=fun ds G Q=>∃n:Nat,ds=[.int n]/\1≤n/\n<17/\∀(q:η) (rs:List (List ω)) (G':Gp),rs.Perm ((raw n).map fy)->iC (rs.map iU)->eQ G q (.lst (rs.map bM)) G'->Q (.obj q) G'
def Z7:aB:=bY (cF zX (μ (eS ["clocks"] [] (fL (bh (sN 40) (μ (ν 1) (μ (dw (ab)) (ab))))) (hName 0) (cY) (cF mS (μ (vd (ν 0)) (ab)))) (ab)))
def JU:aB:=bj (cu (eS ["step"] [0] (tQ (μ (eC (.int 1)) (μ (aJ eo (ν 0) (eC (.int 1))) (ab)))) (hName 0) (bJ (aJ (fg false) (aJ jm (ν 1) (ν 0)) (eC (.int 0)))) (ν 0)) (hName 1)) Z7
theorem ON(n:Nat):iI 1 n=(av n).map fun k=>nD (k+1):=by
 unfold iI;refine b9 fun k _=>?_;show D.int (1+(k:Int))=D.int ((k+1:Nat):Int);rw[show (1:Int)+(k:Int)=((k+1:Nat):Int) by lia]
theorem Z6{G:Gp}{p:η}{css:List (List ω)}{Q:V3}(e:G p=some (.lst (css.map bM)))(hl:css.length≤1000)(hc:∀cs∈css,cs.length≤60/\cs≠[])(q:∀(q:η) (rs:List (List ω)) (G':Gp),rs.Perm (css.map fy)->iC (rs.map iU)->eQ G q (.lst (rs.map bM)) G'->Q (.obj q) G'):
  (css.map bM).length≤ao/\jy (fun G'=>G' p=some (.lst (css.map bM))) (hName 0) cY (cF mS (μ (vd (ν 0)) (ab))) (fun acc G1=>∀p G2,eQ G1 p (.lst acc) G2->zX [.obj p] G2 Q) (css.map bM) [] [none] G:=by
 refine⟨by rw[ε];exact bQ hl,?_⟩;refine Aj (fun es acc τ G'=>∃(dn rs:List (List ω)) (x:Option D),dn++rs=css/\es=rs.map bM/\acc=dn.map (fun cs=>bM (fy cs))/\Sub G G'/\τ=[x]) (fun _ _ _ _ h=>?_) ?_ ?_ _ _ _ _ ⟨[],_,none,rfl,rfl,rfl,Sub.refl _,rfl⟩
 ·obtain⟨_,_,_,_,_,_,s,_⟩:=h;exact s _ _ e
 ·rintro d es acc τ G3 K1 K2 ⟨dn,rs,x,e1,e3,rfl,s1,rfl⟩ g1 g2;cases rs with
  |nil=>cases e3
  |cons cs rs=>
   cases e3;have hR:=hc cs (by rw[←e1];exact aq _ ο);refine⟨fun _=>⟨cs.map fx,(Ak cs).symm,by rw[ε];lia,KN,fun p4 mss G4 n4 hp hr=>⟨_,n4.at_,?_⟩⟩,nofun⟩;have e:D.tup (mss.map tupI)=bM (fy cs):=by
    rw[QQ hp hr,Ak];rfl
   rw[e];exact g1 _ _ _ ⟨dn++[cs],rs,_,by rw[aa];exact e1,rfl,by rw[aW];rfl,s1.trans n4.sub,rfl⟩
 ·rintro acc τ G3 ⟨dn,rs,x,e1,e3,rfl,s1,rfl⟩;have e0:rs=[]:=by
   cases rs with
   |nil=>rfl
   |cons z zs=>cases e3
  subst e0;rw[cV] at e1;subst e1;intro p4 G4 n4;have em:dn.map (fun cs=>bM (fy cs))=((dn.map fy).map iU).map fJ:=by
   rw[←D8,aN];rfl
  rw[em] at n4;refine⟨_,n4.at_,by rw[ε,ε];lia,fun ns hn=>?_,fun p5 mss G5 n5 hp hr=>?_⟩
  ·obtain⟨cs,hcs,rfl⟩:=aE.mp hn;obtain⟨c0,hc0,rfl⟩:=aE.mp hcs;intro z;have:(fy c0).length=0:=by
    have:=congrArg bR z;unfold iU at this;rw[ε] at this;exact this
   rw[(D6 c0).length_eq] at this;exact (hc c0 hc0).2 (cJ this)
  ·obtain⟨rs,pr,rfl⟩:=qr hp rfl;rw[←D8] at n5;have s:=s1.trans n4.sub;exact q p5 rs G5 pr hr ⟨s.of_none n5.aF,s.trans n5.sub,n5.at_⟩
theorem Z5:∀ds G Q,vN ds G Q->JU (bq Q) (bI ["n","steps"] ds) G:=by
 rintro ds G Q ⟨n,rfl,h1,h2,q⟩;have hR:=HI h1 h2;refine⟨⟨by decide,by decide,by lia,by lia⟩,?_⟩;rw[show ((n:Int)+1-1).toNat=n by lia,ON];refine⟨by rw[ε,cn];exact bQ (by lia),?_⟩;refine lU (fun τ=>∃x,τ=[x,some (.int (n:Int))]) (fun k:Nat=>nD (k+1)) (fun k:Nat=>(n:Int)%((k+1:Nat):Int)==0) (fun k:Nat=>nD (k+1)) (G:=G) trivial (av n) [] _ ⟨none,rfl⟩ ?_ ?_
 ·rintro k hm τ K1 K2 ⟨_,rfl⟩ g1 g2;refine⟨by show (0:Int)<((k+1:Nat):Int);lia,_,_,rfl,rfl,aQ _,fun g=>g1 g _ ⟨_,rfl⟩,fun g=>g2 g _ ⟨_,rfl⟩⟩
 intro p1 G1 n1;have e1:G1 p1=some (.lst ((fK n).map D.int)):=by
  rw[n1.at_,bw];unfold fK;rw[qf,aN];rfl
 have hsl:(fK n).length≤60:=by
  unfold fK;have:=List.length_filter_le (fun s=>(n:Int)%s==0) ((av n).map fun k:Nat=>((k+1:Nat):Int));rw[ε,cn] at this;lia
 refine⟨p1,fK n,[],rfl,e1,fun s hs=>?_,hsl,hR.okf,hR.len,fun q2 G2 n2=>?_⟩
 ·obtain⟨k,_,rfl⟩:=aE.mp (iF.mp hs).1;lia
 have n2':eQ G1 q2 (.lst ((raw n).map bM)) G2:=n2;refine⟨_,n2'.at_,Z6 n2'.at_ hR.len (fun cs hc=>⟨by have:=(hR.HH cs hc).1.2.1;lia,(hR.HH cs hc).2⟩) fun q3 rs G' hp hr n3=>dQ (q q3 rs G' hp hr ?_)⟩;have s:=n1.sub.trans n2'.sub;exact⟨s.of_none n3.aF,s.trans n3.sub,n3.at_⟩
end My
namespace HT
open PySem PyProof.Rows
theorem Z4(A:aR)(s:ζ)(a:Int)(t:kz)(c:Int)(u:kz)(prog:aw)(w:aG)(E:δ->ζ->Prop)(Q:δ->ζ->Prop)(h:Q (.bool (decide (c<a))) s):
  π (model prog w) A (iM .Gt (.int a t) (.int c u)) Q E s:=
 (PyProof.Rows.gt_int h:π (model prog w) A (compareOp .Gt (.int a t) (.int c u)) Q E s)
section
open PySem.SeqAt
open PySem.AutoSeq1 (wpAny_loadPart')
open PySem.MeetsSeq PySem.MeetsSeq2 PySem.MeetsSeq3
theorem Z3(l b:η)(items items2:Array δ)(n n2:Nat)(dd dd2:Option η)(sl sl2:Array (Option δ))(ns ms:List Int)(hi:dg items.toList ns)(hj:dg items2.toList ms):
  Meets (gm.«tuple.__gt__» ⟨[.ref l,.ref b],[]⟩)
   (fun _ R s=>s.heap.get? l=some { cls:=.type "tuple",dict:=dd,data:=.seq items n,slots:=sl }/\s.heap.get? b=some { cls:=.type "tuple",dict:=dd2,data:=.seq items2 n2,slots:=sl2 } ∧
    R (.ok (.ret (.bool (lexLt ms ns)))) s):=
 .of_wp fun prog w A R s h=>by
  obtain⟨hp,g,d,tk,os⟩:=s;obtain⟨hl,hb,h⟩:=h;have f2:=hZ;have z1:items.size=ns.length:=by rw[←hi.length];simp
  have z2:items2.size=ms.length:=by rw[←hj.length];simp
  wp_walk using wpAny_loadPart' hl,wpAny_loadPart' hb,ls _ (fun rest b s'=>b.1=none/\s'=⟨hp,g,d,tk,os⟩/\∃(vs ws:List δ) (ns' ms':List Int),rest=vs.zip ws ∧
   dg vs ns'/\dg ws ms'/\ns'.length+items2.size=ms'.length+items.size/\R (.ok (.ret (.bool (lexLt ms' ns')))) ⟨hp,g,d,tk,os⟩) _
  case turn=>
   rintro⟨y,x⟩ rest b s' ⟨hb',rfl,vs,ws,ns',ms',hz,hvi,hwi,hlen,hR⟩;cases hvi with
   |nil=>rw[kH] at hz;cases hz
   |cons a t hvi'=>
    cases hwi with
    |nil=>rw[km] at hz;cases hz
    |cons c u hwi'=>
     rw[dJ] at hz;injection hz with hyx hrest;injection hyx with hy hx;subst hy hx;rw[L4] at hR;simp only[ag] at hlen;obtain⟨e,he,hiff⟩:=LY A.in1 ⟨hp,g,d,tk,os⟩ a t c u;refine γ (he prog w _ _ ?_);cases e with
     |true=>
      rw[if_pos (hiff.mp rfl).symm] at hR;wp_walk;exact⟨rfl,rfl,_,_,_,_,hrest,hvi',hwi',by lia,hR⟩
     |false=>
      rw[if_neg (fun q=>absurd (hiff.mpr q.symm) ak)] at hR;have hri:=Z4 A.in1 ⟨hp,g,d,tk,os⟩ a t c u prog w;wp_walk using hri;exact⟨_,rfl,by simpa using hR⟩
  case fin=>
   rintro⟨b1,b2⟩ s' ⟨hb',rfl,vs,ws,ns',ms',hz,hvi,hwi,hlen,hR⟩;simp only at hb';subst hb';have hv:lexLt ms' ns'=decide (items2.size<items.size):=by
    cases hvi with
    |nil=>
     cases hwi with
     |nil=>
      simp only[bO] at hlen;rw[L1];exact (decide_eq_false (by lia)).symm
     |cons c u hw=>
      simp only[bO,ag] at hlen;rw[LZ];exact (decide_eq_false (by lia)).symm
    |cons a t hv=>
     cases hwi with
     |nil=>
      simp only[bO,ag] at hlen;rw[L0];exact (decide_eq_true (by lia)).symm
     |cons c u hw=>
      rw[dJ] at hz;cases hz
   rw[hv] at hR;wp_walk;exact⟨_,rfl,by simpa [fI] using hR⟩
  case h=>
   exact⟨rfl,rfl,items.toList,items2.toList,ns,ms,rfl,hi,hj,by lia,h⟩
end
section
variable {prog:aw} {w:aG} {A:aR} {E:δ->ζ->Prop} {s:ζ}
theorem u5{l b:η}{items items2:Array δ}{ns ms:List Int}{Q:δ->ζ->Prop}(hl:gS s.heap l items)(hb:gS s.heap b items2)(hi:dg items.toList ns)(hj:dg items2.toList ms)
  (hu:A.units<cLine) (h:Q (.bool (lexLt ms ns)) s):π (model prog w) A (compareOp .Gt (.ref l) (.ref b)) Q E s:=by
 obtain⟨⟨cls,dd,data,sl⟩,ho,hc,n,hd⟩:=id hl;obtain⟨⟨cls2,dd2,data2,sl2⟩,ho2,hc2,n2,hd2⟩:=id hb;simp only at hc hd hc2 hd2;subst hc hd hc2 hd2;exact iL (op:=.Gt) ⟨_,ho,rfl⟩ ⟨_,ho2,rfl⟩ PySem.F.slot_tuple_gt PySem.F.entry_tuple_gt (PySem.F.args_tuple_gt_2 _ _) (Z3 l b items items2 n n2 dd dd2 sl sl2 ns ms hi hj)
  ⟨ho,ho2,show fw (lexLt ms ns)≠jw/\Q (.bool (lexLt ms ns)) s from⟨(fun x=>nomatch x),h⟩⟩ hu
end
section
open PySem.SeqAt
open PySem.AutoSeq1 (wpAny_loadPart')
open PySem.MeetsSeq PySem.MeetsSeq2 PySem.MeetsSeq3
theorem Z1(l b:η)(items items2:Array δ)(n n2:Nat)(dd dd2:Option η)(sl sl2:Array (Option δ))(ns ms:List (List Int)):
  Meets (gm.«tuple.__gt__» ⟨[.ref l,.ref b],[]⟩)
   (fun A R s=>s.heap.get? l=some { cls:=.type "tuple",dict:=dd,data:=.seq items n,slots:=sl }/\s.heap.get? b=some { cls:=.type "tuple",dict:=dd2,data:=.seq items2 n2,slots:=sl2 } ∧
    (jG s.heap items.toList ns/\jG s.heap items2.toList ms/\A.units+8<cLine)/\R (.ok (.ret (.bool (gf ms ns)))) s):=
 .of_wp fun prog w A R s h=>by
  obtain⟨hp,g,d,tk,os⟩:=s;obtain⟨hl,hb,⟨hi,hj,hu⟩,h⟩:=h;have f2:=hZ;have z1:items.size=ns.length:=by rw[←hi.length];simp
  have z2:items2.size=ms.length:=by rw[←hj.length];simp
  have hu1:A.in1.units<cLine:=by first|(show A.units<cLine;lia)|(show A.units+1<cLine;lia)
  wp_walk using wpAny_loadPart' hl,wpAny_loadPart' hb,ls _ (fun rest b s'=>b.1=none/\s'=⟨hp,g,d,tk,os⟩/\∃(vs ws:List δ) (ns' ms':List (List Int)),rest=vs.zip ws ∧
   jG hp vs ns'/\jG hp ws ms'/\ns'.length+items2.size=ms'.length+items.size/\R (.ok (.ret (.bool (gf ms' ns')))) ⟨hp,g,d,tk,os⟩) _
  case turn=>
   rintro⟨y,x⟩ rest b s' ⟨hb',rfl,vs,ws,ns',ms',hz,hvi,hwi,hlen,hR⟩;cases hvi with
   |nil=>rw[kH] at hz;cases hz
   |@cons a its ks _ _ t1 i1 hvi'=>
    cases hwi with
    |nil=>rw[km] at hz;cases hz
    |@cons c its2 ks2 _ _ t2 i2 hwi'=>
     rw[dJ] at hz;injection hz with hyx hrest;injection hyx with hy hx;subst hy hx;have hR2:R (.ok (.ret (.bool (if ks2=ks then gf _ _ else lexLt ks2 ks)))) ⟨hp,g,d,tk,os⟩:=hR;simp only[ag] at hlen;refine γ (kf (knd:=intKind prog w) (s:=⟨hp,g,d,tk,os⟩) hu1 (AV t1 i1) (AV t2 i2) ?_);by_cases e:ks=ks2
     ·rw[if_pos e.symm] at hR2;rw[decide_eq_true e];wp_walk;exact⟨rfl,rfl,_,_,_,_,hrest,hvi',hwi',by lia,hR2⟩
     ·rw[if_neg (eU e)] at hR2;rw[decide_eq_false e];have hri:∀(E:δ->ζ->Prop) (Q:δ->ζ->Prop),Q (.bool (lexLt ks2 ks)) ⟨hp,g,d,tk,os⟩->π (model prog w) A.in1 (iM .Gt (.ref a) (.ref c)) Q E ⟨hp,g,d,tk,os⟩:=fun E Q h=>(u5 (s:=⟨hp,g,d,tk,os⟩) t1 t2 i1 i2 hu1 h:π (model prog w) A.in1 (compareOp .Gt (.ref a) (.ref c)) Q E ⟨hp,g,d,tk,os⟩);wp_walk using hri;exact⟨_,rfl,by simpa using hR2⟩
  case fin=>
   rintro⟨b1,b2⟩ s' ⟨hb',rfl,vs,ws,ns',ms',hz,hvi,hwi,hlen,hR⟩;simp only at hb';subst hb';have hv:gf ms' ns'=decide (items2.size<items.size):=by
    cases hvi with
    |nil=>
     cases hwi with
     |nil=>
      simp only[bO] at hlen;exact (decide_eq_false (by lia)).symm
     |cons c u hw=>
      simp only[bO,ag] at hlen;exact (decide_eq_false (by lia)).symm
    |cons a t hv=>
     cases hwi with
     |nil=>
      simp only[bO,ag] at hlen;exact (decide_eq_true (by lia)).symm
     |cons c u hw=>
      rw[dJ] at hz;cases hz
   rw[hv] at hR;wp_walk;exact⟨_,rfl,by simpa [fI] using hR⟩
  case h=>
   exact⟨rfl,rfl,items.toList,items2.toList,ns,ms,rfl,hi,hj,by lia,h⟩
end
section
variable {prog:aw} {w:aG} {A:aR} {E:δ->ζ->Prop} {s:ζ}
theorem Bh{l b:η}{items items2:Array δ}{ns ms:List (List Int)}{Q:δ->ζ->Prop}(hl:gS s.heap l items)(hb:gS s.heap b items2)(hi:jG s.heap items.toList ns)(hj:jG s.heap items2.toList ms)
  (hu:A.units+16<cLine) (h:Q (.bool (gf ms ns)) s):π (model prog w) A (compareOp .Gt (.ref l) (.ref b)) Q E s:=by
 obtain⟨⟨cls,dd,data,sl⟩,ho,hc,n,hd⟩:=id hl;obtain⟨⟨cls2,dd2,data2,sl2⟩,ho2,hc2,n2,hd2⟩:=id hb;simp only at hc hd hc2 hd2;subst hc hd hc2 hd2;exact iL (op:=.Gt) ⟨_,ho,rfl⟩ ⟨_,ho2,rfl⟩ PySem.F.slot_tuple_gt PySem.F.entry_tuple_gt (PySem.F.args_tuple_gt_2 _ _) (Z1 l b items items2 n n2 dd dd2 sl sl2 ns ms)
  ⟨ho,ho2,⟨hi,hj,by first|lia|(show A.units+1+8<cLine;lia)|(show A.units+2+8<cLine;lia)⟩,show fw (gf ms ns)≠jw/\Q (.bool (gf ms ns)) s from⟨(fun x=>nomatch x),h⟩⟩ (by lia)
end
end HT
namespace L3
open PySem PySem.Spec PyProof.Rows L2
abbrev ik:=List Int×η×δ
section
variable {K:PySem.W.Frag} {H:Hp} {G:Gp} {a p:η} {ks:List (List Int)}
theorem Ext.uN{φ:Heap->Prop}{o:HO}(h:H p=some (.ext φ)):Ext H (upd H p o):=
 ⟨fun b ys e=>by
  rw[fi fun z=>by rw[z,h] at e;cases e];exact e,fun b x u e=>by
  rw[fi fun z=>by rw[z,h] at e;cases e];exact e⟩
theorem bB.uN{φ:Heap->Prop}{o:HO}{g:GO}(R:bB K G H)(h:H p=some (.ext φ))(new:uc K (upd H p o) p g):bB K (eu G p g) (upd H p o):=fun a u e=>by
 by_cases z:a=p
 ·subst z;rw[lg] at e;cases e;exact new
 ·rw[kC z] at e;exact (R a u e).ext (Ext.uN h) (fi z)
end
section
variable {X:Cx} {pins:List (η×br)} {σ:L2.St} {H:Hp} {s:ζ} {a b:η} {A:aR} {E:δ->ζ->Prop}
theorem zW(I:L2.Inv X pins σ H s){k:List Int}(h:cK X.K H b (k.map V.int)):(tupleKind (intKind X.prog X.w)).is s.heap k b:=by
 obtain⟨its,rv,⟨o,h1,h2,n,h3⟩,_⟩:=I.tuple h;exact⟨o,its.toArray,n,h1,h2,h3,AD rv⟩
end
end L3
namespace L3
open PySem PySem.Spec PyProof.Rows L2
abbrev KD:=List Int×D
def i4(a:η)(o:br):Heap->Prop:=fun h=>h.get? a=some o
structure CD(K:PySem.W.Frag)(H:Hp)(p:KD)(x:ik):Prop where
 k:x.1=p.1
 t:cK K H x.2.1 (x.1.map V.int)
 v:∃v,Hv K H p.2 v/\RelV v x.2.2
def eh(K:PySem.W.Frag)(H:Hp):List KD->List ik->Prop
 |[],[]=>True
 |p::ps,x::xs=>CD K H p x/\eh K H ps xs
 |_,_=>False
def yr(kvs:List KD)(k:List Int)(d:D):List KD:=if k∈kvs.map (·.1) then kvs.map (fun p=>if p.1=k then (p.1,d) else p) else kvs++[(k,d)]
def oE(kvs:List KD)(k:List Int)(y:D):D:=((kvs.find? fun p=>decide (p.1=k)).map (·.2)).getD y
def mP(o:br)(xs:List ik):Prop:=o.ExactDict/\(∃P w es ep,o.data=.dict es ep/\es.toList=xs.map (entryOfKey (tupleKind (intKind P w))))/\(xs.map (·.1)).Nodup
def jo(kvs:List KD)(o:br):PySem.W.Frag->η->Hp->Prop:=fun K a H=>H a=some (.ext (i4 a o))/\(a==sysModules)=false/\∃xs,mP o xs/\eh K H kvs xs
section
variable {K:PySem.W.Frag} {H H':Hp} {G:Gp} {a b:η} {kvs:List KD} {xs:List ik} {o:br} {k:List Int} {d:D} {v:V} {r:δ}
theorem eh.ext(E:Ext H H'):∀{kvs:List KD} {xs:List ik},eh K H kvs xs->eh K H' kvs xs
 |[],[],_=>trivial
 |p::ps,x::xs,h=>⟨⟨h.1.k,cK.ext E h.1.t,let ⟨v,a,b⟩:=h.1.v;⟨v,a.ext E,b⟩⟩,eh.ext E h.2⟩
 |[],_::_,h=>h.elim
 |_::_,[],h=>h.elim
theorem eh.keys:∀{kvs:List KD} {xs:List ik},eh K H kvs xs->xs.map (·.1)=kvs.map (·.1)
 |[],[],_=>rfl
 |p::ps,x::xs,h=>by
  rw[aZ,aZ,h.1.k,eh.keys h.2]
 |[],_::_,h=>h.elim
 |_::_,[],h=>h.elim
theorem eh.mO:∀{kvs:List KD} {xs:List ik},eh K H kvs xs->∀x∈xs,cK K H x.2.1 (x.1.map V.int)
 |[],[],_,_,hx=>nomatch hx
 |p::ps,x::xs,h,y,hy=>by
  rcases ay.mp hy with rfl|hy
  ·exact h.1.t
  ·exact eh.mO h.2 y hy
 |[],_::_,h,_,_=>h.elim
 |_::_,[],h,_,_=>h.elim
theorem eh.app:∀{kvs:List KD} {xs:List ik} {p:KD} {x:ik},eh K H kvs xs->CD K H p x->eh K H (kvs++[p]) (xs++[x])
 |[],[],_,_,_,h=>⟨h,trivial⟩
 |p::ps,x::xs,_,_,h,e=>⟨h.1,eh.app h.2 e⟩
 |[],_::_,_,_,h,_=>h.elim
 |_::_,[],_,_,h,_=>h.elim
theorem eh.Mu(hd:Hv K H d v)(hr:RelV v r):∀{kvs:List KD} {xs:List ik},eh K H kvs xs->eh K H (kvs.map (fun p=>if p.1=k then (p.1,d) else p)) (xs.map (putAt k r))
 |[],[],_=>trivial
 |p::ps,x::xs,h=>by
  refine⟨?_,eh.Mu hd hr h.2⟩;show CD K H (if p.1=k then (p.1,d) else p) (putAt k r x);unfold putAt;by_cases e:p.1=k
  ·rw[if_pos e,if_pos (h.1.k.trans e)];exact⟨h.1.k,h.1.t,v,hd,hr⟩
  ·rw[if_neg e,if_neg (fun z=>e (h.1.k.symm.trans z))];exact h.1
 |[],_::_,h=>h.elim
 |_::_,[],h=>h.elim
theorem at_isSome(xs:List ik)(k:List Int):(atKey xs k).isSome=decide (k∈xs.map (·.1)):=by
 unfold atKey;rw[Option.isSome_map,dI,List.find?_isSome,decide_eq_true_iff,aE];constructor
 ·rintro⟨x,hx,e⟩;exact⟨x,hx,of_decide_eq_true e⟩
 ·rintro⟨x,hx,e⟩;exact⟨x,hx,decide_eq_true e⟩
theorem eh.put(h:eh K H kvs xs)(hb:cK K H b (k.map V.int))(hd:Hv K H d v)(hr:RelV v r):eh K H (yr kvs k d) (storedH xs k b r):=by
 unfold storedH yr;rw[at_isSome,h.keys];by_cases q:k∈kvs.map (·.1)
 ·rw[if_pos q,if_pos (decide_eq_true q)];exact h.Mu hd hr
 ·rw[if_neg q,if_neg (by simpa using q)];exact h.app ⟨rfl,hb,v,hd,hr⟩
theorem eh.look(hd:Hv K H d v)(hr:RelV v r):∀{kvs:List KD} {xs:List ik},eh K H kvs xs->∃u,Hv K H (oE kvs k d) u/\RelV u (((atKey xs k).map (·.2)).getD r)
 |[],[],_=>⟨v,hd,hr⟩
 |p::ps,x::xs,h=>by
  by_cases e:p.1=k
  ·have e1:oE (p::ps) k d=p.2:=by
    unfold oE;rw[dH,decide_eq_true e];rfl
   have e2:((atKey (x::xs) k).map (·.2)).getD r=x.2.2:=by
    unfold atKey;rw[dH,decide_eq_true (h.1.k.trans e)];rfl
   rw[e1,e2];exact h.1.v
  ·have e1:oE (p::ps) k d=oE ps k d:=by
    unfold oE;rw[dH,decide_eq_false e]
   have e2:((atKey (x::xs) k).map (·.2)).getD r=((atKey xs k).map (·.2)).getD r:=by
    unfold atKey;rw[dH,decide_eq_false fun z=>e (h.1.k.symm.trans z)]
   rw[e1,e2];exact eh.look hd hr h.2
 |[],_::_,h=>h.elim
 |_::_,[],h=>h.elim
theorem JT(h:jo kvs o K a H):uc K H a (.gen (jo kvs o)):=
 ⟨h,⟨_,h.1,fun _=>nofun,fun _ _=>nofun⟩,fun H1 H2 h1 h2 e zz=>by obtain⟨z,q,xs,r,en⟩:=zz;exact⟨e.trans z,q,xs,r,en.ext ⟨h1,h2⟩⟩⟩
theorem JS{P:aw}{w:aG}{h:Heap}(e:h.get? a=some o):fX P w H h a (.ext (i4 a o)):=
 ⟨e,⟨o,e⟩,fun h1 h2 e kk=>kk _ e⟩
end
section
variable {X:Cx} {pins:List (η×br)} {σ:L2.St} {H:Hp} {s:ζ} {a b:η} {A:aR} {E:δ->ζ->Prop} {o:br} {xs:List ik} {k:List Int}
theorem uD(I:L2.Inv X pins σ H s)(e:H a=some (.ext (i4 a o))):s.heap.get? a=some o:=by
 obtain⟨z,_⟩:=(show fX X.prog X.w H s.heap a _ from I.cB a _ e);exact z
theorem Ey(I:L2.Inv X pins σ H s)(e:H a=some (.ext (i4 a o)))(R:mP o xs)(ht:∀x∈xs,cK X.K H x.2.1 (x.1.map V.int)):s.heap.DictOfH (tupleKind (intKind X.prog X.w)) a xs:=by
 obtain⟨r1,⟨P,w,es,ep,r2,r3⟩,r4⟩:=R;exact⟨o,es,ep,uD I e,r1,r2,r3,fun x hm=>zW I (ht x hm),r4⟩
theorem Z0{r:δ}{Q:Unit->ζ->Prop}(hu:A.units+1<cLine)(I:L2.Inv X pins σ H s)(e:H a=some (.ext (i4 a o)))(R:mP o xs)(ht:∀x∈xs,cK X.K H x.2.1 (x.1.map V.int))(hk:cK X.K H b (k.map V.int))(hl:xs.length≤1000)
  (h:∀s' o',L2.Inv X pins σ (upd H a (.ext (i4 a o'))) s'->mP o' (storedH xs k b r)->Q () s'):
  π (model X.prog X.w) A (setItem (.ref a) (.ref b) r) Q E s:=by
 refine wpAny_setItem_heap (hsz:=by rw[bX];omega) (ny hu) (zW I hk) (Ey I e R ht) fun h' dd' hs=>?_;obtain⟨q,es',ep',hq,y2,y3,y4,_,y5⟩:=dd';exact h _ q (Ql I (by rw[e];exact oH) hs ⟨q,hq⟩ (JS hq)) ⟨y2,⟨_,_,es',ep',y3,y4⟩,y5⟩
end
section
variable {X:Cx} {o i e f:ρ} {pos pos' p apos cpos:aP} {to ti tv ta tk td:aO}
def vf:aO:=fun _ G Q=>∀p o G2,eQ G p (.gen (jo [] o)) G2->Q (.obj p) G2
theorem ZZ(P:aw)(w:aG):mP { cls:=.type "dict",data:=.dict #[]} []:=⟨⟨rfl,rfl,rfl⟩,⟨P,w,#[],0,rfl,rfl⟩,rh⟩
theorem ZY{pins:List (η×br)}{s:ζ}{σ:L2.St}{H:Hp}(I:L2.Inv X pins σ H s):L2.Inv X pins σ (upd H s.heap.objs.size (.ext (i4 s.heap.objs.size { cls:=.type "dict",data:=.dict #[]}))) { s with heap:=s.heap.push { cls:=.type "dict",data:=.dict #[]}}:=
 I.laid (a:=s.heap.objs.size) (o:=.ext (i4 s.heap.objs.size { cls:=.type "dict",data:=.dict #[]})) (t':=s.toks) (fun _ _ q=>Heap.get?_push_of_some _ q) (υ _) (JS (Heap.get?_push_size _ rfl))
theorem ZX:PE X (.Dict [] [] pos) (fun _ H Q=>∀p o,H p=none->(p==sysModules)=false->mP o []->Q (.ref p) (upd H p (.ext (i4 p o)))):=fun pins s σ H Q I h=>
 wpAny_Dict_empty ⟨.ref s.heap.objs.size,_,ZY I,rfl,h _ _ (I.cB.fresh (υ _)) (beq_eq_false_iff_ne.mpr (eU (aX I.Gx))) (ZZ X.prog X.w)⟩
theorem ZW:cg X (.Dict [] [] pos) vf:=jJ ZX fun σ H Q ⟨τ,G,Q3,RS,RG,h,k⟩ p o hp hs R=>
 k _ _ (.obj p) _ oZ (.iP hp) (RG.iP hp (JT (kvs:=[]) ⟨jW,hs,[],R,trivial⟩)) (h p o _ (.mk' (RG.free hp)))
def uU(to ti tv:aO):aB:=fun D τ G=>tv τ G fun v G1=>to τ G1 fun o G2=>ti τ G2 fun x G3=>match o,x with
 |.obj p,.tup ds=>∃kvs ob k,G3 p=some (.gen (jo kvs ob))/\ds=k.map .int/\kvs.length≤1000/\∀ob',D.nx τ (eu G3 p (.gen (jo (yr kvs k v) ob')))
 |_,_=>False
theorem ZV{td ty tv:TE}(hu:X.A.units+1<cLine)(ho:PE X o td)(hi:PE X i ty)(hv:PE X e tv)(hs:swapsWith e (some (.Subscript o i pos')) pos.line X.env=pure false):
  PS X (.Assign [.Subscript o i pos'] e pos) (fun D σ H=>tv σ H fun v H1=>td σ H1 fun x H2=>ty σ H2 fun y H3=>∃a b ob xs k,x=.ref a/\y=.ref b/\H3 a=some (.ext (i4 a ob))/\mP ob xs/\(∀x∈xs,cK X.K H3 x.2.1 (x.1.map V.int))/\cK X.K H3 b (k.map V.int)/\xs.length≤1000 ∧
   ∀r o',RelV v r->mP o' (storedH xs k b r)->D.nx σ (upd H3 a (.ext (i4 a o')))):=by
 intro pins s σ H D I h;refine wpAny_Assign_Subscript (bP (hv pins s σ H _ I h) fun r s1 zz=>?_) hs;obtain⟨v,H1,I1,rv,q1⟩:=zz;refine bP (ho pins s1 σ H1 _ I1 q1) fun u s2 zz=>?_;obtain⟨x,H2,I2,rx,q2⟩:=zz;refine bP (hi pins s2 σ H2 _ I2 q2) fun iv s3 zz=>?_;obtain⟨y,H3,I3,ry,a,b,ob,xs,k,ex,ey,z1,R,z2,z3,z4,q3⟩:=zz;subst ex ey;obtain rfl:u=au a:=rx;obtain rfl:iv=au b:=ry;exact Z0 hu I3 z1 R z2 z3 z4 fun s4 o' I4 y1=>⟨σ,_,I4,q3 r o' rv y1⟩
theorem zV{K:PySem.W.Frag}{H:Hp}{key:List Int}{vs:List V}(h:aI K H (key.map D.int) vs):vs=key.map V.int:=by
 refine lR h ?_;clear h
 induction key with
 |nil=>rfl
 |cons n ns ih=>simp[intsOf,ih]
theorem aav(hu:X.A.units+64<cLine)(ho:cg X o to)(hi:cg X i ti)(hv:cg X e tv)(hs:swapsWith e (some (.Subscript o i pos')) pos.line X.env=pure false:=by rfl):
  oo X (.Assign [.Subscript o i pos'] e pos) (uU to ti tv):=
 mT (ZV (eG (by omega) hu) ho hi hv hs) fun D σ H zz=>by
  obtain⟨τ,G,D3,RS,RG,h,k⟩:=zz;exact
  ⟨τ,G,_,RS,RG,h,fun v H1 dv G1 hv S1 R1 q1=>⟨τ,G1,_,RS.ext (S1.ext RG),R1,q1,fun x H2 d2 G2 h2 S2 R2 q2=>
   ⟨τ,G2,_,(RS.ext (S1.ext RG)).ext (S2.ext R1),R2,q2,fun y H3 d3 G3 h3 S3 R3 q3=>by
    cases d2 with
    |obj p=>
     cases d3 with
     |tup ds=>
      obtain⟨kvs,ob,key,e1,rfl,l1,q⟩:=q3;obtain⟨⟨z1,z0,xs,z2,z3⟩,_⟩:=R3 p _ e1;obtain⟨b,vs,rfl,t1,t2⟩:=kx h3;obtain rfl:=zV t2;have hx:x=.ref p:=ij h2;refine⟨p,b,ob,xs,key,hx,rfl,z1,z2,z3.mO,t1,?_,fun r o' rr y1=>?_⟩
      ·have:=congrArg bR z3.keys;rw[ε,ε] at this;omega
      ·have E3:=Ext.uN (o:=.ext (i4 p o')) z1;refine k.nx τ σ _ _ ?_ ?_ (R3.uN z1 (JT ⟨jW,z0,_,y1,(z3.put t1 ((hv.ext (S2.ext R1)).ext (S3.ext R2)) rr).ext E3⟩)) (q o')
       ·exact ((((RS.ext (S1.ext RG)).ext (S2.ext R1)).ext (S3.ext R2))).ext E3
       ·exact ((S1.trans S2).trans S3).trans (Step.wrote e1)
     |_=>exact q3.elim
    |_=>exact q3.elim⟩⟩⟩
def ve(to tk td:aO):aO:=fun τ G Q=>to τ G fun o G1=>match o with
 |.obj p=>(∃kvs ob,G1 p=some (.gen (jo kvs ob)))/\tk τ G1 fun x G2=>td τ G2 fun y G3=>match x with
  |.tup ds=>∃kvs ob k,G3 p=some (.gen (jo kvs ob))/\ds=k.map .int/\Q (oE kvs k y) G3
  |_=>False
 |_=>False
theorem aau{to tk td:TE}(hu:X.A.units+1<cLine)(ho:PE X o to)(he:PE X e tk)(hf:PE X f td)(m:M2 X o "get" apos e f cpos):
  PE X (.Call (.Attribute o "get" apos) [e,f] [] cpos) (fun σ H Q=>to σ H fun x H1=>∃a,x=.ref a/\(∃ob,H1 a=some (.ext (i4 a ob))/\ob.ExactDict)/\tk σ H1 fun y H2=>td σ H2 fun z H3=>∃b k ob xs,y=.ref b/\H3 a=some (.ext (i4 a ob))/\(a==sysModules)=false/\mP ob xs/\(∀x∈xs,cK X.K H3 x.2.1 (x.1.map V.int))/\cK X.K H3 b (k.map V.int) ∧
   ∀r,RelV z r->∃u,RelV u (((atKey xs k).map (·.2)).getD r)/\Q u H3):=by
 intro pins s σ H Q I h;refine wpAny_Call_method m.base m.few m.line PySem.F.plainAttrs_dict PySem.F.slot_dict_get PySem.F.type_dict_get (bP (ho pins s σ H _ I h) fun u s1 zz=>?_);obtain⟨x,H1,I1,rx,a,ex,⟨ob,e1,ex1⟩,q1⟩:=zz;subst ex;obtain rfl:u=au a:=rx;have hh:=uD I1 e1;refine⟨⟨ob,hh,ex1.1⟩,fun a1 e=>by cases e;exact⟨ob,hh,ex1.2.1⟩,?_⟩;rw[m.trees];refine kU rfl (sf (nF (bP (he pins s1 σ H1 _ I1 q1) fun iv s2 zz=>?_)));obtain⟨y,H2,I2,ry,q2⟩:=zz;refine nF (bP (hf pins s2 σ H2 _ I2 q2) fun fv s3 zz=>t4 ?_);obtain⟨z,H3,I3,rz,b,k,ob2,xs,ey,z1,z0,R,z2,z3,q3⟩:=zz;subst ey;obtain rfl:iv=au b:=ry;have dd:=Ey I3 z1 R z2;obtain⟨u,ru,q⟩:=q3 fv rz;exact call_meetsIn PySem.F.slot_dict_get dd.typeIs PySem.F.entry_dict_get (PySem.F.args_dict_get_3 _ _ _) (meetsH_dict_get_default (tupleKind (intKind X.prog X.w)) a b z0 fv) ⟨ny hu,k,xs,zW I3 z3,dd,⟨u,H3,I3.tok _,ru,q⟩⟩
theorem aat(hu:X.A.units+64<cLine)(ho:cg X o to)(he:cg X e tk)(hf:cg X f td)(m:M2 X o "get" apos e f cpos):cg X (.Call (.Attribute o "get" apos) [e,f] [] cpos) (ve to tk td):=
 jJ (aau (eG (by omega) hu) ho he hf m) fun σ H Q zz=>by
  obtain⟨τ,G,Q3,RS,RG,h,k⟩:=zz;exact
  ⟨τ,G,_,RS,RG,h,fun v H1 d1 G1 h1 S1 R1 q1=>by
   cases d1 with
   |obj p=>
    obtain⟨⟨kvs,ob,e1⟩,q1⟩:=q1;obtain⟨⟨z1,z0,xs,z2,z3⟩,_⟩:=R1 p _ e1;refine⟨p,ij h1,⟨ob,z1,z2.1⟩,τ,G1,_,RS.ext (S1.ext RG),R1,q1,fun y H2 d2 G2 h2 S2 R2 q2=>⟨τ,G2,_,(RS.ext (S1.ext RG)).ext (S2.ext R1),R2,q2,fun z H3 d3 G3 h3 S3 R3 q3=>?_⟩⟩;cases d2 with
    |tup ds=>
     obtain⟨kvs,ob,key,e1,rfl,q⟩:=q3;obtain⟨⟨z1,z0,xs,z2,z3⟩,_⟩:=R3 p _ e1;obtain⟨b,vs,rfl,t1,t2⟩:=kx (h2.ext (S3.ext R2));obtain rfl:=zV t2;refine⟨b,key,ob,xs,rfl,z1,z0,z2,z3.mO,t1,fun r rr=>?_⟩;obtain⟨u,hu1,hu2⟩:=z3.look (k:=key) h3 rr;exact⟨u,hu2,k u H3 _ G3 hu1 ((S1.trans S2).trans S3) R3 q⟩
    |_=>exact q3.elim
   |_=>exact q1.elim⟩
end
end L3
namespace L3
open PySem PySem.Spec PyProof.Rows L2
section
variable {prog:aw} {w:aG} {A:aR} {E:δ->ζ->Prop} {s:ζ}
theorem aas(d:η)(hd:(d==sysModules)=false):
  MeetsIn prog w (gm.«dict.items» ⟨[.ref d],[]⟩) (fun _ R s=>s.TypeIs (.ref d) "dict" ∧
   R (.ok (.ret (.ref s.heap.objs.size))) { s with heap:=s.heap.push { cls:=.type "dict_items",data:=.fields #[.ref d]}}):=
 .of_wp fun A R s ⟨hm,h⟩=>by
  unfold gm.«dict.items»;refine γ ?_;unfold gm.Dict.noArgs;refine γ (wpAny_notOrdered_dict hm ?_);show π _ _ (pure d) _ _ s;refine ι ?_;show π _ _ (jd d >>= _) _ _ s;unfold jd;rw[if_neg (by rw[hd];exact ak)];refine γ (ι ?_);exact γ (bx (ι ⟨_,rfl,h⟩))
theorem yT{v d:η}{o:br}{es:Array gY}{ep:Nat}{Q:δ->ζ->Prop}(hv:s.heap.IsItemsView v d)(ho:s.heap.get? d=some o)(hdat:o.data=.dict es ep)
  (hQ:Q (.ref s.heap.objs.size) { s with heap:=s.heap.push { cls:=.type "dict_itemiterator",data:=.fields #[.none,.bool false,.ref d,.int 0 0,.int es.size 0,.int ep 0,.none,.none]}}):
  π (model prog w) A (pyIter (.ref v)) Q E s:=by
 obtain⟨ov,hov,hcv,hdv⟩:=id hv;refine wpAny_pyIter_slot hv.typeIs F.slot_dict_items_iter (bU F.slot_dict_items_iter hv.typeIs F.entry_dict_items_iter ?_ (F.args_dict_items_iter_1 _));unfold gm.«dict_items.__iter__»;refine γ (ι ?_);refine γ ?_;unfold gm.Dict_items.dictOf;refine γ (dZ hov hdv (x:=.ref d) rfl (ι ?_));refine γ ?_;unfold gm.Dict_items.newIterator;refine γ (e6 ho hdat ?_);refine γ (fN ho hdat ?_);have hown:cT "dict_itemiterator" = true:=by decide
 simp only[hown,if_true];refine bx (ι ⟨_,rfl,"dict_itemiterator",_,⟨_,Heap.get?_push_size _ rfl,rfl⟩,F.slot_dict_itemiterator_next.lookup,?_⟩)
  (by simp only[sizeOk,kv,Γ,ξ,ag,bO,bX];lia)
 simpa [rawInt,kv] using hQ
theorem A5{it d:η}{i ep:Nat}{od:br}{es:Array gY}{en:gY}{ok ov:δ}{Q:Option δ->ζ->Prop}(hit:jx s.heap it d i es.size ep ok ov)
  (j0:s.heap.get? d=some od) (hdd:od.data=.dict es ep) (hx:es[i]?=some en)
  (hQ:∀h',sv h' it d (i+1) es.size ep en.key en.val s.heap.objs.size ->
   h'.get? s.heap.objs.size=some { cls:=.type "tuple",data:=.seq #[en.key,en.val]}->h'.objs.size=s.heap.objs.size+1 ->
   (∀b o,b≠it->s.heap.get? b=some o->h'.get? b=some o)->Q (some (.ref s.heap.objs.size)) { s with heap:=h' }):
  π (model prog w) A (pyNext (.ref it)) Q E s:=by
 obtain⟨hp,g,dr,tk,os⟩:=s;obtain⟨hlt',een⟩:=og.mp hx;subst een;have hT:nS ⟨hp,g,dr,tk,os⟩ (.ref it) "dict_itemiterator":=⟨_,hit,rfl⟩;unfold pyNext;refine γ (gD (bW (name:=fm "__next__") hT F.slot_dict_itemiterator_next
  (bU F.slot_dict_itemiterator_next hT F.entry_dict_itemiterator_next ?_ (F.args_dict_itemiterator_next_1 _))))
 refine γ (ι ?_);refine γ ?_;refine γ ?_
 first|refine γ (ck hT (ι ?_))|refine γ (cL hT (ι ?_))
 refine γ (ja hit rfl ?_);have hown:cT "dict_itemiterator" = true:=by decide
 simp only[hown,if_true];show π _ _ (if (au d==bT)=true then _ else _) _ _ _;rw[if_neg (show ¬((au d==bT)=true) from ak)];refine γ (ι ?_);refine γ (e6 j0 hdd ?_);rw[if_neg (by simp)];refine γ (ι ?_);refine γ (fN j0 hdd ?_);rw[if_neg (by simp)];refine ι ?_;simp only[show ¬((i:Int)<0) from by lia,if_false,bz,cQ hlt'];refine γ ?_
 first|refine γ (ck hT (ι ?_))|refine γ (cL hT (ι ?_))
 refine γ (fk hT ?_);show π _ _ (setField (.ref it) 3 (rawInt ((i:Int)+1)) >>= _) _ _ ⟨hp,g,dr,tk,os⟩;refine γ (fD hit (by simp) fun h₁ he₁ hs₁=>?_)
 replace hs₁:Heap.SameBut it hp h₁:=hs₁
 replace he₁:jx h₁ it d (i+1) es.size ep ok ov:=by
  have e:((i+1:Nat):Int)=(i:Int)+1:=by lia
  unfold jx;rw[e];simpa [rawInt] using he₁
 have hT₁:nS ⟨h₁,g,dr,tk,os⟩ (.ref it) "dict_itemiterator":=⟨_,he₁,rfl⟩;refine γ (cx ?_);refine γ (fk hT₁ ?_);refine γ (fk hT₁ ?_);show π _ _ (fB (.ref it) 6 es[i].key es[i].val) _ _ ⟨h₁,g,dr,tk,os⟩;unfold fB;refine γ (ko ?_);have he₂:jx (h₁.push { cls:=.type "tuple",data:=.seq #[es[i].key,es[i].val]}) it d (i+1) es.size ep ok ov:=Heap.get?_push_of_some _ he₁;generalize hh₂:h₁.push { cls:=.type "tuple",data:=.seq #[es[i].key,es[i].val]}=h₂ at he₂;have hz₁:h₁.objs.size=hp.objs.size:=hs₁.1;have hil:it<hp.objs.size:=Heap.lt_size hit;have ht₂:h₂.get? hp.objs.size=some { cls:=.type "tuple",data:=.seq #[es[i].key,es[i].val]}:=by rw[←hh₂,←hz₁];exact Heap.get?_push_size _ rfl
 have hz₂:h₂.objs.size=hp.objs.size+1:=by rw[←hh₂,Heap.size_push,hz₁]
 have hk₂:∀b o,b≠it->hp.get? b=some o->h₂.get? b=some o:=fun b o hb e=>by rw[←hh₂];exact Heap.get?_push_of_some _ (hs₁.extBut b o hb e)
 show π _ _ (eV (.ref it) >>= _) _ _ ⟨h₂,g,dr,tk,os⟩;rw[hz₁];clear hh₂ he₁ hs₁ hT₁ hz₁ h₁;refine γ ?_;unfold eV;refine γ (dZ he₂ rfl (x:=.none) rfl (ι ?_));simp only[if_true];refine γ (dZ he₂ rfl (x:=ok) rfl ?_);refine γ (dZ he₂ rfl (x:=ov) rfl ?_);refine γ (fD he₂ (by simp) fun h₃ he₃ hs₃=>?_)
 replace hs₃:Heap.SameBut it h₂ h₃:=hs₃
 replace he₃:jx h₃ it d (i+1) es.size ep es[i].key ov:=he₃
 refine γ (fD he₃ (by simp) fun h₄ he₄ hs₄=>?_)
 replace hs₄:Heap.SameBut it h₃ h₄:=hs₄
 replace he₄:jx h₄ it d (i+1) es.size ep es[i].key es[i].val:=he₄
 refine γ (fD he₄ (by simp) fun h₅ he₅ hs₅=>?_)
 replace hs₅:Heap.SameBut it h₄ h₅:=hs₅
 replace he₅:sv h₅ it d (i+1) es.size ep es[i].key es[i].val hp.objs.size:=he₅
 refine γ (fD he₅ (by simp) fun h₆ he₆ hs₆=>?_)
 replace hs₆:Heap.SameBut it h₅ h₆:=hs₆
 replace he₆:sv h₆ it d (i+1) es.size ep es[i].key es[i].val hp.objs.size:=he₆
 refine γ (kR (ι (ι ⟨_,rfl,ι (hQ h₆ he₆ ?_ ?_ ?_)⟩)))
 ·exact hs₆.extBut _ _ (b0 hil) (hs₅.extBut _ _ (b0 hil) (hs₄.extBut _ _ (b0 hil) (hs₃.extBut _ _ (b0 hil) ht₂)))
 ·show h₆.objs.size=hp.objs.size+1;rw[hs₆.1,hs₅.1,hs₄.1,hs₃.1,hz₂]
 ·exact fun b o hb e=>hs₆.extBut b o hb (hs₅.extBut b o hb (hs₄.extBut b o hb (hs₃.extBut b o hb (hk₂ b o hb e))))
theorem CZ{it d:η}{i ep:Nat}{od:br}{es:Array gY}{ok ov:δ}{Q:Option δ->ζ->Prop}(hh:A.handled=none)(hit:jx s.heap it d i es.size ep ok ov)
  (j0:s.heap.get? d=some od) (hdd:od.data=.dict es ep) (hge:es.size≤i)
  (hQ:∀h',Heap.ExtBut it s.heap h'->Q none { s with heap:=h' }):π (model prog w) A (pyNext (.ref it)) Q E s:=by
 have hT:s.TypeIs (.ref it) "dict_itemiterator":=⟨_,hit,rfl⟩;unfold pyNext;refine γ (gD (bW (name:=fm "__next__") hT F.slot_dict_itemiterator_next
  (bU F.slot_dict_itemiterator_next hT F.entry_dict_itemiterator_next ?_ (F.args_dict_itemiterator_next_1 _))))
 refine γ (ι ?_);refine γ ?_;refine γ ?_
 first|refine γ (ck hT (ι ?_))|refine γ (cL hT (ι ?_))
 refine γ (ja hit rfl ?_);have hown:cT "dict_itemiterator" = true:=by decide
 simp only[hown,if_true];show π _ _ (if (au d==bT)=true then _ else _) _ _ s;rw[if_neg (show ¬((au d==bT)=true) from ak)];refine γ (ι ?_);refine γ (e6 j0 hdd ?_);rw[if_neg (by simp)];refine γ (ι ?_);refine γ (fN j0 hdd ?_);rw[if_neg (by simp)];refine ι ?_;simp only[show ¬((i:Int)<0) from by lia,if_false,bz,kW hge];refine γ ?_
 first|refine γ (ck hT (ι ?_))|refine γ (cL hT (ι ?_))
 show π _ _ (setField (.ref it) 2 .none >>= _) _ _ s;refine γ (i8 hit rfl (by simp) ?_);show π _ _ (newExc (.type "StopIteration") [] >>= _) _ _ _;refine γ ?_;simp only[newExc,newTuple];refine γ (bx ?_ (by size_fits));refine γ (m:=firstArgMember _ _) (nc (a:=bT) (by first|rfl|(simp only[firstArgMember];rfl)) ?_)
 refine bx ?_ (by size_fits);simp only[raiseNew];refine γ (nR ?_);rw[show A.in1.handled=none from hh];refine γ (ι (qy ?_));refine γ (ju (T:="StopIteration") (b:=true) ⟨_,Heap.get?_push_size _ rfl,rfl⟩ mZ ?_);exact ι (hQ _ (((Heap.SameBut.update ..).extBut.push _).push _))
end
theorem eh.get{K:PySem.W.Frag}{H:Hp}:∀{kvs:List KD} {xs:List ik} {i:Nat} {q:KD},eh K H kvs xs->kvs[i]?=some q->∃x,xs[i]?=some x/\CD K H q x
 |[],_,_,_,_,e=>by cases e
 |p::ps,x::xs,0,q,h,e=>by
  cases e;exact⟨x,rfl,h.1⟩
 |p::ps,x::xs,i+1,q,h,e=>eh.get (i:=i) h.2 e
 |_::_,[],_,_,h,_=>h.elim
theorem Ex{K:PySem.W.Frag}{H:Hp}:∀k:List Int,aI K H (k.map D.int) (k.map V.int)
 |[]=>by simp[aI]
 |n::ns=>aI.cons (by simp[Hv]) (Ex ns)
end L3
namespace PySem
def Heap.gN(h:Heap)(d:η)(kvs:List (δ×δ))(ep:Nat):Prop:=∃(od:br) (es:Array gY),h.get? d=some od/\od.data=.dict es ep/\es.toList.map (fun e=>(e.key,e.val))=kvs
theorem Heap.gN.at'{h h':Heap}{d:η}{kvs:List (δ×δ)}{ep:Nat}(x:h.gN d kvs ep)(k:∀o,h.get? d=some o->h'.get? d=some o):h'.gN d kvs ep:=by
 obtain⟨od,es,e1,e2⟩:=x;exact⟨od,es,k _ e1,e2⟩
theorem Heap.gN.push{h:Heap}{d:η}{kvs:List (δ×δ)}{ep:Nat}(x:h.gN d kvs ep)(o:br):(h.push o).gN d kvs ep:=x.at' fun _ e=>Heap.get?_push_of_some _ e
theorem Heap.gN.lt_size{h:Heap}{d:η}{kvs:List (δ×δ)}{ep:Nat}(x:h.gN d kvs ep):d<h.objs.size:=by
 obtain⟨od,es,e1,e2⟩:=x;exact Heap.lt_size e1
end PySem
namespace Ng
open PySem PySem.W PySem.Calls PyProof.Rows PyProof.V PySem.Spec
theorem JR{es:Array gY}{kvs:List (δ×δ)}{i:Nat}{e:gY}{k v:δ}(h:es.toList.map (fun e=>(e.key,e.val))=kvs)(he:es.toList[i]?=some e)(hx:kvs[i]?=some (k,v)):e.key=k/\e.val=v:=by
 rw[←h,az,he] at hx;have:=aA hx;exact⟨congrArg (·.1) this,congrArg (·.2) this⟩
theorem aar{prog:aw}{w:aG}{A:aR}{E:δ->ζ->Prop}{s:ζ}{v d:η}{kvs:List (δ×δ)}{ep:Nat}{Q:δ->ζ->Prop}(hv:s.heap.IsItemsView v d)(hm:s.heap.gN d kvs ep)
  (hQ:Q (.ref s.heap.objs.size) { s with heap:=s.heap.push { cls:=.type "dict_itemiterator",data:=.fields #[.none,.bool false,.ref d,.int 0 0,.int kvs.length 0,.int ep 0,.none,.none]}}):
  π (model prog w) A (pyIter (.ref v)) Q E s:=by
 obtain⟨od,es,j0,hdd,hpr⟩:=id hm;have hsz:kvs.length=es.size:=by rw[←hpr];simp
 rw[hsz] at hQ;exact L3.yT hv j0 hdd hQ
abbrev KdxIt(h:Heap)(it d:η)(i n ep:Nat)(ok ov:δ)(a:η)(f:Bool):Prop:=
 h.get? it=some { cls:=.type "dict_itemiterator",dict:=none,data:=.fields #[rawInt a,.bool f,.ref d,.int i 0,.int n 0,.int ep 0,ok,ov],slots:=#[]}
section
variable {prog:aw} {w:aG} {A:aR} {E:δ->ζ->Prop} {s:ζ}
theorem kdx_alive{a:η}{o:br}{Q:Option br->ζ->Prop}(ho:s.heap.get? a=some o)(h:Q (some o) s):π (model prog w) A (loadIfAlive a) Q E s:=by
 have h':Q (s.heap.get? a) s:=by rw[ho];exact h
 exact fun _ _ _=>h'
theorem kdx_next_out{it d a:η}{f:Bool}{oa:br}{i ep:Nat}{kvs:List (δ×δ)}{k:δ}{v ok ov:δ}{Q:Option δ->ζ->Prop}(hit:KdxIt s.heap it d i kvs.length ep ok ov a f)(ha:s.heap.get? a=some oa)(hai:a≠it)
  (hm:s.heap.gN d kvs ep) (hx:kvs[i]?=some (k,v))
  (hQ:∀key h',key=k->KdxIt h' it d (i+1) kvs.length ep ok ov a true ->
   h'.get? s.heap.objs.size=some { cls:=.type "tuple",data:=.seq #[key,v]}->h'.objs.size=s.heap.objs.size+1 ->
   (∀b o,b≠it->s.heap.get? b=some o->h'.get? b=some o)->Q (some (.ref s.heap.objs.size)) { s with heap:=h' }):
  π (model prog w) A (pyNext (.ref it)) Q E s:=by
 obtain⟨hp,g,dr,tk,os⟩:=s;obtain⟨od,es,j0,hdd,hpr⟩:=id hm;have hT:nS ⟨hp,g,dr,tk,os⟩ (.ref it) "dict_itemiterator":=⟨_,hit,rfl⟩;unfold pyNext;refine γ (gD (bW (name:=fm "__next__") hT PySem.F.slot_dict_itemiterator_next
  (bU PySem.F.slot_dict_itemiterator_next hT PySem.F.entry_dict_itemiterator_next ?_ (PySem.F.args_dict_itemiterator_next_1 _))))
 refine γ (ι ?_);refine γ ?_;refine γ ?_
 first|refine γ (ck hT (ι ?_))|refine γ (cL hT (ι ?_))
 refine γ (ja hit rfl ?_);have hown:cT "dict_itemiterator" = true:=by decide
 simp only[hown,if_true];show π _ _ (if (au d==bT)=true then _ else _) _ _ _;rw[if_neg (show ¬((au d==bT)=true) from ak)];refine γ (ι ?_);refine γ (e6 j0 hdd ?_);have hsz:es.size=kvs.length:=by rw[←hpr];simp
 rw[if_neg (by rw[hsz];simp)];refine γ (ι ?_);refine γ (fN j0 hdd ?_);rw[if_neg (by simp)];refine ι ?_;have hlt:i<kvs.length:=by
  rcases tE i kvs.length with h|h
  ·exact h
  ·simp[lL h] at hx
 have hlt':i<es.size:=by rw[hsz];exact hlt
 obtain⟨hkey,hval⟩:=JR hpr (i:=i) (e:=es[i]) (by simp[hlt']) hx;simp only[show ¬((i:Int)<0) from by lia,if_false,bz,cQ hlt'];refine γ ?_
 first|refine γ (ck hT (ι ?_))|refine γ (cL hT (ι ?_))
 refine γ (fk hT ?_);show π _ _ (setField (.ref it) 3 (rawInt ((i:Int)+1)) >>= _) _ _ ⟨hp,g,dr,tk,os⟩;refine γ (fD hit (by simp) fun h₁ he₁ hs₁=>?_)
 replace hs₁:Heap.SameBut it hp h₁:=hs₁
 replace he₁:KdxIt h₁ it d (i+1) kvs.length ep ok ov a f:=by
  have e:((i+1:Nat):Int)=(i:Int)+1:=by lia
  unfold KdxIt;rw[e];simpa [rawInt] using he₁
 have hT₁:nS ⟨h₁,g,dr,tk,os⟩ (.ref it) "dict_itemiterator":=⟨_,he₁,rfl⟩;refine γ (cx ?_);refine γ (fk hT₁ ?_);refine γ (fk hT₁ ?_);show π _ _ (fB (.ref it) 6 es[i].key es[i].val) _ _ ⟨h₁,g,dr,tk,os⟩;unfold fB;refine γ (ko ?_);have he₂:KdxIt (h₁.push { cls:=.type "tuple",data:=.seq #[es[i].key,es[i].val]}) it d (i+1) kvs.length ep ok ov a f:=Heap.get?_push_of_some _ he₁;generalize hh₂:h₁.push { cls:=.type "tuple",data:=.seq #[es[i].key,es[i].val]}=h₂ at he₂;have hz₁:h₁.objs.size=hp.objs.size:=hs₁.1;have hil:it<hp.objs.size:=Heap.lt_size hit;have ht₂:h₂.get? hp.objs.size=some { cls:=.type "tuple",data:=.seq #[es[i].key,es[i].val]}:=by rw[←hh₂,←hz₁];exact Heap.get?_push_size _ rfl
 have hz₂:h₂.objs.size=hp.objs.size+1:=by rw[←hh₂,Heap.size_push,hz₁]
 have hk₂:∀b o,b≠it->hp.get? b=some o->h₂.get? b=some o:=fun b o hb e=>by rw[←hh₂];exact Heap.get?_push_of_some _ (hs₁.extBut b o hb e)
 show π _ _ (eV (.ref it) >>= _) _ _ ⟨h₂,g,dr,tk,os⟩;rw[hz₁];clear hh₂ he₁ hs₁ hT₁ hz₁ h₁;have ha₂:h₂.get? a=some oa:=hk₂ a oa hai ha;refine γ ?_;unfold eV;refine γ (dZ he₂ rfl (x:=rawInt a) rfl ?_);show π _ _ (loadIfAlive ((a:Int).toNat) >>= _) _ _ _;rw[bz];refine γ (kdx_alive ha₂ ?_);simp only[Option.isNone_some,cq,if_false];refine γ (dZ he₂ rfl (x:=.bool f) rfl ?_);have fin:∀h₃:Heap,KdxIt h₃ it d (i+1) kvs.length ep ok ov a true->Heap.SameBut it h₂ h₃->Q (some (.ref hp.objs.size)) ⟨h₃,g,dr,tk,os⟩:=fun h₃ he₃ hs₃=>
  hQ es[i].key h₃ hkey he₃ (by rw[←hval];exact hs₃.extBut _ _ (b0 hil) ht₂) (by show h₃.objs.size=hp.objs.size+1;rw[hs₃.1,hz₂]) fun b o hb e=>hs₃.extBut b o hb (hk₂ b o hb e)
 cases f with
 |true=>
  rw[if_neg (show ¬((fw true != fw true)=true) from ak)];refine ι ?_;simp only[cq,if_false];exact ι (ι ⟨_,rfl,ι (fin h₂ he₂ (Heap.SameBut.refl _ _))⟩)
 |false=>
  rw[if_pos (show (fw false != fw true)=true from rfl)];refine γ (fD he₂ (by simp) fun h₃ he₃ hs₃=>?_)
  replace hs₃:Heap.SameBut it h₂ h₃:=hs₃
  replace he₃:KdxIt h₃ it d (i+1) kvs.length ep ok ov a true:=he₃
  refine ι ?_;simp only[cq,if_false];exact ι (ι ⟨_,rfl,ι (fin h₃ he₃ hs₃)⟩)
theorem kdx_end_out{it d a:η}{f:Bool}{i ep:Nat}{kvs:List (δ×δ)}{ok ov:δ}{Q:Option δ->ζ->Prop}(hh:A.handled=none)(hit:KdxIt s.heap it d i kvs.length ep ok ov a f)
  (hm:s.heap.gN d kvs ep) (hx:kvs[i]?=none)
  (hQ:∀h',Heap.ExtBut it s.heap h'->Q none { s with heap:=h' }):π (model prog w) A (pyNext (.ref it)) Q E s:=by
 obtain⟨od,es,j0,hdd,hpr⟩:=id hm;have hT:s.TypeIs (.ref it) "dict_itemiterator":=⟨_,hit,rfl⟩;unfold pyNext;refine γ (gD (bW (name:=fm "__next__") hT PySem.F.slot_dict_itemiterator_next
  (bU PySem.F.slot_dict_itemiterator_next hT PySem.F.entry_dict_itemiterator_next ?_ (PySem.F.args_dict_itemiterator_next_1 _))))
 refine γ (ι ?_);refine γ ?_;refine γ ?_
 first|refine γ (ck hT (ι ?_))|refine γ (cL hT (ι ?_))
 refine γ (ja hit rfl ?_);have hown:cT "dict_itemiterator" = true:=by decide
 simp only[hown,if_true];show π _ _ (if (au d==bT)=true then _ else _) _ _ s;rw[if_neg (show ¬((au d==bT)=true) from ak)];refine γ (ι ?_);refine γ (e6 j0 hdd ?_);have hsz:es.size=kvs.length:=by rw[←hpr];simp
 rw[if_neg (by rw[hsz];simp)];refine γ (ι ?_);refine γ (fN j0 hdd ?_);rw[if_neg (by simp)];refine ι ?_;have hge:es.size≤i:=by rw[hsz];simpa using hx
 simp only[show ¬((i:Int)<0) from by lia,if_false,bz,kW hge];refine γ ?_
 first|refine γ (ck hT (ι ?_))|refine γ (cL hT (ι ?_))
 show π _ _ (setField (.ref it) 2 .none >>= _) _ _ s;refine γ (i8 hit rfl (by simp) ?_);show π _ _ (newExc (.type "StopIteration") [] >>= _) _ _ _;refine γ ?_;simp only[newExc,newTuple];refine γ (bx ?_ (by size_fits));refine γ (m:=firstArgMember _ _) (nc (a:=bT) (by first|rfl|(simp only[firstArgMember];rfl)) ?_)
 refine bx ?_ (by size_fits);simp only[raiseNew];refine γ (nR ?_);rw[show A.in1.handled=none from hh];refine γ (ι (qy ?_));refine γ (ju (T:="StopIteration") (b:=true) ⟨_,Heap.get?_push_size _ rfl,rfl⟩ mZ ?_);exact ι (hQ _ (((Heap.SameBut.update ..).extBut.push _).push _))
def KdxSt(h:Heap)(it d S:η)(i n ep:Nat):Prop:=
 (i=0/\∃ok ov,jx h it d 0 n ep ok ov)∨∃ok ov a f oa,KdxIt h it d i n ep ok ov a f/\h.get? a=some oa/\a≠it/\a≠S
theorem KdxSt.keep{h h':Heap}{it d S:η}{i n ep:Nat}(x:KdxSt h it d S i n ep)(hk:∀b o,b≠S->h.get? b=some o->h'.get? b=some o)(hI:it≠S):KdxSt h' it d S i n ep:=by
 rcases x with⟨e,ok,ov,hit⟩|⟨ok,ov,a,f,oa,hit,ha,hai,haS⟩
 ·exact .inl ⟨e,ok,ov,hk _ _ hI hit⟩
 ·exact .inr ⟨ok,ov,a,f,oa,hk _ _ hI hit,hk _ _ haS ha,hai,haS⟩
theorem kdx_item{it d S:η}{i ep:Nat}{kvs:List (δ×δ)}{k:δ}{v:δ}{Q:Option δ->ζ->Prop}(hst:KdxSt s.heap it d S i kvs.length ep)(hS:S<s.heap.objs.size)
  (hm:s.heap.gN d kvs ep) (hx:kvs[i]?=some (k,v))
  (hQ:∀key h',key=k->KdxSt h' it d S (i+1) kvs.length ep->h'.get? s.heap.objs.size=some { cls:=.type "tuple",data:=.seq #[key,v]}->h'.objs.size=s.heap.objs.size+1 ->
   (∀b o,b≠it->s.heap.get? b=some o->h'.get? b=some o)->Q (some (.ref s.heap.objs.size)) { s with heap:=h' }):
  π (model prog w) A (pyNext (.ref it)) Q E s:=by
 rcases hst with⟨rfl,ok,ov,hit⟩|⟨ok,ov,a,f,oa,hit,ha,hai,haS⟩
 ·obtain⟨od,es,j0,hdd,hpr⟩:=id hm;have hsz:kvs.length=es.size:=by rw[←hpr];simp
  have hlt:0<es.size:=by rw[←hsz];exact (Φ.mp hx).1
  have hen:es[0]?=some es[0]:=cQ hlt;obtain⟨hkey,hval⟩:=JR hpr (i:=0) (e:=es[0]) (by simp[hlt]) hx;rw[hsz] at hit hQ;refine L3.A5 hit j0 hdd hen fun h' hit' ht hz hkeep=>?_;rw[hkey,hval] at hit' ht;exact hQ k h' rfl (.inr ⟨k,v,_,false,_,hit',ht,b0 (Heap.lt_size hit),b0 hS⟩) ht hz hkeep
 ·exact kdx_next_out hit ha hai hm hx fun key h' hk hit' ht hz hkeep=>hQ key h' hk (.inr ⟨ok,ov,a,true,oa,hit',hkeep a oa hai ha,hai,haS⟩) ht hz hkeep
theorem kdx_done{it d S:η}{i ep:Nat}{kvs:List (δ×δ)}{Q:Option δ->ζ->Prop}(hh:A.handled=none)(hst:KdxSt s.heap it d S i kvs.length ep)(hm:s.heap.gN d kvs ep)(hx:kvs[i]?=none)
  (hQ:∀h',Heap.ExtBut it s.heap h'->Q none { s with heap:=h' }):π (model prog w) A (pyNext (.ref it)) Q E s:=by
 rcases hst with⟨rfl,ok,ov,hit⟩|⟨ok,ov,a,f,oa,hit,_,_,_⟩
 ·obtain⟨od,es,j0,hdd,hpr⟩:=id hm;have hsz:kvs.length=es.size:=by rw[←hpr];simp
  rw[hsz] at hit;refine L3.CZ hh hit j0 hdd ?_ hQ;have:=ef.mp hx;lia
 ·exact kdx_end_out hh hit hm hx hQ
structure KdxG(kvs:List (δ×δ))(lo:η)(h:Heap)(as:List η):Prop where
 rise:as.Pairwise (· < ·)
 above:∀a∈as,lo<a
 pairs:∀(j:Nat) (a:η),as[j]?=some a->∃key k x,kvs[j]?=some (k,x)/\key=k/\h.get? a=some { cls:=.type "tuple",data:=.seq #[key,x]}
theorem KdxG.there{kvs:List (δ×δ)}{lo:η}{h:Heap}{as:List η}(g:KdxG kvs lo h as){a:η}(ha:a∈as):a<h.objs.size:=by
 obtain⟨j,hj⟩:=lJ.mp ha;obtain⟨_,_,_,_,_,e⟩:=g.pairs j a hj;exact Heap.lt_size e
end
section
variable {prog:aw} {w:aG} {A:aR} {s:ζ} {R:pD->ζ->Prop} {kvs:List (δ×δ)} {ep:Nat}
theorem kdx_loop{S I d:η}(hh:A.handled=none)(hSI:S<I)(hSd:d≠S)(hId:d≠I)(hn:kvs.length≤ao)(res:δ){h₁:Heap}
  (hR:∀h' tk acc c as,(∀b o,b≠S->b≠I->h₁.get? b=some o->h'.get? b=some o)->h'.get? S=some { cls:=.type "list",dict:=none,data:=.seq acc c,slots:=#[]}->as.length=kvs.length->KdxG kvs I h' as ->
   acc.toList=as.map au->R (.ok (.ret res)) { s with heap:=h',toks:=tk }):
  ∀(k i:Nat) (h:Heap) (tk c:Nat) (acc:Array δ) (as:List η),kvs.length-i=k->i≤kvs.length->KdxSt h I d S i kvs.length ep->h.gN d kvs ep->(∀b o,b≠S->b≠I->h₁.get? b=some o->h.get? b=some o) ->
   h.get? S=some { cls:=.type "list",dict:=none,data:=.seq acc c,slots:=#[]}->acc.toList=as.map au->as.length=i->KdxG kvs I h as->I<h.objs.size ->
   iw (model prog w) A (.builtin "list.extend.loop" ⟨[.ref S,.ref I,res],[]⟩) R { s with heap:=h,toks:=tk }:=by
 have hne:S≠I:=aX hSI;intro k
 induction k with
 |zero=>
  intro i h tk c acc as hk hi hst hD hkeep hS hacc hal hG hIs;have hin:i=kvs.length:=by lia
  refine e8 PySem.F.entry_extend_loop ?_;rw[eW PySem.F.plain_extend_loop _];show π _ A.in1 (pyNext (.ref I) >>= _) _ _ _;refine γ (kdx_done (s:={ s with heap:=h,toks:=tk }) (A:=A.in1) hh hst hD (lL (by lia)) fun h' he=>?_);refine ι (hR h' tk acc c as (fun b o h1 h2 e=>he b o h2 (hkeep b o h1 h2 e)) (he S _ hne hS) (by lia) ⟨hG.rise,hG.above,fun j a hj=>?_⟩ hacc);obtain⟨key,kk,x,e1,e2,e3⟩:=hG.pairs j a hj;exact⟨key,kk,x,e1,e2,he a _ (b0 (hG.above a (bG hj))) e3⟩
 |succ k ih=>
  intro i h tk c acc as hk hi hst hD hkeep hS hacc hal hG hIs;have hlt:i<kvs.length:=by lia
  obtain⟨⟨kk,x⟩,hx⟩:∃p,kvs[i]?=some p:=⟨kvs[i],Θ hlt⟩;have hsz:acc.size=i:=by rw[←aS,hacc,ε,hal]
  refine e8 PySem.F.entry_extend_loop ?_;rw[eW PySem.F.plain_extend_loop _];show π _ A.in1 (pyNext (.ref I) >>= _) _ _ _;refine γ (kdx_item (s:={ s with heap:=h,toks:=tk }) (S:=S) hst (Heap.lt_size hS) hD hx fun key h' hkey hst' ht hz hkp=>?_);dsimp only at ht hz hkp ⊢;have hS':=hkp S _ hne hS;have up:∀b o,b≠S->h'.get? b=some o->(h'.update S (aU (·.push (au h.objs.size)))).get? b=some o:=fun b o hb e=>(Heap.get?_update_other _ _ (eU hb)).trans e;have hSl:S<h.objs.size:=Heap.lt_size hS;show π _ A.in1 (updateSeq S (·.push (au h.objs.size)) >>= _) _ _ _;refine γ ?_;refine gx hS' rfl (ι ⟨gE PySem.F.plain_extend_loop _,ih (i+1) _ tk _ (acc.push (au h.objs.size)) (as++[h.objs.size]) (by lia) hlt (hst'.keep up (eU hne)) (hD.at' fun o e=>up d o hSd (hkp d o hId e))
   (fun b o h1 h2 e=>up b o h1 (hkp b o h2 (hkeep b o h1 h2 e))) (Heap.get?_update_self _ hS' rfl) (by rw[ow,hacc,aW];rfl) (by rw[ξ,hal];rfl) ⟨?_,?_,?_⟩ ?_⟩) (by rw[hsz];lia) (by show (acc.push (au h.objs.size)).size≤ao+1;rw[Array.size_push,hsz];lia)
  ·refine Ψ.mpr ⟨hG.rise,aT _ _,fun a ha b hb=>?_⟩;rw[ah.mp hb];exact hG.there ha
  ·intro a ha;rcases ar.mp ha with ha|ha
   ·exact hG.above a ha
   ·rw[ah.mp ha];exact hIs
  ·intro j b hj;rcases Nat.lt_trichotomy j as.length with h1|h1|h1
   ·rw[cN h1] at hj;obtain⟨key',k',x',e1,e2,e3⟩:=hG.pairs j b hj;have hb:=hG.above b (bG hj);exact⟨key',k',x',e1,e2,up b _ (b0 (kh hSI hb)) (hkp b _ (b0 hb) e3)⟩
   ·subst h1;have hb:h.objs.size=b:=by simpa using hj
    subst hb;exact⟨key,kk,x,by rw[hal];exact hx,hkey,up _ _ (b0 hSl) ht⟩
   ·have hnone:(as++[h.objs.size])[j]?=none:=lL (by rw[ξ,b6];lia);rw[hnone] at hj;cases hj
  ·have e:(h'.update S (aU (·.push (au h.objs.size)))).get? h.objs.size=_:=up _ _ (b0 hSl) ht;exact kh hIs (Heap.lt_size e)
end
theorem kdx_len_items:typeLookup (.type "dict_items") "__len__" = pure (some (.builtin "dict_items.__len__")):=by rw[typeLookup_type,builtinLookup_eq_fast];kernel_rfl
section
variable {prog:aw} {w:aG} {A:aR} {E:δ->ζ->Prop} {s:ζ} {r d:η} {kvs:List (δ×δ)} {ep:Nat}
theorem kdx_hint(hT:s.TypeIs (.ref r) "dict_items"){Q:Bool->ζ->Prop}(h:Q false s):π (model prog w) A (nG (.ref r)) Q E s:=by
 unfold nG;refine γ (wpAny_specialOf hT kdx_len_items ?_);generalize hid:("dict_items.__len__":String)=id0
 wp_delta
 rw[show splitId id0=some ("dict_items","__len__") from by subst hid;decide +kernel];subst hid;refine γ (ju (T:="dict_items") (b:=true) hT (by rw[isSubtype_type];kernel_rfl) ?_)
 refine p9 (fun hab=>absurd hab (by decide)) (fun _=>?_);refine p9 (fun _=>?_) (fun hab=>absurd (by decide +kernel) hab);refine γ (ke hT ?_);exact ι h
theorem kdx_extend{R:pD->ζ->Prop}(hh:A.handled=none)(hv:s.heap.IsItemsView r d)(hm:s.heap.gN d kvs ep)(S:η)(hSr:S≠r)(hSd:d≠S)(res:δ)(c₀:Nat)(hS:s.heap.get? S=some { cls:=.type "list",data:=.seq #[] c₀ })
  (hR:∀h' tk acc c as,(∀b o,b≠S->s.heap.get? b=some o->h'.get? b=some o)->h'.get? S=some { cls:=.type "list",dict:=none,data:=.seq acc c,slots:=#[]}->as.length=kvs.length->KdxG kvs s.heap.objs.size h' as ->
   acc.toList=as.map au->R (.ok (.ret res)) { s with heap:=h',toks:=tk }) (hn:kvs.length≤ao):
  π (model prog w) A.in1 (dh (.ref S) (.ref r) res)
   (fun fin s'=>match fin with | .done f=>R (.ok f) s' | .again c'=>c'.quiet=true/\iw (model prog w) A c' R s') (fun e s'=>R (.error e) s') s:=by
 have hSI:S<s.heap.objs.size:=Heap.lt_size hS;have hdI:d<s.heap.objs.size:=hm.lt_size;have key:∀(h:Heap) (c₁ tk:Nat),(∀b o,b≠S->(s.heap.push { cls:=.type "dict_itemiterator",data:=.fields #[.none,.bool false,.ref d,.int 0 0,.int kvs.length 0,.int ep 0,.none,.none]}).get? b=some o->h.get? b=some o) ->
   h.get? S=some { cls:=.type "list",data:=.seq #[] c₁ }->iw (model prog w) A (.builtin "list.extend.loop" ⟨[.ref S,.ref s.heap.objs.size,res],[]⟩) R { s with heap:=h,toks:=tk }:=by
  intro h c₁ tk hk hS₁;have hI:=hk s.heap.objs.size _ (b0 hSI) (Heap.get?_push_size _ rfl);refine kdx_loop (kvs:=kvs) (ep:=ep) (s:=s) (h₁:=s.heap) hh hSI hSd (aX hdI) hn res (fun h' tk' acc c as hk' hS' hl hG hacc=>hR h' tk' acc c as (fun b o hb e=>hk' b o hb (aX (Heap.lt_size e)) e) hS' hl hG hacc)
   kvs.length 0 h tk c₁ #[] [] (tz _) (aQ _) (.inl ⟨rfl,.none,.none,hI⟩) (hm.at' fun o e=>hk d o hSd (Heap.get?_push_of_some _ e)) (fun b o hb _ e=>hk b o hb (Heap.get?_push_of_some _ e)) hS₁ rfl rfl
   ⟨iS,(fun _ ha=>nomatch ha),(fun j a hj=>by simp at hj)⟩ (Heap.lt_size hI)
 unfold dh;refine γ (ke (T:="dict_items") hv.typeIs ?_);have h1:pN (.ref S) (.ref r)=false:=by simp[pN,hSr]
 have h2:(kq "dict_items" == kq "list")=false:=by decide
 have h3:(kq "dict_items" == kq "tuple")=false:=by decide
 simp only[h1,h2,h3,Bool.or_false,cq,if_false];refine γ (aar hv hm ?_);have hS₁:=Heap.get?_push_of_some { cls:=.type "dict_itemiterator",data:=.fields #[.none,.bool false,.ref d,.int 0 0,.int kvs.length 0,.int ep 0,.none,.none]} hS;refine γ (cx (kdx_hint (let ⟨o,ho,hc,_⟩:=hv;⟨o,Heap.get?_push_of_some _ ho,hc⟩) ?_))
 refine p9 (fun _=>?_) (fun _=>ι ⟨gE PySem.F.plain_extend_loop _,key _ c₀ _ (fun b o _ e=>e) hS₁⟩);refine γ (gQ ?_);refine γ ?_;show π _ _ (updateSeq S (·.push .none) >>= fun _=>updateSeq S (·.pop)) _ _ _;refine γ (gx hS₁ rfl ?_);have hS₂:=Heap.get?_update_self (aU (·.push bT)) hS₁ rfl;refine gx (hz:=by seq_fits) hS₂ rfl ?_;have hS₃:=Heap.get?_update_self (aU (·.pop)) hS₂ rfl;refine ι ⟨gE PySem.F.plain_extend_loop _,key _ _ _ (fun b o hb e=>?_) hS₃⟩;exact (Heap.get?_update_other _ _ (eU hb)).trans ((Heap.get?_update_other _ _ (eU hb)).trans e)
theorem KdxG.low{kvs:List (δ×δ)}{lo lo':η}{h:Heap}{as:List η}(g:KdxG kvs lo h as)(hl:lo'≤lo):KdxG kvs lo' h as:=⟨g.rise,fun a ha=>eG hl (g.above a ha),g.pairs⟩
theorem kdx_init{R:pD->ζ->Prop}(hh:A.handled=none)(hv:s.heap.IsItemsView r d)(hm:s.heap.gN d kvs ep)(S:η)(hSr:S≠r)(hSd:d≠S)(hS:s.heap.get? S=some { cls:=.type "list",data:=.seq #[]})
  (hR:∀h' tk acc c as,(∀b o,b≠S->s.heap.get? b=some o->h'.get? b=some o)->h'.get? S=some { cls:=.type "list",dict:=none,data:=.seq acc c,slots:=#[]}->as.length=kvs.length->KdxG kvs S h' as ->
   acc.toList=as.map au->R (.ok (.ret .none)) { s with heap:=h',toks:=tk }) (hn:kvs.length≤ao):
  π (model prog w) A.in1 (gm.«list.__init__» ⟨[.ref S,.ref r],[]⟩)
   (fun fin s'=>match fin with | .done f=>R (.ok f) s' | .again c'=>c'.quiet=true/\iw (model prog w) A c' R s') (fun e s'=>R (.error e) s') s:=by
 show π _ _ (do let old ←qO (.ref S);gm.List.listUpdate (.ref S) (fun _=>#[]);letGo old.toList.reverse;dh (.ref S) (.ref r) .none) _ _ s
 refine γ ?_;unfold qO;refine γ (i9 hS rfl (ι ?_));show π _ _ (updateSeq S (fun _=>#[]) >>= fun _=>letGo (#[]:Array δ).toList.reverse >>= fun _=>dh (.ref S) (.ref r) .none) _ _ s;refine γ (gx hS rfl ?_);have hS₂:=Heap.get?_update_self (aU (fun _=>(#[]:Array δ))) hS rfl;have oth:∀b o,b≠S->s.heap.get? b=some o->(s.heap.update S (aU (fun _=>(#[]:Array δ)))).get? b=some o:=
  fun b o hb e=>(Heap.get?_update_other _ _ (eU hb)).trans e
 refine γ (kR ?_);refine kdx_extend (kvs:=kvs) (ep:=ep) hh (let ⟨o,ho,x⟩:=hv;⟨o,oth r o hSr.symm ho,x⟩) (hm.at' fun o e=>oth d o hSd e) S hSr hSd .none _ hS₂ (fun h' tk acc c as hk hS' hl hG hacc=>?_) hn
 exact hR h' tk acc c as (fun b o hb e=>hk b o hb (oth b o hb e)) hS' hl (hG.low (ki (Heap.lt_size hS₂))) hacc
theorem kdx_call{Q:δ->ζ->Prop}(hh:A.handled=none)(hv:s.heap.IsItemsView r d)(hm:s.heap.gN d kvs ep)(hn:kvs.length≤ao)
  (hQ:∀h' tk acc c as,(∀b o,s.heap.get? b=some o->h'.get? b=some o)->h'.get? s.heap.objs.size=some { cls:=.type "list",dict:=none,data:=.seq acc c,slots:=#[]}->as.length=kvs.length->KdxG kvs s.heap.objs.size h' as ->
   acc.toList=as.map au->Q (.ref s.heap.objs.size) { s with heap:=h',toks:=tk }):
  π (model prog w) A (call (.type "list") [.ref r]) Q E s:=by
 refine callType_codes (Q₁:=fun obj s₁=>obj=.ref s.heap.objs.size/\s₁={ s with heap:=s.heap.push { cls:=.type "list",data:=.seq #[]}}) PySem.F.called_list (PySem.F.typeCall_list_1 _) PySem.F.entry_list_init
  (code_list_new _ ⟨rfl,rfl⟩) fun obj s₁ h₁=>?_
 obtain⟨rfl,rfl⟩:=h₁;have hS:(s.heap.push { cls:=.type "list",data:=.seq #[]}).get? s.heap.objs.size=some { cls:=.type "list",data:=.seq #[]}:=Heap.get?_push_size _ rfl;have hr:r<s.heap.objs.size:=let ⟨_,ho,_⟩:=hv;Heap.lt_size ho
 have hd:d<s.heap.objs.size:=hm.lt_size;refine⟨⟨_,hS,rfl⟩,PySem.F.args_list_init_2 _ _,kdx_init (kvs:=kvs) (ep:=ep) (A:=A.in1) hh (let ⟨o,ho,x⟩:=hv;⟨o,Heap.get?_push_of_some _ ho,x⟩) (hm.push _) _ (b0 hr) (aX hd) hS (fun h' tk acc c as hk hS' hl hG hacc=>?_) hn⟩
 exact⟨rfl,hQ h' tk acc c as (fun b o e=>hk b o (aX (Heap.lt_size e)) (Heap.get?_push_of_some _ e)) hS' hl hG hacc⟩
theorem kdx_collect{R:List δ->ζ->Prop}(hh:A.handled=none)(hv:s.heap.IsItemsView r d)(hm:s.heap.gN d kvs ep)(hn:kvs.length≤ao)
  (h:∀(h':Heap) (tk:Nat) (as:List η),(∀b o,s.heap.get? b=some o->h'.get? b=some o)->as.length=kvs.length->KdxG kvs s.heap.objs.size h' as->R (as.map au) { s with heap:=h',toks:=tk }):
  π (model prog w) A (collect (.ref r)) R E s:=by
 have hr:r<s.heap.objs.size:=let ⟨_,ho,_⟩:=hv;Heap.lt_size ho
 have hd:d<s.heap.objs.size:=hm.lt_size;unfold collect;refine γ (wpAny_runValue (e8 entry_proto_collect' ?_));rw[eW PySem.F.plain_proto_collect _];show π _ A.in1 (newList [] >>= fun l=>again (.builtin "list.__iadd__" ⟨[l,.ref r],[]⟩)) _ _ s;refine γ (bx ?_);refine ι ⟨gE PySem.F.plain_list_iadd _,e8 entry_list_iadd' ?_⟩;rw[eW PySem.F.plain_list_iadd _];have hS₁:(s.heap.push { cls:=.type "list",data:=.seq ([]:List δ).toArray }).get? s.heap.objs.size=some { cls:=.type "list",data:=.seq #[]}:=Heap.get?_push_size _ rfl;show π _ A.in1 (dh (.ref s.heap.objs.size) (.ref r) (.ref s.heap.objs.size)) _ _ _;have key:=kdx_extend (prog:=prog) (w:=w) (A:=A) (s:={ s with heap:=s.heap.push { cls:=.type "list",data:=.seq ([]:List δ).toArray }}) (kvs:=kvs) (ep:=ep)
  (R:=fun (q:pD) (s':ζ)=>∃(h':Heap) (tk:Nat) (acc':Array δ) (c':Nat) (as:List η),q=.ok (.ret (.ref s.heap.objs.size))/\s'={ s with heap:=h',toks:=tk } ∧
   (∀b o,s.heap.get? b=some o->h'.get? b=some o)/\h'.get? s.heap.objs.size=some { cls:=.type "list",dict:=none,data:=.seq acc' c',slots:=#[]}/\as.length=kvs.length/\KdxG kvs s.heap.objs.size h' as/\acc'.toList=as.map au)
  hh (let ⟨o,ho,x⟩:=hv;⟨o,Heap.get?_push_of_some _ ho,x⟩) (hm.push _) s.heap.objs.size (b0 hr) (aX hd) (.ref s.heap.objs.size) 0 hS₁
  (fun h' tk acc' c' as hk hS' hl hG hacc=>⟨h',tk,acc',c',as,rfl,rfl,fun b o e=>hk b o (aX (Heap.lt_size e)) (Heap.get?_push_of_some _ e),hS',hl,hG.low (by show s.heap.objs.size≤(s.heap.push _).objs.size;rw[Heap.size_push];exact qD _),hacc⟩) hn
 refine ee key (fun fin s' x=>?_) fun e s' x=>?_
 ·cases fin with
  |done f=>
   obtain⟨h',tk,acc',c',as,e,rfl,hk,hS',hl,hG,hacc⟩:=x;cases e;show π _ A (load s.heap.objs.size >>= _) _ _ _;refine γ (r8 hS' ?_);refine ι ?_;show R acc'.toList _;rw[hacc];exact h h' tk as hk hl hG
  |again c₁=>
   refine⟨x.1,pC x.2 fun q s₂ y=>?_⟩;obtain⟨h',tk,acc',c',as,rfl,rfl,hk,hS',hl,hG,hacc⟩:=y;show π _ A (load s.heap.objs.size >>= _) _ _ _;refine γ (r8 hS' ?_);refine ι ?_;show R acc'.toList _;rw[hacc];exact h h' tk as hk hl hG
 ·obtain⟨_,_,_,_,_,e',_⟩:=x;cases e'
end
end Ng
namespace L3
open PySem PySem.Spec PyProof.Rows L2
open Sem (wp)
def jn:Hp->List η->List (V×V)->Hp
 |H,a::as,p::ps=>jn (upd H a (.tup [p.1,p.2])) as ps
 |H,_,_=>H
theorem Ew{H:Hp}{ps:List (V×V)}:jn H [] ps=H:=by cases ps<;>rfl
theorem zU{b:η}:∀{as:List η} {ps:List (V×V)} {H:Hp},b∉as->jn H as ps b=H b
 |[],_,_,_=>by rw[Ew]
 |a::as,[],_,_=>rfl
 |a::as,p::ps,H,h=>by
  simp only[ay,not_or] at h;obtain⟨h1,h2⟩:=h;show jn (upd H a _) as ps b=_;rw[zU h2,fi h1]
theorem JQ:∀{as:List η} {ps:List (V×V)} {H:Hp} {j:Nat} {a:η} {p:V×V},as.Nodup->as[j]?=some a->ps[j]?=some p->jn H as ps a=some (.tup [p.1,p.2])
 |[],_,_,_,_,_,_,h,_=>by simp at h
 |b::as,[],_,_,_,_,_,_,h=>by simp at h
 |b::as,q::ps,H,0,a,p,hd,h,h'=>by
  simp at h h';subst h h';show jn (upd H b _) as ps b=_;rw[zU (dG.mp hd).1,jW]
 |b::as,q::ps,H,j+1,a,p,hd,h,h'=>by
  show jn (upd H b _) as ps a=_;exact JQ (dG.mp hd).2 (by simpa using h) (by simpa using h')
section
variable {X:Cx} {pins:List (η×br)} {σ:L2.St} {H H':Hp} {s:ζ}
theorem Hr{h':Heap}{t':Nat}{fp:List η}(I:L2.Inv X pins σ H s)(k:∀b o,b∉fp->s.heap.get? b=some o->h'.get? b=some o)(hf:∀b∈fp,kE X pins H b)(hold:∀b,b<s.heap.objs.size->H' b=H b)
  (new:∀a o,s.heap.objs.size≤a->H' a=some o->fX X.prog X.w H' h' a o):L2.Inv X pins σ H' { s with heap:=h',toks:=t' }:=by
 have nit:∀b u,H b=some u->b∉fp:=fun b u e z=>by rw[(hf b z).1] at e;cases e
 have kp:∀b u,H b=some u->H' b=some u:=fun b u e=>by rw[hold b (I.cB.lt e)];exact e
 refine I.step (g':=s.gens) (d':=s.drawn) (ch:=fp) (fun b hb=>?_) (fun b o _ _ hc e _=>k b o hc e) (fun b o _ _ hc e _=>⟨o.slots,k b o hc e⟩) (fun b o _ e n=>by rw[hold b (Heap.lt_size e)];exact n) (fun b o hc e=>⟨o,k b o hc e⟩) (fun _ _ e=>kp _ _ e) (fun _ _ _ e=>kp _ _ e) (fun b ps e=>⟨#[],by rw[kp _ _ e];simp⟩) (fun m hm=>?_) (fun b u e=>?_) I.bare
 ·obtain⟨f0,f1,f2,f3,f4,f5⟩:=hf b hb;exact⟨f3,f1,f4,f5⟩
 ·obtain⟨o,es,ep,ho,r⟩:=hm;exact⟨o,es,ep,k _ o (fun z=>(hf _ z).2.1 rfl) ho,r⟩
 ·rcases tE b s.heap.objs.size with hb|hb
  ·rw[hold b hb] at e;refine (I.cB b u e).sE (fun c v hc q=>k c v ?_ q) (fun _ q=>kp _ _ q) fun _ _ q=>kp _ _ q;rcases hc with z|z
   ·rw[z];exact nit b u e
   ·exact nit c _ z
  ·exact new b u hb e
end
section
variable {K:PySem.W.Frag}
theorem JP{G:Gp}:∀{as:List η} {ps:List (V×V)} {H:Hp},as.Nodup->(∀c∈as,H c=none)->bB K G H->Step H G (jn H as ps) G/\bB K G (jn H as ps)
 |[],ps,H,_,_,R=>by rw[Ew];exact⟨.refl H G,R⟩
 |a::as,[],H,_,_,R=>⟨.refl H G,R⟩
 |a::as,p::ps,H,hd,hf,R=>by
  have h0:=hf a ο;obtain⟨n1,n2⟩:=dG.mp hd;obtain⟨S1,R1⟩:=JP (G:=G) (as:=as) (ps:=ps) (H:=upd H a (.tup [p.1,p.2])) n2 (fun c hc=>by rw[fi (show c≠a from fun z=>n1 (z▸hc))];exact hf c (χ _ hc)) (R.laid h0);exact⟨(Step.laid h0).trans S1,R1⟩
end
end L3
namespace fV
open PySem PySem.W PyProof.Rows PySem.Calls aK
section
variable {prog:aw} {w:aG} {A:aR} {E:δ->ζ->Prop} {s:ζ}
theorem zu{α:Type}{lt:α->α->Bool}{f:α->δ}{κ:cv}(O:ph lt){l:η}{Q:δ->ζ->Prop}{Gd:List α->Heap->Prop}
  (rP:∀(R:List δ->ζ->Prop),(∀h' tk ps,(∀b o,s.heap.get? b=some o->h'.get? b=some o)->Gd ps h'->R (ps.map f) { s with heap:=h',toks:=tk })->π (model prog w) A.in1 (collect (.ref l)) R E s)
  (C5:∀h' ps,Gd ps h'->ps.length≤1000000/\(∀p∈ps,∀q∈ps,f p=f q->p=q)/\∀s':ζ,2≤ps.length->(∀b o,h'.get? b=some o->s'.heap.get? b=some o) ->
   (∀(Q:cv->ζ->Prop) (E':δ->ζ->Prop),Q κ s'->π (model prog w) A.in1.in1 (keyKind' (ps.map f).toArray) Q E' s')/\∀p∈ps,∀q∈ps,∀(Q:Bool->ζ->Prop) (E':δ->ζ->Prop),Q (lt p q) s'->π (model prog w) A.in1.in1 (keyLt' κ (f p) (f q)) Q E' s')
  (h:∀h1 ps qs h' tk c D,(∀b o,s.heap.get? b=some o->h1.get? b=some o)->Gd ps h1->ll lt ps qs->h1.get? D=none->h'.get? D=some (seqObj "list" (qs.map f).toArray c)->(∀b o,h1.get? b=some o->h'.get? b=some o)->Q (.ref D) { s with heap:=h',toks:=tk }):
  π (model prog w) A (call (.builtin "sorted") [.ref l]) Q E s:=by
 refine jS kind_sorted plain_sorted entry_sorted (args_sorted1 _) ?_;unfold gm.«sorted»;refine γ (m:=checkCount "sorted" 1 1 _) (ι ?_);refine γ (rP _ fun h1 tk ps keep0 g=>?_);obtain⟨hz,inj,hk⟩:=C5 h1 ps g;refine γ (iq ?_ (by rw[ε];exact aD hz (by decide)));have hoL:(h1.push (seqObj "list" (ps.map f).toArray 0)).get? h1.objs.size=some (seqObj "list" (ps.map f).toArray 0):=Heap.get?_push_size _ rfl;have hfr:h1.get? h1.objs.size=none:=by
  cases hz:h1.get? h1.objs.size with
  |none=>rfl
  |some o=>exact absurd (Heap.lt_size hz) (cU _)
 have keep:∀b o,h1.get? b=some o->(h1.push (seqObj "list" (ps.map f).toArray 0)).get? b=some o:=fun b o e=>Heap.get?_push_of_some _ e;show π _ _ _ _ _ { s with heap:=h1.push (seqObj "list" (ps.map f).toArray 0),toks:=tk };refine γ (cx (bU qW ⟨_,hoL,rfl⟩ qb ?body (qX _)));have fin:∀qs h' c,ll lt ps qs->h'.get? h1.objs.size=some (seqObj "list" (qs.map f).toArray c)->(∀b o,b≠h1.objs.size->(h1.push (seqObj "list" (ps.map f).toArray 0)).get? b=some o->h'.get? b=some o)->Q (.ref h1.objs.size) { s with heap:=h',toks:=tk }:=fun qs h' c hS e kk=>
  h h1 ps qs h' tk c _ keep0 g hS hfr e fun b o e1=>kk b o (aX (Heap.lt_size e1)) (keep b o e1)
 case body=>
  by_cases h2:2≤ps.length
  ·refine JV O (s:={ s with heap:=h1.push (seqObj "list" (ps.map f).toArray 0),toks:=tk }) hoL inj (fun h' kk=>hk { s with heap:=h',toks:=tk } h2 fun b o e=>kk b o (aX (Heap.lt_size e)) (keep b o e)) h2 hz fun qs h' c hS e kk=>?_;exact⟨_,rfl,ι ⟨_,rfl,fin qs h' c hS e kk⟩⟩
  ·refine Et (s:={ s with heap:=h1.push (seqObj "list" (ps.map f).toArray 0),toks:=tk }) hoL (by rw[ε];lia) fun h' c e kk=>?_;have hS:ll lt ps ps:=⟨.refl _,by
    rcases ps with _|⟨x,_|⟨y,r⟩⟩
    ·exact .nil
    ·exact aT _ _
    ·simp at h2⟩
   exact⟨_,rfl,ι ⟨_,rfl,fin ps h' c hS e kk⟩⟩
end
end fV
namespace aK
open PySem PySem.W PyProof.Rows i6 Cr
abbrev eP(k:List Int×Int):List (List Int):=[k.1,[k.2]]
theorem M1{x y:List Int×Int}(h:eP x=eP y):x=y:=by
 obtain⟨a,b⟩:=x;obtain⟨c,d⟩:=y;injection h with h1 h2;injection h2 with h2 _;injection h2 with h2 _;exact uK h1 h2
def ub(prog:aw)(w:aG)(h:Heap)(k:List Int×Int)(a:η):Prop:=∃o b t m,h.get? a=some o/\o.cls=.type "tuple"/\o.data=.seq #[.ref b,.int k.2 t] m/\kQ prog w h k.1 b
abbrev ltP(x y:(List Int×Int)×η):Bool:=fA (eP x.1) (eP y.1)
abbrev fP(p:(List Int×Int)×η):δ:=.ref p.2
theorem Mv:ph ltP:=⟨fun _ _ h=>oM h,fun _ _ _ h1 h2=>tO h1 h2⟩
section
variable {prog:aw} {w:aG} {A:aR} {E:δ->ζ->Prop} {s:ζ}
theorem zk{h h':Heap}{k:List Int×Int}{a:η}(kk:∀c ob,h.get? c=some ob->h'.get? c=some ob)(z:ub prog w h k a):ub prog w h' k a:=by
 obtain⟨o,b,t,m,e1,e2,e3,e4⟩:=z;exact⟨o,b,t,m,kk _ _ e1,e2,e3,wt kk e4⟩
theorem wB{Q:Bool->ζ->Prop}{x y:List Int×Int}{a b:η}(hu:A.units+16<cLine)(hx:ub prog w s.heap x a)(hy:ub prog w s.heap y b)(h:Q (fA (eP x) (eP y)) s):π (model prog w) A (keyLt' (tuples' false) (.ref a) (.ref b)) Q E s:=by
 obtain⟨o,c,t,m,e1,e2,e3,e4⟩:=hx;obtain⟨o',c',t',m',e1',e2',e3',e4'⟩:=hy;refine kat_lt e1 e3 e1' e3' ?_;show KatLex prog w A false _ Q [(au c,au c'),(eF x.2 t,eF y.2 t')] 0 s;refine kat_cons (kf (by lia) e4 e4' ?_);have h':Q (if x.1=y.1 then (if [x.2]=[y.2] then false else (if x.2=y.2 then lx [] [] else decide (x.2<y.2))) else lx x.1 y.1) s:=h;by_cases e:x.1=y.1
 ·rw[if_pos e] at h';rw[decide_eq_true e];refine kat_yes (kat_cons (pk ?_));by_cases e5:x.2=y.2
  ·rw[if_pos (by rw[e5])] at h';rw[show (x.2==y.2)=true by simpa using e5];exact kat_yes (oP h')
  ·rw[if_neg (fun z=>e5 (gF z).1),if_neg e5] at h';rw[show (x.2==y.2)=false by simpa using e5];refine kat_no ?_;show π _ _ (oneLt' false _ _) _ _ _;exact kat_one _ _ (lt_int h')
 ·rw[if_neg e] at h';rw[decide_eq_false e];refine kat_no ?_;show π _ _ (oneLt' false _ _) _ _ _;obtain⟨i1,t1,j1⟩:=HT.nq e4;obtain⟨i2,t2,j2⟩:=HT.nq e4';refine kat_one _ _ (HT.oC t1 t2 j1 j2 (by lia) ?_);rw[←sW];exact h'
theorem JO{h:Heap}:∀{ps:List ((List Int×Int)×η)},(∀p∈ps,ub prog w h p.1 p.2)->∃fs,KatTups h (ps.map fun p=>au p.2) fs/\fs.length=ps.length/\∀v∈fs,∃ks b,v=.ref b/\kQ prog w h ks b
 |[],_=>⟨[],.nil,rfl,fun v hv=>nomatch hv⟩
 |p::ps,hk=>by
  obtain⟨fs,h1,h2,h3⟩:=JO (ps:=ps) fun q hq=>hk q (χ _ hq);obtain⟨o,b,t,m,e1,e2,e3,e4⟩:=hk p ο;refine⟨.ref b::fs,tJ e1 e2 e3 (by simp) h1,by simp[h2],fun u hu=>?_⟩;rcases ay.mp hu with q|q
  ·exact⟨_,b,q,e4⟩
  ·exact h3 u q
theorem yy{ps:List ((List Int×Int)×η)}(hne:ps≠[])(hk:∀p∈ps,ub prog w s.heap p.1 p.2){Q:cv->ζ->Prop}(h:Q (tuples' false) s):π (model prog w) A (keyKind' (ps.map fP).toArray) Q E s:=by
 obtain⟨fs,h1,h2,h3⟩:=JO hk;have hl:0<fs.length:=by
  rw[h2];exact gh.mpr hne
 refine kat_kind (T:=.type "tuple") h1 hl (fun v hv=>?_) rfl h;obtain⟨ks,b,rfl,⟨o,its,n,ho,hc,hd,hi⟩⟩:=h3 v hv;rw[←hc];exact (Looks.ld ho).andThen .now
end
end aK
namespace L3
open PySem PySem.Spec PyProof.Rows L2 My
def jZ(p:List Int×Int):D:=.tup [tupI p.1,.int p.2]
def iN(kns:List (List Int×Int)):List KD:=kns.map fun p=>(p.1,D.int p.2)
def wN(v a:η):Heap->Prop:=fun h=>h.IsItemsView v a
def sh(xs:List ik)(kns:List (List Int×Int)):List (V×V):=(xs.map fun x=>V.ref x.2.1).zip (kns.map fun p=>V.int p.2)
section
variable {X:Cx} {o:ρ} {apos cpos:aP}
theorem aaq{to:TE}(ho:PE X o to)(rR:attributeBase o "items" X.env (eval o X.env)=eval o X.env)(rN:(apos.endLine==cpos.line)=true):
  PE X (.Call (.Attribute o "items" apos) [] [] cpos) (fun σ H Q=>to σ H fun x H1=>∃a ob xs,x=.ref a/\H1 a=some (.ext (i4 a ob))/\(a==sysModules)=false/\mP ob xs/\∀v,H1 v=none->Q (.ref v) (upd H1 v (.ext (wN v a)))):=by
 intro pins s σ H Q I h;refine wpAny_Call_method0_late rR rN (bP (ho pins s σ H _ I h) fun v s1 zz=>?_);obtain⟨x,H1,I1,r1,a,ob,xs,ex,e1,z0,RD,q⟩:=zz;subst ex;obtain rfl:v=au a:=r1;have hh:=uD I1 e1;have hT:s1.TypeIs (.ref a) "dict":=⟨ob,hh,RD.1.1⟩;refine⟨"dict","dict.items",F.plainAttrs_dict,F.slot_dict_items,F.type_dict_items,hT,fun a1 e=>by cases e;exact⟨ob,hh,RD.1.2.1⟩,kU rfl (PySem.evalArgs_none ?_)⟩;refine call_meetsIn F.slot_dict_items hT F.entry_dict_items (F.args_dict_items_1 _) (aas a z0) ⟨hT,?_⟩;have hv:(s1.heap.push { cls:=.type "dict_items",data:=.fields #[.ref a]}).IsItemsView s1.heap.objs.size a:=⟨_,Heap.get?_push_size _ rfl,rfl,rfl⟩;refine⟨.ref s1.heap.objs.size,_,I1.laid (t':=s1.toks) (o:=.ext (wN s1.heap.objs.size a)) (fun b o e=>Heap.get?_push_of_some _ e) (υ _) ⟨hv,⟨_,Heap.get?_push_size _ rfl⟩,fun h1 h2 ⟨o',y1,y⟩ kk=>⟨o',kk _ y1,y⟩⟩,rfl,q _ (I1.cB.fresh (υ _))⟩
theorem eh.at_{K:PySem.W.Frag}{H:Hp}{kns:List (List Int×Int)}{xs:List ik}(h:eh K H (iN kns) xs){j:Nat}{p:List Int×Int}(hp:kns[j]?=some p):∃x t,xs[j]?=some x/\x.2.2=.int p.2 t/\cK K H x.2.1 (p.1.map V.int):=by
 obtain⟨x,hx,er⟩:=h.get (i:=j) (q:=(p.1,D.int p.2)) (by unfold iN;rw[az,hp];rfl);obtain⟨v,h1,h2⟩:=er.v;have:v=.int p.2:=iX h1;subst this;obtain⟨t,ht⟩:=(show ∃t,x.2.2=eF p.2 t from h2);have:=er.t;rw[er.k] at this;exact⟨x,t,hx,ht,this⟩
theorem aap{K:PySem.W.Frag}{H:Hp}{kns:List (List Int×Int)}{xs:List ik}(h:eh K H (iN kns) xs):xs.length=kns.length:=by
 have:=congrArg bR h.keys;unfold iN at this;rwa [ε,ε,ε] at this
def GN(xs:List ik)(kns:List (List Int×Int))(s:ζ)(ps:List ((List Int×Int)×η))(h':Heap):Prop:=
 ∃as:List η,as.length=xs.length/\Ng.KdxG (xs.map fun x=>(au x.2.1,x.2.2)) s.heap.objs.size h' as/\ps=kns.zip as/\∀b o,s.heap.get? b=some o->h'.get? b=some o
theorem zT{kns:List (List Int×Int)}{as:List η}{p:(List Int×Int)×η}(h:p∈kns.zip as):∃j:Nat,kns[j]?=some p.1/\as[j]?=some p.2:=by
 obtain⟨j,hj⟩:=lJ.mp h;exact⟨j,jO.mp hj⟩
theorem aao{as:List η}(nd:as.Pairwise (· < ·)){i j:Nat}{a:η}(hi:as[i]?=some a)(hj:as[j]?=some a):i=j:=by
 obtain⟨h1,e1⟩:=Φ.mp hi;obtain⟨h2,e2⟩:=Φ.mp hj;rcases Nat.lt_trichotomy i j with h|h|h
 ·have:=cM.mp nd i j h1 h2 h;rw[e1,e2] at this;exact absurd this (cU _)
 ·exact h
 ·have:=cM.mp nd j i h2 h1 h;rw[e1,e2] at this;exact absurd this (cU _)
theorem JN:∀{as:List η} {ps:List (V×V)} {H:Hp},as.Nodup->(∀c∈as,H c=none)->Ext H (jn H as ps)
 |[],ps,H,_,_=>by rw[Ew];exact Ext.refl _
 |a::as,[],H,_,_=>Ext.refl _
 |a::as,p::ps,H,hd,hf=>by
  have h0:=hf a ο;obtain⟨n1,n2⟩:=dG.mp hd;exact Ext.trans (.laid h0) (JN (ps:=ps) n2 fun c hc=>by rw[fi (show c≠a from fun z=>n1 (z▸hc))];exact hf c (χ _ hc))
theorem aan(hc:X.calm=true)(hu:X.A.units+64<cLine):gP X (.builtin "sorted") (fun vs H Q=>∃(v a:η) (ob:br) (xs:List ik) (kns:List (List Int×Int)),vs=[.ref v]/\H v=some (.ext (wN v a))/\H a=some (.ext (i4 a ob))/\mP ob xs/\eh X.K H (iN kns) xs/\kns.length≤1000 ∧
  ∀(as:List η) (D':η) (mss:List (List Int×Int)) (ys:List V),as.Nodup->(∀c∈as,H c=none)->jn H as (sh xs kns) D'=none->mss.Perm kns->iC (mss.map aK.eP)->aI X.K (jn H as (sh xs kns)) (mss.map jZ) ys->Q (.ref D') (upd (jn H as (sh xs kns)) D' (.lst ys))):=by
 intro pins s σ H vs us Q I r h;obtain⟨v,a,ob,xs,kns,rfl,ev,ea,RD,hE,hz,q⟩:=h;obtain⟨u,rfl,ru⟩:=vals1 r;cases ru;have hlx:=aap hE;obtain⟨hview,_⟩:=(show fX X.prog X.w H s.heap v _ from I.cB v _ ev);have hdic:=uD I ea;obtain⟨_,⟨P',w',ees,ep,r2,r3⟩,_⟩:=RD;have hraw:s.heap.gN a (xs.map fun x=>(au x.2.1,x.2.2)) ep:=⟨ob,ees,hdic,r2,by rw[r3,aN];rfl⟩;have hps:∀{ps:List ((List Int×Int)×η)} {h':Heap},GN xs kns s ps h'->∀p∈ps,aK.ub X.prog X.w h' p.1 p.2:=by
  rintro ps h' ⟨as,hl,hG,rfl,kk⟩ p hp;obtain⟨j,h1,h2⟩:=zT hp;obtain⟨x,t,h3,h4,h5⟩:=hE.at_ h1;obtain⟨key,k,y,e1,e2,e3⟩:=hG.pairs j p.2 h2;rw[az,h3] at e1;have e1:=aA e1;have ek:k=.ref x.2.1:=(congrArg (·.1) e1).symm;have ey:y=.int p.1.2 t:=by rw[←h4];exact (congrArg (·.2) e1).symm
  rw[e2,ek,ey] at e3;obtain⟨its,rv,⟨o,y1,y2,n,y3⟩,_⟩:=I.tuple h5;exact⟨_,_,t,_,e3,rfl,rfl,i6.wt kk ⟨o,its.toArray,n,y1,y2,y3,AD rv⟩⟩
 refine fV.zu (κ:=tuples' false) (f:=aK.fP) aK.Mv (Gd:=GN xs kns s) (fun R hR=>?_) (fun h' ps hg=>⟨?_,?_,fun s' h2 kk=>?_⟩) fun h1 ps qs h' tk c D' kk hg hS hn hD hk2=>?_
 ·refine Ng.kdx_collect (by have:=I.ok.hd hc;simpa using this) hview hraw (by rw[ε,hlx,bX];lia) fun h' tk as kk hl hG=>?_;rw[ε] at hl;have:=hR h' tk (kns.zip as) kk ⟨as,hl,hG,rfl,kk⟩;have e:(kns.zip as).map aK.fP=as.map au:=by
   show (kns.zip as).map (au ∘ fun p:(List Int×Int)×η=>p.2)=_;rw[←aN (f:=fun p:(List Int×Int)×η=>p.2) (g:=au),List.map_snd_zip (by rw[hl,hlx];exact υ _)]
  rwa [e] at this
 ·obtain⟨as,hl,hG,rfl,_⟩:=hg;rw[mB];lia
 ·obtain⟨as,hl,hG,rfl,_⟩:=hg;intro p hp p' hp' e;have e:au p.2=au p'.2:=e;injection e with e;obtain⟨j,h1,h2⟩:=zT hp;obtain⟨j',h1',h2'⟩:=zT hp';rw[←e] at h2';have ej:=aao hG.rise h2 h2';subst ej;rw[h1] at h1';exact uK (aA h1') e
 ·have hk':∀p∈ps,aK.ub X.prog X.w s'.heap p.1 p.2:=fun p hp=>aK.zk kk (hps hg p hp);exact⟨fun Q E q=>aK.yy (fun z=>by rw[z] at h2;simp at h2) hk' q,fun p hp q hq Q E hq'=>aK.wB (by show X.A.units+1+1+16<cLine;lia) (hk' p hp) (hk' q hq) hq'⟩
 ·obtain⟨as,hl,hG,rfl,kk0⟩:=hg;have nd:as.Nodup:=hG.rise.imp fun h=>aX h;have fr:∀c∈as,H c=none:=fun c hc=>I.cB.fresh (ki (hG.above c hc));have hlp:(sh xs kns).length=as.length:=by
   unfold sh;rw[mB,ε,ε];lia
  have key:∀{j:Nat} {a':η},as[j]?=some a'->∃p x t,kns[j]?=some p/\cK X.K H x (p.1.map V.int)/\jn H as (sh xs kns) a'=some (.tup [.ref x,.int p.2])/\h1.get? a'=some { cls:=.type "tuple",data:=.seq #[.ref x,.int p.2 t]}:=by
   intro j a' hj;have hjl:=(Φ.mp hj).1;have hkj:kns[j]?=some (kns[j]'(by lia)):=Θ (by lia);obtain⟨x,t,h3,h4,h5⟩:=hE.at_ hkj;obtain⟨key,k,y,e1,e2,e3⟩:=hG.pairs j a' hj;rw[az,h3] at e1;have e1:=aA e1;have ek:k=.ref x.2.1:=(congrArg (·.1) e1).symm;have ey:y=.int (kns[j]'(by lia)).2 t:=by rw[←h4];exact (congrArg (·.2) e1).symm
   rw[e2,ek,ey] at e3;refine⟨_,x.2.1,t,hkj,h5,?_,e3⟩;exact JQ nd hj (p:=(V.ref x.2.1,V.int (kns[j]'(by lia)).2)) (jO.mpr ⟨by rw[az,h3];rfl,by rw[az,hkj];rfl⟩)
  have I1:L2.Inv X pins σ (jn H as (sh xs kns)) { s with heap:=h1,toks:=tk }:=by
   refine Hr (fp:=[]) I (fun b o _ e=>kk b o e) (fun b hb=>nomatch hb) (fun b hb=>zU fun hm=>Nat.lt_asymm hb (hG.above b hm)) fun a' o hle e=>?_;by_cases hm:a'∈as
   ·obtain⟨j,hj⟩:=lJ.mp hm;obtain⟨p,x,t,k1,k2,k3,k4⟩:=key hj;rw[k3] at e;cases e;exact⟨by show 2≤ao;decide,[.ref x,.int p.2 t],.cons rfl (.cons ⟨t,rfl⟩ .nil),⟨_,k4,rfl,⟨_,rfl⟩,rfl⟩⟩
   ·rw[zU hm,I.cB.fresh hle] at e;cases e
  have hvq:∀p∈kns.zip as,Hv X.K (jn H as (sh xs kns)) (jZ p.1) (.ref p.2):=fun p hp=>by
   obtain⟨j,h1',h2'⟩:=zT hp;obtain⟨p',x,t,k1,k2,k3,k4⟩:=key h2';rw[h1'] at k1;cases k1;unfold jZ Hv;have k5:cK X.K (jn H as (sh xs kns)) x (p.1.1.map V.int):=cK.ext (show Ext H (jn H as (sh xs kns)) from JN nd fr) k2;refine⟨p.2,[.ref x,.int p.1.2],rfl,.of k3,.cons ?_ (.cons lZ .nil)⟩;show Hv _ _ (.tup (p.1.1.map D.int)) _;unfold Hv;exact⟨_,_,rfl,k5,Ex p.1.1⟩
  have hlq:qs.length≤1000:=by
   rw[hS.perm.length_eq,mB];lia
  refine⟨.ref D',_,Inv.u4 (s:={ s with heap:=h1,toks:=tk }) I1 (o:=.lst (qs.map fun p=>.ref p.2)) (t':=tk) (h':=h') hk2 hn ?_,rfl,?_⟩
  ·refine⟨?_,_,c,?_,hD⟩
   ·rw[ε,bX];lia
   ·clear hlq hD hS
    induction qs with
    |nil=>exact .nil
    |cons x qs ih=>exact .cons rfl ih
  ·refine q as D' (qs.map (·.1)) _ nd fr (Inv.tR I1 hn) ?_ ?_ ?_
   ·have:=hS.perm.map (fun p:(List Int×Int)×η=>p.1);rwa [List.map_fst_zip (by rw[hl,hlx];exact υ _)] at this
   ·rw[aN];exact bN.mpr hS.rise
   ·have hall:∀p∈qs,Hv X.K (jn H as (sh xs kns)) (jZ p.1) (.ref p.2):=fun p hp=>hvq p (hS.perm.mem_iff.mp hp);clear hlq hD hS
    induction qs with
    |nil=>exact .nil
    |cons x qs ih=>exact .cons (hall x ο) (ih fun p hp=>hall p (χ _ hp))
end
end L3
namespace CF
open PySem PySem.W
section
variable {prog:aw} {w:aG} {A:aR} {E:δ->ζ->Prop} {s:ζ} {d it:η} {es:Array gY} {ep i:Nat}
def Raw(h:Heap)(d:η)(es:Array gY)(ep:Nat):Prop:=∃o,h.get? d=some o/\o.ExactDict/\o.data=.dict es ep
theorem Raw.typeIs(x:Raw s.heap d es ep):s.TypeIs (.ref d) "dict":=let ⟨o,a,c,_⟩:=x;⟨o,a,c.1⟩
theorem Hi{Q:δ->ζ->Prop}(lo:(d==sysModules)=false)(hm:Raw s.heap d es ep)
  (hQ:Q (.ref s.heap.objs.size) { s with heap:=s.heap.push { cls:=.type "dict_keyiterator",data:=.fields #[.ref d,.int 0 0,.int es.size 0,.int ep 0]}}):
  π (model prog w) A (pyIter (.ref d)) Q E s:=by
 obtain⟨o,ho,hc,hdat⟩:=id hm;have hT:=hm.typeIs;refine wpAny_pyIter_slot hT F.slot_dict_iter (bU F.slot_dict_iter hT F.entry_dict_iter ?_ (F.args_dict_iter_1 _));unfold gm.«dict.__iter__»;refine γ ?_;unfold gm.Dict.dictSlotNone;refine γ (wpAny_notOrdered_dict hT ?_);show π _ _ (pure (au d)) _ _ s;refine ι ?_;show π _ _ (jd d >>= _) _ _ s;unfold jd;rw[if_neg (by rw[lo];exact ak)];refine γ (ι (γ (e6 ho hdat (γ (fN ho hdat ?_)))));refine γ (bx (ι ⟨_,rfl,"dict_keyiterator",_,⟨_,Heap.get?_push_size _ rfl,rfl⟩,F.slot_dict_keyiterator_next.lookup,?_⟩));simpa [rawInt] using hQ
theorem Hj{Q:Option δ->ζ->Prop}(hit:s.heap.IsKeyIter it d i es.size ep)(hm:Raw s.heap d es ep)(hlt:i<es.size)
  (hQ:∀h',h'.IsKeyIter it d (i+1) es.size ep->Heap.SameBut it s.heap h'->Q (some es[i].key) { s with heap:=h' }):
  π (model prog w) A (pyNext (.ref it)) Q E s:=by
 obtain⟨o,ho,hc,hd⟩:=id hit;obtain⟨od,j0,qS,hdd⟩:=id hm;unfold pyNext;refine γ (gD (bW (name:=fm "__next__") hit.typeIs F.slot_dict_keyiterator_next
  (bU F.slot_dict_keyiterator_next hit.typeIs F.entry_dict_keyiterator_next ?_ (F.args_dict_keyiterator_next_1 _))))
 refine γ (ι (γ (γ ?_)))
 first|refine γ (fW hit.typeIs (ι ?_))|refine γ (g5 hit.typeIs (ι ?_))
 refine γ (ja ho hd ?_);have hown:cT "dict_keyiterator" = false:=by decide
 simp only[hown,cq,if_false];show π _ _ (if (au d==bT)=true then _ else _) _ _ s;rw[if_neg (show ¬((au d==bT)=true) from ak)];refine γ (ι (γ (e6 j0 hdd ?_)));rw[if_neg (by simp)];refine γ (ι (γ (fN j0 hdd ?_)));rw[if_neg (by simp)];refine ι ?_;simp only[show ¬((i:Int)<0) from by lia,if_false,bz,cQ hlt];refine γ ?_
 first|refine γ (fW hit.typeIs (ι ?_))|refine γ (g5 hit.typeIs (ι ?_))
 refine γ (wpAny_isOneOf_keyiter hit.typeIs ?_);show π _ _ (setField (.ref it) 1 (rawInt ((i:Int)+1)) >>= _) _ _ s;refine γ (i8 ho hd (by simp) ?_);have hit':(s.heap.update it (br.mapFields (·.setIfInBounds 1 (rawInt ((i:Int)+1))))).IsKeyIter it d (i+1) es.size ep:=
  ⟨_,Heap.get?_update_self _ ho (qY (kg hd _)),(br.cls_mapFields ..).trans hc,by rw[kg hd];simp[rawInt]⟩
 refine γ (cx ?_);refine γ (wpAny_isOneOf_keyiter (s:={ s with heap:=s.heap.update it (br.mapFields (·.setIfInBounds 1 (rawInt ((i:Int)+1))))}) hit'.typeIs ?_);show π _ _ (pure es[i].key) _ _ _;exact ι (ι ⟨_,rfl,ι (hQ _ hit' (Heap.SameBut.update ..))⟩)
theorem Hk{Q:Option δ->ζ->Prop}(hh:A.handled=none)(hit:s.heap.IsKeyIter it d i es.size ep)(hge:es.size≤i)(hm:Raw s.heap d es ep)
  (hQ:∀h',Heap.ExtBut it s.heap h'->Q none { s with heap:=h' }):π (model prog w) A (pyNext (.ref it)) Q E s:=by
 obtain⟨o,ho,hc,hd⟩:=id hit;obtain⟨od,j0,qS,hdd⟩:=id hm;unfold pyNext;refine γ (gD (bW (name:=fm "__next__") hit.typeIs F.slot_dict_keyiterator_next
  (bU F.slot_dict_keyiterator_next hit.typeIs F.entry_dict_keyiterator_next ?_ (F.args_dict_keyiterator_next_1 _))))
 refine γ (ι (γ (γ ?_)))
 first|refine γ (fW hit.typeIs (ι ?_))|refine γ (g5 hit.typeIs (ι ?_))
 refine γ (ja ho hd ?_);have hown:cT "dict_keyiterator" = false:=by decide
 simp only[hown,cq,if_false];show π _ _ (if (au d==bT)=true then _ else _) _ _ s;rw[if_neg (show ¬((au d==bT)=true) from ak)];refine γ (ι (γ (e6 j0 hdd ?_)));rw[if_neg (by simp)];refine γ (ι (γ (fN j0 hdd ?_)));rw[if_neg (by simp)];refine ι ?_;simp only[show ¬((i:Int)<0) from by lia,if_false,bz,kW hge];refine γ ?_
 first|refine γ (fW hit.typeIs (ι ?_))|refine γ (g5 hit.typeIs (ι ?_))
 show π _ _ (setField (.ref it) 0 .none >>= _) _ _ s;refine γ (i8 ho hd (by simp) ?_);show π _ _ (newExc (.type "StopIteration") [] >>= _) _ _ _;refine γ ?_;simp only[newExc,newTuple];refine γ (bx ?_ (by size_fits));refine γ (m:=firstArgMember _ _) (nc (a:=bT) (by first|rfl|(simp only[firstArgMember];rfl)) ?_)
 refine bx ?_ (by size_fits);simp only[raiseNew];refine γ (nR ?_);rw[show A.in1.handled=none from hh];refine γ (ι (qy ?_));refine γ (ju (T:="StopIteration") (b:=true) ⟨_,Heap.get?_push_size _ rfl,rfl⟩ mZ ?_);exact ι (hQ _ (((Heap.SameBut.update ..).extBut.push _).push _))
end
end CF
namespace L3
open PySem PySem.Spec PyProof.Rows L2 My
section
variable {X:Cx} {o e:ρ} {to ta tb:aO} {apos cpos p pos:aP} {tg a b:ρ}
def zl(to:aO):aO:=fun τ G Q=>to τ G fun x G1=>match x with
 |.obj p=>∃kns ob,G1 p=some (.gen (jo (iN kns) ob))/\kns.length≤1000/\∀(q:η) (mss:List (List Int×Int)) (G':Gp),eQ G1 q (.lst (mss.map jZ)) G'->mss.Perm kns->iC (mss.map aK.eP)->Q (.obj q) G'
 |_=>False
theorem aam(hu:X.A.units+64<cLine)(ho:QE X o to)(hm:X.mg "sorted" = none)(hc:X.calm=true:=by rfl)(hg:Gl X "sorted":=by rfl)(rR:attributeBase o "items" X.env (eval o X.env)=eval o X.env:=by rfl)(rN:(apos.endLine==cpos.line)=true:=by rfl):
  QE X (.Call (.Name "sorted" p) [.Call (.Attribute o "items" apos) [] [] cpos] [] pos) (zl to):=
 ⟨jJ (lh (aan hc hu) hg hm rfl (yd (aaq ho.of rR rN) A1 (gs rfl)) (he:=gs rfl) (hpl:=ma rfl)) fun σ H Q zz=>by
  obtain⟨τ,G,Q3,RS,RG,h,k⟩:=zz;refine⟨τ,G,_,RS,RG,h,fun v H1 d G1 h1 S1 R1 q1=>?_⟩;cases d with
  |obj p=>
   obtain⟨kns,ob,e1,hz,q⟩:=q1;obtain⟨⟨z1,z0,xs,z2,z3⟩,_⟩:=R1 p _ e1;refine⟨p,ob,xs,ij h1,z1,z0,z2,fun v hv=>?_⟩;have hne:p≠v:=fun z=>by rw[z,hv] at z1;cases z1
   have R2:bB X.K G1 (upd H1 v (.ext (wN v p))):=R1.laid hv;refine⟨v,p,ob,xs,kns,rfl,jW,by rw[fi hne];exact z1,z2,z3.ext (.laid hv),hz,fun as D' mss ys nd fr hD hp hr hv2=>?_⟩;obtain⟨S3,R3⟩:=JP (K:=X.K) (G:=G1) (ps:=sh xs kns) nd fr R2;exact k _ _ (.obj D') _ oZ (((S1.trans (.laid hv)).trans S3).trans (.iP hD)) (R3.qt hD hv2) (q D' mss _ (.mk' (R3.free hD)) hp hr)
  |_=>exact q1.elim⟩
def EW(d:η)(o:br)(xs:List ik):It:=
 ⟨fun i H=>H d=some (.ext (i4 d o))/\i<xs.length,fun i H x H'=>∃e,x=.ref e.2.1/\H'=H/\xs[i]?=some e,fun i H=>H d=some (.ext (i4 d o))/\xs.length≤i⟩
theorem ZK{P P':aw}{w w':aG}{K:PySem.W.Frag}{tg:ρ}(d it:η){o:br}{xs:List ik}{ees:Array gY}{ep:Nat}(hex:o.ExactDict)(hdat:o.data=.dict ees ep)(hes:ees.toList=xs.map (entryOfKey (tupleKind (intKind P' w')))):
  Turn P w K tg (EW d o xs) [it] it (fun i h=>h.IsKeyIter it d i ees.size ep) where
 mem:=by simp
 obj:=fun i h st b hb=>by
  have e:b=it:=by simpa using hb
  subst e;obtain⟨o,e,c,d⟩:=st;exact⟨o,e,fun v z=>by rw[d] at z;cases z⟩
 keep:=fun i h h' st k=>st.at fun o e=>k it (by simp) o e
 item:=by
  intro X hP hw hK hc i pins s σ H E I hf st hg;subst hP hw hK;obtain⟨e1,hi⟩:=hg;have ho:=uD I e1;have hsz:ees.size=xs.length:=size_of_entries hes;have hx:xs[i]?=some xs[i]:=Θ hi;obtain⟨f0,f1,f2,f3,f4,f5⟩:=hf it (by simp);refine CF.Hj st ⟨o,ho,hex,hdat⟩ (by lia) fun h' st' sb=>?_;have hen:ees[i]?=some (entryOfKey (tupleKind (intKind P' w')) xs[i]):=by
   rw[entry_at hes i,hx];rfl
  have hk:(ees[i]'(by lia)).key=.ref xs[i].2.1:=by
   rw[cQ (by lia)] at hen;rw[aA hen];rfl
  have I1:L2.Inv X pins σ H { s with heap:=h' }:=I.turned (t':=s.toks) (fun b o hb e=>(sb.2 b hb).trans e) f0 f1 f3 f4 f5;obtain⟨o',e',c,d'⟩:=id st';exact⟨_,rfl,yf (s:={ s with heap:=h' }) e' c d' (by decide) ⟨.ref xs[i].2.1,H,I1,hk,⟨xs[i],rfl,rfl,hx⟩,st',fun b hb=>(hf b hb).1⟩⟩
 done:=by
  intro X hP hw hK hc i pins s σ H E I hf st hg;subst hP hw hK;obtain⟨e1,hl⟩:=hg;have hsz:ees.size=xs.length:=size_of_entries hes;obtain⟨f0,f1,f2,f3,f4,f5⟩:=hf it (by simp);exact CF.Hk (I.ok.hd hc) st (by lia) ⟨o,uD I e1,hex,hdat⟩ fun h' eb=>⟨rfl,I.turned (t':=s.toks) (fun b o hb e=>eb b o hb e) f0 f1 f3 f4 f5⟩
 self:=fun _ _ _ _ _ st h=>wpAny_pyIter_keyiter st h
theorem ZJ{to:TE}(ho:PE X o to):PI X tg o (fun σ H R=>to σ H fun x H1=>∃a ob xs,x=.ref a/\H1 a=some (.ext (i4 a ob))/\(a==sysModules)=false/\mP ob xs/\R (EW a ob xs) H1):=by
 intro pins s σ H R I h;refine bP (ho pins s σ H _ I h) fun v s1 zz=>?_;obtain⟨x,H1,I1,r1,a,ob,xs,ex,e1,z0,RD,q⟩:=zz;subst ex;obtain rfl:v=au a:=r1;have hh:=uD I1 e1;obtain⟨r0,⟨P',w',ees,ep,r2,r3⟩,_⟩:=RD;refine CF.Hi z0 ⟨ob,hh,r0,r2⟩ ?_;refine⟨_,[_],_,EW a ob xs,H1,rfl,I1.kept (t':=s1.toks) (fun b o e=>Heap.get?_push_of_some _ e),ZK a _ r0 r2 r3,⟨_,Heap.get?_push_size _ rfl,rfl,rfl⟩,fun b hb=>?_,q⟩;have hb:s1.heap.objs.size≤b:=by
  rw[ah.mp hb];exact υ _
 exact I1.rT hb (I1.cB.fresh hb)
def Be(to:aO):nt:=fun τ G R=>to τ G fun x G1=>match x with
 |.obj p=>∃kvs ob,G1 p=some (.gen (jo kvs ob))/\R ⟨kvs.map (fun q=>tupI q.1),fun G=>G p=some (.gen (jo kvs ob))⟩ G1
 |_=>False
theorem ZI(ho:cg X o to):t8 X tg o (Be to):=
 yb (ZJ ho) fun σ H R zz=>by
  obtain⟨τ,G,R3,RS,RG,h,k⟩:=zz;exact⟨τ,G,_,RS,RG,h,fun v H1 d G1 h1 S1 R1 q1=>by
  cases d with
  |obj p=>
   obtain⟨kvs,ob,e1,q⟩:=q1;obtain⟨⟨z1,z0,xs,z2,z3⟩,_⟩:=R1 p _ e1;have hlen:xs.length=kvs.length:=by
    have:=congrArg bR z3.keys;rwa [ε,ε] at this
   refine⟨p,ob,xs,ij h1,z1,z0,z2,k _ _ _ _ ⟨?_,?_⟩ S1 R1 q⟩
   ·intro i d H' G' E' RG' hg hi;have hi:(kvs.map fun q=>tupI q.1)[i]?=some d:=hi;rw[az] at hi;obtain⟨q,hq,rfl⟩:=Option.map_eq_some_iff.mp hi;obtain⟨x,hx,er⟩:=(z3.ext E').get hq;refine⟨⟨(RG' p _ hg).1.1,(Φ.mp hx).1⟩,fun x' H'' hy=>?_⟩;obtain⟨e,rfl,rfl,hx2⟩:=hy;rw[hx] at hx2;cases hx2;refine⟨?_,.refl _ _,RG'⟩;show Hv _ _ (.tup (q.1.map D.int)) _;unfold Hv;have ht:=er.t;rw[er.k] at ht;exact⟨_,_,rfl,ht,Ex q.1⟩
   ·intro i H' G' E' RG' hg hi;have hi:(kvs.map fun q=>tupI q.1).length≤i:=hi;rw[ε] at hi;exact⟨(RG' p _ hg).1.1,by lia⟩
  |_=>exact q1.elim⟩
def HN(K:PySem.W.Frag):R2:=fun x y H Q=>∃a b k ob xs q,x=.ref a/\y=.ref b/\H a=some (.ext (i4 a ob))/\mP ob xs/\(∀x∈xs,cK K H x.2.1 (x.1.map V.int))/\cK K H b (k.map V.int)/\atKey xs k=some q/\∃u,RelV u q.2/\Q u H
theorem ZH(hu:X.A.units+64<cLine):ua X (HN X.K):=by
 intro value slice pins s σ H x y v u Q I rx ry h hs;obtain⟨a,b,k,ob,xs,q,rfl,rfl,e1,R,ht,hk,hq,u',ru,hQ⟩:=h;cases rx;cases ry;have dd:=Ey I e1 R ht;have fin:∀tk,EP X pins σ Q q.2 { s with toks:=tk }:=fun tk=>⟨u',H,I.tok _,ru,hQ⟩
 exact tail_any dd.typeIs slot_dict_getitem.lookup (wpAny_getItem_heap (ny (by lia)) (zW I hk) dd hq (fin _)) hs
def wR:R3:=fun x y G Q=>match x,y with
 |.obj p,.tup ds=>∃kvs ob k d,G p=some (.gen (jo kvs ob))/\ds=k.map .int/\(kvs.find? fun q=>decide (q.1=k))=some (k,d)/\Q d G
 |_,_=>False
theorem eh.find{K:PySem.W.Frag}{H:Hp}{k:List Int}{d:D}:∀{kvs:List KD} {xs:List ik},eh K H kvs xs->(kvs.find? fun q=>decide (q.1=k))=some (k,d)->∃q u,atKey xs k=some q/\Hv K H d u/\RelV u q.2
 |p::ps,x::xs,h,e=>by
  by_cases z:p.1=k
  ·rw[dH,decide_eq_true z] at e;have e:=aA e;obtain⟨v,h1,h2⟩:=h.1.v;rw[e] at h1;refine⟨x.2,v,?_,h1,h2⟩;unfold atKey;rw[dH,decide_eq_true (h.1.k.trans z)];rfl
  ·rw[dH,decide_eq_false z] at e;obtain⟨q,u,h1,h2⟩:=eh.find h.2 e;refine⟨q,u,?_,h2⟩;unfold atKey at h1 ⊢;rw[dH,decide_eq_false fun y=>z (h.1.k.symm.trans y)];exact h1
 |[],_,_,e=>by cases e
 |_::_,[],h,_=>h.elim
theorem ZG{K:PySem.W.Frag}:dU K wR (HN K):=fun x y vx vy G H Q3 Q hx hy RG h k=>by
 unfold wR at h;split at h
 ·rename_i p ds;obtain⟨kvs,ob,key,d,e1,rfl,e2,q⟩:=h;obtain⟨⟨z1,z0,xs,z2,z3⟩,_⟩:=RG p _ e1;obtain⟨b,vs,rfl,t1,t2⟩:=kx hy;obtain rfl:=zV t2;obtain⟨qq,u,h1,h2,h3⟩:=z3.find e2;exact⟨p,b,key,ob,xs,qq,ij hx,rfl,z1,z2,z3.mO,t1,h1,u,h3,k u H d G h2 (.refl H G) RG q⟩
 ·exact h.elim
theorem ZF(hu:X.A.units+64<cLine)(ha:QE X a ta)(hb:QE X b tb)(hs:oO b:=by intro _ _;rfl):QE X (.Subscript a b pos) (aJ wR ta tb):=⟨jJ (ER (ZH hu) ha.of hb.of hs) fun _ _ _ h=>yc ZG h⟩
theorem ZE(ho:QE X o to):QI X tg o (Be to):=⟨ZI ho.of⟩
end
end L3
namespace tV
open PySem PySem.W PyProof.Rows i6 Cr aK
section
variable {prog:aw} {w:aG} {A:aR} {E:δ->ζ->Prop} {s:ζ}
abbrev vI(p:Int×kz):δ:=.int p.1 p.2
abbrev ltI(x y:Int×kz):Bool:=decide (x.1<y.1)
theorem aay:ph ltI:=⟨fun _ _ h=>decide_eq_false (by have:=of_decide_eq_true h;omega),fun _ _ _ h1 h2=>decide_eq_false (by have:=of_decide_eq_false h1;have:=of_decide_eq_false h2;omega)⟩
abbrev Na(ps qs:List (Int×kz)):Prop:=ll ltI ps qs
theorem zt{l:η}{ps:List (Int×kz)}{Q:δ->ζ->Prop}(h64:ps.length<64)
  (rP:∀(R:List δ->ζ->Prop),(∀s',gq [] (fun x y=>y=x) s s'->R (ps.map vI) s')->π (model prog w) A.in1 (collect (.ref l)) R E s)
  (h:∀qs s' c D,Na ps qs->s.heap.get? D=none->s'.heap.get? D=some (seqObj "list" (qs.map vI).toArray c)->gq [] (fun x y=>y=x) s s'->Q (.ref D) s'):
  π (model prog w) A (call (.builtin "sorted") [.ref l]) Q E s:=by
 refine Lh (κ:=oneType') (d:=(0,0)) aay (fun s' h2 kk=>⟨fun Q E q=>?_,fun i j hi hj C h=>?_⟩) h64 rP h
 ·refine kas_kind (T:=.type "int") (by rw[ε];exact h2) (fun v hv=>?_) (by decide) rfl q;obtain⟨p,_,rfl⟩:=aE.mp hv;exact .now
 ·unfold lE;rw[yp (d:=(0,0)) hi,yp (d:=(0,0)) hj,keyLt'_oneType];exact oneLt_int h
end
end tV
namespace L3
open PySem PySem.Spec PyProof.Rows L2
theorem CW:∀{ns:List Int} {us:List δ},bo (ns.map V.int) us->∃ps:List (Int×kz),ps.map (·.1)=ns/\us=ps.map tV.vI
 |[],us,r=>by
  cases r;exact⟨[],rfl,rfl⟩
 |n::ns,us,r=>by
  cases r with
  |cons r1 r2=>
   obtain⟨t,rfl⟩:=(show ∃t,_=eF n t from r1);obtain⟨ps,e1,e2⟩:=CW r2;exact⟨(n,t)::ps,by simp[e1],by simp[e2]⟩
theorem nh:∀(qs:List (Int×kz)),bo ((qs.map (·.1)).map V.int) (qs.map tV.vI)
 |[]=>.nil
 |q::qs=>.cons ⟨q.2,rfl⟩ (nh qs)
section
variable {X:Cx}
theorem ZD{Q:VK}{pins:List (η×br)}{σ:L2.St}{H:Hp}{s:ζ}(I:L2.Inv X pins σ H s){ps qs:List (Int×kz)}{s':ζ}{c:Nat}{D':η}(hz:ps.length<64)(hS:tV.Na ps qs)(hn:s.heap.get? D'=none)(hD:s'.heap.get? D'=some (seqObj "list" (qs.map tV.vI).toArray c))
  (hm:gq [] (fun x y=>y=x) s s') (q:H D'=none->Q (.ref D') (upd H D' (.lst ((qs.map (·.1)).map V.int)))):EP X pins σ Q (.ref D') s':=by
 have e:s'={ s with heap:=s'.heap,toks:=s'.toks }:=by
  cases s';cases s;have h1:=hm.gens;have h2:=hm.drawn;have h3:=hm.os;simp only at h1 h2 h3;subst h1 h2 h3;rfl
 rw[e];refine⟨.ref D',_,Inv.u4 I (o:=.lst ((qs.map (·.1)).map V.int)) (fun b u z=>hm.heap b u (fun y=>nomatch y) z) hn ?_,rfl,q (Inv.tR I hn)⟩;refine⟨?_,_,c,nh qs,hD⟩;rw[ε,ε,hS.perm.length_eq,bX];lia
end
section
variable {X:Cx} {e:ρ} {ta:aO} {pos p p' pos':aP}
theorem ZC{K:PySem.W.Frag}{H:Hp}{ns:List Int}{xs:List V}(h:aI K H (ns.map D.int) xs):xs=ns.map V.int:=by
 refine lR h ?_;clear h
 induction ns with
 |nil=>rfl
 |cons n ns ih=>simp[intsOf,ih]
end
end L3
namespace L3
open PySem PySem.Spec PyProof.Rows L2 My
section
variable {X:Cx} {K:PySem.W.Frag} {e:ρ} {es:List ρ} {t:dF} {pos p:aP}
def HR(K:PySem.W.Frag):R2:=fun x y H Q=>∃a b ns ms,x=.ref a/\y=.ref b/\cK K H a (ns.map V.int)/\cK K H b (ms.map V.int)/\Q (.bl (HT.lexLt ms ns)) H
theorem ZA(hu:X.A.units<cLine):eO X (compareOp .Gt) (HR X.K):=by
 intro pins s σ H x y v u Q I rx ry h;obtain⟨a,b,ns,ms,rfl,rfl,ha,hb,q⟩:=h;cases rx;cases ry;obtain⟨its,r1,p1,_⟩:=I.tuple ha;obtain⟨its2,r2,p2,_⟩:=I.tuple hb;have i1:dg its.toArray.toList ns:=intsAre_of r1;have i2:dg its2.toArray.toList ms:=intsAre_of r2;exact HT.u5 p1 p2 i1 i2 hu ⟨.bl (HT.lexLt ms ns),H,I,rfl,q⟩
def zF:R3:=fun x y G Q=>match x,y with
 |.tup ds,.tup es=>∃ns ms,intsOf ds=some ns/\intsOf es=some ms/\Q (.bl (aK.lx ms ns)) G
 |_,_=>False
theorem Zz:dU K zF (HR K):=fun x y vx vy G H Q3 Q hx hy RG h k=>by
 unfold zF at h;split at h
 ·rename_i ds es;obtain⟨ns,ms,e1,e2,q⟩:=h;obtain⟨a,vs,rfl,h1,h2⟩:=kx hx;obtain⟨b,us,rfl,h3,h4⟩:=kx hy;rw[aK.sW] at q;exact⟨a,b,ns,ms,rfl,rfl,by rw[←lR h2 e1];exact h1,by rw[←lR h4 e2];exact h3,k _ H (.bl _) G lb (.refl H G) RG q⟩
 ·exact h.elim
def HU(K:PySem.W.Frag):R2:=fun x y H Q=>∃a b ns ms,x=.ref a/\y=.ref b/\yH K H ns a/\yH K H ms b/\Q (.bl (aK.fA ms ns)) H
theorem Zy(hu:X.A.units+64<cLine):eO X (compareOp .Gt) (HU X.K):=by
 intro pins s σ H x y v u Q I rx ry h;obtain⟨a,b,ns,ms,rfl,rfl,ha,hb,q⟩:=h;cases rx;cases ry;obtain⟨oa,ia,na,ea,ca,da,ta⟩:=xK I ha;obtain⟨ob,ib,nb,eb,cb,db,tb⟩:=xK I hb;rw[←aK.wk] at q;exact HT.Bh (prog:=X.prog) (w:=X.w) ⟨oa,ea,ca,na,da⟩ ⟨ob,eb,cb,nb,db⟩ (HT.rM ta) (HT.rM tb) (by lia) ⟨.bl (HT.gf ms ns),H,I,rfl,q⟩
def FO:R3:=fun x y G Q=>∃ns ms,x=fJ ns/\y=fJ ms/\Q (.bl (aK.fA ms ns)) G
theorem Zx:dU K FO (HU K):=fun x y vx vy G H Q3 Q hx hy RG ⟨ns,ms,e1,e2,q⟩ k=>by
 subst e1;subst e2;obtain⟨a,rfl,h1⟩:=xM hx;obtain⟨b,rfl,h2⟩:=xM hy;exact⟨a,b,ns,ms,rfl,rfl,h1,h2,k _ H (.bl _) G lb (.refl H G) RG q⟩
theorem Zw(hc:X.calm=true){pins:List (η×br)}{s:ζ}{σ:L2.St}{H:Hp}{a:η}{xs:List V}{E:δ->ζ->Prop}(I:Inv X pins σ H s)(hl:cK X.K H a xs){Q:δ->ζ->Prop}
  (q:∀(its:List δ) (I':η),bo xs its->WalksS X.prog X.w X.A.in1 I' [I',a] [I'] (fun x y=>y=x) its.length (fun i v=>its[i]?=some v) (fun i s=>s.heap.IsTupleIter I' a i/\s.heap.IsTuple a its.toArray) ->
   (s.heap.push { cls:=.type "tuple_iterator",data:=.fields #[.ref a,.int 0 0]}).IsTupleIter I' a 0->(s.heap.push { cls:=.type "tuple_iterator",data:=.fields #[.ref a,.int 0 0]}).IsTuple a its.toArray ->
   (∀b∈[I',a],b<(s.heap.push { cls:=.type "tuple_iterator",data:=.fields #[.ref a,.int 0 0]}).objs.size) ->
   (∀s',gq [I'] (fun x y=>y=x) { s with heap:=s.heap.push { cls:=.type "tuple_iterator",data:=.fields #[.ref a,.int 0 0]}} s'->Inv X pins σ H s')->Q (.ref I') { s with heap:=s.heap.push { cls:=.type "tuple_iterator",data:=.fields #[.ref a,.int 0 0]}}):
  π (model X.prog X.w) X.A.in1 (pyIter (.ref a)) Q E s:=by
 obtain⟨its,rv,pl,_⟩:=I.tuple hl;have hla:a<s.heap.objs.size:=by
  obtain⟨o,h1,_⟩:=pl;exact Heap.lt_size h1
 refine iD pl ?_;have hW:=(Walks.tuple (prog:=X.prog) (w:=X.w) (A:=X.A.in1) (by have:=I.ok.hd hc;simpa using this) s.heap.objs.size a (aX hla) its.toArray).toS;refine q its s.heap.objs.size rv (by simpa using hW) ⟨_,Heap.get?_push_size _ rfl,rfl,rfl⟩ ?_ ?_ fun s' hm=>?_
 ·obtain⟨o,h1,h2⟩:=pl;exact⟨o,Heap.get?_push_of_some _ h1,h2⟩
 ·intro b hb;rw[size_push'];rcases ay.mp hb with e|e
  ·rw[e];exact Nat.lt_succ_self _
  ·have:b=a:=by simpa using e
   rw[this];exact oq hla
 ·have e:s'={ s with heap:=s'.heap,toks:=s'.toks }:=by
   cases s';cases s;have h1:=hm.gens;have h2:=hm.drawn;have h3:=hm.os;simp only at h1 h2 h3;subst h1 h2 h3;rfl
  rw[e];exact I.kept fun b u z=>hm.heap b u (fun y=>by
   have:b=s.heap.objs.size:=by simpa using y
   exact absurd (this▸Heap.lt_size z) (cU _)) (Heap.get?_push_of_some _ z)
theorem Zv(hc:X.calm=true):gP X (.builtin "max") (fun vs H Q=>∃(a:η) (ns:List Int),vs=[.ref a]/\cK X.K H a (ns.map V.int)/\0<ns.length/\∀m,m∈ns->(∀n∈ns,n≤m)->Q (.int m) H):=by
 intro pins s σ H vs us Q I r h;obtain⟨a,ns,rfl,hl,h0,q⟩:=h;obtain⟨u,rfl,ru⟩:=vals1 r;cases ru;refine call_max_walkS (Zw hc I hl fun its I' rv W h1 h2 h3 back=>?_);have h4:its.length=ns.length:=by rw[←rv.length,ε]
 have hP:∀(i:Nat) (v:δ),its[i]?=some v->∃t,v=eF (ns.getD i 0) t:=by
  intro i v hv;have hi:i<ns.length:=by
   have:=(Φ.mp hv).1;lia
  obtain⟨u',e1,e2⟩:=rv.get (i:=i) (x:=.int ns[i]) (by rw[az,Θ hi];rfl);rw[hv] at e1;cases e1;obtain⟨t,rfl⟩:=(show ∃t,v=eF ns[i] t from e2);exact⟨t,by simp[iG,hi]⟩
 refine⟨I',_,_,_,_,_,_,_,rfl,W,⟨h1,h2⟩,h3,by lia,CmpOf.ints_gt (fun i=>ns.getD i 0) hP,fun v s' hv hm=>?_⟩;obtain⟨g1,g2⟩:=argBest_gt (fun i=>ns.getD i 0) (its.length-1);obtain⟨t,rfl⟩:=hP _ _ hv;refine⟨.int (ns.getD (argBest (fun i j=>decide (ns.getD i 0 > ns.getD j 0)) (its.length-1)) 0),H,back s' hm,⟨t,rfl⟩,q _ ?_ ?_⟩
 ·have hlt:argBest (fun i j=>decide (ns.getD i 0 > ns.getD j 0)) (its.length-1)<ns.length:=by lia
  rw[dX,Θ hlt];exact eH hlt
 ·intro n hn;obtain⟨j,hj,e⟩:=ed hn;have:=g2 j (by lia);have e':ns.getD j 0=n:=by
   rw[dX,Θ hj];exact e
  rw[←e'];exact this
def DP:C3:=fun ds G Q=>match ds with
 |[.tup xs]=>∃ns,intsOf xs=some ns/\0<ns.length/\∀m,m∈ns->(∀n∈ns,n≤m)->Q (.int m) G
 |_=>False
theorem Zu:lq K DP (fun vs H Q=>∃(a:η) (ns:List Int),vs=[.ref a]/\cK K H a (ns.map V.int)/\0<ns.length/\∀m,m∈ns->(∀n∈ns,n≤m)->Q (.int m) H):=fun ds vs G H Q3 Q h RG q k=>by
 rcases ds with _|⟨d,_|⟨d2,ds⟩⟩
 ·exact q.elim
 ·obtain⟨v,rfl,hv⟩:=kD h;cases d with
  |tup xs=>
   obtain⟨ns,e2,h0,q⟩:=q;obtain⟨a,vs,rfl,h1,h2⟩:=kx hv;rw[lR h2 e2] at h1;exact⟨a,ns,rfl,h1,h0,fun m h1 h2=>k _ H _ G lZ (.refl H G) RG (q m h1 h2)⟩
  |_=>exact q.elim
 ·cases d<;>exact q.elim
theorem Zt(hu:X.A.units+64<cLine)(hm:X.mg "max" = none)(ha:QA X (e::es) t)(hc:X.calm=true:=by rfl)(hg:Gl X "max":=by rfl)(he:notStar e=true:=by rfl)(hpl:es.all notStar=true:=by rfl):
  QE X (.Call (.Name "max" p) (e::es) [] pos) (cF DP t):=⟨mh Zu (lh (Zv hc) hg hm rfl ha.of (he:=gs he) (hpl:=ma hpl))⟩
theorem Zs(hc:X.calm=true):gP X (.builtin "sorted") (fun vs H Q=>∃(a:η) (ns:List Int),vs=[.ref a]/\eN X.K H a (ns.map V.int)/\ns.length<64/\∀(p:η) (ms:List Int),H p=none->ms.Perm ns->ms.Pairwise (· ≤ ·)->Q (.ref p) (upd H p (.lst (ms.map V.int)))):=by
 intro pins s σ H vs us Q I r h;obtain⟨a,ns,rfl,hl,hz,q⟩:=h;obtain⟨u,rfl,ru⟩:=vals1 r;cases ru;obtain⟨its,rv,pl,_⟩:=I.list hl;obtain⟨ps,e1,e2⟩:=CW rv;subst e2;have hlen:ps.length=ns.length:=by rw[←e1,ε]
 refine tV.zt (ps:=ps) (by lia) (fun R hR=>?_) fun qs s' c D' hS hn hD hm=>?_
 ·refine pB pl.isList (hR _ ⟨fun b o _ e=>?_,rfl,rfl,rfl,υ _⟩) (by rw[ε,bX];lia);have hlt:=Heap.lt_size e;show ((s.heap.push (seqObj "list" #[] 0)).update s.heap.objs.size _).get? b=some o;rw[Heap.get?_update_other _ _ (b0 hlt)];exact Heap.get?_push_of_some _ e
 ·refine ZD I (by lia) hS hn hD hm fun hf=>?_;refine q _ (qs.map (·.1)) hf (by rw[←e1];exact hS.perm.map _) ?_;rw[bN];exact hS.rise.imp fun {x y} h=>by
   have:¬y.1<x.1:=of_decide_eq_false h;lia
def zS:C3:=fun ds G Q=>match ds with
 |[.obj a]=>∃ns:List Int,G a=some (.lst (ns.map D.int))/\ns.length<64/\∀(p:η) (ms:List Int) (G':Gp),eQ G p (.lst (ms.map D.int)) G'->ms.Perm ns->ms.Pairwise (· ≤ ·)->Q (.obj p) G'
 |_=>False
theorem Zr:lq K zS (fun vs H Q=>∃(a:η) (ns:List Int),vs=[.ref a]/\eN K H a (ns.map V.int)/\ns.length<64/\∀(p:η) (ms:List Int),H p=none->ms.Perm ns->ms.Pairwise (· ≤ ·)->Q (.ref p) (upd H p (.lst (ms.map V.int)))):=fun ds vs G H Q3 Q h RG q k=>by
 rcases ds with _|⟨d,_|⟨d2,ds⟩⟩
 ·exact q.elim
 ·obtain⟨v,rfl,hv⟩:=kD h;cases d with
  |obj a=>
   obtain⟨ns,e1,hz,q⟩:=q;obtain⟨xs,e2,e3⟩:=RG a _ e1;rw[ij hv];rw[ZC e3] at e2;exact⟨a,ns,rfl,.of e2,hz,fun p ms hp h1 h2=>k _ _ (.obj p) _ oZ (.iP hp) (RG.qt hp (aI.ints ms)) (q p ms _ (.mk' (RG.free hp)) h1 h2)⟩
  |_=>exact q.elim
 ·cases d<;>exact q.elim
theorem JM(hu:X.A.units+64<cLine)(hm:X.mg "sorted" = none)(ha:QA X (e::es) t)(hc:X.calm=true:=by rfl)(hg:Gl X "sorted":=by rfl)(he:notStar e=true:=by rfl)(hpl:es.all notStar=true:=by rfl):
  QE X (.Call (.Name "sorted" p) (e::es) [] pos) (cF zS t):=⟨mh Zr (lh (Zs hc) hg hm rfl ha.of (he:=gs he) (hpl:=ma hpl))⟩
theorem Jb{pins:List (η×br)}{s:ζ}{σ:L2.St}{H:Hp}(I:Inv X pins σ H s):∀{kns:List (List Int×Int)} {vs:List V} {us:List δ},aI X.K H (kns.map jZ) vs->bo vs us ->
  ∃ps:List ((List Int×Int)×η),ps.map (·.1)=kns/\vs=ps.map (fun p=>.ref p.2)/\us=ps.map (fun p=>au p.2)/\∀p∈ps,Hv X.K H (jZ p.1) (.ref p.2)/\aK.ub X.prog X.w s.heap p.1 p.2
 |[],vs,us,h,r=>by
  cases h.iJ;cases r;exact⟨[],rfl,rfl,rfl,fun p hp=>nomatch hp⟩
 |k::kns,vs,us,h,r=>by
  obtain⟨v,vr,rfl,q1,q2⟩:=aI.inv (show aI X.K H (jZ k::kns.map jZ) vs from h);cases r with
  |cons r1 r2=>
   obtain⟨ps,e1,e2,e3,e4⟩:=Jb I q2 r2;obtain⟨a,ws,rfl,h1,h2⟩:=kx (show Hv X.K H (.tup [tupI k.1,.int k.2]) v from q1);cases r1;refine⟨(k,a)::ps,by rw[aZ,e1],by rw[aZ,e2],by rw[aZ,e3],fun p hp=>?_⟩;rcases ay.mp hp with rfl|hp
   ·refine⟨q1,?_⟩;obtain⟨v1,w1,rfl,a1,a2⟩:=h2.inv;obtain⟨v2,w2,rfl,b1,b2⟩:=a2.inv;cases b2.iJ;obtain⟨b,us,rfl,c1,c2⟩:=kx (show Hv X.K H (.tup (k.1.map D.int)) v1 from a1);obtain rfl:=iX b1;obtain rfl:=zV c2;obtain⟨its,rv,⟨o,ho,hc,n,hd⟩,_⟩:=I.tuple h1;obtain⟨its2,rv2,⟨o2,ho2,hc2,n2,hd2⟩,_⟩:=I.tuple c1;cases rv with
    |cons x1 rv=>
     cases rv with
     |cons x2 rv=>
      cases rv;cases x1;obtain⟨t,rfl⟩:=x2;exact⟨o,b,t,n,ho,hc,hd,⟨o2,its2.toArray,n2,ho2,hc2,hd2,AD rv2⟩⟩
   ·exact e4 p hp
theorem Zq(hc:X.calm=true)(hu:X.A.units+64<cLine):gP X (.builtin "sorted") (fun vs H Q=>∃(a:η) (xs:List V) (kns:List (List Int×Int)),vs=[.ref a]/\eN X.K H a xs/\aI X.K H (kns.map jZ) xs/\kns.length≤1000 ∧
  ∀(p:η) (mss:List (List Int×Int)) (ys:List V),H p=none->mss.Perm kns->iC (mss.map aK.eP)->aI X.K H (mss.map jZ) ys->Q (.ref p) (upd H p (.lst ys))):=by
 intro pins s σ H vs us Q I r h;obtain⟨a,xs,kns,rfl,hl,hv,hz,q⟩:=h;obtain⟨u,rfl,ru⟩:=vals1 r;cases ru;obtain⟨its,rv,pl,_⟩:=I.list hl;obtain⟨ps,e1,e2,e3,e4⟩:=Jb I hv rv;subst e3;have hlen:ps.length=kns.length:=by rw[←e1,ε]
 have inj:∀p∈ps,∀q∈ps,aK.fP p=aK.fP q->p=q:=fun p hp q hq e=>by
  obtain⟨k,b⟩:=p;obtain⟨k',b'⟩:=q;have e:au b=au b':=e;injection e with e;subst e;obtain⟨o,c,t,m,h1,h2,h3,h4⟩:=(e4 _ hp).2;obtain⟨o',c',t',m',h1',h2',h3',h4'⟩:=(e4 _ hq).2;have h1:s.heap.get? b=some o:=h1;have h1':s.heap.get? b=some o':=h1';rw[h1] at h1';cases h1';rw[h3] at h3';injection h3' with h3' _
  have h5:=congrArg mG h3';have h5:[au c,eF k.2 t]=[au c',eF k'.2 t']:=h5;injection h5 with h6 h7;injection h6 with h6;subst h6;injection h7 with h7 _;injection h7 with h7 _;have hk1:k.1=k'.1:=h4.inj h4';have:k=k':=uK hk1 h7;rw[this]
 refine fV.uO (κ:=tuples' false) (f:=aK.fP) (ps:=ps) aK.Mv inj (fun s' h2 kk=>?_) (by lia) (fun R hR=>?_) fun qs s' c D' hS hn hD hm=>?_
 ·have hk':∀p∈ps,aK.ub X.prog X.w s'.heap p.1 p.2:=fun p hp=>aK.zk kk (e4 p hp).2;exact⟨fun Q E q=>aK.yy (fun z=>by rw[z] at h2;simp at h2) hk' q,fun p hp q hq Q E hq'=>aK.wB (by show X.A.units+1+1+16<cLine;lia) (hk' p hp) (hk' q hq) hq'⟩
 ·refine pB pl.isList (hR _ ⟨fun b o _ e=>?_,rfl,rfl,rfl,υ _⟩) (by rw[ε,bX];lia);have hlt:=Heap.lt_size e;show ((s.heap.push (seqObj "list" #[] 0)).update s.heap.objs.size _).get? b=some o;rw[Heap.get?_update_other _ _ (b0 hlt)];exact Heap.get?_push_of_some _ e
 ·have e:s'={ s with heap:=s'.heap,toks:=s'.toks }:=by
   cases s';cases s;have h1:=hm.gens;have h2:=hm.drawn;have h3:=hm.os;simp only at h1 h2 h3;subst h1 h2 h3;rfl
  rw[e];have hlq:qs.length≤1000:=by rw[hS.perm.length_eq];lia
  refine⟨.ref D',_,Inv.u4 I (o:=.lst (qs.map fun p=>.ref p.2)) (fun b u z=>hm.heap b u (fun y=>nomatch y) z) hn ?_,rfl,?_⟩
  ·refine⟨?_,_,c,?_,hD⟩
   ·rw[ε,bX];lia
   ·clear hlq hD hS
    induction qs with
    |nil=>exact .nil
    |cons x qs ih=>exact .cons rfl ih
  ·refine q _ (qs.map (·.1)) _ (Inv.tR I hn) (by rw[←e1];exact hS.perm.map _) (by rw[aN];exact bN.mpr hS.rise) ?_;have hall:∀p∈qs,Hv X.K H (jZ p.1) (.ref p.2):=fun p hp=>(e4 p (hS.perm.mem_iff.mp hp)).1;clear hlq hD hS
   induction qs with
   |nil=>exact .nil
   |cons x qs ih=>exact .cons (hall x ο) (ih fun p hp=>hall p (χ _ hp))
def DO:C3:=fun ds G Q=>match ds with
 |[.obj a]=>∃kns:List (List Int×Int),G a=some (.lst (kns.map jZ))/\kns.length≤1000/\∀(p:η) (mss:List (List Int×Int)) (G':Gp),eQ G p (.lst (mss.map jZ)) G'->mss.Perm kns->iC (mss.map aK.eP)->Q (.obj p) G'
 |_=>False
theorem Zp:lq K DO (fun vs H Q=>∃(a:η) (xs:List V) (kns:List (List Int×Int)),vs=[.ref a]/\eN K H a xs/\aI K H (kns.map jZ) xs/\kns.length≤1000 ∧
  ∀(p:η) (mss:List (List Int×Int)) (ys:List V),H p=none->mss.Perm kns->iC (mss.map aK.eP)->aI K H (mss.map jZ) ys->Q (.ref p) (upd H p (.lst ys))):=fun ds vs G H Q3 Q h RG q k=>by
 rcases ds with _|⟨d,_|⟨d2,ds⟩⟩
 ·exact q.elim
 ·obtain⟨v,rfl,hv⟩:=kD h;cases d with
  |obj a=>
   obtain⟨kns,e1,hz,q⟩:=q;obtain⟨xs,e2,e3⟩:=RG a _ e1;rw[ij hv];exact⟨a,xs,kns,rfl,.of e2,e3,hz,fun p mss ys hp h1 h2 h3=>k _ _ (.obj p) _ oZ (.iP hp) (RG.qt hp h3) (q p mss _ (.mk' (RG.free hp)) h1 h2)⟩
  |_=>exact q.elim
 ·cases d<;>exact q.elim
theorem Zo(hu:X.A.units+64<cLine)(hm:X.mg "sorted" = none)(ha:QA X (e::es) t)(hc:X.calm=true:=by rfl)(hg:Gl X "sorted":=by rfl)(he:notStar e=true:=by rfl)(hpl:es.all notStar=true:=by rfl):
  QE X (.Call (.Name "sorted" p) (e::es) [] pos) (cF DO t):=⟨mh Zp (lh (Zq hc hu) hg hm rfl ha.of (he:=gs he) (hpl:=ma hpl))⟩
end
end L3
namespace L3
open PySem PySem.Spec PyProof.Rows L2
section
variable {X:Cx} {o i e f:ρ} {pos pos' p apos cpos ps:aP} {to ti tv tk td:aO} {es:List ρ} {n0:Nat}
theorem Ja:QE X (.Dict [] [] pos) vf:=⟨ZW⟩
theorem IZ(hu:X.A.units+64<cLine)(ho:QE X o to)(hi:QE X i ti)(hv:QE X e tv)(hs:swapsWith e (some (.Subscript o i pos')) pos.line X.env=pure false:=by rfl):
  QS X (.Assign [.Subscript o i pos'] e pos) (uU to ti tv):=⟨aav hu ho.of hi.of hv.of hs⟩
theorem IY(hu:X.A.units+64<cLine)(ho:QE X o to)(he:QE X e tk)(hf:QE X f td)(m:M2 X o "get" apos e f cpos:=by exact⟨rfl,rfl,rfl,rfl⟩):QE X (.Call (.Attribute o "get" apos) [e,f] [] cpos) (ve to tk td):=⟨aat hu ho.of he.of hf.of m⟩
end
end L3
namespace My
open PySem L2 L3
abbrev dC(cs:List ω):List Int:=cs.map (·.1)
def xa(kns:List (List Int×Int))(k:List Int):Int:=((kns.find? fun p=>decide (p.1=k)).map (·.2)).getD 0
def qv(kns:List (List Int×Int))(k:List Int):List (List Int×Int):=if k∈kns.map (·.1) then kns.map (fun p=>if p.1=k then (p.1,xa kns k+1) else p) else kns++[(k,xa kns k+1)]
def yX(tss:List (List Int)):List (List Int×Int):=tss.foldl qv []
theorem Zn(kns:List (List Int×Int)):(iN kns).map (·.1)=kns.map (·.1):=by
 unfold iN;rw[aN];rfl
theorem Zm(kns:List (List Int×Int))(k:List Int):oE (iN kns) k (.int 0)=.int (xa kns k):=by
 unfold oE xa iN;rw[List.find?_map];cases h:kns.find? fun p=>decide (p.1=k) with
 |none=>
  have:kns.find? ((fun p:KD=>decide (p.1=k)) ∘ fun p=>(p.1,D.int p.2))=none:=h;rw[this];rfl
 |some p=>
  have:kns.find? ((fun p:KD=>decide (p.1=k)) ∘ fun p=>(p.1,D.int p.2))=some p:=h;rw[this];rfl
theorem Zl(kns:List (List Int×Int))(k:List Int):yr (iN kns) k (.int (xa kns k+1))=iN (qv kns k):=by
 unfold yr qv;rw[Zn];by_cases h:k∈kns.map (·.1)
 ·rw[if_pos h,if_pos h];unfold iN;rw[aN,aN];refine b9 fun p _=>?_;show (if p.1=k then _ else _)=(fun p:List Int×Int=>(p.1,D.int p.2)) (if p.1=k then _ else _);by_cases e:p.1=k
  ·rw[if_pos e,if_pos e]
  ·rw[if_neg e,if_neg e]
 ·rw[if_neg h,if_neg h];unfold iN;rw[aW];rfl
theorem Zk(kns:List (List Int×Int))(k:List Int):(qv kns k).map (·.1)=if k∈kns.map (·.1) then kns.map (·.1) else kns.map (·.1)++[k]:=by
 unfold qv;by_cases h:k∈kns.map (·.1)
 ·rw[if_pos h,if_pos h,aN];refine b9 fun p _=>?_;show (if p.1=k then _ else _:List Int×Int).1=_;by_cases e:p.1=k
  ·rw[if_pos e]
  ·rw[if_neg e]
 ·rw[if_neg h,if_neg h,aW];rfl
theorem ZU{kns:List (List Int×Int)}(k:List Int)(h:(kns.map (·.1)).Nodup):((qv kns k).map (·.1)).Nodup:=by
 rw[Zk];split
 ·exact h
 ·rename_i hn;refine List.nodup_append.mpr ⟨h,dG.mpr ⟨by simp,rh⟩,fun a ha b hb e=>hn ?_⟩;rw[←ah.mp hb,←e];exact ha
theorem ZT(kns:List (List Int×Int))(k:List Int):(qv kns k).length≤kns.length+1:=by
 unfold qv;split
 ·rw[ε];lia
 ·rw[ξ,b6];exact υ _
theorem IX:∀{kns:List (List Int×Int)},(kns.map (·.1)).Nodup->∀p∈kns,((iN kns).find? fun q=>decide (q.1=p.1))=some (p.1,D.int p.2)
 |[],_,p,hp=>nomatch hp
 |k::kns,nd,p,hp=>by
  obtain⟨n1,n2⟩:=dG.mp nd;show ((k.1,D.int k.2)::iN kns).find? _=_;rcases ay.mp hp with rfl|hp
  ·rw[dH,decide_eq_true rfl]
  ·rw[dH,decide_eq_false fun e=>n1 ?_]
   ·exact IX n2 p hp
   ·have e:k.1=p.1:=e;show k.1∈kns.map (·.1);rw[e];exact aE.mpr ⟨p,hp,rfl⟩
def yO(n:Nat)(rs:List (List ω)):Prop:=rs.Perm ((raw n).map fy)/\iC (rs.map iU)
theorem ZS{n:Nat}{rs ds:List (List ω)}(h:yO n rs)(h':yO n ds):rs=ds:=by
 have:=EA ((h.1.trans h'.1.symm).map iU) h.2 h'.2;exact nE (fun a b e=>D7 e) |>.mp this
theorem IW{n:Nat}{rs:List (List ω)}(h1:1≤n)(h2:n<17)(h:yO n rs):rs.length≤1000/\∀c∈rs,c.length≤16:=by
 have hR:=HI h1 h2;refine⟨by rw[h.1.length_eq,ε];exact hR.len,fun c hc=>?_⟩;obtain⟨c0,h0,rfl⟩:=aE.mp (h.1.mem_iff.mp hc);rw[(D6 c0).length_eq];exact (hR.HH c0 h0).1.2.1
def yN(G:Gp)(p:η)(G':Gp):Prop:=∀b o,b≠p->G b=some o->G' b=some o
theorem M7{D3:gO}{G G0:Gp}{p1:η}{kns:List (List Int×Int)}{ob:br}{c:List ω}{x0 x2:Option D}{xs:List (Option D)}(hp:G p1=some (.gen (jo (iN kns) ob)))(hl:kns.length≤999)(hk:yN G0 p1 G)(s1:∀ob' G',G' p1=some (.gen (jo (iN (qv kns (dC c))) ob'))->yN G0 p1 G'->D3.nx (x0::some (.obj p1)::x2::some (tupI (dC c))::xs) G'):
  (uU (ν 1) (ν 3) (aJ eo (ve (ν 1) (ν 3) (eC (.int 0))) (eC (.int 1)))) D3 (x0::some (.obj p1)::x2::some (tupI (dC c))::xs) G:=by
 refine⟨⟨_,_,hp⟩,_,_,dC c,hp,rfl,?_⟩;rw[Zm];refine⟨_,_,dC c,hp,rfl,by unfold iN;rw[ε];lia,fun ob'=>?_⟩;rw[Zl];exact s1 ob' _ lg fun b o hb e=>by
  rw[kC hb];exact hk b o hb e
def xw:eX:=fun ds G Q=>∃n:Nat,ds=[.int n]/\1≤n/\n<17/\∀(q:η) (rs:List (List ω)) (mss:List (List Int×Int)) (G':Gp),yO n rs->mss.Perm (yX (rs.map dC))->iC (mss.map aK.eP)->eQ G q (.lst (mss.map jZ)) G'->Q (.obj q) G'
def ZR:aB:=uU (ν 1) (ν 3) (aJ eo (ve (ν 1) (ν 3) (eC (.int 0))) (eC (.int 1)))
def ZQ:aB:=bj (cu (cF mS (μ (eS ["clock"] [] (fL (ν 2)) (hName 0) (cY) (aJ ff (ν 0) (eC (.int 0)))) (ab))) (hName 3)) ZR
def ZP:aB:=bY (zl (ν 1))
def ZO:aB:=bj (iV (fL (bh vN (μ (ν 0) (ab)))) (hName 2) (ZQ)) ZP
def IV:aB:=bj (cu (vf) (hName 1)) ZO
theorem IU{D3:gO}{G1:Gp}{q1 p1:η}{rs:List (List ω)}{tb:aB}{guard:Gp->Prop}(I:List (Option D)->Prop)(hg:∀G',G' q1=some (.lst (rs.map bM))->guard G')(hl:rs.length≤1000)(hne:q1≠p1)(e1:G1 q1=some (.lst (rs.map bM)))(hp:∃ob,G1 p1=some (.gen (jo (iN []) ob))){x0 x2 x3:Option D}{xs:List (Option D)}
  (turn:∀(c:List ω) (N:S3->Gp->Prop) (G':Gp) (kns:List (List Int×Int)) (ob:br) (x2 x3:Option D),c∈rs->kns.length≤999->G' p1=some (.gen (jo (iN kns) ob))->G' q1=some (.lst (rs.map bM))->(∀ob' G2 y3,G2 p1=some (.gen (jo (iN (qv kns (dC c))) ob'))->yN G' p1 G2->N (x0::some (.obj p1)::some (bM c)::y3::xs) G2) ->
   tb { D3 with nx:=N,ct:=N,bk:=D3.nx } (x0::some (.obj p1)::some (bM c)::x3::xs) G')
  (fin:∀G' kns ob y2 y3,kns=yX (rs.map dC)->(kns.map (·.1)).Nodup->kns.length≤rs.length->G' p1=some (.gen (jo (iN kns) ob))->yN G1 p1 G'->D3.nx (x0::some (.obj p1)::y2::y3::xs) G'):
  iA guard (hName 2) tb D3 (rs.map bM) (x0::some (.obj p1)::x2::x3::xs) G1:=by
 obtain⟨ob0,hp⟩:=hp;refine jE (fun ds τ G'=>∃(dn rs':List (List ω)) (kns:List (List Int×Int)) (ob:br) (y2 y3:Option D),dn++rs'=rs/\ds=rs'.map bM/\kns=yX (dn.map dC)/\(kns.map (·.1)).Nodup/\kns.length≤dn.length/\G' p1=some (.gen (jo (iN kns) ob))/\yN G1 p1 G'/\τ=x0::some (.obj p1)::y2::y3::xs) (fun _ _ _ h=>?_) ?_ ?_ _ _ _ ⟨[],rs,[],ob0,x2,x3,rfl,rfl,rfl,rh,υ _,hp,fun b o _ e=>e,rfl⟩
 ·obtain⟨_,_,_,_,_,_,_,_,_,_,_,_,k,_⟩:=h;exact hg _ (k _ _ hne e1)
 ·rintro d ds τ G2 N ⟨dn,rs',kns,ob,y2,y3,e2,e3,rfl,nd,kl,hp2,k2,rfl⟩ hN;cases rs' with
  |nil=>cases e3
  |cons c rs'=>
   cases e3;have hdl:dn.length+1≤rs.length:=by
    rw[←e2,ξ,ag];lia
   refine turn c N G2 _ ob y2 y3 (by rw[←e2];simp) (by lia) hp2 (k2 _ _ hne e1) fun ob' G3 y3' hp3 k3=>hN _ _ ⟨dn++[c],rs',_,ob',_,_,by rw[aa];exact e2,rfl,?_,ZU (dC c) nd,?_,hp3,fun b o hb e=>k3 b o hb (k2 b o hb e),rfl⟩
   ·unfold yX;rw[aW,List.foldl_append];rfl
   ·have:=ZT (yX (dn.map dC)) (dC c);rw[ξ,b6];lia
 ·rintro τ G2 ⟨dn,rs',kns,ob,y2,y3,e2,e3,rfl,nd,kl,hp2,k2,rfl⟩;have e0:rs'=[]:=by
   cases rs' with
   |nil=>rfl
   |cons z zs=>cases e3
  subst e0;rw[cV] at e2;subst e2;exact fin G2 _ ob y2 y3 rfl nd kl hp2 k2
end My
namespace My
open PySem L2 L3
theorem rA{α:Type}(l:List α):l.filter (fun _=>true)=l:=ig.mpr fun _ _=>rfl
theorem ZN:∀ds G Q,xw ds G Q->IV (bq Q) (bI ["n","counts","clocks","steps"] ds) G:=by
 rintro ds G Q ⟨n,rfl,h1,h2,q⟩;intro p1 ob G1 n1;refine⟨n,rfl,h1,h2,fun q1 rs G2 hp hr n2=>⟨_,n2.at_,?_⟩⟩;have E:yO n rs:=⟨hp,hr⟩;obtain⟨hl,hcl⟩:=IW h1 h2 E;have hp1:=n2.sub _ _ n1.at_;have hne:q1≠p1:=fun z=>by
  have:=n2.aF;rw[z,n1.at_] at this;cases this
 refine IU (x0:=some (.int (n:Nat))) (x2:=none) (x3:=none) (xs:=[]) (fun _=>True) (fun _ h=>h) hl hne n2.at_ ⟨ob,hp1⟩ ?_ ?_
 ·intro c N G' kns ob x2 x3 hc hk hpd hq hN;refine⟨by show (c.map cD).length≤ao;rw[ε];exact bQ (by have:=hcl c hc;lia),?_⟩;refine lU (fun τ=>∃x,τ=[x]) cD (fun _=>true) (fun z:ω=>D.int z.1) (G:=G') trivial c [] _ ⟨none,rfl⟩ ?_ ?_
  ·rintro z hz τ K1 K2 ⟨x,rfl⟩ g1 g2;exact⟨fun _=>⟨_,rfl,g1 rfl _ ⟨_,rfl⟩⟩,nofun⟩
  intro p3 G3 n3;have e1:([]:List D)++(c.filter fun _=>true).map (fun z:ω=>D.int z.1)=(dC c).map D.int:=by
   rw[bw,rA,aN];rfl
  rw[e1] at n3;refine⟨_,n3.at_,M7 (G0:=G') (n3.sub _ _ hpd) hk (fun b o _ e=>n3.sub _ _ e) fun ob' G4 hp4 k4=>hN ob' G4 _ hp4 k4⟩
 ·intro G' kns ob' y2 y3 ek nd kl hpd kk;have hs:Sub G G':=fun b o e=>kk b o (fun z=>by
   rw[z,n1.aF] at e;cases e) (n2.sub _ _ (n1.sub _ _ e))
  refine⟨kns,ob',hpd,by lia,fun q5 mss G5 n5 hpm hrm=>dQ (q q5 rs mss G5 E (by rw[←ek];exact hpm) hrm ⟨?_,hs.trans n5.sub,n5.at_⟩)⟩;cases e:G q5 with
  |none=>rfl
  |some o=>
   have:=n5.aF;rw[hs _ _ e] at this;cases this
def mJ(p:List Int×Int):Dat.D:=.tup [tX p.1,.int p.2]
theorem ZM(p:List Int×Int):gG (jZ p)=some (mJ p):=by
 have h:gG (tupI p.1)=some (tX p.1):=AU (G:=fun _=>none) p.1;show gG (.tup [tupI p.1,.int p.2])=_;rw[gG,dY,dY,dY,h];rfl
theorem DN:∀ms:List (List Int×Int),dY (ms.map jZ)=some (ms.map mJ)
 |[]=>rfl
 |p::ms=>by
  show (match gG (jZ p) with
   |some x=>match dY (ms.map jZ) with
    |some xs=>some (x::xs)
    |none=>none
   | none=>none)=_
  rw[DN ms,ZM];rfl
theorem ZL(p:List Int×Int):(mJ p).j8≤2:=by
 show max (Dat.fH (p.1.map Dat.D.int)+1) (max 0 0)+1≤2;rw[Ea];decide
theorem IT:∀ms:List (List Int×Int),Dat.fH (ms.map mJ)≤2
 |[]=>aQ _
 |p::ms=>by
  show max (mJ p).j8 (Dat.fH (ms.map mJ))≤2;have h1:=ZL p;have:=IT ms;lia
theorem DM:∀ns:List Int,Dat.iZ (ns.map Dat.D.int) (ns.map Dat.D.int)=true
 |[]=>rfl
 |n::ns=>by
  show ((n==n)&&Dat.iZ (ns.map Dat.D.int) (ns.map Dat.D.int))=true;rw[DM ns,beq_self_eq_true];rfl
theorem IS:∀ms:List (List Int×Int),Dat.iZ (ms.map mJ) (ms.map mJ)=true
 |[]=>rfl
 |p::ms=>by
  show ((mJ p).dS (mJ p)&&Dat.iZ (ms.map mJ) (ms.map mJ))=true;have h:(mJ p).dS (mJ p)=true:=by
   show (Dat.iZ (p.1.map Dat.D.int) (p.1.map Dat.D.int)&&((p.2==p.2)&&true))=true;rw[DM,beq_self_eq_true];rfl
  rw[h,IS ms];rfl
theorem Y9{as bs kns:List (List Int×Int)}(h1:as.Perm kns)(h2:bs.Perm kns)(r1:iC (as.map aK.eP))(r2:iC (bs.map aK.eP)):as=bs:=by
 have:=EA ((h1.trans h2.symm).map aK.eP) r1 r2;exact nE (fun a b e=>aK.M1 e) |>.mp this
def xu:eX:=fun ds G Q=>∃n:Nat,ds=[.int n]/\1≤n/\n<17/\∀G',Sub G G'->Q (.bl true) G'
def Y8:aB:=uU (ν 1) (ν 3) (aJ eo (ve (ν 1) (ν 3) (eC (.int 0))) (eC (.int 1)))
def Y7:aB:=bj (cu (cF mS (μ (eS ["step","rest"] [] (fL (ν 2)) (j4 2 (dE (hName 0) (dE (hName 1) (j6)))) (cY) (ν 0)) (ab))) (hName 3)) Y8
def Y6:aB:=uT (eM Lp (ν 5) (μ (eC (.int 0)) (ab)))
def Y5:aB:=bj (g0 (o9 (bJ (cF yn (μ (eS ["one"] [] (fL (ν 5)) (hName 0) (cY) (rW (rV "tuple" (ν 0)) (bh vV (μ (aJ ff (ν 0) (eC (.int 1))) (ab))))) (ab))))) (bY (eC (.bl false))) (dN)) Y6
def Y4:aB:=bj (g0 (tf (o9 (bJ (rV "list" (ν 5)))) (bJ (aJ (fg true) (ν 5) (cF DO (μ (eS ["steps"] [1] (Be (ν 1)) (hName 0) (cY) (dw (μ (ν 0) (μ (aJ wR (ν 1) (ν 0)) (ab))))) (ab)))))) (bY (eC (.bl false))) (dN)) Y5
def IQ:aB:=bj (cu (bh xw (μ (ν 0) (ab))) (hName 5)) Y4
def Y3:aB:=bY (eC (.bl true))
def Y2:aB:=bj (iV (mf (μ (eC (.int 2)) (ab))) (hName 4) (IQ)) Y3
def Y1:aB:=bj (iV (fL (bh vN (μ (ν 0) (ab)))) (hName 2) (Y7)) Y2
def IP:aB:=bj (cu (vf) (hName 1)) Y1
theorem Y0{D3:gO}{G:Gp}{n:Nat}{p1:η}{rs:List (List ω)}{kns:List (List Int×Int)}{ob:br}{x2 x3 x4 x5:Option D}(h1:1≤n)(h2:n<17)(E:yO n rs)(ek:kns=yX (rs.map dC))(nd:(kns.map (·.1)).Nodup)(kl:kns.length≤1000)(hp:G p1=some (.gen (jo (iN kns) ob)))
  (k:∀G' y5,Sub G G'->D3.nx [some (.int (n:Nat)),some (.obj p1),x2,x3,x4,y5] G'):IQ D3 [some (.int (n:Nat)),some (.obj p1),x2,x3,x4,x5] G:=by
 refine⟨n,rfl,h1,h2,fun q3 rs3 mss G3 E3 hpm hrm n3=>?_⟩;have er:rs3=rs:=ZS E3 E;subst er;rw[←ek] at hpm;have hml:mss.length≤1000:=by rw[hpm.length_eq];exact kl
 show match me "list" G3 (.obj q3) with
  |some b=>_
  |none=>False
 have ei:me "list" G3 (.obj q3)=some true:=by
  simp only[me,n3.at_];rfl
 rw[ei];refine⟨nofun,fun _=>?_⟩;have hp3:=n3.sub _ _ hp;refine⟨_,_,hp3,?_,?_⟩
 ·unfold iN;rw[ε,ε];exact bQ kl
 rw[show (iN kns).map (fun q:KD=>tupI q.1)=kns.map fun p=>tupI p.1 by unfold iN;rw[aN];rfl];refine lU (fun τ=>∃x,τ=[x,some (.obj p1)]) (fun p:List Int×Int=>tupI p.1) (fun _=>true) (fun p=>jZ p) (G:=G3) hp3 kns [] _ ⟨none,rfl⟩ ?_ ?_
 ·rintro p hm τ K1 K2 ⟨x,rfl⟩ g1 g2;exact⟨fun _=>⟨_,_,p.1,.int p.2,hp3,rfl,IX nd p hm,g1 rfl _ ⟨_,rfl⟩⟩,nofun⟩
 intro p6 G6 n6;rw[bw,rA] at n6;refine⟨kns,n6.at_,kl,fun p7 mss2 G7 n7 hp7 hr7=>?_⟩;have em:mss2=mss:=Y9 hp7 hpm hr7 hrm;subst em;have h3:=(n6.sub.trans n7.sub) _ _ n3.at_;refine⟨_,_,An h3 (DN mss2),An n7.at_ (DN mss2),?_,fun g=>?_,fun _=>?_⟩
 ·show Dat.fH _+1≤50;have:=IT mss2;lia
 ·have g':(!((Dat.D.lst (mss2.map mJ)).dS (.lst (mss2.map mJ))))=true:=g;have:(Dat.D.lst (mss2.map mJ)).dS (.lst (mss2.map mJ))=true:=IS mss2;rw[this] at g';cases g'
 refine⟨_,h3,by rw[ε];exact bQ hml,?_⟩;refine lU (fun τ=>∃x,τ=[x]) jZ (fun _=>true) (fun _=>.bl true) (G:=G7) h3 mss2 [] _ ⟨none,rfl⟩ ?_ ?_
 ·rintro p hm τ K1 K2 ⟨x,rfl⟩ g1 g2;exact⟨fun _=>⟨fun _=>⟨_,rfl,trivial,g1 rfl _ ⟨_,rfl⟩⟩,nofun⟩,nofun⟩
 intro p8 G8 n8;rw[bw,rA] at n8;refine⟨_,_,n8.at_,Ef (fun _=>true) _,?_⟩;have ea:(mss2.map fun _=>true).all id=true:=by simp
 rw[ea];refine⟨nofun,fun _=>?_⟩;have h8:=n8.sub _ _ h3;refine⟨⟨q3,_,rfl,h8⟩,_,h8,?_,k _ _ (Sub.xb (((n3.sub.trans n6.sub).trans n7.sub).trans n8.sub) n3.aF)⟩;rw[ε];exact eG hml (by decide)
theorem YZ:∀ds G Q,xu ds G Q->IP (bq Q) (bI ["n","due","clocks","steps","turn","found"] ds) G:=by
 rintro ds G Q ⟨n,rfl,h1,h2,q⟩;intro p1 ob G1 n1;refine⟨n,rfl,h1,h2,fun q1 rs G2 hp hr n2=>⟨_,n2.at_,?_⟩⟩;have E:yO n rs:=⟨hp,hr⟩;obtain⟨hl,hcl⟩:=IW h1 h2 E;have hp1:=n2.sub _ _ n1.at_;have hne:q1≠p1:=fun z=>by
  have:=n2.aF;rw[z,n1.at_] at this;cases this
 refine IU (x0:=some (.int (n:Nat))) (x2:=none) (x3:=none) (xs:=[none,none]) (fun _=>True) (fun _ h=>h) hl hne n2.at_ ⟨ob,hp1⟩ ?_ ?_
 ·intro c N G' kns ob x2 x3 hc hk hpd hq hN;refine⟨by show (c.map cD).length≤ao;rw[ε];exact bQ (by have:=hcl c hc;lia),?_⟩;refine lU (fun τ=>∃x y,τ=[x,y]) cD (fun _=>true) (fun z:ω=>D.int z.1) (G:=G') trivial c [] _ ⟨none,none,rfl⟩ ?_ ?_
  ·rintro z hz τ K1 K2 ⟨x,y,rfl⟩ g1 g2;exact⟨rfl,fun _=>g1 rfl _ ⟨_,_,rfl⟩,nofun⟩
  intro p3 G3 n3;have e1:([]:List D)++(c.filter fun _=>true).map (fun z:ω=>D.int z.1)=(dC c).map D.int:=by
   rw[bw,rA,aN];rfl
  rw[e1] at n3;refine⟨_,n3.at_,M7 (G0:=G') (n3.sub _ _ hpd) hk (fun b o _ e=>n3.sub _ _ e) fun ob' G4 hp4 k4=>hN ob' G4 _ hp4 k4⟩
 ·intro GA kns ob' y2 y3 ek nd kl hpd kk;have hs:Sub G GA:=fun b o e=>kk b o (fun z=>by
   rw[z,n1.aF] at e;cases e) (n2.sub _ _ (n1.sub _ _ e))
  refine⟨⟨by decide,by decide⟩,?_⟩;refine jE (fun ds τ G'=>Sub GA G'/\∃y4 y5,τ=[some (.int (n:Nat)),some (.obj p1),y2,y3,y4,y5]) (fun _ _ _ h=>trivial) ?_ ?_ _ _ _ ⟨Sub.refl _,_,_,rfl⟩
  ·rintro d ds τ G5 N ⟨s5,y4,y5,rfl⟩ hN;exact Y0 h1 h2 E ek nd (by lia) (s5 _ _ hpd) fun G6 y5' s6=>hN _ _ ⟨s5.trans s6,_,_,rfl⟩
  ·rintro τ G5 ⟨s5,y4,y5,rfl⟩;exact dQ (q G5 (hs.trans s5))
end My
namespace L3
open PySem PySem.Spec PyProof.Rows L2
def Ot(n:Int):δ->Bool
 |.int i _=>i==n
 |_=>false
theorem IM:∀{ns:List Int} {its:List δ},bo (ns.map V.int) its->∀y∈its,∃i t,y=eF i t
 |[],_,h,y,hy=>by
  rw[h.zero] at hy;cases hy
 |n::ns,_,h,y,hy=>by
  cases h with
  |cons r1 r2=>
   rcases ay.mp hy with rfl|hy
   ·obtain⟨t,e⟩:=r1;exact⟨n,t,e⟩
   ·exact IM r2 y hy
theorem IL(n:Int):∀{ns:List Int} {its:List δ},bo (ns.map V.int) its->its.countP (Ot n)=ns.countP (· == n)
 |[],_,h=>by rw[h.zero];rfl
 |m::ns,_,h=>by
  cases h with
  |cons r1 r2=>
   obtain⟨t,e⟩:=r1;rw[e,List.countP_cons,List.countP_cons,IL n r2];rfl
def zd:V->List V->Hp->VK->Prop:=fun x vs H Q=>∃(l:η) (ns:List Int) (n:Int),x=.ref l/\vs=[.int n]/\H l=some (.lst (ns.map V.int))/\Q (.int ((ns.countP (· == n):Nat):Int)) H
section
variable {X:Cx}
theorem YY:GL X "list.count" zd:=by
 intro pins s σ H x vs v us Q I rx rv h;obtain⟨l,ns,n,rfl,rfl,hH,q⟩:=h;cases rx;obtain⟨u,rfl,ru⟩:=rv.one;obtain⟨t,rfl⟩:=ru;obtain⟨z,its,cap,r,hl,e⟩:=I.sX hH;refine mq F.slot_list_count ⟨_,e,rfl⟩ F.entry_list_count (F.args_list_count_2 _ _) (SeqAt.list_countAt l its.toArray cap none #[] (.int n t) (Ot n)) ⟨e,fun y hy=>?_,?_⟩
 ·obtain⟨i,u,rfl⟩:=IM r y (mH.mpr hy);exact tu (A:=X.A.in1) (s:=s) i u n t
 ·refine⟨.int ((ns.countP (· == n):Nat):Int),H,I.tok _,⟨s.toks,?_⟩,q⟩;rw[show its.toArray.toList=its from rfl,IL n r]
end
section
variable {K:PySem.W.Frag}
def DL:D->List D->Gp->V3->Prop:=fun x ds G Q=>match x,ds with
 |.obj p,[.int n]=>∃xs ns,G p=some (.lst xs)/\intsOf xs=some ns/\Q (.int ((ns.countP (· == n):Nat):Int)) G
 |_,_=>False
theorem YX:uJ K DL zd:=fun x vx ds vs G H Q3 Q hx hs RG q k=>by
 unfold DL at q;split at q
 ·rename_i p n;obtain⟨xs,ns,e1,e2,q⟩:=q;obtain⟨ys,e3,hv⟩:=RG p _ e1;obtain⟨v,r,rfl,hv1,hv2⟩:=hs.inv;rw[hv2.iJ,iX hv1,ij hx];exact⟨p,ns,n,rfl,rfl,by rw[e3,lR hv e2],k _ H (.int _) G lZ (.refl H G) RG q⟩
 ·exact q.elim
end
end L3
namespace My
open PySem L2 L3
structure Made(cs:List ω):Prop where
 v:∀c∈cs,Valid c
 n:∃N:Nat,0<N/\N≤2^(cs.length-1)/\∀c∈cs,c.1.toNat∣N
 once:lp cs
 top:cs=[(1,0)]∨∃M:Int,(∀c∈cs,c.1≤M)/\2≤(cs.filter fun c=>c.1==M).length
theorem Made.perm{cs cs':List ω}(h:Made cs)(p:cs.Perm cs'):Made cs':=by
 refine⟨fun c hc=>h.v c (p.mem_iff.mpr hc),?_,fun n=>?_,?_⟩
 ·obtain⟨N,h1,h2,h3⟩:=h.n;exact⟨N,h1,by rw[←p.length_eq];exact h2,fun c hc=>h3 c (p.mem_iff.mpr hc)⟩
 ·rw[←(p.filter _).length_eq];exact h.once n
 ·rcases h.top with e|⟨M,h1,h2⟩
  ·rw[e] at p;exact .inl (List.singleton_perm.mp p).symm
  ·exact .inr ⟨M,fun c hc=>h1 c (p.mem_iff.mpr hc),by rw[←(p.filter _).length_eq];exact h2⟩
theorem YW{k t0:Nat}(h:t0<k){p:Nat->Bool}(hp:∀t,t<k->(p t=true↔t=t0)):((av k).filter p).length=1:=by
 have e:(av k).filter p=(av k).filter (· == t0):=kK fun t ht=>by
  rw[dI,hp t (cm.mp ht),beq_iff_eq]
 rw[e,←m7];show (av k).count t0=1;have h1:0<(av k).count t0:=List.count_pos_iff.mpr (cm.mpr h);have h2:=se.mp (pI (n:=k)) t0;lia
theorem YV{k:Nat}(hk:0<k):lp (parts (1,0) k):=fun n=>by
 unfold parts;rw[qf,ε];have k0:(0:Int)<(k:Int):=by lia
 have m0:=fc n (show (k:Int)≠0 by lia);have m1:=dM n k0;refine YW (t0:=(n%(k:Int)).toNat) (by lia) fun t ht=>?_;show ((n-(0+1*(t:Int)))%(1*(k:Int))==0)=true↔_;rw[pL,qK,qK,beq_iff_eq,←gp,iT (show (0:Int)≤(t:Int) by lia) (by lia)];lia
theorem YU(c:ω)(k:Nat):(parts (1,0) k).map (xh c)=parts c k:=by
 unfold parts;rw[aN];refine b9 fun t _=>?_;show (c.1*(1*(k:Int)),c.2+c.1*(0+1*(t:Int)))=_;rw[qK,qK,pL]
theorem Made.split{cs:List ω}{i k:Nat}{c:ω}(h:Made cs)(hi:cs[i]?=some c)(k2:2≤k):Made (cs.eraseIdx i++parts c k):=by
 have hm:=bG hi;have vc:=h.v c hm;have il:i<cs.length:=(Φ.mp hi).1;have le:(cs.eraseIdx i).length=cs.length-1:=nV il;refine⟨fun z hz=>?_,?_,fun n=>?_,.inr ?_⟩
 ·rcases ar.mp hz with z1|z1
  ·exact h.v z (g9 z1)
  ·exact (Ed vc z1).1
 ·obtain⟨N,h1,h2,h3⟩:=h.n;refine⟨N*k,qC h1 (by lia),?_,fun z hz=>?_⟩
  ·rw[ξ,le,Ah,show cs.length-1+k-1=(cs.length-1)+(k-1) by lia,Nat.pow_add];have:k-1<2^(k-1):=Nat.lt_two_pow_self;exact Nat.mul_le_mul h2 (by lia)
  ·rcases ar.mp hz with z1|z1
   ·exact sq (h3 z (g9 z1)) (kG _ _)
   ·rw[(Ed vc z1).2,Int.toNat_mul (by have:=vc.1;lia) (by lia),bz];exact Nat.mul_dvd_mul_right (h3 c hm) k
 ·rw[lO,←YU];have:=Qv vc.1 hi (YV (show 0<k by lia)) n;rw[h.once n] at this;exact this
 ·have pe:∀z∈parts c k,z.1=c.1*(k:Int):=fun z hz=>(Ed vc hz).2;have gt:c.1<c.1*(k:Int):=by
   have h0:=vc.1;have:c.1*2≤c.1*(k:Int):=mI (by lia) (by lia);lia
  have pl:((parts c k).filter fun z=>z.1==c.1*(k:Int)).length=k:=by
   rw[ig.mpr fun z hz=>by rw[pe z hz];exact beq_self_eq_true _,Ah]
  rcases h.top with e|⟨M,h1,h2⟩
  ·rw[e] at hi il;have i0:i=0:=by simpa using il
   rw[e,i0];refine⟨c.1*(k:Int),fun z hz=>?_,?_⟩
   ·have hz:z∈parts c k:=by simpa using hz
    rw[pe z hz];exact Int.le_refl _
   ·show 2≤((parts c k).filter fun z=>z.1==c.1*(k:Int)).length;lia
  ·rcases Int.le_total M (c.1*(k:Int)) with w|w
   ·refine⟨c.1*(k:Int),fun z hz=>?_,?_⟩
    ·rcases ar.mp hz with z1|z1
     ·exact Int.le_trans (h1 z (g9 z1)) w
     ·rw[pe z z1];exact Int.le_refl _
    ·rw[fG,ξ,pl];lia
   ·refine⟨M,fun z hz=>?_,?_⟩
    ·rcases ar.mp hz with z1|z1
     ·exact h1 z (g9 z1)
     ·rw[pe z z1];exact w
    ·rw[fG,ξ];have hne:(c.1==M)=false:=by
      rw[beq_eq_false_iff_ne];lia
     have:((cs.eraseIdx i).filter fun z=>z.1==M).length=(cs.filter fun z=>z.1==M).length:=by
      have e1:cs=cs.take i++c::cs.drop (i+1):=by
       rw[←(Φ.mp hi).2,←cO il,bC]
      conv=>rhs;rw[e1]
      rw[lO,fG,fG,lB,hne];rfl
     lia
theorem Made.le{cs:List ω}{c:ω}{j:Nat}(h:Made cs)(hl:cs.length≤j+1)(hc:c∈cs):c.1≤((2^j:Nat):Int):=by
 obtain⟨N,h1,h2,h3⟩:=h.n;have:=fU h1 (h3 c hc);have h4:2^(cs.length-1)≤2^j:=gR (by decide) (by lia);have h0:=(h.v c hc).1;lia
theorem YT:Made [(1,0)]:=by
 refine⟨fun c hc=>?_,⟨1,by decide,by decide,fun c hc=>?_⟩,fun n=>?_,.inl rfl⟩
 ·simp at hc;subst hc;exact⟨by decide,by decide,by decide⟩
 ·simp at hc;subst hc;exact Nat.dvd_refl 1
 ·have:eD n (1,0)=true:=by
   show ((n-0)%1==0)=true;rw[Int.emod_one];rfl
  rw[lB,if_pos this];rfl
def xt:eX:=fun ds G Q=>∃(p:η) (l m:Int),ds=[.obj p,.int l,.int m]/\G p=some .o4/\(l≤m/\1≤m/\m≤9)/\∀q cs G',Made cs->uI cs->l≤(cs.length:Int)->(cs.length:Int)≤m->1≤cs.length->eQ G q (.lst (cs.map cD)) G'->Q (.obj q) G'
abbrev IK:=Sh
def qw(G:Gp)(p:η)(l m:Int)(k:Nat):S3->Gp->Prop:=fun τ' G'=>∃m',m' < k/\∃q cs x4 x5 x6,τ'=[some (.obj p),some (.int l),some (.int m),some (.obj q),x4,x5,x6]/\eQ G q (.lst (cs.map cD)) G'/\Made cs/\1≤cs.length/\(cs.length:Int)≤m/\(m':Int)+cs.length=m
theorem YS{G G1:Gp}{D3:gO}{p:η}{l m:Int}{q1:η}{cs:List ω}{x5 x6:Option D}{k:Nat}{k1:Int}(hp:G p=some .o4)(hm:m≤9)
  (n1:eQ G q1 (.lst (cs.map cD)) G1) (ok:Made cs) (l1:1≤cs.length) (l2:(cs.length:Int)<m) (hk:(k:Int)+cs.length=m) (h1:2≤k1) (h2:k1≤5) (h3:(cs.length:Int)-1+k1≤m)
  (hnx:D3.nx=qw G p l m k):KJ D3 [some (.obj p),some (.int l),some (.int m),some (.obj q1),some (.int k1),x5,x6] G1:=by
 have hp1:=n1.sub p _ hp;have e1:=n1.at_;refine⟨⟨q1,_,rfl,e1⟩,_,e1,p,_,rfl,hp1,⟨by rw[ε];lia,lV (by rw[ε];lia) (by rw[ε];lia)⟩,fun r a b=>?_⟩;rw[ε] at b;obtain⟨c,ec,hc,_⟩:=KQ cD a b;obtain⟨s,r'⟩:=c;refine⟨_,r.toNat,cD (s,r'),e1,⟨by lia,by lia⟩,by rw[ε];exact Sq a b,by rw[az,ec];rfl,rfl,?_⟩;rw[KL];have n2:eQ G q1 (.lst ((cs.eraseIdx r.toNat).map cD)) (eu G1 q1 (.lst ((cs.eraseIdx r.toNat).map cD))):=wrote n1;generalize eu G1 q1 (.lst ((cs.eraseIdx r.toNat).map cD))=G2 at n2;have hv:=ok.v _ hc;have hs:s≤((2^7:Nat):Int):=ok.le (j:=7) (by lia) hc;have hs:s≤128:=hs;have hv1:0<s:=hv.1;have hlen:(cs.eraseIdx r.toNat).length=cs.length-1:=nV (by lia);have hmul:s*k1≤640:=by
  have h4:s*k1≤128*k1:=Int.mul_le_mul_of_nonneg_right hs (by lia);lia
 refine⟨⟨lV (by lia) (by lia),lV (by lia) (by lia)⟩,fun hg=>?_,fun hg=>?_⟩
 ·have hg':1000<s*k1:=of_decide_eq_true hg;lia
 ·refine⟨⟨by lia,by lia⟩,?_,?_⟩
  ·show (iI 0 k1.toNat).length≤ao;rw[ya];exact bQ (by lia)
  refine lU (fun τ=>∃x,τ=[x,some (.int s),some (.int k1),some (.int r')]) (fun i:Nat=>D.int (0+(i:Int))) (fun _=>true) (fun i:Nat=>cD (s*k1,r'+s*(0+(i:Int)))) trivial (av k1.toNat) [] _ ⟨none,rfl⟩ ?_ ?_
  ·rintro i hi τ K1 K2 ⟨x,rfl⟩ g1 g2;have hi':(i:Int)<k1:=by have:=cm.mp hi;lia
   have b1:jM s:=lV (by lia) (by lia);refine⟨fun _=>⟨⟨b1,lV (by lia) (by lia)⟩,⟨b1,lV (by lia) (by lia)⟩,?_⟩,nofun⟩;exact g1 rfl _ ⟨_,rfl⟩
  ·intro q3 G3 n3;rw[bw,ig.mpr (fun _ _=>rfl)] at n3;have em:((av k1.toNat).map fun i:Nat=>cD (s*k1,r'+s*(0+(i:Int))))=(parts (s,r') k1.toNat).map cD:=by
    unfold parts;rw[aN];refine b9 fun i _=>?_;show cD (s*k1,r'+s*(0+(i:Int)))=cD (s*((k1.toNat:Nat):Int),r'+s*(i:Int));rw[pL,ba (by lia)]
   rw[em] at n3;refine⟨_,_,n3.sub _ _ n2.at_,n3.at_,?_,fun q4 G4 n4=>?_⟩
   ·rw[ε,ε,Ah,hlen];exact bQ (by lia)
   rw[←aW] at n4;show D3.nx _ G4;rw[hnx];have s3:=n2.sub.trans n3.sub;have hl':((cs.eraseIdx r.toNat)++parts (s,r') k1.toNat).length=cs.length-1+k1.toNat:=by
    rw[ξ,hlen,Ah]
   exact⟨(m-((cs.length:Int)-1+k1)).toNat,by lia,q4,_,_,_,_,rfl,⟨s3.of_none n4.aF,s3.trans n4.sub,n4.at_⟩,ok.split ec (by lia),by lia,by lia,by lia⟩
theorem YR:∀ds G Q,xt ds G Q->IK (bq Q) (bI ["pen","least","most","clocks","k","step","rest"] ds) G:=by
 rintro ds G Q ⟨p,l,m,rfl,hp,hm,q⟩;intro q0 G0 n0;refine⟨fun k τ G'=>∃q cs x4 x5 x6,τ=[some (.obj p),some (.int l),some (.int m),some (.obj q),x4,x5,x6]/\eQ G q (.lst (cs.map cD)) G'/\Made cs/\1≤cs.length/\(cs.length:Int)≤m/\(k:Int)+cs.length=m,⟨(m-1).toNat,q0,[(1,0)],_,_,_,rfl,n0,YT,by decide,by simp;lia,by simp;lia⟩,?_⟩;rintro k τ G1 ⟨q1,cs,x4,x5,x6,rfl,n1,ok,l1,l2,hk⟩;have hp1:=n1.sub p _ hp;have e1:=n1.at_;have stop:l≤(cs.length:Int)->Eg (bq Q) [some (.obj p),some (.int l),some (.int m),some (.obj q1),x4,x5,x6] G1:=fun hl=>by
  refine⟨_,Sr n1.at_,by rw[ε];lia,KN,fun p2 mss G2 hp2 hpm hr=>?_⟩;obtain⟨cs',rfl,_⟩:=Sn hpm;rw[Ak] at hp2;have hp':cs'.Perm cs:=by
   have back:∀us:List ω,(us.map fx).map (fun l=>((l.getD 0 0,l.getD 1 0):ω))=us:=fun us=>by
    rw[aN];exact ue _
   have:=hpm.map (fun l:List Int=>((l.getD 0 0,l.getD 1 0):ω));rwa [back,back] at this
  exact dQ (q p2 cs' _ (ok.perm hp'.symm) (RF hr (bN.mpr ((ok.perm hp'.symm).once.nodup.imp fun h e=>h (KO e)))) (by rw[hp'.length_eq];exact hl) (by rw[hp'.length_eq];exact l2) (by rw[hp'.length_eq];exact l1) ⟨n1.sub.of_none hp2.aF,n1.sub.trans hp2.sub,hp2.at_⟩)
 have go:(cs.length:Int)<m->KI { bq Q with nx:=qw G p l m k,ct:=qw G p l m k,bk:=Eg (bq Q)} [some (.obj p),some (.int l),some (.int m),some (.obj q1),x4,x5,x6] G1:=by
  intro hlt;refine⟨p,6,rfl,hp1,⟨by decide,lV (by decide) (by decide)⟩,fun r h1 h2=>?_⟩;obtain⟨k0,hk0,ek⟩:=RH (ns:=[2,2,3,2,3,5]) h1 h2;refine⟨.int k0,ek,_,e1,?_⟩;have hk2:2≤k0/\k0≤5:=by simp at hk0;lia
  refine YS hp (by lia) n1 ok l1 hlt hk ?_ ?_ ?_ rfl
  ·rw[ε];split<;>split<;>lia
  ·rw[ε];split<;>split<;>lia
  ·rw[ε];split<;>split<;>lia
 have hll:((cs.map cD).length:Int)=(cs.length:Int):=by rw[ε]
 refine⟨_,e1,fun h=>⟨fun _=>go ?_,nofun⟩,fun h=>⟨p,4,rfl,hp1,⟨by decide,lV (by decide) (by decide)⟩,fun r a b=>⟨fun h2=>⟨_,e1,fun h3=>go ?_,fun h3=>stop ?_⟩,fun h2=>⟨nofun,fun _=>stop ?_⟩⟩⟩⟩
 ·have h':((cs.map cD).length:Int)<l:=of_decide_eq_true h;lia
 ·have h':((cs.map cD).length:Int)<m:=of_decide_eq_true h3;lia
 ·have h':¬((cs.map cD).length:Int)<l:=of_decide_eq_false h;lia
 ·have h':¬((cs.map cD).length:Int)<l:=of_decide_eq_false h;lia
end My
namespace My
open PySem L2 L3
theorem YQ{cs:List ω}(h:∀c∈cs,Valid c)(ho:lp cs):dR cs (cw cs)=cw cs:=by
 have hp:=Ee fun z hz=>(h z hz).1;rw[←xN hp (cs:=cs) fun c hc=>⟨h c hc,Ki hc⟩];have e:(av (cw cs)).map (gu cs)=bF (cw cs) 1:=rj.mpr ⟨by rw[ε,cn],fun b hb=>by
  obtain⟨x,hx,rfl⟩:=aE.mp hb;unfold gu;rw[←ho (x:Int)];exact congrArg bR (kK fun c hc=>(uv (h c hc) _).symm)⟩
 rw[e,qH,Nat.mul_one]
theorem IJ(cs:List ω)(R:Nat)(h:∀c∈cs,0<c.1):(cs.map fun c=>((R:Nat):Int) / c.1).sum=((dR cs R:Nat):Int):=by
 induction cs with
 |nil=>rfl
 |cons c cs ih=>
  have hc:=h c ο;unfold dR at ih ⊢;rw[aZ,aZ,cH,cH,ih fun d hd=>h d (χ _ hd),jR,eK,ba (by lia)]
theorem II{guard:Gp->Prop}{D3:gO}{G:Gp}{cs:List ω}{x0 x2 x3:Option D}(hg:guard G)(ok:mm 1000 cs)(hl:cs.length≤12)(fin:∀y2 y3,D3.nx [x0,some (.int (cw cs:Nat)),y2,y3] G):
  iA guard (j4 2 (dE (hName 2) (dE (hName 3) j6))) KC D3 (cs.map cD) [x0,some (.int 1),x2,x3] G:=by
 refine jE (fun ds τ G'=>G'=G/\∃(zs:List ω) (a:Nat) (x2 x3:Option D),ds=zs.map cD/\τ=[x0,some (.int a),x2,x3]/\mm 1000 zs/\0<a/\a*1000^zs.length≤1000^12/\nI zs a=cw cs) (fun _ _ _ h=>by rw[h.1];exact hg) ?_ ?_ _ _ _ ⟨rfl,cs,1,x2,x3,rfl,rfl,ok,by decide,by rw[qB];exact gR (by decide) hl,rfl⟩
 ·rintro d ds τ G' N ⟨rfl,zs,a,x2,x3,e,rfl,okz,ha,hb,hr⟩ hN;cases zs with
  |nil=>cases e
  |cons z zs=>
   cases e;obtain⟨s,r⟩:=z;obtain⟨v,hs⟩:=okz _ ο;have hs1:0<s:=v.1;have hs2:s≤1000:=hs;obtain⟨n,rfl⟩:∃n:Nat,s=(n:Int):=⟨s.toNat,by lia⟩;have hg:0<bE a n:=fY _ ha;have hga:bE a n≤a:=fU ha (g7 _ _);have ha12:a≤1000^12:=aD (pO _ (Nat.pow_pos (by decide))) hb;have hbig:∀k:Nat,k≤1000^12->jM (k:Int):=fun k hk=>Ai (eG hk (by decide));refine⟨rfl,a,n,rfl,⟨by lia,hbig _ (aD hga ha12)⟩,⟨?_,hbig _ (aD (show n≤1000 by lia) (by decide))⟩,?_⟩
   ·rw[←eK];exact hbig _ (aD (Nat.div_le_self _ _) ha12)
   have el:a / bE a n*n=fE a n:=by
    unfold fE;rw[dW a n,Nat.mul_div_assoc n (g7 a n),dW]
   refine hN _ _ ⟨rfl,zs,fE a n,some (.int n),some (.int r),rfl,?_,fun c hc=>okz c (χ _ hc),qE ha (by lia),?_,hr⟩
   ·show [x0,some (D.int ((a:Int) / (bE a n:Nat)*(n:Int))),_,_]=_;rw[←eK,←jQ,el]
   ·refine aD ?_ hb;rw[ag,mw,dW (1000^zs.length) 1000,←nT];refine fO _ ?_;have:fE a n≤a*n:=fU (qC ha (by lia)) (qF (kG _ _) (pG _ _));exact aD this (mL _ (by lia))
 ·rintro τ G' ⟨rfl,zs,a,x2,x3,e,rfl,okz,ha,hb,hr⟩;cases zs with
  |cons z zs=>cases e
  |nil=>
   have hr:a=cw cs:=hr;rw[hr];exact fin _ _
def vM:eX:=fun ds G Q=>∃(d:D) (cs:List ω),ds=[d]/\Fn G d cs/\mm 1000 cs/\cs.length≤12/\Q (.int (cw cs:Nat)) G
abbrev IH:=Rp
theorem YO:∀ds G Q,vM ds G Q->IH (bq Q) (bI ["clocks","found","step","rest"] ds) G:=by
 rintro ds G Q ⟨d,cs,rfl,hd,ok,hl,q⟩;rcases hd with rfl|⟨a,rfl,ha⟩
 ·exact II (guard:=fun _=>True) trivial ok hl fun y2 y3=>dQ q
 ·exact⟨_,ha,II (guard:=fun G=>G a=some (.lst (cs.map cD))) ha ok hl fun y2 y3=>dQ q⟩
def xq:eX:=fun ds G Q=>∃cs:List ω,ds=[bM cs]/\mm 1000 cs/\cs.length≤12/\lp cs/\cs.Pairwise Ap/\∀G',Sub G G'->Q (.bl true) G'
def YN:aB:=g0 (bJ (aJ (fg false) (aJ jm (aJ tL (aJ ff (aJ ff (ν 0) (ν 2)) (eC (.int 1))) (aJ ff (aJ ff (ν 0) (ν 3)) (eC (.int 1)))) (ν 4)) (eC (.int 0)))) (bY (eC (.bl false))) (dN)
def IG:aB:=bj (cu (bh uu (μ (aJ ff (aJ ff (ν 0) (ν 2)) (eC (.int 0))) (μ (aJ ff (aJ ff (ν 0) (ν 3)) (eC (.int 0))) (ab)))) (hName 4)) YN
def YM:aB:=iV (mf (μ (ν 2) (ab))) (hName 3) (IG)
def YL:aB:=bY (eC (.bl true))
def YK:aB:=bj (iV (mf (μ (cF jU (μ (ν 0) (ab))) (ab))) (hName 2) (YM)) YL
def YJ:aB:=bj (g0 (bJ (aJ (fg true) (cF v8 (μ (eS ["step","rest"] [1] (fL (ν 0)) (j4 2 (dE (hName 0) (dE (hName 1) (j6)))) (cY) (aJ m8 (ν 2) (ν 0))) (ab))) (ν 1))) (bY (eC (.bl false))) (dN)) YK
def IF:aB:=bj (cu (bh vM (μ (ν 0) (ab))) (hName 1)) YJ
theorem Zj{D3:gO}{G:Gp}{cs:List ω}{i j:Nat}{x1 x4:Option D}(ok:mm 1000 cs)(hl:cs.length≤12)(ha:cs.Pairwise Ap)(hi:i<cs.length)(hj:j<i)(k:∀y4,D3.nx [some (bM cs),x1,some (nD i),some (nD j),y4] G):IG D3 [some (bM cs),x1,some (nD i),some (nD j),x4] G:=by
 have ei:cs[i]?=some cs[i]:=Θ hi;have ej:cs[j]?=some (cs[j]'(by lia)):=Θ (by lia);obtain⟨vi,_⟩:=ok cs[i] (eH hi);obtain⟨vj,_⟩:=ok (cs[j]'(by lia)) (eH (by lia));have hap:Ap (cs[j]'(by lia)) cs[i]:=cM.mp ha j i (by lia) hi hj;generalize cs[i]=a at ei vi hap;generalize (cs[j]'(by lia))=b at ej vj hap;have ai:jL (cs.map cD) ((i:Nat):Int)=some (cD a):=sU (by rw[az,ei];rfl);have aj:jL (cs.map cD) ((j:Nat):Int)=some (cD b):=sU (by rw[az,ej];rfl);have a1:((a.1.toNat:Nat):Int)=a.1:=ba (fu vi.1);have b1:((b.1.toNat:Nat):Int)=b.1:=ba (fu vj.1);have hg:0<bE a.1.toNat b.1.toNat:=fY _ (by have:=vi.1;lia);refine⟨cD a,ai,_,rfl,cD b,aj,_,rfl,a.1.toNat,b.1.toNat,by rw[a1,b1],cD a,ai,_,rfl,cD b,aj,_,rfl,by show (0:Int)<((bE a.1.toNat b.1.toNat:Nat):Int);lia,_,_,rfl,rfl,aQ _,fun h=>?_,fun _=>k _⟩;have h':((a.2-b.2)%((bE a.1.toNat b.1.toNat:Nat):Int)==0)=true:=h;exact absurd (eq_of_beq h') ((AQ vi.1 vj.1).mpr hap.symm)
theorem Zi:∀ds G Q,xq ds G Q->IF (bq Q) (bI ["clocks","size","place","other","share"] ds) G:=by
 rintro ds G Q ⟨cs,rfl,ok,hl,ho,ha,q⟩;have hv:∀c∈cs,Valid c:=fun c hc=>(ok c hc).1;have hb:=KE ok hl;refine⟨bM cs,cs,rfl,.inl rfl,ok,hl,by show (cs.map cD).length≤ao;rw[ε];exact bQ (by lia),?_⟩;have hbig:jM ((cw cs:Nat):Int):=Ai (eG hb.2 (by decide));refine lU (fun τ=>∃x y,τ=[x,y,some (.int (cw cs:Nat))]) cD (fun _=>true) (fun c:ω=>D.int (((cw cs:Nat):Int) / c.1)) (G:=G) trivial cs [] _ ⟨none,none,rfl⟩ ?_ ?_
 ·rintro c hc τ K1 K2 ⟨x,y,rfl⟩ g1 g2;have h1:=(ok c hc).1.1;have h2:=(ok c hc).2;exact⟨rfl,fun _=>⟨⟨h1,lV (by lia) (by lia)⟩,g1 rfl _ ⟨_,_,rfl⟩⟩,nofun⟩
 intro p1 G1 n1;rw[bw,rA] at n1;have e1:cs.map (fun c:ω=>D.int (((cw cs:Nat):Int) / c.1))=(cs.map fun c:ω=>((cw cs:Nat):Int) / c.1).map D.int:=by
  rw[aN];rfl
 rw[e1] at n1;refine⟨_,_,n1.at_,rC _,?_⟩;rw[IJ cs (cw cs) fun c hc=>(hv c hc).1,YQ hv ho];refine⟨_,_,rfl,rfl,aQ _,fun h=>?_,fun _=>?_⟩
 ·have h':(!(((cw cs:Nat):Int)==((cw cs:Nat):Int)))=true:=h;rw[beq_self_eq_true] at h';cases h'
 have hlm:(cs.map cD).length=cs.length:=ε _;show (_/\(((cs.map cD).length:Nat):Int)<_)/\iA _ _ _ _ (iI 0 (((cs.map cD).length:Nat):Int).toNat) _ _;rw[hlm,bz,xp];refine⟨⟨by lia,by lia⟩,?_⟩;refine jE (fun ds τ G'=>∃zs:List Nat,ds=zs.map nD/\(∀i∈zs,i<cs.length)/\G'=G1/\∃x2 x3 x4,τ=[some (bM cs),some (.int (cw cs:Nat)),x2,x3,x4]) (fun _ _ _ _=>trivial) ?_ ?_ _ _ _ ⟨_,rfl,fun i hi=>cm.mp hi,rfl,none,none,none,rfl⟩
 ·rintro d ds τ G2 N ⟨zs,e,hz,rfl,x2,x3,x4,rfl⟩ hN;cases zs with
  |nil=>cases e
  |cons i zs=>
   cases e;have hi:=hz i ο;show (_/\_)/\iA _ _ _ _ (iI 0 (((i:Nat):Int)).toNat) _ _;rw[bz,xp];refine⟨⟨by lia,by lia⟩,?_⟩;refine jE (fun ds τ G'=>∃ws:List Nat,ds=ws.map nD/\(∀j∈ws,j<i)/\G'=G2/\∃x3 x4,τ=[some (bM cs),some (.int (cw cs:Nat)),some (nD i),x3,x4]) (fun _ _ _ _=>trivial) ?_ ?_ _ _ _ ⟨_,rfl,fun j hj=>cm.mp hj,rfl,x3,x4,rfl⟩
   ·rintro d ds τ G3 N2 ⟨ws,e,hw,rfl,x3,x4,rfl⟩ hN2;cases ws with
    |nil=>cases e
    |cons j ws=>
     cases e;exact Zj ok hl ha hi (hw j ο) fun y4=>hN2 _ _ ⟨ws,rfl,fun t ht=>hw t (χ _ ht),rfl,_,_,rfl⟩
   ·rintro τ G3 ⟨ws,e,hw,rfl,x3,x4,rfl⟩;exact hN _ _ ⟨zs,rfl,fun t ht=>hz t (χ _ ht),rfl,_,_,_,rfl⟩
 ·rintro τ G2 ⟨zs,e,hz,rfl,x2,x3,x4,rfl⟩;exact dQ (q _ n1.sub)
end My
namespace My
open PySem L2 L3
theorem DK{G:Gp}(cs:List ω):kX G (bM cs)=some (.tup (cs.map cX)):=by
 show gG (.tup (cs.map cD))=_;rw[gG,Ao]
structure Aw(ss:List Int)(ws:List ω):Prop where
 st:∀s∈ss,1≤s/\s≤12
 l5:ss.length≤5
 tk:ws.map (·.1)=ss.take ws.length
 le:ws.length≤ss.length
 v:∀c∈ws,Valid c
 ap:ws.Pairwise Ap
def Nn(ss:List Int)(ws:List ω)(zs:List (List ω)):Prop:=(∀z∈zs,nu ss z)/\(∀v,nu ss v->uI v->v.take ws.length=ws->v∈zs)/\zs.length≤12^(ss.length-ws.length)
def sL(n:Nat):eX:=fun ds G Q=>∃(ss:List Int) (ws:List ω),ds=[tupI ss,bM ws]/\Aw ss ws/\ss.length-ws.length<n/\∀(q:η) (zs:List (List ω)) G',Nn ss ws zs->eQ G q (.lst (zs.map bM)) G'->Q (.obj q) G'
theorem Zh:∀ds G Q,¬sL 0 ds G Q:=by
 rintro ds G Q ⟨ss,ws,_,_,h,_⟩;lia
def Zg(n:Nat):aB:=g0 (bJ (aJ (fg false) (aJ jm (aJ tL (ν 7) (ν 4)) (bh uu (μ (ν 6) (μ (ν 2) (ab))))) (eC (.int 0)))) (cu (eC (.bl false)) (hName 5)) (dN)
def IE(n:Nat):aB:=g0 (bJ (ν 5)) (cu (aJ eo (ν 3) (bh (sL n) (μ (ν 0) (μ (aJ eo (ν 1) (dw (μ (dw (μ (ν 2) (μ (ν 4) (ab)))) (ab)))) (ab))))) (hName 3)) (dN)
def DJ(n:Nat):aB:=bj (iV (fL (ν 1)) (j4 2 (dE (hName 6) (dE (hName 7) (j6)))) ((Zg n))) (IE n)
def Zf(n:Nat):aB:=bj (cu (Fe (aJ (fg false) (ν 1) (dw (ab))) (aJ zF (dw (μ (ν 2) (μ (ν 4) (ab)))) (aJ ff (ν 1) (M0 zD (eC (.int 1)))))) (hName 5)) (DJ n)
def ID(n:Nat):aB:=bY (ν 3)
def Ze(n:Nat):aB:=bj (iV (mf (μ (ν 2) (ab))) (hName 4) ((Zf n))) (ID n)
def Zd(n:Nat):aB:=bj (cu (nO (ab)) (hName 3)) (Ze n)
def Zc(n:Nat):aB:=bj (cu (aJ ff (ν 0) (cF jU (μ (ν 1) (ab)))) (hName 2)) (Zd n)
def IC(n:Nat):aB:=bj (g0 (bJ (aJ (fg false) (cF jU (μ (ν 1) (ab))) (cF jU (μ (ν 0) (ab))))) (bY (nO (μ (ν 1) (ab)))) (dN)) (Zc n)
theorem Zb{a b:ω}(h:C9 a b):aK.lx (fx a) (fx b)=true:=by
 obtain⟨s,r⟩:=a;obtain⟨s',r'⟩:=b;show (if s=s' then (if r=r' then false else decide (r<r')) else decide (s<s'))=true;rcases h with h|⟨h1,h2⟩
 ·have h:s<s':=h;rw[if_neg (by lia),decide_eq_true h]
 ·have h1:s=s':=h1;have h2:r<r':=h2;rw[if_pos h1,if_neg (by lia),decide_eq_true h2]
def wD(ws:List ω)(c:ω):Bool:=match ws.getLast? with
 |none=>true
 |some l=>aK.lx (fx l) (fx c)
theorem Aw.next{ss:List Int}{ws:List ω}{s r:Int}(h:Aw ss ws)(hs:ss[ws.length]?=some s)(hv:Valid (s,r))(hc:kN ws (s,r)=true):Aw ss (ws++[(s,r)]):=by
 have hlt:=(Φ.mp hs).1;refine⟨h.st,h.l5,?_,by rw[ξ,b6];lia,fun c hc=>?_,?_⟩
 ·rw[aW,h.tk,ξ,b6,kI,hs];rfl
 ·rcases ar.mp hc with z|z
  ·exact h.v c z
  ·rw[ah.mp z];exact hv
 ·refine Ψ.mpr ⟨h.ap,aT _ _,fun a ha b hb=>?_⟩;rw[ah.mp hb];exact (vR (fun d hd=>(h.v d hd).1) hv.1).mp hc a ha
def zq(ss:List Int)(ws:List ω)(s:Int)(r:Nat)(fs:List (List ω)):Prop:=(∀z∈fs,nu ss z)/\(∀v,nu ss v->uI v->v.take ws.length=ws->∀r':Int,v[ws.length]?=some (s,r')->r' < (r:Int)->v∈fs)/\fs.length≤r*12^(ss.length-ws.length-1)
theorem IB{v ws:List ω}{c:ω}(h:v.take ws.length=ws)(hc:v[ws.length]?=some c):v.take (ws++[c]).length=ws++[c]:=by
 rw[ξ,b6,kI,h,hc];rfl
theorem Za{ss:List Int}{ws:List ω}{s:Int}{r:Nat}{fs:List (List ω)}(h:zq ss ws s r fs)(nr:(wD ws (s,(r:Int))&&kN ws (s,(r:Int)))=false)(hv:∀c∈ws,Valid c)(hs:0<s):zq ss ws s (r+1) fs:=by
 refine⟨h.1,fun v ha hr ht r' hr' hlt=>?_,aD h.2.2 (fO _ (qD r))⟩;by_cases e:r'=(r:Int)
 ·exfalso;subst e;have htn:=IB ht hr';have h1:(ws++[(s,(r:Int))]).Pairwise Ap:=by rw[←htn];exact ha.2.2.sublist (dB _ _)
  have h2:uI (ws++[(s,(r:Int))]):=by rw[←htn];exact List.Pairwise.sublist (dB _ _) hr
  have c1:kN ws (s,(r:Int))=true:=(vR (fun d hd=>(hv d hd).1) hs).mpr fun d hd=>(Ψ.mp h1).2.2 d hd _ ο;have c2:wD ws (s,(r:Int))=true:=by
   unfold wD;cases hl:ws.getLast? with
   |none=>rfl
   |some l=>
    have hm:l∈ws:=List.mem_of_getLast? hl;exact Zb ((Ψ.mp h2).2.2 l hm _ ο)
  rw[c1,c2] at nr;cases nr
 ·exact h.2.1 v ha hr ht r' hr' (by lia)
theorem Yy{ss:List Int}{ws:List ω}{s:Int}{r:Nat}{fs zs:List (List ω)}(h:zq ss ws s r fs)(hz:Nn ss (ws++[(s,(r:Int))]) zs)(hlt:ws.length<ss.length):zq ss ws s (r+1) (fs++zs):=by
 refine⟨fun z hm=>?_,fun v ha hr ht r' hr' hlt=>?_,?_⟩
 ·rcases ar.mp hm with z1|z1
  ·exact h.1 z z1
  ·exact hz.1 z z1
 ·by_cases e:r'=(r:Int)
  ·subst e;exact aq _ (hz.2.1 v ha hr (IB ht hr'))
  ·exact aM _ (h.2.1 v ha hr ht r' hr' (by lia))
 ·have h1:=h.2.2;have h2:=hz.2.2;rw[ξ,b6,Nat.sub_add_eq] at h2;rw[ξ,Nat.add_mul,qB];lia
theorem Yx{ss:List Int}{ws:List ω}{s:Int}{fs:List (List ω)}(h:zq ss ws s s.toNat fs)(hs:ss[ws.length]?=some s)(Gv:1≤s/\s≤12):Nn ss ws fs:=by
 have hlt:=(Φ.mp hs).1;refine⟨h.1,fun v ha hr ht=>?_,?_⟩
 ·have hvl:v.length=ss.length:=by rw[←ha.1,ε]
  have hv:v[ws.length]?=some (v[ws.length]'(by lia)):=Θ (by lia);obtain⟨t,b,e⟩:∃t b,(v[ws.length]'(by lia))=(t,b):=⟨_,_,rfl⟩;rw[e] at hv;have et:t=s:=by
   have h2:(v.map (·.1))[ws.length]?=some t:=by rw[az,hv];rfl
   rw[ha.1,hs] at h2;exact (aA h2).symm
  subst et;have hb:=ha.2.1 _ (bG hv);have hb2:b<t:=hb.2.2;exact h.2.1 v ha hr ht b hv (by lia)
 ·refine aD h.2.2 ?_;have e:12^(ss.length-ws.length)=12*12^(ss.length-ws.length-1):=by
   conv=>lhs;rw[show ss.length-ws.length=(ss.length-ws.length-1)+1 by lia,mw,dW]
  rw[e];exact fO _ (by lia)
theorem Yw{ws:List ω}{l:ω}(h:ws.getLast?=some l):jL (ws.map cD) (-1)=some (cD l):=by
 obtain⟨ys,rfl⟩:=List.getLast?_eq_some_iff.mp h;unfold jL qQ;rw[if_neg (by decide),if_pos (by rw[ε,ξ];simp;lia)];have e:((-1:Int)+(((ys++[l]).map cD).length:Nat)).toNat=ys.length:=by
  rw[ε,ξ];simp;lia
 rw[e,aW];show (uM cD ys++uM cD [l])[ys.length]?=_;rw[bD (by rw[ε];exact υ _),ε,mv];rfl
theorem Nz{ss:List Int}{ws:List ω}(h:ss.length≤5):12^(ss.length-ws.length)≤248832:=aD (gR (by decide) (show ss.length-ws.length≤5 by lia)) (by decide)
theorem Yv{n:Nat}{D3:gO}{G:Gp}{ws:List ω}{s:Int}{r:Nat}{b:Bool}{x0 x3 x6 x7:Option D}(hv:∀c∈ws,Valid c)(hs:0<s)(hl:ws.length≤5)
  (k:∀y6 y7,IE n D3 [x0,some (bM ws),some (.int s),x3,some (nD r),some (.bl (b&&kN ws (s,(r:Int)))),y6,y7] G):DJ n D3 [x0,some (bM ws),some (.int s),x3,some (nD r),some (.bl b),x6,x7] G:=by
 show iA _ _ _ _ (ws.map cD) _ _;refine jE (fun ds τ G'=>∃(dn us:List ω) (x6 x7:Option D),dn++us=ws/\ds=us.map cD/\G'=G/\τ=[x0,some (bM ws),some (.int s),x3,some (nD r),some (.bl (b&&kN dn (s,(r:Int)))),x6,x7]) (fun _ _ _ _=>trivial) ?_ ?_ _ _ _ ⟨[],ws,x6,x7,rfl,rfl,rfl,by show _=[x0,some (bM ws),some (.int s),x3,some (nD r),some (.bl (b&&true)),x6,x7];rw[n9]⟩
 ·rintro d ds τ G2 N ⟨dn,us,x6,x7,e1,e2,rfl,rfl⟩ hN;cases us with
  |nil=>cases e2
  |cons c us=>
   cases e2;have hc:=hv c (by rw[←e1];simp);have c1:((c.1.toNat:Nat):Int)=c.1:=ba (fu hc.1);have s1:((s.toNat:Nat):Int)=s:=ba (fu hs);have hg:0<bE c.1.toNat s.toNat:=fY _ (by have:=hc.1;lia);have ecl:kN (dn++[c]) (s,(r:Int))=(kN dn (s,(r:Int)) && !(decide ((c.2-(r:Int))%((bE c.1.toNat s.toNat:Nat):Int)=0))):=by
    unfold kN;rw[List.all_append];simp
   have next:∀bb:Bool,bb=(b&&kN (dn++[c]) (s,(r:Int)))->N [x0,some (bM ws),some (.int s),x3,some (nD r),some (.bl bb),some (.int c.1),some (.int c.2)] G2:=fun bb e=>hN _ _ ⟨dn++[c],us,_,_,by rw[aa];exact e1,rfl,rfl,by rw[←e]⟩
   refine⟨rfl,c.1.toNat,s.toNat,by rw[c1,s1],by show (0:Int)<((bE c.1.toNat s.toNat:Nat):Int);lia,_,_,rfl,rfl,aQ _,fun h=>?_,fun h=>?_⟩
   ·have h':((c.2-(r:Int))%((bE c.1.toNat s.toNat:Nat):Int)==0)=true:=h;refine next false ?_
    rw[ecl,decide_eq_true (eq_of_beq h')];simp
   ·have h':((c.2-(r:Int))%((bE c.1.toNat s.toNat:Nat):Int)==0)=false:=h;refine next (b&&kN dn (s,(r:Int))) ?_
    rw[ecl,decide_eq_false fun z=>by rw[z] at h';cases h'];simp
 ·rintro τ G2 ⟨dn,us,x6,x7,e1,e2,rfl,rfl⟩;have e0:us=[]:=by
   cases us with
   |nil=>rfl
   |cons z zs=>cases e2
  subst e0;rw[cV] at e1;subst e1;exact k _ _
theorem Yu(n:Nat):∀ds G Q,sL (n+1) ds G Q->IC n (bq Q) (bI ["steps","clocks","step","found","rest","good","own","other"] ds) G:=by
 rintro ds G Q ⟨ss,ws,rfl,h,hn,q⟩;have hlw:(ws.map cD).length=ws.length:=ε _;have hls:(ss.map D.int).length=ss.length:=ε _;have h5:=h.l5;have hle:=h.le;refine⟨_,_,rfl,rfl,aQ _,fun g=>?_,fun g=>?_⟩
 ·have g':((((ws.map cD).length:Nat):Int)==(((ss.map D.int).length:Nat):Int))=true:=g;have e:ws.length=ss.length:=by
   have:=eq_of_beq g';rw[hlw,hls] at this;lia
  intro p1 G1 n1;refine dQ (q p1 [ws] G1 ⟨fun z hz=>?_,fun v ha hr ht=>?_,?_⟩ n1)
  ·rw[ah.mp hz];refine⟨?_,h.v,h.ap⟩;rw[h.tk,e,lA]
  ·rw[ah,←ht,cS];rw[e,←ha.1,ε];exact υ _
  ·rw[e,mv];exact υ _
 have g':((((ws.map cD).length:Nat):Int)==(((ss.map D.int).length:Nat):Int))=false:=g;have hlt:ws.length<ss.length:=by
  have:ws.length≠ss.length:=fun z=>by
   rw[hlw,hls,z,beq_self_eq_true] at g';cases g'
  lia
 have hs:ss[ws.length]?=some (ss[ws.length]'hlt):=Θ hlt;obtain⟨s,es⟩:∃s,ss[ws.length]'hlt=s:=⟨_,rfl⟩;rw[es] at hs;have Gv:=h.st s (bG hs);refine⟨.int s,?_,?_⟩
 ·show jL (ss.map D.int) (((ws.map cD).length:Nat):Int)=_;rw[hlw];exact sU (by rw[az,hs];rfl)
 intro p1 G1 n1;refine⟨⟨by lia,by lia⟩,?_⟩;show iA _ _ _ _ (iI 0 s.toNat) _ _;rw[xp];refine jE (fun ds τ G'=>∃(k:Nat) (pf:η) (fs:List (List ω)) (x4 x5 x6 x7:Option D),ds=((av s.toNat).drop k).map nD/\k≤s.toNat/\zq ss ws s k fs/\eQ G pf (.lst (fs.map bM)) G'/\τ=[some (tupI ss),some (bM ws),some (.int s),some (.obj pf),x4,x5,x6,x7]) (fun _ _ _ _=>trivial) ?_ ?_ _ _ _ ⟨0,p1,[],none,none,none,none,rfl,aQ _,⟨fun z hz=>(nomatch hz),fun v _ _ _ r' hr' hlt'=>?_,aQ _⟩,n1,rfl⟩
 rotate_left 2
 ·exfalso;have:=(‹nu ss v›).2.1 _ (bG hr');have h0:0≤r':=this.2.1;lia
 ·rintro d ds τ G2 N ⟨k,pf,fs,x4,x5,x6,x7,e,hk,hF,nf,rfl⟩ hN;cases hz:(av s.toNat).drop k with
  |nil=>rw[hz] at e;cases e
  |cons z zs=>
   rw[hz] at e;cases e;obtain⟨rfl,hk,rfl⟩:=range_drop hz;have hv:Valid (s,(z:Int)):=⟨by show 0<s;lia,by show (0:Int)≤(z:Int);lia,by show (z:Int)<s;lia⟩;have body:∀x6 x7,DJ n { bq Q with nx:=N,ct:=N,bk:=ID n (bq Q)} [some (tupI ss),some (bM ws),some (.int s),some (.obj pf),some (nD z),some (.bl (wD ws (s,(z:Int)))),x6,x7] G2:=fun x6 x7=>by
    refine Yv h.v (by lia) (by lia) fun y6 y7=>⟨fun g=>?_,fun g=>?_⟩
    ·have g':(wD ws (s,(z:Int))&&kN ws (s,(z:Int)))=true:=g;rw[bV] at g';show ((ws.map cD).length+[cD (s,(z:Int))].length≤ao)/\_;refine⟨by rw[hlw];exact bQ (by simp;lia),ss,ws++[(s,(z:Int))],?_,h.next hs hv g'.2,by rw[ξ,b6];lia,fun p3 zs3 G3 hz3 n3=>?_⟩
     ·show [tupI ss,D.tup (ws.map cD++[cD (s,(z:Int))])]=[tupI ss,D.tup ((ws++[(s,(z:Int))]).map cD)];rw[aW (f:=cD)];rfl
     have hF':=Yy hF hz3 hlt;refine⟨_,_,n3.sub _ _ nf.at_,n3.at_,?_,fun p4 G4 n4=>?_⟩
     ·rw[ε,ε,←ξ];have h1:=hF'.2.2;have h2:(z+1)*12^(ss.length-ws.length-1)≤12*12^(ss.length-ws.length-1):=fO _ (by lia);have h3:12*12^(ss.length-ws.length-1)=12^(ss.length-ws.length):=by
       conv=>rhs;rw[show ss.length-ws.length=(ss.length-ws.length-1)+1 by lia,mw,dW]
      have h4:=Nz (ss:=ss) (ws:=ws) h5;rw[bX];lia
     rw[←aW] at n4;have s4:=nf.sub.trans n3.sub;exact hN _ _ ⟨z+1,p4,_,_,_,_,_,rfl,hk,hF',⟨s4.of_none n4.aF,s4.trans n4.sub,n4.at_⟩,rfl⟩
    ·have g':(wD ws (s,(z:Int))&&kN ws (s,(z:Int)))=false:=g;exact hN _ _ ⟨z+1,pf,fs,_,_,_,_,rfl,hk,Za hF g' h.v (by lia),nf,rfl⟩
   cases hl:ws.getLast? with
   |none=>
    have e0:ws=[]:=oJ.mp hl;subst e0;refine⟨_,.tup ([].map cX),rfl,rfl,jb rfl,fun _=>body _ _,fun g=>absurd g (by decide)⟩
   |some l=>
    have hne:ws≠[]:=fun z=>by rw[z] at hl;cases hl
    have eg:wD ws (s,(z:Int))=aK.lx (fx l) (fx (s,(z:Int))):=by
     unfold wD;rw[hl]
    rw[eg] at body;refine⟨_,.tup ([].map cX),DK ws,rfl,?_,fun g=>?_,fun _=>⟨cD l,Yw hl,fx (s,(z:Int)),fx l,rfl,rfl,body _ _⟩⟩
    ·show Dat.fH (ws.map cX)+1≤50;have:=Am ws;lia
    ·exfalso;cases ws with
     |nil=>exact hne rfl
     |cons a ws=>exact absurd g (by show ¬((false:Bool)=true);decide)
 ·rintro τ G2 ⟨k,pf,fs,x4,x5,x6,x7,e,hk,hF,nf,rfl⟩;have hk2:k=s.toNat:=by
   have:=congrArg bR e;rw[ε,aV,cn] at this;simp at this;lia
  subst hk2;exact dQ (q pf fs G2 (Yx hF hs Gv) nf)
end My
namespace My
open PySem L2 L3
theorem Yt{ss:List Int}{ws:List ω}(h:kY ss ws)(hs:ss.Pairwise (· ≤ ·)):uI ws:=by
 refine cM.mpr fun i j hi hj hij=>?_;have ei:ws[i]?=some ws[i]:=Θ hi;have ej:ws[j]?=some ws[j]:=Θ hj;have hap:Ap ws[i] ws[j]:=cM.mp h.ka.2.2 i j hi hj hij;have hle:(ws[i]).1≤(ws[j]).1:=by
  have hs2:(ws.map (·.1)).Pairwise (· ≤ ·):=by rw[h.ka.1];exact hs
  exact cM.mp (bN.mp hs2) i j hi hj hij
 obtain⟨s,a,ea⟩:∃s a,ws[i]=(s,a):=⟨_,_,rfl⟩;obtain⟨t,b,eb⟩:∃t b,ws[j]=(t,b):=⟨_,_,rfl⟩;rw[ea] at ei hap hle ⊢;rw[eb] at ej hap hle ⊢;have hle:s≤t:=hle;by_cases e:s=t
 ·subst e;refine .inr ⟨rfl,?_⟩;show a<b;refine cP fun hn=>?_;by_cases e2:a=b
  ·subst e2;exact hap a ⟨sO (c:=(s,a)),sO (c:=(s,a))⟩
  ·have hlt:b<a:=by lia
   have c1:=Ec ei;have ej2:(ws.drop (i+1))[j-(i+1)]?=some (s,b):=by
    rw[gv,show i+1+(j-(i+1))=j by lia];exact ej
   have c2:=Ec ej2;generalize ws.take i=A at c1;generalize (ws.drop (i+1)).take (j-(i+1))=B at c2;generalize (ws.drop (i+1)).drop (j-(i+1)+1)=C at c2;rw[c2] at c1;have hp:(A++(s,b)::(B++(s,a)::C)).Perm ws:=by
    rw[c1];refine cG A ?_;refine ((g8 (a:=(s,a)) (l₁:=B) (l₂:=C)).cons (s,b)).trans ?_;refine (List.Perm.swap _ _ _).trans ?_;exact ((g8 (a:=(s,b)) (l₁:=B) (l₂:=C)).symm).cons (s,a)
   have ha:nu ss (A++(s,b)::(B++(s,a)::C)):=by
    refine⟨?_,fun c hc=>h.ka.2.1 c (hp.mem_iff.mp hc),(EF hp).mpr h.ka.2.2⟩;rw[←h.ka.1,c1];simp
   have hb1:Hg (A++(s,b)::(B++(s,a)::C)) ws:=⟨A,s,b,a,_,_,rfl,c1,hlt⟩;have h1:=Kp hb1;rw[vQ h ha] at h1;cases h1
 ·exact .inl (show s<t by lia)
theorem IA{ss:List Int}{m:Int}(h60:∀s∈ss,1≤s/\s≤60)(hsum:gK ss=dA)(hm:∀s∈ss,s≤m)(h1:1<m)(hc:ss.countP (· == m)=1):¬∃vs,nu ss vs:=by
 rintro⟨vs,e,hv,ha⟩;have hvs:oj vs:=fun c hc=>⟨hv c hc,(h60 c.1 (by rw[←e];exact aE.mpr ⟨c,hc,rfl⟩)).2⟩;have ho:lp vs:=AO hvs ha (by rw[xG,e];exact hsum);have hmem:m∈ss:=by
  have:0<ss.countP (· == m):=by lia
  obtain⟨a,ha,hb⟩:=List.countP_pos_iff.mp this;rwa [eq_of_beq hb] at ha
 rw[←e] at hmem;obtain⟨c,hcm,ec⟩:=aE.mp hmem;have hp:vs.Perm (c::vs.erase c):=mz hcm;have hcnt:(vs.erase c).countP (fun d=>d.1==m)=0:=by
  have h2:ss.countP (· == m)=vs.countP (fun d=>d.1==m):=by
   rw[←e,List.countP_map];rfl
  have h3:vs.countP (fun d=>d.1==m)=(vs.erase c).countP (fun d=>d.1==m)+1:=by
   rw[hp.countP_eq,List.countP_cons_of_pos (by rw[ec];exact beq_self_eq_true m)]
  lia
 refine MC (c:=c) (cs:=vs.erase c) (fun d hd=>hvs d (hp.mem_iff.mpr hd)) (fun n=>by rw[←(hp.filter _).length_eq];exact ho n) (by rw[ec];exact h1) fun d hd=>?_;have hd1:d∈vs:=lH hd;have h4:=hm d.1 (by rw[←e];exact aE.mpr ⟨d,hd1,rfl⟩);have h5:d.1≠m:=fun z=>by
  have:=List.countP_eq_zero.mp hcnt d hd;exact this (by rw[z];exact beq_self_eq_true m)
 rw[ec];lia
def vL:eX:=fun ds G Q=>∃(p:η) (ss:List Int),ds=[.obj p]/\G p=some (.lst (ss.map D.int))/\ss≠[]/\ss.length≤12/\(∀s∈ss,1≤s/\s≤60)/\∀G',Sub G G'->Q (.bl true) G'
def DI:aB:=bY (eC (.bl true))
def Ys:aB:=bj (g0 (tf (bJ (aJ (fg true) (cF v8 (μ (eS ["step"] [1] (fL (ν 0)) (hName 0) (cY) (aJ m8 (ν 1) (ν 0))) (ab))) (ν 1))) (tj (bJ (aJ (fg false) (eM DL (ν 0) (μ (cF v7 (μ (ν 0) (ab))) (ab))) (eC (.int 1)))) (bJ (aJ uk (cF v7 (μ (ν 0) (ab))) (eC (.int 1)))))) (bY (aJ (uj false) (bh nK (μ (cF mS (μ (ν 0) (ab))) (ab))) (eC .aF))) (dN)) DI
def Iz:aB:=bj (cu (bh vM (μ (eS ["step"] [] (fL (ν 0)) (hName 0) (cY) (dw (μ (ν 0) (μ (eC (.int 0)) (ab))))) (ab))) (hName 1)) Ys
theorem Yr(ss:List Int)(R:Nat)(h:∀s∈ss,1≤s):(ss.map fun s=>((R:Nat):Int) / s).sum=((dR (zC ss) R:Nat):Int):=by
 have:=IJ (zC ss) R fun c hc=>by
  obtain⟨s,hs,rfl⟩:=aE.mp hc;have:=h s hs;show 0<s;lia
 rw[←this];unfold zC;rw[aN];rfl
theorem Jl{ss:List Int}(h60:∀s∈ss,1≤s/\s≤60):dR (zC ss) (cw (zC ss))=cw (zC ss)↔gK ss=dA:=by
 have hz:=ED h60;have hp:=Ee fun z hz'=>(hz z hz').1.1;rw[←JF,←JI hz];unfold yZ y8;constructor
 ·intro h;rw[h,Nat.gcd_self];exact⟨pH hp,pH hp⟩
 ·rintro⟨h1,h2⟩;have d1:=kj (g7 (dR (zC ss) (cw (zC ss))) (cw (zC ss)));have d2:=kj (iR (dR (zC ss) (cw (zC ss))) (cw (zC ss)));rw[h1] at d1;rw[h2] at d2;lia
theorem Yq:∀ds G Q,vL ds G Q->Iz (bq Q) (bI ["steps","size"] ds) G:=by
 rintro ds G Q ⟨p,ss,rfl,hp,hne,hl,h60,q⟩;have hz:=ED h60;have ok:mm 1000 (zC ss):=fun c hc=>⟨(hz c hc).1,by have:=(hz c hc).2;lia⟩;have hzl:(zC ss).length=ss.length:=by unfold zC;rw[ε]
 refine⟨_,hp,by rw[ε];exact bQ (by lia),?_⟩;refine lU (fun τ=>∃x,τ=[x]) D.int (fun _=>true) (fun s:Int=>cD (s,0)) (G:=G) hp ss [] _ ⟨none,rfl⟩ ?_ ?_
 ·rintro s hm τ K1 K2 ⟨x,rfl⟩ h1 h2;exact⟨fun _=>h1 rfl _ ⟨_,rfl⟩,nofun⟩
 intro p1 G1 n1;have e1:([]:List D)++(ss.filter fun _=>true).map (fun s:Int=>cD (s,0))=(zC ss).map cD:=by
  rw[bw,rA];unfold zC;rw[aN];rfl
 rw[e1] at n1;have hp1:=n1.sub _ _ hp;refine⟨.obj p1,zC ss,rfl,.inr ⟨p1,rfl,n1.at_⟩,ok,by lia,?_⟩;refine⟨_,hp1,by rw[ε];exact bQ (by lia),?_⟩;refine lU (fun τ=>∃x,τ=[x,some (.int (cw (zC ss):Nat))]) D.int (fun _=>true) (fun s:Int=>D.int (((cw (zC ss):Nat):Int) / s)) (G:=G1) hp1 ss [] _ ⟨none,rfl⟩ ?_ ?_
 ·rintro s hm τ K1 K2 ⟨x,rfl⟩ g1 g2;have:=h60 s hm;exact⟨fun _=>⟨⟨by lia,lV (by lia) (by lia)⟩,g1 rfl _ ⟨_,rfl⟩⟩,nofun⟩
 intro p2 G2 n2;rw[bw,rA] at n2;have e2:ss.map (fun s:Int=>D.int (((cw (zC ss):Nat):Int) / s))=(ss.map fun s:Int=>((cw (zC ss):Nat):Int) / s).map D.int:=by
  rw[aN];rfl
 rw[e2] at n2;refine⟨_,_,n2.at_,rC _,?_⟩;rw[Yr ss _ fun s hs=>(h60 s hs).1];have hp2:=n2.sub _ _ hp1;have s2:=n1.sub.trans n2.sub;have hl0:0<ss.length:=gh.mpr hne;have ask:(gK ss≠dA∨¬∃vs,nu ss vs)->(bY (aJ (uj false) (bh nK (μ (cF mS (μ (ν 0) (ab))) (ab))) (eC .aF))) { bq Q with nx:=DI (bq Q)} [some (.obj p),some (.int (cw (zC ss):Nat))] G2:=fun hh=>by
  refine⟨_,hp2,ss,rfl,hne,hl,h60,fun G3 s3=>⟨fun _=>dQ (q G3 (s2.trans s3)),fun _=>dQ (q G3 (s2.trans s3)),fun hs ws hF=>?_⟩⟩;exfalso;rcases hh with hh|hh
  ·exact hh hs
  ·exact hh ⟨ws,hF.ka⟩
 refine⟨_,_,rfl,rfl,aQ _,fun h=>?_,fun h=>?_⟩
 ·have h':(!(((dR (zC ss) (cw (zC ss)):Nat):Int)==((cw (zC ss):Nat):Int)))=true:=h;refine⟨fun _=>ask (.inl fun z=>?_),nofun⟩;rw[(Jl h60).mpr z,beq_self_eq_true] at h';cases h'
 have h':(!(((dR (zC ss) (cw (zC ss)):Nat):Int)==((cw (zC ss):Nat):Int)))=false:=h;have hsum:gK ss=dA:=(Jl h60).mp (by
  rw[iH,beq_iff_eq] at h';lia)
 have fin:DI (bq Q) [some (.obj p),some (.int (cw (zC ss):Nat))] G2:=dQ (q G2 s2);refine⟨⟨p,_,rfl,hp2⟩,_,_,hp2,rC ss,hl0,fun m hm hmax=>⟨_,_,hp2,rC ss,_,_,rfl,rfl,aQ _,fun g=>?_,fun g=>⟨nofun,fun _=>fin⟩⟩⟩;have g':(((ss.countP (· == m):Nat):Int)==1)=true:=g;refine⟨_,_,hp2,rC ss,hl0,fun m' hm' hmax'=>⟨fun g2=>ask (.inr ?_),fun _=>fin⟩⟩;have em:m'=m:=by
  have a1:=hmax m' hm';have a2:=hmax' m hm;lia
 subst em;exact IA h60 hsum hmax (of_decide_eq_true g2) (by have:=eq_of_beq g';lia)
end My
namespace My
open PySem L2 L3
structure mj(ms:List ω):Prop where
 xo:oj ms
 once:lp ms
 r:uI ms
 l:ms.length≤9
theorem mj.ne{ms:List ω}(h:mj ms):ms≠[]:=fun z=>by
 have:=h.once 0;rw[z] at this;cases this
theorem mj.ka{ms:List ω}(h:mj ms):nu (dC ms) ms:=⟨rfl,fun c hc=>(h.xo c hc).1,JX fun n=>by rw[h.once n];exact υ _⟩
theorem mj.sum{ms:List ω}(h:mj ms):gK (dC ms)=dA:=by
 rw[←PL h.xo h.once,xG]
theorem mj.st{ms:List ω}(h:mj ms):∀s∈dC ms,1≤s/\s≤60:=fun s hs=>by
 obtain⟨c,hc,rfl⟩:=aE.mp hs;have:=(h.xo c hc).1.1;exact⟨by lia,(h.xo c hc).2⟩
theorem mj.sorted{ms:List ω}(h:mj ms):(dC ms).Pairwise (· ≤ ·):=bN.mpr (h.r.imp fun {a b} q=>by
 rcases q with q|q
 ·exact fu q
 ·exact Int.le_of_eq q.1)
theorem mj.len{ms:List ω}(h:mj ms):(dC ms).length=ms.length:=ε _
theorem Jk{G:Gp}{ws:List ω}{Q:V3}(neg:Bool)(q:Q (.bl (!neg)) G):fg neg (bM ws) (bM ws) G Q:=by
 refine⟨_,_,DK ws,DK ws,?_,?_⟩
 ·show Dat.fH (ws.map cX)+1≤50;have:=Am ws;lia
 ·have e:(Dat.D.tup (ws.map cX)).dS (.tup (ws.map cX))=true:=QB ws;rw[e];cases neg<;>exact q
def xZ:eX:=fun ds G Q=>∃ms:List ω,ds=[bM ms]/\mj ms/\∀G',Sub G G'->Q (.bl true) G'
def Jj:aB:=bY (rW (bh xq (μ (ν 2) (ab))) (aJ (fg false) (bh nK (μ (ν 1) (ab))) (ν 2)))
def Ji:aB:=bj (g0 (tj (bJ (aJ rq (cF jU (μ (ν 1) (ab))) (eC (.int 6)))) (tj (bJ (aJ rq (cF DP (μ (ν 1) (ab))) (eC (.int 13)))) (bJ (aJ (fg true) (ν 2) (cF D9 (μ (bh (sL 40) (μ (ν 1) (μ (dw (ab)) (ab)))) (ab))))))) (bY (eC (.bl false))) (dN)) Jj
def Jh:aB:=bj (g0 (o9 (bJ (cF yn (μ (eS ["step","rest"] [] (fL (ν 2)) (j4 2 (dE (hName 0) (dE (hName 1) (j6)))) (cY) (rW (bh vV (μ (ν 0) (ab))) (rW (bh vV (μ (ν 1) (ab))) (vg HM rq (eC (.int 0)) (ν 1) (ν 0))))) (ab))))) (bY (eC (.bl false))) (dN)) Ji
def Yp:aB:=bj (g0 (tf (o9 (bJ (rV "tuple" (ν 2)))) (tf (bJ (aJ (fg true) (cF mS (μ (eS ["step","rest"] [] (fL (ν 2)) (j4 2 (dE (hName 0) (dE (hName 1) (j6)))) (cY) (ν 0)) (ab))) (ν 1))) (bJ (aJ FO (ν 2) (ν 0))))) (bY (eC (.bl false))) (dN)) Jh
def Yo:aB:=bj (cu (bh nK (μ (ν 1) (ab))) (hName 2)) Yp
def Jg:aB:=bj (cu (cF mS (μ (eS ["step","rest"] [] (fL (ν 0)) (j4 2 (dE (hName 0) (dE (hName 1) (j6)))) (cY) (ν 0)) (ab))) (hName 1)) Yo
theorem zR{G:Gp}{cs:List ω}{Q:List D->Gp->Prop}(q:Q ((dC cs).map D.int) G):jy (fun _=>True) (j4 2 (dE (hName 0) (dE (hName 1) j6))) cY (ν 0) Q (cs.map cD) [] [none,none] G:=by
 refine lU (fun τ=>∃x y,τ=[x,y]) cD (fun _=>true) (fun z:ω=>D.int z.1) (G:=G) trivial cs [] _ ⟨none,none,rfl⟩ ?_ ?_
 ·rintro z hz τ K1 K2 ⟨x,y,rfl⟩ g1 g2;exact⟨rfl,fun _=>g1 rfl _ ⟨_,_,rfl⟩,nofun⟩
 ·rw[bw,rA];have:cs.map (fun z:ω=>D.int z.1)=(dC cs).map D.int:=by
   rw[aN];rfl
  rw[this];exact q
theorem DH{Q:V3}{G:Gp}{ms ws:List ω}(h:mj ms)(hF:kY (dC ms) ws)(q:∀G',Sub G G'->Q (.bl true) G'):Jj (bq Q) [some (bM ms),some (tupI (dC ms)),some (bM ws)] G:=by
 have hl:=h.l;have hlw:ws.length=ms.length:=by
  have:=congrArg bR hF.ka.1;rwa [ε,ε] at this
 refine⟨ws,rfl,fun c hc=>⟨(hF.xo c hc).1,by have:=(hF.xo c hc).2;lia⟩,by lia,hF.once,hF.ka.2.2,fun G1 s1=>⟨fun _=>?_,nofun⟩⟩;refine⟨dC ms,rfl,fun z=>h.ne (jH.mp z),by rw[h.len];lia,h.st,fun G2 s2=>⟨fun z=>absurd h.sum z,fun z=>absurd ⟨ms,h.ka⟩ z,fun _ vs hV=>?_⟩⟩;have e:vs=ws:=Pz hV hF;subst e;exact Jk false (dQ (q G2 (s1.trans s2)))
theorem Yn{Q:V3}{G:Gp}{ms ws:List ω}(h:mj ms)(hF:kY (dC ms) ws)(q:∀G',Sub G G'->Q (.bl true) G'):Ji (bq Q) [some (bM ms),some (tupI (dC ms)),some (bM ws)] G:=by
 have hlm:((dC ms).map D.int).length=ms.length:=by rw[ε,ε]
 have hl:=h.l;have h0:0<(dC ms).length:=gh.mpr fun z=>h.ne (jH.mp z);refine⟨fun g=>?_,fun _=>⟨nofun,fun _=>DH h hF q⟩⟩;have g':((((dC ms).map D.int).length:Nat):Int)<6:=of_decide_eq_true g;rw[hlm] at g';refine⟨dC ms,rC _,h0,fun m hm hmax=>⟨fun g2=>?_,fun _=>⟨nofun,fun _=>DH h hF q⟩⟩⟩;have g2':m<13:=of_decide_eq_true g2;have hA:Aw (dC ms) []:=⟨fun s hs=>⟨(h.st s hs).1,by have:=hmax s hs;lia⟩,by rw[h.len];lia,rfl,aQ _,fun c hc=>(nomatch hc),.nil⟩;refine⟨dC ms,[],rfl,hA,by rw[h.len];show ms.length-0<40;lia,fun p1 zs G1 hz n1=>?_⟩;have hw:ws∈zs:=hz.2.1 ws hF.ka (Yt hF h.sorted) rfl;refine⟨zs.map iU,by rw[←D8];exact n1.at_,by rw[ε];exact qI hw,fun m hm hmin=>?_⟩;obtain⟨z,hzm,rfl⟩:=aE.mp hm;have e:z=ws:=by
  have h1:=hmin (iU ws) (aE.mpr ⟨ws,hw,rfl⟩);have h2:=vQ hF (hz.1 z hzm);apply D7;exact cP fun e=>by
   rw[aK.tP e h2] at h1;cases h1
 subst e;rw[←AR];exact Jk true ⟨nofun,fun _=>DH h hF fun G' s'=>q G' (n1.sub.trans s')⟩
theorem Ym{Q:V3}{G:Gp}{ms ws:List ω}(h:mj ms)(hF:kY (dC ms) ws)(q:∀G',Sub G G'->Q (.bl true) G'):Jh (bq Q) [some (bM ms),some (tupI (dC ms)),some (bM ws)] G:=by
 have hl:=h.l;have hlw:ws.length=ms.length:=by
  have:=congrArg bR hF.ka.1;rwa [ε,ε] at this
 refine⟨by show (ws.map cD).length≤ao;rw[ε];exact bQ (by lia),?_⟩;refine lU (fun τ=>∃x y,τ=[x,y]) cD (fun _=>true) (fun z:ω=>.bl (decide (z.2<z.1))) (G:=G) trivial ws [] _ ⟨none,none,rfl⟩ ?_ ?_
 ·rintro z hz τ K1 K2 ⟨x,y,rfl⟩ g1 g2;obtain⟨v1,v2,v3⟩:=hF.ka.2.1 z hz;exact⟨rfl,fun _=>⟨trivial,fun _=>⟨trivial,fun _=>⟨fun _=>g1 rfl _ ⟨_,_,rfl⟩,fun k=>absurd k (by rw[decide_eq_true v2];decide)⟩,nofun⟩,nofun⟩,nofun⟩
 intro p1 G1 n1;rw[bw,rA] at n1;refine⟨_,_,n1.at_,Ef (fun z:ω=>decide (z.2<z.1)) _,?_⟩;have ea:(ws.map fun z:ω=>decide (z.2<z.1)).all id=true:=by
  rw[List.all_map];exact eJ.mpr fun z hz=>decide_eq_true (hF.ka.2.1 z hz).2.2
 rw[ea];exact⟨nofun,fun _=>Yn h hF fun G' s'=>q G' (n1.sub.trans s')⟩
theorem Yl:∀ds G Q,xZ ds G Q->Jg (bq Q) (bI ["made","steps","found"] ds) G:=by
 rintro ds G Q ⟨ms,rfl,h,q⟩;have hl:=h.l;refine⟨by show (ms.map cD).length≤ao;rw[ε];exact bQ (by lia),zR ?_⟩;intro p1 G1 n1;refine⟨_,n1.at_,dC ms,rfl,fun z=>h.ne (jH.mp z),by rw[h.len];lia,h.st,fun G2 s2=>⟨fun z=>absurd h.sum z,fun z=>absurd ⟨ms,h.ka⟩ z,fun _ ws hF=>?_⟩⟩;have hlw:ws.length=ms.length:=by
  have:=congrArg bR hF.ka.1;rwa [ε,ε] at this
 refine⟨nofun,fun _=>⟨by show (ws.map cD).length≤ao;rw[ε];exact bQ (by lia),zR ?_⟩⟩;intro p3 G3 n3;refine⟨_,n3.at_,tX (dC ws),tX (dC ms),AU _,AU _,?_,fun g=>?_,fun _=>?_⟩
 ·show Dat.fH _+1≤50;rw[Ea];decide
 ·exfalso;have g':(!((tX (dC ws)).dS (tX (dC ms))))=true:=g;rw[show dC ws=dC ms from hF.ka.1] at g';have:(tX (dC ms)).dS (tX (dC ms))=true:=DM _;rw[this] at g';cases g'
 refine⟨iU ws,iU ms,AR ws,AR ms,?_⟩;rw[vQ hF h.ka];exact⟨nofun,fun _=>Ym h hF fun G' s'=>q G' (n1.sub.trans (s2.trans (n3.sub.trans s')))⟩
end My
namespace My
open PySem L2 L3
theorem zQ{a b:ω}(ha:0<a.1)(hb:0<b.1)(h:((a.2-b.2)%((bE a.1.toNat b.1.toNat:Nat):Int)==0)=false):Ap a b:=(AQ ha hb).mp fun e=>by
 rw[e] at h;cases h
theorem Yk{ws:List ω}(h:kY [1] ws):ws=[(1,0)]:=by
 obtain⟨h1,h2,_⟩:=h.ka;rcases ws with _|⟨⟨s,r⟩,_|⟨d,ws⟩⟩
 ·cases h1
 ·have e:s=1:=(gF h1).1;subst e;obtain⟨_,v2,v3⟩:=h2 (1,r) ο;have v2:0≤r:=v2;have v3:r<1:=v3;rw[show r=0 by lia]
 ·cases h1
theorem Jf:nu [2,2] [(2,0),(2,1)]:=by
 refine⟨rfl,fun c hc=>?_,b5.mpr ⟨fun d hd=>?_,aT _ _⟩⟩
 ·simp only[ay,dz,or_false] at hc;rcases hc with rfl|rfl
  ·exact⟨by decide,by decide,by decide⟩
  ·exact⟨by decide,by decide,by decide⟩
 ·rw[ah.mp hd];exact zQ (by decide) (by decide) (by decide)
theorem Yj{ws:List ω}(h:kY [2,2] ws):ws=[(2,0),(2,1)]:=by
 have hn:=vQ h Jf;obtain⟨h1,h2,h3⟩:=h.ka;rcases ws with _|⟨⟨s,r⟩,_|⟨⟨t,u⟩,_|⟨d,ws⟩⟩⟩
 ·cases h1
 ·cases h1
 ·have e:s=2:=(gF h1).1;have e2:t=2:=(gF (gF h1).2).1;subst e;subst e2;obtain⟨_,v2,v3⟩:=h2 (2,r) ο;obtain⟨_,w2,w3⟩:=h2 (2,u) (χ _ ο);have v2:0≤r:=v2;have v3:r<2:=v3;have w2:0≤u:=w2;have w3:u<2:=w3;have hr:r=0∨r=1:=by lia
  have hu:u=0∨u=1:=by lia
  have hap:=(b5.mp h3).1 (2,u) ο;rcases hr with rfl|rfl<;>rcases hu with rfl|rfl
  ·exact absurd ⟨sO (c:=(2,0)),sO (c:=(2,0))⟩ (hap 0)
  ·rfl
  ·exact absurd hn (by decide)
  ·exact absurd ⟨sO (c:=(2,1)),sO (c:=(2,1))⟩ (hap 1)
 ·cases h1
theorem Yi:mj [(2,0),(4,1),(4,3)]:=by
 have hs:oj [(2,0),(4,1),(4,3)]:=fun c hc=>by
  simp only[ay,dz,or_false] at hc;rcases hc with rfl|rfl|rfl
  ·exact⟨⟨by decide,by decide,by decide⟩,by decide⟩
  ·exact⟨⟨by decide,by decide,by decide⟩,by decide⟩
  ·exact⟨⟨by decide,by decide,by decide⟩,by decide⟩
 refine⟨hs,AO hs ?_ (by decide +kernel),?_,by decide⟩
 ·refine b5.mpr ⟨fun d hd=>?_,b5.mpr ⟨fun d hd=>?_,aT _ _⟩⟩
  ·simp only[ay,dz,or_false] at hd;rcases hd with rfl|rfl
   ·exact zQ (by decide) (by decide) (by decide)
   ·exact zQ (by decide) (by decide) (by decide)
  ·rw[ah.mp hd];exact zQ (by decide) (by decide) (by decide)
 ·refine b5.mpr ⟨fun d hd=>?_,b5.mpr ⟨fun d hd=>?_,aT _ _⟩⟩
  ·simp only[ay,dz,or_false] at hd;rcases hd with rfl|rfl
   ·exact .inl (by decide)
   ·exact .inl (by decide)
  ·rw[ah.mp hd];exact .inr ⟨rfl,by decide⟩
def nk:eX:=fun ds G Q=>∃ns:List Int,ds=[.gW (ns.map .int)]/\ns.length≤63/\Q (.bl true) G
def Je:aB:=g0 (tf (o9 (bJ (bh vL (μ (cF zS (μ (ν 4) (ab))) (ab))))) (o9 (bJ (bh vL (μ (cF zS (μ (ν 5) (ab))) (ab)))))) (bY (eC (.bl false))) (dN)
def Yh:aB:=bj (cu (eS ["turn"] [2] (mf (μ (aJ eo (eC (.int 1)) (bh qk (μ (ν 2) (μ (eC (.int 6)) (ab))))) (ab))) (hName 0) (cY) (aJ eo (eC (.int 1)) (bh qk (μ (ν 1) (μ (eC (.int 12)) (ab)))))) (hName 5)) Je
def Jd:aB:=bj (cu (aJ eo (eC (.int 1)) (bh qk (μ (ν 2) (μ (eC (.int 60)) (ab))))) (hSub (ν 4) (bh qk (μ (ν 2) (μ (cF jU (μ (ν 4) (ab))) (ab)))))) Yh
def Yg:aB:=bj (cu (eS ["step","rest"] [] (fL (ν 3)) (j4 2 (dE (hName 0) (dE (hName 1) (j6)))) (cY) (ν 0)) (hName 4)) Jd
def Jc:aB:=bj (g0 (o9 (bJ (bh xZ (μ (ν 3) (ab))))) (bY (eC (.bl false))) (dN)) Yg
def Yf:aB:=bj (g0 (bJ (aJ uk (cF v7 (μ (eS ["step","rest"] [] (fL (ν 3)) (j4 2 (dE (hName 0) (dE (hName 1) (j6)))) (cY) (ν 0)) (ab))) (eC (.int 60)))) (cu (dw (μ (dw (μ (eC (.int 2)) (μ (eC (.int 0)) (ab)))) (μ (dw (μ (eC (.int 4)) (μ (eC (.int 1)) (ab)))) (μ (dw (μ (eC (.int 4)) (μ (eC (.int 3)) (ab)))) (ab))))) (hName 3)) (dN)) Jc
def Iy:aB:=bj (cu (cF mS (μ (bh xt (μ (ν 2) (μ (eC (.int 1)) (μ (eC (.int 9)) (ab))))) (ab))) (hName 3)) Yf
def Ye:aB:=bj (cu (bh Aq (μ (ν 1) (ab))) (hName 2)) Iy
def Yd:aB:=bY (eC (.bl true))
def Yc:aB:=bj (iV (fL (aJ eo (nO (μ (bh vU (μ (ν 0) (μ (eC (.int 0)) (ab)))) (ab))) (wF (ν 0) (oB (eC (.int 1))) (oB (eC (.int 5)))))) (hName 1) (Ye)) Yd
def DG:aB:=bj (g0 (o9 (bJ (bh xu (μ (aJ eo (eC (.int 1)) (bh qk (μ (bh Aq (μ (bh vU (μ (ν 0) (μ (eC (.int 0)) (ab)))) (ab))) (μ (eC (.int 12)) (ab))))) (ab))))) (bY (eC (.bl false))) (dN)) Yc
def Iw:aB:=bj (g0 (tf (bJ (aJ (fg true) (bh nK (μ (dw (μ (eC (.int 1)) (ab))) (ab))) (dw (μ (dw (μ (eC (.int 1)) (μ (eC (.int 0)) (ab)))) (ab))))) (tf (bJ (aJ (uj true) (bh nK (μ (dw (μ (eC (.int 2)) (μ (eC (.int 3)) (μ (eC (.int 6)) (ab))))) (ab))) (eC .aF))) (bJ (aJ (fg true) (bh nK (μ (dw (μ (eC (.int 2)) (μ (eC (.int 2)) (ab)))) (ab))) (dw (μ (dw (μ (eC (.int 2)) (μ (eC (.int 0)) (ab)))) (μ (dw (μ (eC (.int 2)) (μ (eC (.int 1)) (ab)))) (ab)))))))) (bY (eC (.bl false))) (dN)) DG
theorem Yb{D3:gO}{G:Gp}{p4 p5:η}{ss is:List Int}{x0 x1 x2 x3:Option D}(e4:G p4=some (.lst (ss.map D.int)))(e5:G p5=some (.lst (is.map D.int)))(hs:ss≠[]/\ss.length≤12/\∀s∈ss,1≤s/\s≤60)(hi:is≠[]/\is.length≤12/\∀s∈is,1≤s/\s≤60)
  (k:∀G',Sub G G'->D3.nx [x0,x1,x2,x3,some (.obj p4),some (.obj p5)] G'):Je D3 [x0,x1,x2,x3,some (.obj p4),some (.obj p5)] G:=by
 refine⟨ss,e4,by lia,fun q1 ms1 G1 n1 hp1 _=>?_⟩;refine⟨q1,ms1,rfl,n1.at_,fun z=>hs.1 (by rw[z] at hp1;exact nU.mp hp1),by rw[hp1.length_eq];exact hs.2.1,fun s hm=>hs.2.2 s (hp1.mem_iff.mp hm),fun G2 s2=>⟨nofun,fun _=>?_⟩⟩;refine⟨is,s2 _ _ (n1.sub _ _ e5),by lia,fun q3 ms3 G3 n3 hp3 _=>?_⟩;exact⟨q3,ms3,rfl,n3.at_,fun z=>hi.1 (by rw[z] at hp3;exact nU.mp hp3),by rw[hp3.length_eq];exact hi.2.1,fun s hm=>hi.2.2 s (hp3.mem_iff.mp hm),fun G4 s4=>⟨nofun,fun _=>k G4 (n1.sub.trans (s2.trans (n3.sub.trans s4)))⟩⟩
theorem Ya{D3:gO}{G G5:Gp}{pp p4:η}{ms:List ω}{x0 x1 x5:Option D}(hM:mj ms)(hpp:G pp=some .o4)(n5:eQ G p4 (.lst ((dC ms).map D.int)) G5)
  (k:∀y4 y5 G',Sub G G'->D3.nx [x0,x1,some (.obj pp),some (bM ms),y4,y5] G'):Jd D3 [x0,x1,some (.obj pp),some (bM ms),some (.obj p4),x5] G5:=by
 have hpp5:=n5.sub _ _ hpp;have hl9:=hM.l;have hln:(dC ms).length=ms.length:=hM.len;have hm0:0<ms.length:=gh.mpr hM.ne;refine⟨pp,60,rfl,hpp5,⟨by decide,lV (by decide) (by decide)⟩,fun v v0 v1=>?_⟩;refine⟨_,n5.at_,pp,_,rfl,hpp5,⟨by rw[ε];lia,lV (by rw[ε];lia) (by rw[ε];lia)⟩,fun i i0 i1=>?_⟩;rw[ε] at i1;refine⟨_,i.toNat,n5.at_,by rw[ε];unfold qQ;rw[if_pos i0,if_pos (by lia)],?_⟩;have es:((dC ms).map D.int).set i.toNat (.int (1+v))=((dC ms).set i.toNat (1+v)).map D.int:=by rw[List.map_set]
 rw[es];have n6:eQ G p4 (.lst (((dC ms).set i.toNat (1+v)).map D.int)) (eu G5 p4 (.lst (((dC ms).set i.toNat (1+v)).map D.int))):=wrote n5;generalize eu G5 p4 (.lst (((dC ms).set i.toNat (1+v)).map D.int))=G6 at n6;have hpp6:=n6.sub _ _ hpp;have hS:(dC ms).set i.toNat (1+v)≠[]/\((dC ms).set i.toNat (1+v)).length≤12/\∀s∈(dC ms).set i.toNat (1+v),1≤s/\s≤60:=by
  refine⟨fun z=>?_,by rw[mC];lia,fun s hs=>?_⟩
  ·have:=congrArg bR z;rw[mC] at this;exact hM.ne (jH.mp (ip.mp this))
  ·rcases List.mem_or_eq_of_mem_set hs with h|h
   ·exact hM.st s h
   ·rw[h];lia
 refine⟨pp,6,rfl,hpp6,⟨by decide,lV (by decide) (by decide)⟩,fun t t0 t1=>⟨⟨by lia,by lia⟩,?_,?_⟩⟩
 ·show (iI 0 (1+t).toNat).length≤ao;rw[ya];exact bQ (by lia)
 refine Aj (fun ds acc τ G'=>(∃is:List Int,acc=is.map D.int/\(∀s∈is,1≤s/\s≤60)/\is.length+ds.length=(1+t).toNat)/\G'=G6/\∃x,τ=[x,some (.obj pp)]) (fun _ _ _ _ _=>trivial) ?_ ?_ _ _ _ _ ⟨⟨[],rfl,(fun c hc=>nomatch hc),?_⟩,rfl,none,rfl⟩
 ·rintro d ds acc τ G' K1 K2 ⟨⟨is,rfl,ok,hl⟩,rfl,x,rfl⟩ g1 g2;refine⟨fun _=>⟨pp,12,rfl,hpp6,⟨by decide,lV (by decide) (by decide)⟩,fun u u0 u1=>?_⟩,nofun⟩;refine g1 _ _ _ ⟨⟨is++[1+u],by rw[aW];rfl,fun s hs=>?_,?_⟩,rfl,_,rfl⟩
  ·rcases ar.mp hs with z|z
   ·exact ok s z
   ·rw[ah.mp z];lia
  ·rw[ξ,b6];simp only[ag] at hl;lia
 ·rintro acc τ G' ⟨⟨is,rfl,ok,hl⟩,rfl,x,rfl⟩;intro p7 G7 n7;have hl':is.length=(1+t).toNat:=by simpa using hl
  exact Yb (n7.sub _ _ n6.at_) n7.at_ hS ⟨fun z=>by rw[z] at hl';simp at hl';lia,by lia,ok⟩ fun G8 s8=>k _ _ _ (n6.sub.trans (n7.sub.trans s8))
 ·show ([]:List Int).length+(iI 0 (1+t).toNat).length=_;rw[ya];simp
theorem Iv{D3:gO}{G:Gp}{pp:η}{ms:List ω}{x0 x1 x4 x5:Option D}(hM:mj ms)(hpp:G pp=some .o4)
  (k:∀y3 y4 y5 G',Sub G G'->D3.nx [x0,x1,some (.obj pp),y3,y4,y5] G'):Jc D3 [x0,x1,some (.obj pp),some (bM ms),x4,x5] G:=by
 have hl9:=hM.l;refine⟨ms,rfl,hM,fun G1 s1=>⟨nofun,fun _=>⟨by show (ms.map cD).length≤ao;rw[ε];exact bQ (by lia),zR ?_⟩⟩⟩;intro p5 G5 n5;exact Ya hM (s1 _ _ hpp) n5 fun y4 y5 G' s'=>k _ _ _ _ (s1.trans s')
theorem X9{D3:gO}{G:Gp}{pp:η}{x0 x1 x3 x4 x5:Option D}(hpp:G pp=some .o4)
  (k:∀y3 y4 y5 G',Sub G G'->D3.nx [x0,x1,some (.obj pp),y3,y4,y5] G'):Iy D3 [x0,x1,some (.obj pp),x3,x4,x5] G:=by
 refine⟨pp,1,9,rfl,hpp,⟨by decide,by decide,by decide⟩,fun p3 cs G3 hm hr l1 l9 l1' n3=>⟨_,n3.at_,?_⟩⟩;refine⟨by show (cs.map cD).length≤ao;rw[ε];exact bQ (by lia),zR ?_⟩;intro p4 G4 n4;have s4:=n3.sub.trans n4.sub;refine⟨_,_,n4.at_,rC _,by rw[ε];lia,fun m hmm hmax=>⟨fun _=>Iv Yi (s4 _ _ hpp) fun y3 y4 y5 G' s'=>k _ _ _ _ (s4.trans s'),fun g=>?_⟩⟩;have g':¬(60:Int)<m:=of_decide_eq_false g;refine Iv ⟨fun c hc=>⟨hm.v c hc,?_⟩,hm.once,hr,by lia⟩ (s4 _ _ hpp) fun y3 y4 y5 G' s'=>k _ _ _ _ (s4.trans s');have:=hmax c.1 (aE.mpr ⟨c,hc,rfl⟩);lia
theorem YI:∀ds G Q,nk ds G Q->Iw (bq Q) (bI ["script","cell","pen","made","steps","some"] ds) G:=by
 rintro ds G Q ⟨ns,rfl,hl,q⟩;have k60:∀ss:List Int,ss=[1]∨ss=[2,3,6]∨ss=[2,2]->∀s∈ss,1≤s/\s≤60:=fun ss h s hs=>by
  rcases h with rfl|rfl|rfl<;>simp only[ay,dz,or_false] at hs<;>lia
 refine⟨[1],rfl,by decide,by decide,k60 _ (.inl rfl),fun G1 s1=>⟨fun z=>absurd (by decide +kernel) z,fun z=>?_,fun _ ws hF=>?_⟩⟩
 ·refine absurd ⟨[(1,0)],rfl,fun c hc=>?_,aT _ _⟩ z;rw[ah.mp hc];exact⟨by decide,by decide,by decide⟩
 rw[Yk hF];refine⟨_,_,rfl,rfl,jb rfl,fun h=>absurd h (by decide),fun _=>?_⟩;have go:∀G2,Sub G1 G2->tf (bJ (aJ (uj true) (fun _ G Q=>Q .aF G) (eC .aF))) (bJ (aJ (fg true) (bh nK (μ (dw (μ (eC (.int 2)) (μ (eC (.int 2)) (ab)))) (ab))) (dw (μ (dw (μ (eC (.int 2)) (μ (eC (.int 0)) (ab)))) (μ (dw (μ (eC (.int 2)) (μ (eC (.int 1)) (ab)))) (ab)))))) [some (.gW (ns.map .int)),none,none,none,none,none] G2 (fun b G3=>Br b ((bY (eC (.bl false))) { bq Q with nx:=DG (bq Q)} [some (.gW (ns.map .int)),none,none,none,none,none] G3) (DG (bq Q) [some (.gW (ns.map .int)),none,none,none,none,none] G3)):=fun G2 s2=>by
  refine⟨nofun,fun _=>⟨[2,2],rfl,by decide,by decide,k60 _ (.inr (.inr rfl)),fun G3 s3=>⟨fun z=>absurd (by decide +kernel) z,fun z=>absurd ⟨_,Jf⟩ z,fun _ ws hF=>?_⟩⟩⟩;rw[Yj hF];refine⟨_,_,rfl,rfl,jb rfl,fun h=>absurd h (by decide),fun _=>?_⟩;have s0:=s1.trans (s2.trans s3);refine⟨ns,0,rfl,fun i=>⟨i,rfl,fun pp GA nA=>⟨pp,12,rfl,nA.at_,⟨by decide,lV (by decide) (by decide)⟩,fun r r0 r1=>?_⟩⟩⟩;refine⟨(1+r).toNat,by rw[ba (by lia)],by lia,by lia,fun GB sB=>⟨nofun,fun _=>?_⟩⟩;have s1':=s0.trans (nA.sub.trans sB);refine⟨ns,0,rfl,fun i=>?_⟩;intro q0 G0 n0 q1 G5 n1;rw[Al] at n1;have hcl:=RK ns (some 1) (some 5);refine⟨_,_,n1.sub _ _ n0.at_,n1.at_,?_,fun q2 G6 n2=>?_⟩
  ·rw[ε];exact bQ (by simp;lia)
  have s6:=s1'.trans ((n0.sub.trans n1.sub).trans n2.sub);refine⟨_,n2.at_,?_⟩;refine jE (fun ds τ G'=>(∃is:List Int,ds=is.map D.int)/\Sub G6 G'/\∃x1 x2 x3 x4 x5,τ=[some (.gW (ns.map .int)),x1,x2,x3,x4,x5]) (fun _ _ _ h=>h.2.1 _ _ n2.at_) ?_ ?_ _ _ _ ⟨⟨i::rX ns (some 1) (some 5),rfl⟩,Sub.refl _,_,_,_,_,_,rfl⟩
  ·rintro d ds τ G7 N ⟨⟨is,e⟩,s7,x1,x2,x3,x4,x5,rfl⟩ hN;cases is with
   |nil=>cases e
   |cons cc is=>
    cases e;refine⟨cc,rfl,fun pp G8 n8=>?_⟩;exact X9 n8.at_ fun y3 y4 y5 G9 s9=>hN _ _ ⟨⟨is,rfl⟩,s7.trans (n8.sub.trans s9),_,_,_,_,_,rfl⟩
  ·rintro τ G7 ⟨_,s7,x1,x2,x3,x4,x5,rfl⟩;exact Au (s6.trans s7) q
 refine⟨[2,3,6],rfl,by decide,by decide,k60 _ (.inr (.inl rfl)),fun G2 s2=>⟨fun _=>go G2 s2,fun _=>go G2 s2,fun hs ws hF=>?_⟩⟩;refine absurd ⟨ws,hF.ka⟩ (IA (m:=6) (k60 _ (.inr (.inl rfl))) hs (fun s hs=>?_) (by decide) (by decide));simp only[ay,dz,or_false] at hs;lia
end My
namespace My
open PySem L2 L3
def top(i:Nat):bp:=PySem.Challenge.pw_coverclocks_k63_exact_clocks_by_steps.main.body.getD i (.Pass ⟨0,0,0,0⟩)
abbrev DF:bp:=top 5
abbrev YH:List Ξ:=["many","most"]
theorem YG:bL YH ["many","most"] (ax DF):=⟨rfl,rfl,rfl,by decide +kernel,rfl,by decide +kernel,by decide +kernel⟩
abbrev DE:bp:=top 6
abbrev YF:List Ξ:=["one","other","left"]
theorem wO:bL YF ["one","other"] (ax DE):=⟨rfl,rfl,rfl,by decide +kernel,rfl,by decide +kernel,by decide +kernel⟩
abbrev DD:bp:=top 7
abbrev YE:List Ξ:=["numbers","least","number"]
theorem wQ:bL YE ["numbers"] (ax DD):=⟨rfl,rfl,rfl,by decide +kernel,rfl,by decide +kernel,by decide +kernel⟩
abbrev DC:bp:=top 8
abbrev YD:List Ξ:=["top","bottom","shared"]
theorem CQ:bL YD ["top","bottom"] (ax DC):=⟨rfl,rfl,rfl,by decide +kernel,rfl,by decide +kernel,by decide +kernel⟩
abbrev DB:bp:=top 9
abbrev YC:List Ξ:=["clocks","many","counts","step","rest","number"]
theorem uP:bL YC ["clocks","many"] (ax DB):=⟨rfl,rfl,rfl,by decide +kernel,rfl,by decide +kernel,by decide +kernel⟩
abbrev DA:bp:=top 10
abbrev YB:List Ξ:=["clock","counts","many","number"]
theorem FA:bL YB ["clock","counts","many"] (ax DA):=⟨rfl,rfl,rfl,by decide +kernel,rfl,by decide +kernel,by decide +kernel⟩
abbrev Dz:bp:=top 12
abbrev YA:List Ξ:=["clock","number"]
theorem Yz:bL YA ["clock","number"] (ax Dz):=⟨rfl,rfl,rfl,by decide +kernel,rfl,by decide +kernel,by decide +kernel⟩
abbrev zP:bp:=top 13
abbrev Iu:List Ξ:=["clocks","number"]
theorem XX:bL Iu ["clocks","number"] (ax zP):=⟨rfl,rfl,rfl,by decide +kernel,rfl,by decide +kernel,by decide +kernel⟩
abbrev zO:bp:=top 14
abbrev Ir:List Ξ:=["clocks"]
theorem XW:bL Ir ["clocks"] (ax zO):=⟨rfl,rfl,rfl,by decide +kernel,rfl,by decide +kernel,by decide +kernel⟩
abbrev Dy:bp:=top 16
abbrev XU:List Ξ:=["clocks"]
theorem XT:bL XU ["clocks"] (ax Dy):=⟨rfl,rfl,rfl,by decide +kernel,rfl,by decide +kernel,by decide +kernel⟩
abbrev Dx:bp:=top 17
abbrev XS:List Ξ:=["clocks","clock"]
theorem XR:bL XS ["clocks","clock"] (ax Dx):=⟨rfl,rfl,rfl,by decide +kernel,rfl,by decide +kernel,by decide +kernel⟩
abbrev zN:bp:=top 19
abbrev Iq:List Ξ:=["clocks","bottom"]
theorem CN:bL Iq ["clocks"] (ax zN):=⟨rfl,rfl,rfl,by decide +kernel,rfl,by decide +kernel,by decide +kernel⟩
abbrev xY:bp:=top 21
abbrev Dw:List Ξ:=["n","steps"]
theorem CM:bL Dw ["n"] (ax xY):=⟨rfl,rfl,rfl,by decide +kernel,rfl,by decide +kernel,by decide +kernel⟩
abbrev Dv:bp:=top 22
abbrev XQ:List Ξ:=["steps","clocks","number","found","grown"]
theorem uQ:bL XQ ["steps","clocks"] (ax Dv):=⟨rfl,rfl,rfl,by decide +kernel,rfl,by decide +kernel,by decide +kernel⟩
abbrev xX:bp:=top 23
abbrev Du:List Ξ:=["steps","clocks","number","tried"]
theorem CL:bL Du ["steps","clocks","number"] (ax xX):=⟨rfl,rfl,rfl,by decide +kernel,rfl,by decide +kernel,by decide +kernel⟩
abbrev Dt:bp:=top 24
abbrev XO:List Ξ:=["clocks","clock","step","rest"]
theorem xj:bL XO ["clocks","clock"] (ax Dt):=⟨rfl,rfl,rfl,by decide +kernel,rfl,by decide +kernel,by decide +kernel⟩
abbrev zM:bp:=top 25
abbrev Ip:List Ξ:=["n","counts","clocks","steps"]
theorem uS:bL Ip ["n"] (ax zM):=⟨rfl,rfl,rfl,by decide +kernel,rfl,by decide +kernel,by decide +kernel⟩
abbrev zL:bp:=top 26
abbrev Io:List Ξ:=["steps","clocks","place"]
theorem uR:bL Io ["steps"] (ax zL):=⟨rfl,rfl,rfl,by decide +kernel,rfl,by decide +kernel,by decide +kernel⟩
abbrev Ds:bp:=top 27
abbrev XN:List Ξ:=["clocks","step","steps","rest","clock"]
theorem zx:bL XN ["clocks","step","steps"] (ax Ds):=⟨rfl,rfl,rfl,by decide +kernel,rfl,by decide +kernel,by decide +kernel⟩
abbrev Dr:bp:=top 28
abbrev XM:List Ξ:=["clocks","steps","number","place","step","clock"]
theorem sG:bL XM ["clocks","steps"] (ax Dr):=⟨rfl,rfl,rfl,by decide +kernel,rfl,by decide +kernel,by decide +kernel⟩
abbrev Dq:bp:=top 29
abbrev XJ:List Ξ:=["clocks","number"]
theorem xl:bL XJ ["clocks"] (ax Dq):=⟨rfl,rfl,rfl,by decide +kernel,rfl,by decide +kernel,by decide +kernel⟩
abbrev D0:bp:=top 31
abbrev XI:List Ξ:=["script","k"]
theorem XH:bL XI ["script","k"] (ax D0):=⟨rfl,rfl,rfl,by decide +kernel,rfl,by decide +kernel,by decide +kernel⟩
abbrev DZ:bp:=top 32
abbrev XG:List Ξ:=["seed"]
theorem CK:bL XG ["seed"] (ax DZ):=⟨rfl,rfl,rfl,by decide +kernel,rfl,by decide +kernel,by decide +kernel⟩
abbrev DY:bp:=top 33
abbrev XF:List Ξ:=["cell","left"]
theorem CO:bL XF ["cell"] (ax DY):=⟨rfl,rfl,rfl,by decide +kernel,rfl,by decide +kernel,by decide +kernel⟩
abbrev DX:bp:=top 34
abbrev XE:List Ξ:=["pen","many","found"]
theorem CJ:bL XE ["pen","many"] (ax DX):=⟨rfl,rfl,rfl,by decide +kernel,rfl,by decide +kernel,by decide +kernel⟩
abbrev DW:bp:=top 35
abbrev XD:List Ξ:=["found"]
theorem XC:bL XD ["found"] (ax DW):=⟨rfl,rfl,rfl,by decide +kernel,rfl,by decide +kernel,by decide +kernel⟩
abbrev zK:bp:=top 37
abbrev Im:List Ξ:=["pen","least","most","clocks","k","step","rest"]
theorem oU:bL Im ["pen","least","most"] (ax zK):=⟨rfl,rfl,rfl,by decide +kernel,rfl,by decide +kernel,by decide +kernel⟩
abbrev DV:bp:=top 40
abbrev XB:List Ξ:=["one","other"]
theorem CP:bL XB ["one","other"] (ax DV):=⟨rfl,rfl,rfl,by decide +kernel,rfl,by decide +kernel,by decide +kernel⟩
abbrev DU:bp:=top 41
abbrev XA:List Ξ:=["clocks","found","step","rest"]
theorem sI:bL XA ["clocks"] (ax DU):=⟨rfl,rfl,rfl,by decide +kernel,rfl,by decide +kernel,by decide +kernel⟩
abbrev zJ:bp:=top 42
abbrev Il:List Ξ:=["clocks","size","place","other","share"]
theorem sH:bL Il ["clocks"] (ax zJ):=⟨rfl,rfl,rfl,by decide +kernel,rfl,by decide +kernel,by decide +kernel⟩
abbrev DT:bp:=top 43
abbrev Xz:List Ξ:=["steps","clocks","step","found","rest","good","own","other"]
theorem oz:bL Xz ["steps","clocks"] (ax DT):=⟨rfl,rfl,rfl,by decide +kernel,rfl,by decide +kernel,by decide +kernel⟩
abbrev vK:bp:=top 44
abbrev zI:List Ξ:=["made","steps","found"]
theorem xk:bL zI ["made"] (ax vK):=⟨rfl,rfl,rfl,by decide +kernel,rfl,by decide +kernel,by decide +kernel⟩
abbrev vJ:bp:=top 45
abbrev zH:List Ξ:=["n","due","clocks","steps","turn","found"]
theorem tK:bL zH ["n"] (ax vJ):=⟨rfl,rfl,rfl,by decide +kernel,rfl,by decide +kernel,by decide +kernel⟩
abbrev xW:bp:=top 46
abbrev DR:List Ξ:=["steps","size"]
theorem FC:bL DR ["steps"] (ax xW):=⟨rfl,rfl,rfl,by decide +kernel,rfl,by decide +kernel,by decide +kernel⟩
abbrev vH:bp:=top 47
abbrev zG:List Ξ:=["script","cell","pen","made","steps","some"]
theorem oV:bL zG ["script"] (ax vH):=⟨rfl,rfl,rfl,by decide +kernel,rfl,by decide +kernel,by decide +kernel⟩
set_option genInjectivity false in
structure Hh where
 BK:η
 Cf:aL
 Fb:η
 Fj:aL
 Fd:η
 Fm:aL
 BH:η
 Cc:aL
 E8:η
 Fh:aL
 E7:η
 Fg:aL
 Bn:η
 BQ:aL
 Bs:η
 BV:aL
 Bt:η
 BW:aL
 BL:η
 Cg:aL
 BJ:η
 Ce:aL
 Bz:η
 B4:aL
 Bu:η
 BX:aL
 wW:η
 wY:aL
 Bq:η
 BU:aL
 Bv:η
 BY:aL
 BF:η
 Ca:aL
 BE:η
 B9:aL
 E6:η
 Ff:aL
 wV:η
 wX:aL
 By:η
 B3:aL
 BG:η
 Cb:aL
 Bp:η
 BS:aL
 BC:η
 B7:aL
 Bo:η
 BR:aL
 Bw:η
 BZ:aL
 BI:η
 Cd:aL
 BD:η
 B8:aL
 BB:η
 B6:aL
 BA:η
 B5:aL
 Bm:η
 BP:aL
 Bx:η
 B0:aL
 Fc:η
 Fk:aL
 E9:η
 Fi:aL
 BM:η
 vh:aL
 vD:kz
structure Txt(K:PySem.W.Frag)(mg:Ξ->Option δ)(t:Hh):Prop where
 He:fj K "refuse_above" "refuse_above" DF t.BK t.Cf
 NU:mg "refuse_above" = some (.ref t.BK)
 Oj:Binds K t.Cf ["many","most"] []
 CA:fj K "common_divisor" "common_divisor" DE t.Fb t.Fj
 ES:mg "common_divisor" = some (.ref t.Fb)
 Fq:Binds K t.Fj ["one","other"] []
 Nm:fj K "common_multiple" "common_multiple" DD t.Fd t.Fm
 aaG:mg "common_multiple" = some (.ref t.Fd)
 aa3:Binds K t.Fm ["numbers"] []
 GZ:fj K "lowest_terms" "lowest_terms" DC t.BH t.Cc
 NR:mg "lowest_terms" = some (.ref t.BH)
 Og:Binds K t.Cc ["top","bottom"] []
 Nk:fj K "counts_within" "counts_within" DB t.E8 t.Fh
 aaE:mg "counts_within" = some (.ref t.E8)
 aa1:Binds K t.Fh ["clocks","many"] []
 Nj:fj K "first_counted" "first_counted" DA t.E7 t.Fg
 aaD:mg "first_counted" = some (.ref t.E7)
 aa0:Binds K t.Fg ["clock","counts","many"] []
 GP:fj K "rings" "rings" Dz t.Bn t.BQ
 NJ:mg "rings" = some (.ref t.Bn)
 N8:Binds K t.BQ ["clock","number"] []
 GR:fj K "rings_at" "rings_at" zP t.Bs t.BV
 NL:mg "rings_at" = some (.ref t.Bs)
 Oa:Binds K t.BV ["clocks","number"] []
 Cu:fj K "round_of" "round_of" zO t.Bt t.BW
 FU:mg "round_of" = some (.ref t.Bt)
 Gz:Binds K t.BW ["clocks"] []
 Hf:fj K "first_missed" "first_missed" Dy t.BL t.Cg
 NV:mg "first_missed" = some (.ref t.BL)
 Ol:Binds K t.Cg ["clocks"] []
 Hd:fj K "first_within" "first_within" Dx t.BJ t.Ce
 NT:mg "first_within" = some (.ref t.BJ)
 Oi:Binds K t.Ce ["clocks","clock"] []
 GW:fj K "shares_of" "shares_of" zN t.Bz t.B4
 NO:mg "shares_of" = some (.ref t.Bz)
 Od:Binds K t.B4 ["clocks"] []
 Cv:fj K "exact_of" "exact_of" xY t.Bu t.BX
 FV:mg "exact_of" = some (.ref t.Bu)
 GC:Binds K t.BX ["n"] []
 Cy:fj K "exact_from" "exact_from" Dv t.wW t.wY
 FX:mg "exact_from" = some (.ref t.wW)
 GF:Binds K t.wY ["steps","clocks"] []
 GQ:fj K "grown_at" "grown_at" xX t.Bq t.BU
 NK:mg "grown_at" = some (.ref t.Bq)
 N9:Binds K t.BU ["steps","clocks","number"] []
 wZ:fj K "clear_of" "clear_of" Dt t.Bv t.BY
 A6:mg "clear_of" = some (.ref t.Bv)
 Ci:Binds K t.BY ["clocks","clock"] []
 GY:fj K "exact_steps" "exact_steps" zM t.BF t.Ca
 NQ:mg "exact_steps" = some (.ref t.BF)
 Of:Binds K t.Ca ["n"] []
 rZ:fj K "exact_with" "exact_with" zL t.BE t.B9
 tM:mg "exact_with" = some (.ref t.BE)
 tU:Binds K t.B9 ["steps"] []
 Nh:fj K "first_filling" "first_filling" Ds t.E6 t.Ff
 aaC:mg "first_filling" = some (.ref t.E6)
 aaZ:Binds K t.Ff ["clocks","step","steps"] []
 w4:fj K "can_fill" "can_fill" Dr t.wV t.wX
 A7:mg "can_fill" = some (.ref t.wV)
 Cj:Binds K t.wX ["clocks","steps"] []
 GV:fj K "missed_by" "missed_by" Dq t.By t.B3
 NN:mg "missed_by" = some (.ref t.By)
 Oc:Binds K t.B3 ["clocks"] []
 CB:fj K "_law_cell_at" "_law_cell_at" D0 t.BG t.Cb
 FZ:mg "_law_cell_at" = some (.ref t.BG)
 GH:Binds K t.Cb ["script","k"] []
 Ct:fj K "_law_next" "_law_next" DZ t.Bp t.BS
 FT:mg "_law_next" = some (.ref t.Bp)
 Gy:Binds K t.BS ["seed"] []
 Cz:fj K "_law_pen_of" "_law_pen_of" DY t.BC t.B7
 FY:mg "_law_pen_of" = some (.ref t.BC)
 GG:Binds K t.B7 ["cell"] []
 oG:fj K "_law_draw" "_law_draw" DX t.Bo t.BR
 pU:mg "_law_draw" = some (.ref t.Bo)
 pX:Binds K t.BR ["pen","many"] []
 w6:fj K "_law_whole" "_law_whole" DW t.Bw t.BZ
 A8:mg "_law_whole" = some (.ref t.Bw)
 Ck:Binds K t.BZ ["found"] []
 Hc:fj K "_law_parts_by" "_law_parts_by" zK t.BI t.Cd
 NS:mg "_law_parts_by" = some (.ref t.BI)
 Oh:Binds K t.Cd ["pen","least","most"] []
 w8:fj K "_law_common" "_law_common" DV t.BD t.B8
 A9:mg "_law_common" = some (.ref t.BD)
 Cm:Binds K t.B8 ["one","other"] []
 Cw:fj K "_law_round" "_law_round" DU t.BB t.B6
 FW:mg "_law_round" = some (.ref t.BB)
 GD:Binds K t.B6 ["clocks"] []
 GX:fj K "_law_exact" "_law_exact" zJ t.BA t.B5
 NP:mg "_law_exact" = some (.ref t.BA)
 Oe:Binds K t.B5 ["clocks"] []
 Ft:fj K "_law_all_with" "_law_all_with" DT t.Bm t.BP
 ME:mg "_law_all_with" = some (.ref t.Bm)
 M5:Binds K t.BP ["steps","clocks"] []
 GU:fj K "_law_right" "_law_right" vK t.Bx t.B0
 NM:mg "_law_right" = some (.ref t.Bx)
 Ob:Binds K t.B0 ["made"] []
 Nl:fj K "_law_steps_right" "_law_steps_right" vJ t.Fc t.Fk
 aaF:mg "_law_steps_right" = some (.ref t.Fc)
 aa2:Binds K t.Fk ["n"] []
 Fu:fj K "_law_none_right" "_law_none_right" xW t.E9 t.Fi
 MF:mg "_law_none_right" = some (.ref t.E9)
 M6:Binds K t.Fi ["steps"] []
 Om:fj K "law" "law" vH t.BM t.vh
 NW:mg "law" = some (.ref t.BM)
 abN:Binds K t.vh ["script"] []
 wj:mg "MOST_NUMBERS" = some (.int 10000 t.vD)
 Gg:mg "all" = none
 MK:mg "bool" = none
 yS:mg "enumerate" = none
 Gf:mg "int" = none
 jY:mg "isinstance" = none
 jK:mg "len" = none
 MG:mg "list" = none
 tN:mg "max" = none
 Gc:mg "min" = none
 iY:mg "range" = none
 jX:mg "sorted" = none
 Ba:mg "sum" = none
 jz:mg "tuple" = none
section
variable {P:aw} {w:aG} {K:PySem.W.Frag} {mg:Ξ->Option δ} {base:Heap} {t:Hh}
theorem Xy:∀ds G Q,xQ ds G Q->ds.length=2:=by
 intro ds G Q h;obtain⟨_,_,rfl,_⟩:=h;rfl
theorem Xx(T:Txt K mg t):cz P w K mg base 1 t.BK t.Cf ["many","most"] xQ:=by
 refine eE (k:=0) (sp:=xQ) T.He YG (by decide) Xy Lb (fun cdv A outer s H E hr=>?_) Q0;refine bS (iy (gw wo wb (ψ (pv 0)) (ψ (pv 1)) (cf _)) (bS S6) iz)
theorem Xw:∀ds G Q,ur ds G Q->ds.length=2:=by
 intro ds G Q h;obtain⟨_,_,rfl,_⟩:=h;rfl
theorem DQ(T:Txt K mg t):cz P w K mg base 1 t.Fb t.Fj ["one","other"] ur:=by
 refine eE (k:=0) (sp:=ur) T.CA wO (by decide) Xw KA (fun cdv A outer s H E hr=>?_) Rk;refine bZ ?_ (bS (du (ψ (pv 0))));refine Ay bu (gw qu (qm hr.units) (ψ (pv 1)) aY (cf _)) ?_;refine bZ (fh (i:=2) wO.nd (cZ lS lT (ψ (pv 0)) (ψ (pv 1)))) ?_;refine bZ (fh (i:=0) wO.nd (ψ (pv 1))) (bS (fh (i:=1) wO.nd (ψ (pv 2))))
theorem Xv:∀ds G Q,xT ds G Q->ds.length=1:=by
 intro ds G Q h;obtain⟨_,_,rfl,_⟩:=h;rfl
theorem Xu(T:Txt K mg t):cz P w K mg base 2 t.Fd t.Fm ["numbers"] xT:=by
 refine eE (k:=1) (sp:=xT) T.Nm wQ (by decide) Xv Kz (fun cdv A outer s H E hr=>?_) Rg;refine bZ (fh (i:=1) wQ.nd aY) (bZ ?_ (bS (du (ψ (pv 1)))));refine jC bu rfl (iW (ψ (pv 0))) (dD (i:=2) wQ.nd) (bS ?_);refine fh (i:=1) wQ.nd (cZ sS sT (ψ (pv 1)) (cZ rE rF (ψ (pv 2)) ?_));refine cR ((DQ T).mono (by decide)) hr T.ES T.CA.kp T.Fq ?_;refine Ω (ψ (pv 1)) (Ω (ψ (pv 2)) aC)
theorem X8:∀ds G Q,xS ds G Q->ds.length=2:=by
 intro ds G Q h;obtain⟨_,_,rfl,_⟩:=h;rfl
theorem X7(T:Txt K mg t):cz P w K mg base 2 t.BH t.Cc ["top","bottom"] xS:=by
 refine eE (k:=1) (sp:=xS) T.GZ CQ (by decide) X8 Kx (fun cdv A outer s H E hr=>?_) Ra;refine bZ (fh (i:=2) CQ.nd ?_) ?_;refine cR ((DQ T).mono (by decide)) hr T.ES T.CA.kp T.Fq ?_;refine Ω (ψ (pv 0)) (Ω (ψ (pv 1)) aC);refine bS (du (gd (Ω (cZ rE rF (ψ (pv 0)) (ψ (pv 2))) (Ω (cZ rE rF (ψ (pv 1)) (ψ (pv 2))) aC))))
theorem X6:∀ds G Q,xP ds G Q->ds.length=2:=by
 intro ds G Q h;obtain⟨_,_,rfl,_⟩:=h;rfl
theorem X5(T:Txt K mg t):cz P w K mg base 2 t.E8 t.Fh ["clocks","many"] xP:=by
 refine eE (k:=1) (sp:=xP) T.Nk uP (by decide) X6 K6 (fun cdv A outer s H E hr=>?_) Rw;refine bZ (Eo ?_) ?_;refine cR ((Xx T).mono (by decide)) hr T.NU T.He.kp T.Oj ?_;refine Ω (ψ (pv 1)) (Ω (Ta T.wj) aC);refine bZ (fh (i:=2) uP.nd (cZ sS sT (ql (Ω aY aC)) (ψ (pv 1)))) ?_;refine bZ ?_ (bS (du (ψ (pv 2))));refine jC bu rfl (iW (ψ (pv 0))) ?_ (bS ?_);refine mQ rfl (je (dD (i:=3) uP.nd) (je (dD (i:=4) uP.nd) mR));refine jC bu rfl (K5 T.iY (Ω (ψ (pv 4)) (Ω (ψ (pv 1)) (Ω (ψ (pv 3)) aC)))) ?_ ?_;refine dD (i:=5) uP.nd;refine bS (R8 (ψ (pv 2)) (ψ (pv 5)) aY)
theorem X4:∀ds G Q,xO ds G Q->ds.length=3:=by
 intro ds G Q h;obtain⟨_,_,_,_,_,rfl,_⟩:=h;rfl
theorem X3(T:Txt K mg t):cz P w K mg base 1 t.E7 t.Fg ["clock","counts","many"] xO:=by
 refine eE (k:=0) (sp:=xO) T.Nj FA (by decide) X4 Kk (fun cdv A outer s H E hr=>?_) QL;refine bZ ?_ (bS (du uy));refine jC bu rfl (K5 T.iY ?_) (dD (i:=3) FA.nd) ?_;refine Ω (ix (ψ (pv 0)) aY) (Ω (lQ hr.units T.jK (Ω (ψ (pv 1)) aC)) (Ω (ix (ψ (pv 0)) aY) aC));refine bS (iy (gw nM (nL hr.units) (ix (ψ (pv 1)) (ψ (pv 3))) (ψ (pv 2)) (cf _)) (bS (du (ψ (pv 3)))) iz)
theorem X2:∀ds G Q,xV ds G Q->ds.length=2:=by
 intro ds G Q h;obtain⟨_,_,rfl,_⟩:=h;rfl
theorem X1(T:Txt K mg t):cz P w K mg base 1 t.Bn t.BQ ["clock","number"] xV:=by
 refine eE (k:=0) (sp:=xV) T.GP Yz (by decide) X2 KU (fun cdv A outer s H E hr=>?_) RO;refine bS (du (vZ nM (nL hr.units) (cZ lS lT (ψ (pv 1)) (ix (ψ (pv 0)) aY)) (ix (ψ (pv 0)) aY) (cf _)))
theorem XZ:∀ds G Q,xU ds G Q->ds.length=2:=by
 intro ds G Q h;obtain⟨_,_,rfl,_⟩:=h;rfl
theorem XY(T:Txt K mg t):cz P w K mg base 2 t.Bs t.BV ["clocks","number"] xU:=by
 refine eE (k:=1) (sp:=xU) T.GR XX (by decide) XZ KS (fun cdv A outer s H E hr=>?_) RN;refine bS (du ?_);refine jB rfl (show de Iu (ax zP) _ ["clock"] [1] from⟨rfl,by decide +kernel,by decide +kernel,by decide +kernel,by decide +kernel,by decide +kernel⟩) ?_ ?_;refine iW (ψ (pv 0));intro s0 H0 fp0;refine⟨(dD (i:=0) (show (["clock","number"]:List Ξ).Nodup by decide +kernel)),?_,(ψ (pv 0))⟩;refine Em (kB (cR ((X1 T).mono (by decide)) hr T.NJ T.GP.kp T.N8 (Ω (ψ (pv 0)) (Ω (ψ (pv 1)) aC))))
theorem Xj:∀ds G Q,vS ds G Q->ds.length=1:=by
 intro ds G Q h;obtain⟨_,rfl,_⟩:=h;rfl
theorem Ij(T:Txt K mg t):cz P w K mg base 3 t.Bt t.BW ["clocks"] vS:=by
 refine eE (k:=2) (sp:=vS) T.Cu XW (by decide) Xj Ky (fun cdv A outer s H E hr=>?_) Rc;refine bS (du ?_);refine cR ((Xu T).mono (by decide)) hr T.aaG T.Nm.kp T.aa3 (Ω ?_ aC);refine jB rfl (show de Ir (ax zO) _ ["clock"] [] from⟨rfl,by decide +kernel,by decide +kernel,by decide +kernel,by decide +kernel,by decide +kernel⟩) ?_ ?_;refine iW (ψ (pv 0));intro s0 H0 fp0;refine⟨(dD (i:=0) (show (["clock"]:List Ξ).Nodup by decide +kernel)),lW,(ix (ψ (pv 0)) aY)⟩
theorem Xi:∀ds G Q,xJ ds G Q->ds.length=2:=by
 intro ds G Q h;obtain⟨_,_,rfl,_⟩:=h;rfl
theorem Xh(T:Txt K mg t):cz P w K mg base 4 t.BJ t.Ce ["clocks","clock"] xJ:=by
 refine eE (k:=3) (sp:=xJ) T.Hd XR (by decide) Xi J7 (fun cdv A outer s H E hr=>?_) QP;refine bS (du ?_);refine cR ((X3 T).mono (by decide)) hr T.aaD T.Nj.kp T.aa0 ?_;refine Ω (ψ (pv 1)) (Ω ?_ (Ω aY aC));refine cR ((X5 T).mono (by decide)) hr T.aaE T.Nk.kp T.aa1 (Ω (ψ (pv 0)) (Ω ?_ aC));refine cR ((Ij T).mono (by decide)) hr T.FU T.Cu.kp T.Gz ?_;refine Ω (cZ jg jh (ψ (pv 0)) (gd (Ω (ψ (pv 1)) aC))) aC
theorem Xg:∀ds G Q,xI ds G Q->ds.length=1:=by
 intro ds G Q h;obtain⟨_,rfl,_⟩:=h;rfl
theorem Xf(T:Txt K mg t):cz P w K mg base 5 t.BL t.Cg ["clocks"] xI:=by
 refine eE (k:=4) (sp:=xI) T.Hf XT (by decide) Xg J6 (fun cdv A outer s H E hr=>?_) QN;refine bS (du ?_);refine cR ((Xh T).mono (by decide)) hr T.NT T.Hd.kp T.Oi ?_;refine Ω (ψ (pv 0)) (Ω (gd (Ω aY (Ω aY aC))) aC)
theorem Xe:∀ds G Q,xR ds G Q->ds.length=1:=by
 intro ds G Q h;obtain⟨_,rfl,_⟩:=h;rfl
theorem Xd(T:Txt K mg t):cz P w K mg base 4 t.Bz t.B4 ["clocks"] xR:=by
 refine eE (k:=3) (sp:=xR) T.GW CN (by decide) Xe Lg (fun cdv A outer s H E hr=>?_) Q8;refine bZ ?_ (bS (du ?_));refine fh (i:=1) CN.nd (cR ((Ij T).mono (by decide)) hr T.FU T.Cu.kp T.Gz (Ω (ψ (pv 0)) aC));refine cR ((X7 T).mono (by decide)) hr T.NR T.GZ.kp T.Og ?_;refine Ω (El hr.units T.Ba (Ω ?_ aC)) (Ω (ψ (pv 1)) aC);refine jB rfl (show de Iq (ax zN) _ ["clock"] [1] from⟨rfl,by decide +kernel,by decide +kernel,by decide +kernel,by decide +kernel,by decide +kernel⟩) ?_ ?_;refine iW (ψ (pv 0));intro s0 H0 fp0;refine⟨(dD (i:=0) (show (["clock","bottom"]:List Ξ).Nodup by decide +kernel)),lW,?_⟩;refine cZ rE rF (ψ (pv 1)) (ix (ψ (pv 0)) aY)
theorem Xc:∀ds G Q,uq ds G Q->ds.length=2:=by
 intro ds G Q h;obtain⟨_,_,rfl,_⟩:=h;rfl
theorem Dp(T:Txt K mg t):cz P w K mg base 2 t.Bv t.BY ["clocks","clock"] uq:=by
 refine eE (k:=1) (sp:=uq) T.wZ xj (by decide) Xc J5 (fun cdv A outer s H E hr=>?_) P5;refine bZ ?_ (bS (du kM));refine jC bu rfl (iW (ψ (pv 0))) ?_ (bS ?_);refine mQ rfl (je (dD (i:=2) xj.nd) (je (dD (i:=3) xj.nd) mR));refine iy (gw nM (nL hr.units) ?_ aY (cf _)) (bS (du kM)) iz;refine cZ lS lT (cZ x8 ye (ψ (pv 3)) (ix (ψ (pv 1)) aY)) ?_;refine cR ((DQ T).mono (by decide)) hr T.ES T.CA.kp T.Fq ?_;refine Ω (ψ (pv 2)) (Ω (ix (ψ (pv 1)) aY) aC)
theorem Xb:∀ds G Q,xH ds G Q->ds.length=3:=by
 intro ds G Q h;obtain⟨_,_,_,_,rfl,_⟩:=h;rfl
theorem Xa(T:Txt K mg t):cz P w K mg base 3 t.Bq t.BU ["steps","clocks","number"] xH:=by
 refine eE (k:=2) (sp:=xH) T.GQ CL (by decide) Xb J4 (fun cdv A outer s H E hr=>?_) P2;refine bZ ?_ (bS (du ?_));refine Av (i:=3) rfl CL.nd (show de Du (ax xX) _ ["step"] [2] from⟨rfl,by decide +kernel,by decide +kernel,by decide +kernel,by decide +kernel,by decide +kernel⟩) ?_ ?_;refine iW (ψ (pv 0));intro s0 H0 fp0;refine⟨(dD (i:=0) (show (["step","number"]:List Ξ).Nodup by decide +kernel)),lW,?_⟩;refine gd (Ω (ψ (pv 0)) (Ω (cZ lS lT (ψ (pv 1)) (ψ (pv 0))) aC));refine jB rfl (show de Du (ax xX) _ ["clock"] [1] from⟨rfl,by decide +kernel,by decide +kernel,by decide +kernel,by decide +kernel,by decide +kernel⟩) ?_ ?_;refine iW (ψ (pv 3));intro s0 H0 fp0;refine⟨(dD (i:=0) (show (["clock","clocks"]:List Ξ).Nodup by decide +kernel)),(Em ?_),?_⟩;refine kB (cR ((Dp T).mono (by decide)) hr T.A6 T.wZ.kp T.Ci (Ω (ψ (pv 1)) (Ω (ψ (pv 0)) aC)));refine cZ jg jh (ψ (pv 1)) (gd (Ω (ψ (pv 0)) aC))
theorem W9(n:Nat):∀ds G Q,sN n ds G Q->ds.length=2:=by
 intro ds G Q h;obtain⟨_,_,_,rfl,_⟩:=h;rfl
theorem Ii(T:Txt K mg t):∀n:Nat,cz P w K mg base (5+n) t.wW t.wY ["steps","clocks"] (sN n)
 |0=>Ej P1
 |n+1=>by
  have ih:=Ii T n
  ·refine eE (k:=5+n) (sp:=sN (n+1)) T.Cy uQ (by decide) (W9 (n+1)) (J2 n) (fun cdv A outer s H E hr=>?_) (PU n);refine bZ (fh (i:=2) uQ.nd ?_) ?_;refine cR ((Xf T).mono (aD (by decide:_≤5) (gi _ _))) hr T.NV T.Hf.kp T.Ol ?_;refine Ω (ψ (pv 1)) aC;refine bZ (iy (gw MP Md (ψ (pv 2)) uy (cf _)) (bS (du (ql (Ω (ψ (pv 1)) aC)))) iz) ?_;refine bZ (fh (i:=3) uQ.nd (ql aC)) (bZ ?_ (bS (du (ψ (pv 3)))));refine jC bu rfl (iW ?_) (dD (i:=4) uQ.nd) (bS (Eo ?_));refine cR ((Xa T).mono (aD (by decide:_≤5) (gi _ _))) hr T.NK T.GQ.kp T.N9 ?_;refine Ω (ψ (pv 0)) (Ω (ψ (pv 1)) (Ω (ψ (pv 2)) aC));refine Ax Tv PySem.F.slot_list_extend PySem.F.type_list_extend VQ (ψ (pv 3)) ?_;refine Ω (cR (ih.mono (υ _)) hr T.FX T.Cy.kp T.GF (Ω (ψ (pv 0)) (Ω (ψ (pv 4)) aC))) aC
theorem W8(T:Txt K mg t):cz P w K mg base 45 t.wW t.wY ["steps","clocks"] (sN 40):=(Ii T 40)
theorem W7:∀ds G Q,vN ds G Q->ds.length=1:=by
 intro ds G Q h;obtain⟨_,rfl,_⟩:=h;rfl
theorem Ih(T:Txt K mg t):cz P w K mg base 46 t.Bu t.BX ["n"] vN:=by
 refine eE (k:=45) (sp:=vN) T.Cv CM (by decide) W7 JU (fun cdv A outer s H E hr=>?_) Z5;refine bZ ?_ (bS (du (aac hr.units T.jX (Ω ?_ aC))));refine Av (i:=1) rfl CM.nd (show de Dw (ax xY) _ ["step"] [0] from⟨rfl,by decide +kernel,by decide +kernel,by decide +kernel,by decide +kernel,by decide +kernel⟩) ?_ ?_;refine LN T.iY (Ω aY (Ω (cZ jg jh (ψ (pv 0)) aY) aC));intro s0 H0 fp0;refine⟨(dD (i:=0) (show (["step","n"]:List Ξ).Nodup by decide +kernel)),?_,(ψ (pv 0))⟩;refine Em (gw nM (nL hr.units) (cZ lS lT (ψ (pv 1)) (ψ (pv 0))) aY (cf _));refine jB rfl (show de Dw (ax xY) _ ["clocks"] [] from⟨rfl,by decide +kernel,by decide +kernel,by decide +kernel,by decide +kernel,by decide +kernel⟩) ?_ ?_;refine iW ?_;refine cR ((W8 T).mono (by decide)) hr T.FX T.Cy.kp T.GF (Ω (ψ (pv 1)) (Ω (gd aC) aC));intro s0 H0 fp0;refine⟨(dD (i:=0) (show (["clocks"]:List Ξ).Nodup by decide +kernel)),lW,?_⟩;refine sP hr.units T.jz (Ω (QU hr.units (ψ (pv 0)) T.jX) aC)
theorem W6:∀ds G Q,xw ds G Q->ds.length=1:=by
 intro ds G Q h;obtain⟨_,rfl,_⟩:=h;rfl
theorem W5(T:Txt K mg t):cz P w K mg base 47 t.BF t.Ca ["n"] xw:=by
 refine eE (k:=46) (sp:=xw) T.GY uS (by decide) W6 IV (fun cdv A outer s H E hr=>?_) ZN;refine bZ (fh (i:=1) uS.nd Ja) (bZ ?_ (bS (du (aam hr.units (ψ (pv 1)) T.jX))));refine jC bu rfl (iW (cR ((Ih T).mono (by decide)) hr T.FV T.Cv.kp T.GC (Ω (ψ (pv 0)) aC))) ?_ ?_;refine dD (i:=2) uS.nd;refine bZ ?_ (bS (IZ hr.units (ψ (pv 1)) (ψ (pv 3)) (cZ jg jh (IY hr.units (ψ (pv 1)) (ψ (pv 3)) aY) aY)));refine fh (i:=3) uS.nd (sP hr.units T.jz (Ω ?_ aC));refine jB rfl (show de Ip (ax zM) _ ["clock"] [] from⟨rfl,by decide +kernel,by decide +kernel,by decide +kernel,by decide +kernel,by decide +kernel⟩) ?_ ?_;refine iW (ψ (pv 2));intro s0 H0 fp0;refine⟨(dD (i:=0) (show (["clock"]:List Ξ).Nodup by decide +kernel)),lW,(ix (ψ (pv 0)) aY)⟩
theorem W4:∀ds G Q,xF ds G Q->ds.length=1:=by
 intro ds G Q h;obtain⟨_,rfl,_⟩:=h;rfl
theorem W3(T:Txt K mg t):cz P w K mg base 3 t.By t.B3 ["clocks"] xF:=by
 refine eE (k:=2) (sp:=xF) T.GV xl (by decide) W4 Ko (fun cdv A outer s H E hr=>?_) Qg;refine bZ (fh (i:=1) xl.nd aY) (bZ ?_ (bS (du (ψ (pv 1)))));refine Ay bu (gw qu (qm hr.units) ?_ (ql aC) (cf _)) (bS (Se (i:=1) Tc xl.nd aY Mg));refine cR ((XY T).mono (by decide)) hr T.NL T.GR.kp T.Oa (Ω (ψ (pv 0)) (Ω (ψ (pv 1)) aC))
theorem W2(n:Nat):∀ds G Q,rB n ds G Q->ds.length=2:=by
 intro ds G Q h;obtain⟨_,_,rfl,_⟩:=h;rfl
theorem Ig(T:Txt K mg t):∀n:Nat,cz P w K mg base (3+n) t.wV t.wX ["clocks","steps"] (rB n)
 |0=>Ej Qf
 |n+1=>by
  have ih:=Ig T n
  ·refine eE (k:=3+n) (sp:=rB (n+1)) T.w4 sG (by decide) (W2 (n+1)) (Km n) (fun cdv A outer s H E hr=>?_) (P8 n);refine bZ (iy (gw nM (nL hr.units) (lQ hr.units T.jK (Ω (ψ (pv 1)) aC)) aY (cf _)) (bS (du kM)) iz) ?_;refine bZ (fh (i:=2) sG.nd ?_) (bZ ?_ (bS (du kM)));refine cR ((W3 T).mono (aD (by decide:_≤3) (gi _ _))) hr T.NN T.GV.kp T.Oc ?_;refine Ω (ψ (pv 0)) aC;refine jC bu rfl (R9 T.yS (Ω (ψ (pv 1)) aC)) ?_ ?_;refine mQ rfl (je (dD (i:=3) sG.nd) (je (dD (i:=4) sG.nd) mR));refine bZ (fh (i:=5) sG.nd (gd (Ω (ψ (pv 4)) (Ω (cZ lS lT (ψ (pv 2)) (ψ (pv 4))) aC)))) (bS ?_);refine iy (oY ?_) (bS (iy (kB ?_) (bS (du kM)) iz)) iz;refine vX (gw SA (SD hr.units) (ψ (pv 4)) (vW (ψ (pv 1)) yi (uw (ψ (pv 3)))) (by with_unfolding_all rfl)) ?_;refine yl (kB ?_);refine cR ((Dp T).mono (aD (by decide:_≤3) (gi _ _))) hr T.A6 T.wZ.kp T.Ci ?_;refine Ω (ψ (pv 0)) (Ω (ψ (pv 5)) aC);refine cR (ih.mono (υ _)) hr T.A7 T.w4.kp T.Cj ?_;refine Ω (cZ jg jh (ψ (pv 0)) (gd (Ω (ψ (pv 5)) aC))) (Ω ?_ aC);refine cZ jg jh (vW (ψ (pv 1)) yi (uw (ψ (pv 3)))) ?_;refine vW (ψ (pv 1)) (uw (cZ jg jh (ψ (pv 3)) aY)) yi
theorem Ie(T:Txt K mg t):cz P w K mg base 43 t.wV t.wX ["clocks","steps"] (rB 40):=(Ig T 40)
theorem W1:∀ds G Q,xE ds G Q->ds.length=3:=by
 intro ds G Q h;obtain⟨_,_,_,rfl,_⟩:=h;rfl
theorem W0(T:Txt K mg t):cz P w K mg base 44 t.E6 t.Ff ["clocks","step","steps"] xE:=by
 refine eE (k:=43) (sp:=xE) T.Nh zx (by decide) W1 JJ (fun cdv A outer s H E hr=>?_) Pe;refine bZ ?_ (bS (du uy));refine jC bu rfl (ux T.iY (Ω (ψ (pv 1)) aC)) (dD (i:=3) zx.nd) ?_;refine bZ (fh (i:=4) zx.nd (gd (Ω (ψ (pv 1)) (Ω (ψ (pv 3)) aC)))) ?_;refine bS (iy (oY ?_) (bS (du (ψ (pv 4)))) iz);refine vX ?_ (yl (kB ?_));refine kB (cR ((Dp T).mono (by decide)) hr T.A6 T.wZ.kp T.Ci (Ω (ψ (pv 0)) (Ω (ψ (pv 4)) aC)));refine cR ((Ie T).mono (by decide)) hr T.A7 T.w4.kp T.Cj ?_;refine Ω (cZ jg jh (ψ (pv 0)) (gd (Ω (ψ (pv 4)) aC))) (Ω (ψ (pv 2)) aC)
theorem WZ:∀ds G Q,nK ds G Q->ds.length=1:=by
 intro ds G Q h;obtain⟨_,rfl,_⟩:=h;rfl
theorem vG(T:Txt K mg t):cz P w K mg base 45 t.BE t.B9 ["steps"] nK:=by
 refine eE (k:=44) (sp:=nK) T.rZ uR (by decide) WZ JG (fun cdv A outer s H E hr=>?_) O8;refine bZ (iy ?_ (bS (du uy)) iz) ?_;refine gw qu (qm hr.units) ?_ (gd (Ω aY (Ω aY aC))) (cf _);refine cR ((Xd T).mono (by decide)) hr T.NO T.GW.kp T.Od (Ω (sP hr.units T.jz (Ω ?_ aC)) aC);refine jB rfl (show de Io (ax zL) _ ["step"] [] from⟨rfl,by decide +kernel,by decide +kernel,by decide +kernel,by decide +kernel,by decide +kernel⟩) ?_ ?_;refine iW (ψ (pv 0));intro s0 H0 fp0;refine⟨(dD (i:=0) (show (["step"]:List Ξ).Nodup by decide +kernel)),lW,(gd (Ω (ψ (pv 0)) (Ω aY aC)))⟩;refine bZ (fh (i:=1) uR.nd (gd (Ω (gd (Ω (ix (ψ (pv 0)) aY) (Ω aY aC))) aC))) ?_;refine bZ (iy (rD (kB ?_)) (bS (du uy)) iz) (bZ ?_ (bS (du (ψ (pv 1)))));refine cR ((Ie T).mono (by decide)) hr T.A7 T.w4.kp T.Cj ?_;refine Ω (ψ (pv 1)) (Ω (vW (ψ (pv 0)) (uw aY) yi) aC);refine jC bu rfl (LN T.iY (Ω aY (Ω (lQ hr.units T.jK (Ω (ψ (pv 0)) aC)) aC))) ?_ (bS ?_);refine dD (i:=2) uR.nd;refine fh (i:=1) uR.nd (cZ jg jh (ψ (pv 1)) (gd (Ω ?_ aC)));refine cR ((W0 T).mono (by decide)) hr T.aaC T.Nh.kp T.aaZ (Ω (ψ (pv 1)) ?_);refine Ω (ix (ψ (pv 0)) (ψ (pv 2))) (Ω (vW (ψ (pv 0)) (uw (cZ jg jh (ψ (pv 2)) aY)) yi) aC)
theorem WY:∀ds G Q,vU ds G Q->ds.length=2:=by
 intro ds G Q h;obtain⟨_,_,rfl,_⟩:=h;rfl
theorem Ic(T:Txt K mg t):cz P w K mg base 1 t.BG t.Cb ["script","k"] vU:=by
 refine eE (k:=0) (sp:=vU) T.CB XH (by decide) WY K0 (fun cdv A outer s H E hr=>?_) RW;refine bZ ?_ (bS (du aY));refine iy (gw v9 (wa hr.oS) (ψ (pv 1)) (lQ hr.units T.jK (Ω (ψ (pv 0)) aC)) (cf _)) ?_ iz;refine bS (du (ix (ψ (pv 0)) (ψ (pv 1))))
theorem WX:∀ds G Q,vT ds G Q->ds.length=1:=by
 intro ds G Q h;obtain⟨_,rfl,_⟩:=h;rfl
theorem Ib(T:Txt K mg t):cz P w K mg base 1 t.Bp t.BS ["seed"] vT:=by
 refine eE (k:=0) (sp:=vT) T.Ct CK (by decide) WX KZ (fun cdv A outer s H E hr=>?_) RV;refine bZ (fh (i:=0) CK.nd (cZ lS lT (cZ jg jh (ψ (pv 0)) aY) aY)) ?_;refine bS (du (cZ lS lT ?_ aY));refine cZ jg jh (cZ jg jh (cZ sS sT (ψ (pv 0)) (ψ (pv 0))) (cZ sS sT aY (ψ (pv 0)))) aY
theorem WW:∀ds G Q,Ar ds G Q->ds.length=1:=by
 intro ds G Q h;obtain⟨_,rfl,_⟩:=h;rfl
theorem Ia(T:Txt K mg t):cz P w K mg base 1 t.BC t.B7 ["cell"] Aq:=by
 refine kF.imp ?_ RP;refine eE (k:=0) (sp:=Ar) T.Cz CO (by decide) WW KW (fun cdv A outer s H E hr=>?_) RQ;refine bZ (fh (i:=1) CO.nd (LM hr.units T.tN (Ω (ψ (pv 0)) (Ω (cZ x8 ye aY (ψ (pv 0))) aC)))) ?_;refine bS (du (ql (Ω (ψ (pv 1)) ?_)));refine Ω (Sb hr.units T.Gf (Ω (vZ aaL Wq (ψ (pv 1)) (cZ UH Wt aY aY) (cf _)) aC)) ?_;refine Ω (cZ lS lT (ψ (pv 1)) aY) aC
theorem WV:∀ds G Q,As ds G Q->ds.length=2:=by
 intro ds G Q h;obtain⟨_,_,_,_,_,rfl,_⟩:=h;rfl
theorem sJ(T:Txt K mg t):cz P w K mg base 2 t.Bo t.BR ["pen","many"] qk:=by
 refine kF.imp ?_ RT;refine eE (k:=1) (sp:=As) T.oG CJ (by decide) WV KY (fun cdv A outer s H E hr=>?_) RU;refine bZ ?_ ?_;refine iy (gw nM (nL hr.units) (ix (ψ (pv 0)) aY) aY (cf _)) ?_ iz;refine bZ (fh (i:=2) CJ.nd (cZ lS lT (ix (ψ (pv 0)) aY) (ψ (pv 1)))) ?_;refine bZ (Az (cZ rE rF (ix (ψ (pv 0)) aY) (ψ (pv 1))) (En (ψ (pv 0)) aY)) (bS (du (ψ (pv 2))));refine bZ (Az ?_ (En (ψ (pv 0)) aY)) ?_;refine cR ((Ib T).mono (by decide)) hr T.FT T.Ct.kp T.Gy (Ω ?_ aC);refine cZ jg jh (cR ((Ib T).mono (by decide)) hr T.FT T.Ct.kp T.Gy (Ω (ix (ψ (pv 0)) aY) aC)) (aY);refine bS (du (cZ lS lT (cZ rE rF (ix (ψ (pv 0)) aY) aY) (ψ (pv 1))))
theorem WU:∀ds G Q,vV ds G Q->ds.length=1:=by
 intro ds G Q h
 first
  | (rcases ds with _|⟨_,_|⟨_,_|⟨_,_|⟨_,_⟩⟩⟩⟩<;>first|rfl|exact h.elim)
  | (obtain⟨rfl,_⟩:=h;rfl)
  | (obtain⟨_,rfl,_⟩:=h;rfl)
  | (obtain⟨_,_,rfl,_⟩:=h;rfl)
  | (obtain⟨_,_,_,rfl,_⟩:=h;rfl)
  | (obtain⟨_,_,_,_,rfl,_⟩:=h;rfl)
  | (obtain⟨_,_,_,_,_,rfl,_⟩:=h;rfl)
  | (obtain⟨_,_,_,_,_,_,rfl,_⟩:=h;rfl)
  | (obtain⟨_,_,_,_,_,_,_,rfl,_⟩:=h;rfl)
  | (obtain⟨_,_,_,_,_,_,_,_,rfl,_⟩:=h;rfl)
theorem Dn(T:Txt K mg t):cz P w K mg base 1 t.Bw t.BZ ["found"] vV:=by
 refine eE (k:=0) (sp:=vV) T.w6 XC (by decide) WU RY (fun cdv A outer s H E hr=>?_) RX;refine bS (du ?_);refine yj (yh T6 rfl (ψ (pv 0)) T.jY T.Gf rfl (by decide) (by decide)) ?_;refine yk (S7 (yh T5 rfl (ψ (pv 0)) T.jY T.MK rfl (by decide) (by decide)))
theorem Xt:∀ds G Q,xt ds G Q->ds.length=3:=by
 intro ds G Q h;obtain⟨_,_,_,rfl,_⟩:=h;rfl
theorem Xs(T:Txt K mg t):cz P w K mg base 3 t.BI t.Cd ["pen","least","most"] xt:=by
 refine eE (k:=2) (sp:=xt) T.Hc oU (by decide) Xt IK (fun cdv A outer s H E hr=>?_) YR;refine bZ (fh (i:=3) oU.nd (ql (Ω (gd (Ω aY (Ω aY aC))) aC))) ?_;refine bZ ?_ (bS (du (LL hr.units T.jX (Ω (ψ (pv 3)) aC))));refine Ay bu (oY ?_) ?_;refine sQ (gw v9 (wa hr.oS) (lQ hr.units T.jK (Ω (ψ (pv 3)) aC)) (ψ (pv 1)) (cf _)) (vY (oY ?_));refine vX ?_ (yl (gw v9 (wa hr.oS) (lQ hr.units T.jK (Ω (ψ (pv 3)) aC)) (ψ (pv 2)) (cf _)));refine gw wo wb (cR ((sJ T).mono (by decide)) hr T.pU T.oG.kp T.pX (Ω (ψ (pv 0)) (Ω aY aC))) ?_ (cf _);refine aY;refine bZ (fh (i:=4) oU.nd ?_) ?_;refine Sd (Ω aY (Ω aY (Ω aY (Ω aY (Ω aY (Ω aY aC)))))) ?_;refine cR ((sJ T).mono (by decide)) hr T.pU T.oG.kp T.pX (Ω (ψ (pv 0)) (Ω aY aC));refine bZ (fh (i:=4) oU.nd ?_) ?_;refine Sa hr.units T.Gc (Ω (ψ (pv 4)) (Ω (LM hr.units T.tN ?_) aC));refine Ω aY (Ω (cZ jg jh (cZ x8 ye (ψ (pv 2)) (lQ hr.units T.jK (Ω (ψ (pv 3)) aC))) aY) aC);refine bZ ?_ ?_;refine Az ?_ (mQ rfl (je (dD (i:=5) oU.nd) (je (dD (i:=6) oU.nd) mR)));refine Ax Tw PySem.F.slot_list_pop PySem.F.type_list_pop VP (ψ (pv 3)) (Ω ?_ aC);refine cR ((sJ T).mono (by decide)) hr T.pU T.oG.kp T.pX ?_;refine Ω (ψ (pv 0)) (Ω (lQ hr.units T.jK (Ω (ψ (pv 3)) aC)) aC);refine bZ ?_ ?_;refine iy (gw wo wb (cZ sS sT (ψ (pv 5)) (ψ (pv 4))) aY (cf _)) (bS (du (LL hr.units T.jX ?_))) iz;refine Ω (cZ jg jh (ψ (pv 3)) (ql (Ω (gd (Ω (ψ (pv 5)) (Ω (ψ (pv 6)) aC))) aC))) aC;refine bS (fh (i:=3) oU.nd (cZ jg jh (ψ (pv 3)) ?_));refine jB rfl (show de Im (ax zK) _ ["part"] [5,4,6] from⟨rfl,by decide +kernel,by decide +kernel,by decide +kernel,by decide +kernel,by decide +kernel⟩) ?_ ?_;refine ux T.iY (Ω (ψ (pv 4)) aC);intro s0 H0 fp0;refine⟨(dD (i:=0) (show (["part","step","k","rest"]:List Ξ).Nodup by decide +kernel)),lW,?_⟩;refine gd (Ω (cZ sS sT (ψ (pv 1)) (ψ (pv 2))) ?_);refine Ω (cZ jg jh (ψ (pv 3)) (cZ sS sT (ψ (pv 1)) (ψ (pv 0)))) aC
theorem Xr:∀ds G Q,uu ds G Q->ds.length=2:=by
 intro ds G Q h;obtain⟨_,_,rfl,_⟩:=h;rfl
theorem Dm(T:Txt K mg t):cz P w K mg base 1 t.BD t.B8 ["one","other"] uu:=by
 refine eE (k:=0) (sp:=uu) T.w8 CP (by decide) Xr KH (fun cdv A outer s H E hr=>?_) Rt;refine bZ ?_ (bS (du (ψ (pv 0))));refine Ay bu (gw wo wb (ψ (pv 1)) aY (cf _)) (bS ?_);refine R6 (i:=0) (j:=1) rfl CP.nd rfl rfl (by decide) rfl rfl ?_ rfl;refine Ω (ψ (pv 1)) (Ω (cZ lS lT (ψ (pv 0)) (ψ (pv 1))) aC)
theorem Xq:∀ds G Q,vM ds G Q->ds.length=1:=by
 intro ds G Q h;obtain⟨_,_,rfl,_⟩:=h;rfl
theorem HZ(T:Txt K mg t):cz P w K mg base 2 t.BB t.B6 ["clocks"] vM:=by
 refine eE (k:=1) (sp:=vM) T.Cw sI (by decide) Xq IH (fun cdv A outer s H E hr=>?_) YO;refine bZ (fh (i:=1) sI.nd aY) (bZ ?_ (bS (du (ψ (pv 1)))));refine jC bu rfl (iW (ψ (pv 0))) ?_ (bS ?_);refine mQ rfl (je (dD (i:=2) sI.nd) (je (dD (i:=3) sI.nd) mR));refine fh (i:=1) sI.nd (cZ sS sT (cZ rE rF (ψ (pv 1)) ?_) (ψ (pv 2)));refine cR ((Dm T).mono (by decide)) hr T.A9 T.w8.kp T.Cm (Ω (ψ (pv 1)) (Ω (ψ (pv 2)) aC))
theorem Xp:∀ds G Q,xq ds G Q->ds.length=1:=by
 intro ds G Q h;obtain⟨_,rfl,_⟩:=h;rfl
theorem Xo(T:Txt K mg t):cz P w K mg base 3 t.BA t.B5 ["clocks"] xq:=by
 refine eE (k:=2) (sp:=xq) T.GX sH (by decide) Xp IF (fun cdv A outer s H E hr=>?_) Zi;refine bZ ?_ ?_;refine fh (i:=1) sH.nd (cR ((HZ T).mono (by decide)) hr T.FW T.Cw.kp T.GD (Ω (ψ (pv 0)) aC));refine bZ (iy ?_ (bS (du kM)) iz) (bZ ?_ (bS (du kM)));refine gw qu (qm hr.units) (El hr.units T.Ba (Ω ?_ aC)) (ψ (pv 1)) (cf _);refine jB rfl (show de Il (ax zJ) _ ["step","rest"] [1] from⟨rfl,by decide +kernel,by decide +kernel,by decide +kernel,by decide +kernel,by decide +kernel⟩) ?_ ?_;refine iW (ψ (pv 0));intro s0 H0 fp0;refine⟨(mQ rfl ?_),lW,(cZ rE rF (ψ (pv 2)) (ψ (pv 0)))⟩;refine je (dD (i:=0) (show (["step","rest","size"]:List Ξ).Nodup by decide +kernel)) ?_;refine je (dD (i:=1) (show (["step","rest","size"]:List Ξ).Nodup by decide +kernel)) mR;refine jC bu rfl (ux T.iY (Ω (lQ hr.units T.jK (Ω (ψ (pv 0)) aC)) aC)) (dD (i:=2) sH.nd) ?_;refine bS ?_;refine jC bu rfl (ux T.iY (Ω (ψ (pv 2)) aC)) (dD (i:=3) sH.nd) ?_;refine bZ (fh (i:=4) sH.nd ?_) (bS ?_);refine cR ((Dm T).mono (by decide)) hr T.A9 T.w8.kp T.Cm ?_;refine Ω (ix (ix (ψ (pv 0)) (ψ (pv 2))) aY) (Ω (ix (ix (ψ (pv 0)) (ψ (pv 3))) aY) aC);refine iy (gw nM (nL hr.units) ?_ aY (cf _)) (bS (du kM)) iz;refine cZ lS lT (cZ x8 ye (ix (ix (ψ (pv 0)) (ψ (pv 2))) aY) (ix (ix (ψ (pv 0)) (ψ (pv 3))) aY)) (ψ (pv 4))
theorem Xn(n:Nat):∀ds G Q,sL n ds G Q->ds.length=2:=by
 intro ds G Q h;obtain⟨_,_,rfl,_⟩:=h;rfl
theorem HY(T:Txt K mg t):∀n:Nat,cz P w K mg base (1+n) t.Bm t.BP ["steps","clocks"] (sL n)
 |0=>Ej Zh
 |n+1=>by
  have ih:=HY T n
  ·refine eE (k:=1+n) (sp:=sL (n+1)) T.Ft oz (by decide) (Xn (n+1)) (IC n) (fun cdv A outer s H E hr=>?_) (Yu n);refine bZ (iy ?_ (bS (du (ql (Ω (ψ (pv 1)) aC)))) iz) ?_;refine gw nM (nL hr.units) (lQ hr.units T.jK (Ω (ψ (pv 1)) aC)) (lQ hr.units T.jK (Ω (ψ (pv 0)) aC)) (cf _);refine bZ (fh (i:=2) oz.nd (ix (ψ (pv 0)) (lQ hr.units T.jK (Ω (ψ (pv 1)) aC)))) ?_;refine bZ (fh (i:=3) oz.nd (ql aC)) (bZ ?_ (bS (du (ψ (pv 3)))));refine jC bu rfl (ux T.iY (Ω (ψ (pv 2)) aC)) (dD (i:=4) oz.nd) ?_;refine bZ (fh (i:=5) oz.nd ?_) ?_;refine S8 (vZ nM (nL hr.units) (ψ (pv 1)) (gd aC) (cf _)) ?_;refine yk (vZ Zz (ZA hr.oS) (gd (Ω (ψ (pv 2)) (Ω (ψ (pv 4)) aC))) (ix (ψ (pv 1)) (S9 aY)) (cf _));refine bZ ?_ (bS (iy (kB (ψ (pv 5))) ?_ iz));refine jC bu rfl (iW (ψ (pv 1))) ?_ (bS (iy ?_ (bS (fh (i:=5) oz.nd kM)) iz));refine mQ rfl (je (dD (i:=6) oz.nd) (je (dD (i:=7) oz.nd) mR));refine gw nM (nL hr.units) (cZ lS lT (cZ x8 ye (ψ (pv 7)) (ψ (pv 4))) ?_) aY (cf _);refine cR ((Dm T).mono (aD (by decide:_≤1) (gi _ _))) hr T.A9 T.w8.kp T.Cm ?_;refine Ω (ψ (pv 6)) (Ω (ψ (pv 2)) aC);refine bS (fh (i:=3) oz.nd (cZ jg jh (ψ (pv 3)) ?_));refine cR (ih.mono (υ _)) hr T.ME T.Ft.kp T.M5 (Ω (ψ (pv 0)) ?_);refine Ω (cZ jg jh (ψ (pv 1)) (gd (Ω (gd (Ω (ψ (pv 2)) (Ω (ψ (pv 4)) aC))) aC))) aC
theorem Xm(T:Txt K mg t):cz P w K mg base 41 t.Bm t.BP ["steps","clocks"] (sL 40):=(HY T 40)
theorem Xl:∀ds G Q,xZ ds G Q->ds.length=1:=by
 intro ds G Q h
 first
  | (rcases ds with _|⟨_,_|⟨_,_|⟨_,_|⟨_,_⟩⟩⟩⟩<;>first|rfl|exact h.elim)
  | (obtain⟨rfl,_⟩:=h;rfl)
  | (obtain⟨_,rfl,_⟩:=h;rfl)
  | (obtain⟨_,_,rfl,_⟩:=h;rfl)
  | (obtain⟨_,_,_,rfl,_⟩:=h;rfl)
  | (obtain⟨_,_,_,_,rfl,_⟩:=h;rfl)
  | (obtain⟨_,_,_,_,_,rfl,_⟩:=h;rfl)
  | (obtain⟨_,_,_,_,_,_,rfl,_⟩:=h;rfl)
  | (obtain⟨_,_,_,_,_,_,_,rfl,_⟩:=h;rfl)
  | (obtain⟨_,_,_,_,_,_,_,_,rfl,_⟩:=h;rfl)
theorem Xk(T:Txt K mg t):cz P w K mg base 46 t.Bx t.B0 ["made"] xZ:=by
 refine eE (k:=45) (sp:=xZ) T.GU xk (by decide) Xl Jg (fun cdv A outer s H E hr=>?_) Yl;refine bZ ?_ ?_;refine fh (i:=1) xk.nd (sP hr.units T.jz (Ω ?_ aC));refine jB rfl (show de zI (ax vK) _ ["step","rest"] [] from⟨rfl,by decide +kernel,by decide +kernel,by decide +kernel,by decide +kernel,by decide +kernel⟩) ?_ ?_;refine iW (ψ (pv 0));intro s0 H0 fp0;refine⟨(mQ rfl ?_),lW,(ψ (pv 0))⟩;refine je (dD (i:=0) (show (["step","rest"]:List Ξ).Nodup by decide +kernel)) ?_;refine je (dD (i:=1) (show (["step","rest"]:List Ξ).Nodup by decide +kernel)) mR;refine bZ ?_ ?_;refine fh (i:=2) xk.nd (cR ((vG T).mono (by decide)) hr T.tM T.rZ.kp T.tU (Ω (ψ (pv 1)) aC));refine bZ (iy (oY ?_) (bS (du kM)) iz) ?_;refine sQ (rD (kB (yh kit_tuple rfl (ψ (pv 2)) T.jY T.jz rfl (by decide) (by decide)))) ?_;refine sQ ?_ (vY (gw Zx (Zy hr.units) (ψ (pv 2)) (ψ (pv 0)) (cf _)));refine gw qu (qm hr.units) (sP hr.units T.jz (Ω ?_ aC)) (ψ (pv 1)) (cf _);refine jB rfl (show de zI (ax vK) _ ["step","rest"] [] from⟨rfl,by decide +kernel,by decide +kernel,by decide +kernel,by decide +kernel,by decide +kernel⟩) ?_ ?_;refine iW (ψ (pv 2));intro s0 H0 fp0;refine⟨(mQ rfl ?_),lW,(ψ (pv 0))⟩;refine je (dD (i:=0) (show (["step","rest"]:List Ξ).Nodup by decide +kernel)) ?_;refine je (dD (i:=1) (show (["step","rest"]:List Ξ).Nodup by decide +kernel)) mR;refine bZ ?_ ?_;refine iy (rD (kB (LK hr.units T.Gg (Ω ?_ aC)))) (bS (du kM)) iz;refine jB rfl (show de zI (ax vK) _ ["step","rest"] [] from⟨rfl,by decide +kernel,by decide +kernel,by decide +kernel,by decide +kernel,by decide +kernel⟩) ?_ ?_;refine iW (ψ (pv 2));intro s0 H0 fp0;refine⟨(mQ rfl ?_),lW,?_⟩;refine je (dD (i:=0) (show (["step","rest"]:List Ξ).Nodup by decide +kernel)) ?_;refine je (dD (i:=1) (show (["step","rest"]:List Ξ).Nodup by decide +kernel)) mR;refine yj (cR ((Dn T).mono (by decide)) hr T.A8 T.w6.kp T.Ck (Ω (ψ (pv 0)) aC)) ?_;refine yj (cR ((Dn T).mono (by decide)) hr T.A8 T.w6.kp T.Ck (Ω (ψ (pv 1)) aC)) ?_;refine yk (R7 aaJ v9 Wr (wa hr.oS) aY (ψ (pv 1)) (ψ (pv 0)));refine bZ (iy (oY ?_) (bS (du kM)) iz) (bS (du ?_));refine vX (gw v9 (wa hr.oS) (lQ hr.units T.jK (Ω (ψ (pv 1)) aC)) aY (cf _)) ?_;refine vX (gw v9 (wa hr.oS) (Zt hr.units T.tN (Ω (ψ (pv 1)) aC)) aY (cf _)) (yl ?_);refine gw qu (qm hr.units) (ψ (pv 2)) (QZ hr.units T.Gc (Ω ?_ aC)) (cf _);refine cR ((Xm T).mono (by decide)) hr T.ME T.Ft.kp T.M5 (Ω (ψ (pv 1)) (Ω (gd aC) aC));refine yj (cR ((Xo T).mono (by decide)) hr T.NP T.GX.kp T.Oe (Ω (ψ (pv 2)) aC)) (yk ?_);refine vZ nM (nL hr.units) (cR ((vG T).mono (by decide)) hr T.tM T.rZ.kp T.tU (Ω (ψ (pv 1)) aC)) ?_ (cf _);refine ψ (pv 2)
theorem WT:∀ds G Q,xu ds G Q->ds.length=1:=by
 intro ds G Q h;obtain⟨_,rfl,_⟩:=h;rfl
theorem WS(T:Txt K mg t):cz P w K mg base 48 t.Fc t.Fk ["n"] xu:=by
 refine eE (k:=47) (sp:=xu) T.Nl tK (by decide) WT IP (fun cdv A outer s H E hr=>?_) YZ;refine bZ (fh (i:=1) tK.nd Ja) ?_;refine bZ ?_ (bZ ?_ (bS (du kM)));refine jC bu rfl (iW (cR ((Ih T).mono (by decide)) hr T.FV T.Cv.kp T.GC (Ω (ψ (pv 0)) aC))) ?_ ?_;refine dD (i:=2) tK.nd;refine bZ ?_ (bS (IZ hr.units (ψ (pv 1)) (ψ (pv 3)) (cZ jg jh (IY hr.units (ψ (pv 1)) (ψ (pv 3)) aY) aY)));refine fh (i:=3) tK.nd (sP hr.units T.jz (Ω ?_ aC));refine jB rfl (show de zH (ax vJ) _ ["step","rest"] [] from⟨rfl,by decide +kernel,by decide +kernel,by decide +kernel,by decide +kernel,by decide +kernel⟩) ?_ ?_;refine iW (ψ (pv 2));intro s0 H0 fp0;refine⟨(mQ rfl ?_),lW,(ψ (pv 0))⟩;refine je (dD (i:=0) (show (["step","rest"]:List Ξ).Nodup by decide +kernel)) ?_;refine je (dD (i:=1) (show (["step","rest"]:List Ξ).Nodup by decide +kernel)) mR;refine jC bu rfl (ux T.iY (Ω aY aC)) (dD (i:=4) tK.nd) ?_;refine bZ (fh (i:=5) tK.nd ?_) ?_;refine cR ((W5 T).mono (by decide)) hr T.NQ T.GY.kp T.Of (Ω (ψ (pv 0)) aC);refine bZ (iy (oY ?_) (bS (du kM)) iz) ?_;refine sQ (rD (kB (yh T4 rfl (ψ (pv 5)) T.jY T.MG rfl (by decide) (by decide)))) (vY ?_);refine gw qu (qm hr.units) (ψ (pv 5)) (Zo hr.units T.jX (Ω ?_ aC)) (cf _);refine jB rfl (show de zH (ax vJ) _ ["steps"] [1] from⟨rfl,by decide +kernel,by decide +kernel,by decide +kernel,by decide +kernel,by decide +kernel⟩) ?_ ?_;refine ZE (ψ (pv 1));intro s0 H0 fp0;refine⟨(dD (i:=0) (show (["steps","due"]:List Ξ).Nodup by decide +kernel)),lW,?_⟩;refine gd (Ω (ψ (pv 0)) (Ω (ZF hr.units (ψ (pv 1)) (ψ (pv 0))) aC));refine bZ ?_ (bS (Eo (Ax Tz PySem.F.slot_list_append PySem.F.type_list_append Mq (ψ (pv 5)) (Ω aY aC))));refine iy (rD (kB (LK hr.units T.Gg (Ω ?_ aC)))) (bS (du kM)) iz;refine jB rfl (show de zH (ax vJ) _ ["one"] [] from⟨rfl,by decide +kernel,by decide +kernel,by decide +kernel,by decide +kernel,by decide +kernel⟩) ?_ ?_;refine iW (ψ (pv 5));intro s0 H0 fp0;refine⟨(dD (i:=0) (show (["one"]:List Ξ).Nodup by decide +kernel)),lW,?_⟩;refine yj (yh kit_tuple rfl (ψ (pv 0)) T.jY T.jz rfl (by decide) (by decide)) ?_;refine yk (cR ((Dn T).mono (by decide)) hr T.A8 T.w6.kp T.Ck (Ω (ix (ψ (pv 0)) aY) aC))
theorem WR:∀ds G Q,vL ds G Q->ds.length=1:=by
 intro ds G Q h;obtain⟨_,_,rfl,_⟩:=h;rfl
theorem HX(T:Txt K mg t):cz P w K mg base 46 t.E9 t.Fi ["steps"] vL:=by
 refine eE (k:=45) (sp:=vL) T.Fu FC (by decide) WR Iz (fun cdv A outer s H E hr=>?_) Yq;refine bZ (fh (i:=1) FC.nd ?_) (bZ ?_ (bS (du kM)));refine cR ((HZ T).mono (by decide)) hr T.FW T.Cw.kp T.GD (Ω ?_ aC);refine jB rfl (show de DR (ax xW) _ ["step"] [] from⟨rfl,by decide +kernel,by decide +kernel,by decide +kernel,by decide +kernel,by decide +kernel⟩) ?_ ?_;refine iW (ψ (pv 0));intro s0 H0 fp0;refine⟨(dD (i:=0) (show (["step"]:List Ξ).Nodup by decide +kernel)),lW,(gd (Ω (ψ (pv 0)) (Ω aY aC)))⟩;refine iy (oY ?_) (bS (du (vZ MP Md ?_ uy (cf _)))) iz;refine sQ ?_ (vY (oY ?_));refine gw qu (qm hr.units) (El hr.units T.Ba (Ω ?_ aC)) (ψ (pv 1)) (cf _);refine jB rfl (show de DR (ax xW) _ ["step"] [1] from⟨rfl,by decide +kernel,by decide +kernel,by decide +kernel,by decide +kernel,by decide +kernel⟩) ?_ ?_;refine iW (ψ (pv 0));intro s0 H0 fp0;refine⟨(dD (i:=0) (show (["step","size"]:List Ξ).Nodup by decide +kernel)),lW,(cZ rE rF (ψ (pv 1)) (ψ (pv 0)))⟩;refine vX (gw nM (nL hr.units) ?_ aY (cf _)) ?_;refine Ax YX PySem.F.slot_list_count PySem.F.type_list_count YY (ψ (pv 0)) ?_;refine Ω (Ek hr.units T.tN (Ω (ψ (pv 0)) aC)) aC;refine yl (gw wo wb (Ek hr.units T.tN (Ω (ψ (pv 0)) aC)) aY (cf _));refine cR ((vG T).mono (by decide)) hr T.tM T.rZ.kp T.tU ?_;refine Ω (sP hr.units T.jz (Ω (ψ (pv 0)) aC)) aC
theorem WQ:∀ds G Q,nk ds G Q->ds.length=1:=by
 intro ds G Q h;obtain⟨_,rfl,_⟩:=h;rfl
theorem MA(T:Txt K mg t):cz P w K mg base 49 t.BM t.vh ["script"] nk:=by
 refine eE (k:=48) (sp:=nk) T.Om oV (by decide) WQ Iw (fun cdv A outer s H E hr=>?_) YI;refine bZ (iy (oY ?_) (bS (du kM)) iz) ?_;refine sQ ?_ ?_;refine gw qu (qm hr.units) ?_ (gd (Ω (gd (Ω aY (Ω aY aC))) aC)) (cf _);refine cR ((vG T).mono (by decide)) hr T.tM T.rZ.kp T.tU (Ω (gd (Ω aY aC)) aC);refine sQ (gw UD Wp ?_ uy (cf _)) (vY ?_);refine cR ((vG T).mono (by decide)) hr T.tM T.rZ.kp T.tU ?_;refine Ω (gd (Ω aY (Ω aY (Ω aY aC)))) aC;refine gw qu (qm hr.units) ?_ ?_ (cf _);refine cR ((vG T).mono (by decide)) hr T.tM T.rZ.kp T.tU (Ω (gd (Ω aY (Ω aY aC))) aC);refine gd (Ω (gd (Ω aY (Ω aY aC))) (Ω (gd (Ω aY (Ω aY aC))) aC));refine bZ (iy (rD (kB ?_)) (bS (du kM)) iz) (bZ ?_ (bS (du kM)));refine cR ((WS T).mono (by decide)) hr T.aaF T.Nl.kp T.aa2 ?_;refine Ω (cZ jg jh aY ?_) aC;refine cR ((sJ T).mono (by decide)) hr T.pU T.oG.kp T.pX (Ω ?_ (Ω aY aC));refine cR ((Ia T).mono (by decide)) hr T.FY T.Cz.kp T.GG ?_;refine Ω (cR ((Ic T).mono (by decide)) hr T.FZ T.CB.kp T.GH (Ω (ψ (pv 0)) (Ω aY aC))) (aC);refine jC bu rfl (iW ?_) (dD (i:=1) oV.nd) ?_;refine cZ jg jh (ql ?_) (vW (ψ (pv 0)) (uw aY) (uw aY));refine Ω (cR ((Ic T).mono (by decide)) hr T.FZ T.CB.kp T.GH (Ω (ψ (pv 0)) (Ω aY aC))) (aC);refine bZ ?_ ?_;refine fh (i:=2) oV.nd (cR ((Ia T).mono (by decide)) hr T.FY T.Cz.kp T.GG (Ω (ψ (pv 1)) aC));refine bZ (fh (i:=3) oV.nd (sP hr.units T.jz (Ω ?_ aC))) ?_;refine cR ((Xs T).mono (by decide)) hr T.NS T.Hc.kp T.Oh ?_;refine Ω (ψ (pv 2)) (Ω aY (Ω aY aC));refine bZ ?_ ?_;refine iy ?_ (bS ?_) iz;refine gw wo wb (Ek hr.units T.tN (Ω ?_ aC)) aY (cf _);refine jB rfl (show de zG (ax vH) _ ["step","rest"] [] from⟨rfl,by decide +kernel,by decide +kernel,by decide +kernel,by decide +kernel,by decide +kernel⟩) ?_ ?_;refine iW (ψ (pv 3));intro s0 H0 fp0;refine⟨(mQ rfl ?_),lW,(ψ (pv 0))⟩;refine je (dD (i:=0) (show (["step","rest"]:List Ξ).Nodup by decide +kernel)) ?_;refine je (dD (i:=1) (show (["step","rest"]:List Ξ).Nodup by decide +kernel)) mR;refine fh (i:=3) oV.nd (gd (Ω (gd (Ω aY (Ω aY aC))) ?_));refine Ω (gd (Ω aY (Ω aY aC))) (Ω (gd (Ω aY (Ω aY aC))) aC);refine bZ ?_ ?_;refine iy (rD (kB (cR ((Xk T).mono (by decide)) hr T.NM T.GU.kp T.Ob (Ω (ψ (pv 3)) aC)))) ?_ ?_;refine bS (du kM);refine iz;refine bZ ?_ ?_;refine Av (i:=4) rfl oV.nd (show de zG (ax vH) _ ["step","rest"] [] from⟨rfl,by decide +kernel,by decide +kernel,by decide +kernel,by decide +kernel,by decide +kernel⟩) ?_ ?_;refine iW (ψ (pv 3));intro s0 H0 fp0;refine⟨(mQ rfl ?_),lW,(ψ (pv 0))⟩;refine je (dD (i:=0) (show (["step","rest"]:List Ξ).Nodup by decide +kernel)) ?_;refine je (dD (i:=1) (show (["step","rest"]:List Ξ).Nodup by decide +kernel)) mR;refine bZ ?_ ?_;refine Az (cZ jg jh aY ?_) (En (ψ (pv 4)) ?_);refine cR ((sJ T).mono (by decide)) hr T.pU T.oG.kp T.pX (Ω (ψ (pv 2)) (Ω aY aC));refine cR ((sJ T).mono (by decide)) hr T.pU T.oG.kp T.pX ?_;refine Ω (ψ (pv 2)) (Ω (lQ hr.units T.jK (Ω (ψ (pv 4)) aC)) aC);refine bZ ?_ (bS (iy (oY ?_) (bS (du kM)) iz));refine Av (i:=5) rfl oV.nd (show de zG (ax vH) _ ["turn"] [2] from⟨rfl,by decide +kernel,by decide +kernel,by decide +kernel,by decide +kernel,by decide +kernel⟩) ?_ ?_
 refine ux T.iY (Ω (cZ jg jh aY ?_) aC);refine cR ((sJ T).mono (by decide)) hr T.pU T.oG.kp T.pX (Ω (ψ (pv 2)) (Ω aY aC));intro s0 H0 fp0;refine⟨(dD (i:=0) (show (["turn","pen"]:List Ξ).Nodup by decide +kernel)),lW,(cZ jg jh aY ?_)⟩;refine cR ((sJ T).mono (by decide)) hr T.pU T.oG.kp T.pX (Ω (ψ (pv 1)) (Ω aY aC));refine sQ (rD (kB ?_)) (vY (rD (kB ?_)));refine cR ((HX T).mono (by decide)) hr T.MF T.Fu.kp T.M6 ?_;refine Ω (JM hr.units T.jX (Ω (ψ (pv 4)) aC)) aC;refine cR ((HX T).mono (by decide)) hr T.MF T.Fu.kp T.M6 ?_;refine Ω (JM hr.units T.jX (Ω (ψ (pv 5)) aC)) aC
end
def gn(K:PySem.W.Frag)(nm:Ξ)(st:bp):Prop:=∃f d,fj K nm nm st f d/\PySem.W.nsIn K bH nm=some (some (.ref f))
theorem cE{K:PySem.W.Frag}{nm:Ξ}{st:bp}{f:η}{od an:Option η}{sl:Array (Option δ)}{oc kV dc pm cd ct:δ}(a:PySem.W.nsIn K bH nm=some (some (.ref f)))(l:K.lookup f=some ⟨oc,od,.func (PySem.W.fnOf nm nm (qT st) (lD st) (ax st) .none kV dc pm an cd ct),sl⟩)(c:PySem.W.codeIn K cd nm=true)(k:PySem.W.keepIn K (.ref f)=true):gn K nm st:=⟨f,_,U7 l c k,a⟩
theorem xc{K:PySem.W.Frag}{h:Heap}{mg:Ξ->Option δ}(X:K.In h)(G:h.Ns bH mg)
  (h0:gn K "refuse_above" DF)
  (h1:gn K "common_divisor" DE)
  (h2:gn K "common_multiple" DD)
  (h3:gn K "lowest_terms" DC)
  (h4:gn K "counts_within" DB)
  (h5:gn K "first_counted" DA)
  (h6:gn K "rings" Dz)
  (h7:gn K "rings_at" zP)
  (h8:gn K "round_of" zO)
  (h9:gn K "first_missed" Dy)
  (h10:gn K "first_within" Dx)
  (h11:gn K "shares_of" zN)
  (Gv:gn K "exact_of" xY)
  (h13:gn K "exact_from" Dv)
  (h14:gn K "grown_at" xX)
  (h15:gn K "clear_of" Dt)
  (h16:gn K "exact_steps" zM)
  (h17:gn K "exact_with" zL)
  (h18:gn K "first_filling" Ds)
  (h19:gn K "can_fill" Dr)
  (h20:gn K "missed_by" Dq)
  (h21:gn K "_law_cell_at" D0)
  (h22:gn K "_law_next" DZ)
  (h23:gn K "_law_pen_of" DY)
  (h24:gn K "_law_draw" DX)
  (h25:gn K "_law_whole" DW)
  (h26:gn K "_law_parts_by" zK)
  (h27:gn K "_law_common" DV)
  (h28:gn K "_law_round" DU)
  (h29:gn K "_law_exact" zJ)
  (h30:gn K "_law_all_with" DT)
  (h31:gn K "_law_right" vK)
  (h32:gn K "_law_steps_right" vJ)
  (h33:gn K "_law_none_right" xW)
  (MW:gn K "law" vH)
  {t0:kz} (gint0:PySem.W.nsIn K bH "MOST_NUMBERS" = some (some (.int 10000 t0)))
  (z0:PySem.W.nsIn K bH "all" = some none)
  (z1:PySem.W.nsIn K bH "bool" = some none)
  (z2:PySem.W.nsIn K bH "enumerate" = some none)
  (z3:PySem.W.nsIn K bH "int" = some none)
  (z4:PySem.W.nsIn K bH "isinstance" = some none)
  (z5:PySem.W.nsIn K bH "len" = some none)
  (z6:PySem.W.nsIn K bH "list" = some none)
  (z7:PySem.W.nsIn K bH "max" = some none)
  (z8:PySem.W.nsIn K bH "min" = some none)
  (z9:PySem.W.nsIn K bH "range" = some none)
  (Hx:PySem.W.nsIn K bH "sorted" = some none)
  (Hw:PySem.W.nsIn K bH "sum" = some none)
  (Hu:PySem.W.nsIn K bH "tuple" = some none)
  : ∃t:Hh,Txt K mg t/\∀(s:ζ) (v:δ),rm s t.vh ⟨[v],[]⟩ [("script",v)]:=by
 obtain⟨f0,d0,F0,a0⟩:=h0;obtain⟨f1,d1,F1,a1⟩:=h1;obtain⟨f2,d2,F2,a2⟩:=h2;obtain⟨f3,d3,F3,a3⟩:=h3;obtain⟨f4,d4,F4,a4⟩:=h4;obtain⟨f5,d5,F5,a5⟩:=h5;obtain⟨f6,d6,F6,a6⟩:=h6;obtain⟨f7,d7,F7,a7⟩:=h7;obtain⟨f8,d8,F8,a8⟩:=h8;obtain⟨f9,d9,F9,a9⟩:=h9;obtain⟨f10,d10,F10,a10⟩:=h10;obtain⟨f11,d11,F11,a11⟩:=h11;obtain⟨f12,d12,F12,a12⟩:=Gv;obtain⟨f13,d13,F13,a13⟩:=h13;obtain⟨f14,d14,F14,a14⟩:=h14;obtain⟨f15,d15,F15,a15⟩:=h15;obtain⟨f16,d16,F16,a16⟩:=h16;obtain⟨f17,d17,F17,a17⟩:=h17;obtain⟨f18,d18,F18,a18⟩:=h18;obtain⟨f19,d19,F19,a19⟩:=h19;obtain⟨f20,d20,F20,a20⟩:=h20;obtain⟨f21,d21,F21,a21⟩:=h21;obtain⟨f22,d22,F22,a22⟩:=h22;obtain⟨f23,d23,F23,a23⟩:=h23;obtain⟨f24,d24,F24,a24⟩:=h24;obtain⟨f25,d25,F25,a25⟩:=h25;obtain⟨f26,d26,F26,a26⟩:=h26;obtain⟨f27,d27,F27,a27⟩:=h27;obtain⟨f28,d28,F28,a28⟩:=h28;obtain⟨f29,d29,F29,a29⟩:=h29;obtain⟨f30,d30,F30,a30⟩:=h30;obtain⟨f31,d31,F31,a31⟩:=h31;obtain⟨f32,d32,F32,a32⟩:=h32;obtain⟨f33,d33,F33,a33⟩:=h33;obtain⟨f34,d34,F34,a34⟩:=MW;exact⟨⟨f0,d0,f1,d1,f2,d2,f3,d3,f4,d4,f5,d5,f6,d6,f7,d7,f8,d8,f9,d9,f10,d10,f11,d11,f12,d12,f13,d13,f14,d14,f15,d15,f16,d16,f17,d17,f18,d18,f19,d19,f20,d20,f21,d21,f22,d22,f23,d23,f24,d24,f25,d25,f26,d26,f27,d27,f28,d28,f29,d29,f30,d30,f31,d31,f32,d32,f33,d33,f34,d34,t0⟩,⟨F0,
  PySem.W.mg_of X G a0,
  F0.binds (ps:=["many","most"]) fun _ _ _ _ _ _ us hl=>by obtain⟨_,_,rfl⟩:=lj hl;rfl,
  F1,
  PySem.W.mg_of X G a1,
  F1.binds (ps:=["one","other"]) fun _ _ _ _ _ _ us hl=>by obtain⟨_,_,rfl⟩:=lj hl;rfl,
  F2,
  PySem.W.mg_of X G a2,
  F2.binds (ps:=["numbers"]) fun _ _ _ _ _ _ us hl=>by obtain⟨_,rfl⟩:=jF hl;rfl,
  F3,
  PySem.W.mg_of X G a3,
  F3.binds (ps:=["top","bottom"]) fun _ _ _ _ _ _ us hl=>by obtain⟨_,_,rfl⟩:=lj hl;rfl,
  F4,
  PySem.W.mg_of X G a4,
  F4.binds (ps:=["clocks","many"]) fun _ _ _ _ _ _ us hl=>by obtain⟨_,_,rfl⟩:=lj hl;rfl,
  F5,
  PySem.W.mg_of X G a5,
  F5.binds (ps:=["clock","counts","many"]) fun _ _ _ _ _ _ us hl=>by obtain⟨_,_,_,rfl⟩:=Bc hl;rfl,
  F6,
  PySem.W.mg_of X G a6,
  F6.binds (ps:=["clock","number"]) fun _ _ _ _ _ _ us hl=>by obtain⟨_,_,rfl⟩:=lj hl;rfl,
  F7,
  PySem.W.mg_of X G a7,
  F7.binds (ps:=["clocks","number"]) fun _ _ _ _ _ _ us hl=>by obtain⟨_,_,rfl⟩:=lj hl;rfl,
  F8,
  PySem.W.mg_of X G a8,
  F8.binds (ps:=["clocks"]) fun _ _ _ _ _ _ us hl=>by obtain⟨_,rfl⟩:=jF hl;rfl,
  F9,
  PySem.W.mg_of X G a9,
  F9.binds (ps:=["clocks"]) fun _ _ _ _ _ _ us hl=>by obtain⟨_,rfl⟩:=jF hl;rfl,
  F10,
  PySem.W.mg_of X G a10,
  F10.binds (ps:=["clocks","clock"]) fun _ _ _ _ _ _ us hl=>by obtain⟨_,_,rfl⟩:=lj hl;rfl,
  F11,
  PySem.W.mg_of X G a11,
  F11.binds (ps:=["clocks"]) fun _ _ _ _ _ _ us hl=>by obtain⟨_,rfl⟩:=jF hl;rfl,
  F12,
  PySem.W.mg_of X G a12,
  F12.binds (ps:=["n"]) fun _ _ _ _ _ _ us hl=>by obtain⟨_,rfl⟩:=jF hl;rfl,
  F13,
  PySem.W.mg_of X G a13,
  F13.binds (ps:=["steps","clocks"]) fun _ _ _ _ _ _ us hl=>by obtain⟨_,_,rfl⟩:=lj hl;rfl,
  F14,
  PySem.W.mg_of X G a14,
  F14.binds (ps:=["steps","clocks","number"]) fun _ _ _ _ _ _ us hl=>by obtain⟨_,_,_,rfl⟩:=Bc hl;rfl,
  F15,
  PySem.W.mg_of X G a15,
  F15.binds (ps:=["clocks","clock"]) fun _ _ _ _ _ _ us hl=>by obtain⟨_,_,rfl⟩:=lj hl;rfl,
  F16,
  PySem.W.mg_of X G a16,
  F16.binds (ps:=["n"]) fun _ _ _ _ _ _ us hl=>by obtain⟨_,rfl⟩:=jF hl;rfl,
  F17,
  PySem.W.mg_of X G a17,
  F17.binds (ps:=["steps"]) fun _ _ _ _ _ _ us hl=>by obtain⟨_,rfl⟩:=jF hl;rfl,
  F18,
  PySem.W.mg_of X G a18,
  F18.binds (ps:=["clocks","step","steps"]) fun _ _ _ _ _ _ us hl=>by obtain⟨_,_,_,rfl⟩:=Bc hl;rfl,
  F19,
  PySem.W.mg_of X G a19,
  F19.binds (ps:=["clocks","steps"]) fun _ _ _ _ _ _ us hl=>by obtain⟨_,_,rfl⟩:=lj hl;rfl,
  F20,
  PySem.W.mg_of X G a20,
  F20.binds (ps:=["clocks"]) fun _ _ _ _ _ _ us hl=>by obtain⟨_,rfl⟩:=jF hl;rfl,
  F21,
  PySem.W.mg_of X G a21,
  F21.binds (ps:=["script","k"]) fun _ _ _ _ _ _ us hl=>by obtain⟨_,_,rfl⟩:=lj hl;rfl,
  F22,
  PySem.W.mg_of X G a22,
  F22.binds (ps:=["seed"]) fun _ _ _ _ _ _ us hl=>by obtain⟨_,rfl⟩:=jF hl;rfl,
  F23,
  PySem.W.mg_of X G a23,
  F23.binds (ps:=["cell"]) fun _ _ _ _ _ _ us hl=>by obtain⟨_,rfl⟩:=jF hl;rfl,
  F24,
  PySem.W.mg_of X G a24,
  F24.binds (ps:=["pen","many"]) fun _ _ _ _ _ _ us hl=>by obtain⟨_,_,rfl⟩:=lj hl;rfl,
  F25,
  PySem.W.mg_of X G a25,
  F25.binds (ps:=["found"]) fun _ _ _ _ _ _ us hl=>by obtain⟨_,rfl⟩:=jF hl;rfl,
  F26,
  PySem.W.mg_of X G a26,
  F26.binds (ps:=["pen","least","most"]) fun _ _ _ _ _ _ us hl=>by obtain⟨_,_,_,rfl⟩:=Bc hl;rfl,
  F27,
  PySem.W.mg_of X G a27,
  F27.binds (ps:=["one","other"]) fun _ _ _ _ _ _ us hl=>by obtain⟨_,_,rfl⟩:=lj hl;rfl,
  F28,
  PySem.W.mg_of X G a28,
  F28.binds (ps:=["clocks"]) fun _ _ _ _ _ _ us hl=>by obtain⟨_,rfl⟩:=jF hl;rfl,
  F29,
  PySem.W.mg_of X G a29,
  F29.binds (ps:=["clocks"]) fun _ _ _ _ _ _ us hl=>by obtain⟨_,rfl⟩:=jF hl;rfl,
  F30,
  PySem.W.mg_of X G a30,
  F30.binds (ps:=["steps","clocks"]) fun _ _ _ _ _ _ us hl=>by obtain⟨_,_,rfl⟩:=lj hl;rfl,
  F31,
  PySem.W.mg_of X G a31,
  F31.binds (ps:=["made"]) fun _ _ _ _ _ _ us hl=>by obtain⟨_,rfl⟩:=jF hl;rfl,
  F32,
  PySem.W.mg_of X G a32,
  F32.binds (ps:=["n"]) fun _ _ _ _ _ _ us hl=>by obtain⟨_,rfl⟩:=jF hl;rfl,
  F33,
  PySem.W.mg_of X G a33,
  F33.binds (ps:=["steps"]) fun _ _ _ _ _ _ us hl=>by obtain⟨_,rfl⟩:=jF hl;rfl,
  F34,
  PySem.W.mg_of X G a34,
  F34.binds (ps:=["script"]) fun _ _ _ _ _ _ us hl=>by obtain⟨_,rfl⟩:=jF hl;rfl,
  PySem.W.mg_of X G gint0,
  PySem.W.mg_none_of X G z0,
  PySem.W.mg_none_of X G z1,
  PySem.W.mg_none_of X G z2,
  PySem.W.mg_none_of X G z3,
  PySem.W.mg_none_of X G z4,
  PySem.W.mg_none_of X G z5,
  PySem.W.mg_none_of X G z6,
  PySem.W.mg_none_of X G z7,
  PySem.W.mg_none_of X G z8,
  PySem.W.mg_none_of X G z9,
  PySem.W.mg_none_of X G Hx,
  PySem.W.mg_none_of X G Hw,
  PySem.W.mg_none_of X G Hu⟩,fun s v=>by
  obtain⟨_,_,_,_,_,_,_,_,_,rfl,_⟩:=F34.ex;exact .of_eq rfl⟩
theorem WO(K:PySem.W.Frag)(H:Hp)(a:η)(ns:List Int)(hl:ns.length≤63)(ho:Cq H)(hS:eN K H a (ns.map V.int)):oD K nk [.ref a] H (fun v _=>v=.bl true) fun _ _ _=>False:=by
 refine⟨[.gW (ns.map .int)],fun _=>none,fun d _=>d=.bl true,.cons ?_ .nil,(fun _ _ e=>nomatch e),⟨ns,rfl,hl,rfl⟩,fun v H' d G' hv _ _ q=>?_⟩
 ·unfold Hv;refine⟨a,ns.map V.int,rfl,?_,aI.ints ns⟩;rcases hS with (h|h)|h
  ·rcases ho a with z|⟨o,xs,z⟩
   ·rw[z] at h;cases h
   ·rw[z] at h;cases h
  ·exact .inl h
  ·exact .inr h
 ·subst q;exact x9 hv
theorem walk{l:PySem.W.OpenLaw}{q:aw}{loose:List Ξ}{XP:(Ξ->Option δ)->Heap->Prop}{YP:aG->Heap->Prop}{d:DefRec}{K:Params->PySem.W.Frag}(hn:l.most=some 63)(hdf:d.params.defaults=[])
  (hY:∀(w:aG) (h:Heap),YP w h->(K w.params).In h)
  (F:∀(w:aG) (mg:Ξ->Option δ) (fa:η) (h:Heap),(K w.params).In h->h.Ns bH mg->mg d.name=some (.ref fa) ->
   ∃fd:aL,(∀(s:ζ) (u:δ),rm s fd ⟨[u],[]⟩ [("script",u)])/\∀base:Heap,(K w.params).In base->base.Ns bH mg->kF l.prog w (K w.params) mg base wM 49 fa fd ["script"] (oD (K w.params) nk)):
  PySem.W.WalkO q loose XP YP l.row.toRowW d [] (fun f vs=>PySem.call f vs):=
 L2.yV (n:=63) (k:=49) (x:="script") (CX:=fun _=>wM) (sp:=fun w=>oD (K w.params) nk) hn (by decide) hdf ⟨rfl,by decide,by decide⟩ hY F (fun w H a ns hl ho hS=>WO (K w.params) H a ns hl ho hS) fun _ _ _ _ _ z=>z
end My
open PySem PySem.W PyProof.Rows
set_option maxRecDepth 100000 in
set_option maxHeartbeats 0 in
theorem PySem.Challenge.cw_coverclocks_k63_exact_clocks_by_steps_holds : PySem.Challenge.rw_coverclocks_k63_exact_clocks_by_steps.Holds := by
 w_on;o_law;k_head;(case hw=>w_witness2)
 k_fill
 refine My.walk (l:=PySem.Challenge.rw_coverclocks_k63_exact_clocks_by_steps) rfl rfl (fun w h Y=>PySem.W.kIn_of Y) ?F
 case F=>
  intro w mg fa h KX G hmg
  refine' Exists.elim (My.xc KX G (My.cE ?a0 ?l0 ?c0 ?k0) (My.cE ?a1 ?l1 ?c1 ?k1) (My.cE ?a2 ?l2 ?c2 ?k2) (My.cE ?a3 ?l3 ?c3 ?k3) (My.cE ?a4 ?l4 ?c4 ?k4) (My.cE ?a5 ?l5 ?c5 ?k5) (My.cE ?a6 ?l6 ?c6 ?k6) (My.cE ?a7 ?l7 ?c7 ?k7) (My.cE ?a8 ?l8 ?c8 ?k8) (My.cE ?a9 ?l9 ?c9 ?k9) (My.cE ?a10 ?l10 ?c10 ?k10) (My.cE ?a11 ?l11 ?c11 ?k11) (My.cE ?a12 ?l12 ?c12 ?k12) (My.cE ?a13 ?l13 ?c13 ?k13) (My.cE ?a14 ?l14 ?c14 ?k14) (My.cE ?a15 ?l15 ?c15 ?k15) (My.cE ?a16 ?l16 ?c16 ?k16) (My.cE ?a17 ?l17 ?c17 ?k17) (My.cE ?a18 ?l18 ?c18 ?k18) (My.cE ?a19 ?l19 ?c19 ?k19) (My.cE ?a20 ?l20 ?c20 ?k20) (My.cE ?a21 ?l21 ?c21 ?k21) (My.cE ?a22 ?l22 ?c22 ?k22) (My.cE ?a23 ?l23 ?c23 ?k23) (My.cE ?a24 ?l24 ?c24 ?k24) (My.cE ?a25 ?l25 ?c25 ?k25) (My.cE ?a26 ?l26 ?c26 ?k26) (My.cE ?a27 ?l27 ?c27 ?k27) (My.cE ?a28 ?l28 ?c28 ?k28) (My.cE ?a29 ?l29 ?c29 ?k29) (My.cE ?a30 ?l30 ?c30 ?k30) (My.cE ?a31 ?l31 ?c31 ?k31) (My.cE ?a32 ?l32 ?c32 ?k32) (My.cE ?a33 ?l33 ?c33 ?k33) (My.cE ?a34 ?l34 ?c34 ?k34) ?gint0 ?z0 ?z1 ?z2 ?z3 ?z4 ?z5 ?z6 ?z7 ?z8 ?z9 ?Hx ?Hw ?Hu) ?fin
  case a0|l0|c0|k0|a1|l1|c1|k1|a2|l2|c2|k2|a3|l3|c3|k3|a4|l4|c4|k4|a5|l5|c5|k5|a6|l6|c6|k6|a7|l7|c7|k7|a8|l8|c8|k8|a9|l9|c9|k9=>k_is
  case a10|l10|c10|k10|a11|l11|c11|k11|a12|l12|c12|k12|a13|l13|c13|k13|a14|l14|c14|k14|a15|l15|c15|k15|a16|l16|c16|k16|a17|l17|c17|k17|a18|l18|c18|k18|a19|l19|c19|k19=>k_is
  case a20|l20|c20|k20|a21|l21|c21|k21|a22|l22|c22|k22|a23|l23|c23|k23|a24|l24|c24|k24|a25|l25|c25|k25|a26|l26|c26|k26|a27|l27|c27|k27|a28|l28|c28|k28|a29|l29|c29|k29=>k_is
  case a30|l30|c30|k30|a31|l31|c31|k31|a32|l32|c32|k32|a33|l33|c33|k33|a34|l34|c34|k34|gint0|z0|z1|z2|z3|z4|z5|z6|z7|z8|z9|Hx|Hw|Hu=>k_is
  case fin=>
   rintro t ⟨T,b⟩
   have e2:=hmg.symm.trans T.NW
   cases e2
   exact⟨t.vh,b,fun base _ _=>My.MA T⟩
