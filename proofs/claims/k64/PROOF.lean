import PyProof.Rows.All
import Wide.All
import OpenK.AllK
import Wide.FinOn
import Lean
import PyProof.EqAt
import PyProof.EqKinds
import PyProof.TupleCall
import PyProof.NeKinds
import KE.KSortAsk
import PySem.SetTable
import PyProof.SetKind
import PyProof.TupleKey
import PyProof.IsRules
import PyProof.DictKinds
import PyProof.FactsAll.set
import PyProof.RangeIter
import PyProof.Seq
import PyProof.ForAny
import PyProof.WalksMore
import PyProof.CollectWalk
import PyProof.CollectIter
import PyProof.WalksS
import PyProof.Rows.SetFrom
import KE.KSortTup
import PyProof.Draws
import PyProof.Rows.Range3
import PyProof.SetRoads
import PyProof.Rows.CallKwBuiltin
import KE.KMinKey
import KE.KMinBuiltin
import PyProof.DictRoadsH
import KE.BitLaws
import PyProof.ExcClass2
import PyProof.InstSpecial
import PyProof.RaisesMany
import PyProof.Rows.Own
import KE.KTryDeep
import PyProof.InstStoreFacts
import PyProof.ExcArgs
import PyProof.ListCopy
import PyProof.Rows.SortShell
import PySem.Challenge.RW_coverclocks_k64_clocks_moved
set_option Elab.async false
set_option linter.all false
set_option maxRecDepth 100000
set_option maxHeartbeats 6400000
namespace PySem.W.Fast
def tw10457682569282805721:=0
def tw10470711882366968303:=0
def tw1055093002696441833:=0
def tw10831185696666701633:=0
def tw10849571207101775800:=0
def tw10935933224768626850:=0
def tw11197859049035594584:=0
def tw11265705142496051592:=0
def tw11494139524183879105:=0
def tw11613373270236407672:=0
def tw12553154438247443500:=0
def tw12741343204390420698:=0
def tw12779828100912876179:=0
def tw12924755644120874095:=0
def tw12942064757634561453:=0
def tw12943163405286664454:=0
def tw13341872819425104777:=0
def tw13520268236965380214:=0
def tw13830261897752397198:=0
def tw1384116340927325606:=0
def tw14032000139004728705:=0
def tw14246653934065953099:=0
def tw14406798076287504809:=0
def tw14904243895774854872:=0
def tw15130093488531718910:=0
def tw15441533582114783449:=0
def tw15712823170155550456:=0
def tw1572180541432979807:=0
def tw15789309564115978645:=0
def tw15914465136250233194:=0
def tw16037733027296234839:=0
def tw16079831933403449189:=0
def tw16195037188650617770:=0
def tw16249624638186748262:=0
def tw16461720411644998476:=0
def tw17361705916651840700:=0
def tw17607816163441911530:=0
def tw17759568242442862728:=0
def tw17952072141550355056:=0
def tw18051120733646262170:=0
def tw18326691490751020:=0
def tw1898584497587876832:=0
def tw2827225972008967036:=0
def tw3039585350533910962:=0
def tw3125152507468862102:=0
def tw3298569287362547732:=0
def tw3403593974487681963:=0
def tw3478297974376110758:=0
def tw3549958023531412089:=0
def tw3816157785139976295:=0
def tw3854131779360117597:=0
def tw4009621544717878749:=0
def tw4034381780212262796:=0
def tw4661487701153089179:=0
def tw4758988436063318140:=0
def tw482207591605184033:=0
def tw4882488357787914147:=0
def tw4966271834268569301:=0
def tw5278519087908073254:=0
def tw5345042246347543587:=0
def tw5457173864325075962:=0
def tw5483727700505687623:=0
def tw5601114671580408267:=0
def tw5620890690381710221:=0
def tw5771338286978435591:=0
def tw5913223361400391326:=0
def tw5961912267609438009:=0
def tw5970998823901101221:=0
def tw6325260057712066724:=0
def tw6894979580916473257:=0
def tw7287846007340587804:=0
def tw7456404076158804943:=0
def tw7562828596754103093:=0
def tw7862197085205053189:=0
def tw8343583949125483104:=0
def tw8459026889110475990:=0
def tw863971707334671173:=0
def tw8879651594680992010:=0
def tw8910128010926863959:=0
def tw9258733217683531734:=0
def tw9475757230463467913:=0
def tw10488984988216826769:=0
def tw10863944653649961439:=0
def tw12114621089419444498:=0
def tw12322213634171843037:=0
def tw1241146590232377335:=0
def tw12419423874825763342:=0
def tw13107755074779622627:=0
def tw13628237971946015618:=0
def tw14039983824446255652:=0
def tw1439238335845444298:=0
def tw14714923873237606149:=0
def tw14745687001840766948:=0
def tw15410248270076691833:=0
def tw15785079961043382808:=0
def tw15943670623781601906:=0
def tw16078853621600441079:=0
def tw17107537050315802343:=0
def tw1721633881827419171:=0
def tw17488013785061344998:=0
def tw17741333153033195935:=0
def tw267621364570804498:=0
def tw2714442021877970666:=0
def tw298735010763138412:=0
def tw3619017668893272112:=0
def tw5048915296954394314:=0
def tw5570861893720169685:=0
def tw6594893300595988010:=0
def tw6636841471525336922:=0
def tw6788114767657768513:=0
def tw7694862045179833574:=0
def tw7972862029128903718:=0
def tw8636731588706709293:=0
def tw9048618793625060760:=0
def tw9371518847854171948:=0
def tw9795737181422249862:=0
def tw10889909858542682872:=0
def tw11600641411508379979:=0
def tw12841094882957936721:=0
def tw13647487422701750239:=0
def tw14209457012399322875:=0
def tw15361626150688581497:=0
def tw16038396374008497432:=0
def tw16629572828457739518:=0
def tw16653668407132409536:=0
def tw1755861861784971808:=0
def tw18375522469978795693:=0
def tw2064943443910366152:=0
def tw2091262530407323595:=0
def tw3158765872727654273:=0
def tw370537835429017362:=0
def tw4231176553754148121:=0
def tw4635174369415322496:=0
def tw4642328667826709848:=0
def tw4991085428552336043:=0
def tw5328518995955339965:=0
def tw5581914951288595465:=0
def tw5974913365297338142:=0
def tw6181930089635684031:=0
def tw7038670713081437841:=0
def tw7056182175909191023:=0
def tw714395674087599161:=0
def tw7315959036838341685:=0
def tw7433332117186649226:=0
def tw7998708825839854036:=0
def tw8886034823528211630:=0
def tw9316138503616695949:=0
def tw9786276471460473648:=0
def tw14630362116915610023:=0
def tw16835755149086133603:=0
def tw800434564571074984:=0
def tw905073386738075772:=0
def tw10968413248380912909:=0
def tw2116941621369200079:=0
def tw2826151839120056896:=0
def tw14090372087599619439:=0
def tw14660153067862769701:=0
end PySem.W.Fast
open Array renaming getElem?_toList->ao,getElem?_eq_some_iff->ba,length_toList->cC,forIn_toList->cL,toList_filterMap->gd,mem_toList_iff->gL,getElem?_eq_none_iff->gS,getD->jQ,getElem?_eq_getElem->lQ,toList->mM,toList_extract->pf
open Bool renaming false_ne_true->Ω,false_eq_true->bI,and_eq_true->cN,not_true->fR,eq_iff_iff->nj,and_true->pF
open Classical renaming byContradiction->ax
open False renaming elim->fq
open ForInStep renaming yield->fY
open Int renaming toNat_natCast->dD,emod_lt_of_pos->dR,emod_nonneg->eZ,eq_ofNat_of_zero_le->fN,mul_le_mul_of_nonneg_left->gh,natCast_ediv->gK,toNat_of_nonneg->jV,dvd_of_emod_eq_zero->mS,natCast_mul->ng,ediv_nonneg->nh,le_of_lt->qL
open List renaming length_map->μ,mem_cons_self->χ,size_toArray->ψ,mem_cons_of_mem->ω,mem_map->Φ,getElem?_map->ag,length_cons->au,length_append->av,range->aB,mem_append_right->aC,mem_cons->aM,getElem?_eq_some_iff->aP,getElem?_eq_getElem->aU,mem_of_getElem?->aY,replicate->bo,map_map->bp,map_append->bw,mem_append->bC,map_cons->bH,mem_range->bO,mem_append_left->bX,map_congr_left->b8,getElem?_eq_none_iff->cA,append_nil->cI,pairwise_map->cU,nil_append->dj,length_singleton->dk,mem_singleton->dt,length->du,getElem?_append_right->dH,length_take->dM,all_eq_true->dN,zip_cons_cons->dQ,getElem?_append_left->dU,nodup_cons->eo,getElem?_of_mem->er,append_assoc->eu,replicate_succ->eH,length_nil->eY,length_range->fg,pairwise_iff_getElem->fo,lookup_cons->fI,pairwise_cons->fX,eq_nil_of_length_eq_zero->gg,flatten_cons->gm,getElem?_range->gY,toArray->iu,take_of_length_le->iS,range_succ_eq_map->iT,getElem?_set_self->iU,map_take->i0,map_drop->i3,length_replicate->jo,getD->jq,mem_of_mem_take->jN,getElem?_set_ne->jO,mem_map_of_mem->jT,filterMap_cons->jU,nodup_nil->kc,mem_filterMap->kI,map_filterMap->kJ,perm_ext_iff_of_nodup->kX,getD_eq_getElem?_getD->kY,all_cons->kZ,take_sublist->ls,ext_getElem?->lu,getElem?_zip_eq_some->lM,drop_eq_getElem_cons->lN,take_length->mF,mem_of_mem_eraseIdx->mG,getElem_mem->mH,getElem?_take_of_lt->mI,filterMap_cons_some->mJ,pairwise_singleton->mP,length_eq_zero_iff->mQ,getElem?_replicate->mR,of_mem_zip->m8,mem_filter->m9,drop_eq_nil_of_le->nH,take_append_drop->oz,getElem?_toArray->oA,length_pos_iff->pI,flatMap_append->pJ,filter_eq_self->pK,zip_nil_right->qF,map_nil->qG,getElem?_drop->qH,find?_eq_none->qI,filterMap_map->qJ,all_map->qK,foldl->uk
open List.Pairwise renaming map->iI,nil->rF
open List.cons renaming injEq->nc
open Nat renaming le_refl->Θ,le_trans->az,zero_le->aK,ne_of_lt->aQ,lt_of_lt_of_le->bu,lt_irrefl->cv,gcd->cS,lt_succ_of_lt->dC,lcm->eX,ne_of_gt->fG,mul_comm->fH,lt_succ_self->gI,le_of_dvd->gQ,mod_lt->iB,gcd_pos_of_pos_left->iE,le_add_right->ja,pow_le_pow_right->jK,mul_le_mul_right->jL,lt_trans->jM,mul_le_mul_left->jS,lt_of_le_of_lt->kH,dvd_mul_right->lr,succ_pos->my,pow_succ->mz,le_of_lt->mB,gcd_dvd_left->mC,gcd_comm->mD,dvd_mul_left->mE,le_mul_of_pos_right->mO,not_lt_zero->m7,lcm_dvd->nG,mul_assoc->pD,min_self->qE,mul_pos->rX,lcm_pos->rY
open Ne renaming symm->eW
open Option renaming getD_none->sA,map->uj
open Option.some renaming inj->ay
open Or renaming inr->ox,inl->qD
open PyProof.Rows renaming slot_tuple_getitem->cg,callWith_type1->cK,IntsAre->dF,IsTup->gJ,get?_update_seq->g8,listUpdate_at->iZ,AllBare->jr,SortKind->j9,assignInOrder_cons->kD,boot_range->lL,listItems_at->mx,seqEpoch_at->nB
open PyProof.Rows.F renaming plain_set_update_loop->bR,entry_set_update_loop->dq
open PySem renaming wpAny_bind->γ,Value->δ,Addr->ε,Shared->ζ,wpAny_pure->η,wpAny->π,Expr->ρ,Str->Δ,Program->af,Heap->ai,sizeLine->aj,World->ar,FuncData->aG,Pos->aL,Spec->aO,Obj->aT,SetTable->aW,Stmt->aX,mainGlobals->bq,wpAny_holding->br,Around->bA,wpAny_setState_of->bB,starEach->bE,sizeLine_eq->bM,wpAny_forIn_list->bN,codeAny_builtin->bS,wpAny_newObj_type->b9,wpAny_call_entry->cz,wpAny_seqItems->cR,wpAny_truthy_bool->dB,wpAny_specialOf->ee,wpAny_mono->ei,plainId_quiet->eA,wpAny_callSpecial?_slot->eE,mem_of_lookup->eG,NameKind->eI,Builtin->eJ,wpAny_typeOf->eR,wpAny_passesOwn->eV,Moved->fm,bootBuiltins->fF,Scope->fW,codeAny_mono->gv,codeAny->gw,Env->gA,wpAny_isInstance->gG,wpAny_updateSeq->g7,wpAny_eqBool_tuple->il,wpAny_storeSet_of->iG,wpAny_pyIter_list->iH,wpAny_field->iP,richCompare->iQ,isSubtype_tuple_tuple->jn,wpAny_execs_nil->jI,IsPart->jP,wpAny_tryCatch->j7,wpAny_runValue->j8,wpAny_of_eq->kl,wpAny_letGo->km,CmpOp->ko,wpAny_tupleItemsOf->kA,wpAny_setField_rec->kB,wpAny_Call_Name_kw->kC,PassesOwn->kG,wpAny_standAt->kT,wpAny_newList->kU,wpAny_rule->lJ,call_meets->lK,wpAny_comprehension_free->mr,wpAny_askSetting->mv,noFill_tuple_add->mw,codeAny_of_tree->m6,seqIndex_of->nA,IsRangeIter->nI,isSubtype_type->oj,SetTable->om,BindsTo->oB,Operator->pe,seq_tuple_add->pC,Fin->qC,call->uh
open PySem.Around renaming under_plainId->bZ,under_plain->qM
open PySem.AutoSeq1 renaming sub_tuple_tuple->mL
open PySem.Builtin.Builtins renaming bindParams->kL
open PySem.Builtin.Frozenset renaming updateFrom->kf,slot0->mT
open PySem.Builtin.Int renaming intBits->gZ
open PySem.Builtin.List renaming listExtendWith->eS,listTooLong->fK,listSameRef->mK
open PySem.Builtin.Range renaming rangeSize->cq,rangePlace?->hJ,small->jW,rangeFields->lP
open PySem.Builtin.Slice renaming slicePlaces->ft,sliceAdjust->hE,sliceApplied->lb
open PySem.Builtin.Tuple renaming tupleHashOf->bY,tupleExact->fJ,tupleItemsOf->gR,tupleCompareSizes->jt
open PySem.Calls renaming Name_function_global->la,call_function_entry->lO
open PySem.Code renaming quiet_builtin->kK
open PySem.F renaming args_tuple_add_2->iq,entry_tuple_add->iD,slot_tuple_add->iR,slot_range_contains->kF,args_tuple_lt_2->mN,entry_tuple_lt->nF,type_list_pop->oo,slot_tuple_lt->oq,slot_list_pop->ot,slot_dict_len->ou
open PySem.Heap renaming get?_push_of_some->ξ,lt_size->Ψ,get?_push_size->ab,get?_update_other->bz,SameBut->cQ,get?_update_self->dS,size_push->kd
open PySem.Heap.SameBut renaming update->cZ
open PySem.Moved renaming trans->kn
open PySem.NameKind renaming free->cw,cell->pE
open PySem.Obj renaming mapSeq->aS,putSet->gH
open PySem.PassesOwn renaming never->bT
open PySem.SeqAt.RcAt renaming lists_lengths->qB
open PySem.SetTable renaming insertAt->ae,grown->dP,below->fx,sizeAbove->kE,sameMemory->pH,relaid->ug,Probe->uS
open PySem.Shared renaming TypeIs->kW
open PySem.Str renaming empty->gz,ofString->ip
open PySem.Value renaming ref->aJ,none->cM,isInt_shape->et,bool->fk,type->jJ,isInt->nC,notImplemented->pb,int->qA
open PySem.W renaming Frag->ι,mg_of->aA,mg_none_of->b5,nsIn->cG,kia_one->di,kitOne->fy,keepIn->gx,fnOf->gy,kas_ask->iA,codeIn->ka,methodObj->lp,kitx_list->lq,cellsFrom_some->nE,kat_nil->oi,kitx_dict->rE,OpenLaw->ui
open PySem.W.KasT renaming kasWp_bind->g9
open PySem.Walks renaming list->uf
open Sum renaming inr->lU,inl->lV
open True renaming intro->pd
namespace L2
open PySem PySem.Spec PyProof.Rows
abbrev Key:=Sum Int Δ
def Hr:Key->δ->Bool
 |.inl k,v=>nC k v
 |.inr x,v=>δ.isStrOf x v
def Qv(w:ar):Key->Int
 |.inl k=>hashInt k
 |.inr x=>hashStr w x
theorem eL:∀{k:Key} {v:δ},Hr k v=true->(∃i t,k=lV i/\v=qA i t)∨(∃x t,k=lU x/\v=δ.str x t)
 |.inl i,v,h=>by
  obtain⟨t,e⟩:=et (k:=i) (v:=v) h;exact .inl ⟨i,t,rfl,e⟩
 |.inr x,v,h=>by
  obtain⟨t,e⟩:=δ.isStrOf_shape (x:=x) (v:=v) h;exact .inr ⟨x,t,rfl,e⟩
theorem MM(a b:Int):decide ((lV a:Key)=lV b)=(a==b):=by
 by_cases e:a=b
 ·subst e;simp
 ·have h:¬(lV a:Key)=lV b:=fun q=>e (lV.inj q);rw[decide_eq_false h];exact (beq_eq_false_iff_ne.mpr e).symm
theorem MJ(a b:Δ):decide ((lU a:Key)=lU b)=decide (a=b):=by
 by_cases e:a=b
 ·subst e;simp
 ·have h:¬(lU a:Key)=lU b:=fun q=>e (lU.inj q);rw[decide_eq_false h,decide_eq_false e]
theorem ML(a:Int)(b:Δ):decide ((lV a:Key)=lU b)=false:=decide_eq_false (fun q=>nomatch q)
theorem MK(a:Δ)(b:Int):decide ((lU a:Key)=lV b)=false:=decide_eq_false (fun q=>nomatch q)
def uE(prog:af)(w:ar):PySem.KeyKind prog w Key where
 is:=Hr
 hash:=Qv w
 inj:=fun v a b ha hb=>by
  rcases eL ha with⟨i,t,rfl,rfl⟩|⟨x,t,rfl,rfl⟩
  ·rcases eL hb with⟨j,u,rfl,e⟩|⟨y,u,rfl,e⟩
   ·injection e with e1 _;rw[e1]
   ·exact nomatch e
  ·rcases eL hb with⟨j,u,rfl,e⟩|⟨y,u,rfl,e⟩
   ·exact nomatch e
   ·injection e with e1 _;rw[e1]
 byValue:=fun k v h=>by
  rcases eL h with⟨i,t,rfl,rfl⟩|⟨x,t,rfl,rfl⟩<;>rfl
 pyHash:=fun hv h=>by
  rcases eL hv with⟨i,t,rfl,rfl⟩|⟨x,t,rfl,rfl⟩
  ·exact wpAny_pyHash_int h
  ·exact wpAny_pyHash_str h
 eqBool:=fun hu hv h=>by
  rcases eL hu with⟨i,t,rfl,rfl⟩|⟨x,t,rfl,rfl⟩
  ·rcases eL hv with⟨j,u,rfl,rfl⟩|⟨y,u,rfl,rfl⟩
   ·rw[MM] at h;exact wpAny_eqBool_int h
   ·rw[ML] at h;exact SeqAt.EqAt.int_str i t y u _ _ _ _ h
  ·rcases eL hv with⟨j,u,rfl,rfl⟩|⟨y,u,rfl,rfl⟩
   ·rw[MK] at h;exact SeqAt.EqAt.str_int x t j u _ _ _ _ h
   ·rw[MJ] at h;exact wpAny_eqBool_str h
 «strs»:=fun k x t v h=>by
  rcases eL h with⟨i,u,rfl,e⟩|⟨y,u,rfl,e⟩
  ·exact nomatch e
  ·injection e with e1 _;subst e1;cases v<;>rfl
end L2
namespace L2
open PySem PySem.Spec PyProof.Rows
inductive V where
 |aq|bl (b:Bool)|int (i:Int)|str (x:Δ)|Ed (b:Array UInt8)|M3 (b:UInt64)|ref (a:ε)|ty (n:String)
 deriving DecidableEq
def RelV:V->δ->Prop
 |.aq,u=>u=cM
 |.bl b,u=>u=fk b
 |.int i,u=>∃t,u=qA i t
 |.str x,u=>∃t,u=δ.str x t
 |.Ed b,u=>∃t,u=δ.bytes b t
 |.M3 b,u=>∃t,u=δ.float b t
 |.ref a,u=>u=aJ a
 |.ty n,u=>u=jJ n
abbrev bc:List V->List δ->Prop:=Paired RelV
theorem bc.length{xs:List V}{us:List δ}(r:bc xs us):xs.length=us.length:=Paired.length r
theorem bc.get:∀{xs:List V} {us:List δ} {i:Nat} {x:V},bc xs us->xs[i]?=some x->∃u,us[i]?=some u/\RelV x u
 |_,_,_,_,.nil,e=>by simp at e
 |_,_,0,_,.cons r _,e=>by simp at e;subst e;exact⟨_,rfl,r⟩
 |_,_,i+1,x,.cons _ t,e=>by
  obtain⟨u,h1,h2⟩:=bc.get (i:=i) (x:=x) t (by simpa using e);exact⟨u,by simpa using h1,h2⟩
theorem bc.set{x:V}{u:δ}(r:RelV x u):∀{xs:List V} {us:List δ} (i:Nat),bc xs us->bc (xs.set i x) (us.set i u)
 |_,_,_,.nil=>.nil
 |_,_,0,.cons _ t=>.cons r t
 |_,_,i+1,.cons q t=>.cons q (bc.set r i t)
theorem bc.append:∀{xs ys:List V} {us ws:List δ},bc xs us->bc ys ws->bc (xs++ys) (us++ws)
 |_,_,_,_,.nil,s=>s
 |_,_,_,_,.cons r t,s=>.cons r (bc.append t s)
theorem bc.take:∀{xs:List V} {us:List δ} (n:Nat),bc xs us->bc (xs.take n) (us.take n)
 |_,_,0,_=>.nil
 |_,_,_+1,.nil=>.nil
 |_,_,n+1,.cons r t=>.cons r (bc.take n t)
theorem bc.drop:∀{xs:List V} {us:List δ} (n:Nat),bc xs us->bc (xs.drop n) (us.drop n)
 |_,_,0,r=>r
 |_,_,_+1,.nil=>.nil
 |_,_,n+1,.cons _ t=>bc.drop n t
def Nz:Option V->Option δ->Prop
 |some v,some u=>RelV v u
 |none,none=>True
 |_,_=>False
def KV{κ:Type}:List (κ×V)->List (κ×δ)->Prop:=Paired fun (p:κ×V) (q:κ×δ)=>p.1=q.1/\RelV p.2 q.2
def kV:Key->V
 |.inl i=>.int i
 |.inr x=>.str x
inductive HO where
 |lst (xs:List V)
 |tup (xs:List V)
 |dK (kvs:List (Key×V))|dT (kvs:List (List Key×V))
 |set (S:Int->Bool) (n:Nat)
 |ins (C dx:ε) (fs:List (Δ×V))
 |own (x:ε)
 |xd (fs:List (Δ×V))
 |met (f x:ε)
 |GK (lo hi:Int)
 |gf (o:aT) (u:HO)
 |uZ (ps:Array δ)
 |ext (φ:ai->Prop)
abbrev Hp:=ε->Option HO
def upd(H:Hp)(a:ε)(o:HO):Hp:=fun b=>if b=a then some o else H b
theorem cm{H:Hp}{a:ε}{o:HO}:upd H a o a=some o:=by unfold upd;rw[if_pos rfl]
theorem bG{H:Hp}{a b:ε}{o:HO}(h:b≠a):upd H a o b=H b:=by unfold upd;rw[if_neg h]
theorem dz{H:Hp}{a b:ε}{o:HO}(h:H a=some o)(h':H b=none):a≠b:=by
 intro e;subst e;rw[h] at h';cases h'
def iO(h:ai)(a:ε)(items:Array δ):Prop:=∃o,h.get? a=some o/\o.cls=.type "tuple"/\(∃n,o.data=.seq items n)/\o.dict=none
theorem iO.tup{h:ai}{a:ε}{items:Array δ}(x:iO h a items):gJ h a items:=let ⟨o,h1,h2,h3,_⟩:=x;⟨o,h1,h2,h3⟩
theorem iO.new(h:ai)(items:Array δ):iO (h.push { cls:=.type "tuple",data:=.seq items }) h.objs.size items:=⟨_,ab _ rfl,rfl,⟨_,rfl⟩,rfl⟩
theorem iO.lt{h:ai}{a:ε}{items:Array δ}(x:iO h a items):a<h.objs.size:=let ⟨_,ho,_⟩:=x;Ψ ho
section
variable (P:af) (w:ar)
def eN(H:Hp)(h:ai)(a:ε):HO->Prop
 |.lst xs=>xs.length≤aj/\∃(its:List δ) (n:Nat),bc xs its/\h.get? a=some { cls:=.type "list",data:=.seq its.toArray n }
 |.tup xs=>xs.length≤aj/\∃its:List δ,bc xs its/\iO h a its.toArray
 |.dK kvs=>kvs.length≤aj/\(a==sysModules)=false/\∃vs,KV kvs vs/\h.DictOf (uE P w) a vs
 |.dT kvs=>kvs.length≤aj/\(a==sysModules)=false/\∃xs:List (List Key×ε×δ),
   Paired (fun (p:List Key×V) (q:List Key×ε×δ)=>p.1=q.1/\H q.2.1=some (.tup (p.1.map kV))/\RelV p.2 q.2.2) kvs xs ∧
   ∃o es ep,h.get? a=some o/\o.ExactDict/\o.data=.dict es ep/\es.toList=xs.map (entryOfKey (tupleKind (uE P w)))/\(xs.map (·.1)).Nodup
 |.set S n=>h.SetOf (intKind P w) a S n
 |.ins C dx fs=>H dx=some (.own a)/\fs.length≤1000/\dx≠a/\h.get? a=some (PySem.W.instObj C dx) ∧
   ∃mA,h.Ns1 dx mA/\(∀f,Nz (fs.lookup f) (mA f))/\PySem.Within mA (fs.map (·.1))
 |.own _=>∃o,h.get? a=some o
 |.xd fs=>∃mA,h.Ns1 a mA/\∀f,Nz (fs.lookup f) (mA f)
 |.GK lo hi=>∃t u v,h.get? a=some { cls:=.type "range",data:=.fields #[.int lo t,.int hi u,.int 1 v]}
 |.gf o u=>h.get? a=some o/\eN H h a u
 |.uZ ps=>h.get? a=some { cls:=.none,data:=.fields ps }
 |.met f x=>h.get? a=some (lp (.ref f) (.ref x))
 |.ext φ=>φ h/\(∃o,h.get? a=some o)/\∀h1 h2:ai,φ h1->(∀o,h1.get? a=some o->h2.get? a=some o)->φ h2
def ik(H:Hp)(h:ai):Prop:=∀a o,H a=some o->eN P w H h a o
end
section
variable {P:af} {w:ar} {H H':Hp} {h h':ai} {a:ε} {o:HO}
theorem eN.lt(x:eN P w H h a o):a<h.objs.size:=by
 cases o with
 |lst xs=>obtain⟨_,_,_,_,e⟩:=x;exact Ψ e
 |tup xs=>obtain⟨_,_,_,p⟩:=x;exact p.lt
 |dK kvs=>obtain⟨_,_,_,_,o,_,_,e,_⟩:=x;exact Ψ e
 |dT kvs=>obtain⟨_,_,_,_,o,_,_,e,_⟩:=x;exact Ψ e
 |set S n=>obtain⟨o,_,_,_,e,_⟩:=x;exact Ψ e
 |ins C dx fs=>obtain⟨_,_,_,e,_⟩:=x;exact Ψ e
 |own y=>obtain⟨_,e⟩:=x;exact Ψ e
 |xd fs=>obtain⟨_,⟨_,_,_,e,_⟩,_⟩:=x;exact Ψ e
 |GK lo hi=>obtain⟨_,_,_,e⟩:=x;exact Ψ e
 |gf ob u=>obtain⟨e,_⟩:=x;exact Ψ e
 |uZ ps=>exact Ψ (show h.get? a=some _ from x)
 |met f y=>exact Ψ (show h.get? a=some _ from x)
 |ext φ=>obtain⟨_,⟨_,e⟩,_⟩:=x;exact Ψ e
theorem Paired.Mk{α β:Type}{F G:α->β->Prop}:∀{l₁:List α} {l₂:List β},Paired F l₁ l₂->(∀a b,F a b->G a b)->Paired G l₁ l₂
 |_,_,.nil,_=>.nil
 |_,_,.cons r t,f=>.cons (f _ _ r) (Paired.Mk t f)
theorem eN.uu(x:eN P w H h a o)(k:∀b u,(b=a∨H b=some (.own a))->h.get? b=some u->h'.get? b=some u)
  (ho:∀b,H b=some (.own a)->H' b=some (.own a)) (ht:∀b xs,H b=some (.tup xs)->H' b=some (.tup xs)):eN P w H' h' a o:=by
 induction o with
 |lst xs=>obtain⟨z,its,n,r,e⟩:=x;exact⟨z,its,n,r,k _ _ (.inl rfl) e⟩
 |tup xs=>obtain⟨z,its,r,ob,e,c⟩:=x;exact⟨z,its,r,ob,k _ _ (.inl rfl) e,c⟩
 |dK kvs=>obtain⟨z,y,vs,r,ob,es,ep,e,c⟩:=x;exact⟨z,y,vs,r,ob,es,ep,k _ _ (.inl rfl) e,c⟩
 |dT kvs=>
  obtain⟨z,y,xs,r,ob,es,ep,e,c⟩:=x;exact⟨z,y,xs,Paired.Mk r fun p q z=>⟨z.1,ht _ _ z.2.1,z.2.2⟩,ob,es,ep,k _ _ (.inl rfl) e,c⟩
 |set S n=>obtain⟨ob,es,ep,t,e,c⟩:=x;exact⟨ob,es,ep,t,k _ _ (.inl rfl) e,c⟩
 |ins C dx fs=>
  obtain⟨d,z,ne,e,mA,⟨od,es,ep,e2,c⟩,r⟩:=x;exact⟨ho _ d,z,ne,k _ _ (.inl rfl) e,mA,⟨od,es,ep,k _ _ (.inr d) e2,c⟩,r⟩
 |own y=>obtain⟨ob,e⟩:=x;exact⟨ob,k _ _ (.inl rfl) e⟩
 |xd fs=>obtain⟨mA,⟨od,es,ep,e,c⟩,r⟩:=x;exact⟨mA,⟨od,es,ep,k _ _ (.inl rfl) e,c⟩,r⟩
 |GK lo hi=>obtain⟨t,u,v,e⟩:=x;exact⟨t,u,v,k _ _ (.inl rfl) e⟩
 |gf ob u ih=>obtain⟨e,q⟩:=x;exact⟨k _ _ (.inl rfl) e,ih q⟩
 |uZ ps=>
  have e:h.get? a=some { cls:=.none,data:=.fields ps }:=x;show h'.get? a=some { cls:=.none,data:=.fields ps };exact k a _ (.inl rfl) e
 |met f y=>
  have e:h.get? a=some (lp (.ref f) (.ref y)):=x;show h'.get? a=some (lp (.ref f) (.ref y));exact k a _ (.inl rfl) e
 |ext φ=>obtain⟨p,⟨o,e⟩,st⟩:=x;exact⟨st _ _ p fun o q=>k _ _ (.inl rfl) q,⟨o,k _ _ (.inl rfl) e⟩,st⟩
theorem ik.lt(x:ik P w H h)(e:H a=some o):a<h.objs.size:=(x a o e).lt
theorem ik.fresh(x:ik P w H h)(e:h.objs.size≤a):H a=none:=by
 cases q:H a with
 |none=>rfl
 |some u=>exact absurd (bu (x.lt q) e) (cv _)
theorem ik.kept(x:ik P w H h)(k:∀b u,h.get? b=some u->h'.get? b=some u):ik P w H h':=fun a o e=>
 (x a o e).uu (fun b u _ q=>k b u q) (fun _ q=>q) fun _ _ q=>q
theorem ik.laid(x:ik P w H h)(k:∀b u,h.get? b=some u->h'.get? b=some u)(hp:h.objs.size≤a)(new:eN P w (upd H a o) h' a o):ik P w (upd H a o) h':=fun b u e=>by
 have hn:=x.fresh hp;by_cases hb:b=a
 ·subst hb;rw[cm] at e;cases e;exact new
 ·rw[bG hb] at e;exact (x b u e).uu (fun c v _ q=>k c v q) (fun c q=>by rw[bG (dz q hn)];exact q) fun c xs q=>by rw[bG (dz q hn)];exact q
end
def Rd(H:Hp)(a:ε)(u:HO):Prop:=H a=some u∨∃o,H a=some (.gf o u)
theorem Rd.ok{P:af}{w:ar}{H:Hp}{h:ai}{a:ε}{u:HO}(r:Rd H a u)(x:ik P w H h):eN P w H h a u:=by
 rcases r with r|⟨o,r⟩
 ·exact x a u r
 ·obtain⟨_,q⟩:=x a _ r;exact q
def HP:Option HO->Prop
 |some (.lst _)=>True
 |some (.dK _)=>True
 |some (.dT _)=>True
 |some (.set _ _)=>True
 |some (.ins _ _ _)=>True
 |some (.ext _)=>True
 |_=>False
section
variable {P:af} {w:ar} {H:Hp} {h h':ai} {x e:ε} {o':HO}
theorem ik.write(ok:ik P w H h)(mu:HP (H x))(he:e=x∨H e=some (.own x))(k:∀b u,b≠e->h.get? b=some u->h'.get? b=some u)(heo:∃u,h'.get? e=some u)
  (new:eN P w (upd H x o') h' x o'):ik P w (upd H x o') h':=fun b u q=>by
 have nown:∀c y,H c=some (.own y)->c≠x:=fun c y r z=>by subst z;rw[r] at mu;exact mu
 have ntup:∀c xs,H c=some (.tup xs)->c≠x:=fun c xs r z=>by subst z;rw[r] at mu;exact mu
 by_cases hb:b=x
 ·subst hb;rw[cm] at q;cases q;exact new
 ·rw[bG hb] at q;by_cases hbe:b=e
  ·have q':H b=some (.own x):=by
    rcases he with z|z
    ·exact absurd (hbe.trans z) hb
    ·rw[hbe];exact z
   rw[q] at q';cases q';obtain⟨v,hv⟩:=heo;exact⟨v,by rw[hbe];exact hv⟩
  ·refine (ok b u q).uu (fun c v hc r=>k c v ?_ r) (fun c r=>by rw[bG (nown c b r)];exact r) fun c xs r=>by rw[bG (ntup c xs r)];exact r
   rcases hc with rfl|hc
   ·exact hbe
   ·rintro rfl;rcases he with z|z
    ·exact nown c b hc z
    ·rw[hc] at z;cases z;exact hb rfl
end
structure Un(fs ex:List ε)(H H':Hp)(h h':ai):Prop where
 keep:∀b o,h.get? b=some o->H b=none->b∉fs->b∉ex->h'.get? b=some o
 slot:∀b o,h.get? b=some o->H b=none->b∈fs->b∉ex->∃sl,h'.get? b=some { o with slots:=sl }
 free:∀b o,h.get? b=some o->H b=none->b∉ex->H' b=none
 there:∀b o,h.get? b=some o->b∉ex->∃o',h'.get? b=some o'
 pO:∀b xs,H b=some (.tup xs)->H' b=some (.tup xs)
 oX:∀b o u,H b=some (.gf o u)->H' b=some (.gf o u)
 pP:∀b ps,H b=some (.uZ ps)->∃more,H' b=some (.uZ (ps++more))
section
variable {fs fs' ex ex':List ε} {H H1 H2:Hp} {h h1 h2 h':ai} {a x e:ε} {o:HO}
theorem Un.any(u:Un fs ex H H1 h h1){b:ε}{ob:aT}(q:h.get? b=some ob)(n:H b=none)(hx:b∉ex):∃sl,h1.get? b=some { ob with slots:=sl }:=by
 by_cases hb:b∈fs
 ·exact u.slot b ob q n hb hx
 ·exact⟨ob.slots,u.keep b ob q n hb hx⟩
theorem Un.kept(k:∀b u,h.get? b=some u->h'.get? b=some u):Un fs ex H H h h':=
 ⟨fun b ob q _ _ _=>k b ob q,fun b ob q _ _ _=>⟨ob.slots,k b ob q⟩,fun _ _ _ n _=>n,fun b ob q _=>⟨ob,k b ob q⟩,fun _ _ q=>q,fun _ _ _ q=>q,fun _ ps q=>⟨#[],by rw[q];simp⟩⟩
theorem Un.refl:Un fs ex H H h h:=Un.kept fun _ _ q=>q
theorem Un.laid(k:∀b u,h.get? b=some u->h'.get? b=some u)(hp:h.objs.size≤a)(hn:H a=none):Un fs ex H (upd H a o) h h' where
 keep:=fun b u q _ _ _=>k b u q
 slot:=fun b u q _ _ _=>⟨u.slots,k b u q⟩
 free:=fun b u q n _=>by rw[bG (aQ (bu (Ψ q) hp))];exact n
 there:=fun b u q _=>⟨u,k b u q⟩
 pO:=fun b xs q=>by rw[bG (dz q hn)];exact q
 oX:=fun b u xs q=>by rw[bG (dz q hn)];exact q
 pP:=fun b ps q=>⟨#[],by rw[bG (dz q hn),q];simp⟩
theorem Un.write(mu:HP (H x))(he:e=x∨H e=some (.own x))(k:∀b u,b≠e->h.get? b=some u->h'.get? b=some u)(heo:∃u,h'.get? e=some u):Un fs ex H (upd H x o) h h':=by
 have hx:∀b,H b=none->b≠x:=fun b n z=>by subst z;rw[n] at mu;exact mu
 have hb:∀b,H b=none->b≠e:=fun b n z=>by
  subst z;rcases he with r|r
  ·exact hx b n r
  ·rw[n] at r;cases r
 have hm:∀b u,H b=some u->¬HP (some u)->b≠x:=fun b u q nm z=>by subst z;rw[q] at mu;exact nm mu
 refine⟨fun b u q n _ _=>k b u (hb b n) q,fun b u q n _ _=>⟨u.slots,k b u (hb b n) q⟩,fun b u q n _=>by rw[bG (hx b n)];exact n,fun b u q _=>?_,
  fun b xs q=>by rw[bG (hm b _ q fun z=>z)];exact q,fun b u xs q=>by rw[bG (hm b _ q fun z=>z)];exact q,fun b ps q=>⟨#[],by rw[bG (hm b _ q fun z=>z),q];simp⟩⟩
 by_cases hbe:b=e
 ·subst hbe;exact heo
 ·exact⟨u,k b u hbe q⟩
end
def mU(h:ai)(H:Hp):List ε:=(aB h.objs.size).filter fun a=>(H a).isSome
def oT(h:ai)(H:Hp):ai:=PySem.W.hideAll h (mU h H)
theorem DT(h:ai)(H:Hp):(oT h H).objs.size=h.objs.size:=PySem.W.hideAll_size _ _
theorem Fw{h:ai}{H:Hp}{b:ε}{o:aT}(e:h.get? b=some o)(n:H b=none):(oT h H).get? b=some o:=
 PySem.W.hideAll_get _ e fun hm=>by
  have q:(H b).isSome=true:=(m9.mp hm).2;rw[n] at q;simp at q
theorem Jr{h:ai}{H:Hp}{b:ε}{o:aT}(e:(oT h H).get? b=some o):h.get? b=some o/\H b=none:=by
 have e':h.get? b=some o:=PySem.W.of_hideAll (mU h H) e;refine⟨e',?_⟩;cases q:H b with
 |none=>rfl
 |some x=>
  have hm:b∈mU h H:=m9.mpr ⟨bO.mpr (Ψ e'),by simp[q]⟩;have z:(oT h H).get? b=none:=PySem.W.hideAll_none (mU h H) hm;rw[z] at e;cases e
end L2
namespace L2
open PySem PySem.Spec PyProof.Rows
structure Mod(K:ι)(mg:Δ->Option δ)(base:ai):Prop where
 MI:K.In base
 glob:base.Ns bq mg
 blt:∃mb,base.Ns builtinsNs mb/\∀x:Δ,x≠"__name__"->mb x=fF x
 nolimit:base.NoLimit
structure Cx where
 prog:af
 w:ar
 K:ι
 mg:Δ->Option δ
 base:ai
 A:bA
 N:List Δ
 s₀:ζ
 H₀:Hp
 env:gA
 outer:List gA
 stack:List gA
 ex:List ε
 fn:Δ->Bool
 calm:Bool
 pn:List (ε×aT)
 xe:δ->ζ->Prop
def qm(l:List gA):List ε:=l.filterMap (·.frame)
abbrev Cx.fs(X:Cx):List ε:=qm X.outer
def Nw(sc:fW)(x:Δ):Prop:=sc.names.lookup x=some .local∨sc.names.lookup x=some .cell∨sc.names.lookup x=some .free
def Loc(sc:fW)(x:Δ):Prop:=sc.names.lookup x=some .local∨sc.names.lookup x=some .cell
def Look(env:gA)(h:ai)(m:Δ->Option δ)(x:Δ)(u:δ):Prop:=
 (env.kindOf x=some .local/\m x=some u)∨((env.kindOf x=some .cell∨env.kindOf x=some .free)/\∃c,env.cells.lookup x=some c/\h.IsCell c (some u))
structure Cx.Ok(X:Cx):Prop where
 mod:Mod X.K X.mg X.base
 kind:X.env.scope.kind=.function
 glob:X.env.globals=bq
 blt:X.env.builtins=builtinsNs
 above:X.s₀.heap.objs.size≤X.env.locals
 inj:∀x y c,X.env.cells.lookup x=some c->X.env.cells.lookup y=some c->x=y
 has:∀x,(X.env.kindOf x=some .cell∨X.env.kindOf x=some .free)->∃c,X.env.cells.lookup x=some c
 zv:∀x c,X.fn x=true->X.env.cells.lookup x=some c->X.s₀.heap.objs.size≤c
 hd:X.calm=true->X.A.handled=none
 frames:X.A.frames=some X.stack
 Cz:X.stack=X.outer∨(X.stack=X.env::X.outer/\X.env.frame=some X.env.locals)
 DV:∀b∈X.ex,b≠X.env.locals/\∀x c,X.env.cells.lookup x=some c->c≠b
 bs:∀b o,X.base.get? b=some o->X.s₀.heap.get? b=some o/\X.H₀ b=none
 t6:X.base.objs.size≤X.s₀.heap.objs.size
 uC:∀b o,X.base.get? b=some o->b∉X.ex
 uK:∀b∈X.ex,b∉X.fs
 kN:X.s₀.heap.FunFrames X.base X.outer
 xK:∀b∈X.fs,X.H₀ b=none
structure Inv(X:Cx)(pins:List (ε×aT))(σ:List (Option V))(H:Hp)(s:ζ):Prop where
 ok:X.Ok
 os:s.os=X.s₀.os
 bare:jr s.gens
 base:Un X.fs X.ex X.H₀ H X.s₀.heap s.heap
 loc:∃m,s.heap.Ns X.env.locals m/\∀(i:Nat) (x:Δ) (v:V),X.N[i]?=some x->σ[i]?=some (some v)->Nw X.env.scope x->∃u,RelV v u/\Look X.env s.heap m x u
 cell:∀x c,X.env.cells.lookup x=some c->∃v,s.heap.IsCell c v
 free:H X.env.locals=none
 kg:∀x c,X.env.cells.lookup x=some c->H c=none
 pin:∀p∈X.pn++pins,s.heap.get? p.1=some p.2/\H p.1=none/\p.1≠X.env.locals/\p.1∉X.fs/\∀v,p.2.data≠.cell v
 bV:ik X.prog X.w H s.heap
 len:σ.length=X.N.length
section
variable {X:Cx} {pins:List (ε×aT)} {σ:List (Option V)} {H H':Hp} {s:ζ} {h':ai}
theorem Cx.Ok.Qg(ok:X.Ok){b:ε}{o:aT}(e:X.base.get? b=some o):b∉X.fs:=fun hb=>by
 have:=(ok.kN.mem hb).1;rw[e] at this;cases this
theorem Inv.bs(I:Inv X pins σ H s):∀b o,X.base.get? b=some o->s.heap.get? b=some o/\H b=none:=fun b o e=>
 ⟨I.base.keep b o (I.ok.bs b o e).1 (I.ok.bs b o e).2 (I.ok.Qg e) (I.ok.uC b o e),I.base.free b o (I.ok.bs b o e).1 (I.ok.bs b o e).2 (I.ok.uC b o e)⟩
theorem Inv.bk(I:Inv X pins σ H s):∀b o,X.base.get? b=some o->s.heap.get? b=some o:=fun b o e=>(I.bs b o e).1
theorem Inv.mod(I:Inv X pins σ H s):Mod X.K X.mg X.base:=I.ok.mod
theorem Inv.lh(I:Inv X pins σ H s):X.K.In s.heap:=I.ok.mod.MI.keeps I.bk
theorem Inv.lt(I:Inv X pins σ H s):X.env.locals<s.heap.objs.size:=let ⟨_,hn,_⟩:=I.loc;hn.lt
theorem Inv.sz(I:Inv X pins σ H s):X.s₀.heap.objs.size≤s.heap.objs.size:=az I.ok.above (mB I.lt)
theorem Inv.Qf(I:Inv X pins σ H s){a:ε}(h:s.heap.objs.size≤a):a∉X.fs:=fun hb=>by
 obtain⟨_,o,ho,_⟩:=I.ok.kN.mem hb;exact absurd (bu (Ψ ho) (az I.sz h)) (cv _)
theorem Inv.xS(I:Inv X pins σ H s):∀x c,X.env.cells.lookup x=some c->c≠X.env.locals:=fun x c e z=>by
 obtain⟨v,o,ho,hd⟩:=I.cell x c e;obtain⟨m,⟨o',es,ep,ho',hd',_⟩,_⟩:=I.loc;rw[z,ho'] at ho;cases ho;rw[hd'] at hd;cases hd
theorem Inv.kN(I:Inv X pins σ H s):s.heap.FunFrames X.base X.outer:=by
 have all:∀(l:List gA),(∀b∈qm l,b∈X.fs)->X.s₀.heap.FunFrames X.base l->s.heap.FunFrames X.base l:=by
  intro l
  induction l with
  |nil=>intro _ _;trivial
  |cons env r ih=>
   intro hs hl;obtain⟨hk,⟨L,o,hf,hn,ho,hd⟩,hr⟩:=hl;have hL:L∈X.fs:=hs L (by unfold qm;rw[jU,hf];exact χ);obtain⟨sl,e⟩:=I.base.slot L o ho (I.ok.xK L hL) hL fun z=>I.ok.uK L z hL;exact⟨hk,⟨L,_,hf,hn,e,hd⟩,ih (fun b hb=>hs b (by unfold qm;rw[jU,hf];exact ω _ hb)) hr⟩
 exact all X.outer (fun _ hb=>hb) I.ok.kN
theorem Inv.stack(I:Inv X pins σ H s):s.heap.FunFrames X.base X.stack:=by
 rcases I.ok.Cz with e|⟨e,hf⟩
 ·rw[e];exact I.kN
 ·rw[e];obtain⟨m,hn,_⟩:=I.loc;refine .cons (by rw[I.ok.kind];decide) hf hn ?_ I.kN;exact ai.get?_none_of_le (az I.ok.t6 I.ok.above)
theorem Inv.wz(I:Inv X pins σ H s):∀b∈qm X.stack,b∈X.env.locals::X.fs:=fun b hb=>by
 rcases I.ok.Cz with e|⟨e,hf⟩
 ·rw[e] at hb;exact ω _ hb
 ·rw[e] at hb;unfold qm at hb;rw[jU,hf] at hb;exact hb
theorem Inv.yF(I:Inv X pins σ H s):∀b∈qm X.stack,H b=none:=fun b hb=>by
 rcases aM.mp (I.wz b hb) with e|hb
 ·rw[e];exact I.free
 ·obtain⟨_,o,ho,_⟩:=I.ok.kN.mem hb;exact I.base.free b o ho (I.ok.xK b hb) fun z=>I.ok.uK b z hb
theorem Inv.step{g':Array GenState}{t':Nat}{d':Drawn}{ch:List ε}(I:Inv X pins σ H s)
  (rO:∀b∈ch,(b∈X.ex∨X.s₀.heap.objs.size≤b)/\b≠X.env.locals/\(∀x c,X.env.cells.lookup x=some c->c≠b)/\∀p∈X.pn++pins,p.1≠b)
  (keep:∀b o,b≠X.env.locals->b∉X.fs->b∉ch->s.heap.get? b=some o->H b=none->h'.get? b=some o)
  (slot:∀b o,b≠X.env.locals->b∈X.fs->b∉ch->s.heap.get? b=some o->H b=none->∃sl,h'.get? b=some { o with slots:=sl }) (free:∀b o,b∉ch->s.heap.get? b=some o->H b=none->H' b=none)
  (there:∀b o,b∉ch->s.heap.get? b=some o->∃o',h'.get? b=some o')
  (pO:∀b xs,H b=some (.tup xs)->H' b=some (.tup xs)) (oX:∀b o u,H b=some (.gf o u)->H' b=some (.gf o u)) (pP:∀b ps,H b=some (.uZ ps)->∃more,H' b=some (.uZ (ps++more)))
  (ns:∀m,s.heap.Ns X.env.locals m->h'.Ns X.env.locals m) (bV:ik X.prog X.w H' h') (hg:jr g'):
  Inv X pins σ H' { s with heap:=h',gens:=g',drawn:=d',toks:=t' }:=by
 have neL:∀b o,X.s₀.heap.get? b=some o->b≠X.env.locals:=fun b o e=>aQ (bu (Ψ e) I.ok.above);have neC:∀b o,X.s₀.heap.get? b=some o->b∉X.ex->b∉ch:=fun b o e hx hb=>by
  rcases (rO b hb).1 with z|z
  ·exact hx z
  ·exact absurd (bu (Ψ e) z) (cv _)
 have cellK:∀x c,X.env.cells.lookup x=some c->∀v,s.heap.IsCell c v->h'.IsCell c v:=fun x c e v ⟨o,ho,hd⟩=>by
  have nch:c∉ch:=fun z=>(rO c z).2.2.1 x c e rfl;by_cases hc:c∈X.fs
  ·obtain⟨sl,q⟩:=slot c o (I.xS x c e) hc nch ho (I.kg x c e);exact⟨_,q,hd⟩
  ·exact⟨o,keep c o (I.xS x c e) hc nch ho (I.kg x c e),hd⟩
 refine⟨I.ok,I.os,hg,⟨fun b o e n hb hx=>?_,fun b o e n hb hx=>?_,fun b o e n hx=>?_,fun b o e hx=>?_,fun b xs e=>pO b xs (I.base.pO b xs e),fun b o xs e=>oX b o xs (I.base.oX b o xs e),fun b ps e=>?_⟩,?_,fun x c e=>?_,?_,fun x c e=>?_,fun p hp=>?_,bV,I.len⟩
 ·exact keep b o (neL b o e) hb (neC b o e hx) (I.base.keep b o e n hb hx) (I.base.free b o e n hx)
 ·obtain⟨sl,e1⟩:=I.base.slot b o e n hb hx;obtain⟨sl',e2⟩:=slot b _ (neL b o e) hb (neC b o e hx) e1 (I.base.free b o e n hx);exact⟨sl',e2⟩
 ·obtain⟨o',e1⟩:=I.base.there b o e hx;exact free b o' (neC b o e hx) e1 (I.base.free b o e n hx)
 ·obtain⟨o',e1⟩:=I.base.there b o e hx;exact there b o' (neC b o e hx) e1
 ·obtain⟨m1,e1⟩:=I.base.pP b ps e;obtain⟨m2,e2⟩:=pP b _ e1;exact⟨m1++m2,by rw[e2,Array.append_assoc]⟩
 ·obtain⟨m,hn,hl⟩:=I.loc;refine⟨m,ns m hn,fun i x v e1 e2 e3=>?_⟩;obtain⟨u,r,l⟩:=hl i x v e1 e2 e3;refine⟨u,r,?_⟩;rcases l with l|⟨k,c,e,z⟩
  ·exact .inl l
  ·exact .inr ⟨k,c,e,cellK x c e _ z⟩
 ·obtain⟨v,z⟩:=I.cell x c e;exact⟨v,cellK x c e v z⟩
 ·obtain⟨m,⟨o,_,_,ho,_⟩,_⟩:=I.loc;exact free _ o (fun z=>(rO _ z).2.1 rfl) ho I.free
 ·obtain⟨v,o,ho,hd⟩:=I.cell x c e;exact free c o (fun z=>(rO c z).2.2.1 x c e rfl) ho (I.kg x c e)
 ·obtain⟨e,n,ne,nf,d⟩:=I.pin p hp;have nch:p.1∉ch:=fun z=>(rO p.1 z).2.2.2 p hp rfl;exact⟨keep p.1 p.2 ne nf nch e n,free p.1 p.2 nch e n,ne,nf,d⟩
theorem Inv.un{t':Nat}(I:Inv X pins σ H s)(u:Un X.fs [] H H' s.heap h')(bV:ik X.prog X.w H' h'):Inv X pins σ H' { s with heap:=h',toks:=t' }:=by
 obtain⟨m,⟨o,es,ep,ho,r⟩,_⟩:=id I.loc;obtain⟨sl,hL⟩:=u.any ho I.free (by simp);exact I.step (g':=s.gens) (d':=s.drawn) (ch:=[]) (fun _ z=>nomatch z) (fun b o _ hb _ e n=>u.keep b o e n hb (by simp)) (fun b o _ hb _ e n=>u.slot b o e n hb (by simp)) (fun b o _ e n=>u.free b o e n (by simp)) (fun b o _ e=>u.there b o e (by simp)) u.pO u.oX u.pP (fun m' hm=>by
  obtain⟨o',es',ep',ho',r'⟩:=hm;rw[ho] at ho';cases ho';exact⟨_,es',ep',hL,r'⟩) bV I.bare
theorem Inv.call{g':Array GenState}{t':Nat}{d':Drawn}{ch:List ε}(I:Inv X pins σ H s)(u:Un (qm X.stack) ch H H' s.heap h')(bV:ik X.prog X.w H' h')(hg:jr g')
  (rO:∀b∈ch,(b∈X.ex∨X.s₀.heap.objs.size≤b)/\b≠X.env.locals/\(∀x c,X.env.cells.lookup x=some c->c≠b)/\∀p∈X.pn++pins,p.1≠b):
  Inv X pins σ H' { s with heap:=h',gens:=g',drawn:=d',toks:=t' }:=by
 obtain⟨m,⟨o,es,ep,ho,r⟩,_⟩:=id I.loc;obtain⟨sl,hL⟩:=u.any ho I.free fun z=>(rO _ z).2.1 rfl;exact I.step (ch:=ch) rO (fun b o hL hb hc e n=>u.keep b o e n (fun z=>(aM.mp (I.wz b z)).elim hL hb) hc) (fun b o _ _ hc e n=>u.any e n hc) (fun b o hc e n=>u.free b o e n hc) (fun b o hc e=>u.there b o e hc) u.pO u.oX u.pP (fun m' hm=>by
  obtain⟨o',es',ep',ho',r'⟩:=hm;rw[ho] at ho';cases ho';exact⟨_,es',ep',hL,r'⟩) bV hg
theorem Inv.turned{t':Nat}{it:ε}(I:Inv X pins σ H s)(k:∀b o,b≠it->s.heap.get? b=some o->h'.get? b=some o)(hn:H it=none)(hL:it≠X.env.locals)
  (h1:it∈X.ex∨X.s₀.heap.objs.size≤it) (h2:∀x c,X.env.cells.lookup x=some c->c≠it) (h3:∀p∈X.pn++pins,p.1≠it):Inv X pins σ H { s with heap:=h',toks:=t' }:=by
 have nit:∀b u,H b=some u->b≠it:=fun b u e z=>by rw[z,hn] at e;cases e
 refine I.step (g':=s.gens) (d':=s.drawn) (ch:=[it]) (fun b hb=>?_) (fun b o _ _ hc e _=>k b o (fun z=>hc (by simp[z])) e) (fun b o _ _ hc e _=>⟨o.slots,k b o (fun z=>hc (by simp[z])) e⟩) (fun _ _ _ _ n=>n)
  (fun b o hc e=>⟨o,k b o (fun z=>hc (by simp[z])) e⟩) (fun _ _ e=>e) (fun _ _ _ e=>e) (fun b ps e=>⟨#[],by rw[e];simp⟩) (fun m hm=>?_) (fun b u e=>?_) I.bare
 ·have e:b=it:=by simpa using hb
  subst e;exact⟨h1,hL,h2,h3⟩
 ·obtain⟨o,es,ep,ho,r⟩:=hm;exact⟨o,es,ep,k _ o (eW hL) ho,r⟩
 ·refine (I.bV b u e).uu (fun c v hc q=>k c v ?_ q) (fun _ q=>q) fun _ _ q=>q;rcases hc with z|z
  ·rw[z];exact nit b u e
  ·exact nit c _ z
theorem Inv.tok(I:Inv X pins σ H s)(t:Nat):Inv X pins σ H { s with toks:=t }:=I.un (h':=s.heap) (t':=t) Un.refl I.bV
theorem Inv.kept{t':Nat}(I:Inv X pins σ H s)(k:∀b u,s.heap.get? b=some u->h'.get? b=some u):Inv X pins σ H { s with heap:=h',toks:=t' }:=I.un (Un.kept k) (I.bV.kept k)
theorem Inv.laid{a:ε}{o:HO}{t':Nat}(I:Inv X pins σ H s)(k:∀b u,s.heap.get? b=some u->h'.get? b=some u)(hp:s.heap.objs.size≤a)(new:eN X.prog X.w (upd H a o) h' a o):
  Inv X pins σ (upd H a o) { s with heap:=h',toks:=t' }:=I.un (Un.laid k hp (I.bV.fresh hp)) (I.bV.laid k hp new)
theorem Inv.write{x e:ε}{o:HO}{t':Nat}(I:Inv X pins σ H s)(mu:HP (H x))(he:e=x∨H e=some (.own x))(k:∀b u,b≠e->s.heap.get? b=some u->h'.get? b=some u)(heo:∃u,h'.get? e=some u)
  (new:eN X.prog X.w (upd H x o) h' x o):Inv X pins σ (upd H x o) { s with heap:=h',toks:=t' }:=I.un (Un.write mu he k heo) (I.bV.write mu he k heo new)
theorem Inv.yR{pins':List (ε×aT)}(I:Inv X pins σ H s)(h:∀p∈pins',s.heap.get? p.1=some p.2/\H p.1=none/\p.1≠X.env.locals/\p.1∉X.fs/\∀v,p.2.data≠.cell v):Inv X pins' σ H s:=
 ⟨I.ok,I.os,I.bare,I.base,I.loc,I.cell,I.free,I.kg,fun p hp=>(bC.mp hp).elim (fun z=>I.pin p (bX _ z)) (h p),I.bV,I.len⟩
theorem xk{N:List Δ}(hN:N.Nodup){i j:Nat}{x:Δ}(a:N[i]?=some x)(b:N[j]?=some x):i=j:=by
 obtain⟨h1,e1⟩:=aP.mp a;obtain⟨h2,e2⟩:=aP.mp b;exact (List.getElem_inj hN).mp (e1.trans e2.symm)
theorem u5{M:Model}{A:bA}{E:δ->ζ->Prop}{i:Nat}{x:Δ}{v:V}{u:δ}{Q:Unit->ζ->Prop}(I:Inv X pins σ H s)(hN:X.N.Nodup)(hi:X.N[i]?=some x)(hx:Loc X.env.scope x)(r:RelV v u)
  (h:∀s',Inv X pins (σ.set i (some v)) H s'->(∃a,cQ a s.heap s'.heap/\(a=X.env.locals∨X.env.cells.lookup x=some a))->Q () s') (hf:X.fn x=true∨X.env.scope.names.lookup x=some .local:=by first|exact .inl rfl|exact .inr rfl|assumption):π M A (storeName X.env x u) Q E s:=by
 obtain⟨m,hn,hl⟩:=id I.loc;have hcls:(X.env.scope.kind==.class||(X.env.scope.kind==.module&&X.env.locals != X.env.globals))=false:=by rw[I.ok.kind];rfl
 have hiσ:i<σ.length:=by rw[I.len];exact (aP.mp hi).1
 have xS:=I.xS;have tracked:∀{a:ε} {h':ai},(∃o,s.heap.get? a=some o/\H a=none)->cQ a s.heap h'->ik X.prog X.w H h':=fun {a h'} ha hs b ob e=>by
  obtain⟨_,_,hfree⟩:=ha;refine (I.bV b ob e).uu (fun c w' hc q=>(hs.2 c ?_).trans q) (fun _ q=>q) fun _ _ q=>q;rintro rfl;rcases hc with rfl|hc
  ·rw[hfree] at e;cases e
  ·rw[hfree] at hc;cases hc
 rcases hx with hk|hk
 ·refine wpAny_storeName_local hk hn (fun h' hn' hs=>?_) hcls;obtain⟨oL,_,_,hoL,_⟩:=id hn;refine h _ ⟨I.ok,I.os,I.bare,⟨fun b o e n hb hx=>?_,fun b o e n hb hx=>?_,I.base.free,fun b o e hx=>?_,I.base.pO,I.base.oX,I.base.pP⟩,⟨_,hn',fun j y v' e1 e2 e3=>?_⟩,fun y c e=>?_,I.free,I.kg,fun p hp=>?_,tracked ⟨oL,hoL,I.free⟩ hs,by simpa using I.len⟩ ⟨_,hs,.inl rfl⟩
  ·exact (hs.2 b (aQ (bu (Ψ e) I.ok.above))).trans (I.base.keep b o e n hb hx)
  ·obtain⟨sl,e1⟩:=I.base.slot b o e n hb hx;exact⟨sl,(hs.2 b (aQ (bu (Ψ e) I.ok.above))).trans e1⟩
  ·obtain⟨o',e1⟩:=I.base.there b o e hx;exact⟨o',(hs.2 b (aQ (bu (Ψ e) I.ok.above))).trans e1⟩
  ·by_cases hj:j=i
   ·subst hj;rw[hi] at e1;cases e1;rw[iU hiσ] at e2;cases e2;exact⟨u,r,.inl ⟨hk,by simp⟩⟩
   ·rw[jO (eW hj)] at e2;obtain⟨u',r',q⟩:=hl j y v' e1 e2 e3;refine⟨u',r',?_⟩;rcases q with⟨k,e⟩|⟨k,c,e,z⟩
    ·refine .inl ⟨k,?_⟩;have:y≠x:=fun e=>hj (xk hN e1 (e▸hi));simp[this,e]
    ·exact .inr ⟨k,c,e,z.sameBut hs (xS y c e)⟩
  ·obtain⟨w',z⟩:=I.cell y c e;exact⟨w',z.sameBut hs (xS y c e)⟩
  ·obtain⟨e,n,ne,nf,d⟩:=I.pin p hp;exact⟨(hs.2 p.1 ne).trans e,n,ne,nf,d⟩
 ·have hfn:X.fn x=true:=by
   rcases hf with z|z
   ·exact z
   ·rw[z] at hk;cases hk
  obtain⟨c,hc⟩:=I.ok.has x (.inl hk);obtain⟨w',z⟩:=I.cell x c hc;refine wpAny_storeName_cell I.ok.kind hk hc z (fun h' hc' hs=>?_);obtain⟨oc,hoc,hocd⟩:=id z;refine h { s with heap:=h' } ⟨I.ok,I.os,I.bare,⟨fun b o e n hb hx=>?_,fun b o e n hb hx=>?_,I.base.free,fun b o e hx=>?_,I.base.pO,I.base.oX,I.base.pP⟩,⟨m,hn.sameBut hs (eW (xS x c hc)),fun j y v' e1 e2 e3=>?_⟩,fun y c' e=>?_,I.free,I.kg,fun p hp=>?_,tracked ⟨oc,hoc,I.kg x c hc⟩ hs,by simpa using I.len⟩ ⟨c,hs,.inr hc⟩
  ·exact (hs.2 b (aQ (bu (Ψ e) (I.ok.zv x c hfn hc)))).trans (I.base.keep b o e n hb hx)
  ·obtain⟨sl,e1⟩:=I.base.slot b o e n hb hx;exact⟨sl,(hs.2 b (aQ (bu (Ψ e) (I.ok.zv x c hfn hc)))).trans e1⟩
  ·obtain⟨o',e1⟩:=I.base.there b o e hx;exact⟨o',(hs.2 b (aQ (bu (Ψ e) (I.ok.zv x c hfn hc)))).trans e1⟩
  ·by_cases hj:j=i
   ·subst hj;rw[hi] at e1;cases e1;rw[iU hiσ] at e2;cases e2;exact⟨u,r,.inr ⟨.inl hk,c,hc,hc'⟩⟩
   ·rw[jO (eW hj)] at e2;obtain⟨u',r',q⟩:=hl j y v' e1 e2 e3;refine⟨u',r',?_⟩;rcases q with q|⟨k,c',e,z'⟩
    ·exact .inl q
    ·refine .inr ⟨k,c',e,z'.sameBut hs ?_⟩;rintro rfl;exact hj (xk hN e1 (I.ok.inj _ _ _ e hc▸hi))
  ·by_cases hcc:c'=c
   ·subst hcc;exact⟨_,hc'⟩
   ·obtain⟨w2,z2⟩:=I.cell y c' e;exact⟨w2,z2.sameBut hs hcc⟩
  ·obtain⟨e,n,ne,nf,d⟩:=I.pin p hp;refine⟨(hs.2 p.1 ?_).trans e,n,ne,nf,d⟩;intro q;rw[q,hoc] at e;have q':oc=p.2:=ay e;exact d w' (by rw[←q'];exact hocd)
theorem oD{M:Model}{A:bA}{E:δ->ζ->Prop}{i:Nat}{x:Δ}{v:V}{u:δ}{Q:Unit->ζ->Prop}(I:Inv X pins σ H s)(hN:X.N.Nodup)(hi:X.N[i]?=some x)(hx:Loc X.env.scope x)(r:RelV v u)
  (h:∀s',Inv X pins (σ.set i (some v)) H s'->Q () s') (hf:X.fn x=true∨X.env.scope.names.lookup x=some .local:=by first|exact .inl rfl|exact .inr rfl|assumption):π M A (storeName X.env x u) Q E s:=
 u5 I hN hi hx r (fun s' I' _=>h s' I') hf
theorem Inv.Pq{s':ζ}{ch:List ε}(I:Inv X pins σ H s)(ho:s'.os=s.os)(u:Un (qm X.stack) ch H H' s.heap s'.heap)(bV:ik X.prog X.w H' s'.heap)(hg:jr s'.gens)
  (rO:∀b∈ch,(b∈X.ex∨X.s₀.heap.objs.size≤b)/\b≠X.env.locals/\(∀x c,X.env.cells.lookup x=some c->c≠b)/\∀p∈X.pn++pins,p.1≠b):Inv X pins σ H' s':=by
 obtain⟨h',g',d',t',o'⟩:=s';have e:o'=s.os:=ho;subst e;exact I.call (g':=g') (t':=t') (d':=d') u bV hg rO
end
abbrev XK:=δ->Option ε->Hp->Prop
abbrev St:=List (Option V)
abbrev VK:=V->Hp->Prop
abbrev TE:=St->Hp->VK->Prop
abbrev TT:=St->Hp->(Bool->Hp->Prop)->Prop
abbrev TA:=St->Hp->(List V->Hp->Prop)->Prop
structure Ends where
 nx:St->Hp->Prop
 rt:VK
 bk:St->Hp->Prop:=fun _ _=>False
 ct:St->Hp->Prop:=fun _ _=>False
abbrev TS:=Ends->St->Hp->Prop
def EP(X:Cx)(pins:List (ε×aT))(σ:St)(Q:VK)(u:δ)(s':ζ):Prop:=∃v H',Inv X pins σ H' s'/\RelV v u/\Q v H'
def TP(X:Cx)(pins:List (ε×aT))(σ:St)(Q:Bool->Hp->Prop)(b:Bool)(s':ζ):Prop:=∃H',Inv X pins σ H' s'/\Q b H'
def AP(X:Cx)(pins:List (ε×aT))(σ:St)(Q:List V->Hp->Prop)(us:List δ)(s':ζ):Prop:=∃vs H',Inv X pins σ H' s'/\bc vs us/\Q vs H'
def SP(X:Cx)(pins:List (ε×aT))(D:Ends)(f:Flow)(s':ζ):Prop:=
 match f with
 |.next=>∃σ' H',Inv X pins σ' H' s'/\D.nx σ' H'
 |.brk=>∃σ' H',Inv X pins σ' H' s'/\D.bk σ' H'
 |.cont=>∃σ' H',Inv X pins σ' H' s'/\D.ct σ' H'
 |.ret u=>∃v σ' H',Inv X pins σ' H' s'/\RelV v u/\D.rt v H'
def PE(X:Cx)(e:ρ)(t:TE):Prop:=
 ∀(pins:List (ε×aT)) (s:ζ) (σ:St) (H:Hp) (Q:VK),Inv X pins σ H s->t σ H Q->π (model X.prog X.w) X.A (eval e X.env) (EP X pins σ Q) X.xe s
def PT(X:Cx)(e:ρ)(t:TT):Prop:=
 ∀(pins:List (ε×aT)) (s:ζ) (σ:St) (H:Hp) (Q:Bool->Hp->Prop),Inv X pins σ H s->t σ H Q->π (model X.prog X.w) X.A (isTrue e X.env (eval e X.env)) (TP X pins σ Q) X.xe s
def PW(X:Cx)(e:ρ)(t:TT):Prop:=
 ∀(whole:Sem δ) (pins:List (ε×aT)) (s:ζ) (σ:St) (H:Hp) (Q:Bool->Hp->Prop),Inv X pins σ H s->t σ H Q->π (model X.prog X.w) X.A (isTrue e X.env whole) (TP X pins σ Q) X.xe s
theorem PW.pt{X:Cx}{e:ρ}{t:TT}(h:PW X e t):PT X e t:=h _
def PA(X:Cx)(es:List ρ)(t:TA):Prop:=
 ∀(pos:aL) (pins:List (ε×aT)) (s:ζ) (σ:St) (H:Hp) (Q:List V->Hp->Prop),Inv X pins σ H s->t σ H Q->π (model X.prog X.w) X.A (spliced (backTo pos (bE es X.env))) (AP X pins σ Q) X.xe s
def PS(X:Cx)(st:aX)(t:TS):Prop:=
 ∀(pins:List (ε×aT)) (s:ζ) (σ:St) (H:Hp) (D:Ends),Inv X pins σ H s->t D σ H->π (model X.prog X.w) X.A (exec st X.env) (SP X pins D) X.xe s
def ll(X:Cx)(st:List aX)(t:TS):Prop:=
 ∀(pins:List (ε×aT)) (s:ζ) (σ:St) (H:Hp) (D:Ends),Inv X pins σ H s->t D σ H->π (model X.prog X.w) X.A (execs st X.env) (SP X pins D) X.xe s
theorem bK{α:Type}{t:Sem α}{Q Q':α->ζ->Prop}{M:Model}{A:bA}{E:δ->ζ->Prop}{s:ζ}(h:π M A t Q E s)(hQ:∀a s,Q a s->Q' a s):π M A t Q' E s:=ei h hQ fun _ _ x=>x
end L2
namespace L2
open PySem PySem.Spec PyProof.Rows
section
variable {X:Cx}
theorem bin{a b:ρ}{ta tb:TE}(ha:PE X a ta)(hb:PE X b tb){pins:List (ε×aT)}{s:ζ}{σ:St}{H:Hp}{R:V->V->Hp->Prop}(I:Inv X pins σ H s)(h:ta σ H fun x H1=>tb σ H1 fun y H2=>R x y H2)
  {α:Type} {Q:α->ζ->Prop} {f:δ->δ->Sem α}
  (hf:∀v u s2 x y H2,Inv X pins σ H2 s2->RelV x v->RelV y u->R x y H2->π (model X.prog X.w) X.A (f v u) Q X.xe s2):
  π (model X.prog X.w) X.A (eval a X.env) (fun v s₁=>π (model X.prog X.w) X.A (eval b X.env) (fun u s₂=>π (model X.prog X.w) X.A (f v u) Q X.xe s₂) X.xe s₁) X.xe s:=by
 refine bK (ha pins s σ H _ I h) fun v s1 ⟨x,H1,I1,r1,q1⟩=>?_;refine bK (hb pins s1 σ H1 _ I1 q1) fun u s2 ⟨y,H2,I2,r2,q2⟩=>?_;exact hf v u s2 x y H2 I2 r1 r2 q2
def zJ(i:Nat):TE:=fun σ H Q=>∃v,σ[i]?=some (some v)/\Q v H
def tC(v:V):TE:=fun _ H Q=>Q v H
theorem LA{i:Nat}{x:Δ}{pos:aL}(hN:X.N[i]?=some x)(hv:Nw X.env.scope x)(hd:(x==("__debug__":Δ))=false:=by decide)(ql:(x==("__classdict__":Δ))=false:=by decide):PE X (.Name x pos) (zJ i):=by
 intro pins s σ H Q I h;obtain⟨v,e,h⟩:=h;obtain⟨m,hn,hl⟩:=I.loc;obtain⟨u,r,l⟩:=hl i x v hN e hv;have fin:EP X pins σ Q u s:=⟨v,H,I,r,h⟩;rcases l with⟨hk,hm⟩|⟨hk,c,hc,hcell⟩
 ·exact wpAny_Name (wpAny_loadName_local I.ok.kind hk hn hm fin) hd
 ·rcases hk with hk|hk
  ·exact wpAny_Name (wpAny_loadName_cell I.ok.kind hk hc hcell fin) hd
  ·exact wpAny_Name (wpAny_loadName_free I.ok.kind hk hc hcell fin ql) hd
theorem LG{i j pos}:PE X (.Constant (.int i) j pos) (tC (.int i)):=fun _ _ _ H _ I h=>wpAny_Constant_int ⟨.int i,H,I.tok _,⟨_,rfl⟩,h⟩
theorem Ot{b j pos}:PE X (.Constant (.bool b) j pos) (tC (.bl b)):=fun _ _ _ H _ I h=>Constant_bool ⟨.bl b,H,I,rfl,h⟩
theorem LF{j pos}:PE X (.Constant .none j pos) (tC .aq):=fun _ _ _ H _ I h=>Constant_none ⟨.aq,H,I,rfl,h⟩
def Gl(X:Cx)(x:Δ):Prop:=X.env.kindOf x=some .globalImplicit
theorem zh{E:δ->ζ->Prop}{pins:List (ε×aT)}{s:ζ}{σ:St}{H:Hp}{x:Δ}{u:δ}{pos:aL}{Q:δ->ζ->Prop}(I:Inv X pins σ H s)(hg:Gl X x)(hm:X.mg x=some u)(h:Q u s)
  (hd:(x==("__debug__":Δ))=false:=by decide):π (model X.prog X.w) X.A (eval (.Name x pos) X.env) Q E s:=
 la I.ok.kind hg (Calls.loadGlobal_global (by rw[I.ok.glob];exact I.mod.glob.keeps I.bk) hm h) hd
theorem kz{E:δ->ζ->Prop}{pins:List (ε×aT)}{s:ζ}{σ:St}{H:Hp}{x:Δ}{u:δ}{pos:aL}{Q:δ->ζ->Prop}(I:Inv X pins σ H s)(hg:Gl X x)(hm:X.mg x=none)(hv:fF x=some u)(h:Q u s)
  (hn:x≠"__name__":=by decide) (hd:(x==("__debug__":Δ))=false:=by decide):π (model X.prog X.w) X.A (eval (.Name x pos) X.env) Q E s:=by
 obtain⟨mb,h1,h2⟩:=I.mod.blt;exact la I.ok.kind hg (Calls.loadGlobal_builtin (by rw[I.ok.glob];exact I.mod.glob.keeps I.bk) hm (by rw[I.ok.blt];exact h1.keeps I.bk) ((h2 x hn).trans hv) h) hd
theorem Ji{x:Δ}{v:V}{u:δ}{pos:aL}(hg:Gl X x)(hm:X.mg x=some u)(r:RelV v u)(hd:(x==("__debug__":Δ))=false:=by decide):PE X (.Name x pos) (tC v):=
 fun _ _ _ H _ I h=>zh I hg hm ⟨v,H,I,r,h⟩ hd
theorem Jm{x:Δ}{v:V}{u:δ}{pos:aL}(hg:Gl X x)(hm:X.mg x=none)(hv:fF x=some u)(r:RelV v u)(hn:x≠"__name__":=by decide)(hd:(x==("__debug__":Δ))=false:=by decide):PE X (.Name x pos) (tC v):=
 fun _ _ _ H _ I h=>kz I hg hm hv ⟨v,H,I,r,h⟩ hn hd
variable {a b:ρ} {ta tb:TE} {pos:aL}
def PC(X:Cx)(op:ko)(a b:ρ)(t:TE):Prop:=
 ∀(pins:List (ε×aT)) (s:ζ) (σ:St) (H:Hp) (Q:VK),Inv X pins σ H s->t σ H Q ->
  π (model X.prog X.w) X.A (eval a X.env) (fun v s₁=>π (model X.prog X.w) X.A (eval b X.env) (fun u s₂=>π (model X.prog X.w) X.A (compareOp op v u) (EP X pins σ Q) X.xe s₂) X.xe s₁) X.xe s
theorem Dh{op:ko}{t:TE}(h:PC X op a b t)(h1:behindInMarks op b=false:=by first|exact nobehind _ (by decide) (by decide)|rfl):PE X (.Compare a [op] [b] pos) t:=fun pins s σ H Q I hw=>wpAny_Compare1 (h pins s σ H Q I hw) h1
variable {tA tB':TT} {rest:List ρ}
def P2(t u:TT):TT:=fun σ H Q=>t σ H fun c H1=>if c=true then u σ H1 Q else Q false H1
def Q5(t u:TT):TT:=fun σ H Q=>t σ H fun c H1=>if c=true then Q true H1 else u σ H1 Q
def PX(t:TT):TT:=fun σ H Q=>t σ H fun c H1=>Q (!c) H1
theorem pw_and1(ha:PT X a tA):PW X (.BoolOp .And [a] pos) tA:=by
 intro wh pins s σ H Q I h;refine isTrue_and (bK (ha pins s σ H Q I h) fun c s1 e=>?_);cases c with
 |true=>exact isTrue_and_nil e
 |false=>exact e
theorem pw_or1(ha:PT X a tA):PW X (.BoolOp .Or [a] pos) tA:=by
 intro wh pins s σ H Q I h;refine isTrue_or (bK (ha pins s σ H Q I h) fun c s1 e=>?_);cases c with
 |false=>exact isTrue_or_nil e
 |true=>exact e
theorem pw_and(ha:PT X a tA)(hb:PW X (.BoolOp .And (b::rest) pos) tB'):PW X (.BoolOp .And (a::b::rest) pos) (P2 tA tB'):=by
 intro wh pins s σ H Q I h;refine isTrue_and (bK (ha pins s σ H _ I h) fun c s1 ⟨H1,I1,q1⟩=>?_);cases c with
 |true=>exact hb wh pins s1 σ H1 Q I1 q1
 |false=>exact⟨H1,I1,q1⟩
theorem pw_or(ha:PT X a tA)(hb:PW X (.BoolOp .Or (b::rest) pos) tB'):PW X (.BoolOp .Or (a::b::rest) pos) (Q5 tA tB'):=by
 intro wh pins s σ H Q I h;refine isTrue_or (bK (ha pins s σ H _ I h) fun c s1 ⟨H1,I1,q1⟩=>?_);cases c with
 |true=>exact⟨H1,I1,q1⟩
 |false=>exact hb wh pins s1 σ H1 Q I1 q1
theorem Ls(ha:PT X a tA):PT X (.UnaryOp .Not a pos) (PX tA):=by
 intro pins s σ H Q I h;exact isTrue_not (ha pins s σ H (fun c H1=>Q (!c) H1) I h)
def NV(ta tb:TE):TE:=fun σ H Q=>ta σ H fun x H1=>∃c,x=.bl c/\if c=true then tb σ H1 Q else Q (.bl false) H1
def NQ(ta:TE):TE:=fun σ H Q=>ta σ H fun x H1=>∃c,x=.bl c/\Q (.bl (!c)) H1
theorem LC{op}{t:TE}(h:PE X a t):PE X (.BoolOp op [a] pos) t:=fun pins s σ H Q I hw=>BoolOp_one (h pins s σ H Q I hw)
theorem LH(ha:PE X a ta)(hb:PE X (.BoolOp .And (b::rest) pos) tb):PE X (.BoolOp .And (a::b::rest) pos) (NV ta tb):=by
 intro pins s σ H Q I h;refine BoolOp_and (bK (ha pins s σ H _ I h) fun v s1 ⟨x,H1,I1,r1,q1⟩=>?_);obtain⟨c,rfl,q1⟩:=q1;cases r1;refine dB ?_;cases c with
 |true=>exact hb pins s1 σ H1 Q I1 q1
 |false=>exact⟨.bl false,H1,I1,rfl,q1⟩
theorem LD(ha:PE X a ta):PE X (.UnaryOp .Not a pos) (NQ ta):=by
 intro pins s σ H Q I h;refine UnaryOp_ (bK (ha pins s σ H _ I h) fun v s1 ⟨x,H1,I1,r1,q1⟩=>?_);obtain⟨c,rfl,q1⟩:=q1;cases r1;exact not_of (dB ⟨.bl (!c),H1,I1,rfl,q1⟩)
end
end L2
namespace L2
open PySem PySem.Spec PyProof.Rows
def eQ(K:ι)(H:Hp)(a:ε)(xs:List V):Prop:=
 Rd H a (.lst xs) ∨
  ∃(o:aT) (its:Array δ) (n:Nat),K.lookup a=some o/\o.cls=.type "list"/\o.dict=none/\o.data=.seq its n/\its.size≤aj/\bc xs its.toList
def dJ(K:ι)(H:Hp)(a:ε)(xs:List V):Prop:=
 Rd H a (.tup xs) ∨
  ∃(o:aT) (its:Array δ) (n:Nat),K.lookup a=some o/\o.cls=.type "tuple"/\o.dict=none/\o.data=.seq its n/\its.size≤aj/\bc xs its.toList
def QZ:δ->Option V
 |.none=>some .aq
 |.bool b=>some (.bl b)
 |.int i _=>some (.int i)
 |.str x _=>some (.str x)
 |.bytes b _=>some (.Ed b)
 |.float b _=>some (.M3 b)
 |.ref a=>some (.ref a)
 |.type n=>some (.ty n)
 |_=>none
theorem RelV.abs{x:V}{u:δ}(r:RelV x u):QZ u=some x:=by
 cases x with
 |aq=>cases r;rfl
 |bl _=>cases r;rfl
 |int _=>obtain⟨t,rfl⟩:=r;rfl
 |str _=>obtain⟨t,rfl⟩:=r;rfl
 |Ed _=>obtain⟨t,rfl⟩:=r;rfl
 |M3 _=>obtain⟨t,rfl⟩:=r;rfl
 |ref _=>cases r;rfl
 |ty _=>cases r;rfl
theorem RelV.inj{x y:V}{u:δ}(r:RelV x u)(q:RelV y u):x=y:=ay (r.abs.symm.trans q.abs)
theorem bc.inj:∀{xs ys:List V} {us:List δ},bc xs us->bc ys us->xs=ys
 |_,_,_,.nil,.nil=>rfl
 |_,_,_,.cons r t,.cons r' t'=>by rw[r.inj r',bc.inj t t']
section
variable {X:Cx} {pins:List (ε×aT)} {σ:St} {H:Hp} {s:ζ} {a:ε} {xs ys:List V}
theorem eQ.of{K:ι}(h:H a=some (.lst xs)):eQ K H a xs:=.inl (.inl h)
theorem dJ.of{K:ι}(h:H a=some (.tup xs)):dJ K H a xs:=.inl (.inl h)
theorem Inv.list(I:Inv X pins σ H s)(h:eQ X.K H a xs):∃its:List δ,bc xs its/\PlainL s.heap a its.toArray/\xs.length≤aj:=by
 rcases h with h|⟨o,its,n,hk,hc,hd,hs,hz,r⟩
 ·obtain⟨z,its,n,r,e⟩:=h.ok I.bV;exact⟨its,r,⟨_,n,e,rfl,rfl,rfl⟩,z⟩
 ·refine⟨its.toList,r,⟨o,n,I.lh a o hk,hc,hd,by simpa using hs⟩,?_⟩;have e:=r.length;simp only[cC] at e;lia
theorem Inv.tuple(I:Inv X pins σ H s)(h:dJ X.K H a xs):∃its:List δ,bc xs its/\gJ s.heap a its.toArray/\xs.length≤aj:=by
 rcases h with h|⟨o,its,n,hk,hc,_,hs,hz,r⟩
 ·obtain⟨z,its,r,p⟩:=h.ok I.bV;exact⟨its,r,p.tup,z⟩
 ·refine⟨its.toList,r,⟨o,I.lh a o hk,hc,n,by simpa using hs⟩,?_⟩;have e:=r.length;simp only[cC] at e;lia
theorem Inv.Fm(I:Inv X pins σ H s)(h:eQ X.K H a xs)(h':eQ X.K H a ys):xs=ys:=by
 obtain⟨its,r,⟨o,n,e,_,_,d⟩,_⟩:=I.list h;obtain⟨its',r',⟨o',n',e',_,_,d'⟩,_⟩:=I.list h';rw[e] at e';cases e';rw[d] at d';injection d' with d1 _
 have:its=its':=by simpa using congrArg mM d1
 subst this;exact r.inj r'
theorem Inv.B4(I:Inv X pins σ H s)(h:dJ X.K H a xs)(h':dJ X.K H a ys):xs=ys:=by
 obtain⟨its,r,⟨o,e,_,n,d⟩,_⟩:=I.tuple h;obtain⟨its',r',⟨o',e',_,n',d'⟩,_⟩:=I.tuple h';rw[e] at e';cases e';rw[d] at d';injection d' with d1 _
 have:its=its':=by simpa using congrArg mM d1
 subst this;exact r.inj r'
end
abbrev Cx.nk(X:Cx)(E:δ->ζ->Prop):Cx:={ X with xe:=E }
abbrev Cx.yX(X:Cx):Cx:=X.nk fun _ _=>False
theorem Cx.Ok.nk{X:Cx}(ok:X.Ok)(E:δ->ζ->Prop):(X.nk E).Ok:=
 ⟨ok.mod,ok.kind,ok.glob,ok.blt,ok.above,ok.inj,ok.has,ok.zv,ok.hd,ok.frames,ok.Cz,ok.DV,ok.bs,ok.t6,ok.uC,ok.uK,ok.kN,ok.xK⟩
theorem Cx.Ok.kq{X:Cx}{E:δ->ζ->Prop}(ok:(X.nk E).Ok):X.Ok:=
 ⟨ok.mod,ok.kind,ok.glob,ok.blt,ok.above,ok.inj,ok.has,ok.zv,ok.hd,ok.frames,ok.Cz,ok.DV,ok.bs,ok.t6,ok.uC,ok.uK,ok.kN,ok.xK⟩
section
variable {X:Cx} {pins:List (ε×aT)} {σ:St} {H:Hp} {s:ζ} {E:δ->ζ->Prop}
theorem Inv.nk(I:Inv X pins σ H s)(E:δ->ζ->Prop):Inv (X.nk E) pins σ H s:=⟨I.ok.nk E,I.os,I.bare,I.base,I.loc,I.cell,I.free,I.kg,I.pin,I.bV,I.len⟩
theorem Inv.kq(I:Inv (X.nk E) pins σ H s):Inv X pins σ H s:=⟨I.ok.kq,I.os,I.bare,I.base,I.loc,I.cell,I.free,I.kg,I.pin,I.bV,I.len⟩
theorem SP.kq{D:Ends}{f:Flow}{s':ζ}(h:SP (X.nk E) pins D f s'):SP X pins D f s':=by
 cases f with
 |next=>obtain⟨σ',H',I,q⟩:=h;exact⟨σ',H',I.kq,q⟩
 |brk=>obtain⟨σ',H',I,q⟩:=h;exact⟨σ',H',I.kq,q⟩
 |cont=>obtain⟨σ',H',I,q⟩:=h;exact⟨σ',H',I.kq,q⟩
 |ret u=>obtain⟨v,σ',H',I,r,q⟩:=h;exact⟨v,σ',H',I.kq,r,q⟩
theorem ll.yX{st:List aX}{t:TS}(h:ll X.yX st t):ll X st t:=fun pins s σ H D I hw=>
 ei (h pins s σ H D (I.nk _) hw) (fun _ _ q=>q.kq) fun _ _ z=>fq z
end
section
variable {X:Cx} {st:aX} {rest:List aX} {t u:TS} {e:ρ} {te:TE} {pos:aL}
def NR:TS:=fun D σ H=>D.nx σ H
def PU(t u:TS):TS:=fun D σ H=>t { D with nx:=u D } σ H
theorem IZ:ll X [] NR:=fun _ _ σ H _ I h=>jI ⟨σ,H,I,h⟩
theorem E9(h1:PS X st t)(h2:ll X rest u):ll X (st::rest) (PU t u):=by
 intro pins s σ H D I h;refine wpAny_execs_cons (bK (h1 pins s σ H { D with nx:=u D } I h) fun f s1 q=>?_);cases f with
 |next=>
  obtain⟨σ',H',I',q⟩:=q;exact h2 pins s1 σ' H' D I' q
 |ret v=>exact q
 |brk=>exact q
 |cont=>exact q
theorem IY(h1:PS X st t):ll X [st] t:=by
 intro pins s σ H D I h;refine wpAny_execs_cons (bK (h1 pins s σ H D I h) fun f s1 q=>?_);cases f with
 |next=>exact jI q
 |ret v=>exact q
 |brk=>exact q
 |cont=>exact q
theorem Inv.quiet{pins:List (ε×aT)}{σ:St}{H:Hp}{s:ζ}(I:Inv X pins σ H s):interactive X.env=false:=by simp[interactive,I.ok.kind]
def NS(te:TE):TS:=fun D σ H=>te σ H fun _ H1=>D.nx σ H1
theorem Ja(he:PE X e te)(hs:swapsWith e none pos.line X.env=pure false:=by rfl):PS X (.Expr e pos) (NS te):=by
 intro pins s σ H D I h;exact wpAny_Expr_any (bK (he pins s σ H _ I h) fun v s1 ⟨x,H1,I1,r1,q1⟩=>⟨σ,H1,I1,q1⟩) I.quiet hs
def PV(te:TE):TS:=fun D σ H=>te σ H D.rt
theorem Lv(he:PE X e te):PS X (.Return (some e) pos) (PV te):=by
 intro pins s σ H D I h;exact wpAny_Return_some (bK (he pins s σ H _ I h) fun v s1 ⟨x,H1,I1,r1,q1⟩=>⟨x,σ,H1,I1,r1,q1⟩)
def P0(c:TT)(t u:TS):TS:=fun D σ H=>c σ H fun b H1=>if b=true then t D σ H1 else u D σ H1
theorem Ol{c:ρ}{a b:List aX}{tc:TT}(hc:PT X c tc)(ha:ll X a t)(hb:ll X b u):PS X (.If c a b pos) (P0 tc t u):=by
 intro pins s σ H D I h;refine wpAny_If (bK (hc pins s σ H _ I h) fun d s1 ⟨H1,I1,q1⟩=>?_);cases d with
 |true=>exact ha pins s1 σ H1 D I1 q1
 |false=>exact hb pins s1 σ H1 D I1 q1
def Kx:TS:=fun _ _ _=>False
theorem Fc:PS X st Kx:=fun _ _ _ _ _ _ h=>h.elim
end
abbrev TG:=V->St->Hp->(St->Hp->Prop)->Prop
abbrev ua:=List V->St->Hp->(St->Hp->Prop)->Prop
def PG(X:Cx)(target:ρ)(t:TG):Prop:=
 ∀(pins:List (ε×aT)) (s:ζ) (σ:St) (H:Hp) (v:V) (u:δ) (Q:St->Hp->Prop),Inv X pins σ H s->RelV v u->t v σ H Q ->
  π (model X.prog X.w) X.A (assign target X.env u) (fun _ s'=>∃σ' H',Inv X pins σ' H' s'/\Q σ' H') X.xe s
def ym(X:Cx)(ts:List ρ)(t:ua):Prop:=
 ∀(pins:List (ε×aT)) (s:ζ) (σ:St) (H:Hp) (vs:List V) (us:List δ) (Q:St->Hp->Prop),Inv X pins σ H s->bc vs us->t vs σ H Q ->
  π (model X.prog X.w) X.A (assignInOrder ((assignEach ts X.env).map (·.2)) us) (fun _ s'=>∃σ' H',Inv X pins σ' H' s'/\Q σ' H') X.xe s
abbrev yj:=V->V->V->Hp->(Hp->Prop)->Prop
def BH(X:Cx)(t:yj):Prop:=
 ∀(pins:List (ε×aT)) (s:ζ) (σ:St) (H:Hp) (o i v:V) (ov iv u:δ) (Q:Hp->Prop),Inv X pins σ H s->RelV o ov->RelV i iv->RelV v u->t o i v H Q ->
  π (model X.prog X.w) X.A (setItem ov iv u) (fun _ s'=>∃H',Inv X pins σ H' s'/\Q H') X.xe s
abbrev HK:=V->V->Hp->VK->Prop
def PK(X:Cx)(op:pe)(t:HK):Prop:=
 ∀(pins:List (ε×aT)) (s:ζ) (σ:St) (H:Hp) (x y:V) (v u:δ) (Q:VK),Inv X pins σ H s->RelV x v->RelV y u->t x y H Q ->
  π (model X.prog X.w) X.A (inplaceOp op v u) (EP X pins σ Q) X.xe s
section
variable {X:Cx} {pos:aL}
def AS(i:Nat):TG:=fun v σ H Q=>Q (σ.set i (some v)) H
theorem Jg{i:Nat}{x:Δ}(hN:X.N.Nodup)(hi:X.N[i]?=some x)(hx:Loc X.env.scope x)(hf:X.fn x=true∨X.env.scope.names.lookup x=some .local:=by first|exact .inl rfl|exact .inr rfl|assumption):PG X (.Name x pos) (AS i):=by
 intro pins s σ H v u Q I r h;exact wpAny_assign_Name (oD I hN hi hx r (fun s' I'=>⟨_,H,I',h⟩) hf)
def QB:ua:=fun vs σ H Q=>vs=[]/\Q σ H
def O8(t:TG)(u:ua):ua:=fun vs σ H Q=>∃v r,vs=v::r/\t v σ H fun σ' H'=>u r σ' H' Q
theorem Jf:ym X [] QB:=by
 intro pins s σ H vs us Q I r h;obtain⟨e,h⟩:=h;subst e;cases r;exact assignInOrder_nil ⟨σ,H,I,h⟩
theorem Fe{e:ρ}{es:List ρ}{t:TG}{u:ua}(h1:PG X e t)(h2:ym X es u)
  (hs:(assignEach (e::es) X.env).map (·.2)=assign e X.env::(assignEach es X.env).map (·.2):=by rfl):ym X (e::es) (O8 t u):=by
 intro pins s σ H vs us Q I r h;obtain⟨v,vr,e1,h⟩:=h;subst e1;cases r with
 |cons r rr=>
  rw[hs];refine kD (bK (h1 pins s σ H _ _ _ I r h) fun _ s1 ⟨σ1,H1,I1,q1⟩=>?_);exact h2 pins s1 σ1 H1 _ _ Q I1 rr q1
def Qy(K:ι)(n:Nat)(t:ua):TG:=fun v σ H Q=>∃a xs,v=.ref a/\dJ K H a xs/\xs.length=n/\t xs σ H Q
theorem Lz{es:List ρ}{k:Nat}{t:ua}{n:Nat}(hc:X.calm=true)(h:ym X es t)
  (hn:(assignEach es X.env).length=n:=by rfl) (hst:(assignEach es X.env).findIdx? (·.1)=none:=by rfl):PG X (.Tuple es k pos) (Qy X.K n t):=by
 intro pins s σ H v u Q I r hw;obtain⟨a,xs,e1,hq,hl,hw⟩:=hw;subst e1;cases r;obtain⟨its,rv,ht,hz⟩:=I.tuple hq;refine assign_Tuple_tuple (I.ok.hd hc) ht (by simp[hn,←hl,rv.length]) hst fun h' hx=>?_;have I1:Inv X pins σ H { s with heap:=h' }:=I.kept (t':=s.toks) fun b o e=>hx b o (aQ (Ψ e)) e
 exact h pins _ σ H xs _ Q I1 (by simpa using rv) hw
def Qz(to ti:TE)(t:yj):TG:=fun v σ H Q=>to σ H fun o H1=>ti σ H1 fun i H2=>t o i v H2 fun H3=>Q σ H3
theorem De{o i:ρ}{to ti:TE}{t:yj}(ho:PE X o to)(hi:PE X i ti)(hs:BH X t)
  (ha:∀v,assign (.Subscript o i pos) X.env v=(do
   let ov ←holding [v] (eval o X.env)
   let iv ←holding [v,ov] (eval i X.env)
   standAt pos
   holding [v,ov,iv] (setItem ov iv v)
   release [v,ov,iv] []):=by intro _;rfl):PG X (.Subscript o i pos) (Qz to ti t):=by
 intro pins s σ H v u Q I r h
 rw[ha]
 refine γ (br (bK (ho pins s σ H _ I h) fun ov s1 ⟨x,H1,I1,r1,q1⟩=>?_))
 refine γ (br (bK (hi pins s1 σ H1 _ I1 q1) fun iv s2 ⟨y,H2,I2,r2,q2⟩=>?_))
 refine γ (kT (γ (br (bK (hs pins s2 σ H2 x y v ov iv u _ I2 r1 r2 r q2) fun _ s3 ⟨H3,I3,q3⟩=>?_))))
 exact wpAny_release ⟨σ,H3,I3,q3⟩
def EL(te:TE)(g:TG):TS:=fun D σ H=>te σ H fun x H1=>g x σ H1 D.nx
theorem Ly{tg e:ρ}{te:TE}{g:TG}(he:PE X e te)(hg:PG X tg g)(hs:swapsWithSole [tg] e pos.line X.env=pure false:=by rfl)(hw:swappedStores [tg] e X.env=pure none:=by rfl)
  (h1:(assignEach [tg] X.env).map (·.2)=[assign tg X.env]:=by rfl):PS X (.Assign [tg] e pos) (EL te g):=by
 intro pins s σ H D I h;refine wpAny_Assign_stores (bK (he pins s σ H _ I h) fun v s1 ⟨x,H1,I1,r1,q1⟩=>?_) hs hw;rw[h1];exact bK (hg pins s1 σ H1 x v _ I1 r1 q1) fun _ s2 q=>q
theorem Lu{i:Nat}{x:Δ}{e:ρ}{te:TE}{pos':aL}(hN:X.N.Nodup)(hi:X.N[i]?=some x)(hx:Loc X.env.scope x)(he:PE X e te)(hs:swapsWith e (some (.Name x pos')) pos.line X.env=pure false:=by rfl)(hf:X.fn x=true∨X.env.scope.names.lookup x=some .local:=by first|exact .inl rfl|exact .inr rfl|assumption):
  PS X (.Assign [.Name x pos'] e pos) (EL te (AS i)):=by
 intro pins s σ H D I h;refine wpAny_Assign_Name (bK (he pins s σ H _ I h) fun v s1 ⟨y,H1,I1,r1,q1⟩=>?_) hs;exact oD I1 hN hi hx r1 (fun s2 I2=>⟨_,H1,I2,q1⟩) hf
def Kw(i j:Nat)(ta:TA):TS:=fun D σ H=>ta σ H fun vs H1=>∃v w,vs=[v,w]/\D.nx ((σ.set i (some v)).set j (some w)) H1
theorem Lw{i j:Nat}{x y:Δ}{a b:ρ}{ta:TA}{px py pt:aL}{kt k2 pt2}(hc:X.calm=true)(hN:X.N.Nodup)(hi:X.N[i]?=some x)(hj:X.N[j]?=some y)(hij:i≠j)
  (hx:X.env.scope.names.lookup x=some .local) (hy:X.env.scope.names.lookup y=some .local) (ha:PA X [a,b] ta)
  (hw:swappedStores [.Tuple [.Name x px,.Name y py] kt pt] (.Tuple [a,b] k2 pt2) X.env=pure (some [x,y]))
  (hs:swapsWithSole [.Tuple [.Name x px,.Name y py] kt pt] (.Tuple [a,b] k2 pt2) pos.line X.env=pure false:=by rfl):
  PS X (.Assign [.Tuple [.Name x px,.Name y py] kt pt] (.Tuple [a,b] k2 pt2) pos) (Kw i j ta):=by
 intro pins s σ H D I h;rw[exec_Assign_arm];refine γ (kT ?_);rw[hs];refine γ (η ?_);rw[if_neg (by decide)];refine γ (Tuple_ (bK (ha _ pins s σ H _ I h) fun us s1 ⟨vs,H1,I1,r1,q1⟩=>?_));obtain⟨v,w,e1,q1⟩:=q1;subst e1;obtain⟨u1,u2,rfl,rv,rw'⟩:∃u1 u2,us=[u1,u2]/\RelV v u1/\RelV w u2:=by
  cases r1 with
  |cons p q=>
   cases q with
   |cons p' q'=>
    cases q';exact⟨_,_,rfl,p,p'⟩
 refine b9 ?_ (by show 2≤aj;decide);have I2:Inv X pins σ H1 { s1 with heap:=s1.heap.push { cls:=.type "tuple",data:=.seq [u1,u2].toArray }}:=I1.kept (t':=s1.toks) fun b o e=>ξ _ e;rw[hw];refine γ (η ?_);show π (model X.prog X.w) X.A (do rule "assign.swapped-stores";let items ←unpackItems (.ref s1.heap.objs.size) 2 none;assignInOrder [fun v=>bindName X.env y v,fun v=>bindName X.env x v] items.reverse;pure Flow.next) _ _ _
 refine γ (lJ (γ (unpackItems_tuple (items:=#[u1,u2]) (I.ok.hd hc) (gJ.new s1.heap _) fun h' hx'=>?_)));have I3:=I2.kept (h':=h') (t':=s1.toks) fun b o e=>hx' b o (aQ (Ψ e)) e;show π _ _ (assignInOrder [fun v=>bindName X.env y v,fun v=>bindName X.env x v] [u2,u1] >>= fun _=>pure Flow.next) _ _ _
 refine γ (kD (wpAny_bindName (oD I3 hN hj (.inl hy) rw' (fun s2 I4=>?_) (.inr hy))));refine kD (wpAny_bindName (oD I4 hN hi (.inl hx) rv (fun s3 I5=>assignInOrder_nil (η ?_)) (.inr hx)));rw[List.set_comm _ _ (eW hij)] at I5;exact⟨_,H1,I5,q1⟩
def NU(to ti te:TE)(tget:V->V->Hp->VK->Prop)(tip:HK)(tset:yj):TS:=fun D σ H=>to σ H fun o H1=>ti σ H1 fun i H2=>tget o i H2 fun x H3=>te σ H3 fun y H4=>tip x y H4 fun z H5=>tset o i z H5 fun H6=>D.nx σ H6
def NA(X:Cx)(t:V->V->Hp->VK->Prop):Prop:=
 ∀(pins:List (ε×aT)) (s:ζ) (σ:St) (H:Hp) (o i:V) (ov iv:δ) (Q:VK),Inv X pins σ H s->RelV o ov->RelV i iv->t o i H Q ->
  π (model X.prog X.w) X.A (getItem ov iv) (EP X pins σ Q) X.xe s
theorem Jb{o i e:ρ}{to ti te:TE}{tget:V->V->Hp->VK->Prop}{tip:HK}{tset:yj}{op:pe}{tpos:aL}(ho:PE X o to)(hi:PE X i ti)(hg:NA X tget)(he:PE X e te)(hp:PK X op tip)(hs:BH X tset)
  (ha:∀ov iv new,augStore i ov iv new=(do holding [new,ov,iv] (setItem ov iv new);release [new,ov,iv] [];pure .next):=by intros;rfl):PS X (.AugAssign (.Subscript o i tpos) op e pos) (NU to ti te tget tip tset):=by
 intro pins s σ H D I h;refine wpAny_AugAssign_SubscriptAny (bK (ho pins s σ H _ I h) fun ov s1 ⟨x1,H1,I1,r1,q1⟩=>?_) ha;refine bK (hi pins s1 σ H1 _ I1 q1) fun iv s2 ⟨x2,H2,I2,r2,q2⟩=>?_;refine bK (hg pins s2 σ H2 x1 x2 ov iv _ I2 r1 r2 q2) fun old s3 ⟨x3,H3,I3,r3,q3⟩=>?_;refine bK (he pins s3 σ H3 _ I3 q3) fun v s4 ⟨x4,H4,I4,r4,q4⟩=>?_;refine bK (hp pins s4 σ H4 x3 x4 old v _ I4 r3 r4 q4) fun new s5 ⟨x5,H5,I5,r5,q5⟩=>?_;exact bK (hs pins s5 σ H5 x1 x2 x5 ov iv new _ I5 r1 r2 r5 q5) fun _ s6 ⟨H6,I6,q6⟩=>⟨σ,H6,I6,q6⟩
def Q8(f:Int->Int->Int):HK:=fun x y H Q=>∃i j,x=.int i/\y=.int j/\Q (.int (f i j)) H
theorem MQ:PK X .Add (Q8 fun i j=>i+j):=by
 intro pins s σ H x y v u Q I r1 r2 h;obtain⟨i,j,e1,e2,q⟩:=h;subst e1;subst e2;obtain⟨t,rfl⟩:=r1;obtain⟨t',rfl⟩:=r2;exact iadd_int ⟨.int _,H,I.tok _,⟨_,rfl⟩,q⟩
end
section
variable {X:Cx} {pos:aL}
def Kv(c:TT)(tb:TS):TS:=fun D σ H=>∃W:Nat->St->Hp->Prop,(∃m,W m σ H)/\∀m σ H,W m σ H ->
 c σ H fun b H1=>if b=true then ∃N:St->Hp->Prop,(∀σ' H',N σ' H'->∃m',m' < m/\W m' σ' H')/\tb { D with nx:=N,ct:=N,bk:=D.nx } σ H1 else D.nx σ H1
theorem Fb{c:ρ}{body:List aX}{tc:TT}{tb:TS}(hp:kG (model X.prog X.w) X.A X.env X.xe)(hc:PT X c tc)(hb:ll X body tb):PS X (.While c body [] pos) (Kv tc tb):=by
 intro pins s σ H D I h;obtain⟨W,⟨m0,w0⟩,turn⟩:=h;refine wpAny_While (codeAny_whileLoop (fun n s'=>∃σ' H',Inv X pins σ' H' s'/\W n σ' H') ?_ m0 ⟨σ,H,I,w0⟩);rintro n s1 ⟨σ1,H1,I1,w1⟩;refine eV hp (bK (hc pins s1 σ1 H1 _ I1 (turn n σ1 H1 w1)) fun b s2 ⟨H2,I2,q2⟩=>?_);cases b with
 |true=>
  obtain⟨N,hN,q2⟩:=q2;rw[if_pos rfl];refine eV hp (bK (hb pins s2 σ1 H2 _ I2 q2) fun f s3 q3=>?_);cases f with
  |next=>
   obtain⟨σ3,H3,I3,n3⟩:=q3;obtain⟨m',hm,w3⟩:=hN σ3 H3 n3;exact⟨m',hm,σ3,H3,I3,w3⟩
  |cont=>
   obtain⟨σ3,H3,I3,n3⟩:=q3;obtain⟨m',hm,w3⟩:=hN σ3 H3 n3;exact⟨m',hm,σ3,H3,I3,w3⟩
  |brk=>exact q3
  |ret v=>exact q3
 |false=>
  rw[if_neg Ω];exact jI ⟨σ1,H2,I2,q2⟩
end
structure It where
 go:Nat->Hp->Prop
 Gq:Nat->Hp->V->Hp->Prop
 stop:Nat->Hp->Prop
def kS(X:Cx)(pins:List (ε×aT))(H:Hp)(b:ε):Prop:=
 H b=none/\b≠X.env.locals/\b∉X.fs/\(b∈X.ex∨X.s₀.heap.objs.size≤b)/\(∀x c,X.env.cells.lookup x=some c->c≠b)/\∀p∈X.pn++pins,p.1≠b
theorem Inv.sr{X:Cx}{pins:List (ε×aT)}{σ:St}{H H':Hp}{s:ζ}{b:ε}(I:Inv X pins σ H s)(hb:s.heap.objs.size≤b)(hn:H' b=none):kS X pins H' b:=by
 refine⟨hn,fG (bu I.lt hb),I.Qf hb,.inr (az I.sz hb),fun x c e z=>?_,fun p hp z=>?_⟩
 ·obtain⟨v,q⟩:=I.cell x c e;exact absurd (bu q.lt (by rw[z];exact hb)) (cv _)
 ·exact absurd (bu (Ψ (I.pin p hp).1) (by rw[z];exact hb)) (cv _)
structure Turn(P:af)(w:ar)(K:ι)(tg:ρ)(J:It)(fp:List ε)(it:ε)(tn:Nat->ai->Prop):Prop where
 mem:it∈fp
 obj:∀i h,tn i h->∀b∈fp,∃o,h.get? b=some o/\∀v,o.data≠.cell v
 keep:∀i h h',tn i h->(∀b∈fp,∀o,h.get? b=some o->h'.get? b=some o)->tn i h'
 item:∀(X:Cx),X.prog=P->X.w=w->X.K=K->X.calm=true->∀(i:Nat) (pins:List (ε×aT)) (s:ζ) (σ:St) (H:Hp) (E:δ->ζ->Prop),Inv X pins σ H s->(∀b∈fp,kS X pins H b)->tn i s.heap->J.go i H ->
  π (model P w) X.A (pyNext (.ref it)) (fun r s1=>∃u,r=some u ∧
   π (model P w) X.A (letOwnedTupleGo tg (.ref it) u) (fun _ s2=>∃x H',Inv X pins σ H' s2/\RelV x u/\J.Gq i H x H'/\tn (i+1) s2.heap/\∀b∈fp,H' b=none) E s1) E s
 done:∀(X:Cx),X.prog=P->X.w=w->X.K=K->X.calm=true->∀(i:Nat) (pins:List (ε×aT)) (s:ζ) (σ:St) (H:Hp) (E:δ->ζ->Prop),Inv X pins σ H s->(∀b∈fp,kS X pins H b)->tn i s.heap->J.stop i H ->
  π (model P w) X.A (pyNext (.ref it)) (fun r s1=>r=none/\Inv X pins σ H s1) E s
 self:∀(A:bA) (i:Nat) (s:ζ) (Q:δ->ζ->Prop) (E:δ->ζ->Prop),tn i s.heap->Q (.ref it) s->π (model P w) A (pyIter (.ref it)) Q E s
abbrev TI:=St->Hp->(It->Hp->Prop)->Prop
def HN(X:Cx)(pins:List (ε×aT))(σ:St)(tg:ρ)(R:It->Hp->Prop)(itv:δ)(s2:ζ):Prop:=
 ∃(it:ε) (fp:List ε) (tn:Nat->ai->Prop) (J:It) (H':Hp),itv=.ref it/\Inv X pins σ H' s2/\Turn X.prog X.w X.K tg J fp it tn/\tn 0 s2.heap/\(∀b∈fp,kS X pins H' b)/\R J H'
def PI(X:Cx)(tg iter:ρ)(wi:TI):Prop:=
 ∀(pins:List (ε×aT)) (s:ζ) (σ:St) (H:Hp) (R:It->Hp->Prop),Inv X pins σ H s->wi σ H R ->
  π (model X.prog X.w) X.A (eval iter X.env) (fun v s1=>π (model X.prog X.w) X.A (pyIter v) (HN X pins σ tg R) X.xe s1) X.xe s
theorem vV{M:Model}{A:bA}{E:δ->ζ->Prop}{s:ζ}{tg:ρ}{it:ε}{u:δ}{o:aT}{n:String}{vs:Array δ}{Q:Unit->ζ->Prop}(ho:s.heap.get? it=some o)(hc:o.cls=.type n)(hd:o.data=.fields vs)
    (hn:["enumerate","zip","dict_itemiterator","dict_reverseitemiterator","odict_iterator","itertools.zip_longest","itertools.pairwise"].contains n=false) (hQ:Q () s):π M A (letOwnedTupleGo tg (.ref it) u) Q E s:=by
  unfold letOwnedTupleGo;cases tg<;>first
    |exact η hQ
    | (cases u<;>first
        |exact η hQ
        | (refine γ (wpAny_load ho ?_)
           rw[hc,hd];show π M A (if (["enumerate","zip","dict_itemiterator","dict_reverseitemiterator","odict_iterator","itertools.zip_longest","itertools.pairwise"].contains n&&vs[0]?==some (rawInt _))=true then _ else _) Q E s;rw[if_neg (by intro h;rw[hn,Bool.false_and] at h;cases h)];exact η hQ))
def PM(K:ι)(a:ε):It:=
 ⟨fun i H=>∃xs x,eQ K H a xs/\xs[i]?=some x,fun i H x H'=>H'=H/\∀xs,eQ K H a xs->xs[i]?=some x,fun i H=>∃xs,eQ K H a xs/\xs.length≤i⟩
def PL(K:ι)(a:ε):It:=
 ⟨fun i H=>∃xs x,dJ K H a xs/\xs[i]?=some x,fun i H x H'=>H'=H/\∀xs,dJ K H a xs->xs[i]?=some x,fun i H=>∃xs,dJ K H a xs/\xs.length≤i⟩
def Ei(lo:Int)(n:Nat):It:=⟨fun i _=>i<n,fun i H x H'=>H'=H/\x=.int (lo+i),fun i _=>n≤i⟩
theorem B3{P:af}{w:ar}{K:ι}{tg:ρ}(a it:ε):Turn P w K tg (PM K a) [it] it (fun i h=>h.IsListIter it a i) where
 mem:=by simp
 obj:=fun i h st b hb=>by
  have e:b=it:=by simpa using hb
  subst e;obtain⟨o,e,c,d⟩:=st;exact⟨o,e,fun v z=>by rw[d] at z;cases z⟩
 keep:=fun i h h' st k=>st.at fun o e=>k it (by simp) o e
 item:=by
  intro X hP hw hK hc i pins s σ H E I hf st hg;subst hP hw hK;obtain⟨xs,x,hq,hx⟩:=hg;obtain⟨its,rv,p,hz⟩:=I.list hq;obtain⟨u,hu,ru⟩:=rv.get hx;obtain⟨f0,f1,f2,f3,f4,f5⟩:=hf it (by simp);refine wpAny_pyNext_list_item st p.isList (x:=u) (by simpa using hu) fun h' st' sb=>?_;have I1:Inv X pins σ H { s with heap:=h' }:=I.turned (t':=s.toks) (fun b o hb e=>(sb.2 b hb).trans e) f0 f1 f3 f4 f5;obtain⟨o,e,c,d⟩:=id st';exact⟨u,rfl,vV (s:={ s with heap:=h' }) e c d (by decide) ⟨x,H,I1,ru,⟨rfl,fun ys hy=>by rw[I.Fm hy hq];exact hx⟩,st',fun b hb=>(hf b hb).1⟩⟩
 done:=by
  intro X hP hw hK hc i pins s σ H E I hf st hg;subst hP hw hK;obtain⟨xs,hq,hx⟩:=hg;obtain⟨its,rv,p,hz⟩:=I.list hq;obtain⟨f0,f1,f2,f3,f4,f5⟩:=hf it (by simp);have hl:=rv.length;exact wpAny_pyNext_list_end (I.ok.hd hc) st p.isList (by simp;lia) fun h' eb=>⟨rfl,I.turned (t':=s.toks) (fun b o hb e=>eb b o hb e) f0 f1 f3 f4 f5⟩
 self:=fun _ _ _ _ _ st h=>wpAny_pyIter_listiter st h
theorem zF{P:af}{w:ar}{K:ι}{tg:ρ}(a it:ε):Turn P w K tg (PL K a) [it] it (fun i h=>h.IsTupleIter it a i) where
 mem:=by simp
 obj:=fun i h st b hb=>by
  have e:b=it:=by simpa using hb
  subst e;obtain⟨o,e,c,d⟩:=st;exact⟨o,e,fun v z=>by rw[d] at z;cases z⟩
 keep:=fun i h h' st k=>st.at fun o e=>k it (by simp) o e
 item:=by
  intro X hP hw hK hc i pins s σ H E I hf st hg;subst hP hw hK;obtain⟨xs,x,hq,hx⟩:=hg;obtain⟨its,rv,p,hz⟩:=I.tuple hq;obtain⟨u,hu,ru⟩:=rv.get hx;obtain⟨f0,f1,f2,f3,f4,f5⟩:=hf it (by simp);refine wpAny_pyNext_tuple_item st (show s.heap.IsTuple a its.toArray from p) (x:=u) (by simpa using hu) fun h' st' sb=>?_;have I1:Inv X pins σ H { s with heap:=h' }:=I.turned (t':=s.toks) (fun b o hb e=>(sb.2 b hb).trans e) f0 f1 f3 f4 f5;obtain⟨o,e,c,d⟩:=id st';exact⟨u,rfl,vV (s:={ s with heap:=h' }) e c d (by decide) ⟨x,H,I1,ru,⟨rfl,fun ys hy=>by rw[I.B4 hy hq];exact hx⟩,st',fun b hb=>(hf b hb).1⟩⟩
 done:=by
  intro X hP hw hK hc i pins s σ H E I hf st hg;subst hP hw hK;obtain⟨xs,hq,hx⟩:=hg;obtain⟨its,rv,p,hz⟩:=I.tuple hq;obtain⟨f0,f1,f2,f3,f4,f5⟩:=hf it (by simp);have hl:=rv.length;exact wpAny_pyNext_tuple_end (I.ok.hd hc) st (show s.heap.IsTuple a its.toArray from p) (by simp;lia) fun h' eb=>⟨rfl,I.turned (t':=s.toks) (fun b o hb e=>eb b o hb e) f0 f1 f3 f4 f5⟩
 self:=fun _ _ _ _ _ st h=>wpAny_pyIter_tupleiter st h
theorem zG{P:af}{w:ar}{K:ι}{tg:ρ}(it:ε)(lo:Int)(n:Nat):Turn P w K tg (Ei lo n) [it] it (fun i h=>nI h it (lo+(i:Nat)*1) ((n:Int)-(i:Nat)) 1) where
 mem:=by simp
 obj:=fun i h st b hb=>by
  have e:b=it:=by simpa using hb
  subst e;exact⟨_,st,fun v z=>by
   have z':Data.fields _=Data.cell v:=z;cases z'⟩
 keep:=fun i h h' st k=>k it (by simp) _ st
 item:=by
  intro X hP hw hK hc i pins s σ H E I hf st hg;subst hP hw hK;obtain⟨f0,f1,f2,f3,f4,f5⟩:=hf it (by simp);have W:=Walks.range (prog:=X.prog) (w:=X.w) (I.ok.hd hc) it lo 1 n;refine W.item i s _ _ hg st fun v h' tk hv st' kk=>?_;obtain⟨t,rfl⟩:=hv;have I1:Inv X pins σ H { s with heap:=h',toks:=tk }:=I.turned (fun b o hb e=>kk b o (by simpa using hb) e) f0 f1 f3 f4 f5;refine⟨_,rfl,vV (s:={ s with heap:=h',toks:=tk }) (n:="range_iterator") st' rfl rfl (by decide) ⟨.int (lo+i),H,I1,⟨t,?_⟩,⟨rfl,rfl⟩,st',fun b hb=>(hf b hb).1⟩⟩;rw[Int.mul_one]
 done:=by
  intro X hP hw hK hc i pins s σ H E I hf st hg;subst hP hw hK;obtain⟨f0,f1,f2,f3,f4,f5⟩:=hf it (by simp);exact wpAny_pyNext_range_end (I.ok.hd hc) st (by have:n≤i:=hg;lia) fun h' eb=>⟨rfl,I.turned (t':=s.toks) (fun b o hb e=>eb b o hb e) f0 f1 f3 f4 f5⟩
 self:=fun _ _ _ _ _ st h=>wpAny_pyIter_rangeiter st h
end L2
namespace L2
open PySem PySem.Spec PyProof.Rows
section
variable {X:Cx} {tg:ρ}
theorem w6{pins:List (ε×aT)}{σ:St}{H:Hp}{s:ζ}{R:It->Hp->Prop}{E:δ->ζ->Prop}{lo hi:Int}{t u v:Tok}{tk:Nat}(I:Inv X pins σ H s)(h1:-(2^62)≤lo)(h2:lo<2^62)(h3:-(2^62)≤hi)(h4:hi<2^62)
  (q:R (Ei lo (hi-lo).toNat) H):π (model X.prog X.w) X.A (pyIter (.ref s.heap.objs.size)) (HN X pins σ tg R) E { s with heap:=s.heap.push { cls:=.type "range",data:=.fields #[.int lo t,.int hi u,.int 1 v]},toks:=tk }:=by
 refine wpAny_pyIter_range (IsRange.new ..) (small_one h1 h2 h3 h4) ?_;have I1:Inv X pins σ H { s with heap:=s.heap.push { cls:=.type "range",data:=.fields #[.int lo t,.int hi u,.int 1 v]},toks:=tk }:=I.kept fun b o e=>ξ _ e;refine⟨(s.heap.push { cls:=.type "range",data:=.fields #[.int lo t,.int hi u,.int 1 v]}).objs.size,[(s.heap.push { cls:=.type "range",data:=.fields #[.int lo t,.int hi u,.int 1 v]}).objs.size],_,_,H,rfl,
  I1.kept (t':=tk) fun b o e=>ξ _ e,zG _ lo (hi-lo).toNat,?_,fun b hb=>?_,q⟩
 ·have e1:lo+((0:Nat):Int)*1=lo:=by simp
  have e2:(((hi-lo).toNat:Nat):Int)-((0:Nat):Int)=cq lo hi 1:=by rw[rangeSize_one];split<;>lia
  show nI _ _ (lo+((0:Nat):Int)*1) ((((hi-lo).toNat:Nat):Int)-((0:Nat):Int)) 1;rw[e1,e2];exact ab _ rfl
 ·have e:b=(s.heap.push { cls:=.type "range",data:=.fields #[.int lo t,.int hi u,.int 1 v]}).objs.size:=by simpa using hb
  subst e;exact I1.sr (Θ _) (I1.bV.fresh (Θ _))
def lH(ta:TA):TI:=fun σ H R=>ta σ H fun vs H1=>∃j:Int,vs=[.int j]/\-(2^62)≤j/\j<2^62/\R (Ei 0 j.toNat) H1
def qZ(ta:TA):TI:=fun σ H R=>ta σ H fun vs H1=>∃i j:Int,vs=[.int i,.int j]/\(-(2^62)≤i/\i<2^62/\-(2^62)≤j/\j<2^62)/\R (Ei i (j-i).toNat) H1
theorem Dc{a:ρ}{ta:TA}{p pos:aL}(hg:Gl X "range")(hm:X.mg "range" = none)(ha:PA X [a] ta)(hs:bE [a] X.env=[(false,eval a X.env)]:=by rfl):PI X tg (.Call (.Name "range" p) [a] [] pos) (lH ta):=by
 intro pins s σ H R I h;refine Call_ (kz I hg hm lL (cK (bK (ha pos pins s σ H _ I h) fun us s1 ⟨vs,H1,I1,r1,q1⟩=>?_) hs rfl));obtain⟨j,e,q1,q2,q⟩:=q1;subst e;cases r1 with
 |cons r rr=>
  cases rr;obtain⟨t,rfl⟩:=r;exact call_range_1 (w6 I1 (by lia) (by lia) q1 q2 (by simpa using q))
theorem C9{a b:ρ}{ta:TA}{p pos:aL}(hg:Gl X "range")(hm:X.mg "range" = none)(ha:PA X [a,b] ta)(hs:bE [a,b] X.env=[(false,eval a X.env),(false,eval b X.env)]:=by rfl)(hs2:bE [b] X.env=[(false,eval b X.env)]:=by rfl):
  PI X tg (.Call (.Name "range" p) [a,b] [] pos) (qZ ta):=by
 intro pins s σ H R I h;refine Call_ (kz I hg hm lL (cK (bK (ha pos pins s σ H _ I h) fun us s1 ⟨vs,H1,I1,r1,q1⟩=>?_) (by rw[hs,hs2]) (by rw[hs2];rfl)));obtain⟨i,j,e,⟨q1,q2,q3,q4⟩,q⟩:=q1;subst e;cases r1 with
 |cons r rr=>
  cases rr with
  |cons r' rr=>
   cases rr;obtain⟨t,rfl⟩:=r;obtain⟨t',rfl⟩:=r';exact call_range_2 (w6 I1 q1 q2 q3 q4 q)
def P1(wi:TI)(g:TG)(tb:TS):TS:=fun D σ H=>wi σ H fun J H1=>∃W:Nat->Nat->St->Hp->Prop,(∃m,W 0 m σ H1)/\∀i m σ H,W i m σ H ->
 (J.stop i H/\D.nx σ H)∨(J.go i H/\∃N:St->Hp->Prop,(∀σ' H',N σ' H'->∃m',m' < m/\W (i+1) m' σ' H')/\∀x H',J.Gq i H x H'->g x σ H' fun σ2 H2=>tb { D with nx:=N,ct:=N,bk:=D.nx } σ2 H2)
def qb(fp:List ε)(h:ai):List (ε×aT):=fp.filterMap fun b=>(h.get? b).map fun o=>(b,o)
theorem lF{fp:List ε}{h:ai}{b:ε}{o:aT}(hb:b∈fp)(e:h.get? b=some o):(b,o)∈qb fp h:=kI.mpr ⟨b,hb,by rw[e];rfl⟩
theorem Dw{fp:List ε}{h:ai}{p:ε×aT}(hp:p∈qb fp h):p.1∈fp/\h.get? p.1=some p.2:=by
 obtain⟨b,hb,e⟩:=kI.mp hp;cases q:h.get? b with
 |none=>rw[q] at e;cases e
 |some o=>
  rw[q] at e;have e':(b,o)=p:=ay e;subst e';exact⟨hb,q⟩
theorem Inv.pinned{pins:List (ε×aT)}{σ:St}{H:Hp}{s:ζ}{fp:List ε}(I:Inv X pins σ H s)(hf:∀b∈fp,kS X pins H b)(ho:∀b∈fp,∃o,s.heap.get? b=some o/\∀v,o.data≠.cell v):Inv X (pins++qb fp s.heap) σ H s:=
 I.yR fun p hp=>(bC.mp hp).elim (fun z=>I.pin p (aC _ z)) fun z=>by
  obtain⟨hb,e⟩:=Dw z;obtain⟨f0,f1,f2,_⟩:=hf p.1 hb;obtain⟨o,e',d⟩:=ho p.1 hb;rw[e] at e';cases e';exact⟨e,f0,f1,f2,d⟩
theorem Inv.oC{pins pl:List (ε×aT)}{σ:St}{H:Hp}{s:ζ}(I:Inv X (pins++pl) σ H s):Inv X pins σ H s:=I.yR fun p hp=>I.pin p (aC _ (bX _ hp))
theorem Lx{iter:ρ}{body:List aX}{wi:TI}{g:TG}{tb:TS}{pos:aL}(hp:kG (model X.prog X.w) X.A X.env X.xe)(hc:X.calm=true)(hi:PI X tg iter wi)(hg:PG X tg g)(hb:ll X body tb)
  (hs:∀x,foldedSetIterable iter X.env x=pure x:=by intro _;rfl):PS X (.For tg iter body [] pos) (P1 wi g tb):=by
 intro pins s σ H D I h;refine wpAny_For (bK (hi pins s σ H _ I h) fun v s1 h1=>bK h1 fun itv s2 h2=>?_) hs;obtain⟨it,fp,tn,J,H2,e,I2,T,st2,f2,W,⟨m0,w0⟩,turn⟩:=h2;subst e
 -- what stays true of the iterator's objects through the loop
 have stat:∀{H':Hp},(∀b∈fp,H' b=none)->∀b∈fp,kS X pins H' b:=fun hn b hb=>⟨hn b hb,(f2 b hb).2⟩;refine codeAny_forLoop_any (fun n s'=>∃i σ' H',Inv X pins σ' H' s'/\tn i s'.heap/\(∀b∈fp,H' b=none)/\W i n σ' H') ?_ m0 ⟨0,σ,H2,I2,st2,fun b hb=>(f2 b hb).1,w0⟩;rintro n s3 ⟨i,σ3,H3,I3,st3,fr3,w3⟩;rcases turn i n σ3 H3 w3 with⟨stop,qn⟩|⟨go,N,hN,step⟩
 ·refine eV hp (bK (T.done X rfl rfl rfl hc i pins s3 σ3 H3 X.xe I3 (stat fr3) st3 stop) fun r s4 ⟨hr,I4⟩=>?_);subst hr;exact jI ⟨σ3,H3,I4,qn⟩
 ·refine eV hp (bK (T.item X rfl rfl rfl hc i pins s3 σ3 H3 X.xe I3 (stat fr3) st3 go) fun r s4 ⟨u,hr,h4⟩=>?_);subst hr;refine eV hp (bK h4 fun _ s5 ⟨x,H5,I5,r5,y5,st5,fr5⟩=>?_);have I5':=I5.pinned (stat fr5) (T.obj _ _ st5);refine eV hp (bK (hg _ s5 σ3 H5 x u _ I5' r5 (step x H5 y5)) fun _ s6 ⟨σ6,H6,I6,q6⟩=>?_);refine eV hp (bK (hb _ s6 σ6 H6 _ I6 q6) fun f s7 q7=>?_);have again:∀{σ7:St} {H7:Hp},Inv X (pins++qb fp s5.heap) σ7 H7 s7->N σ7 H7->∃m,m<n/\∃i σ' H',Inv X pins σ' H' s7/\tn i s7.heap/\(∀b∈fp,H' b=none)/\W i m σ' H':=fun {σ7 H7} I7 n7=>by
   obtain⟨m',hm,w7⟩:=hN σ7 H7 n7;refine⟨m',hm,i+1,σ7,H7,I7.oC,T.keep _ _ _ st5 fun b hb o e=>(I7.pin (b,o) (aC _ (aC _ (lF hb e)))).1,fun b hb=>?_,w7⟩;obtain⟨o,e,d⟩:=T.obj _ _ st5 b hb;exact (I7.pin (b,o) (aC _ (aC _ (lF hb e)))).2.1
  cases f with
  |next=>obtain⟨σ7,H7,I7,n7⟩:=q7;exact again I7 n7
  |cont=>obtain⟨σ7,H7,I7,n7⟩:=q7;exact again I7 n7
  |brk=>obtain⟨σ7,H7,I7,q7⟩:=q7;exact⟨σ7,H7,I7.oC,q7⟩
  |ret v=>obtain⟨x7,σ7,H7,I7,r7,q7⟩:=q7;exact⟨x7,σ7,H7,I7.oC,r7,q7⟩
end
end L2
namespace L2
open PySem PySem.Spec PyProof.Rows
abbrev R2:=V->V->Hp->VK->Prop
def ey(X:Cx)(f:δ->δ->Sem δ)(r:R2):Prop:=
 ∀(pins:List (ε×aT)) (s:ζ) (σ:St) (H:Hp) (x y:V) (v u:δ) (Q:VK),Inv X pins σ H s->RelV x v->RelV y u->r x y H Q ->
  π (model X.prog X.w) X.A (f v u) (EP X pins σ Q) X.xe s
def Nx(X:Cx)(f:δ->Sem δ)(r:V->Hp->VK->Prop):Prop:=
 ∀(pins:List (ε×aT)) (s:ζ) (σ:St) (H:Hp) (x:V) (v:δ) (Q:VK),Inv X pins σ H s->RelV x v->r x H Q ->
  π (model X.prog X.w) X.A (f v) (EP X pins σ Q) X.xe s
def fM(X:Cx)(f:δ)(r:List V->Hp->VK->Prop):Prop:=
 ∀(pins:List (ε×aT)) (s:ζ) (σ:St) (H:Hp) (xs:List V) (us:List δ) (Q:VK),Inv X pins σ H s->bc xs us->r xs H Q ->
  π (model X.prog X.w) X.A (call f us) (EP X pins σ Q) X.xe s
def Q0(X:Cx)(r:V->Hp->(Bool->Hp->Prop)->Prop):Prop:=
 ∀(pins:List (ε×aT)) (s:ζ) (σ:St) (H:Hp) (x:V) (v:δ) (Q:Bool->Hp->Prop),Inv X pins σ H s->RelV x v->r x H Q ->
  π (model X.prog X.w) X.A (truthy v) (TP X pins σ Q) X.xe s
def Cy(r:R2)(ta tb:TE):TE:=fun σ H Q=>ta σ H fun x H1=>tb σ H1 fun y H2=>r x y H2 Q
def Q2(r:V->Hp->VK->Prop)(ta:TE):TE:=fun σ H Q=>ta σ H fun x H1=>r x H1 Q
def rI(C:Int->Int->Prop)(g:Int->Int->V):R2:=fun x y H Q=>∃i j,x=.int i/\y=.int j/\C i j/\Q (g i j) H
def ma(g:Int->Int->V):R2:=fun x y H Q=>∃i j,x=.int i/\y=.int j/\Q (g i j) H
def rU(g:Int->V):V->Hp->VK->Prop:=fun x H Q=>∃i,x=.int i/\Q (g i) H
section
variable {X:Cx} {a b c:ρ} {ta tb tc:TE} {pos:aL}
theorem Gi(ha:PE X a ta)(hb:PE X b tb){pins:List (ε×aT)}{s:ζ}{σ:St}{H:Hp}{R:V->V->Hp->Prop}(I:Inv X pins σ H s)
  (h:ta σ H fun x H1=>tb σ H1 fun y H2=>R x y H2) {Q:δ->ζ->Prop} {f:δ->δ->Sem δ}
  (hf:∀v u s2 x y H2,Inv X pins σ H2 s2->RelV x v->RelV y u->R x y H2->π (model X.prog X.w) X.A (f v u) Q X.xe s2):
  π (model X.prog X.w) X.A (eval a X.env) (fun v s₁=>π (model X.prog X.w) X.A (eval b X.env) (fun u s₂=>π (model X.prog X.w) X.A (f v u) Q X.xe s₂) X.xe s₁) X.xe s:=by
 refine bK (ha pins s σ H _ I h) fun v s1 ⟨x,H1,I1,r1,q1⟩=>?_;refine bK (hb pins s1 σ H1 _ I1 q1) fun u s2 ⟨y,H2,I2,r2,q2⟩=>?_;exact hf v u s2 x y H2 I2 r1 r2 q2
theorem Oo{op:pe}{r:R2}(ho:ey X (binaryOp op) r)(ha:PE X a ta)(hb:PE X b tb):PE X (.BinOp a op b pos) (Cy r ta tb):=by
 intro pins s σ H Q I h;exact wpAny_BinOp (Gi ha hb I h fun v u s2 x y H2 I2 rx ry q=>ho pins s2 σ H2 x y v u Q I2 rx ry q)
theorem Om{op:UnaryOp}{r:V->Hp->VK->Prop}(ho:Nx X (unaryOp op) r)(ha:PE X a ta):PE X (.UnaryOp op a pos) (Q2 r ta):=by
 intro pins s σ H Q I h;exact UnaryOp_ (bK (ha pins s σ H _ I h) fun v s1 ⟨x,H1,I1,r1,q1⟩=>ho pins s1 σ H1 x v Q I1 r1 q1)
theorem GX{f:δ->δ->Sem δ}{C:Int->Int->Prop}{g:Int->Int->Int}
  (rule:∀(i j:Int) (t u:Tok) (s:ζ) (Q:δ->ζ->Prop) (E:δ->ζ->Prop),C i j->Q (.int (g i j) s.toks) { s with toks:=s.toks+1 }->π (model X.prog X.w) X.A (f (.int i t) (.int j u)) Q E s):
  ey X f (rI C fun i j=>.int (g i j)):=by
 intro pins s σ H x y v u Q I rx ry h;obtain⟨i,j,rfl,rfl,hc,q⟩:=h;obtain⟨t,rfl⟩:=rx;obtain⟨t',rfl⟩:=ry;exact rule i j t t' s _ _ hc ⟨.int (g i j),H,I.tok _,⟨_,rfl⟩,q⟩
theorem LS{f:δ->δ->Sem δ}{g:Int->Int->Int}
  (rule:∀(i j:Int) (t u:Tok) (s:ζ) (Q:δ->ζ->Prop) (E:δ->ζ->Prop),Q (.int (g i j) s.toks) { s with toks:=s.toks+1 }->π (model X.prog X.w) X.A (f (.int i t) (.int j u)) Q E s):
  ey X f (ma fun i j=>.int (g i j)):=by
 intro pins s σ H x y v u Q I rx ry h;obtain⟨i,j,rfl,rfl,q⟩:=h;obtain⟨t,rfl⟩:=rx;obtain⟨t',rfl⟩:=ry;exact rule i j t t' s _ _ ⟨.int (g i j),H,I.tok _,⟨_,rfl⟩,q⟩
theorem As{f:δ->δ->Sem δ}{g:Int->Int->Bool}
  (rule:∀(i j:Int) (t u:Tok) (s:ζ) (Q:δ->ζ->Prop) (E:δ->ζ->Prop),Q (.bool (g i j)) s->π (model X.prog X.w) X.A (f (.int i t) (.int j u)) Q E s):
  ey X f (ma fun i j=>.bl (g i j)):=by
 intro pins s σ H x y v u Q I rx ry h;obtain⟨i,j,rfl,rfl,q⟩:=h;obtain⟨t,rfl⟩:=rx;obtain⟨t',rfl⟩:=ry;exact rule i j t t' s _ _ ⟨.bl (g i j),H,I,rfl,q⟩
def Gn(i j:Int):Prop:=0≤j/\j≤1000000/\i.natAbs<2^64
theorem LQ:ey X (binaryOp .Add) (ma fun i j=>.int (i+j)):=LS fun _ _ _ _ _ _ _ q=>add_int q
theorem nV:ey X (binaryOp .Sub) (ma fun i j=>.int (i-j)):=LS fun _ _ _ _ _ _ _ q=>sub_int q
theorem gN:ey X (binaryOp .Mod) (rI (fun _ j=>0<j) fun i j=>.int (i%j)):=GX fun i j _ _ _ _ _ hc q=>by
 have h1:(0:Int)<j:=hc;exact mod_int' (by lia) (by rw[Int.fmod_eq_emod_of_nonneg i (by lia)];exact q)
theorem xc:ey X (binaryOp .Pow) (rI Gn fun i j=>.int (i^j.toNat)):=GX fun _ _ _ _ _ _ _ hc q=>pow_int_small hc.1 hc.2.1 hc.2.2 q
theorem Q1{f:δ->Sem δ}{g:Int->Int}
  (rule:∀(i:Int) (t:Tok) (s:ζ) (Q:δ->ζ->Prop) (E:δ->ζ->Prop),Q (.int (g i) s.toks) { s with toks:=s.toks+1 }->π (model X.prog X.w) X.A (f (.int i t)) Q E s):
  Nx X f (rU fun i=>.int (g i)):=by
 intro pins s σ H x v Q I rx h;obtain⟨i,rfl,q⟩:=h;obtain⟨t,rfl⟩:=rx;exact rule i t s _ _ ⟨.int (g i),H,I.tok _,⟨_,rfl⟩,q⟩
theorem Ko:Nx X (unaryOp .USub) (rU fun i=>.int (-i)):=Q1 fun _ _ _ _ _ q=>neg_int q
end
section
variable {X:Cx} {a b c:ρ} {ta tb tc:TE} {pos:aL}
theorem M4{pins:List (ε×aT)}{σ:St}{H:Hp}{s:ζ}{Q:VK}{k k':Bool}(I:Inv X pins σ H s)(q:Q (.bl k) H)(e:k=k'):EP X pins σ Q (.bool k') s:=by
 subst e;exact⟨.bl k,H,I,rfl,q⟩
theorem Ox:ey X (compareOp .Lt) (ma fun i j=>.bl (decide (i<j))):=As fun _ _ _ _ _ _ _ q=>lt_int q
theorem Oy:ey X (compareOp .LtE) (ma fun i j=>.bl (decide (i≤j))):=As fun _ _ _ _ _ _ _ q=>le_int q
theorem tM:ey X (compareOp .Gt) (ma fun i j=>.bl (decide (j<i))):=As fun _ _ _ _ _ _ _ q=>gt_int q
theorem Oz:ey X (compareOp .GtE) (ma fun i j=>.bl (decide (j≤i))):=As fun _ _ _ _ _ _ _ q=>ge_int q
theorem LO:ey X (compareOp .Is) (fun x y H Q=>y=.aq/\Q (.bl (decide (x=.aq))) H):=by
 intro pins s σ H x y v u Q I rx ry h;obtain⟨rfl,q⟩:=h;cases ry;refine is_none_gen (M4 I q ?_);cases x<;>first
  | (cases rx;rfl)
  | (obtain⟨t,rfl⟩:=rx;rfl)
theorem ey.or{f:δ->δ->Sem δ}{r r':R2}(h:ey X f r)(h':ey X f r'):ey X f (fun x y H Q=>r x y H Q∨r' x y H Q):=by
 intro pins s σ H x y v u Q I rx ry q;rcases q with q|q
 ·exact h pins s σ H x y v u Q I rx ry q
 ·exact h' pins s σ H x y v u Q I rx ry q
theorem cO(b:ρ){op:ko}(h:op≠.In:=by decide)(h2:op≠.NotIn:=by decide):behindInMarks op b=false:=by
 have e1:(op==ko.In)=false:=by cases op<;>first|rfl|exact absurd rfl h
 have e2:(op==ko.NotIn)=false:=by cases op<;>first|rfl|exact absurd rfl h2
 cases b<;>simp[behindInMarks,e1,e2]
theorem Jk{op:ko}{r:R2}(ho:ey X (compareOp op) r)(ha:PE X a ta)(hb:PE X b tb)(hm:behindInMarks op b=false):PE X (.Compare a [op] [b] pos) (Cy r ta tb):=by
 intro pins s σ H Q I h;exact wpAny_Compare1 (Gi ha hb I h fun v u s2 x y H2 I2 rx ry q=>ho pins s2 σ H2 x y v u Q I2 rx ry q) hm
def GB(t:TE):TT:=fun σ H Q=>t σ H fun x H'=>∃k,x=.bl k/\Q k H'
theorem IX{op:ko}{r:R2}(ho:ey X (compareOp op) r)(ha:PE X a ta)(hb:PE X b tb)(hm:behindInMarks op b=false):PT X (.Compare a [op] [b] pos) (GB (Cy r ta tb)):=by
 intro pins s σ H Q I h;refine wpAny_isTrue_Compare1 (bK (ha pins s σ H _ I h) fun v s1 ⟨x,H1,I1,r1,q1⟩=>bK (hb pins s1 σ H1 _ I1 q1) fun u s2 ⟨y,H2,I2,r2,q2⟩=>
  bK (ho pins s2 σ H2 x y v u _ I2 r1 r2 q2) fun c s3 ⟨z,H3,I3,r3,k,e,q3⟩=>?_) hm
 subst e;cases r3;exact dB ⟨H3,I3,q3⟩
def Ny(K:ι)(x:V)(H:Hp)(k:Bool):Prop:=
 match x with
 |.aq=>k=false
 |.bl b=>k=b
 |.int i=>k=(i != 0)
 |.str y=>y.length≤aj/\k=((y.length:Int) != 0)
 |.Ed y=>y.size≤aj/\k=((y.size:Int) != 0)
 |.ref p=>(∃xs,eQ K H p xs/\k = !xs.isEmpty)∨(∃xs,dJ K H p xs/\k = !xs.isEmpty)∨∃kvs,H p=some (.dK kvs)/\k = !kvs.isEmpty
 |_=>False
theorem AM{κ:Type}{kvs:List (κ×V)}{vs:List (κ×δ)}(r:KV kvs vs):(!vs.isEmpty) = !kvs.isEmpty:=by
 cases r<;>rfl
theorem tS{xs:List V}{its:List δ}(r:bc xs its):(!its.toArray.isEmpty) = !xs.isEmpty:=by
 cases r<;>simp
theorem mi:(aj:Nat)<2^63:=by rw[bM];decide
theorem Kt:Q0 X (fun x H Q=>∃k,Ny X.K x H k/\Q k H):=by
 intro pins s σ H x v Q I rx h;obtain⟨k,e,q⟩:=h;have hl:=mi;have hs:aj=16777216:=bM;cases x with
 |aq=>
  cases rx;have e':k=false:=e;subst e';exact truthy_none ⟨H,I,q⟩
 |bl b=>
  cases rx;have e':k=b:=e;subst e';exact dB ⟨H,I,q⟩
 |int i=>
  obtain⟨t,rfl⟩:=rx;have e':k=(i != 0):=e;subst e';exact PySem.P.truthy_int ⟨H,I,q⟩
 |str y=>
  obtain⟨t,rfl⟩:=rx;obtain⟨hy,e'⟩:y.length≤aj/\k=((y.length:Int) != 0):=e;subst e';exact PySem.P.truthy_str (by lia) ⟨H,I.tok _,q⟩
 |Ed y=>
  obtain⟨t,rfl⟩:=rx;obtain⟨hy,e'⟩:y.size≤aj/\k=((y.size:Int) != 0):=e;subst e';exact PySem.W.truthy_bytes (by lia) ⟨H,I.tok _,q⟩
 |ref p=>
  cases rx;have e':(∃xs,eQ X.K H p xs/\k = !xs.isEmpty)∨(∃xs,dJ X.K H p xs/\k = !xs.isEmpty)∨∃kvs,H p=some (.dK kvs)/\k = !kvs.isEmpty:=e;rcases e' with⟨xs,hx,e'⟩|⟨xs,hx,e'⟩|⟨kvs,hx,e'⟩
  ·subst e';obtain⟨its,r,pl,hz⟩:=I.list hx;have hlen:=r.length;exact wpAny_truthy_list pl.isList (by simp only[ψ];lia) ⟨H,I.tok _,by rw[tS r];exact q⟩
  ·subst e';obtain⟨its,r,pl,hz⟩:=I.tuple hx;have hlen:=r.length;exact truthy_tuple pl (by simp only[ψ];lia) ⟨H,I.tok _,by rw[tS r];exact q⟩
  ·subst e';obtain⟨hz,hS,vs,r,m⟩:kvs.length≤aj/\(p==sysModules)=false/\∃vs,KV kvs vs/\s.heap.DictOf (uE X.prog X.w) p vs:=I.bV p _ hx;have hlen:kvs.length=vs.length:=Paired.length r;exact wpAny_truthy_dict hS m (by lia) ⟨H,I.tok _,by rw[AM r];exact q⟩
 |_=>exact (show False from e).elim
theorem E8(ha:PE X a ta)(he:∀whole,isTrue a X.env whole=(do let v ←whole;standAt a.pos;holding [v] (truthy v))):
  PT X a (fun σ H Q=>ta σ H fun x H'=>∃k,Ny X.K x H' k/\Q k H'):=by
 intro pins s σ H Q I h;exact isTrue_plain (bK (ha pins s σ H _ I h) fun v s1 ⟨x,H1,I1,r1,q1⟩=>Kt pins s1 σ H1 x v Q I1 r1 q1) (he _)
theorem vals1{x:V}{us:List δ}(r:bc [x] us):∃u,us=[u]/\RelV x u:=by
 cases r with
 |cons r1 r2=>cases r2;exact⟨_,rfl,r1⟩
theorem vals2{x y:V}{us:List δ}(r:bc [x,y] us):∃u w',us=[u,w']/\RelV x u/\RelV y w':=by
 cases r with
 |cons r1 r2=>
  cases r2 with
  |cons r3 r4=>cases r4;exact⟨_,_,rfl,r1,r3⟩
theorem D9(hc:X.calm=true):fM X (.builtin "max") (fun xs H Q=>∃i j,xs=[.int i,.int j]/\Q (.int (if j > i then j else i)) H):=by
 intro pins s σ H xs us Q I r h;obtain⟨i,j,rfl,q⟩:=h;obtain⟨u,w',rfl,⟨t,rfl⟩,⟨t',rfl⟩⟩:=vals2 r;refine max_two_ints (I.ok.hd hc) fun h' tk k=>⟨_,H,I.kept k,?_,q⟩;by_cases hj:j > i
 ·rw[if_pos hj,if_pos hj];exact⟨_,rfl⟩
 ·rw[if_neg hj,if_neg hj];exact⟨_,rfl⟩
theorem D8(hc:X.calm=true):fM X (.builtin "min") (fun xs H Q=>∃i j,xs=[.int i,.int j]/\Q (.int (if j<i then j else i)) H):=by
 intro pins s σ H xs us Q I r h;obtain⟨i,j,rfl,q⟩:=h;obtain⟨u,w',rfl,⟨t,rfl⟩,⟨t',rfl⟩⟩:=vals2 r;refine min_two_ints (I.ok.hd hc) fun h' tk k=>⟨_,H,I.kept k,?_,q⟩;by_cases hj:j<i
 ·rw[if_pos hj,if_pos hj];exact⟨_,rfl⟩
 ·rw[if_neg hj,if_neg hj];exact⟨_,rfl⟩
theorem Ea:fM X (.type "int") (fun xs H Q=>(∃i,xs=[.int i]/\Q (.int i) H)∨∃k,xs=[.bl k]/\Q (.int (if k then 1 else 0)) H):=by
 intro pins s σ H xs us Q I r h;rcases h with⟨i,rfl,q⟩|⟨k,rfl,q⟩
 ·obtain⟨u,rfl,t,rfl⟩:=vals1 r;exact call_int_int ⟨.int i,H,I,⟨_,rfl⟩,q⟩
 ·obtain⟨u,rfl,r1⟩:=vals1 r;cases r1;exact call_int_bool ⟨.int (if k then 1 else 0),H,I.tok _,⟨_,rfl⟩,q⟩
end
end L2
namespace L2
open PySem PySem.Spec PyProof.Rows
structure fD(k:Nat)(A:bA):Prop where
 hd:A.handled=none
 dp:A.depth+3*k+5<recursionLimit
 un:A.units+16*k+200<cLine
theorem fD.mono{j k:Nat}{A:bA}(r:fD k A)(h:j≤k):fD j A:=⟨r.hd,by have:=r.dp;lia,by have:=r.un;lia⟩
theorem fD.deeper{k:Nat}{A:bA}(r:fD (k+1) A)(env:gA):fD k (A.deeper env):=
 ⟨r.hd,by have:=r.dp;show A.depth+1+3*k+5<_;lia,by have:=r.un;show A.units+3+16*k+200<_;lia⟩
theorem fD.depth{k:Nat}{A:bA}(r:fD k A):A.depth<recursionLimit:=by have:=r.dp;lia
theorem fD.units{k:Nat}{A:bA}(r:fD k A):A.units+64<cLine:=by have:=r.un;lia
theorem fD.sI{k:Nat}{A:bA}(r:fD k A):A.units<cLine:=by have:=r.un;lia
def PY:TA:=fun _ H Q=>Q [] H
def NT(ta:TE)(tr:TA):TA:=fun σ H Q=>ta σ H fun x H1=>tr σ H1 fun xs H2=>Q (x::xs) H2
section
variable {X:Cx} {e:ρ} {es:List ρ} {te:TE} {t:TA} {pos:aL}
theorem mf:PA X [] PY:=fun _ _ _ _ H Q I h=>Calls.spliced_nil ⟨[],H,I,.nil,h⟩
theorem je(ha:PE X e te)(hr:PA X es t)(hs:bE (e::es) X.env=(false,eval e X.env)::bE es X.env:=by rfl):PA X (e::es) (NT te t):=by
 intro pos pins s σ H Q I h;rw[hs];show π _ _ (spliced ((false,eval e X.env)::backTo pos (bE es X.env))) _ _ s;refine Calls.spliced_cons (bK (ha pins s σ H _ I h) fun u s1 ⟨x,H1,I1,r1,q1⟩=>?_);exact bK (hr pos pins s1 σ H1 _ I1 q1) fun us s2 ⟨xs,H2,I2,r2,q2⟩=>⟨x::xs,H2,I2,.cons r1 r2,q2⟩
def PR(t:TA):TE:=fun σ H Q=>t σ H fun xs H1=>xs.length≤aj/\∀p,H1 p=none->Q (.ref p) (upd H1 p (.tup xs))
def PZ(t:TA):TE:=fun σ H Q=>t σ H fun xs H1=>xs.length≤aj/\∀p,H1 p=none->Q (.ref p) (upd H1 p (.lst xs))
theorem LB{x1}(h:PA X es t):PE X (.Tuple es x1 pos) (PR t):=by
 intro pins s σ H Q I hq;refine wpAny_Tuple_spliced (bK (h pos pins s σ H _ I hq) fun us s1 ⟨xs,H1,I1,r,z,q⟩=>⟨by rw[←r.length];exact z,?_⟩);have hf:H1 s1.heap.objs.size=none:=I1.bV.fresh (Θ _);refine⟨.ref s1.heap.objs.size,upd H1 s1.heap.objs.size (.tup xs),I1.laid (t':=s1.toks) (fun b u e=>ξ _ e) (Θ _) ?_,rfl,q _ hf⟩;exact⟨z,us,r,⟨_,ab _ rfl,rfl,⟨_,rfl⟩,rfl⟩⟩
theorem Dg(h:PA X es t):PE X (.List es pos) (PZ t):=by
 intro pins s σ H Q I hq;refine wpAny_List_spliced (bK (h pos pins s σ H _ I hq) fun us s1 ⟨xs,H1,I1,r,z,q⟩=>⟨by rw[←r.length];exact z,?_⟩);have hf:H1 s1.heap.objs.size=none:=I1.bV.fresh (Θ _);refine⟨.ref s1.heap.objs.size,upd H1 s1.heap.objs.size (.lst xs),I1.laid (t':=s1.toks) (fun b u e=>ξ _ e) (Θ _) ?_,rfl,q _ hf⟩;exact⟨z,us,0,r,ab _ rfl⟩
end
abbrev Sp:=List V->Hp->VK->XK->Prop
abbrev pB:=List gA->Hp->ζ->XK->δ->ζ->Prop
structure BW(P:af)(w:ar)(K:ι)(mg:Δ->Option δ)(base:ai)(A:bA)(outer:List gA)(s:ζ)(H:Hp):Prop where
 frames:A.frames=some outer
 mod:Mod K mg base
 bs:∀b o,base.get? b=some o->s.heap.get? b=some o/\H b=none
 t6:base.objs.size≤s.heap.objs.size
 kN:s.heap.FunFrames base outer
 xK:∀b∈qm outer,H b=none
 bV:ik P w H s.heap
 bare:jr s.gens
def CE(outer:List gA)(P:af)(w:ar)(H:Hp)(s:ζ)(Q:VK)(u:δ)(s':ζ):Prop:=
 ∃v H',s'.os=s.os/\jr s'.gens/\Un (qm outer) [] H H' s.heap s'.heap/\ik P w H' s'.heap/\RelV v u/\Q v H'
def CR(CX:pB)(outer:List gA)(P:af)(w:ar)(H:Hp)(s:ζ)(Q:VK)(E:XK)(r:Result)(s':ζ):Prop:=
 match r with
 |.ok (.ret u)=>CE outer P w H s Q u s'
 |.ok _=>False
 |.error e=>CX outer H s E e s'
structure iF(P:af)(w:ar)(K:ι)(mg:Δ->Option δ)(base:ai)(CX:pB)(k:Nat)(f:ε)(fd:aG)(ps:List Δ)(sp:Sp):Prop where
 len:∀vs H Q E,sp vs H Q E->vs.length=ps.length
 run:∀(A:bA) (outer:List gA) (s:ζ) (H:Hp) (args:Args) (us:List δ) (vs:List V) (Q:VK) (E:XK),fD k A->BW P w K mg base A outer s H->oB s fd args (ps.zip us)->bc vs us->sp vs H Q E ->
  gw (model P w) A (.call (.ref f) args) (CR CX outer P w H s Q E) s
theorem iF.mono{P:af}{w:ar}{K:ι}{mg:Δ->Option δ}{base:ai}{CX:pB}{j k:Nat}{f:ε}{fd:aG}{ps:List Δ}{sp:Sp}(F:iF P w K mg base CX j f fd ps sp)(h:j≤k):
  iF P w K mg base CX k f fd ps sp:=⟨F.len,fun A outer s H args us vs Q E hr=>F.run A outer s H args us vs Q E (hr.mono h)⟩
theorem iF.imp{P:af}{w:ar}{K:ι}{mg:Δ->Option δ}{base:ai}{CX:pB}{k:Nat}{f:ε}{fd:aG}{ps:List Δ}{sp sp':Sp}(F:iF P w K mg base CX k f fd ps sp)
  (h:∀vs H Q E,sp' vs H Q E->sp vs H Q E):iF P w K mg base CX k f fd ps sp':=
 ⟨fun vs H Q E q=>F.len vs H Q E (h _ _ _ _ q),fun A outer s H args us vs Q E hr he hb hv hs=>F.run A outer s H args us vs Q E hr he hb hv (h _ _ _ _ hs)⟩
section
variable {X:Cx} {pins:List (ε×aT)} {σ:St} {H:Hp} {s s':ζ}
theorem Inv.QD(I:Inv X pins σ H s):BW X.prog X.w X.K X.mg X.base X.A X.stack s H:=
 ⟨I.ok.frames,I.ok.mod,I.bs,az I.ok.t6 I.sz,I.stack,I.yF,I.bV,I.bare⟩
theorem Inv.after{Q:VK}{u:δ}(I:Inv X pins σ H s)(h:CE X.stack X.prog X.w H s Q u s'):EP X pins σ Q u s':=by
 obtain⟨v,H',os,bare,un,bV,r,q⟩:=h;obtain⟨hh,g,d,t,os'⟩:=s';obtain rfl:os'=s.os:=os;exact⟨v,H',I.call (h':=hh) (g':=g) (d':=d) (t':=t) (ch:=[]) un bV bare (fun b z=>absurd z (by simp)),r,q⟩
end
def GF(sp:Sp)(dvs:List V)(E:XK)(t:TA):TE:=fun σ H Q=>t σ H fun vs H1=>sp (vs++dvs) H1 Q E
def Binds(K:ι)(fd:aG)(ps:List Δ)(ds:List δ):Prop:=
 ∀(s:ζ) (us:List δ),K.In s.heap->(us++ds).length=ps.length->oB s fd ⟨us,[]⟩ (ps.zip (us++ds))
theorem Binds.all{K:ι}{fd:aG}{ps:List Δ}(h:∀us:List δ,us.length=ps.length->bindArgs fd ⟨us,[]⟩=pure (ps.zip us)):Binds K fd ps []:=fun s us _ hl=>by
 rw[cI] at hl ⊢;exact .of_eq (h us hl)
def yk(CX:pB)(X:Cx)(E:XK):Prop:=∀(pins:List (ε×aT)) (σ:St) (H:Hp) (s:ζ) (e:δ) (s':ζ),Inv X pins σ H s->CX X.stack H s E e s'->X.xe e s'
section
variable {X:Cx} {CX:pB} {k:Nat} {f C:ε} {fd:aG} {ps:List Δ} {sp:Sp} {dvs:List V} {ds:List δ} {E:XK} {x m:Δ} {p pos apos:aL} {e o:ρ} {es:List ρ} {ta:TE} {t:TA}
theorem KU{pins:List (ε×aT)}{σ:St}{H:Hp}{s:ζ}{Q:VK}{us:List δ}{vs:List V}(F:iF X.prog X.w X.K X.mg X.base CX k f fd ps sp)(hr:fD k X.A)(hb:Binds X.K fd ps ds)(hd:bc dvs ds)(hx:yk CX X E)
  (I:Inv X pins σ H s) (r:bc vs us) (h:sp (vs++dvs) H Q E):π (model X.prog X.w) X.A (call (.ref f) us) (EP X pins σ Q) X.xe s:=by
 have r2:bc (vs++dvs) (us++ds):=r.append hd;have hl:(us++ds).length=ps.length:=by rw[←r2.length];exact F.len _ _ _ _ h
 refine wpAny_call (gv (F.run X.A X.stack s H ⟨us,[]⟩ (us++ds) (vs++dvs) Q E hr I.QD (hb s us I.lh hl) r2 h) fun r s' hq=>?_);cases r with
 |error e=>exact hx pins σ H s e s' I hq
 |ok fl=>
  cases fl with
  |ret u=>exact I.after hq
  |next=>exact fq hq
  |brk=>exact fq hq
  |cont=>exact fq hq
theorem Jl(F:iF X.prog X.w X.K X.mg X.base CX k f fd ps sp)(hr:fD k X.A)(hg:Gl X x)(hm:X.mg x=some (.ref f))(hk:gx X.K (.ref f)=true)(hb:Binds X.K fd ps ds)(hd:bc dvs ds)(hx:yk CX X E)
  (ha:PA X (e::es) t) (hdb:(x==("__debug__":Δ))=false:=by decide) (he:bE (e::es) X.env=(false,eval e X.env)::bE es X.env:=by rfl) (hpl:(backTo pos (bE es X.env)).any (·.1)=false:=by rfl):
  PE X (.Call (.Name x p) (e::es) [] pos) (GF sp dvs E t):=by
 intro pins s σ H Q I h;refine kC (zh I hg hm ?_ hdb);refine PySem.W.callWith_K (h₀:=X.base) I.ok.mod.MI hk (bK (ha pos pins s σ H _ I h) fun us s1 ⟨vs,H1,I1,r,q⟩=>⟨I1.lh,?_⟩) he hpl;exact KU F hr hb hd hx I1 r q
end
structure bD(N P:List Δ)(sc:fW):Prop where
 kind:sc.kind=.function
 co:sc.isCoroutine=false
 gen:sc.isGenerator=false
 nd:N.Nodup
 pre:N.take P.length=P
 par:∀x∈P,sc.names.lookup x=some .local∨sc.names.lookup x=some .cell
 L6:∀y∈sc.names,y.2≠.free
theorem vp{kindOf:Δ->Option eI}{x:Δ}:∀{binds:List (Δ×δ)} {m:Δ->Option δ},(∀v,(x,v)∉binds)->bindL kindOf binds m x=m x
 |[],_,_=>rfl
 | (n,v)::r,m,h=>by
  unfold bindL;rw[vp fun w hw=>h w (ω _ hw)];split
  ·have:x≠n:=by rintro rfl;exact h v χ
   simp[this]
  ·rfl
theorem vt{kindOf:Δ->Option eI}{x:Δ}:∀{binds:List (Δ×δ)} {m:Δ->Option δ},(∀v,(x,v)∉binds)->bindC kindOf binds m x=m x
 |[],_,_=>rfl
 | (n,v)::r,m,h=>by
  unfold bindC;rw[vt fun w hw=>h w (ω _ hw)];split
  ·rfl
  ·have:x≠n:=by rintro rfl;exact h v χ
   simp[this]
theorem vq{kindOf:Δ->Option eI}{x:Δ}{v:δ}:∀{P:List Δ} {vs:List δ} {i:Nat} {m:Δ->Option δ},P.Nodup->P[i]?=some x->vs[i]?=some v->kindOf x=some .local ->
  bindL kindOf (P.zip vs) m x=some v
 |[],_,_,_,_,h,_,_=>by simp at h
 |_::_,[],_,_,_,_,h,_=>by simp at h
 |p::P,w::vs,0,m,nd,h1,h2,hk=>by
  simp at h1 h2;subst h1;subst h2;show bindL kindOf ((p,w)::P.zip vs) m p=_;unfold bindL;rw[vp fun v hv=>(eo.mp nd).1 (m8 hv).1,if_pos hk];simp
 |p::P,w::vs,i+1,m,nd,h1,h2,hk=>by
  show bindL kindOf ((p,w)::P.zip vs) m x=_;unfold bindL;exact vq (i:=i) (eo.mp nd).2 (by simpa using h1) (by simpa using h2) hk
theorem vw{kindOf:Δ->Option eI}{x:Δ}{v:δ}:∀{P:List Δ} {vs:List δ} {i:Nat} {m:Δ->Option δ},P.Nodup->P[i]?=some x->vs[i]?=some v->kindOf x≠some .local ->
  bindC kindOf (P.zip vs) m x=some v
 |[],_,_,_,_,h,_,_=>by simp at h
 |_::_,[],_,_,_,_,h,_=>by simp at h
 |p::P,w::vs,0,m,nd,h1,h2,hk=>by
  simp at h1 h2;subst h1;subst h2;show bindC kindOf ((p,w)::P.zip vs) m p=_;unfold bindC;rw[vt fun v hv=>(eo.mp nd).1 (m8 hv).1,if_neg hk];simp
 |p::P,w::vs,i+1,m,nd,h1,h2,hk=>by
  show bindC kindOf ((p,w)::P.zip vs) m x=_;unfold bindC;exact vw (i:=i) (eo.mp nd).2 (by simpa using h1) (by simpa using h2) hk
def start(N:List Δ)(vs:List V):St:=vs.map some++bo (N.length-vs.length) none
def qt(CX:pB)(P:af)(w:ar)(K:ι)(mg:Δ->Option δ)(base:ai)(N:List Δ)(qual:Δ)(scope:fW)(f:ε)(cd:δ)(A:bA)(outer:List gA)(s:ζ)(H:Hp)(E:XK):Cx where
 prog:=P
 w:=w
 K:=K
 mg:=mg
 base:=base
 A:=A.deeper (envOfC qual scope s.heap.objs.size f cd)
 N:=N
 s₀:=s
 H₀:=H
 env:=envOfC qual scope s.heap.objs.size f cd
 outer:=outer
 stack:=envOfC qual scope s.heap.objs.size f cd::outer
 ex:=[]
 calm:=true
 fn:=fun _=>true
 pn:=[]
 xe:=fun e s'=>π (model P w) (A.deeper (envOfC qual scope s.heap.objs.size f cd)) (leaving (envOfC qual scope s.heap.objs.size f cd) e) (fun _ s''=>CX outer H s E e s'') (fun e' s''=>CX outer H s E e' s'') s'
theorem xX{sc:fW}{n:Nat}{x:Δ}(h:sc.names.lookup x=some .cell):∃c,(cellsFrom n sc.names []).lookup x=some c:=by
 have q:=nE sc.names n [] (.inl h);exact Option.isSome_iff_exists.mp q
theorem DR{CX:pB}{P:af}{w:ar}{K:ι}{mg:Δ->Option δ}{base:ai}{N ps:List Δ}{qual:Δ}{scope:fW}{f:ε}{cd:δ}{A:bA}{outer:List gA}{s s1:ζ}{H:Hp}{E:XK}{us:List δ}{vs:List V}
  (S:bD N ps scope) (hd:A.handled=none) (e0:BW P w K mg base A outer s H) (hl:vs.length=ps.length) (r:bc vs us)
  (x:InCallC s s.heap.objs.size (bindL (envOfC qual scope s.heap.objs.size f cd).kindOf (ps.zip us) fun _=>none) (cellsFrom (s.heap.objs.size+1) scope.names []) (bindC (envOfC qual scope s.heap.objs.size f cd).kindOf (ps.zip us) fun _=>none) s1):
  Inv (qt CX P w K mg base N qual scope f cd A outer s H E) [] (start N vs) H s1:=by
 have hpl:ps.length≤N.length:=by have:=congrArg du S.pre;rw[dM] at this;lia
 obtain⟨h1,tk,rfl,hk⟩:=x.done;have noA:∀b:ε,b∉(qt CX P w K mg base N qual scope f cd A outer s H E).ex:=fun b z=>absurd (show b∈([]:List ε) from z) (by simp);refine⟨⟨e0.mod,S.kind,rfl,rfl,Θ _,fun y z c h1 h2=>?_,fun y hy=>?_,fun y c _ h=>?_,fun _=>hd,bA.frames_deeper e0.frames,.inr ⟨rfl,rfl⟩,fun b z=>absurd z (noA b),e0.bs,e0.t6,fun b _ _=>noA b,fun b z=>absurd z (noA b),e0.kN,e0.xK⟩,
  rfl,e0.bare,Un.kept hk,⟨_,x.toInCall.ns,fun i y v h1 h2 h3=>?_⟩,fun y c h=>⟨_,x.cell y c h⟩,e0.bV.fresh (Θ _),fun y c h=>?_,fun p hp=>absurd (show p∈([]:List (ε×aT)) from hp) (by simp),e0.bV.kept hk,?_⟩
 ·exact name_of_addr x.apart (eG h1) (eG h2)
 ·have hy:scope.names.lookup y=some .cell∨scope.names.lookup y=some .free:=hy;rcases hy with hy|hy
  ·exact xX hy
  ·exact absurd rfl (S.L6 _ (eG hy))
 ·exact mB (x.above y c (eG h))
 ·have hi:i<vs.length:=by
   unfold start at h2;by_cases hi:i<vs.length
   ·exact hi
   ·rw[dH (by simpa using hi)] at h2;rw[mR] at h2;split at h2<;>cases h2
  have ha:vs[i]?=some v:=by
   unfold start at h2;rw[dU (by simpa using hi),ag] at h2;cases e:vs[i]? with
   |none=>rw[e] at h2;cases h2
   |some a=>rw[e] at h2;cases h2;rfl
  obtain⟨u,hu,rv⟩:=r.get ha;have hp:ps[i]?=some y:=by
   rw[←S.pre,mI (by lia)];exact h1
  have ndP:ps.Nodup:=by rw[←S.pre];exact S.nd.sublist (ls _ _)
  refine⟨u,rv,?_⟩;rcases S.par y (aY hp) with k|k
  ·exact .inl ⟨k,vq ndP hp hu k⟩
  ·obtain⟨c,e⟩:=xX (n:=s.heap.objs.size+1) k;refine .inr ⟨.inl k,c,e,?_⟩;have q:=x.cell y c e;rw[vw ndP hp hu (by show scope.names.lookup y≠_;rw[k];decide)] at q;exact q
 ·exact e0.bV.fresh (mB (x.above y c (eG h)))
 ·unfold start;show _=N.length;rw[av,μ,jo];lia
theorem O9{CX:pB}{P:af}{w:ar}{K:ι}{mg:Δ->Option δ}{base:ai}{k:Nat}{f:ε}{name qual:Δ}{params:Arguments}{body:List aX}{scope:fW}{dV kV doc pm cdv ct oc:δ}{an od:Option ε}
  {osl:Array (Option δ)} {N ps:List Δ} {sp:Sp} (lk:K.lookup f=some ⟨oc,od,.func (gy name qual params body scope dV kV doc pm an cdv ct),osl⟩) (ql:ka K cdv qual=true) (S:bD N ps scope)
  (len:∀vs H Q E,sp vs H Q E->vs.length=ps.length)
  (oU:∀(A:bA) (outer:List gA) (s:ζ) (H:Hp) (vs:List V) (Q:VK) (E:XK),fD k (A.deeper (envOfC qual scope s.heap.objs.size f cdv))->sp vs H Q E ->
   ∃t,ll (qt CX P w K mg base N qual scope f cdv A outer s H E) body t/\t { nx:=fun _ H'=>Q .aq H',rt:=Q } (start N vs) H):
  iF P w K mg base CX (k+1) f (gy name qual params body scope dV kV doc pm an cdv ct) ps sp:=by
 refine⟨len,fun A outer s H args us vs Q E hr e0 hb r rN=>?_⟩;have hl:=len _ _ _ _ rN;have KX:K.In s.heap:=e0.mod.MI.keeps fun b o e=>(e0.bs b o e).1;have lim:s.heap.NoLimit:=e0.mod.nolimit.keeps fun b o e=>(e0.bs b o e).1;have hkind:∀y∈ps.zip us,scope.names.lookup y.1=some .local∨(scope.names.lookup y.1=some .cell/\((cellsFrom (s.heap.objs.size+1) scope.names []).lookup y.1).isSome=true):=fun⟨n,v⟩ hy=>by
  rcases S.par n (m8 hy).1 with q|q
  ·exact .inl q
  ·exact .inr ⟨q,nE _ _ _ (.inl q)⟩
 refine codeAny_call_function hr.depth (KX _ _ lk) rfl S.co S.gen rfl (PySem.W.codeRec_of KX ql) (hb _ _ _ _ ?_);refine wpAny_newFunctionEnv_cells S.kind hkind fun env he s1 x=>?_;subst he;refine⟨lim.keeps x.toInCall.keep,codeAny_func ?_⟩;obtain⟨t,ht,hq⟩:=oU A outer s H vs Q E (hr.deeper _) rN;have I:Inv (qt CX P w K mg base N qual scope f cdv A outer s H E) [] (start N vs) H s1:=DR S hr.hd e0 hl r x;refine ei (ht [] s1 (start N vs) H _ I hq) (fun fl s' hs=>?_) fun e s' hs=>hs;have fin:∀{σ':St} {H':Hp} {v:V} {u:δ},Inv (qt CX P w K mg base N qual scope f cdv A outer s H E) [] σ' H' s'->RelV v u->Q v H'->CE outer P w H s Q u s':=
  fun {σ' H' v u} J rv q=>⟨v,H',J.os,J.bare,J.base,J.bV,rv,q⟩
 cases fl with
 |ret u=>
  obtain⟨v,σ',H',J,rv,q⟩:=hs;exact fin J rv q
 |next=>
  obtain⟨σ',H',J,q⟩:=hs;exact fin (v:=V.aq) (u:=cM) J rfl q
 |brk=>
  obtain⟨_,_,_,q⟩:=hs;exact fq q
 |cont=>
  obtain⟨_,_,_,q⟩:=hs;exact fq q
end L2
namespace L2
open PySem PySem.Spec PyProof.Rows
section
variable {X:Cx} {x:Δ} {p pos:aL} {e:ρ} {es:List ρ} {t:TA} {id T:String} {r:List V->Hp->VK->Prop}
def GG(r:List V->Hp->VK->Prop)(t:TA):TE:=fun σ H Q=>t σ H fun vs H1=>r vs H1 Q
theorem fb(hc:fM X (.builtin id) r)(hg:Gl X x)(hm:X.mg x=none)(hv:fF x=some (.builtin id))(ha:PA X (e::es) t)(hn:x≠"__name__":=by decide)(hdb:(x==("__debug__":Δ))=false:=by decide)
  (he:bE (e::es) X.env=(false,eval e X.env)::bE es X.env:=by rfl) (hpl:(backTo pos (bE es X.env)).any (·.1)=false:=by rfl):PE X (.Call (.Name x p) (e::es) [] pos) (GG r t):=by
 intro pins s σ H Q I h;refine kC (kz I hg hm hv ?_ hn hdb);exact PyProof.Rows.callWith_builtin1 (bK (ha pos pins s σ H _ I h) fun us s1 ⟨vs,H1,I1,r1,q1⟩=>hc pins s1 σ H1 vs us Q I1 r1 q1) he hpl
theorem mX(hc:fM X (.type T) r)(hg:Gl X x)(hm:X.mg x=none)(hv:fF x=some (.type T))(ha:PA X (e::es) t)(hn:x≠"__name__":=by decide)(hdb:(x==("__debug__":Δ))=false:=by decide)
  (he:bE (e::es) X.env=(false,eval e X.env)::bE es X.env:=by rfl) (hpl:(backTo pos (bE es X.env)).any (·.1)=false:=by rfl):PE X (.Call (.Name x p) (e::es) [] pos) (GG r t):=by
 intro pins s σ H Q I h;refine kC (kz I hg hm hv ?_ hn hdb);exact cK (bK (ha pos pins s σ H _ I h) fun us s1 ⟨vs,H1,I1,r1,q1⟩=>hc pins s1 σ H1 vs us Q I1 r1 q1) he hpl
end
end L2
namespace HT
open PySem PyProof.Rows
def lexLt:List Int->List Int->Bool
 |[],[]=>false
 |[],_::_=>true
 |_::_,[]=>false
 |x::xs,y::ys=>if x=y then lexLt xs ys else decide (x<y)
theorem AI(x y:Int)(xs ys:List Int):lexLt (x::xs) (y::ys)=if x=y then lexLt xs ys else decide (x<y):=rfl
theorem vI:lexLt [] []=false:=rfl
theorem uH(y:Int)(ys:List Int):lexLt [] (y::ys)=true:=rfl
theorem uI(x:Int)(xs:List Int):lexLt (x::xs) []=false:=rfl
theorem FL(A:bA)(s:ζ)(a:Int)(t:Tok)(c:Int)(u:Tok):∃e,SeqAt.EqAt A s (.int a t) (.int c u) e/\(e=true↔a=c):=
 ⟨(a==c),SeqAt.EqAt.int_int a t c u,by simp⟩
theorem EW(A:bA)(s:ζ)(a:Int)(t:Tok)(c:Int)(u:Tok)(prog:af)(w:ar)(E:δ->ζ->Prop)(Q:δ->ζ->Prop)(h:Q (.bool (decide (a<c))) s):
  π (model prog w) A (iQ .Lt (.int a t) (.int c u)) Q E s:=
 (PyProof.Rows.lt_int h:π (model prog w) A (compareOp .Lt (.int a t) (.int c u)) Q E s)
section
open PySem.SeqAt
open PySem.AutoSeq1 (wpAny_loadPart')
open PySem.MeetsSeq PySem.MeetsSeq2 PySem.MeetsSeq3
theorem vF(l b:ε)(items items2:Array δ)(n n2:Nat)(dd dd2:Option ε)(sl sl2:Array (Option δ))(ns ms:List Int)(hi:dF items.toList ns)(hj:dF items2.toList ms):
  Meets (eJ.«tuple.__lt__» ⟨[.ref l,.ref b],[]⟩)
   (fun _ R s=>s.heap.get? l=some { cls:=.type "tuple",dict:=dd,data:=.seq items n,slots:=sl }/\s.heap.get? b=some { cls:=.type "tuple",dict:=dd2,data:=.seq items2 n2,slots:=sl2 } ∧
    R (.ok (.ret (.bool (lexLt ns ms)))) s):=
 .of_wp fun prog w A R s h=>by
  obtain⟨hp,g,d,tk,os⟩:=s;obtain⟨hl,hb,h⟩:=h;have f2:=mL;have z1:items.size=ns.length:=by rw[←hi.length];simp
  have z2:items2.size=ms.length:=by rw[←hj.length];simp
  wp_walk using wpAny_loadPart' hl,wpAny_loadPart' hb,bN _ (fun rest b s'=>b.1=none/\s'=⟨hp,g,d,tk,os⟩/\∃(vs ws:List δ) (ns' ms':List Int),rest=vs.zip ws ∧
   dF vs ns'/\dF ws ms'/\ns'.length+items2.size=ms'.length+items.size/\R (.ok (.ret (.bool (lexLt ns' ms')))) ⟨hp,g,d,tk,os⟩) _
  case turn=>
   rintro⟨y,x⟩ rest b s' ⟨hb',rfl,vs,ws,ns',ms',hz,hvi,hwi,hlen,hR⟩;cases hvi with
   |nil=>rw[List.zip_nil_left] at hz;cases hz
   |cons a t hvi'=>
    cases hwi with
    |nil=>rw[qF] at hz;cases hz
    |cons c u hwi'=>
     rw[dQ] at hz;injection hz with hyx hrest;injection hyx with hy hx;subst hy hx;rw[AI] at hR;simp only[au] at hlen;obtain⟨e,he,hiff⟩:=FL A.in1 ⟨hp,g,d,tk,os⟩ a t c u;refine γ (he prog w _ _ ?_);cases e with
     |true=>
      rw[if_pos (hiff.mp rfl)] at hR;wp_walk;exact⟨rfl,rfl,_,_,_,_,hrest,hvi',hwi',by lia,hR⟩
     |false=>
      rw[if_neg (fun q=>absurd (hiff.mpr q) Ω)] at hR;have hri:=EW A.in1 ⟨hp,g,d,tk,os⟩ a t c u prog w;wp_walk using hri;exact⟨_,rfl,by simpa using hR⟩
  case fin=>
   rintro⟨b1,b2⟩ s' ⟨hb',rfl,vs,ws,ns',ms',hz,hvi,hwi,hlen,hR⟩;simp only at hb';subst hb';have hv:lexLt ns' ms'=decide (items.size<items2.size):=by
    cases hvi with
    |nil=>
     cases hwi with
     |nil=>
      simp only[eY] at hlen;rw[vI];exact (decide_eq_false (by lia)).symm
     |cons c u hw=>
      simp only[eY,au] at hlen;rw[uH];exact (decide_eq_true (by lia)).symm
    |cons a t hv=>
     cases hwi with
     |nil=>
      simp only[eY,au] at hlen;rw[uI];exact (decide_eq_false (by lia)).symm
     |cons c u hw=>
      rw[dQ] at hz;cases hz
   rw[hv] at hR;wp_walk;exact⟨_,rfl,by simpa [jt] using hR⟩
  case h=>
   exact⟨rfl,rfl,items.toList,items2.toList,ns,ms,rfl,hi,hj,by lia,h⟩
end
section
variable {prog:af} {w:ar} {A:bA} {E:δ->ζ->Prop} {s:ζ}
theorem oM{l b:ε}{items items2:Array δ}{ns ms:List Int}{Q:δ->ζ->Prop}(hl:gJ s.heap l items)(hb:gJ s.heap b items2)(hi:dF items.toList ns)(hj:dF items2.toList ms)
  (hu:A.units<cLine) (h:Q (.bool (lexLt ns ms)) s):π (model prog w) A (compareOp .Lt (.ref l) (.ref b)) Q E s:=by
 obtain⟨⟨cls,dd,data,sl⟩,ho,hc,n,hd⟩:=id hl;obtain⟨⟨cls2,dd2,data2,sl2⟩,ho2,hc2,n2,hd2⟩:=id hb;simp only at hc hd hc2 hd2;subst hc hd hc2 hd2;exact richCompare_meets_room (op:=.Lt) ⟨_,ho,rfl⟩ ⟨_,ho2,rfl⟩ oq nF (mN _ _) (vF l b items items2 n n2 dd dd2 sl sl2 ns ms hi hj)
  ⟨ho,ho2,show fk (lexLt ns ms)≠pb/\Q (.bool (lexLt ns ms)) s from⟨(fun x=>nomatch x),h⟩⟩ hu
theorem Ke{t b:ε}{vs ws:List δ}{Q:δ->ζ->Prop}(ht:gJ s.heap t vs.toArray)(hb:gJ s.heap b ws.toArray)(hv:vs≠[])
  (h1:ws=[]->Q (.ref t) s) (h2:ws≠[]->Q (.ref s.heap.objs.size) { s with heap:=s.heap.push { cls:=.type "tuple",data:=.seq (vs++ws).toArray }})
  (fv:vs.length+ws.length≤aj):π (model prog w) A (binaryOp .Add (.ref t) (.ref b)) Q E s:=by
 obtain⟨⟨cls,dd,data,sl⟩,ho,hc,n,hd⟩:=id ht;obtain⟨⟨cls2,dd2,data2,sl2⟩,ho2,hc2,n2,hd2⟩:=id hb;simp only at hc hd hc2 hd2;subst hc hd hc2 hd2;have e:vs.toArray++ws.toArray=(vs++ws).toArray:=by simp
 by_cases hw:ws=[]
 ·exact concat_meets ⟨_,ho,rfl⟩ ⟨_,ho2,rfl⟩ mw pC iR iD (iq _ _)
   (tuple_addW1 t b vs.toArray ws.toArray n n2 dd dd2 sl sl2 (by simpa using hv) (by simp[hw])) ⟨ho,ho2,h1 hw⟩
 ·refine concat_meets ⟨_,ho,rfl⟩ ⟨_,ho2,rfl⟩ mw pC iR iD (iq _ _)
   (tuple_addW2 t b vs.toArray ws.toArray n n2 dd dd2 sl sl2 (by simpa using hv) (by simpa using hw) (by rw[ψ,ψ];exact fv)) ⟨ho,ho2,?_⟩
  rw[e];exact h2 hw
def bQ(n d:Nat):Option Int->Nat
 |none=>d
 |some v=>if v<0 then (v+(n:Int)).toNat else min v.toNat n
theorem ES(n d:Nat):bQ n d none=d:=rfl
theorem uw(n d k:Nat):bQ n d (some (k:Int))=min k n:=by
 show (if (k:Int)<0 then ((k:Int)+(n:Int)).toNat else min (k:Int).toNat n)=min k n;rw[if_neg (by lia),dD]
theorem KS(n d:Nat)(hd:d≤n)(o:Option Int):bQ n d o≤n:=by
 cases o with
 |none=>exact hd
 |some v=>
  show (if v<0 then (v+(n:Int)).toNat else min v.toNat n)≤n;by_cases hv:v<0
  ·rw[if_pos hv];lia
  ·rw[if_neg hv];exact Nat.min_le_right _ _
theorem zu(v:Int)(n d:Nat):(if v<0 then max (v+(n:Int)) 0 else min v (n:Int))=((bQ n d (some v):Nat):Int):=by
 show (if v<0 then max (v+(n:Int)) 0 else min v (n:Int))=(((if v<0 then (v+(n:Int)).toNat else min v.toNat n):Nat):Int);by_cases hv:v<0
 ·simp only[if_pos hv];lia
 ·simp only[if_neg hv];lia
theorem BE(lo hi:Option Int)(n:Nat):hE lo hi 1 (n:Int)=(((bQ n 0 lo:Nat):Int),((bQ n n hi:Nat):Int)):=by
 have h1:¬((1:Int)<0):=by lia
 unfold hE;simp only[h1,if_false];refine Prod.ext ?_ ?_
 ·cases lo with
  |none=>rfl
  |some v=>exact zu v n 0
 ·cases hi with
  |none=>rfl
  |some v=>exact zu v n n
theorem An(i j:Nat):ft (i:Int) (j:Int) 1=j-i:=by
 unfold ft;have h1:(1:Int) > 0:=by lia
 simp only[h1,if_true,Int.ediv_one];split<;>lia
theorem tv{v:δ}{o:Option Int}{Q:Option Int->ζ->Prop}(p:jP v o)(h:Q o s):π (model prog w) A (eJ.Slice.slicePartIndex v) Q E s:=by
 cases p with
 |none=>exact slicePart_none h
 |int i t=>exact slicePart_int h
theorem lX{sl:ε}{vl vu:δ}{lo hi:Option Int}{n:Nat}{Q:Int×Int×Nat->ζ->Prop}(hs:s.heap.IsSliceOf sl vl vu .none)(pl:jP vl lo)(pu:jP vu hi)
  (h:Q (((bQ n 0 lo:Nat):Int),1,bQ n n hi-bQ n 0 lo) s):π (model prog w) A (lb (.ref sl) (pure (n:Int))) Q E s:=by
 obtain⟨os,hos,hcs,hds⟩:=id hs;unfold lb eJ.Slice.sliceFields;refine γ (γ (iP hos hds (x:=vl) rfl (γ (iP hos hds (x:=vu) rfl (γ (iP hos hds (x:=.none) rfl (η ?_)))))));refine γ (slicePart_none ?_);show π _ _ (if ((1:Int)==0)=true then _ else _) _ _ s;rw[if_neg (by decide)];refine γ (tv pl (γ (tv pu (γ (η ?_)))));show π _ _ (match hE lo hi 1 (n:Int) with|(lo,hi)=>pure (lo,(1:Int),ft lo hi 1)) _ _ s
 rw[BE lo hi n];show π _ _ (pure (((bQ n 0 lo:Nat):Int),(1:Int),ft ((bQ n 0 lo:Nat):Int) ((bQ n n hi:Nat):Int) 1)) _ _ s;rw[An];exact η h
theorem Fd(xs:Array δ)(i k:Nat):((aB k).filterMap fun (m:Nat)=>xs[((i:Int)+(m:Int)*1).toNat]?).toArray=((xs.toList.drop i).take k).toArray:=by
 have e:(fun (m:Nat)=>xs[((i:Int)+(m:Int)*1).toNat]?)=fun m=>xs[i+m]?:=by
  funext m;have:((i:Int)+(m:Int)*1).toNat=i+m:=by lia
  rw[this]
 rw[e];have:=pick_run xs i k;rw[qJ] at this;have e2:((fun x=>xs[x]?) ∘ fun x=>i+x)=fun m=>xs[i+m]?:=rfl;rw[e2] at this;rw[this]
theorem rD{t sl:ε}{items:Array δ}{vl vu:δ}{lo hi:Option Int}{Q:δ->ζ->Prop}(ht:gJ s.heap t items)(hs:s.heap.IsSliceOf sl vl vu .none)(pl:jP vl lo)(pu:jP vu hi)
  (hw:¬(bQ items.size 0 lo=0/\bQ items.size items.size hi=items.size))
  (h:Q (.ref s.heap.objs.size) { s with heap:=s.heap.push { cls:=.type "tuple",data:=.seq ((items.toList.drop (bQ items.size 0 lo)).take (bQ items.size items.size hi-bQ items.size 0 lo)).toArray }})
  (fv:items.size≤aj):π (model prog w) A (getItem (.ref t) (.ref sl)) Q E s:=by
 have htake:sizeOk (.seq ((items.toList.drop (bQ items.size 0 lo)).take (bQ items.size items.size hi-bQ items.size 0 lo)).toArray):=by
  show ((items.toList.drop (bQ items.size 0 lo)).take (bQ items.size items.size hi-bQ items.size 0 lo)).toArray.size≤aj;rw[ψ,dM,List.length_drop,cC];lia
 have hj:bQ items.size items.size hi≤items.size:=KS _ _ (Θ _) hi;obtain⟨os,hos,hcs,hds⟩:=id hs;have hTs:s.TypeIs (.ref sl) "slice":=⟨os,hos,hcs⟩;unfold getItem
 try with_reducible refine br ?_
 first|refine γ (η ?_)|skip
 refine γ (wpAny_sequenceKey ht.typeIs (by decide) ?_);refine γ (eE (name:=ip "__getitem__") ht.typeIs cg
  (cz cg ht.typeIs entry_tuple_getitem ?_ (args_tuple_getitem _ _)))
 show π _ _ (gR (.ref t) >>= _) _ _ s;refine γ (tupleItemsOf_ ht ?_);refine γ (eR hTs ?_);rw[if_pos (by decide)];refine γ (lX hs pl pu ?_);have hno:¬((((bQ items.size 0 lo:Nat):Int)==0&&(1:Int)==1&&(bQ items.size items.size hi-bQ items.size 0 lo)==items.size)=true):=by
  intro q;rw[cN,cN] at q;have q1:((bQ items.size 0 lo:Nat):Int)=0:=eq_of_beq q.1.1;have q2:bQ items.size items.size hi-bQ items.size 0 lo=items.size:=eq_of_beq q.2;exact hw ⟨by lia,by lia⟩
 show π _ _ (if (((bQ items.size 0 lo:Nat):Int)==0&&(1:Int)==1&&(bQ items.size items.size hi-bQ items.size 0 lo)==items.size)=true then _ else _) _ _ s;rw[if_neg hno,Fd]
 first
  |exact γ (m:=fJ _) (b9 (η ⟨_,rfl,η h⟩) htake)
  |exact γ (m:=fJ _) (b9 (γ (η (η ⟨_,rfl,η h⟩))) htake)
  |exact γ (γ (m:=fJ _) (b9 (η (η ⟨_,rfl,η h⟩)) htake))
  |exact γ (γ (m:=fJ _) (b9 (η ⟨_,rfl,η h⟩) htake))
end
end HT
namespace L2
open PySem PySem.Spec PyProof.Rows
abbrev TO:=St->Hp->(Option Int->Hp->Prop)->Prop
def PO(X:Cx)(e:Option ρ)(t:TO):Prop:=
 ∀(pins:List (ε×aT)) (s:ζ) (σ:St) (H:Hp) (Q:Option Int->Hp->Prop),Inv X pins σ H s->t σ H Q ->
  π (model X.prog X.w) X.A (evalPart e X.env) (fun u s'=>∃o H',Inv X pins σ H' s'/\jP u o/\Q o H') X.xe s
def IE:TO:=fun _ H Q=>Q none H
def NP(t:TE):TO:=fun σ H Q=>t σ H fun x H1=>∃i,x=.int i/\Q (some i) H1
theorem intsAre_of{ns:List Int}:∀{us:List δ},bc (ns.map V.int) us->dF us ns:=by
 induction ns with
 |nil=>intro us r;rw[qG] at r;cases r;exact .nil
 |cons n ns ih=>
  intro us r;rw[bH] at r;cases r with
  |cons r1 r2=>
   obtain⟨t,e⟩:=r1;subst e;exact .cons n t (ih r2)
section
variable {X:Cx} {e:ρ} {te:TE} {lo hi:Option ρ} {tl th:TO} {pos p2:aL}
theorem Jd:PO X none IE:=by
 intro pins s σ H Q I h;rw[evalPart_none];exact η ⟨none,H,I,.none,h⟩
theorem Jc(h:PE X e te):PO X (some e) (NP te):=by
 intro pins s σ H Q I hw;rw[evalPart_some];refine bK (h pins s σ H _ I hw) fun u s1 ⟨x,H1,I1,r1,q1⟩=>?_;obtain⟨i,rfl,q⟩:=q1;obtain⟨t,rfl⟩:=r1;exact⟨some i,H1,I1,.int i t,q⟩
def vA(X:Cx)(r:V->Option Int->Option Int->Hp->VK->Prop):Prop:=
 ∀(pins:List (ε×aT)) (s:ζ) (σ:St) (H:Hp) (x:V) (v vl vu:δ) (lo hi:Option Int) (sl:ε) (Q:VK),Inv X pins σ H s->RelV x v->s.heap.IsSliceOf sl vl vu .none->jP vl lo->jP vu hi->r x lo hi H Q ->
  ∃T id,typeLookup (.type T) "__getitem__" = pure (some (.builtin id))/\s.TypeIs v T/\π (model X.prog X.w) X.A (getItem v (.ref sl)) (EP X pins σ Q) X.xe s
theorem vA.or{r r':V->Option Int->Option Int->Hp->VK->Prop}(h:vA X r)(h':vA X r'):vA X (fun x lo hi H Q=>r x lo hi H Q∨r' x lo hi H Q):=by
 intro pins s σ H x v vl vu lo hi sl Q I rx hs pl pu q;rcases q with q|q
 ·exact h pins s σ H x v vl vu lo hi sl Q I rx hs pl pu q
 ·exact h' pins s σ H x v vl vu lo hi sl Q I rx hs pl pu q
def Q4(r:V->Option Int->Option Int->Hp->VK->Prop)(te:TE)(tl th:TO):TE:=fun σ H Q=>te σ H fun x H1=>tl σ H1 fun l H2=>th σ H2 fun u H3=>r x l u H3 Q
theorem Ff{r:V->Option Int->Option Int->Hp->VK->Prop}(hr:vA X r)(he:PE X e te)(hl:PO X lo tl)(hu:PO X hi th):PE X (.Subscript e (.Slice lo hi none p2) pos) (Q4 r te tl th):=by
 intro pins s σ H Q I h;refine Subscript_ (bK (he pins s σ H _ I h) fun v s1 ⟨x,H1,I1,r1,q1⟩=>?_);refine wpAny_Slice (bK (hl pins s1 σ H1 _ I1 q1) fun vl s2 ⟨l,H2,I2,pl,q2⟩=>bK (hu pins s2 σ H2 _ I2 q2) fun vu s3 ⟨u,H3,I3,pu,q3⟩=>?_);rw[evalPart_none];refine η ?_;have I4:Inv X pins σ H3 { s3 with heap:=s3.heap.push { cls:=.type "slice",data:=.fields #[vl,vu,.none]}}:=I3.kept (t':=s3.toks) fun b ob q=>ξ _ q;obtain⟨T,id,hT,ht,hg⟩:=hr pins { s3 with heap:=s3.heap.push { cls:=.type "slice",data:=.fields #[vl,vu,.none]}} σ H3 x v vl vu l u s3.heap.objs.size Q I4 r1 (ai.IsSliceOf.new ..) pl pu q3;show π (model X.prog X.w) X.A (subscriptTail e (.Slice lo hi none p2) v (.ref s3.heap.objs.size)) (EP X pins σ Q) X.xe { s3 with heap:=s3.heap.push { cls:=.type "slice",data:=.fields #[vl,vu,.none]}};exact tail_any (ops:=[.ref s3.heap.objs.size,v]) ht hT hg (by with_unfolding_all rfl)
def qu(xs:List V)(lo hi:Option Int):List V:=(xs.drop (HT.bQ xs.length 0 lo)).take (HT.bQ xs.length xs.length hi-HT.bQ xs.length 0 lo)
theorem rQ(xs:List V)(lo hi:Option Int):(qu xs lo hi).length≤xs.length:=by
 unfold qu;rw[dM,List.length_drop];lia
def Qa(K:ι):V->Option Int->Option Int->Hp->VK->Prop:=fun x lo hi H Q=>∃a xs,x=.ref a/\dJ K H a xs ∧
 ¬(HT.bQ xs.length 0 lo=0/\HT.bQ xs.length xs.length hi=xs.length)/\∀p,H p=none->Q (.ref p) (upd H p (.tup (qu xs lo hi)))
theorem KD:vA X (Qa X.K):=by
 intro pins s σ H x v vl vu lo hi sl Q I rx hs pl pu h;obtain⟨a,xs,rfl,hx,hw,q⟩:=h;cases rx;obtain⟨its,r,ht,hz⟩:=I.tuple hx;have hlen:its.toArray.size=xs.length:=by rw[ψ];exact r.length.symm
 refine⟨"tuple",_,cg.lookup,ht.typeIs,?_⟩;refine HT.rD ht hs pl pu (by rw[hlen];exact hw) ?_ (by rw[hlen];exact hz);rw[hlen];refine⟨.ref s.heap.objs.size,_,I.laid (t':=s.toks) (o:=.tup (qu xs lo hi)) (fun b ob q=>ξ _ q) (Θ _) ?_,rfl,q _ (I.bV.fresh (Θ _))⟩;exact⟨az (rQ xs lo hi) hz,_,(r.drop (HT.bQ xs.length 0 lo)).take (HT.bQ xs.length xs.length hi-HT.bQ xs.length 0 lo),iO.new _ _⟩
def Li(K:ι):R2:=fun x y H Q=>∃a b ns ms,x=.ref a/\y=.ref b/\dJ K H a (ns.map V.int)/\dJ K H b (ms.map V.int)/\Q (.bl (HT.lexLt ns ms)) H
theorem LN(hu:X.A.units<cLine):ey X (compareOp .Lt) (Li X.K):=by
 intro pins s σ H x y v u Q I rx ry h;obtain⟨a,b,ns,ms,rfl,rfl,ha,hb,q⟩:=h;cases rx;cases ry;obtain⟨its,r1,p1,_⟩:=I.tuple ha;obtain⟨its2,r2,p2,_⟩:=I.tuple hb;have i1:dF its.toArray.toList ns:=intsAre_of r1;have i2:dF its2.toArray.toList ms:=intsAre_of r2;exact HT.oM p1 p2 i1 i2 hu ⟨.bl (HT.lexLt ns ms),H,I,rfl,q⟩
def GP(K:ι):R2:=fun x y H Q=>∃a b xs ys,x=.ref a/\y=.ref b/\dJ K H a xs/\dJ K H b ys/\xs≠[]/\xs.length+ys.length≤aj ∧
 (ys=[]->Q (.ref a) H)/\(ys≠[]->∀p,H p=none->Q (.ref p) (upd H p (.tup (xs++ys))))
theorem bc.uD{xs:List V}{us:List δ}(r:bc xs us):us=[]↔xs=[]:=by
 cases r with
 |nil=>simp
 |cons _ _=>simp
theorem Jq:ey X (binaryOp .Add) (GP X.K):=by
 intro pins s σ H x y v u Q I rx ry h;obtain⟨a,b,xs,ys,rfl,rfl,ha,hb,hx,hz,q1,q2⟩:=h;cases rx;cases ry;obtain⟨its,r1,p1,_⟩:=I.tuple ha;obtain⟨its2,r2,p2,_⟩:=I.tuple hb;refine HT.Ke p1 p2 (fun z=>hx (r1.uD.mp z)) (fun z=>⟨.ref a,H,I,rfl,q1 (r2.uD.mp z)⟩) (fun z=>?_) (by rw[←r1.length,←r2.length];exact hz);refine⟨.ref s.heap.objs.size,_,I.laid (t':=s.toks) (o:=.tup (xs++ys)) (fun b ob q=>ξ _ q) (Θ _) ?_,rfl,q2 (fun w=>z (r2.uD.mpr w)) _ (I.bV.fresh (Θ _))⟩;exact⟨by rw[av];exact hz,_,r1.append r2,iO.new _ _⟩
end
end L2
namespace L2
open PySem PySem.Spec PyProof.Rows
def qi(n:Nat)(i:Int):Option Nat:=if 0≤i then (if i<n then some i.toNat else none) else if -(n:Int)≤i then some (i+n).toNat else none
def iM{α:Type}(xs:List α)(i:Int):Option α:=(qi xs.length i).bind fun j=>xs[j]?
theorem zj{n:Nat}{i:Int}{j:Nat}(h:qi n i=some j):seqIndex? i n=some j/\j<n/\-(n:Int)≤i/\i<n:=by
 unfold qi at h;by_cases h0:0≤i
 ·rw[if_pos h0] at h;by_cases h1:i<n
  ·rw[if_pos h1] at h;have e:i.toNat=j:=ay h;exact⟨by rw[nA h0 h1,e],by lia,by lia,h1⟩
  ·rw[if_neg h1] at h;cases h
 ·rw[if_neg h0] at h;by_cases h1:-(n:Int)≤i
  ·rw[if_pos h1] at h;have e:(i+n).toNat=j:=ay h;exact⟨by rw[seqIndex_neg (by lia) h1,e],by lia,h1,by lia⟩
  ·rw[if_neg h1] at h;cases h
theorem rA{α:Type}{xs:List α}{i:Int}{v:α}(h:iM xs i=some v):∃j,seqIndex? i xs.length=some j/\xs[j]?=some v/\j<xs.length/\-(xs.length:Int)≤i/\i<xs.length:=by
 unfold iM at h;cases e:qi xs.length i with
 |none=>rw[e] at h;cases h
 |some j=>
  rw[e] at h;obtain⟨h1,h2,h3,h4⟩:=zj e;exact⟨j,h1,h,h2,h3,h4⟩
theorem rz{α:Type}{xs:List α}{j:Nat}{v:α}(h:xs[j]?=some v):iM xs (j:Int)=some v:=by
 have hj:j<xs.length:=(aP.mp h).1;have e:qi xs.length (j:Int)=some j:=by
  unfold qi;rw[if_pos (by lia),if_pos (by lia)];simp
 unfold iM;rw[e];exact h
def og(b:ρ):Prop:=∀o i,subscripted b false o i=operate [o,i] (getItem o i)
def ud(X:Cx)(r:R2):Prop:=
 ∀(value slice:ρ) (pins:List (ε×aT)) (s:ζ) (σ:St) (H:Hp) (x y:V) (v u:δ) (Q:VK),Inv X pins σ H s->RelV x v->RelV y u->r x y H Q ->
  subscripted slice false v u=operate [v,u] (getItem v u)->π (model X.prog X.w) X.A (subscriptTail value slice v u) (EP X pins σ Q) X.xe s
def NB(X:Cx)(id:String)(r:V->List V->Hp->VK->Prop):Prop:=
 ∀(pins:List (ε×aT)) (s:ζ) (σ:St) (H:Hp) (x:V) (xs:List V) (v:δ) (us:List δ) (Q:VK),Inv X pins σ H s->RelV x v->bc xs us->r x xs H Q ->
  π (model X.prog X.w) X.A (call (.builtin id) (v::us)) (EP X pins σ Q) X.xe s
section
variable {X:Cx} {a b:ρ} {ta tb:TE} {pos:aL}
theorem ud.or{r r':R2}(h:ud X r)(h':ud X r'):ud X (fun x y H Q=>r x y H Q∨r' x y H Q):=by
 intro value slice pins s σ H x y v u Q I rx ry q hs;rcases q with q|q
 ·exact h value slice pins s σ H x y v u Q I rx ry q hs
 ·exact h' value slice pins s σ H x y v u Q I rx ry q hs
theorem GU{r:R2}(hr:ud X r)(ha:PE X a ta)(hb:PE X b tb)(hs:og b):PE X (.Subscript a b pos) (Cy r ta tb):=by
 intro pins s σ H Q I h;exact Subscript_ (Gi ha hb I h fun v u s2 x y H2 I2 rx ry q=>hr a b pins s2 σ H2 x y v u Q I2 rx ry q (hs _ _))
def EX(K:ι):R2:=fun x y H Q=>∃p xs i v,x=.ref p/\y=.int i/\eQ K H p xs/\iM xs i=some v/\Q v H
def Lk(K:ι):R2:=fun x y H Q=>∃p xs i v,x=.ref p/\y=.int i/\dJ K H p xs/\iM xs i=some v/\Q v H
def Ll:R2:=fun x y H Q=>∃z i c,x=.str z/\y=.int i/\z.length≤aj/\iM z.cps.toList i=some c/\Q (.str ⟨#[c]⟩) H
theorem J3:ud X (EX X.K):=by
 intro value slice pins s σ H x y v u Q I rx ry h hs;obtain⟨p,xs,i,z,rfl,rfl,hq,he,q⟩:=h;cases rx;obtain⟨t,rfl⟩:=ry;obtain⟨its,r,pl,hz⟩:=I.list hq;obtain⟨j,h1,h2,h3,h4,h5⟩:=rA he;obtain⟨w,ew,rw'⟩:=r.get h2;have hl:=r.length;have hn:=mi;have fin:EP X pins σ Q w s:=⟨z,H,I,rw',q⟩;by_cases h0:0≤i
 ·have hj:i.toNat=j:=by
   rw[nA h0 h5] at h1;exact ay h1
  exact item_listR pl.isList h0 (by lia) (by rw[hj];simpa using ew) fin hs
 ·have hj:(i+(its.toArray.size:Int)).toNat=j:=by
   rw[seqIndex_neg (by lia) h4] at h1;rw[ψ,←hl];exact ay h1
  exact subscriptTail_builtinR (x:=w) pl.isList.typeIs slot_list_getitem.lookup
   (wpAny_getItem_list_neg (Q:=fun r s'=>r=w/\EP X pins σ Q r s') pl.isList (by lia) (by rw[ψ]<;>lia) (by lia) (by rw[hj];simpa using ew) ⟨rfl,fin⟩) hs
theorem MN:ud X (Lk X.K):=by
 intro value slice pins s σ H x y v u Q I rx ry h hs;obtain⟨p,xs,i,z,rfl,rfl,hq,he,q⟩:=h;cases rx;obtain⟨t,rfl⟩:=ry;obtain⟨its,r,pl,hz⟩:=I.tuple hq;obtain⟨j,h1,h2,h3,h4,h5⟩:=rA he;obtain⟨w,ew,rw'⟩:=r.get h2;have hl:=r.length;have hn:=mi;have fin:EP X pins σ Q w s:=⟨z,H,I,rw',q⟩;exact subscriptTail_builtinR (x:=w) pl.typeIs slot_tuple_getitem.lookup
  (getItem_tuple (j:=j) (Q:=fun r s'=>r=w/\EP X pins σ Q r s') pl (by lia) (by lia) (by rw[ψ,←hl];exact h1) (by simpa using ew) ⟨rfl,fin⟩) hs
theorem MO:ud X Ll:=by
 intro value slice pins s σ H x y v u Q I rx ry h hs;obtain⟨z,i,c,rfl,rfl,hz,he,q⟩:=h;obtain⟨t,rfl⟩:=rx;obtain⟨t',rfl⟩:=ry;obtain⟨j,h1,h2,h3,h4,h5⟩:=rA he;have hl:z.cps.toList.length=z.length:=by simp[Δ.length]
 rw[hl] at h1 h4 h5;have hn:=mi;exact tail_any (typeIs_str s z t) slot_str_getitem.lookup (getItem_str (c:=c) (by
  have e1:decide (i < -(2^63:Int))=false:=decide_eq_false (by lia);have e2:decide (i≥2^63)=false:=decide_eq_false (by lia);rw[e1,e2,Bool.or_false]) (by rw[h1];simpa using h2) ⟨.str ⟨#[c]⟩,H,I.tok _,⟨_,rfl⟩,q⟩) hs
def PF(K:ι):R2:=fun x y H Q=>EX K x y H Q∨Lk K x y H Q∨Ll x y H Q
theorem DQ:ud X (PF X.K):=J3.or (MN.or MO)
theorem Ay(its:List δ)(n j:Nat)(u:δ):aS (·.setIfInBounds j u) { cls:=.type "list",data:=.seq its.toArray n }={ cls:=.type "list",data:=.seq (its.set j u).toArray n }:=by
 simp[aS]
theorem Inv.lst{pins:List (ε×aT)}{σ:St}{H:Hp}{s:ζ}{p:ε}{xs:List V}(I:Inv X pins σ H s)(h:H p=some (.lst xs)):
  ∃(its:List δ) (n:Nat),bc xs its/\s.heap.get? p=some { cls:=.type "list",data:=.seq its.toArray n }/\xs.length≤aj:=by
 obtain⟨z,its,n,r,e⟩:=I.bV p _ h;exact⟨its,n,r,e,z⟩
theorem Inv.Mp{pins:List (ε×aT)}{σ:St}{H:Hp}{s:ζ}{p:ε}{xs ys:List V}{its its':List δ}{n n':Nat}{f:aT->aT}(I:Inv X pins σ H s)(h:H p=some (.lst xs))
  (ho:s.heap.get? p=some { cls:=.type "list",data:=.seq its.toArray n }) (hf:f { cls:=.type "list",data:=.seq its.toArray n }={ cls:=.type "list",data:=.seq its'.toArray n' }) (r:bc ys its') (hz:ys.length≤aj) (t:Nat):
  Inv X pins σ (upd H p (.lst ys)) { s with heap:=s.heap.update p f,toks:=t }:=by
 have e:(s.heap.update p f).get? p=some { cls:=.type "list",data:=.seq its'.toArray n' }:=by
  rw[dS f ho (by rw[hf]<;>rfl),hf]
 refine I.write (x:=p) (e:=p) (by rw[h];trivial) (.inl rfl) (fun b u hb q=>(bz _ _ (eW hb)).trans q) ⟨_,e⟩ ?_;exact⟨hz,its',n',r,e⟩
def GL:V->V->V->Hp->(Hp->Prop)->Prop:=fun o i v H Q=>∃p xs k j,o=.ref p/\i=.int k/\H p=some (.lst xs)/\qi xs.length k=some j/\Q (upd H p (.lst (xs.set j v)))
theorem set_list:BH X GL:=by
 intro pins s σ H o i v ov iv u Q I ro ri rv h;obtain⟨p,xs,k,j,rfl,rfl,hp,hj,q⟩:=h;cases ro;obtain⟨t,rfl⟩:=ri;obtain⟨its,n,r,ho,hz⟩:=I.lst hp;obtain⟨h1,h2,h3,h4⟩:=zj hj;have hl:=r.length;have hn:=mi;have I':Inv X pins σ (upd H p (.lst (xs.set j v))) { s with heap:=s.heap.update p (aS (·.setIfInBounds j u))}:=
  I.Mp hp ho (Ay its n j u) (r.set rv j) (by rw[List.length_set];exact hz) s.toks
 by_cases h0:0≤k
 ·have hk:k.toNat=j:=by
   rw[nA h0 h4] at h1;exact ay h1
  exact PySem.W.ki_setAt ho h0 (by lia) (by rw[ψ,←hl];exact h4) (by rw[hk];exact⟨_,I',q⟩)
 ·have hk:(k+(its.toArray.size:Int)).toNat=j:=by
   rw[seqIndex_neg (by lia) h3] at h1;rw[ψ,←hl];exact ay h1
  exact PySem.W.ki_setBack ho (by lia) (by rw[ψ,←hl];exact h3) (by lia) (by rw[hk];exact⟨_,I',q⟩)
theorem wR(lo hi:Option Int)(n:Nat):(sliceBounds lo hi none n).1=((HT.bQ n 0 lo:Nat):Int)/\(sliceBounds lo hi none n).2.1=((HT.bQ n n hi:Nat):Int)/\(sliceBounds lo hi none n).2.2=1:=by
 refine⟨?_,?_,rfl⟩
 ·cases lo with
  |none=>simp[sliceBounds,HT.bQ]
  |some i=>
   simp only[sliceBounds,HT.bQ,sA,show (1:Int) > 0 by decide,if_true];by_cases h:i<0
   ·simp only[h,if_true]<;>lia
   ·simp only[h,if_false]<;>lia
 ·cases hi with
  |none=>simp[sliceBounds,HT.bQ]
  |some i=>
   simp only[sliceBounds,HT.bQ,sA,show (1:Int) > 0 by decide,if_true];by_cases h:i<0
   ·simp only[h,if_true]<;>lia
   ·simp only[h,if_false]<;>lia
theorem vG(its:List δ)(lo hi:Option Int):slicePick its.toArray lo hi none=((its.drop (HT.bQ its.length 0 lo)).take (HT.bQ its.length its.length hi-HT.bQ its.length 0 lo)).toArray:=by
 obtain⟨h1,h2,h3⟩:=wR lo hi its.toArray.size;unfold slicePick;rw[h1,h2,h3];simp only[sliceRange_one,pick_run,ψ]<;>rfl
def Qb(K:ι):V->Option Int->Option Int->Hp->VK->Prop:=fun x lo hi H Q=>∃a xs,x=.ref a/\eQ K H a xs/\∀p,H p=none->Q (.ref p) (upd H p (.lst (qu xs lo hi)))
theorem II:vA X (Qb X.K):=by
 intro pins s σ H x v vl vu lo hi sl Q I rx hs pl pu h;obtain⟨a,xs,rfl,hx,q⟩:=h;cases rx;obtain⟨its,r,ht,hz⟩:=I.list hx;have hlen:=r.length;refine⟨"list",_,slot_list_getitem.lookup,ht.isList.typeIs,?_⟩;refine wpAny_getItem_list_slice ht.isList hs pl pu .none (by simp) ?_ (by rw[ψ]<;>lia)
 rw[vG,←hlen];refine⟨.ref s.heap.objs.size,_,I.laid (t':=s.toks) (o:=.lst (qu xs lo hi)) (fun b ob q=>ξ _ q) (Θ _) ?_,rfl,q _ (I.bV.fresh (Θ _))⟩;exact⟨az (rQ xs lo hi) hz,_,0,(r.drop (HT.bQ xs.length 0 lo)).take (HT.bQ xs.length xs.length hi-HT.bQ xs.length 0 lo),ab _ rfl⟩
theorem yd:fM X (.builtin "len") (fun xs H Q=>∃p ys,xs=[.ref p]/\(eQ X.K H p ys∨dJ X.K H p ys)/\Q (.int ys.length) H):=by
 intro pins s σ H xs us Q I r h;obtain⟨p,ys,rfl,hq,q⟩:=h;obtain⟨u,rfl,rx⟩:=vals1 r;cases rx;have hn:=mi;rcases hq with hq|hq
 ·obtain⟨its,r',pl,hz⟩:=I.list hq;have hlen:=r'.length;exact Calls.call_len_list pl.isList (by simp only[ψ]<;>lia) ⟨.int ys.length,H,I.tok _,⟨s.toks+1,by rw[ψ,hlen]⟩,q⟩
 ·obtain⟨its,r',pl,hz⟩:=I.tuple hq;have hlen:=r'.length;exact len_tuple pl (by simp only[ψ]<;>lia) ⟨.int ys.length,H,I.tok _,⟨s.toks+1,by rw[ψ,hlen]⟩,q⟩
theorem vJ:fM X (.type "tuple") (fun xs H Q=>∃p ys,xs=[.ref p]/\((eQ X.K H p ys/\∀l,H l=none->Q (.ref l) (upd H l (.tup ys)))∨(dJ X.K H p ys/\Q (.ref p) H))):=by
 intro pins s σ H xs us Q I r h;obtain⟨p,ys,rfl,h⟩:=h;obtain⟨u,rfl,rx⟩:=vals1 r;cases rx;rcases h with⟨hq,q⟩|⟨hq,q⟩
 ·obtain⟨its,r',pl,hz⟩:=I.list hq;have hlen:=r'.length;refine call_tuple_list pl.isList (fun h' kp=>?_) (by simp only[ψ]<;>lia)
  have I1:Inv X pins σ H { s with heap:=h' }:=I.kept (t':=s.toks) kp;have I2:Inv X pins σ (upd H h'.objs.size (.tup ys)) { s with heap:=h'.push { cls:=.type "tuple",data:=.seq its.toArray }}:=
   I1.laid (t':=s.toks) (fun b o e=>ξ _ e) (Θ _) (show eN X.prog X.w _ _ _ (.tup ys) from⟨hz,its,r',iO.new _ _⟩)
  exact⟨.ref h'.objs.size,_,I2,rfl,q _ (I1.bV.fresh (Θ _))⟩
 ·obtain⟨its,r',pl,hz⟩:=I.tuple hq;exact call_tuple_same pl ⟨.ref p,H,I,rfl,q⟩
def PD(K:ι)(T:String)(x:V)(H:Hp):Prop:=match x with
 |.str _=>T="str"
 |.int _=>T="int"
 |.ref p=>(T="list"/\∃xs,eQ K H p xs)∨(T="tuple"/\∃o,K.lookup p=some o/\o.cls=.type "tuple"/\o.dict=none) ∨
   (T="dict"/\((∃kvs,H p=some (.dK kvs))∨∃kvs,H p=some (.dT kvs)))∨(T="set"/\∃S n,H p=some (.set S n))
 |_=>False
theorem Kp{pins:List (ε×aT)}{σ:St}{H:Hp}{s:ζ}{T:String}{x:V}{v:δ}(I:Inv X pins σ H s)(r:RelV x v)(ty:PD X.K T x H):
  s.TypeIs v T/\∀a,v=.ref a->∃ob,s.heap.get? a=some ob/\ob.dict=none:=by
 cases x with
 |str z=>
  obtain⟨t,rfl⟩:=r;cases (show T="str" from ty);exact⟨typeIs_str s z t,fun _ e=>nomatch e⟩
 |int i=>
  obtain⟨t,rfl⟩:=r;cases (show T="int" from ty);exact⟨typeIs_int s i t,fun _ e=>nomatch e⟩
 |ref p=>
  cases r;rcases ty with⟨rfl,xs,hq⟩|⟨rfl,o,hk,hc,hd⟩|⟨rfl,hk⟩|⟨rfl,S,n,hk⟩
  ·obtain⟨its,_,pl,_⟩:=I.list hq;refine⟨pl.isList.typeIs,fun a e=>?_⟩;cases e;obtain⟨o,n,e,c,hd,_⟩:=pl;exact⟨o,e,hd⟩
  ·refine⟨⟨o,I.lh p o hk,hc⟩,fun a e=>?_⟩;cases e;exact⟨o,I.lh _ o hk,hd⟩
  ·have z:∃o,s.heap.get? p=some o/\o.ExactDict:=by
    rcases hk with⟨kvs,hk⟩|⟨kvs,hk⟩
    ·obtain⟨_,_,_,_,o,_,_,e,ex,_⟩:=I.bV p _ hk;exact⟨o,e,ex⟩
    ·obtain⟨_,_,_,_,o,_,_,e,ex,_⟩:=I.bV p _ hk;exact⟨o,e,ex⟩
   obtain⟨o,e,ex⟩:=z;refine⟨⟨o,e,ex.1⟩,fun a e2=>?_⟩;cases e2;exact⟨o,e,ex.2.1⟩
  ·obtain⟨o,_,_,_,e,ex,_⟩:=I.bV p _ hk;refine⟨⟨o,e,ex.1⟩,fun a e2=>?_⟩;cases e2;exact⟨o,e,ex.2.1⟩
 |_=>exact fq ty
def Kz(K:ι)(T:String)(r:V->List V->Hp->VK->Prop)(to:TE)(t:TA):TE:=fun σ H Q=>to σ H fun x H1=>PD K T x H1/\t σ H1 fun xs H2=>r x xs H2 Q
variable {o e:ρ} {es:List ρ} {to:TE} {t:TA} {name:Δ} {apos cpos:aL} {T id:String} {r:V->List V->Hp->VK->Prop}
theorem Oq(pa:PlainAttrs T)(slot:Slot T name id)(hty:typeOf (.builtin id)=pure (.type "method_descriptor"))(hm:NB X id r)(ho:PE X o to)(ha:PA X (e::es) t)
  (AQ:attributeBase o name X.env (eval o X.env)=eval o X.env:=by rfl)
  (Fx:((backTo cpos (bE (e::es) X.env)).all (fun x=>!x.1)&&(backToKw cpos (keywordEach [] X.env)).all (fun x=>x.1.isSome)
   && decide ((e::es).length+([]:List Keyword).length+(if ([]:List Keyword).isEmpty then 0 else 1)<30))=true:=by rfl)
  (AO:(apos.endLine==cpos.line)=true:=by rfl) (hs:bE (e::es) X.env=(false,eval e X.env)::bE es X.env:=by rfl) (hplain:(backTo cpos (bE es X.env)).any (·.1)=false:=by rfl):
  PE X (.Call (.Attribute o name apos) (e::es) [] cpos) (Kz X.K T r to t):=by
 intro pins s σ H Q I h;refine wpAny_Call_method_late AQ Fx AO rfl (bK (ho pins s σ H _ I h) fun v s1 ⟨x,H1,I1,r1,ty,q1⟩=>?_);obtain⟨h1,h2⟩:=Kp I1 r1 ty;refine⟨T,id,pa,slot,hty,h1,h2,?_⟩;have hA:=ha cpos pins s1 σ H1 _ I1 q1;rw[hs] at hA ⊢;refine Calls.callWith_builtin (by show (false||(backTo cpos (bE es X.env)).any (·.1))=false;rw[hplain]<;>rfl) (Calls.evalArgs_plain ?_)
 exact bK hA fun us s2 ⟨vs,H2,I2,r2,q2⟩=>hm pins s2 σ H2 x vs v us Q I2 r1 r2 q2
/- xs.append(e),list.index on a module's tuple .. are NB facts of 06m -/
end
end L2
namespace L2
open PySem PySem.Spec PyProof.Rows
def NC(X:Cx)(id:String)(r:V->List V->Hp->VK->Prop):Prop:=
 ∀(pins:List (ε×aT)) (s:ζ) (σ:St) (H:Hp) (x:V) (xs:List V) (v:δ) (us:List δ) (Q:VK),Inv X pins σ H s->RelV x v->bc xs us->r x xs H Q ->
  π (model X.prog X.w) X.A (call (.builtin id) (v::us)) (EP X pins σ Q) X.xe s
theorem bc.one:∀{x:V} {us:List δ},bc [x] us->∃u,us=[u]/\RelV x u
 |_,_,.cons r .nil=>⟨_,rfl,r⟩
theorem bc.eraseIdx:∀{xs:List V} {us:List δ} (i:Nat),bc xs us->bc (xs.eraseIdx i) (us.eraseIdx i)
 |_,_,_,.nil=>.nil
 |_,_,0,.cons _ t=>t
 |_,_,i+1,.cons r t=>.cons r (bc.eraseIdx i t)
theorem bc.rep{xs:List V}{us:List δ}(h:bc xs us):∀k:Nat,bc (bo k xs).flatten (bo k us).flatten
 |0=>.nil
 |k+1=>by
  rw[eH,eH,gm,gm];exact bc.append h (bc.rep h k)
theorem qg{α:Type}:∀(l:List α) (i:Nat),(l.eraseIdx i).length≤l.length
 |[],_=>Θ _
 |_::_,0=>Nat.le_succ _
 |_::r,i+1=>Nat.succ_le_succ (qg r i)
theorem foldl_rep(its:List δ):∀(k:Nat) (acc:List δ),
  uk (fun x1 x2=>x1++x2) acc.toArray (bo k its.toArray)=(acc++(bo k its).flatten).toArray
 |0,acc=>by simp
 |k+1,acc=>by
  have e:acc.toArray++its.toArray=(acc++its).toArray:=by simp
  have e2:(acc++its)++(bo k its).flatten=acc++(bo (k+1) its).flatten:=by
   rw[eH,gm,eu]
  rw[←e2,←foldl_rep its k (acc++its),←e,eH,List.foldl_cons]
section
variable {X:Cx} {pins:List (ε×aT)} {σ:St} {H:Hp} {s:ζ} {l b:ε} {xs ys zs:List V}
theorem Inv.Fj{its its':List δ}{n:Nat}{f:Array δ->Array δ}{t':Nat}(I:Inv X pins σ H s)(hH:H l=some (.lst xs))
  (e:s.heap.get? l=some { cls:=.type "list",data:=.seq its.toArray n }) (hf:f its.toArray=its'.toArray) (hv:bc ys its') (hz:ys.length≤aj):
  Inv X pins σ (upd H l (.lst ys)) { s with heap:=s.heap.update l (aS f),toks:=t' }:=by
 have q:=PySem.IsL.update e f;rw[hf] at q;refine I.write (x:=l) (e:=l) (by rw[hH];exact trivial) (.inl rfl) (fun b' u hb hu=>(bz s.heap (aS f) (eW hb)).trans hu) ⟨_,q⟩ ?_;exact⟨hz,its',_,hv,q⟩
theorem Inv.Fl{its:List δ}{t':Nat}(I:Inv X pins σ H s)(hv:bc ys its)(hz:ys.length≤aj):
  Inv X pins σ (upd H s.heap.objs.size (.lst ys)) { s with heap:=s.heap.push { cls:=.type "list",data:=.seq its.toArray },toks:=t' }:=
 I.laid (fun _ _ q=>ξ _ q) (Θ _) ⟨hz,its,0,hv,ab _ rfl⟩
theorem Inv.fresh(I:Inv X pins σ H s):H s.heap.objs.size=none:=I.bV.fresh (Θ _)
theorem Inv.sh(I:Inv X pins σ H s)(hH:H l=some (.lst xs)):xs.length≤aj/\∃(its:List δ) (n:Nat),bc xs its/\xs.length=its.length/\s.heap.get? l=some { cls:=.type "list",data:=.seq its.toArray n }:=by
 obtain⟨z,its,n,r,e⟩:=I.bV l _ hH;exact⟨z,its,n,r,r.length,e⟩
theorem xj{n:Nat}(h:n≤aj):fK n=false:=by
 unfold fK;exact decide_eq_false (by lia)
end
section
variable {X:Cx}
def yL:V->List V->Hp->VK->Prop:=fun x vs H Q=>∃l xs y,x=.ref l/\vs=[y]/\H l=some (.lst xs)/\xs.length<aj/\Q .aq (upd H l (.lst (xs++[y])))
theorem ve:NC X "list.append" yL:=by
 intro pins s σ H x vs v us Q I rx rv h;obtain⟨l,xs,y,rfl,rfl,hH,hz,q⟩:=h;cases rx;obtain⟨u,rfl,ru⟩:=rv.one;obtain⟨z,its,n,r,hl,e⟩:=I.sh hH;refine lK F.slot_list_append ⟨_,e,rfl⟩ F.entry_list_append (F.args_list_append_2 _ _) (PySem.list_append l its.toArray n u (by rw[ψ];lia)) ⟨e,?_⟩;refine⟨.aq,_,I.Fj (its':=its++[u]) hH e (by simp) (r.append (.cons ru .nil)) ?_,rfl,q⟩;rw[av,dk];lia
def yK:V->List V->Hp->VK->Prop:=fun x vs H Q=>∃l b xs zs,x=.ref l/\vs=[.ref b]/\H l=some (.lst xs)/\H b=some (.lst zs)/\xs.length+zs.length≤aj/\Q .aq (upd H l (.lst (xs++zs)))
theorem DF:NC X "list.extend" yK:=by
 intro pins s σ H x vs v us Q I rx rv h;obtain⟨l,b,xs,zs,rfl,rfl,hH,hB,hz,q⟩:=h;cases rx;obtain⟨u,rfl,ru⟩:=rv.one;cases ru;obtain⟨z,its,n,r,hl,e⟩:=I.sh hH;obtain⟨z2,its2,n2,r2,hl2,e2⟩:=I.sh hB;have fv:its.toArray.size+its2.toArray.size≤aj:=by rw[ψ,ψ];lia
 have hlong:¬(!its.toArray.isEmpty&&fK (its.toArray.size+its2.toArray.size))=true:=by
  rw[xj fv,Bool.and_false];exact Ω
 refine lK F.slot_list_extend ⟨_,e,rfl⟩ F.entry_list_extend (F.args_list_extend_2 _ _)
  (AutoSeq1.list_extend_list_list_0 l its.toArray n b its2.toArray n2 hlong (by rw[ψ];lia) (by lia)) ⟨e,e2,?_⟩
 refine⟨.aq,_,I.Fj (its':=its++its2) hH e (by simp) (r.append r2) ?_,rfl,q⟩;rw[av];lia
def CQ:V->List V->Hp->VK->Prop:=fun x vs H Q=>∃l xs i k y,x=.ref l/\vs=[.int i]/\H l=some (.lst xs)/\-(2^63)≤i/\i<2^63/\seqIndex? i xs.length=some k/\xs[k]?=some y/\Q y (upd H l (.lst (xs.eraseIdx k)))
theorem xn:NC X "list.pop" CQ:=by
 intro pins s σ H x vs v us Q I rx rv h;obtain⟨l,xs,i,k,y,rfl,rfl,hH,h1,h2,hk,hy,q⟩:=h;cases rx;obtain⟨u,rfl,ru⟩:=rv.one;obtain⟨t,rfl⟩:=ru;obtain⟨z,its,n,r,hl,e⟩:=I.sh hH;obtain⟨w,hw,rw'⟩:=r.get hy;refine lK F.slot_list_pop ⟨_,e,rfl⟩ F.entry_list_pop (F.args_list_pop_2 _ _)
  (MeetsSeq.list_pop_at l its.toArray n i t k w (fitsIndex_both h1 h2) (by rw[ψ,←hl];exact hk) (by rw[←ao];exact hw) (by rw[ψ];lia)) ⟨e,?_⟩
 refine⟨y,_,I.Fj (its':=its.eraseIdx k) hH e ?_ (r.eraseIdx k) ?_,rw',q⟩
 ·show its.toArray.eraseIdxIfInBounds k=(its.eraseIdx k).toArray;rw[List.eraseIdxIfInBounds_toArray]
 ·have:=qg xs k;lia
def Lo:R2:=fun x y H Q=>∃l b xs zs,x=.ref l/\y=.ref b/\H l=some (.lst xs)/\H b=some (.lst zs)/\xs.length+zs.length≤aj/\∀p,H p=none->Q (.ref p) (upd H p (.lst (xs++zs)))
theorem LP:ey X (binaryOp .Add) Lo:=by
 intro pins s σ H x y v u Q I rx ry h;obtain⟨l,b,xs,zs,rfl,rfl,hH,hB,hz,q⟩:=h;cases rx;cases ry;obtain⟨z,its,n,r,hl,e⟩:=I.sh hH;obtain⟨z2,its2,n2,r2,hl2,e2⟩:=I.sh hB;refine PySem.P.add_list e e2 ?_ (by rw[ψ,ψ];lia);have ea:its.toArray++its2.toArray=(its++its2).toArray:=by simp
 rw[ea];exact⟨.ref _,_,I.Fl (t':=s.toks) (r.append r2) (by rw[av];lia),rfl,q _ I.fresh⟩
def Lh:R2:=fun x y H Q=>∃l k xs,x=.ref l/\y=.int k/\H l=some (.lst xs)/\-(2^63)≤k/\k<2^63/\xs.length*k.toNat≤aj ∧
 ∀p,H p=none->Q (.ref p) (upd H p (.lst (bo k.toNat xs).flatten))
theorem len_rep{α:Type}(xs:List α)(k:Nat):(bo k xs).flatten.length=k*xs.length:=by
 induction k with
 |zero=>simp
 |succ k ih=>rw[eH,gm,av,ih,Nat.succ_mul,Nat.add_comm]
theorem LM:ey X (binaryOp .Mult) Lh:=by
 intro pins s σ H x y v u Q I rx ry h;obtain⟨l,k,xs,rfl,rfl,hH,h1,h2,hz,q⟩:=h;cases rx;obtain⟨t,rfl⟩:=ry;obtain⟨z,its,n,r,hl,e⟩:=I.sh hH;have hlen:its.toArray.size*k.toNat≤aj:=by rw[ψ,←hl];exact hz
 have hcap:¬its.toArray.size*k.toNat > (2^63-1) / 8:=by
  have:(aj:Nat)≤(2^63-1) / 8:=by decide
  lia
 have hfit:¬(!eJ.List.listFitsIndex k)=true:=by
  rw[fitsIndex_both h1 h2];exact Ω
 have hlong:¬fK (its.toArray.size*k.toNat)=true:=by
  rw[xj hlen];exact Ω
 have hnew:uk (fun x1 x2=>x1++x2) #[] (bo (if its.toArray.isEmpty=true then 0 else k.toNat) its.toArray)=(bo k.toNat its).flatten.toArray:=by
  have f0:∀m:Nat,uk (fun x1 x2=>x1++x2) #[] (bo m its.toArray)=(bo m its).flatten.toArray:=fun m=>by
   have:=foldl_rep its m [];rw[dj] at this;exact this
  rw[f0];cases its with
  |nil=>simp
  |cons a r'=>rw[if_neg (by simp)]
 refine wpAny_binaryOp_repeat_ref (T:="list") (U:="int") (by decide) ⟨_,e,rfl⟩ (fun s'=>typeIs_int s' k t) noFill_list_mul F.fills_int_mul F.slot_int_rmul repeat_list F.slot_int_index.lookup
  (lK F.slot_int_rmul (typeIs_int s k t) F.entry_int_rmul (F.args_int_rmul_2 _ _) (int___rmul___int_list k t l its.toArray n)
   ⟨e,rfl,⟨_,e,rfl⟩,lK F.slot_list_mul ⟨_,e,rfl⟩ F.entry_list_mul (F.args_list_mul_2 _ _) (AutoListH.list___mul___list_int_3 l its.toArray n k t hfit hcap hlong) ⟨e,?_⟩⟩)
 rw[hnew];exact⟨.ref _,_,I.Fl (t':=s.toks) (r.rep k.toNat) (by rw[len_rep,fH];exact hz),rfl,q _ I.fresh⟩
end
end L2
namespace PN
open PySem PySem.W PySem.Calls PyProof.Rows
theorem tT{P:Params}{h:ai}:∀(ns:List Int) (vs:List δ),WellAll P h vs (ns.map WData.int)->dF vs ns:=by
 intro ns
 induction ns with
 |nil=>
  intro vs w;rw[qG] at w;cases w;exact .nil
 |cons n ns ih=>
  intro vs w;rw[bH] at w;cases w with
  |cons a b=>
   cases a;exact .cons _ _ (ih _ b)
theorem CB{l:OpenLaw}{n:Nat}(hn:l.most=some n){P:Params}{h:ai}{args:List WData}{vals:List δ}
  (AN:l.row.toRowW.claim.pre args=true) (hwl:WellAll P h vals args):
  ∃a vs ns,vals=[aJ a]/\args=[WData.list (ns.map WData.int)]/\h.get? a=some { cls:=.type "list",data:=.seq vs.toArray }/\dF vs ns/\ns.length≤n:=by
 have hsh:WShape.hasAll [] args [.list .int]=true:=(pre_splitW AN).1;have hc:l.pre.holds [] { args:=args }=true:=(pre_splitW AN).2;obtain⟨d,r,rfl,h1,h2⟩:=hasAllW_cons hsh;obtain rfl:=hasAllW_nil h2;obtain⟨xs,rfl,h3⟩:=hasW_list h1;obtain⟨ns,rfl⟩:=items_int h3;have hlen:ns.length≤n:=by
  unfold OpenLaw.pre at hc;have h4:(WTm.not (.lt (.lit (.int (n:Int))) (.len (.arg 0)))).holds [] { args:=[.list (ns.map .int)]}=true:=by
   have h4:=(holds_andW hc).1;rw[hn] at h4;exact h4
  have h5:=condW_of h4 (w_not (w_lt w_lit (w_len_list (w_arg rfl))));rw[μ] at h5;refine Nat.le_of_not_lt fun q=>?_;have q':(n:Int)<((ns.length:Nat):Int):=by lia
  first
   | (rw[decide_eq_true q'] at h5;exact absurd h5 (by decide))
   | (simp at h5;lia)
 cases hwl with
 |cons w1 w2=>
  cases w2;cases w1 with
  |list ho hall=>exact⟨_,_,ns,rfl,rfl,ho,tT ns _ hall,hlen⟩
theorem C6(l:OpenLaw)(args:List WData):l.row.toRowW.claim.post args (.bool true) args=true:=
 postW_of (r:=l.row.toRowW) (X:=(true==true))
  (show WShape.has [] (.bool true) .bool=true by first|rfl|decide|simp[WShape.has,WShape.arms,WShape.armsAll])
  (show (WTm.eq .res (.lit (.bool true))).value [] { args:=args,res:=some (.bool true),after:=args }=some (.bool (true==true)) from w_eq_bool (w_res rfl) w_lit) rfl
theorem yB{l:OpenLaw}{n:Nat}{q:af}{loose:List Δ}{XP:(Δ->Option δ)->ai->Prop}{YP:ar->ai->Prop}{d:DefRec}
  (hn:l.most=some n) (hdf:d.params.defaults=[])
  (call:∀(w:ar) (s₀ s₁:ζ) (mg mb:Δ->Option δ) (fa:ε) (o:aT) (pm cd doc:δ) (a:ε) (vs:List δ) (ns:List Int),
   Ground q loose [] XP w s₀ mg mb s₁.heap->YP w s₁.heap ->
   s₁.heap.get? fa=some o->o.data=.func (docDef d.name d.params d.body d.scope pm cd doc)->s₁.heap.CodeRec cd d.name->mg d.name=some (.ref fa) ->
   s₁.heap.get? a=some { cls:=.type "list",data:=.seq vs.toArray }->dF vs ns->ns.length≤n->s₁.gens = #[] ->
   gw (model l.prog w) callerA (.call (.ref fa) ⟨[.ref a],[]⟩) (fun r s'=>r=.ok (.ret (.bool true))/\OldK s₁.heap s'.heap/\s'.os=s₁.os/\jr s'.gens) s₁):
  WalkO q loose XP YP l.row.toRowW d [] (fun f vs=>uh f vs):=by
 intro w s₀ s₁ mg mb G Y fa o pm cd doc dV kV ho hd ql hD hmg hg args vals as AN hlay Hs hwl hlo;obtain rfl:dV=.none:=Dflts.none hD hdf;obtain rfl:kV=.none:=Dflts.noKw hD;obtain⟨a,vs,ns,rfl,rfl,hobj,hints,hlen⟩:=CB hn AN hwl;refine enter_call (gv (call w s₀ s₁ mg mb fa o pm cd doc a vs ns G Y ho (fd_plain hd) ql hmg hobj hints hlen hg) fun r s' hq=>?_);obtain⟨rfl,h2,h3,h4⟩:=hq;exact⟨.inl ⟨.bool true,.bool true,[],rfl,fun _=>rfl,.bool true,C6 l _,fun _=>⟨rF,fun _ hm=>(nomatch hm)⟩⟩,h2,h3,h4⟩
end PN
namespace L2
open PySem PySem.Spec PyProof.Rows
theorem uW:∀{vs:List δ} {ns:List Int},dF vs ns->bc (ns.map V.int) vs
 |_,_,.nil=>.nil
 |_,_,.cons n t h=>.cons ⟨t,rfl⟩ (uW h)
def BI(H:Hp):Prop:=∀b,H b=none∨∃o xs,H b=some (.gf o (.lst xs))
theorem Fo{P:af}{w:ar}{K:ι}{mg mb:Δ->Option δ}{CX:pB}{k:Nat}{fa a:ε}{fd:aG}{x:Δ}{sp:Sp}{s₁:ζ}{vs:List δ}{ns:List Int}
  (KX:K.In s₁.heap) (hns:s₁.heap.Ns bq mg) (hb:s₁.heap.Ns builtinsNs mb) (hbb:∀x:Δ,x≠"__name__"->mb x=fF x) (hlim:s₁.heap.NoLimit) (hg:s₁.gens = #[])
  (ha:s₁.heap.get? a=some { cls:=.type "list",data:=.seq vs.toArray }) (hi:dF vs ns) (hl:ns.length≤aj) (hr:fD k callerA)
  (F:∀base:ai,K.In base->base.Ns bq mg->iF P w K mg base CX k fa fd [x] sp) (hbind:∀(s:ζ) (u:δ),oB s fd ⟨[u],[]⟩ [(x,u)])
  (rN:∀H:Hp,BI H->eQ K H a (ns.map V.int)->sp [.ref a] H (fun v _=>v=.bl true) fun _ _ _=>False)
  (MZ:∀H e s',CX [] H s₁ (fun _ _ _=>False) e s'->False):
  gw (model P w) callerA (.call (.ref fa) ⟨[.ref a],[]⟩) (fun r s'=>r=.ok (.ret (.bool true))/\OldK s₁.heap s'.heap/\s'.os=s₁.os/\jr s'.gens) s₁:=by
 have rv:=uW hi;have lenV:=hi.length
 -- from an abstract heap in which nothing but the script may be tracked
 have core:∀H:Hp,BI H->eQ K H a (ns.map V.int)->ik P w H s₁.heap->(∀b,H b≠none->b=a)->(H a≠none->K.lookup a=none) ->
   gw (model P w) callerA (.call (.ref fa) ⟨[.ref a],[]⟩) (fun r s'=>r=.ok (.ret (.bool true))/\OldK s₁.heap s'.heap/\s'.os=s₁.os/\jr s'.gens) s₁:=by
  intro H hO hS bV hA hK;have base_of:∀{b:ε} {o:aT},s₁.heap.get? b=some o->H b=none->(oT s₁.heap H).get? b=some o:=fun e n=>Fw e n;have noA:∀{b:ε} {o:aT} {es:Array DictEntry} {ep:Nat},s₁.heap.get? b=some o->o.data=.dict es ep->H b=none:=fun {b o es ep} e d=>by
   cases q:H b with
   |none=>rfl
   |some u=>
    have e':b=a:=hA b (by rw[q];simp);subst e';rw[ha] at e;cases e;have d':Data.seq vs.toArray _=Data.dict es ep:=d;cases d'
  have nsK:∀{b:ε} {m:Δ->Option δ},s₁.heap.Ns b m->(oT s₁.heap H).Ns b m:=fun {b m} ⟨o,es,ep,e,d,r⟩=>⟨o,es,ep,base_of e (noA e d),d,r⟩;have hKb:K.In (oT s₁.heap H):=fun b o e=>base_of (KX b o e) (by
   cases q:H b with
   |none=>rfl
   |some u=>
    have e':b=a:=hA b (by rw[q];simp);subst e';rw[hK (by rw[q];simp)] at e;cases e)
  have hM:Mod K mg (oT s₁.heap H):=⟨hKb,nsK hns,⟨mb,nsK hb,hbb⟩,let ⟨mc,h1,h2⟩:=hlim;⟨mc,nsK h1,h2⟩⟩
  have e0:BW P w K mg (oT s₁.heap H) callerA [] s₁ H:=⟨rfl,hM,fun b o e=>Jr e,Nat.le_of_eq (DT _ _),trivial,fun b hb=>absurd (show b∈([]:List ε) from hb) (by simp),bV,.of_eq hg⟩;refine gv ((F _ hKb (nsK hns)).run callerA [] s₁ H ⟨[.ref a],[]⟩ [.ref a] [.ref a] _ _ hr e0 (hbind s₁ (.ref a)) (.cons rfl .nil) (rN H hO hS)) fun r s' h=>?_;cases r with
  |error e=>exact (MZ H e s' h).elim
  |ok fl=>
   cases fl with
   |next=>exact fq h
   |brk=>exact fq h
   |cont=>exact fq h
   |ret u=>
    obtain⟨v,H',os,bare,un,hok',r',q⟩:=h;have q':v=.bl true:=q;subst q';obtain rfl:u=fk true:=r';refine⟨rfl,OldK.of_keep fun b o e=>?_,os,bare⟩;cases q:H b with
    |none=>exact un.keep b o e q (by intro z;exact absurd (show b∈([]:List ε) from z) (by simp)) (by simp)
    |some u=>
     rcases hO b with z|⟨ob,xs,z⟩
     ·rw[q] at z;cases z
     ·have z2:=un.oX b ob _ z;obtain⟨e1,_⟩:=bV b _ z;obtain⟨e2,_⟩:=hok' b _ z2;rw[e] at e1;cases e1;exact e2
 cases hk:K.lookup a with
 |some o=>
  -- the script is one of the module's own objects
  have e:=KX a o hk;rw[ha] at e;cases e;refine core (fun _=>none) (fun _=>.inl rfl) (.inr ⟨_,vs.toArray,_,hk,rfl,rfl,rfl,by rw[ψ,lenV];exact hl,by simpa using rv⟩) (fun b u z=>by have z':(none:Option HO)=some u:=z;cases z') (fun b z=>absurd rfl z) fun z=>absurd rfl z
 |none=>
  refine core (fun b=>if b=a then some (.gf { cls:=.type "list",data:=.seq vs.toArray } (.lst (ns.map V.int))) else none) (fun b=>?_) (.inl (.inr ⟨{ cls:=.type "list",data:=.seq vs.toArray },if_pos rfl⟩)) (fun b u z=>?_) (fun b z=>?_) fun _=>hk
  ·by_cases hb:b=a
   ·exact .inr ⟨_,_,if_pos hb⟩
   ·exact .inl (if_neg hb)
  ·by_cases hb:b=a
   ·have z':=(if_pos hb).symm.trans z;cases z';subst hb;exact⟨ha,by rw[μ];exact hl,vs,_,rv,ha⟩
   ·have z':=(if_neg hb).symm.trans z;cases z'
  ·by_cases hb:b=a
   ·exact hb
   ·exact absurd (if_neg hb) z
end L2
namespace L2
open PySem PySem.Spec PyProof.Rows
theorem yC{l:ui}{n k:Nat}{q:af}{loose:List Δ}{XP:(Δ->Option δ)->ai->Prop}{YP:ar->ai->Prop}{d:DefRec}{K:Params->ι}{CX:ar->pB}{sp:ar->Sp}{x:Δ}
  (hn:l.most=some n) (hn2:n≤aj) (hdf:d.params.defaults=[]) (hr:fD k callerA)
  (hY:∀(w:ar) (h:ai),YP w h->(K w.params).In h)
  (F:∀(w:ar) (mg:Δ->Option δ) (fa:ε) (h:ai),(K w.params).In h->h.Ns bq mg->mg d.name=some (.ref fa) ->
   ∃fd:aG,(∀(s:ζ) (u:δ),oB s fd ⟨[u],[]⟩ [(x,u)]) ∧
    ∀base:ai,(K w.params).In base->base.Ns bq mg->iF l.prog w (K w.params) mg base (CX w) k fa fd [x] (sp w))
  (rN:∀(w:ar) (H:Hp) (a:ε) (ns:List Int),ns.length≤n->BI H->eQ (K w.params) H a (ns.map V.int)->sp w [.ref a] H (fun v _=>v=.bl true) fun _ _ _=>False)
  (MZ:∀(w:ar) (H:Hp) (s:ζ) (e:δ) (s':ζ),CX w [] H s (fun _ _ _=>False) e s'->False):
  PySem.W.WalkO q loose XP YP l.row.toRowW d [] (fun f vs=>uh f vs):=by
 refine PN.yB hn hdf fun w s₀ s₁ mg mb fa o pm cd doc a vs ns G Y ho hd ql hmg hobj hints hlen hg=>?_;have KX:=hY w _ Y;obtain⟨fd,hb,hF⟩:=F w mg fa _ KX G.T.g hmg;exact Fo KX G.T.g G.T.b G.T.builtins G.T.nolimit hg hobj hints (az hlen hn2) hr hF hb (fun H hO hS=>rN w H a ns hlen hO hS) fun H e s'=>MZ w H s₁ e s'
end L2
/- THE LAST THEOREM (shape;LID,My.* are yours):
  My.HX: a structure of the addresses that your layer names (classes,functions);My.Txt K t: a structure (Prop) of the equations over K;
  My.we:{K} {implicit addresses ..} (e1:nsIn K bq "law" = some (some (.ref f))) (e2:K.lookup f=some ⟨oc,od,.func (fnOf "law" "law" params body scope dV kV doc pm an cdv ct),sl⟩) (e3:codeIn K cdv "law" = true) ..:∃t,My.Txt K t
set_option maxRecDepth 100000 in
set_option maxHeartbeats 0 in
theorem PySem.Challenge.cw_LID_holds : PySem.Challenge.rw_LID.Holds := by
 w_on;o_law;k_head;(case hw=>w_witness2)
 k_fill
 refine L2.yC (l:=PySem.Challenge.rw_LID) (n:=63) (k:=40) (x:="script") (CX:=fun w=>..) (sp:=fun _=>My.kv) rfl (by decide) rfl ⟨rfl,by decide,by decide⟩ (fun w h Y=>PySem.W.kIn_of Y) ?F ?S ?C
 case F=>
  intro w mg fa h KX G hmg
  have T:∃t,My.Txt (L2.KOf KX) t:=by
   dsimp only[L2.KOf]                          -- K must stand as «<heap const> w.params» for k_is
   refine' My.we ?e1 ?e2 ?e3 ..
   (case e1=>PySem.W.k_is)                    -- in the order: a name -> its address -> its object -> its parts
   (case e2=>PySem.W.k_is)
   ..
  obtain⟨t,T⟩:=T
  have e0:=hmg.symm.trans (aA KX G T.law)
  cases e0                                       -- fa is the law's own address
  exact⟨_,fun s u=>.of_eq rfl,fun base kb nb=>My.law_fn T kb nb⟩     -- if «.of_eq rfl» comes too early: refine' ⟨_,?b,fun base kb nb=>My.law_fn T kb nb⟩;exact fun s u=>.of_eq rfl
 case S=>exact fun w H a ns hl hO hS=>..
 case C=>exact ..
(the tactic k_is has no namespace: write k_is) -/
namespace L2
open PySem PySem.Spec PyProof.Rows
def nZ(s:aX):Arguments:=match s with
 |.FunctionDef _ a _ _ _ _ _ _ _ _=>a
 |_=>{ posonlyargs:=[],args:=[],vararg:=none,kwonlyargs:=[],kw_defaults:=[],kwarg:=none,defaults:=[]}
def jh(s:aX):List aX:=match s with
 |.FunctionDef _ _ b _ _ _ _ _ _ _=>b
 |_=>[]
def ah(s:aX):fW:=match s with
 |.FunctionDef _ _ _ _ _ _ sc _ _ _=>sc
 |_=>{ kind:=.function,names:=[],isGenerator:=false,isCoroutine:=false }
abbrev vD:pB:=fun _ _ _ _ _ _=>False
abbrev E0:XK:=fun _ _ _=>False
theorem Ou{X:Cx}:yk vD X E0:=fun _ _ _ _ _ _ _ h=>h.elim
structure ez(K:ι)(x qual:Δ)(st:aX)(f:ε)(fd:aG):Prop where
 ex:∃(oc:δ) (od:Option ε) (kV doc pm:δ) (an:Option ε) (cdv ct:δ) (osl:Array (Option δ)),
  fd=gy x qual (nZ st) (jh st) (ah st) .none kV doc pm an cdv ct/\K.lookup f=some ⟨oc,od,.func fd,osl⟩/\ka K cdv qual=true
 kp:gx K (.ref f)=true
section
variable {P:af} {w:ar} {K:ι} {mg:Δ->Option δ} {base:ai}
theorem ez.ok{x qual:Δ}{st:aX}{f:ε}{fd:aG}{N ps:List Δ}{k:Nat}{sp:Sp}(F:ez K x qual st f fd)(S:bD N ps (ah st))(len:∀vs H Q E,sp vs H Q E->vs.length=ps.length)
  (oU:∀(cdv:δ) (A:bA) (outer:List gA) (s:ζ) (H:Hp) (vs:List V) (Q:VK) (E:XK),fD k (A.deeper (envOfC qual (ah st) s.heap.objs.size f cdv))->sp vs H Q E ->
   ∃t,ll (qt vD P w K mg base N qual (ah st) f cdv A outer s H E).yX (jh st) t/\t { nx:=fun _ H'=>Q .aq H',rt:=Q } (start N vs) H):iF P w K mg base vD (k+1) f fd ps sp:=by
 obtain⟨oc,od,kV,doc,pm,an,cdv,ct,osl,rfl,lk,ql⟩:=F.ex;refine O9 lk ql S len fun A outer s H vs Q E hr rN=>?_;obtain⟨t,h,q⟩:=oU cdv A outer s H vs Q E hr rN;exact⟨t,h.yX,q⟩
theorem ez.binds{x qual:Δ}{st:aX}{f:ε}{fd:aG}{ps:List Δ}(F:ez K x qual st f fd)
  (h:∀(kV doc pm:δ) (an:Option ε) (cdv ct:δ) (us:List δ),us.length=ps.length->bindArgs (gy x qual (nZ st) (jh st) (ah st) .none kV doc pm an cdv ct) ⟨us,[]⟩=pure (ps.zip us)):Binds K fd ps []:=by
 obtain⟨oc,od,kV,doc,pm,an,cdv,ct,osl,rfl,lk,ql⟩:=F.ex;exact .all (h kV doc pm an cdv ct)
theorem M2{x qual:Δ}{st:aX}{f:ε}{oc:δ}{od an:Option ε}{osl:Array (Option δ)}{kV doc pm cdv ct:δ}(l:K.lookup f=some ⟨oc,od,.func (gy x qual (nZ st) (jh st) (ah st) .none kV doc pm an cdv ct),osl⟩)
  (c:ka K cdv qual=true) (k:gx K (.ref f)=true):ez K x qual st f (gy x qual (nZ st) (jh st) (ah st) .none kV doc pm an cdv ct):=⟨⟨oc,od,kV,doc,pm,an,cdv,ct,osl,rfl,l,c⟩,k⟩
end
section
variable {X:Cx}
theorem pv(i:Nat){x:Δ}{pos:aL}(hN:X.N[i]?=some x:=by rfl)(hv:Nw X.env.scope x:=by first|exact qD rfl|exact ox (qD rfl)|exact ox (ox rfl))(hd:(x==("__debug__":Δ))=false:=by decide)
  (ql:(x==("__classdict__":Δ))=false:=by decide):PE X (.Name x pos) (zJ i):=LA hN hv hd ql
end
end L2
namespace L3
open PySem PySem.Spec PyProof.Rows L2
inductive D where
 |aq|bl (b:Bool)|int (i:Int)|str (x:Δ)|tup (xs:List D)|fz (xs:List D)|obj (a:ε)|dc (a:ε)
def qz(K:ι)(H:Hp)(a:ε)(xs:List V):Prop:=
 (∃o,H a=some (.gf o (.lst xs))) ∨
  ∃(o:aT) (its:Array δ) (n:Nat),K.lookup a=some o/\o.cls=.type "list"/\o.dict=none/\o.data=.seq its n/\its.size≤aj/\bc xs its.toList
theorem qz.l{K:ι}{H:Hp}{a:ε}{xs:List V}(h:qz K H a xs):eQ K H a xs:=by
 rcases h with h|h
 ·exact .inl (.inr h)
 ·exact .inr h
mutual
def Hv(K:ι)(H:Hp):D->V->Prop
 |.aq,v=>v=.aq
 |.bl b,v=>v=.bl b
 |.int i,v=>v=.int i
 |.str x,v=>v=.str x
 |.tup ds,v=>∃a vs,v=.ref a/\dJ K H a vs/\aF K H ds vs
 |.fz ds,v=>∃a vs,v=.ref a/\qz K H a vs/\aF K H ds vs
 |.obj a,v=>v=.ref a
 |.dc a,v=>v=.ref a/\∃ob φ,H a=some (.gf ob (.ext φ))/\ob.cls=.type "dict"
def aF(K:ι)(H:Hp):List D->List V->Prop
 |[],vs=>vs=[]
 |d::ds,vs=>∃v r,vs=v::r/\Hv K H d v/\aF K H ds r
end
inductive GO where
 |lst (ds:List D)|md|gO
 |gen (R:ι->ε->Hp->Prop)
def GO.plain:GO->Prop
 |.gen _=>False
 |_=>True
abbrev Gp:=ε->Option GO
def dA(G:Gp)(a:ε)(o:GO):Gp:=fun b=>if b=a then some o else G b
theorem cT{G:Gp}{a:ε}{o:GO}:dA G a o a=some o:=by simp[dA]
theorem dE{G:Gp}{a b:ε}{o:GO}(h:b≠a):dA G a o b=G b:=by simp[dA,h]
theorem Em{G:Gp}{a b:ε}{o u:GO}(hn:G a=none)(h:G b=some u):dA G a o b=some u:=by
 rw[dE]
 ·exact h
 ·intro e;rw[e,hn] at h;cases h
theorem B2{G:Gp}{a:ε}{o u:GO}:dA (dA G a o) a u=dA G a u:=by
 funext b;unfold dA;by_cases h:b=a
 ·rw[if_pos h,if_pos h]
 ·rw[if_neg h,if_neg h,if_neg h]
def rB(a b c:Int):Prop:=0≤a/\0≤c/\c<2147483647
def rW(K:ι)(H:Hp)(a:ε):GO->Prop
 |.lst ds=>∃vs,H a=some (.lst vs)/\aF K H ds vs
 |.md=>∃i j k,H a=some (.lst [.int i,.int j,.int k])/\rB i j k
 |.gO=>H a=some (.ext fun h=>∃o,h.get? a=some o/\o.cls=.type "dict")
 |.gen R=>R K a H/\(∃o,H a=some o/\(∀xs,o≠.tup xs)/\∀ob u,o≠.gf ob u)/\∀H1 H2:Hp,(∀b xs,H1 b=some (.tup xs)->H2 b=some (.tup xs))->(∀b o u,H1 b=some (.gf o u)->H2 b=some (.gf o u))->H2 a=H1 a->R K a H1->R K a H2
def bf(K:ι)(G:Gp)(H:Hp):Prop:=∀a o,G a=some o->rW K H a o
structure Ext(H H':Hp):Prop where
 tup:∀b xs,H b=some (.tup xs)->H' b=some (.tup xs)
 gf:∀b o u,H b=some (.gf o u)->H' b=some (.gf o u)
theorem Ext.refl(H:Hp):Ext H H:=⟨fun _ _ h=>h,fun _ _ _ h=>h⟩
theorem Ext.trans{H H1 H2:Hp}(a:Ext H H1)(b:Ext H1 H2):Ext H H2:=⟨fun c x h=>b.tup c x (a.tup c x h),fun c o u h=>b.gf c o u (a.gf c o u h)⟩
structure Step(H:Hp)(G:Gp)(H':Hp)(G':Gp):Prop where
 fr:∀a o,H a=some o->G a=none->H' a=some o
 mU:∀a,H a≠none->H' a≠none
 new:∀a,G a=none->G' a≠none->H a=none
theorem Step.refl(H:Hp)(G:Gp):Step H G H G:=⟨fun _ _ h _=>h,fun _ h=>h,fun _ h1 h2=>absurd h1 h2⟩
theorem Step.trans{H H1 H2:Hp}{G G1 G2:Gp}(a:Step H G H1 G1)(b:Step H1 G1 H2 G2):Step H G H2 G2 where
 fr:=fun c o h n=>b.fr c o (a.fr c o h n) (by
  refine ax fun q=>?_;rw[a.new c n q] at h;cases h)
 mU:=fun c h=>b.mU c (a.mU c h)
 new:=fun c n q=>by
  by_cases h1:G1 c=none
  ·have h2:=b.new c h1 q;refine ax fun z=>?_;exact a.mU c z h2
  ·exact a.new c n h1
def Sub(G' G:Gp):Prop:=∀a o,G' a=some o->G a=some o
theorem Sub.refl(G:Gp):Sub G G:=fun _ _ h=>h
theorem Sub.trans{A B C:Gp}(a:Sub A B)(b:Sub B C):Sub A C:=fun x o h=>b x o (a x o h)
theorem Sub.upd{G:Gp}{a:ε}{o:GO}(h:G a=none):Sub G (dA G a o):=fun _ _ e=>Em h e
theorem Sub.of_none{G' G:Gp}(s:Sub G' G){a:ε}(h:G a=none):G' a=none:=by
 cases e:G' a with
 |none=>rfl
 |some o=>
  rw[s a o e] at h;cases h
structure dw(G:Gp)(p:ε)(o:GO)(G':Gp):Prop where
 aq:G p=none
 sub:Sub G G'
 at_:G' p=some o
theorem dw.mk'{G:Gp}{p:ε}{o:GO}(h:G p=none):dw G p o (dA G p o):=⟨h,Sub.upd h,cT⟩
theorem Step.sub{H:Hp}{G G':Gp}(s:Sub G' G):Step H G H G':=⟨fun _ _ h _=>h,fun _ h=>h,fun a n q=>by
 exact absurd (s.of_none n) q⟩
section
variable {K:ι} {H H':Hp} {G G':Gp}
theorem bf.sub(R:bf K G H)(s:Sub G' G):bf K G' H:=fun a o e=>R a o (s a o e)
theorem rW.mut{a:ε}{o:GO}(h:rW K H a o):∃o,H a=some o/\(∀xs,o≠.tup xs)/\∀ob u,o≠.gf ob u:=by
 cases o with
 |lst ds=>obtain⟨vs,e,_⟩:=h;exact⟨_,e,fun _=>nofun,fun _ _=>nofun⟩
 |md=>obtain⟨i,j,k,e,_⟩:=h;exact⟨_,e,fun _=>nofun,fun _ _=>nofun⟩
 |gO=>exact⟨_,h,fun _=>nofun,fun _ _=>nofun⟩
 |gen R=>exact h.2.1
theorem bf.Qc(R:bf K G H){a:ε}{xs:List V}(e:H a=some (.tup xs)):G a=none:=by
 cases q:G a with
 |none=>rfl
 |some u=>
  obtain⟨o,z,h1,_⟩:=(R a u q).mut;rw[e] at z;exact absurd (ay z).symm (h1 xs)
theorem bf.outF(R:bf K G H){a:ε}{ob:aT}{u:HO}(e:H a=some (.gf ob u)):G a=none:=by
 cases q:G a with
 |none=>rfl
 |some g=>
  obtain⟨o,z,_,h1⟩:=(R a g q).mut;rw[e] at z;exact absurd (ay z).symm (h1 ob u)
theorem bf.free(R:bf K G H){a:ε}(e:H a=none):G a=none:=by
 cases q:G a with
 |none=>rfl
 |some u=>
  obtain⟨o,z,_⟩:=(R a u q).mut;rw[e] at z;cases z
theorem Step.ext(S:Step H G H' G')(R:bf K G H):Ext H H':=⟨fun b xs h=>S.fr b _ h (R.Qc h),fun b o u h=>S.fr b _ h (R.outF h)⟩
theorem dJ.ext{a:ε}{xs:List V}(E:Ext H H')(h:dJ K H a xs):dJ K H' a xs:=by
 rcases h with (h|⟨o,h⟩)|h
 ·exact .inl (.inl (E.tup _ _ h))
 ·exact .inl (.inr ⟨o,E.gf _ _ _ h⟩)
 ·exact .inr h
theorem qz.ext{a:ε}{xs:List V}(E:Ext H H')(h:qz K H a xs):qz K H' a xs:=by
 rcases h with⟨o,h⟩|h
 ·exact .inl ⟨o,E.gf _ _ _ h⟩
 ·exact .inr h
mutual
theorem Hv.ext(E:Ext H H'):∀{d:D} {v:V},Hv K H d v->Hv K H' d v
 |.aq,_,h=>by simpa [Hv] using h
 |.bl _,_,h=>by simpa [Hv] using h
 |.int _,_,h=>by simpa [Hv] using h
 |.str _,_,h=>by simpa [Hv] using h
 |.obj _,_,h=>by simpa [Hv] using h
 |.dc a,v,h=>by
  unfold Hv at h ⊢;obtain⟨e,ob,φ,q,c⟩:=h;exact⟨e,ob,φ,E.gf _ _ _ q,c⟩
 |.tup ds,v,h=>by
  unfold Hv at h ⊢;obtain⟨a,vs,e,q,r⟩:=h;exact⟨a,vs,e,dJ.ext E q,aF.ext E r⟩
 |.fz ds,v,h=>by
  unfold Hv at h ⊢;obtain⟨a,vs,e,q,r⟩:=h;exact⟨a,vs,e,qz.ext E q,aF.ext E r⟩
theorem aF.ext(E:Ext H H'):∀{ds:List D} {vs:List V},aF K H ds vs->aF K H' ds vs
 |[],_,h=>by simpa [aF] using h
 |d::ds,vs,h=>by
  unfold aF at h ⊢;obtain⟨v,r,e,q,z⟩:=h;exact⟨v,r,e,Hv.ext E q,aF.ext E z⟩
end
theorem aF.nil:aF K H [] []:=by simp[aF]
theorem aF.cons{d:D}{v:V}{ds:List D}{vs:List V}(h:Hv K H d v)(r:aF K H ds vs):aF K H (d::ds) (v::vs):=by
 unfold aF;exact⟨v,vs,rfl,h,r⟩
theorem aF.inv{d:D}{ds:List D}{vs:List V}(h:aF K H (d::ds) vs):∃v r,vs=v::r/\Hv K H d v/\aF K H ds r:=by
 unfold aF at h;exact h
theorem aF.gD{vs:List V}(h:aF K H [] vs):vs=[]:=by
 unfold aF at h;exact h
theorem aF.length:∀{ds:List D} {vs:List V},aF K H ds vs->ds.length=vs.length
 |[],_,h=>by rw[h.gD];rfl
 |d::ds,vs,h=>by
  obtain⟨v,r,rfl,_,q⟩:=h.inv;simp[q.length]
theorem aF.get:∀{ds:List D} {vs:List V} {i:Nat} {d:D},aF K H ds vs->ds[i]?=some d->∃v,vs[i]?=some v/\Hv K H d v
 |[],_,_,_,_,e=>by simp at e
 |x::ds,vs,0,d,h,e=>by
  obtain⟨v,r,rfl,q,_⟩:=h.inv;simp at e;subst e;exact⟨v,rfl,q⟩
 |x::ds,vs,i+1,d,h,e=>by
  obtain⟨v,r,rfl,_,q⟩:=h.inv;simp at e;obtain⟨u,e2,q2⟩:=q.get e;exact⟨u,by simpa using e2,q2⟩
theorem aF.append:∀{ds es:List D} {vs us:List V},aF K H ds vs->aF K H es us->aF K H (ds++es) (vs++us)
 |[],es,_,_,h,q=>by rw[h.gD];exact q
 |d::ds,es,vs,us,h,q=>by
  obtain⟨v,r,rfl,z,w⟩:=h.inv;exact .cons z (w.append q)
theorem aF.drop:∀{ds:List D} {vs:List V} (n:Nat),aF K H ds vs->aF K H (ds.drop n) (vs.drop n)
 |ds,vs,0,h=>h
 |[],_,n+1,h=>by rw[h.gD];exact .nil
 |d::ds,vs,n+1,h=>by
  obtain⟨v,r,rfl,_,q⟩:=h.inv;exact q.drop n
theorem aF.take:∀{ds:List D} {vs:List V} (n:Nat),aF K H ds vs->aF K H (ds.take n) (vs.take n)
 |ds,vs,0,h=>by simpa using aF.nil
 |[],_,n+1,h=>by rw[h.gD];exact .nil
 |d::ds,vs,n+1,h=>by
  obtain⟨v,r,rfl,q,z⟩:=h.inv;exact .cons q (z.take n)
theorem aF.set:∀{ds:List D} {vs:List V} (i:Nat) {d:D} {v:V},aF K H ds vs->Hv K H d v->aF K H (ds.set i d) (vs.set i v)
 |[],_,i,d,v,h,_=>by rw[h.gD];exact .nil
 |x::ds,vs,0,d,v,h,q=>by
  obtain⟨u,r,rfl,_,z⟩:=h.inv;exact .cons q z
 |x::ds,vs,i+1,d,v,h,q=>by
  obtain⟨u,r,rfl,y,z⟩:=h.inv;exact .cons y (z.set i q)
theorem aF.erase:∀{ds:List D} {vs:List V} (i:Nat),aF K H ds vs->aF K H (ds.eraseIdx i) (vs.eraseIdx i)
 |[],_,i,h=>by rw[h.gD];exact .nil
 |x::ds,vs,0,h=>by
  obtain⟨u,r,rfl,_,z⟩:=h.inv;exact z
 |x::ds,vs,i+1,h=>by
  obtain⟨u,r,rfl,y,z⟩:=h.inv;exact .cons y (z.erase i)
theorem aF.rep{ds:List D}{vs:List V}(h:aF K H ds vs):∀k:Nat,aF K H (bo k ds).flatten (bo k vs).flatten
 |0=>.nil
 |k+1=>by
  simp only[eH,gm];exact h.append (h.rep k)
theorem aF.ints:∀(ns:List Int),aF K H (ns.map D.int) (ns.map V.int)
 |[]=>.nil
 |n::ns=>.cons (by simp[Hv]) (aF.ints ns)
theorem Ext.laid{p:ε}{o:HO}(h:H p=none):Ext H (upd H p o):=⟨fun b xs e=>by rw[bG (dz e h)];exact e,fun b x u e=>by rw[bG (dz e h)];exact e⟩
theorem rW.ext{a:ε}{o:GO}(h:rW K H a o)(E:Ext H H')(e:H' a=H a):rW K H' a o:=by
 cases o with
 |lst ds=>
  obtain⟨vs,z,q⟩:=h;exact⟨vs,e.trans z,q.ext E⟩
 |md=>
  obtain⟨i,j,k,z,q⟩:=h;exact⟨i,j,k,e.trans z,q⟩
 |gO=>exact e.trans h
 |gen R=>
  obtain⟨h1,h2,h3⟩:=h;exact⟨h3 H H' E.tup E.gf e h1,by rw[e];exact h2,h3⟩
theorem bf.laid{p:ε}{o:HO}(R:bf K G H)(h:H p=none):bf K G (upd H p o):=fun a u e=>by
 have hne:a≠p:=fun z=>by
  rw[z,R.free h] at e;cases e
 exact (R a u e).ext (Ext.laid h) (bG hne)
theorem bf.g5{p:ε}{o:HO}{g:GO}(R:bf K G H)(h:H p=none)(new:rW K (upd H p o) p g):bf K (dA G p g) (upd H p o):=fun a u e=>by
 by_cases z:a=p
 ·subst z;rw[cT] at e;cases e;exact new
 ·rw[dE z] at e;exact (R.laid h) a u e
theorem Step.laid{p:ε}{o:HO}(h:H p=none):Step H G (upd H p o) G:=⟨fun a u e _=>by rw[bG (dz e h)];exact e,fun a q=>by
 by_cases z:a=p
 ·rw[z,cm];simp
 ·rw[bG z];exact q,fun a n q=>absurd n q⟩
theorem Step.g5{p:ε}{o:HO}{g:GO}(h:H p=none):Step H G (upd H p o) (dA G p g):=⟨(Step.laid (G:=G) h).fr,(Step.laid (G:=G) h).mU,fun a n q=>by
 by_cases z:a=p
 ·rw[z];exact h
 ·rw[dE z] at q;exact absurd n q⟩
theorem AG{p b:ε}{xs ys:List V}(h:H p=some (.lst xs))(e:H b=some (.tup ys)):b≠p:=fun z=>by
 rw[z,h] at e;cases e
theorem AH{p b:ε}{xs:List V}{o:aT}{u:HO}(h:H p=some (.lst xs))(e:H b=some (.gf o u)):b≠p:=fun z=>by
 rw[z,h] at e;cases e
theorem Ext.wrote{p:ε}{xs:List V}{o:HO}(h:H p=some (.lst xs)):Ext H (upd H p o):=
 ⟨fun b ys e=>by rw[bG (AG h e)];exact e,fun b x u e=>by rw[bG (AH h e)];exact e⟩
theorem bf.wrote{p:ε}{xs:List V}{o:HO}{g:GO}(R:bf K G H)(h:H p=some (.lst xs))(new:rW K (upd H p o) p g):bf K (dA G p g) (upd H p o):=fun a u e=>by
 by_cases z:a=p
 ·subst z;rw[cT] at e;cases e;exact new
 ·rw[dE z] at e;exact (R a u e).ext (Ext.wrote h) (bG z)
theorem bf.qe{p:ε}{xs:List V}{ds:List D}(R:bf K G H)(h:H p=none)(hv:aF K H ds xs):bf K (dA G p (.lst ds)) (upd H p (.lst xs)):=R.g5 h ⟨xs,cm,hv.ext (.laid h)⟩
theorem bf.v8{p:ε}{xs ys:List V}{ds:List D}(R:bf K G H)(e:H p=some (.lst xs))(hv:aF K H ds ys):bf K (dA G p (.lst ds)) (upd H p (.lst ys)):=R.wrote e ⟨ys,cm,hv.ext (.wrote e)⟩
theorem Step.wrote{p:ε}{o:HO}{g u:GO}(h:G p=some u):Step H G (upd H p o) (dA G p g):=⟨fun a x e n=>by
 have hne:a≠p:=fun z=>by
  rw[z,h] at n;cases n
 rw[bG hne];exact e,fun a q=>by
 by_cases z:a=p
 ·rw[z,cm];simp
 ·rw[bG z];exact q,fun a n q=>by
 have hne:a≠p:=fun z=>by
  rw[z,h] at n;cases n
 rw[dE hne] at q;exact absurd n q⟩
end
abbrev S3:=List (Option D)
def gP:S3->Nat->Option D
 |[],_=>none
 |x::_,0=>x
 |_::r,n+1=>gP r n
def jy:S3->Nat->D->S3
 |[],_,_=>[]
 |_::r,0,d=>some d::r
 |x::r,n+1,d=>x::jy r n d
structure dY(K:ι)(τ:S3)(σ:L2.St)(H:Hp):Prop where
 len:τ.length=σ.length
 at_:∀(i:Nat) d,gP τ i=some d->∃v,σ[i]?=some (some v)/\Hv K H d v
theorem rJ:∀(τ:S3) (i:Nat) (d:D),(jy τ i d).length=τ.length
 |[],_,_=>rfl
 |_::r,0,d=>rfl
 |x::r,n+1,d=>by simp[jy,rJ r n d]
theorem yg:∀(τ:S3) (i j:Nat) (d:D),gP (jy τ i d) j=if j=i/\i<τ.length then some d else gP τ j
 |[],i,j,d=>by simp[jy,gP]
 |x::r,0,0,d=>by simp[jy,gP]
 |x::r,0,j+1,d=>by simp[jy,gP]
 |x::r,i+1,0,d=>by simp[jy,gP]
 |x::r,i+1,j+1,d=>by
  simp only[jy,gP,yg r i j d,au];by_cases h:j=i/\i<r.length
  ·rw[if_pos h,if_pos (by lia)]
  ·rw[if_neg h,if_neg (by lia)]
section
variable {K:ι} {τ:S3} {σ:L2.St} {H H':Hp}
theorem dY.ext(R:dY K τ σ H)(E:Ext H H'):dY K τ σ H':=⟨R.len,fun i d h=>by
 obtain⟨v,e,q⟩:=R.at_ i d h;exact⟨v,e,q.ext E⟩⟩
theorem dY.set(R:dY K τ σ H){i:Nat}{d:D}{v:V}(h:Hv K H d v):dY K (jy τ i d) (σ.set i (some v)) H:=⟨by rw[rJ,List.length_set];exact R.len,fun j e q=>by
 rw[yg] at q;by_cases c:j=i/\i<τ.length
 ·rw[if_pos c] at q;cases q;refine⟨v,?_,h⟩;rw[c.1,iU (by rw[←R.len];exact c.2)]
 ·rw[if_neg c] at q;obtain⟨u,e1,e2⟩:=R.at_ j e q;refine⟨u,?_,e2⟩;by_cases hij:i=j
  ·subst hij;have:σ.length≤i:=by
    have:=R.len;have:¬i<τ.length:=fun z=>c ⟨rfl,z⟩;lia
   rw[cA.mpr this] at e1;cases e1
  ·rw[jO hij];exact e1⟩
end
def bh:List Δ->List D->S3
 |[],_=>[]
 |_::N,[]=>none::bh N []
 |_::N,d::ds=>some d::bh N ds
theorem oE:∀(N:List Δ) (ds:List D),(bh N ds).length=N.length
 |[],_=>rfl
 |_::N,[]=>by simp[bh,oE N []]
 |_::N,d::ds=>by simp[bh,oE N ds]
theorem sO:∀(N:List Δ) (i:Nat),gP (bh N []) i=none
 |[],i=>rfl
 |_::N,0=>rfl
 |_::N,i+1=>sO N i
theorem u6:∀(N:List Δ) (ds:List D) (i:Nat) (d:D),gP (bh N ds) i=some d->ds[i]?=some d
 |[],_,_,_,h=>by cases h
 |_::N,[],i,d,h=>by
  rw[sO] at h;cases h
 |_::N,x::ds,0,d,h=>by
  simp only[bh,gP] at h;simpa using h
 |_::N,x::ds,i+1,d,h=>by
  simp only[bh,gP] at h;simpa using u6 N ds i d h
theorem dY.start{K:ι}{N:List Δ}{ds:List D}{vs:List V}{H:Hp}(h:aF K H ds vs)(hl:vs.length≤N.length):dY K (bh N ds) (L2.start N vs) H:=⟨by
 rw[oE];simp[L2.start];lia,fun i d e=>by
 obtain⟨v,e1,q⟩:=h.get (u6 N ds i d e);refine⟨v,?_,q⟩;unfold L2.start;have hi:i<vs.length:=(aP.mp e1).1;rw[dU (by simpa using hi),ag,e1];rfl⟩
abbrev V3:=D->Gp->Prop
abbrev aD:=S3->Gp->V3->Prop
abbrev cu:=S3->Gp->(Bool->Gp->Prop)->Prop
abbrev cJ:=S3->Gp->(List D->Gp->Prop)->Prop
structure jH where
 nx:S3->Gp->Prop
 rt:V3
 bk:S3->Gp->Prop:=fun _ _=>False
 ct:S3->Gp->Prop:=fun _ _=>False
abbrev aE:=jH->S3->Gp->Prop
def low(K:ι)(t:aD):TE:=fun σ H Q=>∃τ G Q3,dY K τ σ H/\bf K G H/\t τ G Q3/\∀v H' d G',Hv K H' d v->Step H G H' G'->bf K G' H'->Q3 d G'->Q v H'
def oO(K:ι)(t:cu):TT:=fun σ H Q=>∃τ G Q3,dY K τ σ H/\bf K G H/\t τ G Q3/\∀b H' G',Step H G H' G'->bf K G' H'->Q3 b G'->Q b H'
def oP(K:ι)(t:cJ):TA:=fun σ H Q=>∃τ G Q3,dY K τ σ H/\bf K G H/\t τ G Q3/\∀vs H' ds G',aF K H' ds vs->Step H G H' G'->bf K G' H'->Q3 ds G'->Q vs H'
structure rC(K:ι)(H:Hp)(G:Gp)(D3:jH)(D2:Ends):Prop where
 nx:∀τ σ G' H',dY K τ σ H'->Step H G H' G'->bf K G' H'->D3.nx τ G'->D2.nx σ H'
 bk:∀τ σ G' H',dY K τ σ H'->Step H G H' G'->bf K G' H'->D3.bk τ G'->D2.bk σ H'
 ct:∀τ σ G' H',dY K τ σ H'->Step H G H' G'->bf K G' H'->D3.ct τ G'->D2.ct σ H'
 rt:∀d v G' H',Hv K H' d v->Step H G H' G'->bf K G' H'->D3.rt d G'->D2.rt v H'
theorem rC.step{K:ι}{H H1:Hp}{G G1:Gp}{D3:jH}{D2:Ends}(E:rC K H G D3 D2)(S:Step H G H1 G1):rC K H1 G1 D3 D2:=
 ⟨fun τ σ G' H' a b c q=>E.nx τ σ G' H' a (S.trans b) c q,fun τ σ G' H' a b c q=>E.bk τ σ G' H' a (S.trans b) c q,fun τ σ G' H' a b c q=>E.ct τ σ G' H' a (S.trans b) c q,fun d v G' H' a b c q=>E.rt d v G' H' a (S.trans b) c q⟩
def Mr(K:ι)(t:aE):TS:=fun D2 σ H=>∃τ G D3,dY K τ σ H/\bf K G H/\t D3 τ G/\rC K H G D3 D2
abbrev bP(X:Cx)(e:ρ)(t:aD):Prop:=PE X e (low X.K t)
abbrev oh(X:Cx)(e:ρ)(t:cu):Prop:=PT X e (oO X.K t)
abbrev vB(X:Cx)(e:ρ)(t:cu):Prop:=PW X e (oO X.K t)
abbrev jk(X:Cx)(es:List ρ)(t:cJ):Prop:=PA X es (oP X.K t)
abbrev m5(X:Cx)(st:aX)(t:aE):Prop:=PS X st (Mr X.K t)
abbrev nz(X:Cx)(st:List aX)(t:aE):Prop:=ll X st (Mr X.K t)
section
variable {X:Cx} {e:ρ}
theorem eD{t t':TE}(h:PE X e t)(f:∀σ H Q,t' σ H Q->t σ H Q):PE X e t':=fun pins s σ H Q I q=>h pins s σ H Q I (f σ H Q q)
theorem Al{t t':TT}(h:PT X e t)(f:∀σ H Q,t' σ H Q->t σ H Q):PT X e t':=fun pins s σ H Q I q=>h pins s σ H Q I (f σ H Q q)
theorem pw_of{t t':TT}(h:PW X e t)(f:∀σ H Q,t' σ H Q->t σ H Q):PW X e t':=fun w pins s σ H Q I q=>h w pins s σ H Q I (f σ H Q q)
theorem GV{es:List ρ}{t t':TA}(h:PA X es t)(f:∀σ H Q,t' σ H Q->t σ H Q):PA X es t':=fun p pins s σ H Q I q=>h p pins s σ H Q I (f σ H Q q)
theorem jz{st:aX}{t t':TS}(h:PS X st t)(f:∀D σ H,t' D σ H->t D σ H):PS X st t':=fun pins s σ H Q I q=>h pins s σ H Q I (f Q σ H q)
theorem C5{st:List aX}{t t':TS}(h:ll X st t)(f:∀D σ H,t' D σ H->t D σ H):ll X st t':=fun pins s σ H Q I q=>h pins s σ H Q I (f Q σ H q)
end
def Br(b:Bool)(A B:Prop):Prop:=(b=true->A)/\(b=false->B)
theorem Br.ite{b:Bool}{A B A' B':Prop}(h:Br b A B)(f:A->A')(g:B->B'):if b=true then A' else B':=by
 cases b with
 |true=>rw[if_pos rfl];exact f (h.1 rfl)
 |false=>rw[if_neg Ω];exact g (h.2 rfl)
section
variable {X:Cx} {a b e c:ρ} {ta tb te:aD} {tA tB:cu} {pos:aL} {es rest:List ρ}
def eC(d:D):aD:=fun _ G Q=>Q d G
def υ(i:Nat):aD:=fun τ G Q=>match gP τ i with
 |some d=>Q d G
 |none=>False
theorem Pd{i:Nat}{x:Δ}(h:PE X (.Name x pos) (zJ i)):bP X (.Name x pos) (υ i):=eD h fun σ H Q ⟨τ,G,Q3,RS,RG,h,k⟩=>by
 unfold υ at h;cases hd:gP τ i with
 |none=>rw[hd] at h;exact h.elim
 |some d=>
  rw[hd] at h;obtain⟨v,e1,e2⟩:=RS.at_ i d hd;exact⟨v,e1,k v H d G e2 (.refl H G) RG h⟩
theorem rf{v:V}{d:D}(h:PE X e (tC v))(r:∀H,Hv X.K H d v):bP X e (eC d):=eD h fun σ H Q ⟨τ,G,Q3,RS,RG,h,k⟩=>k v H d G (r H) (.refl H G) RG h
theorem Pm{i:Int}{j}:bP X (.Constant (.int i) j pos) (eC (.int i)):=rf LG fun H=>by simp[Hv]
theorem QK{i:Bool}{j}:bP X (.Constant (.bool i) j pos) (eC (.bl i)):=rf Ot fun H=>by simp[Hv]
theorem Ph{j}:bP X (.Constant .none j pos) (eC .aq):=rf LF fun H=>by simp[Hv]
theorem Nc{x:Δ}{i:Int}{u:Tok}(hm:X.mg x=some (.int i u))(hg:Gl X x:=by rfl)(hd:(x==("__debug__":Δ))=false:=by decide):bP X (.Name x pos) (eC (.int i)):=rf (v:=.int i) (Ji hg hm ⟨u,rfl⟩ hd) fun H=>by simp[Hv]
abbrev R3:=D->D->Gp->V3->Prop
def aR(r:R3)(ta tb:aD):aD:=fun τ G Q=>ta τ G fun x G1=>tb τ G1 fun y G2=>r x y G2 Q
def fj(K:ι)(r:R3)(r2:R2):Prop:=∀x y vx vy G H Q3 Q,Hv K H x vx->Hv K H y vy->bf K G H->r x y G Q3->(∀v H' d G',Hv K H' d v->Step H G H' G'->bf K G' H'->Q3 d G'->Q v H')->r2 vx vy H Q
theorem qX{K:ι}{r:R3}{r2:R2}(L:fj K r r2){σ:L2.St}{H:Hp}{Q:VK}(h:low K (aR r ta tb) σ H Q):Cy r2 (low K ta) (low K tb) σ H Q:=by
 obtain⟨τ,G,Q3,RS,RG,h,k⟩:=h;refine⟨τ,G,_,RS,RG,h,fun v1 H1 d1 G1 h1 S1 R1 q1=>?_⟩;refine⟨τ,G1,_,RS.ext (S1.ext RG),R1,q1,fun v2 H2 d2 G2 h2 S2 R2 q2=>?_⟩;exact L _ _ _ _ _ _ _ _ (h1.ext (S2.ext R1)) h2 R2 q2 fun v H' d G' z1 z2 z3 z4=>k v H' d G' z1 ((S1.trans S2).trans z2) z3 z4
theorem QH{op:pe}{r:R3}{r2:R2}(L:fj X.K r r2)(ho:ey X (binaryOp op) r2)(ha:bP X a ta)(hb:bP X b tb):bP X (.BinOp a op b pos) (aR r ta tb):=
 eD (Oo ho ha hb) fun _ _ _ h=>qX L h
theorem Pn{op:ko}{r:R3}{r2:R2}(L:fj X.K r r2)(ho:ey X (compareOp op) r2)(ha:bP X a ta)(hb:bP X b tb)(hm:behindInMarks op b=false):bP X (.Compare a [op] [b] pos) (aR r ta tb):=
 eD (Jk ho ha hb hm) fun _ _ _ h=>qX L h
def bU(t:aD):cu:=fun τ G Q=>t τ G fun x G1=>match x with
 |.bl k=>Q k G1
 |_=>False
theorem xt{K:ι}{t:aD}{σ:L2.St}{H:Hp}{Q:Bool->Hp->Prop}(h:oO K (bU t) σ H Q):GB (low K t) σ H Q:=by
 obtain⟨τ,G,Q3,RS,RG,h,k⟩:=h;refine⟨τ,G,_,RS,RG,h,fun v H' d G' h1 h2 h3 h4=>?_⟩;cases d with
 |bl c=>
  unfold Hv at h1;exact⟨c,h1,k c H' G' h2 h3 h4⟩
 |_=>exact h4.elim
theorem Ks{op:ko}{r:R3}{r2:R2}(L:fj X.K r r2)(ho:ey X (compareOp op) r2)(ha:bP X a ta)(hb:bP X b tb)(hm:behindInMarks op b=false):oh X (.Compare a [op] [b] pos) (bU (aR r ta tb)):=
 Al (IX ho ha hb hm) fun σ H Q h=>by
  obtain⟨τ,G,Q3,RS,RG,h,k⟩:=xt h;exact qX L ⟨τ,G,Q3,RS,RG,h,k⟩
theorem Kq(h:bP X a ta)(he:∀whole,isTrue a X.env whole=(do let v ←whole;standAt a.pos;holding [v] (truthy v)):=by intro _;rfl):oh X a (bU ta):=
 Al (E8 h he) fun σ H Q h=>by
  obtain⟨τ,G,Q3,RS,RG,h,k⟩:=xt h;refine⟨τ,G,Q3,RS,RG,h,fun v H' d G' h1 h2 h3 h4=>?_⟩;obtain⟨c,rfl,q⟩:=k v H' d G' h1 h2 h3 h4;exact⟨c,rfl,q⟩
def DZ(r r':R3)(ta tb tc:aD):aD:=fun τ G Q=>ta τ G fun x G1=>tb τ G1 fun y G2=>r x y G2 fun z G3=>match z with
 |.bl k=>Br k (tc τ G3 fun w G4=>r' y w G4 Q) (Q (.bl false) G3)
 |_=>False
def Nh(r:D->Gp->V3->Prop)(ta:aD):aD:=fun τ G Q=>ta τ G fun x G1=>r x G1 Q
def Af:D->Gp->V3->Prop:=fun x G Q=>match x with
 |.int i=>Q (.int (-i)) G
 |_=>False
theorem Pj(ha:bP X a ta):bP X (.UnaryOp .USub a pos) (Nh Af ta):=eD (Om Ko ha) fun σ H Q h=>by
 obtain⟨τ,G,Q3,RS,RG,h,k⟩:=h;refine⟨τ,G,_,RS,RG,h,fun v H' d G' h1 h2 h3 h4=>?_⟩;cases d with
 |int i=>
  unfold Hv at h1;exact⟨i,h1,k _ H' (.int (-i)) G' (by simp[Hv]) h2 h3 h4⟩
 |_=>exact h4.elim
def Bg(t u:cu):cu:=fun τ G Q=>t τ G fun c G1=>Br c (u τ G1 Q) (Q false G1)
def pz(t u:cu):cu:=fun τ G Q=>t τ G fun c G1=>Br c (Q true G1) (u τ G1 Q)
def kO(t:cu):cu:=fun τ G Q=>t τ G fun c G1=>Q (!c) G1
theorem tw_and1(ha:oh X a tA):vB X (.BoolOp .And [a] pos) tA:=pw_and1 ha
theorem tw_or1(ha:oh X a tA):vB X (.BoolOp .Or [a] pos) tA:=pw_or1 ha
theorem tw_and(ha:oh X a tA)(hb:vB X (.BoolOp .And (b::rest) pos) tB):vB X (.BoolOp .And (a::b::rest) pos) (Bg tA tB):=pw_of (pw_and ha hb) fun σ H Q h=>by
 obtain⟨τ,G,Q3,RS,RG,h,k⟩:=h;refine⟨τ,G,_,RS,RG,h,fun c H1 G1 S1 R1 q1=>?_⟩;exact Br.ite q1 (fun q=>⟨τ,G1,Q3,RS.ext (S1.ext RG),R1,q,fun b' H' G' y1 y2 y3=>k b' H' G' (S1.trans y1) y2 y3⟩) fun q=>k false H1 G1 S1 R1 q
theorem tw_or(ha:oh X a tA)(hb:vB X (.BoolOp .Or (b::rest) pos) tB):vB X (.BoolOp .Or (a::b::rest) pos) (pz tA tB):=pw_of (pw_or ha hb) fun σ H Q h=>by
 obtain⟨τ,G,Q3,RS,RG,h,k⟩:=h;refine⟨τ,G,_,RS,RG,h,fun c H1 G1 S1 R1 q1=>?_⟩;exact Br.ite q1 (fun q=>k true H1 G1 S1 R1 q) fun q=>⟨τ,G1,Q3,RS.ext (S1.ext RG),R1,q,fun b' H' G' y1 y2 y3=>k b' H' G' (S1.trans y1) y2 y3⟩
theorem PQ(h:vB X a tA):oh X a tA:=h.pt
theorem Kr(ha:oh X a tA):oh X (.UnaryOp .Not a pos) (kO tA):=Al (Ls ha) fun σ H Q h=>by
 obtain⟨τ,G,Q3,RS,RG,h,k⟩:=h;exact⟨τ,G,_,RS,RG,h,fun c H1 G1 S1 R1 q1=>k _ H1 G1 S1 R1 q1⟩
def tW(ta tb:aD):aD:=fun τ G Q=>ta τ G fun x G1=>match x with
 |.bl c=>Br c (tb τ G1 Q) (Q (.bl false) G1)
 |_=>False
def Be(ta:aD):aD:=fun τ G Q=>ta τ G fun x G1=>match x with
 |.bl c=>Q (.bl (!c)) G1
 |_=>False
theorem Pf{op}(h:bP X a ta):bP X (.BoolOp op [a] pos) ta:=LC h
theorem Po(ha:bP X a ta)(hb:bP X (.BoolOp .And (b::rest) pos) tb):bP X (.BoolOp .And (a::b::rest) pos) (tW ta tb):=eD (LH ha hb) fun σ H Q h=>by
 obtain⟨τ,G,Q3,RS,RG,h,k⟩:=h;refine⟨τ,G,_,RS,RG,h,fun v H1 d G1 h1 S1 R1 q1=>?_⟩;cases d with
 |bl c=>
  unfold Hv at h1;exact⟨c,h1,Br.ite q1 (fun q=>⟨τ,G1,Q3,RS.ext (S1.ext RG),R1,q,fun b' H' d' G' y0 y1 y2 y3=>k b' H' d' G' y0 (S1.trans y1) y2 y3⟩) fun q=>k _ H1 (.bl false) G1 (by simp[Hv]) S1 R1 q⟩
 |_=>exact q1.elim
theorem Pg(ha:bP X a ta):bP X (.UnaryOp .Not a pos) (Be ta):=eD (LD ha) fun σ H Q h=>by
 obtain⟨τ,G,Q3,RS,RG,h,k⟩:=h;refine⟨τ,G,_,RS,RG,h,fun v H1 d G1 h1 S1 R1 q1=>?_⟩;cases d with
 |bl c=>
  unfold Hv at h1;exact⟨c,h1,k _ H1 (.bl (!c)) G1 (by simp[Hv]) S1 R1 q1⟩
 |_=>exact q1.elim
def notStar:ρ->Bool
 |.Starred ..=>false
 |_=>true
theorem bj{e:ρ}{es:List ρ}{env:gA}(h:notStar e=true):bE (e::es) env=(false,eval e env)::bE es env:=by
 cases e<;>first|rfl|(simp[notStar] at h)
theorem cW{pos:aL}{env:gA}:∀{es:List ρ},es.all notStar=true->(backTo pos (bE es env)).any (·.1)=false
 |[],_=>rfl
 |e::es,h=>by
  rw[kZ,cN] at h;rw[bj h.1];show (false||(backTo pos (bE es env)).any (·.1))=false;rw[cW h.2];rfl
def aa:cJ:=fun _ G Q=>Q [] G
def ο(ta:aD)(tr:cJ):cJ:=fun τ G Q=>ta τ G fun x G1=>tr τ G1 fun xs G2=>Q (x::xs) G2
theorem Pz:jk X [] aa:=GV mf fun σ H Q ⟨τ,G,Q3,RS,RG,h,k⟩=>k [] H [] G .nil (.refl H G) RG h
theorem Nv{tr:cJ}(ha:bP X a ta)(hr:jk X es tr)(hs:notStar a=true:=by rfl):jk X (a::es) (ο ta tr):=GV (je ha hr (bj hs)) fun σ H Q h=>by
 obtain⟨τ,G,Q3,RS,RG,h,k⟩:=h;refine⟨τ,G,_,RS,RG,h,fun v1 H1 d1 G1 h1 S1 R1 q1=>?_⟩;refine⟨τ,G1,_,RS.ext (S1.ext RG),R1,q1,fun vs H2 ds G2 h2 S2 R2 q2=>?_⟩;exact k _ H2 _ G2 (.cons (h1.ext (S2.ext R1)) h2) (S1.trans S2) R2 q2
def pY{α:Type}(P:Prop):List α->Nat->Prop
 |[],_=>P
 |_::_,0=>False
 |_::xs,n+1=>pY P xs n
theorem mV{α:Type}{P:Prop}:∀{xs:List α} {n:Nat},pY P xs n->xs.length≤n/\P
 |[],n,h=>⟨aK _,h⟩
 |_::_,0,h=>h.elim
 |_::xs,n+1,h=>by
  obtain⟨h1,h2⟩:=mV (xs:=xs) (n:=n) h;exact⟨Nat.succ_le_succ h1,h2⟩
theorem xx{n:Nat}(h:n≤64):n≤aj:=az h (by decide)
def i8(t:cJ):aD:=fun τ G Q=>t τ G fun ds G1=>pY (Q (.tup ds) G1) ds 64
def j3(t:cJ):aD:=fun τ G Q=>t τ G fun ds G1=>pY (∀p G2,dw G1 p (.lst ds) G2->Q (.obj p) G2) ds 64
theorem Pe{t:cJ}{x1}(h:jk X es t):bP X (.Tuple es x1 pos) (i8 t):=eD (LB h) fun σ H Q h=>by
 obtain⟨τ,G,Q3,RS,RG,h,k⟩:=h;refine⟨τ,G,_,RS,RG,h,fun vs H1 ds G1 h1 S1 R1 q1=>?_⟩;obtain⟨z,q1⟩:=mV q1;refine⟨by rw[←h1.length];exact xx z,fun p hp=>?_⟩;refine k _ _ (.tup ds) G1 ?_ (S1.trans (.laid hp)) (R1.laid hp) q1;unfold Hv;exact⟨p,vs,rfl,.of cm,h1.ext (.laid hp)⟩
theorem Pl{t:cJ}(h:jk X es t):bP X (.List es pos) (j3 t):=eD (Dg h) fun σ H Q h=>by
 obtain⟨τ,G,Q3,RS,RG,h,k⟩:=h;refine⟨τ,G,_,RS,RG,h,fun vs H1 ds G1 h1 S1 R1 q1=>?_⟩;obtain⟨z,q1⟩:=mV q1;refine⟨by rw[←h1.length];exact xx z,fun p hp=>?_⟩;exact k _ _ (.obj p) (dA G1 p (.lst ds)) (by simp[Hv]) (S1.trans (.g5 hp)) (R1.g5 hp ⟨vs,cm,h1.ext (.laid hp)⟩) (q1 p _ (.mk' (R1.free hp)))
end
end L3
namespace L2
open PySem PySem.Spec PyProof.Rows
def j5(env:gA):List (Δ×eI)->List (Δ×ε)->List (Δ×ε)
 |[],acc=>acc
 | (n,k)::r,acc=>j5 env r (if k=.free then (n,(env.cells.lookup n).getD 0)::acc else acc)
theorem m4{scope:fW}{env:gA}(h:∀y∈scope.names,y.2=.free->∃c,env.cells.lookup y.1=some c):closureFor scope env=pure (j5 env scope.names []):=by
 have key:∀(l:List (Δ×eI)) (acc:List (Δ×ε)),(∀y∈l,y.2=.free->∃c,env.cells.lookup y.1=some c) ->
   (forIn l acc fun (x:Δ×eI) (r:List (Δ×ε))=>(do
    if (x.2==cw)=true then do
     let a ←cellOf env x.1
     pure (fY ((x.1,a)::r))
    else pure (fY r):Sem (ForInStep (List (Δ×ε)))))=pure (j5 env l acc):=by
  intro l
  induction l with
  |nil=>intro acc _;rfl
  |cons y r ih=>
   intro acc hy;obtain⟨n,k⟩:=y;rw[List.forIn_cons];by_cases hk:k=.free
   ·obtain⟨c,hc⟩:=hy (n,k) χ hk;have e1:cellOf env n=pure c:=by unfold cellOf;rw[show env.cells.lookup n=some c from hc]
    subst hk;simp only[beq_self_eq_true,if_true,e1,pure_bind];rw[ih _ fun y hy'=>hy y (ω _ hy')];show _=pure (j5 env r (if cw=cw then (n,(env.cells.lookup n).getD 0)::acc else acc));rw[if_pos rfl,show env.cells.lookup n=some c from hc];rfl
   ·have hb:(k==cw)=false:=by simpa using hk
    simp only[hb,bI,if_false,pure_bind];rw[ih _ fun y hy'=>hy y (ω _ hy')];show _=pure (j5 env r (if k=cw then (n,(env.cells.lookup n).getD 0)::acc else acc));rw[if_neg hk]
 have:=key scope.names [] h;unfold closureFor
 first
  |exact (by simpa using this)
  | (simp only[bind_pure];exact this)
theorem rR{env:gA}{x:Δ}{c:ε}:∀(l:List (Δ×eI)) (acc:List (Δ×ε)),(j5 env l acc).lookup x=some c ->
  acc.lookup x=some c∨((x,cw)∈l/\c=(env.cells.lookup x).getD 0)
 |[],_,h=>.inl h
 | (n,k)::r,acc,h=>by
  rcases rR r _ h with q|⟨q1,q2⟩
  ·by_cases hk:k=.free
   ·rw[if_pos hk,fI] at q;by_cases hx:(x==n)=true
    ·rw[hx] at q;have hx':x=n:=by simpa using hx
     subst hx' hk;exact .inr ⟨χ,(ay q).symm⟩
    ·have hx2:(x==n)=false:=by simpa using hx
     rw[hx2] at q;exact .inl q
   ·rw[if_neg hk] at q;exact .inl q
  ·exact .inr ⟨ω _ q1,q2⟩
theorem vm{env:gA}{x:Δ}:∀(l:List (Δ×eI)) (acc:List (Δ×ε)),acc.lookup x=some ((env.cells.lookup x).getD 0)->(j5 env l acc).lookup x=some ((env.cells.lookup x).getD 0)
 |[],_,h=>h
 | (n,k)::r,acc,h=>by
  refine vm r _ ?_;by_cases hk:k=.free
  ·rw[if_pos hk,fI];by_cases hx:(x==n)=true
   ·rw[hx];have hx':x=n:=by simpa using hx
    rw[hx']
   ·have hx2:(x==n)=false:=by simpa using hx
    rw[hx2];exact h
  ·rw[if_neg hk];exact h
theorem xV{env:gA}{x:Δ}:∀(l:List (Δ×eI)) (acc:List (Δ×ε)),(x,cw)∈l->(j5 env l acc).lookup x=some ((env.cells.lookup x).getD 0)
 |[],_,h=>by cases h
 | (n,k)::r,acc,h=>by
  rcases aM.mp h with e|e
  ·cases e;refine vm r _ ?_;rw[if_pos rfl,fI,beq_self_eq_true]
  ·exact xV r _ e
structure dh(N:List Δ)(sc scope:fW)(own:List Δ)(js:List Nat):Prop where
 kind:scope.kind=.function
 Dx:∀y∈scope.names,y.2≠.cell
 names:∀y∈scope.names,y.2=.local->scope.names.lookup y.1=some .local
 free:∀y∈scope.names,y.2=.free->sc.names.lookup y.1=some .cell/\own.contains y.1=false
 only:∀y∈scope.names,y.2=.free->scope.names.lookup y.1=some .free
 js:∀j∈js,j<N.length/\(N.getD j gz,cw)∈scope.names
def QM(N own:List Δ)(js:List Nat):List Δ:=own++js.map fun j=>N.getD j gz
def rm(own:List Δ)(js:List Nat)(σ:St):St:=bo own.length none++js.map fun j=>(σ[j]?).getD none
def Cx.cmp(X:Cx)(scope:fW)(own:List Δ)(js:List Nat)(s:ζ)(H:Hp)(fp:List ε):Cx:=
 { X with N:=QM X.N own js,s₀:=s,H₀:=H,env:=compEnvC scope (j5 X.env scope.names []) s.heap.objs.size X.env,outer:=X.stack,ex:=fp,fn:=fun x=>own.contains x,pn:=[],xe:=fun _ _=>False }
theorem ix{sc:fW}{env:gA}{x:Δ}{k:eI}:∀(names:List (Δ×eI)),
  (names.map fun (n,k)=>if (k==cw&&env.scope.kind==.function&&env.kindOf n==some .cell) then (n,pE) else (n,k)).lookup x=some k ->
  (names.lookup x=some k/\(k≠.free∨k=.free))∨(k=.cell/\names.lookup x=some .free)
 |[],h=>by simp at h
 | (n,k')::r,h=>by
  have ih:=@ix sc env x k r;have h':List.lookup x ((if (k'==cw&&env.scope.kind==.function&&env.kindOf n==some .cell)=true then (n,pE) else (n,k'))::_)=some k:=h;rw[fI];by_cases hc:(k'==cw&&env.scope.kind==.function&&env.kindOf n==some .cell)=true
  ·rw[if_pos hc,fI] at h';cases hx:x==n with
   |true=>
    rw[hx] at h';have e:pE=k:=ay h';have hk':k'=.free:=by
     rw[cN,cN] at hc;simpa using hc.1.1
    exact .inr ⟨e.symm,by rw[hk']⟩
   |false=>
    rw[hx] at h';exact ih h'
  ·rw[if_neg hc,fI] at h';cases hx:x==n with
   |true=>
    rw[hx] at h';have e:k'=k:=ay h';subst e;exact .inl ⟨rfl,by by_cases z:k'=.free;exact .inr z;exact .inl z⟩
   |false=>
    rw[hx] at h';exact ih h'
theorem nu{x:Δ}{k:eI}{l:List (Δ×eI)}(h:l.lookup x=some k):(x,k)∈l:=eG h
section
variable {X:Cx} {pins:List (ε×aT)} {σ:St} {H:Hp} {s:ζ} {scope:fW} {own:List Δ} {js:List Nat} {fp:List ε}
theorem dh.cells(C:dh X.N X.env.scope scope own js)(ok:X.Ok):∀y∈scope.names,y.2=.free->∃c,X.env.cells.lookup y.1=some c:=fun y hy e=>
 ok.has y.1 (.inl (C.free y hy e).1)
theorem dh.rq(C:dh X.N X.env.scope scope own js)(ok:X.Ok){x:Δ}{c:ε}(h:(j5 X.env scope.names []).lookup x=some c):(x,cw)∈scope.names/\X.env.cells.lookup x=some c:=by
 rcases rR scope.names [] h with q|⟨q1,q2⟩
 ·cases q
 ·obtain⟨c',e⟩:=C.cells ok _ q1 rfl;refine⟨q1,?_⟩;rw[q2,show X.env.cells.lookup x=some c' from e];rfl
theorem dh.D1(C:dh X.N X.env.scope scope own js)(ok:X.Ok){x:Δ}(h:(x,cw)∈scope.names):∃c,(j5 X.env scope.names []).lookup x=some c/\X.env.cells.lookup x=some c:=by
 obtain⟨c,e⟩:=C.cells ok _ h rfl;refine⟨c,?_,e⟩;rw[xV scope.names [] h,show X.env.cells.lookup x=some c from e];rfl
theorem Inv.Pp(I:Inv X pins σ H s)(C:dh X.N X.env.scope scope own js)(hf:∀b∈fp,kS X pins H b/\b<s.heap.objs.size):(X.cmp scope own js s H fp).Ok where
 mod:=I.ok.mod
 kind:=C.kind
 glob:=I.ok.glob
 blt:=I.ok.blt
 above:=Θ _
 inj:=fun x y c h1 h2=>I.ok.inj x y c (C.rq I.ok h1).2 (C.rq I.ok h2).2
 has:=fun x h=>by
  have hfree:(x,cw)∈scope.names:=by
   rcases h with h|h
   ·rcases ix (sc:=scope) (env:=X.env) scope.names h with⟨q,_⟩|⟨_,q⟩
    ·exact absurd rfl (C.Dx _ (nu q))
    ·exact nu q
   ·rcases ix (sc:=scope) (env:=X.env) scope.names h with⟨q,_⟩|⟨q,_⟩
    ·exact nu q
    ·cases q
  obtain⟨c,e,_⟩:=C.D1 I.ok hfree;exact⟨c,e⟩
 zv:=fun x c h1 h2=>by
  have q:=(C.free _ (C.rq I.ok h2).1 rfl).2;have h1':own.contains x=true:=h1;rw[q] at h1';cases h1'
 hd:=I.ok.hd
 frames:=I.ok.frames
 Cz:=.inl rfl
 DV:=fun b hb=>⟨aQ (hf b hb).2,fun x c e=>(hf b hb).1.2.2.2.2.1 x c (C.rq I.ok e).2⟩
 bs:=I.bs
 t6:=az I.ok.t6 I.sz
 uC:=fun b o e hb=>by
  rcases (hf b hb).1.2.2.2.1 with z|z
  ·exact I.ok.uC b o e z
  ·exact absurd (bu (Ψ e) (az I.ok.t6 z)) (cv _)
 uK:=fun b hb z=>by
  rcases aM.mp (I.wz b z) with e|e
  ·exact (hf b hb).1.2.1 e
  ·exact (hf b hb).1.2.2.1 e
 kN:=I.stack
 xK:=I.yF
theorem xJ{N:List Δ}{js:List Nat}{i:Nat}{x:Δ}(h:(js.map fun j=>N.getD j gz)[i]?=some x):∃j,js[i]?=some j/\x=N.getD j gz:=by
 rw[ag] at h;cases e:js[i]? with
 |none=>rw[e] at h;cases h
 |some j=>rw[e] at h;exact⟨j,rfl,(ay h).symm⟩
theorem Inv.cmp(I:Inv X pins σ H s)(C:dh X.N X.env.scope scope own js)(hf:∀b∈fp,kS X pins H b/\b<s.heap.objs.size){h':ai}{tk:Nat}(hn:h'.Ns s.heap.objs.size fun _=>none)
  (kept:∀b o,s.heap.get? b=some o->h'.get? b=some o):Inv (X.cmp scope own js s H fp) [] (rm own js σ) H { s with heap:=h',toks:=tk }:=by
 have ok:=I.Pp C hf;refine⟨ok,rfl,I.bare,Un.kept kept,⟨_,hn,fun i x v h1 h2 h3=>?_⟩,fun x c e=>?_,I.bV.fresh (Θ _),fun x c e=>I.kg x c (C.rq I.ok e).2,fun p hp=>?_,I.bV.kept kept,?_⟩
 ·have h1':(own++js.map fun j=>X.N.getD j gz)[i]?=some x:=h1;have h2':(bo own.length none++js.map fun j=>(σ[j]?).getD none)[i]?=some (some v):=h2;by_cases hi:i<own.length
  ·rw[dU (by simpa using hi),mR,if_pos hi] at h2';cases h2'
  ·rw[dH (by lia)] at h1';rw[dH (by simp;lia),jo] at h2';obtain⟨j,hj,rfl⟩:=xJ h1';rw[ag,hj] at h2';have h2'':(σ[j]?).getD none=some v:=ay h2';have hσ:σ[j]?=some (some v):=by
    cases e:σ[j]? with
    |none=>rw[e] at h2'';cases h2''
    |some o=>
     rw[e] at h2'';have:o=some v:=h2'';rw[this]
   obtain⟨jl,jf⟩:=C.js j (aY hj);have hN:X.N[j]?=some (X.N.getD j gz):=by
    rw[kY,aU jl];rfl
   have hcell:=(C.free _ jf rfl).1;obtain⟨m,hm,hl⟩:=I.loc;obtain⟨u,ru,lk⟩:=hl j _ v hN hσ (.inr (.inl hcell));refine⟨u,ru,?_⟩;obtain⟨c,e1,e2⟩:=C.D1 I.ok jf;rcases lk with⟨z,_⟩|⟨_,c',z1,z2⟩
   ·have z':X.env.scope.names.lookup (X.N.getD j gz)=some .local:=z;rw[show X.env.scope.names.lookup (X.N.getD j gz)=some .cell from hcell] at z';cases z'
   ·rw[e2] at z1;cases z1;have ic:h'.IsCell c (some u):=by
     obtain⟨o,q1,q2⟩:=z2;exact⟨o,kept _ _ q1,q2⟩
    rcases h3 with h3|h3|h3
    ·exfalso;rcases ix (sc:=scope) (env:=X.env) scope.names h3 with⟨q,_⟩|⟨q,_⟩
     ·have z:=C.only _ jf rfl;rw[q] at z;cases z
     ·cases q
    ·exact .inr ⟨.inl h3,c,e1,ic⟩
    ·exact .inr ⟨.inr h3,c,e1,ic⟩
 ·obtain⟨v,o,q1,q2⟩:=I.cell x c (C.rq I.ok e).2;exact⟨v,o,kept _ _ q1,q2⟩
 ·exact absurd (show p∈([]:List (ε×aT)) from hp) (by simp)
 ·show (bo own.length none++js.map fun j=>(σ[j]?).getD none).length=(own++js.map fun j=>X.N.getD j gz).length;simp
theorem Inv.NO{σ':St}{H':Hp}{s':ζ}{pl:List (ε×aT)}(I:Inv X pins σ H s)(hf:∀b∈fp,kS X pins H b/\b<s.heap.objs.size)(J:Inv (X.cmp scope own js s H fp) pl σ' H' s'):Inv X pins σ H' s':=by
 refine I.Pq (ch:=fp) J.os J.base J.bV J.bare fun b hb=>?_;obtain⟨f0,f1,f2,f3,f4,f5⟩:=(hf b hb).1;exact⟨f3,f1,f4,f5⟩
theorem Inv.other{H':Hp}{s':ζ}{h':ai}{b:ε}(I0:Inv X pins σ H s)(I:Inv X pins σ H' s')(hb:s.heap.objs.size≤b)(hn:H' b=none)(sb:cQ b s'.heap h'):Inv X pins σ H' { s' with heap:=h' }:=by
 obtain⟨f0,f1,f2,f3,f4,f5⟩:=I0.sr hb hn;exact I.turned (t':=s'.toks) (fun c o hc e=>(sb.2 c hc).trans e) f0 f1 f3 f4 f5
end
def rT(X:Cx)(ifs:List ρ)(t:TT):Prop:=
 ∀(pins:List (ε×aT)) (s:ζ) (σ:St) (H:Hp) (Q:Bool->Hp->Prop),Inv X pins σ H s->t σ H Q ->
  π (model X.prog X.w) X.A (forIn ifs true fun c r=>if r=true then do let ok ←isTrue c X.env (eval c X.env);pure (fY ok) else pure (fY r)) (TP X pins σ Q) X.xe s
def ID:TT:=fun _ H Q=>Q true H
theorem Jo{X:Cx}:rT X [] ID:=fun _ _ _ H _ I h=>wpAny_tests_nil ⟨H,I,h⟩
theorem Jn{X:Cx}{c:ρ}{t:TT}(h:PT X c t):rT X [c] t:=fun pins s σ H Q I hq=>wpAny_tests_one (h pins s σ H Q I hq)
section
variable {prog:af} {w:ar} {A:bA} {R:Result->ζ->Prop} {s:ζ}
theorem uN{elt target iter:ρ}{ifs:List ρ}{scope:fW}{pos:aL}{it acc:δ}{env:gA}(I:Nat->ζ->Prop)
  (turn:∀n s,I n s->π (model prog w) A (pyNext it) (fun r s₁=>match r with
   |none=>R (.ok .next) s₁
   | some v=>π (model prog w) A (letOwnedTupleGo target it v) (fun _ s₁'=>π (model prog w) A (assign target env v) (fun _ s₂=>
     π (model prog w) A (forIn ifs true fun c r=>if r=true then do let ok ←isTrue c env (eval c env);pure (fY ok) else pure (fY r)) (fun ok s₃=>
      if ok=true then π (model prog w) A (eval elt env) (fun x s₄=>
       π (model prog w) A (call (.builtin "list.append") [acc,x]) (fun _ s₅=>∃m,m<n/\I m s₅) (fun _ _=>False) s₄) (fun _ _=>False) s₃
      else ∃m,m<n/\I m s₃) (fun _ _=>False) s₂) (fun _ _=>False) s₁') (fun _ _=>False) s₁) (fun _ _=>False) s)
  (n:Nat) (h:I n s):
  gw (model prog w) A (.compLoop (.ListComp elt [⟨target,iter,ifs,0⟩] scope pos) 0 it acc env) R s:=by
 refine codeAny_loop rfl I (fun n s hI=>?_) n h;show π _ A ((compTurn (.ListComp elt [⟨target,iter,ifs,0⟩] scope pos) 0 it acc env).onRaise (fun x=>do noteFrame x env;theTreesLotGoes x)) _ _ s
 refine wpAny_noted ?_;rw[compTurn_list];refine γ (kT (γ (ei (turn n s hI) (fun r s₁ h₁=>?_) fun _ _ h'=>h'.elim)));cases r with
 |none=>exact η h₁
 |some v=>
  refine γ (ei h₁ (fun _ s₁' h₁'=>?_) fun _ _ h'=>h'.elim);refine γ (ei h₁' (fun _ s₂ h₂=>γ (ei h₂ (fun ok s₃ h₃=>?_) fun _ _ h'=>h'.elim)) fun _ _ h'=>h'.elim);cases ok with
  |false=>exact η ⟨rfl,h₃⟩
  |true=>
   exact γ (γ (ei h₃ (fun x s₄ h₄=>γ (ei h₄ (fun _ s₅ h₅=>η (η ⟨rfl,h₅⟩)) fun _ _ h'=>h'.elim)) fun _ _ h'=>h'.elim))
end
def ND(own:List Δ)(js:List Nat)(g:TG)(tc:TT)(te:TE)(J:It)(σ:St)(H:Hp)(Q:VK):Prop:=
 ∀D,H D=none->∃W:Nat->Nat->List V->St->Hp->Prop,(∃m,W 0 m [] (rm own js σ) (upd H D (.lst [])))/\∀i m ys σ' H',W i m ys σ' H'->H' D=some (.lst ys) ∧
  ((J.stop i H'/\Q (.ref D) H')∨(J.go i H'/\ys.length<aj/\∀x H2,J.Gq i H' x H2->g x σ' H2 fun σ2 H3=>tc σ2 H3 fun b H4=>
   if b=true then te σ2 H4 fun v H5=>H5 D=some (.lst ys)/\∃m',m' < m/\W (i+1) m' (ys++[v]) σ2 (upd H5 D (.lst (ys++[v]))) else ∃m',m' < m/\W (i+1) m' ys σ2 H4))
def Ky(own:List Δ)(js:List Nat)(wi:TI)(g:TG)(tc:TT)(te:TE):TE:=fun σ H Q=>wi σ H fun J H1=>ND own js g tc te J σ H1 Q
section
variable {X:Cx} {tg iter elt:ρ} {ifs:List ρ} {scope:fW} {pos:aL} {own:List Δ} {js:List Nat} {g:TG} {tc:TT} {te:TE}
theorem t4{pins:List (ε×aT)}{σ:St}{H:Hp}{s:ζ}{Q:VK}{it:ε}{fp:List ε}{tn:Nat->ai->Prop}{J:It}{E:δ->ζ->Prop}{RR:δ->ε->Result->ζ->Prop}
  (hc:X.calm=true) (C:dh X.N X.env.scope scope own js)
  (hb:∀s H fp,PG (X.cmp scope own js s H fp) tg g/\rT (X.cmp scope own js s H fp) ifs tc/\PE (X.cmp scope own js s H fp) elt te)
  (I:Inv X pins σ H s) (T:Turn X.prog X.w X.K tg J fp it tn) (st:tn 0 s.heap) (hf:∀b∈fp,kS X pins H b) (rd:ND own js g tc te J σ H Q)
  (Ra:∀D N s' H',Inv X pins σ H' s'->Q (.ref D) H'->s.heap.objs.size≤N->H' N=none->(∃m,s'.heap.Ns N m)->RR (.ref D) N (.ok .next) s'):
  π (model X.prog X.w) X.A (newList []) (fun acc s₃=>π (model X.prog X.w) X.A (newFunctionEnv scope X.env.globals (j5 X.env scope.names []) [] X.env.qual none .none (some X.env)) (fun cenv s₄=>
   gw (model X.prog X.w) X.A (.compStart (.ListComp elt [⟨tg,iter,ifs,0⟩] scope pos) 0 (.ref it) acc { cenv with scope:=relabel scope X.env }) (RR acc cenv.locals) s₄) E s₃) E s:=by
 have hD:H s.heap.objs.size=none:=I.fresh;obtain⟨W,⟨m0,w0⟩,turn⟩:=rd s.heap.objs.size hD;refine b9 ?_;have hI3:Inv X pins σ (upd H s.heap.objs.size (.lst [])) { s with heap:=s.heap.push { cls:=.type "list",data:=.seq ([]:List δ).toArray }}:=
  I.Fl (t':=s.toks) (its:=[]) (ys:=[]) .nil (aK _)
 have hlt:∀b∈fp,b<s.heap.objs.size:=fun b hb=>by
  obtain⟨o,e,_⟩:=T.obj 0 _ st b hb;exact Ψ e
 have st3:tn 0 (s.heap.push { cls:=.type "list",data:=.seq ([]:List δ).toArray }):=T.keep 0 _ _ st fun b _ o e=>ξ _ e;generalize hs3:({ s with heap:=s.heap.push { cls:=.type "list",data:=.seq ([]:List δ).toArray }}:ζ)=s3 at hI3 ⊢;have hsz3:s3.heap.objs.size=s.heap.objs.size+1:=by rw[←hs3];exact kd ..
 have st3':tn 0 s3.heap:=by rw[←hs3];exact st3
 have hf3:∀b∈fp,kS X pins (upd H s.heap.objs.size (.lst [])) b/\b<s3.heap.objs.size:=fun b hb=>by
  obtain⟨f0,f1⟩:=hf b hb;refine⟨⟨?_,f1⟩,by rw[hsz3];exact dC (hlt b hb)⟩;rw[bG (aQ (hlt b hb))];exact f0
 refine wpAny_newFunctionEnv C.Dx (by intro y hy;simp at hy) (fun h₁ hns₁ hsb₁=>?_) C.kind;have kept1:∀b o,s3.heap.get? b=some o->h₁.get? b=some o:=fun b o e=>(hsb₁.2 b (aQ (Ψ e))).trans (ξ _ e);have I4:Inv (X.cmp scope own js s3 (upd H s.heap.objs.size (.lst [])) fp) [] (rm own js σ) (upd H s.heap.objs.size (.lst [])) { s3 with heap:=h₁,toks:=s3.toks+([]:List (Δ×δ)).length }:=
  hI3.cmp C hf3 hns₁ kept1
 have st4:tn 0 h₁:=T.keep 0 _ _ st3' fun b _ o e=>kept1 b o e;obtain⟨hg,ht,he⟩:=hb s3 (upd H s.heap.objs.size (.lst [])) fp
 -- the iterator's objects in the block's context
 have stat:∀{H':Hp},(∀b∈fp,H' b=none)->∀b∈fp,kS (X.cmp scope own js s3 (upd H s.heap.objs.size (.lst [])) fp) [] H' b:=fun {H'} hn b hb=>by
  have q:=I4.ok;exact⟨hn b hb,(q.DV b hb).1,q.uK b hb,.inl hb,(q.DV b hb).2,fun p hp=>absurd (show p∈([]:List (ε×aT)) from hp) (by simp)⟩
 have loop:gw (model X.prog X.w) X.A (.compLoop (.ListComp elt [⟨tg,iter,ifs,0⟩] scope pos) 0 (.ref it) (.ref s.heap.objs.size) (compEnvC scope (j5 X.env scope.names []) s3.heap.objs.size X.env))
   (RR (.ref s.heap.objs.size) s3.heap.objs.size) { s3 with heap:=h₁,toks:=s3.toks+([]:List (Δ×δ)).length }:=by
  refine uN (fun n s'=>∃i ys σ' H',Inv (X.cmp scope own js s3 (upd H s.heap.objs.size (.lst [])) fp) [] σ' H' s'/\tn i s'.heap/\(∀b∈fp,H' b=none)/\W i n ys σ' H') ?_ m0
   ⟨0,[],_,_,I4,st4,fun b hb=>(hf3 b hb).1.1,w0⟩
  rintro n s5 ⟨i,ys,σ5,H5,I5,st5,fr5,w5⟩;obtain⟨hacc,hcase⟩:=turn i n ys σ5 H5 w5;rcases hcase with⟨stop,qn⟩|⟨go,hys,step⟩
  ·refine bK (T.done (X.cmp scope own js s3 (upd H s.heap.objs.size (.lst [])) fp) rfl rfl rfl hc i [] s5 σ5 H5 (fun _ _=>False) I5 (stat fr5) st5 stop) fun r s6 ⟨hr,I6⟩=>?_;subst hr;have I7:=hI3.NO hf3 I6;obtain⟨m,hm,_⟩:=I6.loc;exact Ra _ _ _ _ I7 qn (by rw[hsz3];exact Nat.le_succ _) I6.free ⟨m,hm⟩
  ·refine bK (T.item (X.cmp scope own js s3 (upd H s.heap.objs.size (.lst [])) fp) rfl rfl rfl hc i [] s5 σ5 H5 (fun _ _=>False) I5 (stat fr5) st5 go) fun r s6 ⟨u,hr,h6⟩=>?_;subst hr;refine bK h6 fun _ s7 ⟨x,H7,I7,r7,y7,st7,fr7⟩=>?_;have I7':=I7.pinned (stat fr7) (T.obj _ _ st7);refine bK (hg _ s7 σ5 H7 x u _ I7' r7 (step x H7 y7)) fun _ s8 ⟨σ8,H8,I8,q8⟩=>?_;refine bK (ht _ s8 σ8 H8 _ I8 q8) fun ok s9 ⟨H9,I9,q9⟩=>?_;have back:∀{σ':St} {H':Hp} {s':ζ} {ys':List V},Inv (X.cmp scope own js s3 (upd H s.heap.objs.size (.lst [])) fp) ([]++qb fp s7.heap) σ' H' s'->(∃m',m' < n/\W (i+1) m' ys' σ' H') ->
     ∃m',m' < n/\∃i ys σ' H',Inv (X.cmp scope own js s3 (upd H s.heap.objs.size (.lst [])) fp) [] σ' H' s'/\tn i s'.heap/\(∀b∈fp,H' b=none)/\W i m' ys σ' H':=fun {σ' H' s' ys'} I' ⟨m',hm,w'⟩=>by
    refine⟨m',hm,i+1,ys',σ',H',I'.oC,T.keep _ _ _ st7 fun b hb o e=>(I'.pin (b,o) (aC _ (aC _ (lF hb e)))).1,fun b hb=>?_,w'⟩;obtain⟨o,e,d⟩:=T.obj _ _ st7 b hb;exact (I'.pin (b,o) (aC _ (aC _ (lF hb e)))).2.1
   cases ok with
   |false=>
    rw[if_neg Ω] at q9 ⊢;exact back I9 q9
   |true=>
    rw[if_pos rfl] at q9 ⊢;refine bK (he _ s9 σ8 H9 _ I9 q9) fun xv s10 ⟨v,H10,I10,r10,hD10,q10⟩=>?_;refine bK (ve (X:=X.cmp scope own js s3 (upd H s.heap.objs.size (.lst [])) fp) _ s10 σ8 H10 (.ref s.heap.objs.size) [v] (.ref s.heap.objs.size) [xv] (fun _ H'=>H'=upd H10 s.heap.objs.size (.lst (ys++[v]))) I10 rfl (.cons r10 .nil)
     ⟨_,ys,v,rfl,rfl,hD10,hys,rfl⟩) fun _ s11 ⟨_,H11,I11,_,e11⟩=>?_
    subst e11;exact back I11 q10
 exact codeAny_compStart_list loop (T.self _ 0 _ _ _ st4 loop)
theorem Jj{wi:TI}(hc:X.calm=true)(C:dh X.N X.env.scope scope own js)(hi:PI X tg iter wi)
  (hb:∀s H fp,PG (X.cmp scope own js s H fp) tg g/\rT (X.cmp scope own js s H fp) ifs tc/\PE (X.cmp scope own js s H fp) elt te)
  (hs:∀x,foldedSetIterable iter X.env x=pure x:=by intro _;rfl):PE X (.ListComp elt [⟨tg,iter,ifs,0⟩] scope pos) (Ky own js wi g tc te):=by
 intro pins s σ H Q I h;rw[eval_ListComp];refine mr (use:=none) rfl hs (m4 (C.cells I.ok)) C.kind C.names (bK (hi pins s σ H _ I h) fun xv s₁ h₁=>bK h₁ fun itv s₂ h₂=>?_);obtain⟨it,fp,tn,J,H2,e,I2,T,st2,f2,rd⟩:=h₂;subst e;refine t4 (RR:=fun acc C'=>compPost (model X.prog X.w) X.A X.xe none (EP X pins σ Q) acc C') hc C hb I2 T st2 f2 rd fun D N s' H' I' q hN hHN ⟨m,hm⟩=>?_;exact⟨m,hm,fun h' sb=>⟨.ref D,H',I2.other I' hN hHN sb,rfl,q⟩⟩
theorem Am{wi:TI}{i:Nat}{y:Δ}{py spos:aL}(hc:X.calm=true)(hN:X.N.Nodup)(hy:X.N[i]?=some y)(hyl:X.env.scope.names.lookup y=some .local)(C:dh X.N X.env.scope scope own js)(hi:PI X tg iter wi)
  (hb:∀s H fp,PG (X.cmp scope own js s H fp) tg g/\rT (X.cmp scope own js s H fp) ifs tc/\PE (X.cmp scope own js s H fp) elt te)
  (DS:swapsWith (.ListComp elt [⟨tg,iter,ifs,0⟩] scope pos) (some (.Name y py)) spos.line X.env=pure true:=by rfl)
  (hs:∀x,foldedSetIterable iter X.env x=pure x:=by intro _;rfl):PS X (.Assign [.Name y py] (.ListComp elt [⟨tg,iter,ifs,0⟩] scope pos) spos) (EL (Ky own js wi g tc te) (AS i)):=by
 intro pins s σ H D I h;rw[exec_Assign_Name_used _ _ _ _ DS];refine γ (kT (γ ?_));show π _ X.A (do let _ ←comprehension (.ListComp elt [⟨tg,iter,ifs,0⟩] scope pos) scope X.env _ (newList []) false (eval iter X.env) (some (assign (.Name y py) X.env))) _ _ s;refine γ (ei (mr (use:=some (assign (.Name y py) X.env)) (Q:=fun _ s'=>SP X pins D .next s') rfl hs (m4 (C.cells I.ok)) C.kind C.names
  (bK (hi pins s σ H _ I h) fun xv s₁ h₁=>bK h₁ fun itv s₂ h₂=>?_)) (fun _ s' hq=>η (η hq)) fun _ _ e=>e)
 obtain⟨it,fp,tn,J,H2,e,I2,T,st2,f2,rd⟩:=h₂;subst e;refine t4 (RR:=fun acc C'=>compPost (model X.prog X.w) X.A X.xe (some (assign (.Name y py) X.env)) (fun _ s'=>SP X pins D .next s') acc C') hc C hb I2 T st2 f2 rd fun L N s' H' I' q hN' hHN ⟨m,hm⟩=>?_
 show π _ _ (assign (.Name y py) X.env (.ref L)) _ _ _;refine wpAny_assign_Name (u5 I' hN hy (.inl hyl) (v:=.ref L) rfl (fun s'' I'' ⟨a,sb,ha⟩=>?_) (.inr hyl));have hNa:N≠a:=by
  obtain⟨f0,f1,f2,f3,f4,f5⟩:=I2.sr hN' hHN;rcases ha with rfl|ha
  ·exact f1
  ·exact eW (f4 _ _ ha)
 refine⟨m,hm.sameBut sb hNa,fun h'' sb''=>?_⟩;refine⟨σ.set i (some (.ref L)),H',?_,q⟩;obtain⟨f0,f1,f2,f3,f4,f5⟩:=I2.sr hN' hHN;exact I''.turned (t':=s''.toks) (fun c o hc e=>(sb''.2 c hc).trans e) f0 f1 f3 f4 f5
end
end L2
namespace L3
open PySem PySem.Spec PyProof.Rows L2
section
variable {X:Cx} {st:aX} {rest:List aX} {t u:aE} {e c:ρ} {te:aD} {tc:cu} {pos:aL}
def fL:aE:=fun D τ G=>D.nx τ G
def bJ(t u:aE):aE:=fun D τ G=>t { D with nx:=u D } τ G
theorem N5:nz X [] fL:=C5 IZ fun D σ H ⟨τ,G,D3,RS,RG,h,k⟩=>k.nx τ σ G H RS (.refl H G) RG h
theorem KR(h1:m5 X st t)(h2:nz X rest u):nz X (st::rest) (bJ t u):=C5 (E9 h1 h2) fun D σ H ⟨τ,G,D3,RS,RG,h,k⟩=>
 ⟨τ,G,{ D3 with nx:=u D3 },RS,RG,h,⟨fun τ' σ' G' H' a b c q=>⟨τ',G',D3,a,c,q,k.step b⟩,k.bk,k.ct,k.rt⟩⟩
theorem N4(h1:m5 X st t):nz X [st] t:=IY h1
def qQ(te:aD):aE:=fun D τ G=>te τ G fun _ G1=>D.nx τ G1
theorem KQ(he:bP X e te)(hs:swapsWith e none pos.line X.env=pure false:=by rfl):m5 X (.Expr e pos) (qQ te):=jz (Ja he hs) fun D σ H ⟨τ,G,D3,RS,RG,h,k⟩=>
 ⟨τ,G,_,RS,RG,h,fun v H1 d G1 h1 S1 R1 q1=>k.nx τ σ G1 H1 (RS.ext (S1.ext RG)) S1 R1 q1⟩
def cn(te:aD):aE:=fun D τ G=>te τ G D.rt
theorem N1(he:bP X e te):m5 X (.Return (some e) pos) (cn te):=jz (Lv he) fun D σ H ⟨τ,G,D3,RS,RG,h,k⟩=>
 ⟨τ,G,D3.rt,RS,RG,h,fun v H1 d G1 h1 S1 R1 q1=>k.rt d v G1 H1 h1 S1 R1 q1⟩
def jb(c:cu)(t u:aE):aE:=fun D τ G=>c τ G fun b G1=>Br b (t D τ G1) (u D τ G1)
theorem P4{a b:List aX}(hc:oh X c tc)(ha:nz X a t)(hb:nz X b u):m5 X (.If c a b pos) (jb tc t u):=jz (Ol hc ha hb) fun D σ H ⟨τ,G,D3,RS,RG,h,k⟩=>
 ⟨τ,G,_,RS,RG,h,fun b H1 G1 S1 R1 q1=>Br.ite q1 (fun q=>⟨τ,G1,D3,RS.ext (S1.ext RG),R1,q,k.step S1⟩) fun q=>⟨τ,G1,D3,RS.ext (S1.ext RG),R1,q,k.step S1⟩⟩
def wW:aE:=fun _ _ _=>False
theorem IK:m5 X st wW:=jz Fc fun D σ H ⟨τ,G,D3,RS,RG,h,k⟩=>h
end
abbrev gs:=D->S3->Gp->(S3->Gp->Prop)->Prop
abbrev mo:=List D->S3->Gp->(S3->Gp->Prop)->Prop
def lowG(K:ι)(t:gs):TG:=fun v σ H Q=>∃d τ G Q3,Hv K H d v/\dY K τ σ H/\bf K G H/\t d τ G Q3/\∀τ' σ' G' H',dY K τ' σ' H'->Step H G H' G'->bf K G' H'->Q3 τ' G'->Q σ' H'
def OX(K:ι)(t:mo):ua:=fun vs σ H Q=>∃ds τ G Q3,aF K H ds vs/\dY K τ σ H/\bf K G H/\t ds τ G Q3/\∀τ' σ' G' H',dY K τ' σ' H'->Step H G H' G'->bf K G' H'->Q3 τ' G'->Q σ' H'
abbrev rS(X:Cx)(tg:ρ)(t:gs):Prop:=PG X tg (lowG X.K t)
abbrev yl(X:Cx)(tgs:List ρ)(t:mo):Prop:=ym X tgs (OX X.K t)
section
variable {X:Cx} {pos:aL} {e:ρ} {es:List ρ}
theorem vR{t t':TG}(h:PG X e t)(f:∀v σ H Q,t' v σ H Q->t v σ H Q):PG X e t':=fun pins s σ H v u Q I r q=>h pins s σ H v u Q I r (f v σ H Q q)
theorem Dd{t t':ua}(h:ym X es t)(f:∀v σ H Q,t' v σ H Q->t v σ H Q):ym X es t':=fun pins s σ H v u Q I r q=>h pins s σ H v u Q I r (f v σ H Q q)
def hName(i:Nat):gs:=fun d τ G Q=>Q (jy τ i d) G
theorem MX{i:Nat}{x:Δ}(hN:X.N.Nodup)(hi:X.N[i]?=some x:=by rfl)(hx:Loc X.env.scope x:=by first|exact qD rfl|exact ox rfl)(hf:X.fn x=true∨X.env.scope.names.lookup x=some .local:=by first|exact .inl rfl|exact .inr rfl|assumption):rS X (.Name x pos) (hName i):=
 vR (Jg hN hi hx hf) fun v σ H Q ⟨d,τ,G,Q3,hd,RS,RG,h,k⟩=>k _ _ G H (RS.set hd) (.refl H G) RG h
def oW:mo:=fun ds τ G Q=>match ds with
 |[]=>Q τ G
 |_::_=>False
def gj(t:gs)(u:mo):mo:=fun ds τ G Q=>match ds with
 |[]=>False
 |d::r=>t d τ G fun τ' G'=>u r τ' G' Q
theorem MW:yl X [] oW:=Dd Jf fun vs σ H Q ⟨ds,τ,G,Q3,hd,RS,RG,h,k⟩=>by
 cases ds with
 |nil=>exact⟨hd.gD,k _ _ G H RS (.refl H G) RG h⟩
 |cons d r=>exact h.elim
theorem J5{t:gs}{u:mo}(h1:rS X e t)(h2:yl X es u)(hs:(assignEach (e::es) X.env).map (·.2)=assign e X.env::(assignEach es X.env).map (·.2):=by rfl):yl X (e::es) (gj t u):=
 Dd (Fe h1 h2 hs) fun vs σ H Q ⟨ds,τ,G,Q3,hd,RS,RG,h,k⟩=>by
  cases ds with
  |nil=>exact h.elim
  |cons d r=>
   obtain⟨v,vr,rfl,q1,q2⟩:=hd.inv;refine⟨v,vr,rfl,d,τ,G,_,q1,RS,RG,h,fun τ' σ' G' H' a b c q=>?_⟩;exact⟨r,τ',G',Q3,q2.ext (b.ext RG),a,c,q,fun τ2 σ2 G2 H2 a2 b2 c2=>k τ2 σ2 G2 H2 a2 (b.trans b2) c2⟩
def oV(n:Nat)(t:mo):gs:=fun d τ G Q=>match d with
 |.tup ds=>ds.length=n/\t ds τ G Q
 |_=>False
theorem O6{k:Nat}{t:mo}{n:Nat}(hc:X.calm=true)(h:yl X es t)(hn:(assignEach es X.env).length=n:=by rfl)(hst:(assignEach es X.env).findIdx? (·.1)=none:=by rfl):rS X (.Tuple es k pos) (oV n t):=
 vR (Lz hc h hn hst) fun v σ H Q ⟨d,τ,G,Q3,hd,RS,RG,h,k⟩=>by
  cases d with
  |tup ds=>
   unfold Hv at hd;obtain⟨a,vs,e1,e2,e3⟩:=hd;exact⟨a,vs,e1,e2,by rw[←e3.length];exact h.1,ds,τ,G,Q3,e3,RS,RG,h.2,k⟩
  |_=>exact h.elim
def cx(te:aD)(g:gs):aE:=fun D τ G=>te τ G fun x G1=>g x τ G1 D.nx
theorem N7{tg:ρ}{te:aD}{g:gs}(he:bP X e te)(hg:rS X tg g)(hs:swapsWithSole [tg] e pos.line X.env=pure false:=by rfl)(hw:swappedStores [tg] e X.env=pure none:=by rfl)
  (h1:(assignEach [tg] X.env).map (·.2)=[assign tg X.env]:=by rfl):m5 X (.Assign [tg] e pos) (cx te g):=jz (Ly he hg hs hw h1) fun D σ H ⟨τ,G,D3,RS,RG,h,k⟩=>
 ⟨τ,G,_,RS,RG,h,fun v H1 d G1 h1 S1 R1 q1=>⟨d,τ,G1,D3.nx,h1,RS.ext (S1.ext RG),R1,q1,fun τ' σ' G' H' a b c q=>k.nx τ' σ' G' H' a (S1.trans b) c q⟩⟩
theorem N0{i:Nat}{x:Δ}{te:aD}{pos':aL}(hN:X.N.Nodup)(he:bP X e te)(hi:X.N[i]?=some x:=by rfl)(hx:Loc X.env.scope x:=by first|exact qD rfl|exact ox rfl)(hs:swapsWith e (some (.Name x pos')) pos.line X.env=pure false:=by rfl)
  (hf:X.fn x=true∨X.env.scope.names.lookup x=some .local:=by first|exact .inl rfl|exact .inr rfl|assumption):m5 X (.Assign [.Name x pos'] e pos) (cx te (hName i)):=jz (Lu hN hi hx he hs hf) fun D σ H ⟨τ,G,D3,RS,RG,h,k⟩=>
 ⟨τ,G,_,RS,RG,h,fun v H1 d G1 h1 S1 R1 q1=>k.nx _ _ G1 H1 ((RS.ext (S1.ext RG)).set h1) S1 R1 q1⟩
def ER(i j:Nat)(ta:cJ):aE:=fun D τ G=>ta τ G fun ds G1=>match ds with
 |[a,b]=>D.nx (jy (jy τ i a) j b) G1
 |_=>False
theorem N3{i j:Nat}{st:aX}{ta:cJ}(h:PS X st (Kw i j (oP X.K ta))):m5 X st (ER i j ta):=jz h fun D σ H ⟨τ,G,D3,RS,RG,h,k⟩=>
 ⟨τ,G,_,RS,RG,h,fun vs H1 ds G1 h1 S1 R1 q1=>by
  match ds,h1,q1 with
  |[a,b],h1,q1=>
   obtain⟨v,r,rfl,z1,z2⟩:=h1.inv;obtain⟨w,r2,rfl,z3,z4⟩:=z2.inv;cases z4.gD;exact⟨v,w,rfl,k.nx _ _ G1 H1 (((RS.ext (S1.ext RG)).set z1).set z3) S1 R1 q1⟩
  |[],_,q1=>exact q1.elim
  |[_],_,q1=>exact q1.elim
  |_::_::_::_,_,q1=>exact q1.elim⟩
def Ae:D->D->D->Gp->(Gp->Prop)->Prop:=fun o i v G Q=>match o,i with
 |.obj p,.int k=>∃ds j,G p=some (.lst ds)/\qi ds.length k=some j/\Q (dA G p (.lst (ds.set j v)))
 |_,_=>False
def hSub(to ti:aD):gs:=fun v τ G Q=>to τ G fun o G1=>ti τ G1 fun i G2=>Ae o i v G2 fun G3=>Q τ G3
theorem ze{K:ι}{o i v:D}{vo vi vv:V}{G:Gp}{H:Hp}{Q3:Gp->Prop}{Q:Hp->Prop}(ho:Hv K H o vo)(hi:Hv K H i vi)(hv:Hv K H v vv)(RG:bf K G H)(h:Ae o i v G Q3)
  (k:∀H' G',Step H G H' G'->bf K G' H'->Q3 G'->Q H'):GL vo vi vv H Q:=by
 match o,i,ho,hi,h with
 |.obj p,.int j,ho,hi,h=>
  unfold Hv at ho hi;obtain⟨ds,n,e1,e2,q⟩:=h;obtain⟨vs,e3,e4⟩:=RG p _ e1;refine⟨p,vs,j,n,ho,hi,e3,by rw[←e4.length];exact e2,k _ _ (Step.wrote (g:=.lst (ds.set n v)) e1) (RG.wrote e3 ⟨_,cm,?_⟩) q⟩;exact (e4.ext (Ext.wrote e3)).set n (hv.ext (Ext.wrote e3))
 |.obj _,.aq,_,_,h=>exact h.elim
 |.obj _,.bl _,_,_,h=>exact h.elim
 |.obj _,.str _,_,_,h=>exact h.elim
 |.obj _,.tup _,_,_,h=>exact h.elim
 |.obj _,.fz _,_,_,h=>exact h.elim
 |.obj _,.obj _,_,_,h=>exact h.elim
 |.obj _,.dc _,_,_,h=>exact h.elim
 |.dc _,_,_,_,h=>exact h.elim
 |.aq,_,_,_,h=>exact h.elim
 |.bl _,_,_,_,h=>exact h.elim
 |.int _,_,_,_,h=>exact h.elim
 |.str _,_,_,_,h=>exact h.elim
 |.tup _,_,_,_,h=>exact h.elim
 |.fz _,_,_,_,h=>exact h.elim
theorem O7{o i:ρ}{to ti:aD}(ho:bP X o to)(hi:bP X i ti)
  (ha:∀v,assign (.Subscript o i pos) X.env v=(do
   let ov ←holding [v] (eval o X.env)
   let iv ←holding [v,ov] (eval i X.env)
   standAt pos
   holding [v,ov,iv] (setItem ov iv v)
   release [v,ov,iv] []):=by intro _;rfl):rS X (.Subscript o i pos) (hSub to ti):=vR (De ho hi set_list ha) fun v σ H Q ⟨d,τ,G,Q3,hd,RS,RG,h,k⟩=>
 ⟨τ,G,_,RS,RG,h,fun v1 H1 d1 G1 h1 S1 R1 q1=>⟨τ,G1,_,RS.ext (S1.ext RG),R1,q1,fun v2 H2 d2 G2 h2 S2 R2 q2=>
  ze (h1.ext (S2.ext R1)) h2 ((hd.ext (S1.ext RG)).ext (S2.ext R1)) R2 q2 fun H' G' y1 y2 y3=>k _ _ G' H' (((RS.ext (S1.ext RG)).ext (S2.ext R1)).ext (y1.ext R2)) ((S1.trans S2).trans y1) y2 y3⟩⟩
def zY(to ti te:aD)(f:Int->Int->Int):aE:=fun D τ G=>to τ G fun o G1=>ti τ G1 fun i G2=>match o,i with
 |.obj p,.int k=>∃ds x,G2 p=some (.lst ds)/\iM ds k=some (.int x)/\te τ G2 fun y G3=>match y with
  |.int y=>Ae o i (.int (f x y)) G3 fun G4=>D.nx τ G4
  |_=>False
 |_,_=>False
def p7(c:cu)(tb:aE):aE:=fun D τ G=>∃W:Nat->S3->Gp->Prop,(∃m,W m τ G)/\∀m τ G,W m τ G ->
 c τ G fun b G1=>Br b (tb { D with nx:=fun τ' G'=>∃m',m' < m/\W m' τ' G',ct:=fun τ' G'=>∃m',m' < m/\W m' τ' G',bk:=D.nx } τ G1) (D.nx τ G1)
theorem IJ{c:ρ}{body:List aX}{tc:cu}{tb:aE}(hp:kG (model X.prog X.w) X.A X.env X.xe)(hc:oh X c tc)(hb:nz X body tb):m5 X (.While c body [] pos) (p7 tc tb):=
 jz (Fb hp hc hb) fun D σ H ⟨τ,G,D3,RS,RG,⟨W,⟨m0,w0⟩,turn⟩,k⟩=>by
  refine⟨fun m σ' H'=>∃τ' G',W m τ' G'/\dY X.K τ' σ' H'/\bf X.K G' H'/\Step H G H' G',⟨m0,τ,G,w0,RS,RG,.refl H G⟩,fun m σ1 H1 ⟨τ1,G1,w1,RS1,RG1,S1⟩=>?_⟩;refine⟨τ1,G1,_,RS1,RG1,turn m τ1 G1 w1,fun b H2 G2 S2 R2 q2=>Br.ite q2 (fun q=>?_) fun q=>k.nx _ _ G2 H2 (RS1.ext (S2.ext RG1)) (S1.trans S2) R2 q⟩;refine⟨fun σ' H'=>∃τ' G',(∃m',m' < m/\W m' τ' G')/\dY X.K τ' σ' H'/\bf X.K G' H'/\Step H G H' G',fun σ' H' ⟨τ',G',⟨m',hm,w'⟩,a,b,c⟩=>⟨m',hm,τ',G',w',a,b,c⟩,?_⟩;refine⟨τ1,G2,_,RS1.ext (S2.ext RG1),R2,q,⟨?_,?_,?_,?_⟩⟩
  ·exact fun τ' σ' G' H' a b c q=>⟨τ',G',q,a,c,(S1.trans S2).trans b⟩
  ·exact fun τ' σ' G' H' a b c q=>k.nx τ' σ' G' H' a ((S1.trans S2).trans b) c q
  ·exact fun τ' σ' G' H' a b c q=>⟨τ',G',q,a,c,(S1.trans S2).trans b⟩
  ·exact fun d v G' H' a b c q=>k.rt d v G' H' a ((S1.trans S2).trans b) c q
end
abbrev dG:=List D->Gp->V3->Prop
def lG(K:ι)(sp:dG):Sp:=fun vs H Q _=>∃ds G Q3,aF K H ds vs/\bf K G H/\sp ds G Q3/\∀v H' d G',Hv K H' d v->Step H G H' G'->bf K G' H'->Q3 d G'->Q v H'
abbrev ck(P:af)(w:ar)(K:ι)(mg:Δ->Option δ)(base:ai)(k:Nat)(f:ε)(fd:aG)(ps:List Δ)(sp:dG):Prop:=iF P w K mg base vD k f fd ps (lG K sp)
def aV(sp:dG)(t:cJ):aD:=fun τ G Q=>t τ G fun ds G1=>sp ds G1 Q
section
variable {X:Cx} {k:Nat} {f:ε} {fd:aG} {ps:List Δ} {sp:dG} {x:Δ} {p pos:aL} {e:ρ} {es:List ρ} {t:cJ}
theorem Fk{K:ι}{σ:L2.St}{H:Hp}{Q:VK}{E:XK}(h:low K (aV sp t) σ H Q):GF (lG K sp) [] E (oP K t) σ H Q:=by
 obtain⟨τ,G,Q3,RS,RG,h,k⟩:=h;refine⟨τ,G,_,RS,RG,h,fun vs H1 ds G1 h1 S1 R1 q1=>?_⟩;refine⟨ds,G1,Q3,by rw[cI];exact h1,R1,q1,fun v H' d G' z1 z2 z3 z4=>k v H' d G' z1 (S1.trans z2) z3 z4⟩
theorem Ng(F:ck X.prog X.w X.K X.mg X.base k f fd ps sp)(hr:fD k X.A)(hm:X.mg x=some (.ref f))(hk:gx X.K (.ref f)=true)(hb:Binds X.K fd ps [])(ha:jk X (e::es) t)(hg:Gl X x:=by rfl)
  (hdb:(x==("__debug__":Δ))=false:=by decide) (he:notStar e=true:=by rfl) (hpl:es.all notStar=true:=by rfl):
  bP X (.Call (.Name x p) (e::es) [] pos) (aV sp t):=eD (Jl (E:=E0) F hr hg hm hk hb .nil Ou ha hdb (bj he) (cW hpl)) fun σ H Q h=>Fk h
end
section
variable {P:af} {w:ar} {K:ι} {mg:Δ->Option δ} {base:ai}
def aN(Q:V3):jH:={ nx:=fun _ G'=>∃G0,Sub G0 G'/\Q .aq G0,rt:=fun d G'=>∃G0,Sub G0 G'/\Q d G0 }
theorem Ry{x qual:Δ}{st:aX}{f:ε}{fd:aG}{N ps:List Δ}{k:Nat}{sp:dG}(F:ez K x qual st f fd)(S:bD N ps (ah st))(hN:ps.length≤N.length)(len:∀ds G Q,sp ds G Q->ds.length=ps.length)(tb:aE)
  (oU:∀(cdv:δ) (A:bA) (outer:List gA) (s:ζ) (H:Hp) (E:XK),fD k (A.deeper (envOfC qual (ah st) s.heap.objs.size f cdv)) ->
   nz (qt vD P w K mg base N qual (ah st) f cdv A outer s H E).yX (jh st) tb)
  (Hs:∀ds G Q,sp ds G Q->tb (aN Q) (bh N ds) G):ck P w K mg base (k+1) f fd ps sp:=by
 refine F.ok S (fun vs H Q E h=>?_) (fun cdv A outer s H vs Q E hr h=>?_)
 ·obtain⟨ds,G,Q3,h1,h2,h3,h4⟩:=h;rw[←h1.length];exact len _ _ _ h3
 ·obtain⟨ds,G,Q3,h1,h2,h3,h4⟩:=h;refine⟨_,oU cdv A outer s H E hr,bh N ds,G,aN Q3,.start h1 ?_,h2,Hs _ _ _ h3,⟨?_,?_,?_,?_⟩⟩
  ·rw[←h1.length,len _ _ _ h3];exact hN
  ·exact fun τ σ G' H' a b c ⟨G0,s0,q⟩=>h4 _ H' .aq G0 (by simp[Hv]) (b.trans (.sub s0)) (c.sub s0) q
  ·exact fun τ σ G' H' a b c q=>q.elim
  ·exact fun τ σ G' H' a b c q=>q.elim
  ·exact fun d v G' H' a b c ⟨G0,s0,q⟩=>h4 _ H' d G0 a (b.trans (.sub s0)) (c.sub s0) q
end
end L3
namespace L3
open PySem PySem.Spec PyProof.Rows L2
structure Src where
 items:List D
 guard:Gp->Prop
structure BF(K:ι)(H0:Hp)(J:It)(S:Src):Prop where
 go:∀(i:Nat) d H G,Ext H0 H->bf K G H->S.guard G->S.items[i]?=some d->J.go i H/\∀x H',J.Gq i H x H'->Hv K H' d x/\Step H G H' G/\bf K G H'
 stop:∀(i:Nat) H G,Ext H0 H->bf K G H->S.guard G->S.items.length≤i->J.stop i H
abbrev mn:=S3->Gp->(Src->Gp->Prop)->Prop
def Ms(K:ι)(ti:mn):TI:=fun σ H R=>∃τ G R3,dY K τ σ H/\bf K G H/\ti τ G R3/\∀J H' S G',BF K H' J S->Step H G H' G'->bf K G' H'->R3 S G'->R J H'
abbrev vC(X:Cx)(tg iter:ρ)(ti:mn):Prop:=PI X tg iter (Ms X.K ti)
section
variable {X:Cx} {tg iter:ρ} {pos p:aL}
theorem Ap{t t':TI}(h:PI X tg iter t)(f:∀σ H R,t' σ H R->t σ H R):PI X tg iter t':=fun pins s σ H R I q=>h pins s σ H R I (f σ H R q)
def gW(te:aD):mn:=fun τ G R=>te τ G fun x G1=>match x with
 |.obj p=>∃ds,G1 p=some (.lst ds)/\R ⟨ds,fun G=>G p=some (.lst ds)⟩ G1
 |.tup ds=>R ⟨ds,fun _=>True⟩ G1
 |.fz ds=>R ⟨ds,fun _=>True⟩ G1
 |_=>False
theorem O5{l:ρ}{te:aD}(hl:bP X l te):vC X tg l (gW te):=by
 intro pins s σ H R I h;obtain⟨τ,G,R3,RS,RG,h,k⟩:=h
 -- the state carries what a list of the heap is
 refine bK (hl pins s σ H (fun v H'=>∃d G',Hv X.K H' d v/\Step H G H' G'/\bf X.K G' H'/\(match d with
  |.obj p=>∃ds,G' p=some (.lst ds)/\R3 ⟨ds,fun G=>G p=some (.lst ds)⟩ G'
  |.tup ds=>R3 ⟨ds,fun _=>True⟩ G'
  |.fz ds=>R3 ⟨ds,fun _=>True⟩ G'
  | _=>False)) I ⟨τ,G,_,RS,RG,h,fun v H' d G' a b c q=>⟨d,G',a,b,c,q⟩⟩) fun v s1 ⟨x,H1,I1,r1,d,G1,hv,S1,R1,q⟩=>?_
 have hlist:∀(a:ε) (its:List δ) (xs:List V),bc xs its->PlainL s1.heap a its.toArray->R (PM X.K a) H1->π (model X.prog X.w) X.A (pyIter (.ref a)) (HN X pins σ tg R) X.xe s1:=by
  intro a its xs rv p q;refine iH p.isList ?_;refine⟨s1.heap.objs.size,[s1.heap.objs.size],_,_,H1,rfl,I1.kept (t':=s1.toks) fun b o e=>ξ _ e,B3 a _,⟨_,ab _ rfl,rfl,rfl⟩,fun b hb=>?_,q⟩;have e:b=s1.heap.objs.size:=by simpa using hb
  subst e;exact I1.sr (Θ _) (I1.bV.fresh (Θ _))
 cases d with
 |obj a=>
  unfold Hv at hv;subst hv;cases r1;obtain⟨ds,e1,q⟩:=q;obtain⟨vs,e2,e3⟩:=R1 a _ e1;obtain⟨its,rv,p,hz⟩:=I1.list (eQ.of e2);refine hlist a its vs rv p (k _ _ _ _ ⟨?_,?_⟩ S1 R1 q)
  ·intro i d H' G' E' RG' hg hi;obtain⟨vs',z1,z2⟩:=RG' a _ hg;obtain⟨v',y1,y2⟩:=z2.get hi;refine⟨⟨vs',v',.of z1,y1⟩,fun x H'' hy=>?_⟩;obtain⟨rfl,hy⟩:=hy;have:=hy vs' (.of z1);rw[y1] at this;cases this;exact⟨y2,.refl _ _,RG'⟩
  ·intro i H' G' E' RG' hg hi;obtain⟨vs',z1,z2⟩:=RG' a _ hg;exact⟨vs',.of z1,by rw[←z2.length];exact hi⟩
 |tup ds=>
  unfold Hv at hv;obtain⟨a,vs,rfl,e2,e3⟩:=hv;cases r1;obtain⟨its,rv,p,hz⟩:=I1.tuple e2;have hq:R (PL X.K a) H1:=by
   refine k _ _ _ _ ⟨?_,?_⟩ S1 R1 q
   ·intro i d H' G' E' RG' hg hi;obtain⟨v',y1,y2⟩:=e3.get hi;refine⟨⟨vs,v',dJ.ext E' e2,y1⟩,fun x H'' hy=>?_⟩;obtain⟨rfl,hy⟩:=hy;have:=hy vs (dJ.ext E' e2);rw[y1] at this;cases this;exact⟨y2.ext E',.refl _ _,RG'⟩
   ·intro i H' G' E' RG' hg hi;exact⟨vs,dJ.ext E' e2,by rw[←e3.length];exact hi⟩
  refine wpAny_pyIter_tuple (show s1.heap.IsTuple a its.toArray from p) ?_;refine⟨s1.heap.objs.size,[s1.heap.objs.size],_,_,H1,rfl,I1.kept (t':=s1.toks) fun b o e=>ξ _ e,zF a _,⟨_,ab _ rfl,rfl,rfl⟩,fun b hb=>?_,hq⟩;have e:b=s1.heap.objs.size:=by simpa using hb
  subst e;exact I1.sr (Θ _) (I1.bV.fresh (Θ _))
 |fz ds=>
  unfold Hv at hv;obtain⟨a,vs,rfl,e2,e3⟩:=hv;cases r1;obtain⟨its,rv,p,hz⟩:=I1.list e2.l;refine hlist a its vs rv p (k _ _ _ _ ⟨?_,?_⟩ S1 R1 q)
  ·intro i d H' G' E' RG' hg hi;obtain⟨v',y1,y2⟩:=e3.get hi;refine⟨⟨vs,v',(qz.ext E' e2).l,y1⟩,fun x H'' hy=>?_⟩;obtain⟨rfl,hy⟩:=hy;have:=hy vs (qz.ext E' e2).l;rw[y1] at this;cases this;exact⟨y2.ext E',.refl _ _,RG'⟩
  ·intro i H' G' E' RG' hg hi;exact⟨vs,(qz.ext E' e2).l,by rw[←e3.length];exact hi⟩
 |aq=>exact q.elim
 |bl _=>exact q.elim
 |int _=>exact q.elim
 |str _=>exact q.elim
 |dc _=>exact q.elim
def gb(lo:Int)(n:Nat):List D:=(aB n).map fun i:Nat=>.int (lo+(i:Int))
theorem ET{lo:Int}{n i:Nat}{d:D}(h:(gb lo n)[i]?=some d):i<n/\d=.int (lo+(i:Int)):=by
 unfold gb at h;rw[ag] at h;by_cases hi:i<n
 ·rw[gY hi] at h;simp at h;exact⟨hi,h.symm⟩
 ·rw[cA.mpr (by simpa using hi)] at h;cases h
theorem fZ(lo:Int)(n:Nat):(gb lo n).length=n:=by simp[gb]
theorem yG{K:ι}{H:Hp}(lo:Int)(n:Nat):BF K H (Ei lo n) ⟨gb lo n,fun _=>True⟩:=⟨by
 intro i d H' G' _ RG _ hi;obtain⟨h1,h2⟩:=ET hi;refine⟨h1,fun x H'' hy=>?_⟩;obtain⟨rfl,rfl⟩:=hy;exact⟨by rw[h2];simp[Hv],.refl _ _,RG⟩,by
 intro i H' G' _ RG _ hi;rw[fZ] at hi;exact hi⟩
def lH(ta:cJ):mn:=fun τ G R=>ta τ G fun ds G1=>match ds with
 |[.int j]=>(-(2^62)≤j/\j<2^62)/\R ⟨gb 0 j.toNat,fun _=>True⟩ G1
 |_=>False
def qZ(ta:cJ):mn:=fun τ G R=>ta τ G fun ds G1=>match ds with
 |[.int i,.int j]=>(-(2^62)≤i/\i<2^62/\-(2^62)≤j/\j<2^62)/\R ⟨gb i (j-i).toNat,fun _=>True⟩ G1
 |_=>False
theorem MU{a:ρ}{ta:cJ}(hm:X.mg "range" = none)(ha:jk X [a] ta)(hg:Gl X "range":=by rfl)(hs:notStar a=true:=by rfl):vC X tg (.Call (.Name "range" p) [a] [] pos) (lH ta):=
 Ap (Dc hg hm ha (bj hs)) fun σ H R ⟨τ,G,R3,RS,RG,h,k⟩=>⟨τ,G,_,RS,RG,h,fun vs H1 ds G1 h1 S1 R1 q1=>by
  rcases ds with _|⟨d,_|⟨d2,ds⟩⟩
  ·exact q1.elim
  ·cases d with
   |int j=>
    obtain⟨v,r,rfl,z1,z2⟩:=h1.inv;cases z2.gD;unfold Hv at z1;exact⟨j,by rw[z1],q1.1.1,q1.1.2,k _ _ _ _ (yG 0 _) S1 R1 q1.2⟩
   |_=>exact q1.elim
  ·cases d<;>exact q1.elim⟩
theorem MT{a b:ρ}{ta:cJ}(hm:X.mg "range" = none)(ha:jk X [a,b] ta)(hg:Gl X "range":=by rfl)(hs:notStar a=true:=by rfl)(hs2:notStar b=true:=by rfl):
  vC X tg (.Call (.Name "range" p) [a,b] [] pos) (qZ ta):=
 Ap (C9 hg hm ha (by rw[bj hs,bj hs2];rfl) (bj hs2)) fun σ H R ⟨τ,G,R3,RS,RG,h,k⟩=>⟨τ,G,_,RS,RG,h,fun vs H1 ds G1 h1 S1 R1 q1=>by
  rcases ds with _|⟨d,_|⟨d2,_|⟨d3,ds⟩⟩⟩
  ·exact q1.elim
  ·cases d<;>exact q1.elim
  ·cases d with
   |int i=>
    cases d2 with
    |int j=>
     obtain⟨v,r,rfl,z1,z2⟩:=h1.inv;obtain⟨v',r',rfl,z3,z4⟩:=z2.inv;cases z4.gD;unfold Hv at z1 z3;exact⟨i,j,by rw[z1,z3],q1.1,k _ _ _ _ (yG i _) S1 R1 q1.2⟩
    |_=>exact q1.elim
   |_=>exact q1.elim
  ·cases d with
   |int i=>cases d2<;>exact q1.elim
   |_=>exact q1.elim⟩
def lI(guard:Gp->Prop)(g:gs)(tb:aE)(D3:jH):List D->S3->Gp->Prop
 |[],τ,G=>guard G/\D3.nx τ G
 |d::ds,τ,G=>guard G/\g d τ G fun τ2 G2=>tb { D3 with nx:=lI guard g tb D3 ds,ct:=lI guard g tb D3 ds,bk:=D3.nx } τ2 G2
def jY(ti:mn)(g:gs)(tb:aE):aE:=fun D3 τ G=>ti τ G fun S G1=>lI S.guard g tb D3 S.items τ G1
theorem N6{body:List aX}{ti:mn}{g:gs}{tb:aE}(hp:kG (model X.prog X.w) X.A X.env X.xe)(hc:X.calm=true)(hi:vC X tg iter ti)(hg:rS X tg g)(hb:nz X body tb)
  (hs:∀x,foldedSetIterable iter X.env x=pure x:=by intro _;rfl):m5 X (.For tg iter body [] pos) (jY ti g tb):=jz (Lx hp hc hi hg hb hs) fun D2 σ H ⟨τ,G,D3,RS,RG,h,k⟩=>by
 refine⟨τ,G,_,RS,RG,h,fun J H1 S G1 ok S1 R1 q1=>?_⟩;refine⟨fun i m σ' H'=>∃τ' G',dY X.K τ' σ' H'/\bf X.K G' H'/\Step H G H' G'/\Ext H1 H'/\lI S.guard g tb D3 (S.items.drop i) τ' G'/\m+i=S.items.length,⟨S.items.length,τ,G1,RS.ext (S1.ext RG),R1,S1,.refl H1,by simpa using q1,by lia⟩,?_⟩;rintro i m σ' H' ⟨τ',G',RS',RG',S',E',q,hm⟩;by_cases hlt:i<S.items.length
 ·have hd:S.items.drop i=S.items[i]::S.items.drop (i+1):=lN hlt;have hget:S.items[i]?=some S.items[i]:=aU hlt;rw[hd] at q;obtain⟨hgd,q⟩:=q;obtain⟨z1,z2⟩:=ok.go i _ H' G' E' RG' hgd hget;refine .inr ⟨z1,fun σ2 H2=>∃τ2 G2,dY X.K τ2 σ2 H2/\bf X.K G2 H2/\Step H G H2 G2/\Ext H1 H2/\lI S.guard g tb D3 (S.items.drop (i+1)) τ2 G2,fun σ2 H2 ⟨τ2,G2,a1,a2,a3,a4,a5⟩=>⟨m-1,by lia,τ2,G2,a1,a2,a3,a4,a5,by lia⟩,fun x H2 hy=>?_⟩;obtain⟨y1,y2,y3⟩:=z2 x H2 hy;refine⟨S.items[i],τ',G',_,y1,RS'.ext (y2.ext RG'),y3,q,fun τ3 σ3 G3 H3 b1 b2 b3 b4=>?_⟩;refine⟨τ3,G3,_,b1,b3,b4,⟨?_,?_,?_,?_⟩⟩
  ·exact fun τ4 σ4 G4 H4 c1 c2 c3 c4=>⟨τ4,G4,c1,c3,((S'.trans y2).trans b2).trans c2,((E'.trans (y2.ext RG')).trans (b2.ext y3)).trans (c2.ext b3),c4⟩
  ·exact fun τ4 σ4 G4 H4 c1 c2 c3 c4=>k.nx τ4 σ4 G4 H4 c1 (((S'.trans y2).trans b2).trans c2) c3 c4
  ·exact fun τ4 σ4 G4 H4 c1 c2 c3 c4=>⟨τ4,G4,c1,c3,((S'.trans y2).trans b2).trans c2,((E'.trans (y2.ext RG')).trans (b2.ext y3)).trans (c2.ext b3),c4⟩
  ·exact fun d v G4 H4 c1 c2 c3 c4=>k.rt d v G4 H4 c1 (((S'.trans y2).trans b2).trans c2) c3 c4
 ·have hd:S.items.drop i=[]:=nH (by lia);rw[hd] at q;exact .inl ⟨ok.stop i H' G' E' RG' q.1 (by lia),k.nx τ' σ' G' H' RS' S' RG' q.2⟩
def fV(guard:Gp->Prop)(g:gs)(tc:cu)(te:aD)(Q:List D->Gp->Prop):List D->List D->S3->Gp->Prop
 |[],acc,τ,G=>guard G/\Q acc G
 |d::ds,acc,τ,G=>guard G/\g d τ G fun τ2 G2=>tc τ2 G2 fun b G3=>Br b (te τ2 G3 fun v G4=>fV guard g tc te Q ds (acc++[v]) τ2 G4) (fV guard g tc te Q ds acc τ2 G3)
def xT(own:List Δ)(js:List Nat)(τ:S3):S3:=(own.map fun _=>none)++js.map fun j=>gP τ j
def fi(own:List Δ)(js:List Nat)(ti:mn)(g:gs)(tc:cu)(te:aD):aD:=fun τ G Q=>ti τ G fun S G1=>S.items.length≤aj ∧
 fV S.guard g tc te (fun ds G2=>∀p G3,dw G2 p (.lst ds) G3->Q (.obj p) G3) S.items [] (xT own js τ) G1
theorem zy:∀(τ:S3) (i:Nat),gP τ i=(τ[i]?).getD none
 |[],i=>by simp[gP]
 |x::r,0=>by simp[gP]
 |x::r,i+1=>by simp[gP,zy r i]
theorem dY.cmp{K:ι}{τ:S3}{σ:L2.St}{H:Hp}(own:List Δ)(js:List Nat)(R:dY K τ σ H):dY K (xT own js τ) (rm own js σ) H:=⟨by simp[xT,rm],fun i d h=>by
 rw[zy] at h;unfold xT at h;by_cases hi:i<own.length
 ·rw[dU (by simpa using hi)] at h;rw[ag,aU hi] at h;cases h
 ·rw[dH (by simpa using hi),ag] at h;simp only[μ] at h;cases hj:js[i-own.length]? with
  |none=>rw[hj] at h;cases h
  |some j=>
   rw[hj] at h;have h':gP τ j=some d:=h;obtain⟨v,e1,e2⟩:=R.at_ j d h';refine⟨v,?_,e2⟩;unfold rm;rw[dH (by simpa using hi),ag];simp only[jo,hj,Option.map_some,e1,Option.getD_some]⟩
def cV:cu:=fun _ G Q=>Q true G
theorem Nk:rT X [] (oO X.K cV):=fun pins s σ H Q I ⟨τ,G,Q3,RS,RG,h,k⟩=>Jo pins s σ H Q I (k true H G (.refl H G) RG h)
theorem Nj{c:ρ}{t:cu}(h:oh X c t):rT X [c] (oO X.K t):=Jn h
theorem xu{K:ι}{own:List Δ}{js:List Nat}{ti:mn}{g:gs}{tc:cu}{te:aD}{σ:L2.St}{H:Hp}{Q:VK}(h:low K (fi own js ti g tc te) σ H Q):Ky own js (Ms K ti) (lowG K g) (oO K tc) (low K te) σ H Q:=by
 obtain⟨τ,G,Q3,RS,RG,h,k⟩:=h;refine⟨τ,G,_,RS,RG,h,fun J H1 S G1 ok S1 R1 q1=>?_⟩;obtain⟨hz,q1⟩:=q1;intro p hp;have hGp:G1 p=none:=R1.free hp;refine⟨fun i m ys σ' H'=>∃τ' G' acc,dY K τ' σ' H'/\bf K G' H'/\Step H G H' G'/\Ext H1 H'/\H' p=some (.lst ys)/\G' p=none/\aF K H' acc ys ∧
  fV S.guard g tc te (fun ds G2=>∀p G3,dw G2 p (.lst ds) G3->Q3 (.obj p) G3) (S.items.drop i) acc τ' G'/\m+i=S.items.length/\ys.length≤i,?_,?_⟩
 ·have E1:Ext H1 (upd H1 p (.lst [])):=.laid hp;exact⟨S.items.length,xT own js τ,G1,[],((RS.ext (S1.ext RG)).cmp own js).ext E1,R1.laid hp,S1.trans (.laid hp),E1,cm,hGp,.nil,by simpa using q1,by lia,aK _⟩
 rintro i m ys σ' H' ⟨τ',G',acc,RS',RG',S',E',hpl,hG',hacc,q,hm,hy⟩;refine⟨hpl,?_⟩;by_cases hlt:i<S.items.length
 ·have hd:S.items.drop i=S.items[i]::S.items.drop (i+1):=lN hlt;have hget:S.items[i]?=some S.items[i]:=aU hlt;rw[hd] at q;obtain⟨hgd,q⟩:=q;obtain⟨z1,z2⟩:=ok.go i _ H' G' E' RG' hgd hget;refine .inr ⟨z1,by lia,fun x H2 hyl=>?_⟩;obtain⟨y1,y2,y3⟩:=z2 x H2 hyl
  -- what is not in G stays
  have keep:∀{Ha Hb:Hp} {Ga Gb:Gp},Step Ha Ga Hb Gb->Ha p=some (.lst ys)->Ga p=none->Hb p=some (.lst ys)/\Gb p=none:=fun {Ha Hb Ga Gb} st e n=>by
   refine⟨st.fr p _ e n,?_⟩;refine ax fun z=>?_;rw[st.new p n z] at e;cases e
  obtain⟨p2,n2⟩:=keep y2 hpl hG';refine⟨S.items[i],τ',G',_,y1,RS'.ext (y2.ext RG'),y3,q,fun τ3 σ3 G3 H3 b1 b2 b3 b4=>?_⟩;obtain⟨p3,n3⟩:=keep b2 p2 n2;refine⟨τ3,G3,_,b1,b3,b4,fun bb H4 G4 c1 c2 c3=>?_⟩;obtain⟨p4,n4⟩:=keep c1 p3 n3;have E4:Ext H' H4:=((y2.ext RG').trans (b2.ext y3)).trans (c1.ext b3);have S4:Step H G H4 G4:=((S'.trans y2).trans b2).trans c1;have RS4:=b1.ext (c1.ext b3);refine Br.ite c3 (fun c3=>?_) fun c3=>?_
  ·refine⟨τ3,G4,_,RS4,c2,c3,fun v H5 d G5 e1 e2 e3 e4=>?_⟩;obtain⟨p5,n5⟩:=keep e2 p4 n4;refine⟨p5,m-1,by lia,τ3,G5,acc++[d],?_,?_,?_,?_,cm,n5,?_,e4,by lia,by rw[av];simp;lia⟩
   ·exact (RS4.ext (e2.ext c2)).ext (.wrote p5)
   ·intro a o e;have hne:a≠p:=fun z=>by
     rw[z,n5] at e;cases e
    exact (e3 a o e).ext (.wrote p5) (bG hne)
   ·refine⟨fun a o e n=>?_,fun a q=>?_,fun a n q=>((S4.trans e2).new a n q)⟩
    ·by_cases hne:a=p
     ·exfalso;rw[hne] at e n;have hh:=S1.fr p o e n;rw[hp] at hh;cases hh
     ·rw[bG hne];exact (S4.trans e2).fr a o e n
    ·by_cases hne:a=p
     ·rw[hne,cm];simp
     ·rw[bG hne];exact (S4.trans e2).mU a q
   ·exact ((E'.trans E4).trans (e2.ext c2)).trans (.wrote p5)
   ·have E5:Ext H' (upd H5 p (.lst (ys++[v]))):=(E4.trans (e2.ext c2)).trans (.wrote p5);exact (hacc.ext E5).append (.cons (e1.ext (.wrote p5)) .nil)
  ·exact⟨m-1,by lia,τ3,G4,acc,RS4,c2,S4,E'.trans E4,p4,n4,hacc.ext E4,c3,by lia,by lia⟩
 ·have hd:S.items.drop i=[]:=nH (by lia);rw[hd] at q;refine .inl ⟨ok.stop i H' G' E' RG' q.1 (by lia),?_⟩;refine k _ H' (.obj p) (dA G' p (.lst acc)) (by simp[Hv]) ?_ ?_ (q.2 p _ (.mk' hG'))
  ·refine⟨S'.fr,S'.mU,fun a n z=>?_⟩;by_cases hne:a=p
   ·rw[hne];cases hh:H p with
    |none=>rfl
    |some o=>
     exfalso;rw[hne] at n;have:=S1.fr p o hh n;rw[hp] at this;cases this
   ·rw[dE hne] at z;exact S'.new a n z
  ·intro a o e;by_cases hne:a=p
   ·rw[hne,cT] at e;cases e;rw[hne];exact⟨ys,hpl,hacc⟩
   ·rw[dE hne] at e;exact RG' a o e
theorem Nf{elt:ρ}{ifs:List ρ}{scope:fW}{own:List Δ}{js:List Nat}{ti:mn}{g:gs}{tc:cu}{te:aD}(hc:X.calm=true)(C:dh X.N X.env.scope scope own js)(hi:vC X tg iter ti)
  (hb:∀s H fp,rS (X.cmp scope own js s H fp) tg g/\rT (X.cmp scope own js s H fp) ifs (oO X.K tc)/\bP (X.cmp scope own js s H fp) elt te)
  (hs:∀x,foldedSetIterable iter X.env x=pure x:=by intro _;rfl):bP X (.ListComp elt [⟨tg,iter,ifs,0⟩] scope pos) (fi own js ti g tc te):=
 eD (Jj hc C hi hb hs) fun σ H Q h=>xu h
theorem CJ{elt:ρ}{ifs:List ρ}{scope:fW}{own:List Δ}{js:List Nat}{ti:mn}{g:gs}{tc:cu}{te:aD}{i:Nat}{y:Δ}{py spos:aL}(hc:X.calm=true)(hN:X.N.Nodup)(C:dh X.N X.env.scope scope own js)(hi:vC X tg iter ti)
  (hb:∀s H fp,rS (X.cmp scope own js s H fp) tg g/\rT (X.cmp scope own js s H fp) ifs (oO X.K tc)/\bP (X.cmp scope own js s H fp) elt te) (hy:X.N[i]?=some y:=by rfl) (hyl:X.env.scope.names.lookup y=some .local:=by rfl)
  (DS:swapsWith (.ListComp elt [⟨tg,iter,ifs,0⟩] scope pos) (some (.Name y py)) spos.line X.env=pure true:=by rfl)
  (hs:∀x,foldedSetIterable iter X.env x=pure x:=by intro _;rfl):m5 X (.Assign [.Name y py] (.ListComp elt [⟨tg,iter,ifs,0⟩] scope pos) spos) (cx (fi own js ti g tc te) (hName i)):=
 jz (Am hc hN hy hyl C hi hb DS hs) fun D2 σ H ⟨τ,G,D3,RS,RG,h,k⟩=>
  xu ⟨τ,G,_,RS,RG,h,fun v H1 d G1 h1 S1 R1 q1=>k.nx _ _ G1 H1 ((RS.ext (S1.ext RG)).set h1) S1 R1 q1⟩
theorem DU{guard:Gp->Prop}{g:gs}{tb:aE}{D3:jH}(I:List D->S3->Gp->Prop)(hg:∀ds τ G,I ds τ G->guard G)
  (step:∀d ds τ G,I (d::ds) τ G->g d τ G fun τ2 G2=>tb { D3 with nx:=I ds,ct:=I ds,bk:=D3.nx } τ2 G2) (ie:∀τ G,I [] τ G->D3.nx τ G)
  (mono:∀(N N':S3->Gp->Prop),(∀τ G,N τ G->N' τ G)->∀d τ G,(g d τ G fun τ2 G2=>tb { D3 with nx:=N,ct:=N,bk:=D3.nx } τ2 G2)->g d τ G fun τ2 G2=>tb { D3 with nx:=N',ct:=N',bk:=D3.nx } τ2 G2):
  ∀ds τ G,I ds τ G->lI guard g tb D3 ds τ G
 |[],τ,G,h=>⟨hg _ _ _ h,ie _ _ h⟩
 |d::ds,τ,G,h=>⟨hg _ _ _ h,mono (I ds) _ (fun τ G q=>DU I hg step ie mono ds τ G q) d τ G (step d ds τ G h)⟩
theorem fc{guard:Gp->Prop}{g:gs}{tb:aE}{D3:jH}(I:List D->S3->Gp->Prop)(hg:∀ds τ G,I ds τ G->guard G)
  (step:∀d ds τ G (N:S3->Gp->Prop),I (d::ds) τ G->(∀τ' G',I ds τ' G'->N τ' G')->g d τ G fun τ2 G2=>tb { D3 with nx:=N,ct:=N,bk:=D3.nx } τ2 G2) (ie:∀τ G,I [] τ G->D3.nx τ G):
  ∀ds τ G,I ds τ G->lI guard g tb D3 ds τ G
 |[],τ,G,h=>⟨hg _ _ _ h,ie _ _ h⟩
 |d::ds,τ,G,h=>⟨hg _ _ _ h,step d ds τ G _ h fun τ' G' q=>fc I hg step ie ds τ' G' q⟩
end
end L3
namespace Dat
open PySem PySem.SeqAt
inductive D where
 |aq|bl (b:Bool)|int (i:Int)|str (x:Δ)|tup (xs:List D)|lst (xs:List D)|gO
mutual
def D.ff:D->D->Bool
 |.aq,.aq=>true
 |.bl a,.bl b=>a==b
 |.bl a,.int b=>(if a then 1 else 0)==b
 |.int a,.bl b=>a==(if b then 1 else 0)
 |.int a,.int b=>a==b
 |.str a,.str b=>a==b
 |.tup xs,.tup ys=>i7 xs ys
 |.lst xs,.lst ys=>i7 xs ys
 |_,_=>false
def i7:List D->List D->Bool
 |[],[]=>true
 |x::xs,y::ys=>x.ff y&&i7 xs ys
 |_,_=>false
end
mutual
def D.iL:D->Nat
 |.tup xs=>gr xs+1
 |.lst xs=>gr xs+1
 |_=>0
def gr:List D->Nat
 |[]=>0
 |x::xs=>max x.iL (gr xs)
end
theorem j4{d:D}:∀{xs:List D},d∈xs->d.iL≤gr xs
 |x::xs,h=>by
  unfold gr;rcases aM.mp h with e|e
  ·rw[e];exact Nat.le_max_left _ _
  ·exact az (j4 e) (Nat.le_max_right _ _)
mutual
def Hv(h:ai):D->δ->Prop
 |.aq,u=>u=.none
 |.bl b,u=>u=.bool b
 |.int i,u=>∃t,u=.int i t
 |.str x,u=>∃t,u=.str x t
 |.tup ds,u=>∃(a:ε) (its:List δ),u=.ref a/\h.IsTuple a its.toArray/\aF h ds its
 |.lst ds,u=>∃(a:ε) (its:List δ),u=.ref a/\h.IsList a its.toArray/\aF h ds its
 |.gO,_=>False
def aF(h:ai):List D->List δ->Prop
 |[],us=>us=[]
 |d::ds,us=>∃u r,us=u::r/\Hv h d u/\aF h ds r
end
theorem aF.length{h:ai}:∀{ds:List D} {us:List δ},aF h ds us->us.length=ds.length
 |[],us,e=>by
  unfold aF at e;rw[e];rfl
 |d::ds,us,e=>by
  unfold aF at e;obtain⟨u,r,rfl,_,e2⟩:=e;rw[au,au,e2.length]
theorem aF.get{h:ai}:∀{ds:List D} {us:List δ} {j:Nat} {d:D} {u:δ},aF h ds us->ds[j]?=some d->us[j]?=some u->Hv h d u
 |[],_,_,_,_,_,e,_=>by simp at e
 |d::ds,us,0,_,_,q,e1,e2=>by
  unfold aF at q;obtain⟨u,r,rfl,q1,_⟩:=q;simp at e1 e2;rw[←e1,←e2];exact q1
 |d::ds,us,j+1,_,_,q,e1,e2=>by
  unfold aF at q;obtain⟨u,r,rfl,_,q2⟩:=q;exact q2.get (j:=j) (by simpa using e1) (by simpa using e2)
theorem yY{h:ai}{a:ε}{xs ys:Array δ}(hl:h.IsList a xs)(ht:h.IsTuple a ys):False:=by
 obtain⟨o,ho,hc,_⟩:=hl;obtain⟨o',ho',hc',_⟩:=ht;rw[ho] at ho';cases ho';rw[hc] at hc';exact absurd hc' (by decide)
mutual
theorem Hv.inj{h:ai}:∀{d e:D} {u:δ},Hv h d u->Hv h e u->d=e
 |d,e,u,p,q=>by
  cases d with
  |aq=>unfold Hv at p;subst p;cases e<;>unfold Hv at q<;>first|rfl|(simp at q)
  |bl b=>unfold Hv at p;subst p;cases e<;>unfold Hv at q<;>first|(simp at q;rw[q])|(simp at q)
  |int b=>unfold Hv at p;obtain⟨t,rfl⟩:=p;cases e<;>unfold Hv at q<;>first|(simp at q;rw[q])|(simp at q)
  |str b=>unfold Hv at p;obtain⟨t,rfl⟩:=p;cases e<;>unfold Hv at q<;>first|(simp at q;rw[q])|(simp at q)
  |gO=>unfold Hv at p;exact p.elim
  |tup ds=>
   unfold Hv at p;obtain⟨a,its,rfl,ha,p⟩:=p;cases e with
   |tup es=>
    unfold Hv at q;obtain⟨a',its',e1,ha',q⟩:=q;cases e1;have e2:its=its':=by
     obtain⟨o,ho,_,n,hd⟩:=ha;obtain⟨o',ho',_,n',hd'⟩:=ha';rw[ho] at ho';cases ho';rw[hd] at hd';injection hd' with e3 _
     simpa using congrArg mM e3
    subst e2;rw[aF.inj p q]
   |lst es=>
    unfold Hv at q;obtain⟨a',its',e1,ha',q⟩:=q;cases e1;exact (yY ha' ha).elim
   |_=>unfold Hv at q<;>simp at q
  |lst ds=>
   unfold Hv at p;obtain⟨a,its,rfl,ha,p⟩:=p;cases e with
   |lst es=>
    unfold Hv at q;obtain⟨a',its',e1,ha',q⟩:=q;cases e1;have e2:its=its':=by
     obtain⟨o,ho,_,n,hd⟩:=ha;obtain⟨o',ho',_,n',hd'⟩:=ha';rw[ho] at ho';cases ho';rw[hd] at hd';injection hd' with e3 _
     simpa using congrArg mM e3
    subst e2;rw[aF.inj p q]
   |tup es=>
    unfold Hv at q;obtain⟨a',its',e1,ha',q⟩:=q;cases e1;exact (yY ha ha').elim
   |_=>unfold Hv at q<;>simp at q
theorem aF.inj{h:ai}:∀{ds es:List D} {us:List δ},aF h ds us->aF h es us->ds=es
 |[],[],_,_,_=>rfl
 |[],e::es,us,p,q=>by
  unfold aF at p q;subst p;obtain⟨_,_,e1,_⟩:=q;cases e1
 |d::ds,[],us,p,q=>by
  unfold aF at p q;subst q;obtain⟨_,_,e1,_⟩:=p;cases e1
 |d::ds,e::es,us,p,q=>by
  unfold aF at p q;obtain⟨u,r,rfl,p1,p2⟩:=p;obtain⟨u',r',e1,q1,q2⟩:=q;cases e1;rw[Hv.inj p1 q1,aF.inj p2 q2]
end
theorem i9:∀(ds es:List D),((aB (min ds.length es.length)).all (fun j=>(ds.getD j .aq).ff (es.getD j .aq))&&ds.length==es.length)=i7 ds es
 |[],[]=>by simp[i7]
 |[],e::es=>by simp[i7]
 |d::ds,[]=>by simp[i7]
 |d::ds,e::es=>by
  have ih:=i9 ds es;unfold i7;rw[←ih];rw[au,au,show min (ds.length+1) (es.length+1)=min ds.length es.length+1 by lia,iT,kZ,qK];have e1:((ds.length+1==es.length+1):Bool)=(ds.length==es.length):=by simp
  rw[e1,Bool.and_assoc];rfl
theorem oY:∀(ds es:List D),ds.length≠es.length->i7 ds es=false
 |[],[],h=>absurd rfl h
 |[],e::es,_=>rfl
 |d::ds,[],_=>rfl
 |d::ds,e::es,h=>by
  unfold i7;rw[oY ds es (by simpa using h),Bool.and_false]
mutual
theorem Hv.refl{h:ai}:∀{d:D} {u:δ},Hv h d u->d.ff d=true
 |.aq,_,_=>rfl
 |.bl b,_,_=>by unfold D.ff;simp
 |.int b,_,_=>by unfold D.ff;simp
 |.str b,_,_=>by unfold D.ff;simp
 |.gO,_,p=>by unfold Hv at p;exact p.elim
 |.tup ds,_,p=>by
  unfold Hv at p;obtain⟨_,_,_,_,p⟩:=p;unfold D.ff;exact aF.refl p
 |.lst ds,_,p=>by
  unfold Hv at p;obtain⟨_,_,_,_,p⟩:=p;unfold D.ff;exact aF.refl p
theorem aF.refl{h:ai}:∀{ds:List D} {us:List δ},aF h ds us->i7 ds ds=true
 |[],_,_=>rfl
 |d::ds,us,p=>by
  unfold aF at p;obtain⟨u,r,_,p1,p2⟩:=p;unfold i7;rw[Hv.refl p1,aF.refl p2];rfl
end
theorem cB{h:ai}{ds:List D}{us:List δ}(p:aF h ds us){j:Nat}(hj:j<us.toArray.size):Hv h (ds.getD j .aq) (us.toArray[j])/\ds.getD j .aq∈ds:=by
 have hl:=p.length;have hj':j<ds.length:=by simp at hj;lia
 have e1:ds[j]?=some (ds.getD j .aq):=by simp[hj']
 exact⟨p.get e1 (by simp at hj;simp[hj]),aY e1⟩
theorem uL{s:ζ}:∀(d e:D) (u v:δ) (A:bA),Hv s.heap d u->Hv s.heap e v->A.units+d.iL+1<cLine->EqAt A s u v (d.ff e)
 |.aq,.aq,u,v,A,p1,p2,hu=>by
  unfold Hv at p1;subst p1;unfold Hv at p2;subst p2;exact EqAt.same _
 |.aq,.bl b2,u,v,A,p1,p2,hu=>by
  unfold Hv at p1;subst p1;unfold Hv at p2;subst p2;exact EqAt.none_bool  b2
 |.aq,.int b2,u,v,A,p1,p2,hu=>by
  unfold Hv at p1;subst p1;unfold Hv at p2;obtain⟨t2,rfl⟩:=p2;exact EqAt.none_int  b2 t2
 |.aq,.str b2,u,v,A,p1,p2,hu=>by
  unfold Hv at p1;subst p1;unfold Hv at p2;obtain⟨t2,rfl⟩:=p2;exact EqAt.none_str  b2 t2
 |.aq,.tup ds2,u,v,A,p1,p2,hu=>by
  unfold Hv at p1;subst p1;unfold Hv at p2;obtain⟨a2,its2,rfl,l2,p2⟩:=p2;exact EqAt.none_tuple  l2 (by lia)
 |.aq,.lst ds2,u,v,A,p1,p2,hu=>by
  unfold Hv at p1;subst p1;unfold Hv at p2;obtain⟨a2,its2,rfl,l2,p2⟩:=p2;exact EqAt.none_list  l2 (by lia)
 |.bl b1,.aq,u,v,A,p1,p2,hu=>by
  unfold Hv at p1;subst p1;unfold Hv at p2;subst p2;exact EqAt.bool_none b1
 |.bl b1,.bl b2,u,v,A,p1,p2,hu=>by
  unfold Hv at p1;subst p1;unfold Hv at p2;subst p2;exact EqAt.bool_bool b1 b2
 |.bl b1,.int b2,u,v,A,p1,p2,hu=>by
  unfold Hv at p1;subst p1;unfold Hv at p2;obtain⟨t2,rfl⟩:=p2;exact EqAt.bool_int b1 b2 t2
 |.bl b1,.str b2,u,v,A,p1,p2,hu=>by
  unfold Hv at p1;subst p1;unfold Hv at p2;obtain⟨t2,rfl⟩:=p2;exact EqAt.bool_str b1 b2 t2
 |.bl b1,.tup ds2,u,v,A,p1,p2,hu=>by
  unfold Hv at p1;subst p1;unfold Hv at p2;obtain⟨a2,its2,rfl,l2,p2⟩:=p2;exact EqAt.bool_tuple b1 l2 (by lia)
 |.bl b1,.lst ds2,u,v,A,p1,p2,hu=>by
  unfold Hv at p1;subst p1;unfold Hv at p2;obtain⟨a2,its2,rfl,l2,p2⟩:=p2;exact EqAt.bool_list b1 l2 (by lia)
 |.int b1,.aq,u,v,A,p1,p2,hu=>by
  unfold Hv at p1;obtain⟨t1,rfl⟩:=p1;unfold Hv at p2;subst p2;exact EqAt.int_none b1 t1
 |.int b1,.bl b2,u,v,A,p1,p2,hu=>by
  unfold Hv at p1;obtain⟨t1,rfl⟩:=p1;unfold Hv at p2;subst p2;exact EqAt.int_bool b1 t1 b2
 |.int b1,.int b2,u,v,A,p1,p2,hu=>by
  unfold Hv at p1;obtain⟨t1,rfl⟩:=p1;unfold Hv at p2;obtain⟨t2,rfl⟩:=p2;exact EqAt.int_int b1 t1 b2 t2
 |.int b1,.str b2,u,v,A,p1,p2,hu=>by
  unfold Hv at p1;obtain⟨t1,rfl⟩:=p1;unfold Hv at p2;obtain⟨t2,rfl⟩:=p2;exact EqAt.int_str b1 t1 b2 t2
 |.int b1,.tup ds2,u,v,A,p1,p2,hu=>by
  unfold Hv at p1;obtain⟨t1,rfl⟩:=p1;unfold Hv at p2;obtain⟨a2,its2,rfl,l2,p2⟩:=p2;exact EqAt.int_tuple b1 t1 l2 (by lia)
 |.int b1,.lst ds2,u,v,A,p1,p2,hu=>by
  unfold Hv at p1;obtain⟨t1,rfl⟩:=p1;unfold Hv at p2;obtain⟨a2,its2,rfl,l2,p2⟩:=p2;exact EqAt.int_list b1 t1 l2 (by lia)
 |.str b1,.aq,u,v,A,p1,p2,hu=>by
  unfold Hv at p1;obtain⟨t1,rfl⟩:=p1;unfold Hv at p2;subst p2;exact EqAt.str_none b1 t1
 |.str b1,.bl b2,u,v,A,p1,p2,hu=>by
  unfold Hv at p1;obtain⟨t1,rfl⟩:=p1;unfold Hv at p2;subst p2;exact EqAt.str_bool b1 t1 b2
 |.str b1,.int b2,u,v,A,p1,p2,hu=>by
  unfold Hv at p1;obtain⟨t1,rfl⟩:=p1;unfold Hv at p2;obtain⟨t2,rfl⟩:=p2;exact EqAt.str_int b1 t1 b2 t2
 |.str b1,.str b2,u,v,A,p1,p2,hu=>by
  unfold Hv at p1;obtain⟨t1,rfl⟩:=p1;unfold Hv at p2;obtain⟨t2,rfl⟩:=p2;exact EqAt.str_str b1 t1 b2 t2
 |.str b1,.tup ds2,u,v,A,p1,p2,hu=>by
  unfold Hv at p1;obtain⟨t1,rfl⟩:=p1;unfold Hv at p2;obtain⟨a2,its2,rfl,l2,p2⟩:=p2;exact EqAt.str_tuple b1 t1 l2 (by lia)
 |.str b1,.lst ds2,u,v,A,p1,p2,hu=>by
  unfold Hv at p1;obtain⟨t1,rfl⟩:=p1;unfold Hv at p2;obtain⟨a2,its2,rfl,l2,p2⟩:=p2;exact EqAt.str_list b1 t1 l2 (by lia)
 |.tup ds1,.aq,u,v,A,p1,p2,hu=>by
  unfold Hv at p1;obtain⟨a1,its1,rfl,l1,p1⟩:=p1;unfold Hv at p2;subst p2;exact EqAt.tuple_none  l1 (by lia)
 |.tup ds1,.bl b2,u,v,A,p1,p2,hu=>by
  unfold Hv at p1;obtain⟨a1,its1,rfl,l1,p1⟩:=p1;unfold Hv at p2;subst p2;exact EqAt.tuple_bool b2 l1 (by lia)
 |.tup ds1,.int b2,u,v,A,p1,p2,hu=>by
  unfold Hv at p1;obtain⟨a1,its1,rfl,l1,p1⟩:=p1;unfold Hv at p2;obtain⟨t2,rfl⟩:=p2;exact EqAt.tuple_int b2 t2 l1 (by lia)
 |.tup ds1,.str b2,u,v,A,p1,p2,hu=>by
  unfold Hv at p1;obtain⟨a1,its1,rfl,l1,p1⟩:=p1;unfold Hv at p2;obtain⟨t2,rfl⟩:=p2;exact EqAt.tuple_str b2 t2 l1 (by lia)
 |.tup ds1,.tup ds2,u,v,A,p1,p2,hu=>by
  unfold Hv at p1;obtain⟨a1,its1,rfl,l1,p1⟩:=p1;unfold Hv at p2;obtain⟨a2,its2,rfl,l2,p2⟩:=p2;unfold D.ff;by_cases ha:a1=a2
  ·subst ha;have e0:(.tup ds1:D)=.tup ds2:=Hv.inj (h:=s.heap) (u:=.ref a1) (by unfold Hv;exact⟨a1,its1,rfl,l1,p1⟩) (by unfold Hv;exact⟨a1,its2,rfl,l2,p2⟩);injection e0 with e0;subst e0;rw[p1.refl];exact EqAt.same _
  ·refine EqAt.of_refs ha ?_;have hdep:A.units+gr ds1+1+1<cLine:=by
    have e9:(.tup ds1:D).iL=gr ds1+1:=by first|rfl|(unfold D.iL;rfl)
    lia
   have q:=RcAt.tuples (e:=fun j=>(ds1.getD j .aq).ff (ds2.getD j .aq)) l1 l2 (by lia) fun j h1 h2=>
    have m:=(cB p1 h1).2
    uL (ds1.getD j .aq) (ds2.getD j .aq) _ _ A.in1 (cB p1 h1).1 (cB p2 h2).1 (by
     have:=j4 m;show A.units+1+_+1<cLine;lia)
   rw[ψ,ψ,p1.length,p2.length,i9] at q;exact q
 |.tup ds1,.lst ds2,u,v,A,p1,p2,hu=>by
  unfold Hv at p1;obtain⟨a1,its1,rfl,l1,p1⟩:=p1;unfold Hv at p2;obtain⟨a2,its2,rfl,l2,p2⟩:=p2;exact EqAt.tuple_list l1 l2 (by lia)
 |.lst ds1,.aq,u,v,A,p1,p2,hu=>by
  unfold Hv at p1;obtain⟨a1,its1,rfl,l1,p1⟩:=p1;unfold Hv at p2;subst p2;exact EqAt.list_none  l1 (by lia)
 |.lst ds1,.bl b2,u,v,A,p1,p2,hu=>by
  unfold Hv at p1;obtain⟨a1,its1,rfl,l1,p1⟩:=p1;unfold Hv at p2;subst p2;exact EqAt.list_bool b2 l1 (by lia)
 |.lst ds1,.int b2,u,v,A,p1,p2,hu=>by
  unfold Hv at p1;obtain⟨a1,its1,rfl,l1,p1⟩:=p1;unfold Hv at p2;obtain⟨t2,rfl⟩:=p2;exact EqAt.list_int b2 t2 l1 (by lia)
 |.lst ds1,.str b2,u,v,A,p1,p2,hu=>by
  unfold Hv at p1;obtain⟨a1,its1,rfl,l1,p1⟩:=p1;unfold Hv at p2;obtain⟨t2,rfl⟩:=p2;exact EqAt.list_str b2 t2 l1 (by lia)
 |.lst ds1,.tup ds2,u,v,A,p1,p2,hu=>by
  unfold Hv at p1;obtain⟨a1,its1,rfl,l1,p1⟩:=p1;unfold Hv at p2;obtain⟨a2,its2,rfl,l2,p2⟩:=p2;exact EqAt.list_tuple l1 l2 (by lia)
 |.lst ds1,.lst ds2,u,v,A,p1,p2,hu=>by
  unfold Hv at p1;obtain⟨a1,its1,rfl,l1,p1⟩:=p1;unfold Hv at p2;obtain⟨a2,its2,rfl,l2,p2⟩:=p2;unfold D.ff;by_cases ha:a1=a2
  ·subst ha;have e0:(.lst ds1:D)=.lst ds2:=Hv.inj (h:=s.heap) (u:=.ref a1) (by unfold Hv;exact⟨a1,its1,rfl,l1,p1⟩) (by unfold Hv;exact⟨a1,its2,rfl,l2,p2⟩);injection e0 with e0;subst e0;rw[p1.refl];exact EqAt.same _
  ·refine EqAt.of_refs ha ?_;have hdep:A.units+gr ds1+1+1<cLine:=by
    have e9:(.lst ds1:D).iL=gr ds1+1:=by first|rfl|(unfold D.iL;rfl)
    lia
   by_cases hn:ds1.length=ds2.length
   ·have q:=RcAt.lists (e:=fun j=>(ds1.getD j .aq).ff (ds2.getD j .aq)) l1 l2 (by simp[p1.length,p2.length,hn]) (by lia) fun j h1 h2=>
     have m:=(cB p1 h1).2
     uL (ds1.getD j .aq) (ds2.getD j .aq) _ _ A.in1 (cB p1 h1).1 (cB p2 h2).1 (by
      have:=j4 m;show A.units+1+_+1<cLine;lia)
    have q2:=i9 ds1 ds2;rw[hn,qE,beq_self_eq_true,pF] at q2;rw[ψ,p1.length,hn,q2] at q;exact q
   ·rw[oY _ _ hn];exact qB l1 l2 (by simp[p1.length,p2.length,hn]) (by lia)
 |.aq,.gO,u,v,A,p1,p2,hu=>by
  unfold Hv at p2;exact p2.elim
 |.bl b1,.gO,u,v,A,p1,p2,hu=>by
  unfold Hv at p2;exact p2.elim
 |.int b1,.gO,u,v,A,p1,p2,hu=>by
  unfold Hv at p2;exact p2.elim
 |.str b1,.gO,u,v,A,p1,p2,hu=>by
  unfold Hv at p2;exact p2.elim
 |.tup ds1,.gO,u,v,A,p1,p2,hu=>by
  unfold Hv at p2;exact p2.elim
 |.lst ds1,.gO,u,v,A,p1,p2,hu=>by
  unfold Hv at p2;exact p2.elim
 |.gO,e,u,v,A,p1,p2,hu=>by
  unfold Hv at p1;exact p1.elim
termination_by d=>sizeOf d
decreasing_by
 all_goals (have:=List.sizeOf_lt_of_mem m;first|(rw[D.tup.sizeOf_spec];lia)|(rw[D.lst.sizeOf_spec];lia))
theorem P9{s:ζ}(d e:D)(u v:δ)(A:bA)(p1:Hv s.heap d u)(p2:Hv s.heap e v)(hu:A.units+d.iL+1<cLine):RcAt A s u v (d.ff e):=
 match d,e,p1,p2,hu with
 |.aq,.aq,p1,p2,hu=>by
  unfold Hv at p1;subst p1;unfold Hv at p2;subst p2;exact RcAt.none_none
 |.aq,.bl b2,p1,p2,hu=>by
  unfold Hv at p1;subst p1;unfold Hv at p2;subst p2;exact RcAt.none_bool  b2
 |.aq,.int b2,p1,p2,hu=>by
  unfold Hv at p1;subst p1;unfold Hv at p2;obtain⟨t2,rfl⟩:=p2;exact RcAt.none_int  b2 t2
 |.aq,.str b2,p1,p2,hu=>by
  unfold Hv at p1;subst p1;unfold Hv at p2;obtain⟨t2,rfl⟩:=p2;exact RcAt.none_str  b2 t2
 |.aq,.tup ds2,p1,p2,hu=>by
  unfold Hv at p1;subst p1;unfold Hv at p2;obtain⟨a2,its2,rfl,l2,p2⟩:=p2;exact RcAt.none_tuple  l2 (by lia)
 |.aq,.lst ds2,p1,p2,hu=>by
  unfold Hv at p1;subst p1;unfold Hv at p2;obtain⟨a2,its2,rfl,l2,p2⟩:=p2;exact RcAt.none_list  l2 (by lia)
 |.bl b1,.aq,p1,p2,hu=>by
  unfold Hv at p1;subst p1;unfold Hv at p2;subst p2;exact RcAt.bool_none b1
 |.bl b1,.bl b2,p1,p2,hu=>by
  unfold Hv at p1;subst p1;unfold Hv at p2;subst p2;exact RcAt.bool_bool b1 b2
 |.bl b1,.int b2,p1,p2,hu=>by
  unfold Hv at p1;subst p1;unfold Hv at p2;obtain⟨t2,rfl⟩:=p2;exact RcAt.bool_int b1 b2 t2
 |.bl b1,.str b2,p1,p2,hu=>by
  unfold Hv at p1;subst p1;unfold Hv at p2;obtain⟨t2,rfl⟩:=p2;exact RcAt.bool_str b1 b2 t2
 |.bl b1,.tup ds2,p1,p2,hu=>by
  unfold Hv at p1;subst p1;unfold Hv at p2;obtain⟨a2,its2,rfl,l2,p2⟩:=p2;exact RcAt.bool_tuple b1 l2 (by lia)
 |.bl b1,.lst ds2,p1,p2,hu=>by
  unfold Hv at p1;subst p1;unfold Hv at p2;obtain⟨a2,its2,rfl,l2,p2⟩:=p2;exact RcAt.bool_list b1 l2 (by lia)
 |.int b1,.aq,p1,p2,hu=>by
  unfold Hv at p1;obtain⟨t1,rfl⟩:=p1;unfold Hv at p2;subst p2;exact RcAt.int_none b1 t1
 |.int b1,.bl b2,p1,p2,hu=>by
  unfold Hv at p1;obtain⟨t1,rfl⟩:=p1;unfold Hv at p2;subst p2;exact RcAt.int_bool b1 t1 b2
 |.int b1,.int b2,p1,p2,hu=>by
  unfold Hv at p1;obtain⟨t1,rfl⟩:=p1;unfold Hv at p2;obtain⟨t2,rfl⟩:=p2;exact RcAt.int_int b1 t1 b2 t2
 |.int b1,.str b2,p1,p2,hu=>by
  unfold Hv at p1;obtain⟨t1,rfl⟩:=p1;unfold Hv at p2;obtain⟨t2,rfl⟩:=p2;exact RcAt.int_str b1 t1 b2 t2
 |.int b1,.tup ds2,p1,p2,hu=>by
  unfold Hv at p1;obtain⟨t1,rfl⟩:=p1;unfold Hv at p2;obtain⟨a2,its2,rfl,l2,p2⟩:=p2;exact RcAt.int_tuple b1 t1 l2 (by lia)
 |.int b1,.lst ds2,p1,p2,hu=>by
  unfold Hv at p1;obtain⟨t1,rfl⟩:=p1;unfold Hv at p2;obtain⟨a2,its2,rfl,l2,p2⟩:=p2;exact RcAt.int_list b1 t1 l2 (by lia)
 |.str b1,.aq,p1,p2,hu=>by
  unfold Hv at p1;obtain⟨t1,rfl⟩:=p1;unfold Hv at p2;subst p2;exact RcAt.str_none b1 t1
 |.str b1,.bl b2,p1,p2,hu=>by
  unfold Hv at p1;obtain⟨t1,rfl⟩:=p1;unfold Hv at p2;subst p2;exact RcAt.str_bool b1 t1 b2
 |.str b1,.int b2,p1,p2,hu=>by
  unfold Hv at p1;obtain⟨t1,rfl⟩:=p1;unfold Hv at p2;obtain⟨t2,rfl⟩:=p2;exact RcAt.str_int b1 t1 b2 t2
 |.str b1,.str b2,p1,p2,hu=>by
  unfold Hv at p1;obtain⟨t1,rfl⟩:=p1;unfold Hv at p2;obtain⟨t2,rfl⟩:=p2;exact RcAt.str_str b1 t1 b2 t2
 |.str b1,.tup ds2,p1,p2,hu=>by
  unfold Hv at p1;obtain⟨t1,rfl⟩:=p1;unfold Hv at p2;obtain⟨a2,its2,rfl,l2,p2⟩:=p2;exact RcAt.str_tuple b1 t1 l2 (by lia)
 |.str b1,.lst ds2,p1,p2,hu=>by
  unfold Hv at p1;obtain⟨t1,rfl⟩:=p1;unfold Hv at p2;obtain⟨a2,its2,rfl,l2,p2⟩:=p2;exact RcAt.str_list b1 t1 l2 (by lia)
 |.tup ds1,.aq,p1,p2,hu=>by
  unfold Hv at p1;obtain⟨a1,its1,rfl,l1,p1⟩:=p1;unfold Hv at p2;subst p2;exact RcAt.tuple_none  l1 (by lia)
 |.tup ds1,.bl b2,p1,p2,hu=>by
  unfold Hv at p1;obtain⟨a1,its1,rfl,l1,p1⟩:=p1;unfold Hv at p2;subst p2;exact RcAt.tuple_bool b2 l1 (by lia)
 |.tup ds1,.int b2,p1,p2,hu=>by
  unfold Hv at p1;obtain⟨a1,its1,rfl,l1,p1⟩:=p1;unfold Hv at p2;obtain⟨t2,rfl⟩:=p2;exact RcAt.tuple_int b2 t2 l1 (by lia)
 |.tup ds1,.str b2,p1,p2,hu=>by
  unfold Hv at p1;obtain⟨a1,its1,rfl,l1,p1⟩:=p1;unfold Hv at p2;obtain⟨t2,rfl⟩:=p2;exact RcAt.tuple_str b2 t2 l1 (by lia)
 |.tup ds1,.tup ds2,p1,p2,hu=>by
  unfold Hv at p1;obtain⟨a1,its1,rfl,l1,p1⟩:=p1;unfold Hv at p2;obtain⟨a2,its2,rfl,l2,p2⟩:=p2;unfold D.ff;have hdep:A.units+gr ds1+1+1<cLine:=by
   have e9:(.tup ds1:D).iL=gr ds1+1:=by first|rfl|(unfold D.iL;rfl)
   lia
  have q:=RcAt.tuples (e:=fun j=>(ds1.getD j .aq).ff (ds2.getD j .aq)) l1 l2 (by lia) fun j h1 h2=>
   uL (ds1.getD j .aq) (ds2.getD j .aq) _ _ A.in1 (cB p1 h1).1 (cB p2 h2).1 (by
    have:=j4 (cB p1 h1).2;show A.units+1+_+1<cLine;lia)
  rw[ψ,ψ,p1.length,p2.length,i9] at q;exact q
 |.tup ds1,.lst ds2,p1,p2,hu=>by
  unfold Hv at p1;obtain⟨a1,its1,rfl,l1,p1⟩:=p1;unfold Hv at p2;obtain⟨a2,its2,rfl,l2,p2⟩:=p2;exact RcAt.tuple_list l1 l2 (by lia)
 |.lst ds1,.aq,p1,p2,hu=>by
  unfold Hv at p1;obtain⟨a1,its1,rfl,l1,p1⟩:=p1;unfold Hv at p2;subst p2;exact RcAt.list_none  l1 (by lia)
 |.lst ds1,.bl b2,p1,p2,hu=>by
  unfold Hv at p1;obtain⟨a1,its1,rfl,l1,p1⟩:=p1;unfold Hv at p2;subst p2;exact RcAt.list_bool b2 l1 (by lia)
 |.lst ds1,.int b2,p1,p2,hu=>by
  unfold Hv at p1;obtain⟨a1,its1,rfl,l1,p1⟩:=p1;unfold Hv at p2;obtain⟨t2,rfl⟩:=p2;exact RcAt.list_int b2 t2 l1 (by lia)
 |.lst ds1,.str b2,p1,p2,hu=>by
  unfold Hv at p1;obtain⟨a1,its1,rfl,l1,p1⟩:=p1;unfold Hv at p2;obtain⟨t2,rfl⟩:=p2;exact RcAt.list_str b2 t2 l1 (by lia)
 |.lst ds1,.tup ds2,p1,p2,hu=>by
  unfold Hv at p1;obtain⟨a1,its1,rfl,l1,p1⟩:=p1;unfold Hv at p2;obtain⟨a2,its2,rfl,l2,p2⟩:=p2;exact RcAt.list_tuple l1 l2 (by lia)
 |.lst ds1,.lst ds2,p1,p2,hu=>by
  unfold Hv at p1;obtain⟨a1,its1,rfl,l1,p1⟩:=p1;unfold Hv at p2;obtain⟨a2,its2,rfl,l2,p2⟩:=p2;unfold D.ff;have hdep:A.units+gr ds1+1+1<cLine:=by
   have e9:(.lst ds1:D).iL=gr ds1+1:=by first|rfl|(unfold D.iL;rfl)
   lia
  by_cases hn:ds1.length=ds2.length
  ·have q:=RcAt.lists (e:=fun j=>(ds1.getD j .aq).ff (ds2.getD j .aq)) l1 l2 (by simp[p1.length,p2.length,hn]) (by lia) fun j h1 h2=>
    uL (ds1.getD j .aq) (ds2.getD j .aq) _ _ A.in1 (cB p1 h1).1 (cB p2 h2).1 (by
     have:=j4 (cB p1 h1).2;show A.units+1+_+1<cLine;lia)
   have q2:=i9 ds1 ds2;rw[hn,qE,beq_self_eq_true,pF] at q2;rw[ψ,p1.length,hn,q2] at q;exact q
  ·rw[oY _ _ hn];exact qB l1 l2 (by simp[p1.length,p2.length,hn]) (by lia)
 |d,.gO,p1,p2,hu=>by
  unfold Hv at p2;exact p2.elim
 |.gO,e,p1,p2,hu=>by
  unfold Hv at p1;exact p1.elim
theorem P8{s:ζ}(d e:D)(u v:δ)(A:bA)(p1:Hv s.heap d u)(p2:Hv s.heap e v)(hu:A.units+d.iL+1<cLine):RcNeAt A s u v (!d.ff e):=
 match d,e,p1,p2,hu with
 |.aq,.aq,p1,p2,hu=>by
  unfold Hv at p1;subst p1;unfold Hv at p2;subst p2;exact RcNeAt.none_none
 |.aq,.bl b2,p1,p2,hu=>by
  unfold Hv at p1;subst p1;unfold Hv at p2;subst p2;exact RcNeAt.none_bool  b2
 |.aq,.int b2,p1,p2,hu=>by
  unfold Hv at p1;subst p1;unfold Hv at p2;obtain⟨t2,rfl⟩:=p2;exact RcNeAt.none_int  b2 t2
 |.aq,.str b2,p1,p2,hu=>by
  unfold Hv at p1;subst p1;unfold Hv at p2;obtain⟨t2,rfl⟩:=p2;exact RcNeAt.none_str  b2 t2
 |.aq,.tup ds2,p1,p2,hu=>by
  unfold Hv at p1;subst p1;unfold Hv at p2;obtain⟨a2,its2,rfl,l2,p2⟩:=p2;exact RcNeAt.none_tuple  l2 (by lia)
 |.aq,.lst ds2,p1,p2,hu=>by
  unfold Hv at p1;subst p1;unfold Hv at p2;obtain⟨a2,its2,rfl,l2,p2⟩:=p2;exact RcNeAt.none_list  l2 (by lia)
 |.bl b1,.aq,p1,p2,hu=>by
  unfold Hv at p1;subst p1;unfold Hv at p2;subst p2;exact RcNeAt.bool_none b1
 |.bl b1,.bl b2,p1,p2,hu=>by
  unfold Hv at p1;subst p1;unfold Hv at p2;subst p2;exact RcNeAt.bool_bool b1 b2
 |.bl b1,.int b2,p1,p2,hu=>by
  unfold Hv at p1;subst p1;unfold Hv at p2;obtain⟨t2,rfl⟩:=p2;exact RcNeAt.bool_int b1 b2 t2
 |.bl b1,.str b2,p1,p2,hu=>by
  unfold Hv at p1;subst p1;unfold Hv at p2;obtain⟨t2,rfl⟩:=p2;exact RcNeAt.bool_str b1 b2 t2
 |.bl b1,.tup ds2,p1,p2,hu=>by
  unfold Hv at p1;subst p1;unfold Hv at p2;obtain⟨a2,its2,rfl,l2,p2⟩:=p2;exact RcNeAt.bool_tuple b1 l2 (by lia)
 |.bl b1,.lst ds2,p1,p2,hu=>by
  unfold Hv at p1;subst p1;unfold Hv at p2;obtain⟨a2,its2,rfl,l2,p2⟩:=p2;exact RcNeAt.bool_list b1 l2 (by lia)
 |.int b1,.aq,p1,p2,hu=>by
  unfold Hv at p1;obtain⟨t1,rfl⟩:=p1;unfold Hv at p2;subst p2;exact RcNeAt.int_none b1 t1
 |.int b1,.bl b2,p1,p2,hu=>by
  unfold Hv at p1;obtain⟨t1,rfl⟩:=p1;unfold Hv at p2;subst p2;exact RcNeAt.int_bool b1 t1 b2
 |.int b1,.int b2,p1,p2,hu=>by
  unfold Hv at p1;obtain⟨t1,rfl⟩:=p1;unfold Hv at p2;obtain⟨t2,rfl⟩:=p2;exact RcNeAt.int_int b1 t1 b2 t2
 |.int b1,.str b2,p1,p2,hu=>by
  unfold Hv at p1;obtain⟨t1,rfl⟩:=p1;unfold Hv at p2;obtain⟨t2,rfl⟩:=p2;exact RcNeAt.int_str b1 t1 b2 t2
 |.int b1,.tup ds2,p1,p2,hu=>by
  unfold Hv at p1;obtain⟨t1,rfl⟩:=p1;unfold Hv at p2;obtain⟨a2,its2,rfl,l2,p2⟩:=p2;exact RcNeAt.int_tuple b1 t1 l2 (by lia)
 |.int b1,.lst ds2,p1,p2,hu=>by
  unfold Hv at p1;obtain⟨t1,rfl⟩:=p1;unfold Hv at p2;obtain⟨a2,its2,rfl,l2,p2⟩:=p2;exact RcNeAt.int_list b1 t1 l2 (by lia)
 |.str b1,.aq,p1,p2,hu=>by
  unfold Hv at p1;obtain⟨t1,rfl⟩:=p1;unfold Hv at p2;subst p2;exact RcNeAt.str_none b1 t1
 |.str b1,.bl b2,p1,p2,hu=>by
  unfold Hv at p1;obtain⟨t1,rfl⟩:=p1;unfold Hv at p2;subst p2;exact RcNeAt.str_bool b1 t1 b2
 |.str b1,.int b2,p1,p2,hu=>by
  unfold Hv at p1;obtain⟨t1,rfl⟩:=p1;unfold Hv at p2;obtain⟨t2,rfl⟩:=p2;exact RcNeAt.str_int b1 t1 b2 t2
 |.str b1,.str b2,p1,p2,hu=>by
  unfold Hv at p1;obtain⟨t1,rfl⟩:=p1;unfold Hv at p2;obtain⟨t2,rfl⟩:=p2;exact RcNeAt.str_str b1 t1 b2 t2
 |.str b1,.tup ds2,p1,p2,hu=>by
  unfold Hv at p1;obtain⟨t1,rfl⟩:=p1;unfold Hv at p2;obtain⟨a2,its2,rfl,l2,p2⟩:=p2;exact RcNeAt.str_tuple b1 t1 l2 (by lia)
 |.str b1,.lst ds2,p1,p2,hu=>by
  unfold Hv at p1;obtain⟨t1,rfl⟩:=p1;unfold Hv at p2;obtain⟨a2,its2,rfl,l2,p2⟩:=p2;exact RcNeAt.str_list b1 t1 l2 (by lia)
 |.tup ds1,.aq,p1,p2,hu=>by
  unfold Hv at p1;obtain⟨a1,its1,rfl,l1,p1⟩:=p1;unfold Hv at p2;subst p2;exact RcNeAt.tuple_none  l1 (by lia)
 |.tup ds1,.bl b2,p1,p2,hu=>by
  unfold Hv at p1;obtain⟨a1,its1,rfl,l1,p1⟩:=p1;unfold Hv at p2;subst p2;exact RcNeAt.tuple_bool b2 l1 (by lia)
 |.tup ds1,.int b2,p1,p2,hu=>by
  unfold Hv at p1;obtain⟨a1,its1,rfl,l1,p1⟩:=p1;unfold Hv at p2;obtain⟨t2,rfl⟩:=p2;exact RcNeAt.tuple_int b2 t2 l1 (by lia)
 |.tup ds1,.str b2,p1,p2,hu=>by
  unfold Hv at p1;obtain⟨a1,its1,rfl,l1,p1⟩:=p1;unfold Hv at p2;obtain⟨t2,rfl⟩:=p2;exact RcNeAt.tuple_str b2 t2 l1 (by lia)
 |.tup ds1,.tup ds2,p1,p2,hu=>by
  unfold Hv at p1;obtain⟨a1,its1,rfl,l1,p1⟩:=p1;unfold Hv at p2;obtain⟨a2,its2,rfl,l2,p2⟩:=p2;unfold D.ff;have hdep:A.units+gr ds1+1+1<cLine:=by
   have e9:(.tup ds1:D).iL=gr ds1+1:=by first|rfl|(unfold D.iL;rfl)
   lia
  have q:=RcNeAt.tuples (e:=fun j=>(ds1.getD j .aq).ff (ds2.getD j .aq)) l1 l2 (by lia) fun j h1 h2=>
   uL (ds1.getD j .aq) (ds2.getD j .aq) _ _ A.in1 (cB p1 h1).1 (cB p2 h2).1 (by
    have:=j4 (cB p1 h1).2;show A.units+1+_+1<cLine;lia)
  rw[ψ,ψ,p1.length,p2.length,i9] at q;exact q
 |.tup ds1,.lst ds2,p1,p2,hu=>by
  unfold Hv at p1;obtain⟨a1,its1,rfl,l1,p1⟩:=p1;unfold Hv at p2;obtain⟨a2,its2,rfl,l2,p2⟩:=p2;exact RcNeAt.tuple_list l1 l2 (by lia)
 |.lst ds1,.aq,p1,p2,hu=>by
  unfold Hv at p1;obtain⟨a1,its1,rfl,l1,p1⟩:=p1;unfold Hv at p2;subst p2;exact RcNeAt.list_none  l1 (by lia)
 |.lst ds1,.bl b2,p1,p2,hu=>by
  unfold Hv at p1;obtain⟨a1,its1,rfl,l1,p1⟩:=p1;unfold Hv at p2;subst p2;exact RcNeAt.list_bool b2 l1 (by lia)
 |.lst ds1,.int b2,p1,p2,hu=>by
  unfold Hv at p1;obtain⟨a1,its1,rfl,l1,p1⟩:=p1;unfold Hv at p2;obtain⟨t2,rfl⟩:=p2;exact RcNeAt.list_int b2 t2 l1 (by lia)
 |.lst ds1,.str b2,p1,p2,hu=>by
  unfold Hv at p1;obtain⟨a1,its1,rfl,l1,p1⟩:=p1;unfold Hv at p2;obtain⟨t2,rfl⟩:=p2;exact RcNeAt.list_str b2 t2 l1 (by lia)
 |.lst ds1,.tup ds2,p1,p2,hu=>by
  unfold Hv at p1;obtain⟨a1,its1,rfl,l1,p1⟩:=p1;unfold Hv at p2;obtain⟨a2,its2,rfl,l2,p2⟩:=p2;exact RcNeAt.list_tuple l1 l2 (by lia)
 |.lst ds1,.lst ds2,p1,p2,hu=>by
  unfold Hv at p1;obtain⟨a1,its1,rfl,l1,p1⟩:=p1;unfold Hv at p2;obtain⟨a2,its2,rfl,l2,p2⟩:=p2;unfold D.ff;have hdep:A.units+gr ds1+1+1<cLine:=by
   have e9:(.lst ds1:D).iL=gr ds1+1:=by first|rfl|(unfold D.iL;rfl)
   lia
  by_cases hn:ds1.length=ds2.length
  ·have q:=RcNeAt.lists (e:=fun j=>(ds1.getD j .aq).ff (ds2.getD j .aq)) l1 l2 (by simp[p1.length,p2.length,hn]) (by lia) fun j h1 h2=>
    uL (ds1.getD j .aq) (ds2.getD j .aq) _ _ A.in1 (cB p1 h1).1 (cB p2 h2).1 (by
     have:=j4 (cB p1 h1).2;show A.units+1+_+1<cLine;lia)
   have q2:=i9 ds1 ds2;rw[hn,qE,beq_self_eq_true,pF] at q2;rw[ψ,p1.length,hn,q2] at q;exact q
  ·rw[oY _ _ hn];exact RcNeAt.lists_lengths l1 l2 (by simp[p1.length,p2.length,hn]) (by lia)
 |d,.gO,p1,p2,hu=>by
  unfold Hv at p2;exact p2.elim
 |.gO,e,p1,p2,hu=>by
  unfold Hv at p1;exact p1.elim
end Dat
namespace L3
open PySem PySem.Spec PyProof.Rows L2
section
variable {X:Cx} {K:ι}
def CS(f:Int->Int->D):R3:=fun x y G Q=>match x,y with
 |.int i,.int j=>Q (f i j) G
 |_,_=>False
theorem df{H:Hp}{i:Int}{v:V}(h:Hv K H (.int i) v):v=.int i:=by unfold Hv at h;exact h
theorem rb{H:Hp}{i:Bool}{v:V}(h:Hv K H (.bl i) v):v=.bl i:=by unfold Hv at h;exact h
theorem de{H:Hp}{a:ε}{v:V}(h:Hv K H (.obj a) v):v=.ref a:=by unfold Hv at h;exact h
theorem fU{H:Hp}{ds:List D}{v:V}(h:Hv K H (.tup ds) v):∃a vs,v=.ref a/\dJ K H a vs/\aF K H ds vs:=by unfold Hv at h;exact h
theorem mj{H:Hp}{ds:List D}{v:V}(h:Hv K H (.fz ds) v):∃a vs,v=.ref a/\qz K H a vs/\aF K H ds vs:=by unfold Hv at h;exact h
theorem fC{H:Hp}{i:Int}:Hv K H (.int i) (.int i):=by simp[Hv]
theorem iW{H:Hp}{i:Bool}:Hv K H (.bl i) (.bl i):=by simp[Hv]
theorem jB{H:Hp}{a:ε}:Hv K H (.obj a) (.ref a):=by simp[Hv]
theorem iJ{H:Hp}{ds:List D}{a:ε}{vs:List V}(h:dJ K H a vs)(q:aF K H ds vs):Hv K H (.tup ds) (.ref a):=by
 unfold Hv;exact⟨a,vs,rfl,h,q⟩
theorem low_ints{f:Int->Int->D}{g:Int->Int->V}(hf:∀i j H,Hv K H (f i j) (g i j)):fj K (CS f) (ma g):=fun x y vx vy G H Q3 Q hx hy RG h k=>by
 cases x with
 |int i=>
  cases y with
  |int j=>
   rw[df hx,df hy];exact⟨i,j,rfl,rfl,k _ H _ G (hf i j H) (.refl H G) RG h⟩
  |_=>exact h.elim
 |_=>exact h.elim
abbrev oH:R3:=CS fun i j=>.int (i-j)
theorem qY:fj K oH (ma fun i j=>.int (i-j)):=low_ints fun _ _ _=>fC
abbrev w9:R3:=CS fun i j=>.bl (decide (i≤j))
theorem Qr:fj K w9 (ma fun i j=>.bl (decide (i≤j))):=low_ints fun _ _ _=>iW
abbrev uz:R3:=CS fun i j=>.bl (decide (j<i))
theorem xA:fj K uz (ma fun i j=>.bl (decide (j<i))):=low_ints fun _ _ _=>iW
abbrev Ln:R3:=CS fun i j=>.bl (decide (j≤i))
theorem Qu:fj K Ln (ma fun i j=>.bl (decide (j≤i))):=low_ints fun _ _ _=>iW
def iC(i:Int):Prop:=i.natAbs<2^4000
theorem zf{i:Int}(h:iC i):i.natAbs.log2<4000:=by
 by_cases h0:i.natAbs=0
 ·rw[h0];decide
 ·exact (Nat.log2_lt h0).mpr h
theorem ye{i:Int}(h:iC i):gZ i≤4000:=by
 unfold gZ;split
 ·exact aK _
 ·exact zf h
theorem Jv{i j:Int}(h1:iC i)(h2:iC j):IntMulOk i j:=by
 unfold IntMulOk eJ.Int.intTooBig;have b1:=ye h1;have b2:=ye h2;have:¬((gZ i:Int)+(gZ j:Int) > (bitsLine:Int)):=by
  have:(bitsLine:Int)=134217728:=by decide
  lia
 rw[decide_eq_false this];simp
theorem oK:ey X (binaryOp .FloorDiv) (rI (fun _ j=>0<j/\iC j) fun i j=>.int (i / j)):=GX fun i j _ _ _ _ _ hc q=>by
 have h1:(0:Int)<j:=hc.1;exact floordiv_int (by lia) (by rw[Int.fdiv_eq_ediv_of_nonneg i (by lia)];exact q) (.inl (PyProof.noPylong_of_log2 (jM (zf hc.2) (by decide))))
theorem Jp:ey X (binaryOp .Mult) (rI (fun i j=>iC i/\iC j) fun i j=>.int (i*j)):=GX fun _ _ _ _ _ _ _ hc q=>mul_int q (Jv hc.1 hc.2)
def Ag(C:Int->Int->Prop)(f:Int->Int->D):R3:=fun x y G Q=>match x,y with
 |.int i,.int j=>C i j/\Q (f i j) G
 |_,_=>False
theorem qf{C:Int->Int->Prop}{f:Int->Int->D}{g:Int->Int->V}(hf:∀i j H,Hv K H (f i j) (g i j)):fj K (Ag C f) (rI C g):=fun x y vx vy G H Q3 Q hx hy RG h k=>by
 cases x with
 |int i=>
  cases y with
  |int j=>
   rw[df hx,df hy];exact⟨i,j,rfl,rfl,h.1,k _ H _ G (hf i j H) (.refl H G) RG h.2⟩
  |_=>exact h.elim
 |_=>exact h.elim
abbrev tH:R3:=Ag (fun _ j=>0<j/\iC j) fun i j=>.int (i / j)
theorem vT:fj K tH (rI (fun _ j=>0<j/\iC j) fun i j=>.int (i / j)):=qf fun _ _ _=>fC
abbrev g4:R3:=Ag (fun _ j=>0<j) fun i j=>.int (i%j)
theorem iY:fj K g4 (rI (fun _ j=>0<j) fun i j=>.int (i%j)):=qf fun _ _ _=>fC
abbrev vQ:R3:=Ag Gn fun i j=>.int (i^j.toNat)
theorem AJ:fj K vQ (rI Gn fun i j=>.int (i^j.toNat)):=qf fun _ _ _=>fC
theorem Gh{prog:af}{w:ar}{A:bA}{E:δ->ζ->Prop}{s:ζ}{t b:ε}{ws:List δ}{Q:δ->ζ->Prop}(ht:gJ s.heap t #[])(hb:gJ s.heap b ws.toArray)(h1:Q (.ref b) s):
  π (model prog w) A (binaryOp .Add (.ref t) (.ref b)) Q E s:=by
 obtain⟨⟨cls,dd,data,sl⟩,ho,hc,n,hd⟩:=id ht;obtain⟨⟨cls2,dd2,data2,sl2⟩,ho2,hc2,n2,hd2⟩:=id hb;simp only at hc hd hc2 hd2;subst hc hd hc2 hd2;exact concat_meets ⟨_,ho,rfl⟩ ⟨_,ho2,rfl⟩ mw pC iR iD (iq _ _)
   (tuple_addW0 t b #[] ws.toArray n n2 dd dd2 sl sl2 rfl) ⟨ho,ho2,h1⟩
def CT(K:ι):R2:=fun x y H Q=>∃a b ys,x=.ref a/\y=.ref b/\dJ K H a []/\dJ K H b ys/\Q (.ref b) H
theorem Fg:ey X (binaryOp .Add) (CT X.K):=by
 intro pins s σ H x y v u Q I rx ry h;obtain⟨a,b,ys,rfl,rfl,ha,hb,q⟩:=h;cases rx;cases ry;obtain⟨its,r1,p1,_⟩:=I.tuple ha;obtain⟨its2,r2,p2,_⟩:=I.tuple hb;cases r1;exact Gh p1 p2 ⟨.ref b,H,I,rfl,q⟩
def eK:R3:=fun x y G Q=>match x,y with
 |.int i,.int j=>Q (.int (i+j)) G
 |.obj a,.obj b=>∃ds es,G a=some (.lst ds)/\G b=some (.lst es)/\ds.length+es.length≤aj/\∀p G',dw G p (.lst (ds++es)) G'->Q (.obj p) G'
 |.tup ds,.tup es=>ds.length+es.length≤aj/\Q (.tup (ds++es)) G
 |_,_=>False
abbrev GQ(K:ι):R2:=fun x y H Q=>ma (fun i j=>.int (i+j)) x y H Q∨(Lo x y H Q∨(GP K x y H Q∨CT K x y H Q))
theorem dy:ey X (binaryOp .Add) (GQ X.K):=LQ.or (LP.or (Jq.or Fg))
theorem fh:fj K eK (GQ K):=fun x y vx vy G H Q3 Q hx hy RG h k=>by
 cases x with
 |int i=>
  cases y with
  |int j=>
   rw[df hx,df hy];exact .inl ⟨i,j,rfl,rfl,k _ H _ G fC (.refl H G) RG h⟩
  |_=>exact h.elim
 |obj a=>
  cases y with
  |obj b=>
   rw[de hx,de hy];obtain⟨ds,es,e1,e2,hz,q⟩:=h;obtain⟨vs,z1,z2⟩:=RG a _ e1;obtain⟨us,y1,y2⟩:=RG b _ e2;refine .inr (.inl ⟨a,b,vs,us,rfl,rfl,z1,y1,by rw[←z2.length,←y2.length];exact hz,fun p hp=>?_⟩);exact k _ _ (.obj p) _ jB (.g5 hp) (RG.qe hp (z2.append y2)) (q p _ (.mk' (RG.free hp)))
  |_=>exact h.elim
 |tup ds=>
  cases y with
  |tup es=>
   obtain⟨a,vs,rfl,e1,e2⟩:=fU hx;obtain⟨b,us,rfl,y1,y2⟩:=fU hy;by_cases h0:vs=[]
   ·subst h0;have:ds=[]:=by
     have:=e2.length;exact gg (by simpa using this)
    subst this;exact .inr (.inr (.inr ⟨a,b,us,rfl,rfl,e1,y1,k _ H (.tup es) G (iJ y1 y2) (.refl H G) RG h.2⟩))
   ·refine .inr (.inr (.inl ⟨a,b,vs,us,rfl,rfl,e1,y1,h0,by rw[←e2.length,←y2.length];exact h.1,fun z=>?_,fun z p hp=>?_⟩))
    ·subst z;have:es=[]:=gg (by simpa using y2.length);subst this;refine k _ H (.tup ds) G (iJ e1 e2) (.refl H G) RG ?_;have:=h.2;rwa [cI] at this
    ·exact k _ _ (.tup (ds++es)) G (iJ (.of cm) ((e2.append y2).ext (.laid hp))) (.laid hp) (RG.laid hp) h.2
  |_=>exact h.elim
 |_=>exact h.elim
def lB:R3:=fun x y G Q=>match x,y with
 |.int i,.int j=>(iC i/\iC j)/\Q (.int (i*j)) G
 |.obj a,.int k=>∃ds,G a=some (.lst ds)/\(-(2^63)≤k/\k<2^63)/\ds.length*k.toNat≤aj/\∀p G',dw G p (.lst (bo k.toNat ds).flatten) G'->Q (.obj p) G'
 |_,_=>False
abbrev GN:R2:=fun x y H Q=>rI (fun i j=>iC i/\iC j) (fun i j=>.int (i*j)) x y H Q∨Lh x y H Q
theorem jg:ey X (binaryOp .Mult) GN:=Jp.or LM
theorem mY:fj K lB GN:=fun x y vx vy G H Q3 Q hx hy RG h k=>by
 cases x with
 |int i=>
  cases y with
  |int j=>
   rw[df hx,df hy];exact .inl ⟨i,j,rfl,rfl,h.1,k _ H _ G fC (.refl H G) RG h.2⟩
  |_=>exact h.elim
 |obj a=>
  cases y with
  |int j=>
   rw[de hx,df hy];obtain⟨ds,e1,hk,hz,q⟩:=h;obtain⟨vs,z1,z2⟩:=RG a _ e1;refine .inr ⟨a,j,vs,rfl,rfl,z1,hk.1,hk.2,by rw[←z2.length];exact hz,fun p hp=>?_⟩;exact k _ _ (.obj p) _ jB (.g5 hp) (RG.qe hp (z2.rep _)) (q p _ (.mk' (RG.free hp)))
  |_=>exact h.elim
 |_=>exact h.elim
def AL:D->Bool
 |.aq=>true
 |_=>false
def Lm(neg:Bool):R3:=fun x y G Q=>match y with
 |.aq=>Q (.bl (if neg then !AL x else AL x)) G
 |_=>False
theorem Fv{H:Hp}{x:D}{v:V}(h:Hv K H x v):decide (v=.aq)=AL x:=by
 cases x with
 |aq=>unfold Hv at h;subst h;rfl
 |bl b=>rw[rb h];rfl
 |int b=>rw[df h];rfl
 |str b=>unfold Hv at h;subst h;rfl
 |obj b=>rw[de h];rfl
 |tup ds=>obtain⟨a,vs,rfl,_⟩:=fU h;rfl
 |fz ds=>obtain⟨a,vs,rfl,_⟩:=mj h;rfl
 |dc a=>unfold Hv at h;rw[h.1];rfl
theorem Qt:fj K (Lm false) (fun x y H Q=>y=.aq/\Q (.bl (decide (x=.aq))) H):=fun x y vx vy G H Q3 Q hx hy RG h k=>by
 cases y with
 |aq=>
  refine⟨by unfold Hv at hy;exact hy,?_⟩;rw[Fv hx];exact k _ H _ G iW (.refl H G) RG h
 |_=>exact h.elim
def intsOf:List D->Option (List Int)
 |[]=>some []
 |.int i::r=>(intsOf r).map (i::·)
 |_::_=>none
theorem gU{H:Hp}:∀{ds:List D} {vs:List V} {ns:List Int},aF K H ds vs->intsOf ds=some ns->vs=ns.map V.int
 |[],vs,ns,h,e=>by
  cases e;exact h.gD
 |d::ds,vs,ns,h,e=>by
  cases d with
  |int i=>
   obtain⟨v,r,rfl,z1,z2⟩:=h.inv;unfold intsOf at e;cases hm:intsOf ds with
   |none=>rw[hm] at e;cases e
   |some ms=>
    rw[hm] at e;cases e;rw[df z1,gU z2 hm];rfl
  |_=>cases e
def qS:R3:=fun x y G Q=>match x,y with
 |.int i,.int j=>Q (.bl (decide (i<j))) G
 |.tup ds,.tup es=>∃ns ms,intsOf ds=some ns/\intsOf es=some ms/\Q (.bl (HT.lexLt ns ms)) G
 |_,_=>False
abbrev Lj(K:ι):R2:=fun x y H Q=>ma (fun i j=>.bl (decide (i<j))) x y H Q∨Li K x y H Q
theorem tL(hu:X.A.units<cLine):ey X (compareOp .Lt) (Lj X.K):=Ox.or (LN hu)
theorem vS:fj K qS (Lj K):=fun x y vx vy G H Q3 Q hx hy RG h k=>by
 cases x with
 |int i=>
  cases y with
  |int j=>
   rw[df hx,df hy];exact .inl ⟨i,j,rfl,rfl,k _ H _ G iW (.refl H G) RG h⟩
  |_=>exact h.elim
 |tup ds=>
  cases y with
  |tup es=>
   obtain⟨a,vs,rfl,e1,e2⟩:=fU hx;obtain⟨b,us,rfl,y1,y2⟩:=fU hy;obtain⟨ns,ms,z1,z2,q⟩:=h;have q1:=gU e2 z1;have q2:=gU y2 z2;subst q1 q2;exact .inr ⟨a,b,ns,ms,rfl,rfl,e1,y1,k _ H _ G iW (.refl H G) RG q⟩
  |_=>exact h.elim
 |_=>exact h.elim
def eB:R3:=fun x y G Q=>match x,y with
 |.tup ds,.int i=>∃d,iM ds i=some d/\Q d G
 |.fz ds,.int i=>∃d,iM ds i=some d/\Q d G
 |.obj p,.int i=>∃ds d,G p=some (.lst ds)/\iM ds i=some d/\Q d G
 |_,_=>False
theorem n9{H:Hp}{ds:List D}{vs:List V}{i:Int}{d:D}(h:aF K H ds vs)(e:iM ds i=some d):∃v,iM vs i=some v/\Hv K H d v:=by
 unfold iM at e ⊢;rw[←h.length];cases hx:qi ds.length i with
 |none=>rw[hx] at e;cases e
 |some j=>
  rw[hx] at e;exact h.get e
theorem Qs:fj K eB (PF K):=fun x y vx vy G H Q3 Q hx hy RG h k=>by
 cases y with
 |int i=>
  rw[df hy];cases x with
  |tup ds=>
   obtain⟨d,e,q⟩:=h;obtain⟨a,vs,rfl,e1,e2⟩:=fU hx;obtain⟨v,z1,z2⟩:=n9 e2 e;exact .inr (.inl ⟨a,vs,i,v,rfl,rfl,e1,z1,k _ H d G z2 (.refl H G) RG q⟩)
  |fz ds=>
   obtain⟨d,e,q⟩:=h;obtain⟨a,vs,rfl,e1,e2⟩:=mj hx;obtain⟨v,z1,z2⟩:=n9 e2 e;exact .inl ⟨a,vs,i,v,rfl,rfl,e1.l,z1,k _ H d G z2 (.refl H G) RG q⟩
  |obj p=>
   obtain⟨ds,d,e0,e,q⟩:=h;rw[de hx];obtain⟨vs,e1,e2⟩:=RG p _ e0;obtain⟨v,z1,z2⟩:=n9 e2 e;exact .inl ⟨p,vs,i,v,rfl,rfl,.of e1,z1,k _ H d G z2 (.refl H G) RG q⟩
  |_=>exact h.elim
 |_=>cases x<;>exact h.elim
theorem QJ{a b:ρ}{ta tb:aD}{pos:aL}(ha:bP X a ta)(hb:bP X b tb)(hs:og b:=by intro _ _;rfl):bP X (.Subscript a b pos) (aR eB ta tb):=eD (GU DQ ha hb hs) fun _ _ _ h=>qX Qs h
def xO(ta:cJ)(tb:aD):aD:=fun τ G Q=>ta τ G fun ds G1=>pY (tb τ G1 fun y G2=>match y with
 |.int i=>∃d,iM ds i=some d/\Q d G2
 | _=>False) ds 64
theorem J9{es:List ρ}{b:ρ}{ta:cJ}{tb:aD}{pos pos':aL}(ha:jk X es ta)(hb:bP X b tb)(hs:og b:=by intro _ _;rfl):bP X (.Subscript (.List es pos') b pos) (xO ta tb):=
 eD (GU DQ (Dg ha) hb hs) fun σ H Q ⟨τ,G,Q3,RS,RG,h,k⟩=>by
  refine⟨τ,G,_,RS,RG,h,fun vs H1 ds G1 h1 S1 R1 q1=>?_⟩;obtain⟨z,q1⟩:=mV q1;refine⟨by rw[←h1.length];exact xx z,fun p hp=>?_⟩;refine⟨τ,G1,_,(RS.ext (S1.ext RG)).ext (.laid hp),R1.laid hp,q1,fun v2 H2 d2 G2 h2 S2 R2 q2=>?_⟩;have e2:H2 p=some (.lst vs):=S2.fr p _ cm (R1.free hp);cases d2 with
  |int i=>
   obtain⟨d,e,q⟩:=q2;obtain⟨v,z1,z2⟩:=n9 ((h1.ext (.laid hp)).ext (S2.ext (R1.laid hp))) e;rw[df h2];exact .inl ⟨p,vs,i,v,rfl,rfl,.of e2,z1,k _ H2 d G2 z2 ((S1.trans (.laid hp)).trans S2) R2 q⟩
  |_=>exact q2.elim
end
end L3
namespace L3
open PySem PySem.Spec PyProof.Rows L2
mutual
def jv:D->Option Dat.D
 |.aq=>some .aq
 |.bl b=>some (.bl b)
 |.int i=>some (.int i)
 |.str x=>some (.str x)
 |.tup ds=>match fO ds with
  |some xs=>some (.tup xs)
  |none=>none
 |.fz ds=>match fO ds with
  |some xs=>some (.lst xs)
  |none=>none
 |.obj _=>none
 |.dc _=>none
def fO:List D->Option (List Dat.D)
 |[]=>some []
 |d::ds=>match jv d with
  |some x=>match fO ds with
   |some xs=>some (x::xs)
   |none=>none
  |none=>none
end
def sL(G:Gp):D->Option Dat.D
 |.obj a=>match G a with
  |some (.lst ds)=>match fO ds with
   |some xs=>some (.lst xs)
   |none=>none
  |_=>none
 |d=>jv d
section
variable {X:Cx} {pins:List (ε×aT)} {σ:L2.St} {H:Hp} {s:ζ}
mutual
theorem ji(I:Inv X pins σ H s):∀{d:D} {v:V} {u:δ} {x:Dat.D},Hv X.K H d v->RelV v u->jv d=some x->Dat.Hv s.heap x u
 |.aq,v,u,x,h,r,e=>by
  unfold Hv at h;subst h;cases e;unfold Dat.Hv;exact r
 |.bl b,v,u,x,h,r,e=>by
  unfold Hv at h;subst h;cases e;unfold Dat.Hv;exact r
 |.int b,v,u,x,h,r,e=>by
  unfold Hv at h;subst h;cases e;unfold Dat.Hv;exact r
 |.str b,v,u,x,h,r,e=>by
  unfold Hv at h;subst h;cases e;unfold Dat.Hv;exact r
 |.obj a,v,u,x,h,r,e=>by cases e
 |.dc a,v,u,x,h,r,e=>by cases e
 |.tup ds,v,u,x,h,r,e=>by
  obtain⟨a,vs,rfl,q1,q2⟩:=fU h;cases r;unfold jv at e;cases hd:fO ds with
  |none=>rw[hd] at e;cases e
  |some xs=>
   rw[hd] at e;cases e;obtain⟨its,rv,p,_⟩:=I.tuple q1;unfold Dat.Hv;exact⟨a,its,rfl,p,o4 I q2 rv hd⟩
 |.fz ds,v,u,x,h,r,e=>by
  obtain⟨a,vs,rfl,q1,q2⟩:=mj h;cases r;unfold jv at e;cases hd:fO ds with
  |none=>rw[hd] at e;cases e
  |some xs=>
   rw[hd] at e;cases e;obtain⟨its,rv,p,_⟩:=I.list q1.l;unfold Dat.Hv;exact⟨a,its,rfl,p.isList,o4 I q2 rv hd⟩
theorem o4(I:Inv X pins σ H s):∀{ds:List D} {vs:List V} {us:List δ} {xs:List Dat.D},aF X.K H ds vs->bc vs us->fO ds=some xs->Dat.aF s.heap xs us
 |[],vs,us,xs,h,r,e=>by
  cases h.gD;cases r;cases e;unfold Dat.aF;rfl
 |d::ds,vs,us,xs,h,r,e=>by
  obtain⟨v,vr,rfl,q1,q2⟩:=h.inv;unfold fO at e;cases hd:jv d with
  |none=>rw[hd] at e;cases e
  |some x=>
   rw[hd] at e;cases hr:fO ds with
   |none=>rw[hr] at e;cases e
   |some xr=>
    rw[hr] at e;cases e;cases r with
    |cons r1 r2=>
     unfold Dat.aF;exact⟨_,_,rfl,ji I q1 r1 hd,o4 I q2 r2 hr⟩
end
theorem tY{G:Gp}(I:Inv X pins σ H s)(RG:bf X.K G H){d:D}{v:V}{u:δ}{x:Dat.D}(h:Hv X.K H d v)(r:RelV v u)(e:sL G d=some x):Dat.Hv s.heap x u:=by
 cases d with
 |obj a=>
  rw[de h] at r;cases r;unfold sL at e;cases hG:G a with
  |none=>simp[hG] at e
  |some o=>
   cases o with
   |lst ds=>
    simp only[hG] at e;cases hr:fO ds with
    |none=>rw[hr] at e;cases e
    |some xs=>
     rw[hr] at e;cases e;obtain⟨vs,e1,e2⟩:=RG a _ hG;obtain⟨its,rv,p,_⟩:=I.list (eQ.of e1);unfold Dat.Hv;exact⟨a,its,rfl,p.isList,o4 I e2 rv hr⟩
   |md=>simp[hG] at e
   |gO=>simp[hG] at e
   |gen R=>simp[hG] at e
 |aq=>exact ji I h r e
 |bl _=>exact ji I h r e
 |int _=>exact ji I h r e
 |str _=>exact ji I h r e
 |tup _=>exact ji I h r e
 |fz _=>exact ji I h r e
 |dc _=>exact ji I h r e
end
section
variable {X:Cx} {a b e:ρ} {ta tb:aD} {pos:aL}
def fA(neg:Bool):R3:=fun x y G Q=>∃u v,sL G x=some u/\sL G y=some v/\u.iL≤50/\Q (.bl (if neg then !u.ff v else u.ff v)) G
def BX(X:Cx)(f:δ->δ->Sem δ)(r:R3):Prop:=
 ∀(pins:List (ε×aT)) (s:ζ) (σ:L2.St) (H:Hp) (G:Gp) (x y:D) (vx vy:V) (u v:δ) (Q3:V3),Inv X pins σ H s->bf X.K G H->Hv X.K H x vx->Hv X.K H y vy->RelV vx u->RelV vy v->r x y G Q3 ->
  π (model X.prog X.w) X.A (f u v) (EP X pins σ fun w H'=>∃d G',Hv X.K H' d w/\Step H G H' G'/\bf X.K G' H'/\Q3 d G') X.xe s
theorem Rz(hu:X.A.units+64<cLine):BX X (compareOp .Eq) (fA false):=by
 intro pins s σ H G x y vx vy u v Q3 I RG hx hy rx ry ⟨p,q,e1,e2,hd,h⟩;have:=Dat.P9 p q u v X.A (tY I RG hx rx e1) (tY I RG hy ry e2) (by lia);exact this _ _ _ _ ⟨.bl (p.ff q),H,I,rfl,.bl (p.ff q),G,iW,.refl H G,RG,h⟩
theorem Q7(hu:X.A.units+64<cLine):BX X (compareOp .NotEq) (fA true):=by
 intro pins s σ H G x y vx vy u v Q3 I RG hx hy rx ry ⟨p,q,e1,e2,hd,h⟩;have:=Dat.P8 p q u v X.A (tY I RG hx rx e1) (tY I RG hy ry e2) (by lia);exact this _ _ _ _ ⟨.bl (!p.ff q),H,I,rfl,.bl (!p.ff q),G,iW,.refl H G,RG,h⟩
def rp(K:ι)(r:R3):R2:=fun vx vy H Q=>∃x y G Q3,bf K G H/\Hv K H x vx/\Hv K H y vy/\r x y G Q3/\∀v H' d G',Hv K H' d v->Step H G H' G'->bf K G' H'->Q3 d G'->Q v H'
theorem BX.op{f:δ->δ->Sem δ}{r:R3}(h:BX X f r):ey X f (rp X.K r):=by
 intro pins s σ H vx vy u v Q I rx ry ⟨x,y,G,Q3,RG,hx,hy,q,k⟩;refine bK (h pins s σ H G x y vx vy u v Q3 I RG hx hy rx ry q) fun w s' ⟨v',H',I',r',d,G',z1,z2,z3,z4⟩=>⟨v',H',I',r',k v' H' d G' z1 z2 z3 z4⟩
theorem Hq{K:ι}{r:R3}:fj K r (rp K r):=fun x y vx vy G H Q3 Q hx hy RG h k=>⟨x,y,G,Q3,RG,hx,hy,h,k⟩
theorem ky(hu:X.A.units+64<cLine):ey X (compareOp .Eq) (rp X.K (fA false)):=(Rz hu).op
theorem qd(hu:X.A.units+64<cLine):ey X (compareOp .NotEq) (rp X.K (fA true)):=(Q7 hu).op
theorem qh{K:ι}:fj K (fA false) (rp K (fA false)):=Hq
theorem xy{K:ι}:fj K (fA true) (rp K (fA true)):=Hq
abbrev vz:=S3->Gp->(Option Int->Gp->Prop)->Prop
def Qq(K:ι)(t:vz):TO:=fun σ H Q=>∃τ G Q3,dY K τ σ H/\bf K G H/\t τ G Q3/\∀o H' G',Step H G H' G'->bf K G' H'->Q3 o G'->Q o H'
abbrev Eg(X:Cx)(e:Option ρ)(t:vz):Prop:=PO X e (Qq X.K t)
theorem GS{o:Option ρ}{t t':TO}(h:PO X o t)(f:∀σ H Q,t' σ H Q->t σ H Q):PO X o t':=fun pins s σ H Q I q=>h pins s σ H Q I (f σ H Q q)
def Au:vz:=fun _ G Q=>Q none G
def tN(t:aD):vz:=fun τ G Q=>t τ G fun x G1=>match x with
 |.int i=>Q (some i) G1
 |_=>False
theorem L5:Eg X none Au:=GS Jd fun σ H Q ⟨τ,G,Q3,RS,RG,h,k⟩=>k none H G (.refl H G) RG h
theorem L4(h:bP X e ta):Eg X (some e) (tN ta):=GS (Jc h) fun σ H Q ⟨τ,G,Q3,RS,RG,h,k⟩=>
 ⟨τ,G,_,RS,RG,h,fun v H1 d G1 h1 S1 R1 q1=>by
  cases d with
  |int i=>exact⟨i,df h1,k (some i) H1 G1 S1 R1 q1⟩
  |_=>exact q1.elim⟩
def kP(ds:List D)(lo hi:Option Int):List D:=(ds.drop (HT.bQ ds.length 0 lo)).take (HT.bQ ds.length ds.length hi-HT.bQ ds.length 0 lo)
def Hw(ta:aD)(tl th:vz):aD:=fun τ G Q=>ta τ G fun x G1=>tl τ G1 fun lo G2=>th τ G2 fun hi G3=>match x with
 |.tup ds=>Q (.tup (kP ds lo hi)) G3
 |.fz ds=>∀p G4,dw G3 p (.lst (kP ds lo hi)) G4->Q (.obj p) G4
 |.obj a=>∃ds,G3 a=some (.lst ds)/\∀p G4,dw G3 p (.lst (kP ds lo hi)) G4->Q (.obj p) G4
 |_=>False
theorem uM{K:ι}{H:Hp}{ds:List D}{vs:List V}(h:aF K H ds vs)(lo hi:Option Int):aF K H (kP ds lo hi) (qu vs lo hi):=by
 unfold kP qu;rw[h.length];exact (h.drop _).take _
theorem pG{prog:af}{w:ar}{A:bA}{E:δ->ζ->Prop}{s:ζ}{t sl:ε}{items:Array δ}{vl vu:δ}{lo hi:Option Int}{Q:δ->ζ->Prop}(ht:gJ s.heap t items)(hs:s.heap.IsSliceOf sl vl vu .none)(pl:jP vl lo)(pu:jP vu hi)
  (hw:HT.bQ items.size 0 lo=0/\HT.bQ items.size items.size hi=items.size) (h:Q (.ref t) s):π (model prog w) A (getItem (.ref t) (.ref sl)) Q E s:=by
 obtain⟨os,hos,hcs,hds⟩:=id hs;have hTs:s.TypeIs (.ref sl) "slice":=⟨os,hos,hcs⟩;unfold getItem
 try with_reducible refine br ?_
 first|refine γ (η ?_)|skip
 refine γ (wpAny_sequenceKey ht.typeIs (by decide) ?_);refine γ (eE (name:=ip "__getitem__") ht.typeIs cg
  (cz cg ht.typeIs entry_tuple_getitem ?_ (args_tuple_getitem _ _)))
 show π _ _ (gR (.ref t) >>= _) _ _ s;refine γ (tupleItemsOf_ ht ?_);refine γ (eR hTs ?_);rw[if_pos (by decide)];refine γ (HT.lX hs pl pu ?_);have hyes:(((HT.bQ items.size 0 lo:Nat):Int)==0&&(1:Int)==1&&(HT.bQ items.size items.size hi-HT.bQ items.size 0 lo)==items.size)=true:=by
  rw[hw.1,hw.2];simp
 show π _ _ (if (((HT.bQ items.size 0 lo:Nat):Int)==0&&(1:Int)==1&&(HT.bQ items.size items.size hi-HT.bQ items.size 0 lo)==items.size)=true then _ else _) _ _ s;rw[if_pos hyes];unfold eJ.Tuple.tupleIsExact;refine γ (γ (eR ht.typeIs (η ?_)));rw[if_pos (by decide)];exact γ (lJ (η ⟨_,rfl,η h⟩))
def Oi(K:ι):V->Option Int->Option Int->Hp->VK->Prop:=fun x lo hi H Q=>∃a xs,x=.ref a/\dJ K H a xs ∧
 (HT.bQ xs.length 0 lo=0/\HT.bQ xs.length xs.length hi=xs.length)/\Q (.ref a) H
theorem IH:vA X (Oi X.K):=by
 intro pins s σ H x v vl vu lo hi sl Q I rx hs pl pu h;obtain⟨a,xs,rfl,hx,hw,q⟩:=h;cases rx;obtain⟨its,r,ht,hz⟩:=I.tuple hx;have hlen:its.toArray.size=xs.length:=by rw[ψ];exact r.length.symm
 refine⟨"tuple",_,cg.lookup,ht.typeIs,?_⟩;exact pG ht hs pl pu (by rw[hlen];exact hw) ⟨.ref a,H,I,rfl,q⟩
theorem QF{lo hi:Option ρ}{tl th:vz}{p2:aL}(ha:bP X a ta)(hl:Eg X lo tl)(hh:Eg X hi th):bP X (.Subscript a (.Slice lo hi none p2) pos) (Hw ta tl th):=
 eD (Ff (KD.or (IH.or II)) ha hl hh) fun σ H Q ⟨τ,G,Q3,RS,RG,h,k⟩=>by
  refine⟨τ,G,_,RS,RG,h,fun v1 H1 d1 G1 h1 S1 R1 q1=>?_⟩;have RS1:=RS.ext (S1.ext RG);refine⟨τ,G1,_,RS1,R1,q1,fun l H2 G2 S2 R2 q2=>?_⟩;have RS2:=RS1.ext (S2.ext R1);refine⟨τ,G2,_,RS2,R2,q2,fun u H3 G3 S3 R3 q3=>?_⟩;have S13:Step H G H3 G3:=(S1.trans S2).trans S3;have hv:=(h1.ext (S2.ext R1)).ext (S3.ext R2);cases d1 with
  |tup ds=>
   obtain⟨a',vs,rfl,e1,e2⟩:=fU hv;by_cases hw:HT.bQ vs.length 0 l=0/\HT.bQ vs.length vs.length u=vs.length
   ·refine .inr (.inl ⟨a',vs,rfl,e1,hw,k _ H3 (.tup (kP ds l u)) G3 (iJ e1 ?_) S13 R3 q3⟩);have:kP ds l u=ds:=by
     unfold kP;rw[e2.length,hw.1,hw.2];simp[←e2.length]
    rw[this];exact e2
   ·refine .inl ⟨a',vs,rfl,e1,hw,fun p hp=>?_⟩;exact k _ _ (.tup (kP ds l u)) G3 (iJ (.of cm) ((uM e2 l u).ext (.laid hp))) (S13.trans (.laid hp)) (R3.laid hp) q3
  |fz ds=>
   obtain⟨a',vs,rfl,e1,e2⟩:=mj hv;refine .inr (.inr ⟨a',vs,rfl,e1.l,fun p hp=>?_⟩);exact k _ _ (.obj p) _ jB (S13.trans (.g5 hp)) (R3.qe hp (uM e2 l u)) (q3 p _ (.mk' (R3.free hp)))
  |obj a'=>
   rw[de hv];obtain⟨ds,e0,q3⟩:=q3;obtain⟨vs,e1,e2⟩:=R3 a' _ e0;refine .inr (.inr ⟨a',vs,rfl,.of e1,fun p hp=>?_⟩);exact k _ _ (.obj p) _ jB (S13.trans (.g5 hp)) (R3.qe hp (uM e2 l u)) (q3 p _ (.mk' (R3.free hp)))
  |_=>exact q3.elim
end
end L3
namespace L3
open PySem PySem.Spec PyProof.Rows L2
abbrev C3:=List D->Gp->V3->Prop
def dg(r:C3)(t:cJ):aD:=fun τ G Q=>t τ G fun ds G1=>r ds G1 Q
def mq(K:ι)(r:C3)(r2:List V->Hp->VK->Prop):Prop:=∀ds vs G H Q3 Q,aF K H ds vs->bf K G H->r ds G Q3->(∀v H' d G',Hv K H' d v->Step H G H' G'->bf K G' H'->Q3 d G'->Q v H')->r2 vs H Q
section
variable {X:Cx} {K:ι} {e:ρ} {es:List ρ} {t:cJ} {ta:aD} {pos p:aL}
theorem Mq{r:C3}{r2:List V->Hp->VK->Prop}(L:mq K r r2){σ:L2.St}{H:Hp}{Q:VK}(h:low K (dg r t) σ H Q):GG r2 (oP K t) σ H Q:=by
 obtain⟨τ,G,Q3,RS,RG,h,k⟩:=h;refine⟨τ,G,_,RS,RG,h,fun vs H1 ds G1 h1 S1 R1 q1=>?_⟩;exact L _ _ _ _ _ _ h1 R1 q1 fun v H' d G' z1 z2 z3 z4=>k v H' d G' z1 (S1.trans z2) z3 z4
theorem nv{r:C3}{r2:List V->Hp->VK->Prop}(L:mq X.K r r2)(h:PE X e (GG r2 (oP X.K t))):bP X e (dg r t):=eD h fun _ _ _ h=>Mq L h
theorem kM{H:Hp}{d:D}{vs:List V}(h:aF K H [d] vs):∃v,vs=[v]/\Hv K H d v:=by
 obtain⟨v,r,rfl,z1,z2⟩:=h.inv;cases z2.gD;exact⟨v,rfl,z1⟩
theorem Qw{H:Hp}{d d':D}{vs:List V}(h:aF K H [d,d'] vs):∃v v',vs=[v,v']/\Hv K H d v/\Hv K H d' v':=by
 obtain⟨v,r,rfl,z1,z2⟩:=h.inv;obtain⟨v',rfl,z3⟩:=kM z2;exact⟨v,v',rfl,z1,z3⟩
def g0:C3:=fun ds G Q=>match ds with
 |[.obj a]=>∃xs,G a=some (.lst xs)/\Q (.int xs.length) G
 |[.tup xs]=>Q (.int xs.length) G
 |[.fz xs]=>Q (.int xs.length) G
 |_=>False
theorem O1:mq K g0 (fun xs H Q=>∃p ys,xs=[.ref p]/\(eQ K H p ys∨dJ K H p ys)/\Q (.int ys.length) H):=fun ds vs G H Q3 Q h RG q k=>by
 rcases ds with _|⟨d,_|⟨d2,ds⟩⟩
 ·exact q.elim
 ·obtain⟨v,rfl,hv⟩:=kM h;cases d with
  |obj a=>
   obtain⟨xs,e,q⟩:=q;obtain⟨us,e1,e2⟩:=RG a _ e;rw[de hv];exact⟨a,us,rfl,.inl (.of e1),by rw[←e2.length];exact k _ H _ G fC (.refl H G) RG q⟩
  |tup xs=>
   obtain⟨a,us,rfl,e1,e2⟩:=fU hv;exact⟨a,us,rfl,.inr e1,by rw[←e2.length];exact k _ H _ G fC (.refl H G) RG q⟩
  |fz xs=>
   obtain⟨a,us,rfl,e1,e2⟩:=mj hv;exact⟨a,us,rfl,.inl e1.l,by rw[←e2.length];exact k _ H _ G fC (.refl H G) RG q⟩
  |_=>exact q.elim
 ·cases d<;>exact q.elim
theorem M8(hu:X.A.units+64<cLine)(hm:X.mg "len" = none)(ha:jk X (e::es) t)(hg:Gl X "len":=by rfl)(he:notStar e=true:=by rfl)(hpl:es.all notStar=true:=by rfl):
  bP X (.Call (.Name "len" p) (e::es) [] pos) (dg g0 t):=nv O1 (fb yd hg hm PySem.boot_len ha (he:=bj he) (hpl:=cW hpl))
def vP:C3:=fun ds G Q=>match ds with
 |[.bl b]=>Q (.int (if b then 1 else 0)) G
 |[.int i]=>Q (.int i) G
 |_=>False
theorem O3:mq K vP (fun xs H Q=>(∃i,xs=[.int i]/\Q (.int i) H)∨∃k,xs=[.bl k]/\Q (.int (if k then 1 else 0)) H):=fun ds vs G H Q3 Q h RG q k=>by
 rcases ds with _|⟨d,_|⟨d2,ds⟩⟩
 ·exact q.elim
 ·obtain⟨v,rfl,hv⟩:=kM h;cases d with
  |bl b=>
   rw[rb hv];exact .inr ⟨b,rfl,k _ H _ G fC (.refl H G) RG q⟩
  |int b=>
   rw[df hv];exact .inl ⟨b,rfl,k _ H _ G fC (.refl H G) RG q⟩
  |_=>exact q.elim
 ·cases d<;>exact q.elim
theorem M9(hu:X.A.units+64<cLine)(hm:X.mg "int" = none)(ha:jk X (e::es) t)(hg:Gl X "int":=by rfl)(he:notStar e=true:=by rfl)(hpl:es.all notStar=true:=by rfl):
  bP X (.Call (.Name "int" p) (e::es) [] pos) (dg vP t):=nv O3 (mX Ea hg hm rfl ha (he:=bj he) (hpl:=cW hpl))
def tF:C3:=fun ds G Q=>match ds with
 |[.int i,.int j]=>Q (.int (if j > i then j else i)) G
 |_=>False
def Ad:C3:=fun ds G Q=>match ds with
 |[.int i,.int j]=>Q (.int (if j<i then j else i)) G
 |_=>False
theorem zd{f:Int->Int->Int}:mq K (fun ds G Q=>match ds with
 |[.int i,.int j]=>Q (.int (f i j)) G
 | _=>False) (fun xs H Q=>∃i j,xs=[.int i,.int j]/\Q (.int (f i j)) H):=fun ds vs G H Q3 Q h RG q k=>by
 rcases ds with _|⟨d,_|⟨d2,_|⟨d3,ds⟩⟩⟩
 ·exact q.elim
 ·cases d<;>exact q.elim
 ·obtain⟨v,v',rfl,h1,h2⟩:=Qw h;cases d with
  |int i=>
   cases d2 with
   |int j=>
    rw[df h1,df h2];exact⟨i,j,rfl,k _ H _ G fC (.refl H G) RG q⟩
   |_=>exact q.elim
  |_=>exact q.elim
 ·cases d with
  |int i=>cases d2<;>exact q.elim
  |_=>exact q.elim
theorem M7(hu:X.A.units+64<cLine)(hm:X.mg "max" = none)(ha:jk X (e::es) t)(hc:X.calm=true:=by rfl)(hg:Gl X "max":=by rfl)(he:notStar e=true:=by rfl)(hpl:es.all notStar=true:=by rfl):
  bP X (.Call (.Name "max" p) (e::es) [] pos) (dg tF t):=nv (zd (f:=fun i j=>if j > i then j else i)) (fb (D9 hc) hg hm rfl ha (he:=bj he) (hpl:=cW hpl))
theorem M6(hu:X.A.units+64<cLine)(hm:X.mg "min" = none)(ha:jk X (e::es) t)(hc:X.calm=true:=by rfl)(hg:Gl X "min":=by rfl)(he:notStar e=true:=by rfl)(hpl:es.all notStar=true:=by rfl):
  bP X (.Call (.Name "min" p) (e::es) [] pos) (dg Ad t):=nv (zd (f:=fun i j=>if j<i then j else i)) (fb (D8 hc) hg hm rfl ha (he:=bj he) (hpl:=cW hpl))
def jc:C3:=fun ds G Q=>match ds with
 |[.obj a]=>∃xs,G a=some (.lst xs)/\Q (.tup xs) G
 |[.tup xs]=>Q (.tup xs) G
 |[.fz xs]=>Q (.tup xs) G
 |_=>False
theorem JY:mq K jc (fun xs H Q=>∃p ys,xs=[.ref p]/\((eQ K H p ys/\∀l,H l=none->Q (.ref l) (upd H l (.tup ys)))∨(dJ K H p ys/\Q (.ref p) H))):=fun ds vs G H Q3 Q h RG q k=>by
 rcases ds with _|⟨d,_|⟨d2,ds⟩⟩
 ·exact q.elim
 ·obtain⟨v,rfl,hv⟩:=kM h;cases d with
  |obj a=>
   obtain⟨xs,e,q⟩:=q;obtain⟨us,e1,e2⟩:=RG a _ e;rw[de hv];exact⟨a,us,rfl,.inl ⟨.of e1,fun l hl=>k _ _ (.tup xs) G (iJ (.of cm) (e2.ext (.laid hl))) (.laid hl) (RG.laid hl) q⟩⟩
  |tup xs=>
   obtain⟨a,us,rfl,e1,e2⟩:=fU hv;exact⟨a,us,rfl,.inr ⟨e1,k _ H _ G (iJ e1 e2) (.refl H G) RG q⟩⟩
  |fz xs=>
   obtain⟨a,us,rfl,e1,e2⟩:=mj hv;exact⟨a,us,rfl,.inl ⟨e1.l,fun l hl=>k _ _ (.tup xs) G (iJ (.of cm) (e2.ext (.laid hl))) (.laid hl) (RG.laid hl) q⟩⟩
  |_=>exact q.elim
 ·cases d<;>exact q.elim
theorem FN(hu:X.A.units+64<cLine)(hm:X.mg "tuple" = none)(ha:jk X (e::es) t)(hg:Gl X "tuple":=by rfl)(he:notStar e=true:=by rfl)(hpl:es.all notStar=true:=by rfl):
  bP X (.Call (.Name "tuple" p) (e::es) [] pos) (dg jc t):=nv JY (mX vJ hg hm rfl ha (he:=bj he) (hpl:=cW hpl))
def eM(r:D->List D->Gp->V3->Prop)(to:aD)(t:cJ):aD:=fun τ G Q=>to τ G fun x G1=>(∃a xs,x=.obj a/\G1 a=some (.lst xs))/\t τ G1 fun ds G2=>r x ds G2 Q
def uR(K:ι)(r:D->List D->Gp->V3->Prop)(r2:V->List V->Hp->VK->Prop):Prop:=∀x vx ds vs G H Q3 Q,Hv K H x vx->aF K H ds vs->bf K G H->r x ds G Q3->(∀v H' d G',Hv K H' d v->Step H G H' G'->bf K G' H'->Q3 d G'->Q v H')->r2 vx vs H Q
theorem OW{r:D->List D->Gp->V3->Prop}{r2:V->List V->Hp->VK->Prop}{to:aD}(L:uR K r r2){σ:L2.St}{H:Hp}{Q:VK}(h:low K (eM r to t) σ H Q):Kz K "list" r2 (low K to) (oP K t) σ H Q:=by
 obtain⟨τ,G,Q3,RS,RG,h,k⟩:=h;refine⟨τ,G,_,RS,RG,h,fun v1 H1 d1 G1 h1 S1 R1 q1=>?_⟩;obtain⟨⟨a,xs,rfl,e1⟩,q1⟩:=q1;obtain⟨us,e2,e3⟩:=R1 a _ e1;refine⟨?_,τ,G1,_,RS.ext (S1.ext RG),R1,q1,fun vs H2 ds G2 h2 S2 R2 q2=>?_⟩
 ·rw[de h1];exact .inl ⟨rfl,us,.of e2⟩
 ·exact L _ _ _ _ _ _ _ _ (h1.ext (S2.ext R1)) h2 R2 q2 fun v H' d G' z1 z2 z3 z4=>k v H' d G' z1 ((S1.trans S2).trans z2) z3 z4
def vc:D->List D->Gp->V3->Prop:=fun x ds G Q=>match x,ds with
 |.obj a,[d]=>∃xs,G a=some (.lst xs)/\xs.length<aj/\Q .aq (dA G a (.lst (xs++[d])))
 |_,_=>False
theorem DO:uR K vc yL:=fun x vx ds vs G H Q3 Q hx hs RG q k=>by
 rcases ds with _|⟨d,_|⟨d2,ds⟩⟩
 ·cases x<;>exact q.elim
 ·cases x with
  |obj a=>
   obtain⟨xs,e1,hz,q⟩:=q;obtain⟨us,e2,e3⟩:=RG a _ e1;obtain⟨v,rfl,hv⟩:=kM hs;rw[de hx];refine⟨a,us,v,rfl,rfl,e2,by rw[←e3.length];exact hz,?_⟩;exact k _ _ .aq _ (by simp[Hv]) (.wrote e1) (RG.v8 e2 (e3.append (.cons hv .nil))) q
  |_=>exact q.elim
 ·cases x<;>exact q.elim
theorem Pk{r:D->List D->Gp->V3->Prop}{r2:V->List V->Hp->VK->Prop}{to:aD}(L:uR X.K r r2)(h:PE X e (Kz X.K "list" r2 (low X.K to) (oP X.K t))):bP X e (eM r to t):=eD h fun _ _ _ z=>OW L z
def w8:D->List D->Gp->V3->Prop:=fun x ds G Q=>match x,ds with
 |.obj a,[.int i]=>∃xs k d,G a=some (.lst xs)/\(-(2^63)≤i/\i<2^63)/\seqIndex? i xs.length=some k/\xs[k]?=some d/\Q d (dA G a (.lst (xs.eraseIdx k)))
 |_,_=>False
theorem DM:uR K w8 CQ:=fun x vx ds vs G H Q3 Q hx hs RG q k=>by
 rcases ds with _|⟨d,_|⟨d2,ds⟩⟩
 ·cases x<;>exact q.elim
 ·cases x with
  |obj a=>
   cases d with
   |int i=>
    obtain⟨xs,j,y,e1,hb,hk,hy,q⟩:=q;obtain⟨us,e2,e3⟩:=RG a _ e1;obtain⟨v,rfl,hv⟩:=kM hs;obtain⟨w,e4,e5⟩:=e3.get hy;rw[de hx,df hv];refine⟨a,us,i,j,w,rfl,rfl,e2,hb.1,hb.2,by rw[←e3.length];exact hk,e4,?_⟩;exact k _ _ y _ (e5.ext (.wrote e2)) (.wrote e1) (RG.v8 e2 (e3.erase j)) q
   |_=>exact q.elim
  |_=>exact q.elim
 ·cases x with
  |obj a=>cases d<;>exact q.elim
  |_=>exact q.elim
def u9:D->List D->Gp->V3->Prop:=fun x ds G Q=>match x,ds with
 |.obj a,[.obj b]=>∃xs ys,G a=some (.lst xs)/\G b=some (.lst ys)/\xs.length+ys.length≤aj/\Q .aq (dA G a (.lst (xs++ys)))
 |_,_=>False
theorem DN:uR K u9 yK:=fun x vx ds vs G H Q3 Q hx hs RG q k=>by
 rcases ds with _|⟨d,_|⟨d2,ds⟩⟩
 ·cases x<;>exact q.elim
 ·cases x with
  |obj a=>
   cases d with
   |obj b=>
    obtain⟨xs,ys,e1,e0,hz,q⟩:=q;obtain⟨us,e2,e3⟩:=RG a _ e1;obtain⟨ws,e4,e5⟩:=RG b _ e0;obtain⟨v,rfl,hv⟩:=kM hs;rw[de hx,de hv];refine⟨a,b,us,ws,rfl,rfl,e2,e4,by rw[←e3.length,←e5.length];exact hz,?_⟩;exact k _ _ .aq _ (by simp[Hv]) (.wrote e1) (RG.v8 e2 (e3.append e5)) q
   |_=>exact q.elim
  |_=>exact q.elim
 ·cases x with
  |obj a=>cases d<;>exact q.elim
  |_=>exact q.elim
def iy(T:String)(G:Gp):D->Option Bool
 |.aq=>some false
 |.bl _=>some (T=="bool" || T=="int")
 |.int _=>some (T=="int")
 |.str _=>some (T=="str")
 |.tup _=>some (T=="tuple")
 |.fz _=>some (T=="list")
 |.dc _=>some (T=="dict")
 |.obj a=>match G a with
  |some (.lst _)=>some (T=="list")
  |some .md=>some (T=="list")
  |some .gO=>some (T=="dict")
  |some (.gen _)=>none
  |none=>none
def oZ(T:String)(ta:aD):aD:=fun τ G Q=>ta τ G fun x G1=>match iy T G1 x with
 |some b=>Q (.bl b) G1
 |none=>False
end
end L3
namespace NF
open PySem PySem.W PyProof.Rows
structure Ord(n:Nat)(lt:Nat->Nat->Bool):Prop where
 zz:∀a b,a<n->b<n->lt a b=true->lt b a=false
 rH:∀a b c,a<n->b<n->c<n->lt b a=false->lt c b=false->lt c a=false
abbrev g(p:Array Nat)(i:Nat):Nat:=p.getD i 0
structure Va(n:Nat)(p:Array Nat):Prop where
 perm:p.toList.Perm (aB n)
section
variable {n:Nat} {lt:Nat->Nat->Bool} {cmp:Nat->Nat->(Bool->ζ->Prop)->ζ->Prop} {s:ζ}
theorem Va.size{p:Array Nat}(v:Va n p):p.size=n:=by
 have:=v.perm.length_eq;simpa using this
theorem Va.get{p:Array Nat}(v:Va n p){i:Nat}(hi:i<n):p[i]?=some (g p i):=by
 have h:=v.size;simp[g,jQ,h,hi]
theorem Va.inr{p:Array Nat}(v:Va n p){i:Nat}(hi:i<n):g p i<n:=by
 have h:=v.get hi;have hm:g p i∈p.toList:=aY (by rw[ao];exact h);have:=v.perm.mem_iff.mp hm;simpa using this
theorem Ord.refl(O:Ord n lt){a:Nat}(ha:a<n):lt a a=false:=by
 cases h:lt a a with
 |false=>rfl
 |true=>
  have:=O.zz a a ha ha h;rw[h] at this;exact this
def So(lt:Nat->Nat->Bool)(p:Array Nat)(k:Nat):Prop:=∀i j,i≤j->j<k->lt (g p j) (g p i)=false
def Ni(lt:Nat->Nat->Bool)(p:Array Nat)(k:Nat):Prop:=∀i j,i≤j->j<k->lt (g p i) (g p j)=false
def Ej(lt:Nat->Nat->Bool)(p:Array Nat)(lo hi:Nat):Prop:=∀i j,lo≤i->i<hi->lo≤j->j<hi->lt (g p i) (g p j)=false
theorem So.one(O:Ord n lt){p:Array Nat}(v:Va n p)(hn:1≤n):So lt p 1:=fun i j h1 h2=>by
 have e1:i=0:=by lia
 have e2:j=0:=by lia
 rw[e1,e2];exact O.refl (v.inr (by lia))
theorem So.next(O:Ord n lt){p:Array Nat}(v:Va n p){a:Nat}(h1:1≤a)(ha:a<n)(S:So lt p a)(h:lt (g p a) (g p (a-1))=false):So lt p (a+1):=fun i j hij hj=>by
 by_cases hja:j<a
 ·exact S i j hij hja
 ·have e:j=a:=by lia
  subst e;by_cases hij':i=j
  ·rw[hij'];exact O.refl (v.inr ha)
  ·exact O.rH (g p i) (g p (j-1)) (g p j) (v.inr (by lia)) (v.inr (by lia)) (v.inr ha) (S i (j-1) (by lia) (by lia)) h
theorem Ni.next(O:Ord n lt){p:Array Nat}(v:Va n p){a:Nat}(h1:1≤a)(ha:a<n)(S:Ni lt p a)(h:lt (g p (a-1)) (g p a)=false):Ni lt p (a+1):=fun i j hij hj=>by
 by_cases hja:j<a
 ·exact S i j hij hja
 ·have e:j=a:=by lia
  subst e;by_cases hij':i=j
  ·rw[hij'];exact O.refl (v.inr ha)
  ·exact O.rH (g p j) (g p (j-1)) (g p i) (v.inr ha) (v.inr (by lia)) (v.inr (by lia)) h (S i (j-1) (by lia) (by lia))
theorem lZ{p:Array Nat}(v:Va n p)(i j:Nat):Va n (kas_rev p i j):=⟨(mirror_perm p i j _).toList.trans v.perm⟩
theorem qR{p:Array Nat}(v:Va n p){lo hi k:Nat}(hh:hi≤n)(hk:k<n):g (kas_rev p lo hi) k=if lo≤k/\k<hi then g p (lo+hi-1-k) else g p k:=by
 have h1:=getElem?_mirror_all (xs:=p) (i:=lo) (j:=hi) (by rw[v.size];exact hh) k;have h2:=(lZ v lo hi).get hk;have h3:(kas_rev p lo hi)[k]?=_:=h1;rw[h2] at h3;by_cases hc:lo≤k/\k<hi
 ·rw[if_pos hc] at h3 ⊢;rw[v.get (by lia)] at h3;exact ay h3
 ·rw[if_neg hc] at h3 ⊢;rw[v.get hk] at h3;exact ay h3
theorem wZ{p:Array Nat}(v:Va n p){lo hi k:Nat}(hh:hi≤k)(hk:k≤n)(S:Ni lt p k)(e:Ej lt p lo hi):Ni lt (kas_rev p lo hi) k:=fun i j hij hj=>by
 rw[qR v (by lia) (show i<n by lia),qR v (by lia) (show j<n by lia)];by_cases hi':lo≤i/\i<hi
 ·rw[if_pos hi'];by_cases hj':lo≤j/\j<hi
  ·rw[if_pos hj'];exact e _ _ (by lia) (by lia) (by lia) (by lia)
  ·rw[if_neg hj'];exact S _ _ (by lia) hj
 ·rw[if_neg hi'];by_cases hj':lo≤j/\j<hi
  ·rw[if_pos hj'];exact S _ _ (by lia) (by lia)
  ·rw[if_neg hj'];exact S _ _ hij hj
theorem KW{p:Array Nat}(v:Va n p){k:Nat}(hk:k≤n)(S:Ni lt p k):So lt (kas_rev p 0 k) k:=fun i j hij hj=>by
 rw[qR v hk (show i<n by lia),qR v hk (show j<n by lia),if_pos (by lia),if_pos (by lia)];exact S _ _ (by lia) (by lia)
variable (O:Ord n lt) (hc:∀i j,i<n->j<n->∀(C:Bool->ζ->Prop) (s:ζ),C (lt i j) s->cmp i j C s)
include O hc
theorem yh{p:Array Nat}(v:Va n p){G:Nat->ζ->Prop}:∀(f a:Nat),1≤a->a+f≤n->So lt p a->(∀m,a≤m->m≤a+f->So lt p m->(m=a+f∨lt (g p m) (g p (m-1))=true)->G m s)->(kas_asc p f a).kasWp cmp G s
 |0,a,_,_,S,h=>h a (Θ _) (by lia) S (.inl (by lia))
 |f+1,a,h1,h2,S,h=>by
  show cmp _ _ _ s;refine hc _ _ (v.inr (by lia)) (v.inr (by lia)) _ s ?_;cases hb:lt (g p a) (g p (a-1)) with
  |true=>
   ((try dsimp only);rw[if_pos rfl])
   exact h a (Θ _) (by lia) S (.inr hb)
  |false=>
   ((try dsimp only);rw[if_neg Ω])
   exact yh v f (a+1) (by lia) (by lia) (S.next O v h1 (by lia) hb) fun m q1 q2 q3 q4=>h m (by lia) (by lia) q3 (by
    rcases q4 with q4|q4
    ·exact .inl (by lia)
    ·exact .inr q4)
theorem rk{G:Array Nat×Nat×Nat->ζ->Prop}:∀(f:Nat) (p:Array Nat) (a q:Nat),Va n p->q+1≤a->a+f≤n->Ni lt p a->Ej lt p (a-(q+1)) a ->
  (∀p' m q',Va n p'->a≤m->m≤a+f->q'+1≤m->Ni lt p' m->Ej lt p' (m-(q'+1)) m->G (p',m,q') s)->(kas_desc f p a q).kasWp cmp G s
 |0,p,a,q,v,h1,h2,S,e,h=>h p a q v (Θ _) (by lia) h1 S e
 |f+1,p,a,q,v,h1,h2,S,e,h=>by
  show cmp _ _ _ s;refine hc _ _ (v.inr (by lia)) (v.inr (by lia)) _ s ?_;have one:∀{p':Array Nat},Va n p'->Ej lt p' (a+1-(0+1)) (a+1):=fun {p'} v' i j i1 i2 j1 j2=>by
   have e1:i=a:=by lia
   have e2:j=a:=by lia
   rw[e1,e2];exact O.refl (v'.inr (by lia))
  cases hb:lt (g p a) (g p (a-1)) with
  |true=>
   ((try dsimp only);rw[if_pos rfl])
   have S':=S.next O v (by lia) (by lia) (O.zz _ _ (v.inr (by lia)) (v.inr (by lia)) hb)
   by_cases hq:q > 0
   ·rw[if_pos hq];exact rk f _ (a+1) 0 (lZ v _ _) (by lia) (by lia) (wZ v (by lia) (by lia) S' e) (one (lZ v _ _)) fun p' m q' r1 r2 r3 r4 r5 r6=>h p' m q' r1 (by lia) (by lia) r4 r5 r6
   ·rw[if_neg hq];exact rk f _ (a+1) 0 v (by lia) (by lia) S' (one v) fun p' m q' r1 r2 r3 r4 r5 r6=>h p' m q' r1 (by lia) (by lia) r4 r5 r6
  |false=>
   ((try dsimp only);rw[if_neg Ω])
   show cmp _ _ _ s;refine hc _ _ (v.inr (by lia)) (v.inr (by lia)) _ s ?_;cases hd:lt (g p (a-1)) (g p a) with
   |true=>
    ((try dsimp only);rw[if_pos rfl])
    exact h p a q v (Θ _) (by lia) h1 S e
   |false=>
    ((try dsimp only);rw[if_neg Ω])
    refine rk f _ (a+1) (q+1) v (by lia) (by lia) (S.next O v (by lia) (by lia) hd) (fun i j i1 i2 j1 j2=>?_) fun p' m q' r1 r2 r3 r4 r5 r6=>h p' m q' r1 (by lia) (by lia) r4 r5 r6
    have L:∀k,k<n->g p k<n:=fun k hk=>v.inr hk;by_cases hi:i=a
    ·by_cases hj:j=a
     ·rw[hi,hj];exact O.refl (L _ (by lia))
     ·rw[hi];exact O.rH (g p j) (g p (a-1)) (g p a) (L _ (by lia)) (L _ (by lia)) (L _ (by lia)) (e (a-1) j (by lia) (by lia) (by lia) (by lia)) hb
    ·by_cases hj:j=a
     ·rw[hj];exact O.rH (g p a) (g p (a-1)) (g p i) (L _ (by lia)) (L _ (by lia)) (L _ (by lia)) hd (e i (a-1) (by lia) (by lia) (by lia) (by lia))
     ·exact e i j (by lia) (by lia) (by lia) (by lia)
theorem yE{p:Array Nat}(v:Va n p){a:Nat}{G:Nat×Array Nat->ζ->Prop}(h1:1≤a)(h2:a≤n)(S:Ni lt p a)(h:∀m p',Va n p'->1≤m->m≤n->So lt p' m->G (m,p') s):(kas_tail3 a n p).kasWp cmp G s:=by
 unfold kas_tail3;rw[g9];exact yh O hc (lZ v 0 a) (n-a) a h1 (by lia) (KW v h2 S) fun m q1 q2 q3 _=>h m _ (lZ v 0 a) (by lia) (by lia) q3
theorem yT{p:Array Nat}(v:Va n p){a:Nat}{G:Nat×Array Nat->ζ->Prop}(h1:1≤a)(h2:a+1≤n)(S:Ni lt p (a+1))(h:∀m p',Va n p'->1≤m->m≤n->So lt p' m->G (m,p') s):(kas_descPart a n p).kasWp cmp G s:=by
 unfold kas_descPart;rw[g9];refine rk O hc (n-(a+1)) p (a+1) 0 v (by lia) (by lia) S (fun i j i1 i2 j1 j2=>?_) fun p' m q' r1 r2 r3 r4 r5 r6=>?_
 ·have e1:i=a:=by lia
  have e2:j=a:=by lia
  rw[e1,e2];exact O.refl (v.inr (by lia))
 ·dsimp only;by_cases hq:q' > 0
  ·rw[if_pos hq];exact yE O hc (lZ r1 _ _) (by lia) (by lia) (wZ r1 (Θ _) (by lia) r5 r6) h
  ·rw[if_neg hq];exact yE O hc r1 (by lia) (by lia) r5 h
theorem Ge{p:Array Nat}(v:Va n p){G:Nat×Array Nat->ζ->Prop}(hn:1≤n)(h:∀m p',Va n p'->1≤m->m≤n->So lt p' m->G (m,p') s):(kas_count n p).kasWp cmp G s:=by
 unfold kas_count;rw[g9];refine yh O hc v (n-1) 1 (Θ _) (by lia) (So.one O v hn) fun a q1 q2 q3 q4=>?_;have L:∀k,k<n->g p k<n:=fun k hk=>v.inr hk;by_cases e1:(a==n)=true
 ·rw[if_pos e1];exact h a p v q1 (by lia) q3
 ·rw[if_neg e1];have hne:a≠n:=fun z=>e1 (by rw[z];exact beq_self_eq_true _);have hlt:lt (g p a) (g p (a-1))=true:=by
   rcases q4 with q4|q4
   ·lia
   ·exact q4
  have hle:=O.zz _ _ (L a (by lia)) (L (a-1) (by lia)) hlt;by_cases e2:a > 1
  ·rw[if_pos e2];show cmp _ _ _ s;refine hc _ _ (v.inr (by lia)) (v.inr (by lia)) _ s ?_;cases hb:lt (g p 0) (g p (a-1)) with
   |true=>
    ((try dsimp only);rw[if_pos rfl])
    exact h a p v q1 (by lia) q3
   |false=>
    ((try dsimp only);rw[if_neg Ω])
    -- all of the run are alike
    have eqv:Ej lt p 0 a:=fun i j i1 i2 j1 j2=>by
     have h1:lt (g p i) (g p 0)=false:=q3 0 i (by lia) i2;have h2:lt (g p (a-1)) (g p j)=false:=q3 j (a-1) (by lia) (by lia);have h3:lt (g p 0) (g p j)=false:=O.rH _ _ _ (L j (by lia)) (L (a-1) (by lia)) (L 0 (by lia)) h2 hb;have h4:lt (g p (a-1)) (g p i)=false:=q3 i (a-1) (by lia) (by lia);exact O.rH _ _ _ (L j (by lia)) (L 0 (by lia)) (L i (by lia)) h3 h1
    have ni:Ni lt p (a+1):=Ni.next O v (by lia) (by lia) (fun i j hij hj=>eqv i j (by lia) (by lia) (by lia) hj) hle
    exact yT O hc (lZ v _ _) (by lia) (by lia) (wZ v (by lia) (by lia) ni eqv) h
  ·rw[if_neg e2];have ea:a=1:=by lia
   subst ea;refine yT O hc v (Θ _) (by lia) (Ni.next O v (by lia) (by lia) (fun i j hij hj=>?_) hle) h
   have e3:i=0:=by lia
   have e4:j=0:=by lia
   rw[e3,e4];exact O.refl (L 0 (by lia))
theorem sd{p:Array Nat}(v:Va n p){k:Nat}(hk:k<n)(S:So lt p k){G:Nat->ζ->Prop}:∀(f l r:Nat),l≤r->r≤k->r-l≤f->(∀i,i<l->lt (g p k) (g p i)=false)->(∀i,r≤i->i<k->lt (g p k) (g p i)=true) ->
  (∀l,l≤k->(∀i,i<l->lt (g p k) (g p i)=false)->(∀i,l≤i->i<k->lt (g p k) (g p i)=true)->G l s)->(kas_place p k f l r).kasWp cmp G s
 |0,l,r,h1,h2,h3,h4,h5,h=>by
  have e:l=r:=by lia
  subst e;exact h l h2 h4 h5
 |f+1,l,r,h1,h2,h3,h4,h5,h=>by
  unfold kas_place;by_cases hlr:l≥r
  ·rw[if_pos hlr];have e:l=r:=by lia
   subst e;exact h l h2 h4 h5
  ·rw[if_neg hlr];show cmp _ _ _ s;refine hc _ _ (v.inr hk) (v.inr (by lia)) _ s ?_;have L:∀k,k<n->g p k<n:=fun k hk=>v.inr hk;cases hb:lt (g p k) (g p ((l+r) / 2)) with
   |true=>
    ((try dsimp only);rw[if_pos rfl])
    refine sd v hk S f l ((l+r) / 2) (by lia) (by lia) (by lia) h4 (fun i i1 i2=>?_) h;by_cases hri:r≤i
    ·exact h5 i hri i2
    ·cases hx:lt (g p k) (g p i) with
     |true=>rfl
     |false=>
      have h6:lt (g p i) (g p ((l+r) / 2))=false:=S _ _ i1 i2;have:=O.rH _ _ _ (L ((l+r) / 2) (by lia)) (L i (by lia)) (L k hk) h6 hx;rw[hb] at this;exact this.symm
   |false=>
    ((try dsimp only);rw[if_neg Ω])
    refine sd v hk S f ((l+r) / 2+1) r (by lia) h2 (by lia) (fun i hi=>?_) h5 h;exact O.rH _ _ _ (L i (by lia)) (L ((l+r) / 2) (by lia)) (L k hk) (S i ((l+r) / 2) (by lia) (by lia)) hb
theorem Ef{G:Array Nat->ζ->Prop}:∀(f:Nat) (p:Array Nat) (k:Nat),Va n p->k+f=n->So lt p k->(∀p',Va n p'->So lt p' n->G p' s)->(kas_bin f p k).kasWp cmp G s
 | 0,p,k,v,hk,S,h=>h p v (by
  have e:k=n:=by lia
  rw[←e];exact S)
 |f+1,p,k,v,hk,S,h=>by
  show ((kas_place p k k 0 k).bind fun l=>kas_bin f (bubble p k (k-l)) (k+1)).kasWp cmp G s;rw[g9];refine sd O hc v (by lia) S k 0 k (by lia) (Θ _) (by lia) (fun i hi=>by lia) (fun i i1 i2=>by lia) fun l hl q1 q2=>?_;have v':Va n (bubble p k (k-l)):=⟨(bubble_perm p k (k-l)).toList.trans v.perm⟩;have L:∀k,k<n->g p k<n:=fun k hk=>v.inr hk;have bg:∀i,i<n->g (bubble p k (k-l)) i=if i=l then g p k else if l<i/\i≤k then g p (i-1) else g p i:=fun i hi=>by
   have h1:=getElem?_bubble (xs:=p) (src:=k) (by rw[v.size];lia) (k-l) (by lia) i;rw[v'.get hi,show k-(k-l)=l by lia] at h1;by_cases c1:i=l
   ·rw[if_pos c1] at h1 ⊢;rw[v.get (by lia)] at h1;exact ay h1
   ·rw[if_neg c1] at h1 ⊢;by_cases c2:l<i/\i≤k
    ·rw[if_pos c2] at h1 ⊢;rw[v.get (by lia)] at h1;exact ay h1
    ·rw[if_neg c2] at h1 ⊢;rw[v.get hi] at h1;exact ay h1
  refine Ef f _ (k+1) v' (by lia) (fun i j hij hj=>?_) h;rw[bg i (by lia),bg j (by lia)];by_cases ci:i=l
  ·rw[if_pos ci];by_cases cj:j=l
   ·rw[if_pos cj];exact O.refl (L k (by lia))
   ·rw[if_neg cj,if_pos (by lia)];exact O.zz _ _ (L k (by lia)) (L _ (by lia)) (q2 (j-1) (by lia) (by lia))
  ·rw[if_neg ci];by_cases cj:j=l
   ·rw[if_pos cj,if_neg (by lia)];exact q1 i (by lia)
   ·rw[if_neg cj];by_cases c3:l<i/\i≤k
    ·rw[if_pos c3,if_pos (by lia)];exact S (i-1) (j-1) (by lia) (by lia)
    ·rw[if_neg c3];by_cases c4:l<j/\j≤k
     ·rw[if_pos c4];exact S i (j-1) (by lia) (by lia)
     ·rw[if_neg c4];exact S i j hij (by lia)
theorem IG{G:Array Nat->ζ->Prop}(hn:1≤n)(h:∀p,Va n p->So lt p n->G p s):(kas_sort n).kasWp cmp G s:=by
 unfold kas_sort;rw[g9];have v0:Va n (iu (aB n)):=⟨by simp⟩;refine Ge O hc v0 hn fun m p' v m1 m2 S=>?_;dsimp only;by_cases hm:m<n
 ·rw[if_pos hm];have e:max m 1=m:=by lia
  rw[e];exact Ef O hc (n-m) p' m v (by lia) S h
 ·rw[if_neg hm];have e:m=n:=by lia
  subst e;exact h p' v S
end
end NF
namespace jG
open PySem PySem.SetTable
def iz(m:Nat):Prop:=m=7∨m=31∨m=127
def qw(m:Nat)(p:Probe):Probe:=
 if p.more > 0 then { p with j:=p.j+1,more:=p.more-1 } else
 { p with j:=(leap m p.i p.perturb).1,more:=runEnd m (leap m p.i p.perturb).1-(leap m p.i p.perturb).1,i:=(leap m p.i p.perturb).1,perturb:=(leap m p.i p.perturb).2 }
def rs(m:Nat)(q:Nat×Nat):Probe:={ j:=q.1,more:=runEnd m q.1-q.1,i:=q.1,perturb:=q.2,dummy:=none }
def Q6(m:Nat)(h:Int):Probe:=rs m (bits h%(m+1),bits h)
def sq(m:Nat)(h:Int):Nat->Probe
 |0=>Q6 m h
 |k+1=>qw m (sq m h k)
def rn(m:Nat)(h:Int):Nat->Nat×Nat
 |0=>(bits h%(m+1),bits h)
 |r+1=>leap m (rn m h r).1 (rn m h r).2
theorem wN(m:Nat)(h:Int):∀k,(sq m h k).dummy=none
 |0=>rfl
 |k+1=>by
  show (qw m (sq m h k)).dummy=none;have ih:=wN m h k;unfold qw;split<;>simpa using ih
theorem zZ(m i:Nat):runEnd m i-i≤9:=by
 unfold runEnd;split<;>lia
theorem wY(m:Nat)(h:Int)(n:Nat)(q:Nat×Nat)(e:sq m h n=rs m q):∀d,d≤runEnd m q.1-q.1->sq m h (n+d)={ j:=q.1+d,more:=runEnd m q.1-q.1-d,i:=q.1,perturb:=q.2,dummy:=none }
 |0,_=>by rw[Nat.add_zero,e];rfl
 |d+1,hd=>by
  have ih:=wY m h n q e d (by lia);show qw m (sq m h (n+d))=_;rw[ih];unfold qw;rw[if_pos (show runEnd m q.1-q.1-d > 0 by lia)];simp only[Probe.mk.injEq,and_true,true_and];lia
theorem wX(m:Nat)(h:Int)(n:Nat)(q:Nat×Nat)(e:sq m h n=rs m q):sq m h (n+(runEnd m q.1-q.1)+1)=rs m (leap m q.1 q.2):=by
 show qw m (sq m h (n+(runEnd m q.1-q.1)))=_;rw[wY m h n q e _ (Θ _)];unfold qw;rw[if_neg (by simp)];rfl
theorem tz(m:Nat)(h:Int):∀r,∃n,n≤10*r/\sq m h n=rs m (rn m h r)
 |0=>⟨0,by lia,rfl⟩
 |r+1=>by
  obtain⟨n,hn,e⟩:=tz m h r;have:=zZ m (rn m h r).1;exact⟨n+(runEnd m (rn m h r).1-(rn m h r).1)+1,by lia,wX m h n _ e⟩
theorem Kg(h:Int):bits h<2^64:=by
 unfold bits;have h1:h%(2^64:Int)<2^64:=dR _ (by decide);have h2:0≤h%(2^64:Int):=eZ _ (by decide);lia
theorem tD(m:Nat)(h:Int):∀r,(rn m h r).2=bits h / 32^r
 |0=>by simp[rn]
 |r+1=>by
  show (rn m h r).2 / 32=_;rw[tD m h r,Nat.div_div_eq_div_mul,mz]
theorem IL(m:Nat)(h:Int)(r:Nat)(hr:13≤r):(rn m h r).2=0:=by
 rw[tD];have h1:=Kg h;have h2:(32:Nat)^13≤32^r:=jK (by decide) hr;have h3:(2:Nat)^64<32^13:=by decide
 exact Nat.div_eq_of_lt (by lia)
def fl(m x:Nat):Nat:=(x*5+1)%(m+1)
def it(m:Nat):Nat->Nat->Nat
 |0,x=>x
 |n+1,x=>fl m (it m n x)
theorem qj(m:Nat)(a:Nat):∀b x,it m (b+a) x=it m b (it m a x)
 |0,x=>by rw[Nat.zero_add];rfl
 |b+1,x=>by
  rw[show b+1+a=(b+a)+1 by lia];show fl m (it m (b+a) x)=fl m (it m b (it m a x));rw[qj m a b x]
theorem Ac(m:Nat)(h:Int):∀n,(rn m h (13+n)).1=it m n (rn m h 13).1
 |0=>rfl
 |n+1=>by
  show ((rn m h (13+n)).1*5+1+(rn m h (13+n)).2 / 32)%(m+1)=fl m (it m n (rn m h 13).1);rw[IL m h (13+n) (by lia),Ac m h n];rfl
theorem Ab(m:Nat)(h:Int):∀r,(rn m h r).1<m+1
 |0=>iB _ (my _)
 |r+1=>iB _ (my _)
def Dj(m:Nat):Nat->Nat->List Nat
 |0,_=>[]
 |n+1,x=>x::Dj m n (fl m x)
theorem tK(m:Nat):∀(n x y:Nat),y∈Dj m n x->∃k,k<n/\y=it m k x
 |0,_,_,h=>by cases h
 |n+1,x,y,h=>by
  rcases aM.mp h with e|e
  ·exact⟨0,by lia,e⟩
  ·obtain⟨k,hk,e⟩:=tK m n (fl m x) y e;refine⟨k+1,by lia,?_⟩;rw[qj m 1 k x];exact e
theorem Qe:((aB 8).all fun x=>(Dj 7 8 0).contains x)=true:=by decide +kernel
theorem Ow:((aB 32).all fun x=>(Dj 31 32 0).contains x)=true:=by decide +kernel
theorem LL:((aB 128).all fun x=>(Dj 127 128 0).contains x)=true:=by decide +kernel
theorem Pr:it 7 8 0=0:=by decide +kernel
theorem Nq:it 31 32 0=0:=by decide +kernel
theorem Kh:it 127 128 0=0:=by decide +kernel
theorem GW{m:Nat}(hm:iz m){x:Nat}(hx:x<m+1):∃k,k<m+1/\x=it m k 0:=by
 rcases hm with rfl|rfl|rfl
 ·have:=dN.mp Qe x (bO.mpr hx);exact tK 7 8 0 x (by simpa using this)
 ·have:=dN.mp Ow x (bO.mpr hx);exact tK 31 32 0 x (by simpa using this)
 ·have:=dN.mp LL x (bO.mpr hx);exact tK 127 128 0 x (by simpa using this)
theorem back{m:Nat}(hm:iz m):it m (m+1) 0=0:=by
 rcases hm with rfl|rfl|rfl
 ·exact Pr
 ·exact Nq
 ·exact Kh
theorem Df{m:Nat}(hm:iz m){x y:Nat}(hx:x<m+1)(hy:y<m+1):∃n,n≤m/\it m n x=y:=by
 obtain⟨a,ha,ea⟩:=GW hm hx;obtain⟨b,hb,eb⟩:=GW hm hy;by_cases hab:a≤b
 ·refine⟨b-a,by lia,?_⟩;rw[ea,←qj,eb];congr 1;lia
 ·refine⟨m+1-a+b,by lia,?_⟩;rw[ea,←qj,eb,show m+1-a+b+a=b+(m+1) by lia,qj,back hm]
theorem comes{m:Nat}(hm:iz m)(h:Int){e:Nat}(he:e≤m):∃k,k≤10*m+130/\(sq m h k).j=e:=by
 obtain⟨n,hn,en⟩:=Df hm (Ab m h 13) (show e<m+1 by lia);obtain⟨k,hk,ek⟩:=tz m h (13+n);refine⟨k,by lia,?_⟩;rw[ek];show (rn m h (13+n)).1=e;rw[Ac,en]
theorem sm{xs:Array Nat}{j:Nat}(hr:xs.toList.Pairwise (· < ·)):∀(fuel lo hi:Nat),hi-lo≤fuel->lo≤hi->hi≤xs.size->(∀i x,i<lo->xs[i]?=some x->x<j)->(∀i x,hi≤i->xs[i]?=some x->j≤x) ->
  below.go xs j fuel lo hi≤xs.size/\(∀i x,i<below.go xs j fuel lo hi->xs[i]?=some x->x<j)/\(∀i x,below.go xs j fuel lo hi≤i->xs[i]?=some x->j≤x)
 |0,lo,hi,hf,hl,hs,h1,h2=>by
  have e:lo=hi:=by lia
  subst e;exact⟨hs,h1,h2⟩
 |fuel+1,lo,hi,hf,hl,hs,h1,h2=>by
  unfold below.go;by_cases hlt:lo<hi
  ·rw[if_pos hlt];dsimp only;have hmid:(lo+hi) / 2<xs.size:=by lia
   have hg:xs.getD ((lo+hi) / 2) j=xs[(lo+hi) / 2]:=by simp[jQ,hmid]
   rw[hg];have pw:∀a b x y,a<b->xs[a]?=some x->xs[b]?=some y->x<y:=fun a b x y hab ea eb=>by
    have ha':a<xs.toList.length:=by
     have:=(ba.mp ea).1;simpa using this
    have hb':b<xs.toList.length:=by
     have:=(ba.mp eb).1;simpa using this
    have:=fo.mp hr a b ha' hb' hab;obtain⟨_,e1⟩:=ba.mp ea;obtain⟨_,e2⟩:=ba.mp eb;simpa [e1,e2] using this
   have em:xs[(lo+hi) / 2]?=some xs[(lo+hi) / 2]:=by simp[hmid]
   by_cases hc:xs[(lo+hi) / 2]<j
   ·rw[if_pos hc];refine sm hr fuel _ hi (by lia) (by lia) hs (fun i x hi' e=>?_) h2;by_cases hi2:i=(lo+hi) / 2
    ·subst hi2;rw[em] at e;cases e;exact hc
    ·exact jM (pw i _ x _ (by lia) e em) hc
   ·rw[if_neg hc];refine sm hr fuel lo _ (by lia) (by lia) (by lia) h1 (fun i x hi' e=>?_);by_cases hi2:i=(lo+hi) / 2
    ·subst hi2;rw[em] at e;cases e;lia
    ·have:=pw _ i _ x (by lia) em e;lia
  ·rw[if_neg hlt];have e:lo=hi:=by lia
   subst e;exact⟨hs,h1,h2⟩
theorem o7{xs:Array Nat}{j:Nat}(hr:xs.toList.Pairwise (· < ·)):below xs j≤xs.size/\(∀i x,i<below xs j->xs[i]?=some x->x<j)/\(∀i x,below xs j≤i->xs[i]?=some x->j≤x):=
 sm hr xs.size 0 xs.size (by lia) (by lia) (by lia) (fun i _ h=>by lia) fun i x h e=>by
  have:=(ba.mp e).1;lia
theorem below_at{xs:Array Nat}{j i:Nat}(hr:xs.toList.Pairwise (· < ·))(e:xs[i]?=some j):below xs j=i:=by
 obtain⟨h0,h1,h2⟩:=o7 (j:=j) hr;have hi:=(ba.mp e).1;by_cases hlt:i<below xs j
 ·exact absurd (h1 i j hlt e) (cv _)
 ·by_cases hgt:below xs j<i
  ·have hb:below xs j<xs.size:=by lia
   have eb:xs[below xs j]?=some xs[below xs j]:=by simp[hb]
   have q1:=h2 _ _ (Θ _) eb;have pw:=fo.mp hr (below xs j) i (by simpa using hb) (by simpa using hi) hgt;obtain⟨_,e1⟩:=ba.mp e;simp[e1] at pw;lia
  ·lia
end jG
namespace jG
open PySem PySem.SetTable
structure Tab(t:aW)(hs:List Int):Prop where
 mask:iz t.mask
 size:t.place.size=hs.length
 rise:t.place.toList.Pairwise (· < ·)
 bound:∀j∈t.place.toList,j≤t.mask
 jA:t.dummies = #[]
 room:hs.length*5<t.mask*3
 reach:∀j h,(j,h)∈t.place.toList.zip hs->∃k,(sq t.mask h k).j=j/\∀k',k' < k->(sq t.mask h k').j∈t.place.toList
theorem pZ{t:aW}{j i:Nat}(hr:t.place.toList.Pairwise (· < ·))(e:t.place[i]?=some j):t.slot j=.live i:=by
 unfold slot;dsimp only;rw[below_at hr e,e];simp
theorem zW{t:aW}{j:Nat}(hd:t.dummies = #[])(e:j∉t.place.toList):t.slot j=.empty:=by
 unfold slot;dsimp only;have h1:¬(t.place[below t.place j]?==some j)=true:=by
  intro h;have h':t.place[below t.place j]?=some j:=by simpa using h
  exact e (by
   rw[←ao] at h';exact aY h')
 rw[if_neg h1];have h2:has t.dummies j=false:=by
  rw[hd];rfl
 rw[h2];rfl
theorem uQ:∀(n:Nat) (L:List Nat),(∀e,e<n->e∈L)->n≤L.length
 |0,_,_=>aK _
 |n+1,L,h=>by
  have h1:=h n (gI n);have h2:=uQ n (L.erase n) fun e he=>(List.mem_erase_of_ne (by lia)).mpr (h e (by lia));have h3:=List.length_erase_of_mem h1;have h4:=List.length_pos_of_mem h1;lia
theorem rP{t:aW}{hs:List Int}(T:Tab t hs)(h:Int):∃ke,ke≤10*t.mask+130/\(sq t.mask h ke).j∉t.place.toList/\∀k,k<ke->(sq t.mask h k).j∈t.place.toList:=by
 -- some slot is empty
 have hex:∃e,e≤t.mask/\e∉t.place.toList:=by
  refine ax fun hn=>?_;have hall:∀e,e≤t.mask->e∈t.place.toList:=fun e he=>ax fun q=>hn ⟨e,he,q⟩;have hl:=uQ (t.mask+1) t.place.toList fun e he=>hall e (by lia);have e1:t.place.toList.length=t.place.size:=by simp
  have:=T.size;have:=T.room;lia
 obtain⟨e,he,ne⟩:=hex;obtain⟨k,hk,ek⟩:=comes T.mask h he;have hP:∃k,(sq t.mask h k).j∉t.place.toList:=⟨k,by rw[ek];exact ne⟩
 -- the least one
 have least:∀n,(∃k,k≤n/\(sq t.mask h k).j∉t.place.toList)->∃ke,ke≤n/\(sq t.mask h ke).j∉t.place.toList/\∀k,k<ke->(sq t.mask h k).j∈t.place.toList:=by
  intro n
  induction n with
  |zero=>
   rintro⟨k,hk,q⟩;have:k=0:=by lia
   subst this;exact⟨0,Θ _,q,fun k hk=>by lia⟩
  |succ n ih=>
   rintro⟨k,hk,q⟩;by_cases hp:∃k,k≤n/\(sq t.mask h k).j∉t.place.toList
   ·obtain⟨ke,h1,h2,h3⟩:=ih hp;exact⟨ke,by lia,h2,h3⟩
   ·have hk':k=n+1:=by
     refine ax fun z=>hp ⟨k,by lia,q⟩
    subst hk';exact⟨n+1,Θ _,q,fun k' hk'=>ax fun z=>hp ⟨k',by lia,z⟩⟩
 obtain⟨ke,h1,h2,h3⟩:=least k ⟨k,Θ _,by rw[ek];exact ne⟩;exact⟨ke,by lia,h2,h3⟩
inductive Meets(t:aW)(hashAt:Nat->Int)(h:Int)(n ke:Nat):Met->Prop where
 |xY {k i:Nat} (h1:n≤k) (h2:k<ke) (h3:t.place[i]?=some (sq t.mask h k).j) (h4:hashAt i=h) (h5:∀k' i',n≤k'->k' < k->t.place[i']?=some (sq t.mask h k').j->hashAt i'≠h):
   Meets t hashAt h n ke (.candidate (sq t.mask h k).j i (sq t.mask h (k+1)))
 |free (h1:n≤ke) (h5:∀k' i',n≤k'->k' < ke->t.place[i']?=some (sq t.mask h k').j->hashAt i'≠h):Meets t hashAt h n ke (.empty (sq t.mask h ke).j none)
theorem xI{t:aW}{hashAt:Nat->Int}{h:Int}{ke:Nat}(hr:t.place.toList.Pairwise (· < ·))(hd:t.dummies = #[])(he:(sq t.mask h ke).j∉t.place.toList)(hl:∀k,k<ke->(sq t.mask h k).j∈t.place.toList):
  ∀(fuel n:Nat),n≤ke->ke-n<fuel->∃met,probe.go t hashAt h fuel (sq t.mask h n)=some met/\Meets t hashAt h n ke met
 |0,n,_,hf=>by lia
 |fuel+1,n,hn,hf=>by
  unfold probe.go;by_cases hlast:n=ke
  ·subst hlast;rw[zW hd he,wN];exact⟨_,rfl,.free (Θ _) fun k' i' h1 h2=>by lia⟩
  ·have hmem:=hl n (by lia);obtain⟨i,hi⟩:=er hmem;have hi':t.place[i]?=some (sq t.mask h n).j:=by rw[←ao];exact hi
   rw[pZ hr hi'];dsimp only;by_cases hh:hashAt i=h
   ·rw[if_pos (by simpa using hh)];exact⟨_,rfl,.xY (Θ _) (by lia) hi' hh fun k' i' h1 h2=>by lia⟩
   ·rw[if_neg (by simpa using hh)];obtain⟨met,e,m⟩:=xI (hashAt:=hashAt) hr hd he hl fuel (n+1) (by lia) (by lia);refine⟨met,e,?_⟩;have one:∀i',t.place[i']?=some (sq t.mask h n).j->hashAt i'≠h:=fun i' e'=>by
     have e1:=below_at hr hi';have e2:=below_at hr e';have:i'=i:=by lia
     rw[this];exact hh
    cases m with
    |xY h1 h2 h3 h4 h5=>
     refine .xY (by lia) h2 h3 h4 fun k' i' q1 q2 q3=>?_;by_cases hk:k'=n
     ·subst hk;exact one i' q3
     ·exact h5 k' i' (by lia) q2 q3
    |free h1 h5=>
     refine .free (by lia) fun k' i' q1 q2 q3=>?_;by_cases hk:k'=n
     ·subst hk;exact one i' q3
     ·exact h5 k' i' (by lia) q2 q3
theorem rK{t:aW}{hs:List Int}(T:Tab t hs){hashAt:Nat->Int}{h:Int}{ke n:Nat}(hk:ke≤10*t.mask+130)(he:(sq t.mask h ke).j∉t.place.toList)(hl:∀k,k<ke->(sq t.mask h k).j∈t.place.toList)(hn:n≤ke):
  ∃met,t.probe hashAt h (sq t.mask h n)=some met/\Meets t hashAt h n ke met:=by
 unfold probe;exact xI T.rise T.jA he hl _ n hn (by unfold turns;lia)
theorem cH{α:Type}(xs:Array α)(p:Nat)(x:α):(insertAt xs p x).toList=xs.toList.take p++x::xs.toList.drop p:=by
 unfold insertAt;have e:(xs.extract p xs.size).toList=xs.toList.drop p:=by
  rw[pf];simp[List.extract];exact iS (by simp)
 simp[pf,List.extract];exact iS (by simp)
theorem sC{α β:Type}:∀(p:Nat) (xs:List α) (ys:List β) (x:α) (y:β),xs.length=ys.length->((xs.take p++x::xs.drop p).zip (ys.take p++y::ys.drop p)).Perm ((x,y)::xs.zip ys)
 |0,xs,ys,x,y,_=>by simp
 |p+1,[],ys,x,y,h=>by
  have:ys=[]:=mQ.mp (by simpa using h.symm);subst this;simp
 |p+1,a::xs,[],x,y,h=>by simp at h
 |p+1,a::xs,b::ys,x,y,h=>by
  have ih:=sC p xs ys x y (by simpa using h);simp only[List.take_succ_cons,List.drop_succ_cons,List.cons_append,dQ];exact (List.Perm.cons (a,b) ih).trans (List.Perm.swap _ _ _)
theorem fu{α:Type}(p:Nat)(xs:List α)(x:α):(xs.take p++x::xs.drop p).Perm (x::xs):=by
 have:=List.perm_middle (a:=x) (l₁:=xs.take p) (l₂:=xs.drop p);rw[oz] at this;exact this
theorem C4{t:aW}{j:Nat}(hd:t.dummies = #[]):t.put j=({ t with place:=insertAt t.place (below t.place j) j,dummies:=#[]},below t.place j):=by
 unfold put;dsimp only;have h2:has t.dummies j=false:=by
  rw[hd];rfl
 rw[h2];simp[hd]
structure ny(t:aW)(hs:List Int):Prop where
 mask:iz t.mask
 size:t.place.size=hs.length
 rise:t.place.toList.Pairwise (· < ·)
 bound:∀j∈t.place.toList,j≤t.mask
 jA:t.dummies = #[]
 Ht:hs.length≤t.mask
 reach:∀j h,(j,h)∈t.place.toList.zip hs->∃k,(sq t.mask h k).j=j/\∀k',k' < k->(sq t.mask h k').j∈t.place.toList
theorem GH{m:Nat}(hm:iz m)(h:Int):∀k,(sq m h k).j≤m/\(sq m h k).j+(sq m h k).more≤m:=by
 have hrun:∀i,i≤m->runEnd m i≤m:=fun i hi=>by
  unfold runEnd;split<;>lia
 have hrs:∀q:Nat×Nat,q.1≤m->(rs m q).j≤m/\(rs m q).j+(rs m q).more≤m:=fun q hq=>by
  have:=hrun q.1 hq;have h2:q.1≤runEnd m q.1:=by unfold runEnd;split<;>lia
  show q.1≤m/\q.1+(runEnd m q.1-q.1)≤m;lia
 intro k
 induction k with
 |zero=>exact hrs _ (by show bits h%(m+1)≤m;have:bits h%(m+1)<m+1:=iB (bits h) (my m);lia)
 |succ k ih=>
  show (qw m (sq m h k)).j≤m/\(qw m (sq m h k)).j+(qw m (sq m h k)).more≤m;unfold qw;by_cases hc:(sq m h k).more > 0
  ·rw[if_pos hc];show (sq m h k).j+1≤m/\(sq m h k).j+1+((sq m h k).more-1)≤m;lia
  ·rw[if_neg hc];have hlt:(leap m (sq m h k).i (sq m h k).perturb).1≤m:=by
    show ((sq m h k).i*5+1+(sq m h k).perturb / 32)%(m+1)≤m;have:((sq m h k).i*5+1+(sq m h k).perturb / 32)%(m+1)<m+1:=iB _ (my m);lia
   exact hrs (leap m (sq m h k).i (sq m h k).perturb) hlt
theorem Tab.put{t:aW}{hs:List Int}(T:Tab t hs){h:Int}{ke:Nat}(he:(sq t.mask h ke).j∉t.place.toList)(hl:∀k,k<ke->(sq t.mask h k).j∈t.place.toList):
  ny { t with place:=insertAt t.place (below t.place (sq t.mask h ke).j) (sq t.mask h ke).j,dummies:=#[]} (hs.take (below t.place (sq t.mask h ke).j)++h::hs.drop (below t.place (sq t.mask h ke).j)):=by
 obtain⟨b0,b1,b2⟩:=o7 (j:=(sq t.mask h ke).j) T.rise;have hlen:t.place.toList.length=hs.length:=by simpa using T.size
 have hmem:∀x,x∈(insertAt t.place (below t.place (sq t.mask h ke).j) (sq t.mask h ke).j).toList↔x=(sq t.mask h ke).j∨x∈t.place.toList:=fun x=>by
  rw[cH,(fu _ t.place.toList _).mem_iff,aM]
 refine⟨T.mask,?_,?_,fun j hj=>?_,rfl,?_,fun j h' hj=>?_⟩
 ·show (insertAt t.place (below t.place (sq t.mask h ke).j) (sq t.mask h ke).j).size=_;have e1:(insertAt t.place (below t.place (sq t.mask h ke).j) (sq t.mask h ke).j).size=(insertAt t.place (below t.place (sq t.mask h ke).j) (sq t.mask h ke).j).toList.length:=by simp
  rw[e1,cH,(fu _ t.place.toList _).length_eq,(fu _ hs _).length_eq];simp only[au];lia
 ·show (insertAt t.place (below t.place (sq t.mask h ke).j) (sq t.mask h ke).j).toList.Pairwise (· < ·);rw[cH];refine List.pairwise_append.mpr ⟨T.rise.sublist (ls _ _),fX.mpr ⟨fun x hx=>?_,T.rise.sublist (List.drop_sublist _ _)⟩,fun a ha b hb=>?_⟩
  ·obtain⟨i,hi⟩:=er hx;rw[qH] at hi;have q:=b2 (below t.place (sq t.mask h ke).j+i) x (by lia) (by rw[←ao];exact hi);have ne:x≠(sq t.mask h ke).j:=fun e=>he (e▸aY hi);lia
  ·obtain⟨i,hi⟩:=er ha;have hil:i<below t.place (sq t.mask h ke).j:=by
    have:=(aP.mp hi).1;rw[dM] at this;lia
   rw[mI hil] at hi;have qa:=b1 i a hil (by rw[←ao];exact hi);rcases aM.mp hb with e|hb
   ·rw[e];exact qa
   ·obtain⟨i2,hi2⟩:=er hb;rw[qH] at hi2;have q:=b2 (below t.place (sq t.mask h ke).j+i2) b (by lia) (by rw[←ao];exact hi2);lia
 ·rcases (hmem j).mp hj with e|e
  ·rw[e];exact (GH T.mask h ke).1
  ·exact T.bound j e
 ·rw[(fu _ hs _).length_eq];have:=T.room;rcases T.mask with e|e|e<;>(simp only[au];show _≤t.mask;lia)
 ·have hp:(j,h')∈(t.place.toList.take (below t.place (sq t.mask h ke).j)++(sq t.mask h ke).j::t.place.toList.drop (below t.place (sq t.mask h ke).j)).zip
    (hs.take (below t.place (sq t.mask h ke).j)++h::hs.drop (below t.place (sq t.mask h ke).j)):=by
   rw[←cH];exact hj
  rw[(sC _ _ _ _ _ hlen).mem_iff] at hp;rcases aM.mp hp with e|e
  ·cases e;exact⟨ke,rfl,fun k' hk'=>(hmem _).mpr (.inr (hl k' hk'))⟩
  ·obtain⟨k,e1,e2⟩:=T.reach j h' e;exact⟨k,e1,fun k' hk'=>(hmem _).mpr (.inr (e2 k' hk'))⟩
theorem ny.tab{t:aW}{hs:List Int}(T:ny t hs)(h:t.tooFull=false):Tab t hs:=by
 refine⟨T.mask,T.size,T.rise,T.bound,T.jA,?_,T.reach⟩;have h':¬(t.fill*5≥t.mask*3):=by simpa [tooFull] using h
 have e:t.fill=hs.length:=by
  unfold fill;rw[T.size,T.jA];rfl
 rw[e] at h';lia
end jG
namespace jG
open PySem PySem.SetTable
def Taken(ow:Array (Option Nat))(j:Nat):Prop:=∃k,ow[j]?=some (some k)
theorem oR{ow:Array (Option Nat)}{j:Nat}(hj:j<ow.size):(ow.getD j (some 0)).isNone=true↔¬Taken ow j:=by
 have e:ow.getD j (some 0)=ow[j]:=by simp[jQ,hj]
 rw[e];unfold Taken;rw[lQ hj];cases ow[j] with
 |none=>simp
 |some k=>simp
theorem zo{m:Nat}(hm:iz m){h:Int}{ow:Array (Option Nat)}(hs:ow.size=m+1):∀(fuel r n:Nat),sq m h n=rs m (rn m h r)->(∀k,k<n->Taken ow (sq m h k).j) ->
  (∃r',r≤r'/\r' < r+fuel/\¬Taken ow (rn m h r').1)->∃ke,layClean.free m ow fuel (rn m h r).1 (rn m h r).2=some (sq m h ke).j/\¬Taken ow (sq m h ke).j/\∀k,k<ke->Taken ow (sq m h k).j
 |0,r,n,_,_,hx=>by
  obtain⟨r',h1,h2,_⟩:=hx;lia
 |fuel+1,r,n,hn,hk,hx=>by
  have hi:=Ab m h r;have hre:runEnd m (rn m h r).1≤m:=by unfold runEnd;split<;>lia
  have hre2:(rn m h r).1≤runEnd m (rn m h r).1:=by unfold runEnd;split<;>lia
  have at_d:∀d,d≤runEnd m (rn m h r).1-(rn m h r).1->(sq m h (n+d)).j=(rn m h r).1+d:=fun d hd=>by
   rw[wY m h n _ hn d hd]
  unfold layClean.free;cases hf:(aB (runEnd m (rn m h r).1+1-(rn m h r).1)).find? (fun k=>(ow.getD ((rn m h r).1+k) (some 0)).isNone) with
  |some k=>
   obtain⟨p1,p2,p3⟩:=List.find?_range_eq_some.mp hf;have hkr:=bO.mp p2;refine⟨n+k,?_,?_,fun k' hk'=>?_⟩
   ·rw[at_d k (by lia)]
   ·rw[at_d k (by lia)];exact (oR (by lia)).mp p1
   ·by_cases hlt:k' < n
    ·exact hk k' hlt
    ·obtain⟨d,rfl⟩:∃d,k'=n+d:=⟨k' - n,by lia⟩;rw[at_d d (by lia)];have q:=p3 d (by lia);refine ax fun z=>?_;rw[(oR (by lia)).mpr z] at q;cases q
  |none=>
   have hnone:=qI.mp hf;have occ:∀d,d≤runEnd m (rn m h r).1-(rn m h r).1->Taken ow ((rn m h r).1+d):=fun d hd=>
    ax fun z=>hnone d (bO.mpr (by lia)) ((oR (by lia)).mpr z)
   refine zo hm hs fuel (r+1) (n+(runEnd m (rn m h r).1-(rn m h r).1)+1) (wX m h n _ hn) (fun k hk'=>?_) ?_
   ·by_cases hlt:k<n
    ·exact hk k hlt
    ·obtain⟨d,rfl⟩:∃d,k=n+d:=⟨k-n,by lia⟩;rw[at_d d (by lia)];exact occ d (by lia)
   ·obtain⟨r',h1,h2,h3⟩:=hx;refine⟨r',?_,by lia,h3⟩;have:r'≠r:=fun e=>h3 (by
     rw[e];have:=occ 0 (aK _);simpa using this)
    lia
structure rV(m:Nat)(ow:Array (Option Nat))(l:List Int):Prop where
 size:ow.size=m+1
 all:∀(k:Nat),k<l.length->∃j:Nat,ow[j]?=some (some k)
 one:∀(j j' k:Nat),ow[j]?=some (some k)->ow[j']?=some (some k)->j=j'
 reach:∀(j k:Nat),ow[j]?=some (some k)->∃h,l[k]?=some h/\∃n,(sq m h n).j=j/\∀n',n' < n->Taken ow (sq m h n').j
theorem rV.nil(m:Nat):rV m (Array.replicate (m+1) none) []:=by
 have hno:∀(j k:Nat),¬(Array.replicate (m+1) (none:Option Nat))[j]?=some (some k):=fun j k e=>by
  rw[Array.getElem?_replicate] at e;split at e<;>simp at e
 exact⟨by simp,fun k hk=>by simp at hk,fun j j' k e=>absurd e (hno j k),fun j k e=>absurd e (hno j k)⟩
theorem rV.room{m:Nat}{ow:Array (Option Nat)}{l:List Int}(O:rV m ow l)(hl:l.length≤m):∃e,e≤m/\¬Taken ow e:=by
 refine ax fun hn=>?_;have hall:∀e,e≤m->Taken ow e:=fun e he=>ax fun q=>hn ⟨e,he,q⟩;obtain⟨g,hg⟩:∃g:Nat->Nat,∀k,k<l.length->ow[g k]?=some (some k):=by
  refine⟨fun k=>if q:k<l.length then (O.all k q).choose else 0,fun k hk=>?_⟩;dsimp only;rw[dif_pos hk];exact (O.all k hk).choose_spec
 have hlen:=uQ (m+1) ((aB l.length).map g) fun e he=>by
  obtain⟨k,hk⟩:=hall e (by lia);obtain⟨h,e1,_⟩:=O.reach e k hk;have hkl:=(aP.mp e1).1;exact Φ.mpr ⟨k,bO.mpr hkl,O.one _ _ k (hg k hkl) hk⟩
 simp at hlen;lia
theorem rV.add{m:Nat}(hm:iz m){ow:Array (Option Nat)}{l:List Int}{h:Int}(O:rV m ow l)(hl:l.length≤m):
  ∃j,layClean.free m ow (turns m) (bits h%(m+1)) (bits h)=some j/\rV m (ow.setIfInBounds j (some l.length)) (l++[h]):=by
 obtain⟨e,he,ne⟩:=O.room hl;obtain⟨n0,hn0,en0⟩:=Df hm (Ab m h 13) (show e<m+1 by lia);obtain⟨ke,h1,h2,h3⟩:=zo hm (h:=h) O.size (turns m) 0 0 rfl (fun k hk=>by lia) ⟨13+n0,by lia,by unfold turns;lia,by rw[Ac,en0];exact ne⟩;refine⟨(sq m h ke).j,h1,?_⟩;have hj:(sq m h ke).j<ow.size:=by
  have:=(GH hm h ke).1;rw[O.size];lia
 have hget:∀j:Nat,(ow.setIfInBounds (sq m h ke).j (some l.length))[j]?=if (sq m h ke).j=j then some (some l.length) else ow[j]?:=fun j=>by
  rw[Array.getElem?_setIfInBounds];by_cases e:(sq m h ke).j=j
  ·rw[if_pos e,if_pos e,if_pos (by lia)]
  ·rw[if_neg e,if_neg e]
 have tk:∀j,Taken ow j->Taken (ow.setIfInBounds (sq m h ke).j (some l.length)) j:=fun j ⟨k,hk⟩=>by
  unfold Taken;rw[hget];by_cases e:(sq m h ke).j=j
  ·exact⟨_,if_pos e⟩
  ·exact⟨k,by rw[if_neg e];exact hk⟩
 have lt_of:∀j k:Nat,ow[j]?=some (some k)->k<l.length:=fun j k e=>by
  obtain⟨h',e1,_⟩:=O.reach j k e;exact (aP.mp e1).1
 refine⟨by rw[Array.size_setIfInBounds];exact O.size,fun k hk=>?_,fun j j' k q q'=>?_,fun j k q=>?_⟩
 ·rw[av,dk] at hk;by_cases hkl:k<l.length
  ·obtain⟨j,hj'⟩:=O.all k hkl;refine⟨j,?_⟩;rw[hget,if_neg (fun e=>h2 ⟨k,by rw[e];exact hj'⟩)];exact hj'
  ·have:k=l.length:=by lia
   exact⟨(sq m h ke).j,by rw[hget,if_pos rfl,this]⟩
 ·rw[hget] at q q';by_cases e:(sq m h ke).j=j
  ·rw[if_pos e] at q;by_cases e':(sq m h ke).j=j'
   ·lia
   ·rw[if_neg e'] at q';cases q;exact absurd (lt_of _ _ q') (cv _)
  ·rw[if_neg e] at q;by_cases e':(sq m h ke).j=j'
   ·rw[if_pos e'] at q';cases q';exact absurd (lt_of _ _ q) (cv _)
   ·rw[if_neg e'] at q';exact O.one j j' k q q'
 ·rw[hget] at q;by_cases e:(sq m h ke).j=j
  ·rw[if_pos e] at q;cases q;exact⟨h,by simp,ke,e,fun n' hn'=>tk _ (h3 n' hn')⟩
  ·rw[if_neg e] at q;obtain⟨h',e1,n,e2,e3⟩:=O.reach j k q;exact⟨h',by rw[dU (lt_of j k q)];exact e1,n,e2,fun n' hn'=>tk _ (e3 n' hn')⟩
theorem DK{m:Nat}(hm:iz m):∀(l' l:List Int) (ow:Array (Option Nat)),rV m ow l->l.length+l'.length≤m+1 ->
  ∃ow',(l'.foldl (fun (acc:Option (Array (Option Nat)×Nat)) h=>do
   let (owner,k) ←acc
   let j ←layClean.free m owner (turns m) (bits h%(m+1)) (bits h)
   pure (owner.setIfInBounds j (some k),k+1)) (some (ow,l.length)))=some (ow',(l++l').length)/\rV m ow' (l++l')
 |[],l,ow,O,_=>⟨ow,by simp,by simpa using O⟩
 |h::l',l,ow,O,hl=>by
  rw[au] at hl
  obtain⟨j,e,O'⟩:=O.add hm (h:=h) (by lia)
  obtain⟨ow',e2,O2⟩:=DK hm l' (l++[h]) _ O' (by simp;lia)
  refine⟨ow',?_,by simpa using O2⟩
  rw[List.foldl_cons]
  have hs:(do
   let (owner,k) ←(some (ow,l.length):Option (Array (Option Nat)×Nat))
   let j ←layClean.free m owner (turns m) (bits h%(m+1)) (bits h)
   pure (owner.setIfInBounds j (some k),k+1))=some (ow.setIfInBounds j (some l.length),(l++[h]).length):=by
   show (do
    let j ←layClean.free m ow (turns m) (bits h%(m+1)) (bits h)
    pure (ow.setIfInBounds j (some l.length),l.length+1))=_
   rw[e]
   simp
  rw[hs,e2]
  simp
theorem lA{α:Type}:∀l:List α,((aB l.length).filterMap fun k=>l[k]?)=l
 |[]=>rfl
 |a::l=>by
  rw[au,iT,mJ (b:=a) (by simp),qJ];have ih:=lA l;congr 1
theorem CP{α:Type}(xs:Array α):((aB xs.size).filterMap fun k=>xs[k]?)=xs.toList:=by
 have:=lA xs.toList;simpa using this
theorem zi{m finger moves:Nat}{led plain:Bool}(hm:iz m)(hs:Array Int)(hl:hs.size*5<m*3):
  ∃t order,laid m finger moves led plain hs=some (t,order)/\t.mask=m/\t.led=led/\t.plain=plain/\t.finger=finger/\order.toList.Perm (aB hs.size)/\Tab t (order.toList.filterMap fun k=>hs[k]?):=by
 obtain⟨ow,e,O⟩:=DK hm hs.toList [] _ (rV.nil m) (by simp;lia);rw[dj] at e O;have hlc:layClean m hs=some ow:=by
  unfold layClean;rw[←Array.foldl_toList];have e':=congrArg (uj fun x:Array (Option Nat)×Nat=>x.1) e;exact e'
 have hmem:∀j k,(j,k)∈((aB (m+1)).filterMap fun j=>(ow.getD j none).map (j,·))↔ow[j]?=some (some k):=fun j k=>by
  rw[kI];constructor
  ·rintro⟨a,ha,q⟩;have ha':=bO.mp ha;cases ho:ow.getD a none with
   |none=>rw[ho] at q;cases q
   |some k'=>
    rw[ho] at q;cases q;have:ow.getD j none=ow[j]'(by rw[O.size];exact ha'):=by simp[jQ,O.size,ha']
    rw[this] at ho;rw[lQ (by rw[O.size];exact ha'),ho]
  ·intro q;have hj:=(ba.mp q).1;rw[O.size] at hj;refine⟨j,bO.mpr hj,?_⟩;have:ow.getD j none=some k:=by
    rw[Array.getD_eq_getD_getElem?,q];rfl
   rw[this];rfl
 generalize hL:((aB (m+1)).filterMap fun j=>(ow.getD j none).map (j,·))=L at hmem;have rise:L.Pairwise fun a b=>a.1<b.1:=by
  rw[←hL];refine List.Pairwise.filterMap _ (fun a a' hlt b hb b' hb'=>?_) (List.pairwise_lt_range (n:=m+1));cases ho:ow.getD a none with
  |none=>rw[ho] at hb;cases hb
  |some k=>
   rw[ho] at hb;cases hb;cases ho':ow.getD a' none with
   |none=>rw[ho'] at hb';cases hb'
   |some k'=>
    rw[ho'] at hb';cases hb';exact hlt
 have nd:(L.map (·.2)).Nodup:=by
  refine iI _ (R:=fun a b=>a.2≠b.2) (fun _ _ z=>z) ?_;refine List.Pairwise.imp_of_mem (fun {a b} ha hb hab=>?_) rise;intro q;obtain⟨j,k⟩:=a;obtain⟨j',k'⟩:=b;have ea:=(hmem j k).mp ha;have eb:=(hmem j' k').mp hb;have hab':j<j':=hab;have q':k=k':=q;subst q';have:=O.one j j' k ea eb;lia
 have hperm:(L.map (·.2)).Perm (aB hs.size):=by
  refine (kX nd List.nodup_range).mpr fun k=>?_;rw[Φ,bO];constructor
  ·rintro⟨⟨j,k'⟩,hjk,rfl⟩;obtain⟨h,e1,_⟩:=O.reach j k' ((hmem j k').mp hjk);have:=(aP.mp e1).1;simpa using this
  ·intro hk;obtain⟨j,ej⟩:=O.all k (by simpa using hk);exact⟨(j,k),(hmem j k).mpr ej,rfl⟩
 -- the hashes in the slots' order
 have hzip:∀j h,(j,h)∈(L.map (·.1)).zip ((L.map (·.2)).filterMap fun k=>hs[k]?)->∃k,(j,k)∈L/\hs[k]?=some h:=by
  have hall:∀p∈L,∃h,hs[p.2]?=some h:=fun p hp=>by
   obtain⟨h,e1,_⟩:=O.reach p.1 p.2 ((hmem p.1 p.2).mp hp);exact⟨h,by rw[←ao];exact e1⟩
  clear hmem rise nd hperm hL
  induction L with
  |nil=>intro j h q;cases q
  |cons p L ih=>
   intro j h q;obtain⟨h0,e0⟩:=hall p χ;rw[bH,bH,mJ e0,dQ] at q;rcases aM.mp q with q|q
   ·cases q;exact⟨p.2,χ,e0⟩
   ·obtain⟨k,q1,q2⟩:=ih (fun p hp=>hall p (ω _ hp)) j h q;exact⟨k,ω _ q1,q2⟩
 have hlenL:((L.map (·.2)).filterMap fun k=>hs[k]?).length=L.length:=by
  have h1:=(hperm.filterMap fun k=>hs[k]?).length_eq;rw[CP] at h1;have h3:=hperm.length_eq;rw[μ,fg] at h3;rw[h1,h3];simp
 refine⟨_,_,by unfold laid;rw[hlc];rfl,rfl,rfl,rfl,rfl,?_,?_⟩
 ·rw[hL];exact hperm
 ·rw[hL];have hlen:L.length=hs.size:=by
   have:=hperm.length_eq;simpa using this
  refine⟨hm,?_,?_,fun j hj=>?_,rfl,?_,fun j h hj=>?_⟩
  ·rw[hlenL];simp
  ·exact iI _ (fun _ _ z=>z) rise
  ·obtain⟨⟨j',k⟩,hp,rfl⟩:=Φ.mp hj;have:=(ba.mp ((hmem j' k).mp hp)).1;rw[O.size] at this;show j'≤m;lia
  ·rw[hlenL,hlen];exact hl
  ·obtain⟨k,q1,q2⟩:=hzip j h hj;obtain⟨h',e1,n,e2,e3⟩:=O.reach j k ((hmem j k).mp q1);have eh:h'=h:=by
    rw[ao,q2] at e1;exact (ay e1).symm
   subst eh;refine⟨n,e2,fun n' hn'=>?_⟩;obtain⟨k',hk'⟩:=e3 n' hn';exact Φ.mpr ⟨(_,k'),(hmem _ k').mpr hk',rfl⟩
end jG
namespace cP
open PySem jG
section
variable {prog:af} {w:ar} {A:bA} {E:δ->ζ->Prop} {s:ζ}
abbrev hk(prog:af)(w:ar)(ks:List Int):Int:=tupleKeyHash (intKind prog w) ks
abbrev eF(prog:af)(w:ar)(h:ai)(ks:List Int)(a:ε):Prop:=IsTupleKey (intKind prog w) h ks a
def ent(prog:af)(w:ar)(p:List Int×ε):Int×δ:=(hk prog w p.1,.ref p.2)
structure ki(prog:af)(w:ar)(h:ai)(a:ε)(o:aT)(es:Array (Int×δ))(ep:Nat)(t:aW)(xs:List (List Int×ε)):Prop where
 at_:h.get? a=some o
 ex:o.ExactSet
 dat:o.data=.set es ep t
 ents:es.toList=xs.map (ent prog w)
 keys:∀p∈xs,eF prog w h p.1 p.2
 nd:(xs.map (·.1)).Nodup
 plain:t.plain=true
 led:t.led = !(w.params.followText "set-order")
structure jF(w:ar)(h:ai)(a:ε)(o:aT)(es:Array (Int×δ))(ep:Nat)(t:aW):Prop where
 at_:h.get? a=some o
 ex:o.ExactSet
 dat:o.data=.set es ep t
 plain:t.plain=true
 led:t.led = !(w.params.followText "set-order")
theorem ki.wk{prog:af}{w:ar}{h:ai}{a:ε}{o:aT}{es:Array (Int×δ)}{ep:Nat}{t:aW}{xs:List (List Int×ε)}(S:ki prog w h a o es ep t xs):jF w h a o es ep t:=⟨S.at_,S.ex,S.dat,S.plain,S.led⟩
theorem ml{es:Array (Int×δ)}:(es.toList.map (·.1)).length=es.size:=by simp
theorem e7{es:Array (Int×δ)}{t:aW}(T:ny t (es.toList.map (·.1))):t.fits es.size=true:=by
 unfold aW.fits;have h1:=T.size;rw[ml] at h1;have h2:=T.Ht;rw[ml] at h2;have h3:t.fill=es.size:=by
  unfold aW.fill;rw[h1,T.jA];rfl
 rw[h3,h1];simp;exact h2
theorem Tab.r{t:aW}{hs:List Int}(T:Tab t hs):ny t hs:=by
 refine⟨T.mask,T.size,T.rise,T.bound,T.jA,?_,T.reach⟩;have:=T.room;lia
theorem zm{t:aW}(h:iz t.mask):t.gaveWay=false:=by
 unfold aW.gaveWay;rcases h with e|e|e<;>rw[e]<;>rfl
theorem vn(n:Nat){v:δ}(h:carriedByValue v=true):ofAClassStatement n v=pure false:=by
 cases v with
 |ref a=>simp[carriedByValue] at h
 |_=>first|rfl|(cases n<;>rfl)
theorem wb{ks:List Int}{a:ε}{Q:Bool->ζ->Prop}(hx:eF prog w s.heap ks a)(h:Q false s):π (model prog w) A (ofAClassStatement 8 (.ref a)) Q E s:=by
 have hT:=hx.typeIs;obtain⟨o,items,n,ho,hc,hd,hi⟩:=hx;unfold ofAClassStatement;refine γ (eR hT ?_);dsimp only;rw[if_pos (by decide)];refine γ (η ?_);rw[if_neg (by decide)];refine γ (cR ho hd ?_);dsimp only;refine γ ?_;rw[←cL];refine bN _ (fun rest r s'=>r.1=none/\s'=s/\∀v∈rest,carriedByValue v=true) _ ?_ ?_ _ _ ⟨rfl,rfl,hi.byValue⟩
 ·rintro v rest r s' ⟨hr,rfl,hall⟩;rw[vn _ (hall v χ)];refine γ (η ?_);rw[if_neg Ω];exact η ⟨rfl,rfl,fun u hu'=>hall u (ω _ hu')⟩
 ·rintro⟨r1,r2⟩ s' ⟨hr,rfl,_⟩;simp only at hr;subst hr;exact η h
theorem HY{ks:List Int}{a:ε}{Q:Bool->ζ->Prop}(hx:eF prog w s.heap ks a)(l:List δ)(hl:∀v∈l,∃k y,v=.ref y/\eF prog w s.heap k y)(h:Q false s):
  π (model prog w) A (searchCouldBeSeen (.ref a) l) Q E s:=by
 unfold searchCouldBeSeen;refine γ ?_;refine bN _ (fun rest r s'=>r.1=none/\s'=s/\∀v∈rest,∃k y,v=.ref y/\eF prog w s.heap k y) _ ?_ ?_ _ _ ⟨rfl,rfl,hl⟩
 ·rintro v rest r s' ⟨hr,rfl,hall⟩;obtain⟨k,y,rfl,hy⟩:=hall v χ;have hrest:∀v∈rest,∃k y,v=aJ y/\eF prog w s'.heap k y:=fun v hv=>hall v (ω _ hv);dsimp only;by_cases hc:((a==y)||(carriedByValue (.ref a)&&carriedByValue (.ref y)))=true
  ·rw[if_pos hc];exact η ⟨rfl,rfl,hrest⟩
  ·rw[if_neg hc];refine γ (wpAny_eqIsQuiet_tuple hx ?_);rw[if_neg (by decide)];refine γ (wpAny_eqIsQuiet_tuple hy ?_);rw[if_neg (by decide)];refine γ (wb hx ?_);rw[if_neg Ω];refine γ (wb hy ?_);rw[if_neg Ω];exact η ⟨rfl,rfl,hrest⟩
 ·rintro⟨r1,r2⟩ s' ⟨hr,rfl,_⟩;simp only at hr;subst hr;exact η h
theorem zE{ks:List Int}{a:ε}{Q:Bool->ζ->Prop}(hx:eF prog w s.heap ks a)(h:Q true s):π (model prog w) A (hashByValue 8 (.ref a)) Q E s:=by
 have hT:=hx.typeIs;obtain⟨o,items,n,ho,hc,hd,hi⟩:=hx;unfold hashByValue;refine γ (ee hT F.slot_tuple_hash.lookup ?_);dsimp only;refine γ (cR ho hd ?_);refine γ ?_;show π _ _ (forIn items _ _) _ _ s;rw[←cL];refine bN _ (fun rest r s'=>r.1=none/\s'=s/\∃l,ItemsAre (intKind prog w) l rest) _ ?_ ?_ _ _ ⟨rfl,rfl,ks,hi⟩
 ·rintro v rest r s' ⟨hr,rfl,l,hl⟩;cases hl with
  |@cons k v' _ _ h1 h2=>
   obtain⟨tk,rfl⟩:=et (k:=k) h1;have e:hashByValue 7 (.int k tk)=pure true:=by rfl
   rw[e];refine γ (η ?_);rw[if_neg (by decide)];exact η ⟨rfl,rfl,_,h2⟩
 ·rintro⟨r1,r2⟩ s' ⟨hr,rfl,_⟩;simp only at hr;subst hr;exact η h
theorem Pa{es:Array (Int×δ)}{xs:List (List Int×ε)}(he:es.toList=xs.map (ent prog w)){i:Nat}(hi:i<es.size):∃p,xs[i]?=some p/\es[i]?=some (ent prog w p):=by
 have hl:xs.length=es.size:=by
  have:=congrArg du he;simpa using this.symm
 obtain⟨p,hp⟩:∃p,xs[i]?=some p:=⟨xs[i]'(by lia),aU (by lia)⟩;refine⟨p,hp,?_⟩;rw[←ao,he,ag,hp];rfl
theorem uT{a:ε}{o:aT}{es:Array (Int×δ)}{ep:Nat}{t:aW}{xs:List (List Int×ε)}(S:ki prog w s.heap a o es ep t xs)(T:Tab t (es.toList.map (·.1)))(hu:A.units<cLine)
  {ks:List Int} {x:ε} (hx:eF prog w s.heap ks x) {ke:Nat} (hke:ke≤10*t.mask+130) (hemp:(sq t.mask (hk prog w ks) ke).j∉t.place.toList) (hliv:∀k,k<ke->(sq t.mask (hk prog w ks) k).j∈t.place.toList)
  {Q:SetFound->ζ->Prop} (hin:ks∈xs.map (·.1)->Q (.there none) s) (hout:ks∉xs.map (·.1)->Q (.free (sq t.mask (hk prog w ks) ke).j false) s):
  ∀(fuel n:Nat) (stand:Option uS),stand.getD (t.probeStart (hk prog w ks))=sq t.mask (hk prog w ks) n->n≤ke->ke-n<fuel ->
   (∀(k' i':Nat) p,k' < n->t.place[i']?=some (sq t.mask (hk prog w ks) k').j->xs[i']?=some p->p.1≠ks) ->
   π (model prog w) A (setSearchFrom a (.ref x) (hk prog w ks) true fuel stand) Q E s
 |0,n,stand,_,_,hf,_=>by lia
 |fuel+1,n,stand,hst,hn,hf,hprev=>by
  have fv:t.place.size=es.size:=by
   have:=T.size
   rw[ml] at this
   exact this
  have hfit:=e7 (Tab.r T)
  have hal:∀(i:Nat) (p:List Int×ε),xs[i]?=some p->((es[i]?).map fun z:Int×δ=>z.1).getD 0=hk prog w p.1:=fun i p hp=>by
   rw[←ao,S.ents,ag,hp]
   rfl
  unfold setSearchFrom
  refine γ (bB S.at_ S.dat hfit ?_)
  dsimp only
  rw[zm T.mask,if_neg Ω,hst]
  obtain⟨met,e,m⟩:=rK T (hashAt:=fun i=>((es[i]?).map fun z:Int×δ=>z.1).getD 0) hke hemp hliv hn
  erw [e]
  dsimp only
  cases m with
  |free h1 h5=>
   dsimp only
   refine η (hout fun hmem=>?_)
   obtain⟨p,hp,rfl⟩:=Φ.mp hmem
   obtain⟨i,hi⟩:=er hp
   have hil:i<es.size:=by
    have h1:=(aP.mp hi).1
    have h2:=congrArg du S.ents
    simp at h2
    lia
   have hj:∃j,t.place[i]?=some j:=⟨t.place[i]'(by lia),by simp⟩
   obtain⟨j,hj⟩:=hj
   have hz:(j,hk prog w p.1)∈t.place.toList.zip (es.toList.map (·.1)):=by
    refine aY (i:=i) ?_
    rw[lM]
    refine⟨by rw[ao];exact hj,?_⟩
    rw[S.ents,bp,ag,hi]
    rfl
   obtain⟨k,hk1,dI⟩:=T.reach _ _ hz
   have hkke:k<ke:=by
    refine ax fun z=>hemp ?_
    by_cases q:k=ke
    ·rw[←q,hk1]
     exact aY (by rw[ao];exact hj)
    ·exact dI ke (by lia)
   rw[←hk1] at hj
   by_cases hkn:k<n
   ·exact hprev k i p hkn hj hi rfl
   ·exact h5 k i (by lia) hkke hj (hal i p hi)
  |@xY k i h1 h2 h3 h4 h5=>
   dsimp only
   have hil:i<es.size:=by
    have:=(ba.mp h3).1
    lia
   obtain⟨p,hp,hesi⟩:=Pa S.ents hil
   have hyk:=S.keys p (aY hp)
   have hpk:p∈xs:=aY hp
   have go:π (model prog w) A (do
     let some (_,y):=es[i]? | unsupported "internal:set-entry"
     let equal ←holding [y] (eqBool y (.ref x))
     let (es',_,t') ←setState a
     if true&&equal then return .there none
     let some same:=t'.sameMemory t.moves t.mask|unsupported "set.changed-during-lookup:is-the-new-block-at-the-old-address"
     let still ←match (if same then t'.slot (sq t.mask (hk prog w ks) k).j else .empty) with
      |.live i'=>match es'[i']? with
       |some (_,y')=>do pure (if ←isSame y' y then some i' else none)
       |none=>pure none
      |_=>pure none
     match still with
     |none=>rule "set.search.anew";setSearchFrom a (.ref x) (hk prog w ks) true fuel none
     | some i'=>if equal then return .there (some i') else setSearchFrom a (.ref x) (hk prog w ks) true fuel (some (sq t.mask (hk prog w ks) (k+1)))) Q E s:=by
    rw[hesi]
    dsimp only[ent]
    refine γ (br (il hu hyk hx ?_))
    refine γ (bB S.at_ S.dat hfit ?_)
    dsimp only
    by_cases heq:p.1=ks
    ·rw[decide_eq_true heq,if_pos (by decide)]
     exact η (hin (Φ.mpr ⟨p,hpk,heq⟩))
    ·rw[decide_eq_false heq,if_neg (by decide)]
     have hsm:t.sameMemory t.moves t.mask=some true:=by unfold pH;simp
     rw[hsm]
     dsimp only
     rw[if_pos rfl,pZ T.rise h3]
     dsimp only
     rw[hesi]
     dsimp only[ent]
     refine γ (wpAny_isSame_ref_self ?_)
     rw[if_pos rfl]
     refine γ (η ?_)
     dsimp only
     rw[if_neg Ω]
     refine uT S T hu hx hke hemp hliv hin hout fuel (k+1) _ rfl (by lia) (by lia) fun k' i' p' hk' hpl hp'=>?_
     by_cases hkn:k' < n
     ·exact hprev k' i' p' hkn hpl hp'
     ·by_cases hkk:k'=k
      ·subst hkk
       have e1:=below_at T.rise h3
       have e2:=below_at T.rise hpl
       have:i'=i:=by lia
       subst this
       rw[hp] at hp'
       cases hp'
       exact heq
      ·intro he
       exact h5 k' i' (by lia) (by lia) hpl (by rw[hal i' p' hp',he])
   by_cases hled:t.led=true
   ·rw[hled]
    rw[if_neg (by decide)]
    exact go
   ·have hled':t.led=false:=by simpa using hled
    rw[hled']
    rw[if_pos (by decide)]
    refine γ (HY hx _ (fun v hv=>?_) ?_)
    ·obtain⟨e0,he0,rfl⟩:=Φ.mp hv
     have he1:e0∈es.toList:=by
      have:=gL.mp he0
      exact gL.mpr (Array.mem_filter.mp this).1
     rw[S.ents] at he1
     obtain⟨p0,hp0,rfl⟩:=Φ.mp he1
     exact⟨p0.1,p0.2,rfl,S.keys p0 hp0⟩
    ·rw[if_neg Ω]
     exact go
end
end cP
namespace cP
open PySem jG
section
variable {prog:af} {w:ar} {A:bA} {E:δ->ζ->Prop} {s:ζ}
def kh(prog:af)(w:ar)(h:ai)(a:ε)(xs:List (List Int×ε)):Prop:=
 ∃o es ep t,ki prog w h a o es ep t xs/\Tab t (es.toList.map (·.1))
theorem nW{h h':ai}{a y:ε}{ks:List Int}{o:aT}{es:Array (Int×δ)}{ep:Nat}{t:aW}(ho:h.get? a=some o)(hd:o.data=.set es ep t)(sb:cQ a h h')(hy:eF prog w h ks y):eF prog w h' ks y:=by
 obtain⟨oy,items,n,hoy,hc,hdy,hi⟩:=hy;have ne:y≠a:=by
  intro e;subst e;rw[ho] at hoy;cases hoy;rw[hd] at hdy;cases hdy
 exact⟨oy,items,n,(sb.2 y ne).trans hoy,hc,hdy,hi⟩
theorem qV{h:ai}{a:ε}{o:aT}{es es':Array (Int×δ)}{ep:Nat}{t t':aW}(ho:h.get? a=some o)(hd:o.data=.set es ep t):
  (h.update a (gH es' t')).get? a=some { o with data:=.set es' (ep+1) t' }:=by
 have q:=dS (gH es' t') ho (by rw[putSet_of es' t' hd];rfl);rw[putSet_of es' t' hd] at q;exact q
theorem yt:∀n,n<8->5≤n->kE (dP n)=32:=by decide +kernel
theorem wQ:∀n,n<32->19≤n->kE (dP n)=128:=by decide +kernel
theorem tE{t:aW}{hs:List Int}(T:ny t hs)(hf:t.tooFull=true)(h64:hs.length≤64):∃m,kE (dP hs.length)=m+1/\iz m/\hs.length*5<m*3/\m+1≤128:=by
 have hfill:t.fill=hs.length:=by
  unfold aW.fill;rw[T.size,T.jA];rfl
 have h':hs.length*5≥t.mask*3:=by
  unfold aW.tooFull at hf;rw[hfill] at hf;simpa using hf
 have hfit:=T.Ht;rcases T.mask with e|e|e
 ·rw[e] at h' hfit;exact⟨31,yt _ (by lia) (by lia),.inr (.inl rfl),by lia,by lia⟩
 ·rw[e] at h' hfit;exact⟨127,wQ _ (by lia) (by lia),.inr (.inr rfl),by lia,by lia⟩
 ·rw[e] at h';lia
theorem lj{α β:Type}(f:α->β)(l:List α)(o:List Nat):(o.filterMap fun k=>(l.map f)[k]?)=(o.filterMap fun k=>l[k]?).map f:=by
 rw[kJ];congr 1;funext k;rw[ag]
theorem El{a:ε}{o:aT}{es:Array (Int×δ)}{ep:Nat}{t:aW}{xs:List (List Int×ε)}(S:ki prog w s.heap a o es ep t xs)(T:ny t (es.toList.map (·.1)))(hf:t.tooFull=true)(h64:es.size≤64)
  {Q:Unit->ζ->Prop} (h:∀h' xs',cQ a s.heap h'->kh prog w h' a xs'->xs'.Perm xs->Q () { s with heap:=h' }):
  π (model prog w) A (setRelay a (dP es.size)) Q E s:=by
 have fv:(es.toList.map (·.1)).length=es.size:=ml
 obtain⟨m,hm1,hm2,hm3,hm4⟩:=tE T hf (by rw[fv];exact h64)
 rw[fv] at hm1 hm3
 unfold setRelay
 refine γ (bB S.at_ S.dat (e7 T) ?_)
 dsimp only
 rw[hm1,if_neg (by rw[bM];lia)]
 obtain⟨t2,order,e2,em,el,ep2,ef,hperm,T2⟩:=zi (finger:=t.finger) (moves:=t.movedTo m) (led:=t.led) (plain:=t.plain) hm2 (es.map (·.1)) (by simpa using hm3)
 have erel:t.relaid (es.map (·.1)) (dP es.size)=some (t2,order):=by
  unfold ug
  rw[hm1,Nat.add_sub_cancel]
  exact e2
 have hosz:(es.map (·.1)).size=es.size:=by simp
 rw[hosz] at hperm
 have hes2:(order.filterMap (es[·]?)).toList=(order.toList.filterMap fun k=>xs[k]?).map (ent prog w):=by
  rw[gd,←lj,←S.ents]
  congr 1
  funext k
  rw[ao]
 have hxl:xs.length=es.size:=by
  have:=congrArg du S.ents
  simpa using this.symm
 have hxp:(order.toList.filterMap fun k=>xs[k]?).Perm xs:=by
  have:=hperm.filterMap fun k=>xs[k]?
  rw[←hxl,lA] at this
  exact this
 have hsz2:(order.filterMap (es[·]?)).size=es.size:=by
  have:=congrArg du hes2
  simp only[μ] at this
  rw[hxp.length_eq,hxl] at this
  rw[←cC]
  exact this
 refine γ ?_
 show π _ _ (do
  let some (t,order):=t.relaid (es.map (·.1)) (dP es.size)|unsupported "internal:set-table-without-room"
  let es':=order.filterMap (es[·]?)
  if es'.size != es.size then unsupported "internal:set-table-lost-an-element"
  pure (es',t)) _ _ _
 rw[erel]
 dsimp only
 rw[hsz2,if_neg (by simp)]
 refine η ?_
 dsimp only
 refine iG S.at_ S.dat ?_ (by rw[hsz2,bM];lia)
 have sb:=cZ s.heap a (gH (order.filterMap (es[·]?)) t2)
 refine h _ _ sb ⟨_,_,_,_,⟨qV S.at_ S.dat,⟨S.ex.1,S.ex.2.1,S.ex.2.2⟩,rfl,hes2,fun p hp=>nW S.at_ S.dat sb (S.keys p (hxp.mem_iff.mp hp)),?_,ep2.trans S.plain,el.trans S.led⟩,?_⟩ hxp
 ·exact (hxp.map _).nodup_iff.mpr S.nd
 ·have eT:(order.filterMap (es[·]?)).toList.map (·.1)=order.toList.filterMap fun k=>(es.map (·.1))[k]?:=by
   rw[gd,kJ]
   congr 1
   funext k
   simp
  rw[eT]
  exact T2
theorem Kl{a:ε}{xs:List (List Int×ε)}(S:kh prog w s.heap a xs)(h64:xs.length<64)(hu:A.units<cLine){ks:List Int}{x:ε}(hx:eF prog w s.heap ks x)
  {Q:Bool->ζ->Prop} (h:∀b h' tk xs',s.toks≤tk->cQ a s.heap h'->kh prog w h' a xs'->(ks∈xs.map (·.1)->xs'.Perm xs)->(ks∉xs.map (·.1)->xs'.Perm ((ks,x)::xs))->Q b { s with heap:=h',toks:=tk }):
  π (model prog w) A (setAdd a (.ref x)) Q E s:=by
 obtain⟨o,es,ep,t,S,T⟩:=S;have hxl:xs.length=es.size:=by
  have:=congrArg du S.ents;simpa using this.symm
 unfold setAdd;refine br (γ (wpAny_pyHash_tuple hu hx ?_));unfold setAddHashed;refine br ?_;have ie:∀b h' xs',cQ a s.heap h'->kh prog w h' a xs'->(ks∈xs.map (·.1)->xs'.Perm xs)->(ks∉xs.map (·.1)->xs'.Perm ((ks,x)::xs))->Q b { s with heap:=h',toks:=s.toks+(ks.length+1)}:=
  fun b h' xs' q1 q2 q3 q4=>h b h' _ xs' (ja _ _) q1 q2 q3 q4
 obtain⟨ke,hke,hemp,hliv⟩:=rP T (hk prog w ks);unfold setAddHashedIn;refine γ (bB (s:={ s with toks:=s.toks+(ks.length+1)}) S.at_ S.dat (e7 (Tab.r T)) ?_);dsimp only;rw[show byScan (.ref x) es=false from rfl,if_neg Ω];refine γ ?_;unfold setSearch;refine uT (s:={ s with toks:=s.toks+(ks.length+1)}) S T hu hx hke hemp hliv (fun hin=>?_) (fun hout=>?_) 100000 0 none rfl (aK _) (by rcases T.mask with e|e|e<;>rw[e] at hke<;>lia) fun k' i' p hk'=>absurd hk' (m7 _)
 ·dsimp only;exact η (ie false s.heap xs (.refl _ _) ⟨o,es,ep,t,S,T⟩ (fun _=>.refl _) fun z=>absurd hin z)
 ·dsimp only;refine γ (bB (s:={ s with toks:=s.toks+(ks.length+1)}) S.at_ S.dat (e7 (Tab.r T)) ?_);dsimp only;rw[C4 T.jA];dsimp only;rw[S.plain,if_pos rfl];refine γ (zE (s:={ s with toks:=s.toks+(ks.length+1)}) hx ?_);rw[if_pos rfl];have TR:=T.put hemp hliv;generalize hp:fx t.place (sq t.mask (hk prog w ks) ke).j=p at TR ⊢;have hes1:(ae es p (hk prog w ks,aJ x)).toList=(xs.take p++(ks,x)::xs.drop p).map (ent prog w):=by
   rw[cH,S.ents,bw,bH,i0,i3];rfl
  have hhs:(ae es p (hk prog w ks,aJ x)).toList.map (·.1)=(es.toList.map (·.1)).take p++hk prog w ks::(es.toList.map (·.1)).drop p:=by
   rw[cH,bw,bH,i0,i3]
  have hsz1:(ae es p (hk prog w ks,aJ x)).size=es.size+1:=by
   rw[←cC,cH,(fu p es.toList _).length_eq,au,cC]
  rw[←hhs] at TR;refine γ (iG (s:={ s with toks:=s.toks+(ks.length+1)}) S.at_ S.dat ?_ (by rw[hsz1,bM];lia));have sb:=cZ s.heap a (gH (ae es p (hk prog w ks,aJ x)) { t with place:=ae t.place p (sq t.mask (hk prog w ks) ke).j,dummies:=#[],plain:=true });have hpx:(xs.take p++(ks,x)::xs.drop p).Perm ((ks,x)::xs):=fu p xs _;have S1:ki prog w (s.heap.update a (gH (ae es p (hk prog w ks,aJ x)) { t with place:=ae t.place p (sq t.mask (hk prog w ks) ke).j,dummies:=#[],plain:=true })) a { o with data:=.set (ae es p (hk prog w ks,aJ x)) (ep+1) { t with place:=ae t.place p (sq t.mask (hk prog w ks) ke).j,dummies:=#[],plain:=true }} (ae es p (hk prog w ks,aJ x)) (ep+1)
    { t with place:=ae t.place p (sq t.mask (hk prog w ks) ke).j,dummies:=#[],plain:=true } (xs.take p++(ks,x)::xs.drop p):=by
   refine⟨qV S.at_ S.dat,⟨S.ex.1,S.ex.2.1,S.ex.2.2⟩,rfl,hes1,fun q hq=>?_,?_,rfl,S.led⟩
   ·rcases aM.mp (hpx.mem_iff.mp hq) with e|e
    ·rw[e];exact nW S.at_ S.dat sb hx
    ·exact nW S.at_ S.dat sb (S.keys q e)
   ·refine (hpx.map _).nodup_iff.mpr ?_;rw[bH,eo];exact⟨hout,S.nd⟩
  have TR':ny { t with place:=ae t.place p (sq t.mask (hk prog w ks) ke).j,dummies:=#[],plain:=true } ((ae es p (hk prog w ks,aJ x)).toList.map (·.1)):=
   ⟨TR.mask,TR.size,TR.rise,TR.bound,TR.jA,TR.Ht,TR.reach⟩
  by_cases hfull:({ t with place:=ae t.place p (sq t.mask (hk prog w ks) ke).j,dummies:=#[],plain:=true }:aW).tooFull=true
  ·rw[hfull,if_pos (by decide)];refine γ ?_;rw[←hsz1];refine El (s:={ s with heap:=s.heap.update a _,toks:=s.toks+(ks.length+1)}) S1 TR' hfull (by rw[hsz1];lia) fun h' xs' sb' S2 pm=>?_;exact η (ie true h' xs' (sb.trans sb') S2 (fun z=>absurd z hout) fun _=>pm.trans hpx)
  ·have hfull':({ t with place:=ae t.place p (sq t.mask (hk prog w ks) ke).j,dummies:=#[],plain:=true }:aW).tooFull=false:=by simpa using hfull
   rw[hfull',if_neg (by decide)];exact η (ie true _ _ sb ⟨_,_,_,_,S1,TR'.tab hfull'⟩ (fun z=>absurd z hout) fun _=>hpx)
end
end cP
namespace cP
open PySem jG
theorem fP:Slot "set_iterator" "__next__" "set_iterator.__next__":=
 .of (owner:="set_iterator") (n:="__next__")
  (by rw[typeLookup_type,builtinLookup_eq_fast];kernel_rfl)
  (by decide +kernel) (by decide +kernel) (by decide +kernel)
  (by first|exact .inl (by decide +kernel)|exact .inr (by decide +kernel))
  (by rw[oj];kernel_rfl)
theorem pq:Slot "set_iterator" "__iter__" "set_iterator.__iter__":=
 .of (owner:="set_iterator") (n:="__iter__")
  (by rw[typeLookup_type,builtinLookup_eq_fast];kernel_rfl)
  (by decide +kernel) (by decide +kernel) (by decide +kernel)
  (by first|exact .inl (by decide +kernel)|exact .inr (by decide +kernel))
  (by rw[oj];kernel_rfl)
theorem nY:entryFor table "set_iterator.__next__" = some eJ.«set_iterator.__next__»:=entryFor_of_tree (by kernel_rfl)
theorem xM:entryFor table "set.__iter__" = some eJ.«frozenset.__iter__»:=
 entryFor_alias (id':="frozenset.__iter__") (by rw[fastTable_eq_tree];kernel_rfl) (by decide +kernel) (by decide +kernel) (by rw[fastTable_eq_tree];kernel_rfl)
theorem vd:Manifest.owners.lookup (String.ofList ['r','o','t','a','r','e','t','i','_','t','e','s'].reverse)=some Manifest.sig_set_iterator:=by kernel_rfl
theorem pA(a:δ):argsOk "set_iterator.__next__" ⟨[a],[]⟩:=by
 unfold argsOk;rw[signature?_of (id:="set_iterator.__next__") (n:=['_','_','t','x','e','n','_','_']) (o:=['r','o','t','a','r','e','t','i','_','t','e','s']) (by kernel_rfl) vd]
 kernel_rfl
theorem yS{α:Type}(next:Nat->Nat):∀(fuel k:Nat) (left:List α) (out:Array α),left.length≤fuel->(pickOrder.go next fuel k left out).toList.Perm (out.toList++left)
 |0,k,left,out,h=>by
  have:left=[]:=mQ.mp (by lia);subst this;show out.toList.Perm (out.toList++[]);rw[cI]
 |fuel+1,k,left,out,h=>by
  unfold pickOrder.go;cases hl:left[next k%left.length]? with
  |none=>
   have:left=[]:=by
    cases left with
    |nil=>rfl
    |cons a l=>
     have:=iB (next k) (show 0<(a::l).length by simp)
     rw[aU this] at hl;cases hl
   subst this;show out.toList.Perm (out.toList++[]);rw[cI]
  |some x=>
   have hlt:=(aP.mp hl).1;have ih:=yS next fuel (k+1) (left.eraseIdx (next k%left.length)) (out.push x) (by rw[List.length_eraseIdx];split<;>lia)
   refine ih.trans ?_;rw[Array.toList_push,eu];refine List.Perm.append_left _ ?_;obtain⟨_,e⟩:=aP.mp hl;rw[←e,List.eraseIdx_eq_take_drop_succ];have q:=List.perm_middle (a:=left[next k%left.length]) (l₁:=left.take (next k%left.length)) (l₂:=left.drop (next k%left.length+1))
   rw[List.getElem_cons_drop,oz] at q;exact q.symm
theorem C7{α:Type}(next:Nat->Nat)(xs:Array α):(pickOrder next xs).toList.Perm xs.toList:=by
 have:=yS next xs.size 0 xs.toList #[] (by simp)
 unfold pickOrder;simpa using this
def ij(w:ar):Bool:=w.params.followText "set-order"
def gB(w:ar)(a:ε)(ep:Nat)(es:Array (Int×δ)):List (Int×δ):=if ij w then (pickOrder (w.params.setOrder a ep) es).toList else es.toList
theorem ly(w:ar)(a:ε)(ep:Nat)(es:Array (Int×δ)):(gB w a ep es).Perm es.toList:=by
 unfold gB;split
 ·exact C7 _ _
 ·exact .refl _
def kj(h:ai)(it a:ε)(slot i n ep:Nat):Prop:=h.get? it=some { cls:=.type "set_iterator",data:=.fields #[rawInt slot,rawInt i,.ref a,rawInt n,rawInt ep]}
def oe(w:ar)(t:aW)(slot i:Nat):Prop:=ij w=true∨fx t.place slot=i
section
variable {prog:af} {w:ar} {A:bA} {E:δ->ζ->Prop} {s:ζ}
theorem pN{Q:Bool->ζ->Prop}(h:Q (ij w) s):π (model prog w) A setsByText Q E s:=by
 unfold setsByText;exact γ (mv (η h))
theorem zD{a:ε}{o:aT}{es:Array (Int×δ)}{ep:Nat}{t:aW}(S:jF w s.heap a o es ep t)(T:Tab t (es.toList.map (·.1)))
  {Q:δ->ζ->Prop} (h:Q (.ref s.heap.objs.size) { s with heap:=s.heap.push { cls:=.type "set_iterator",data:=.fields #[rawInt (0:Nat),rawInt (0:Nat),.ref a,rawInt es.size,rawInt ep]}}):
  π (model prog w) A (pyIter (.ref a)) Q E s:=by
 have hT:s.TypeIs (.ref a) "set":=⟨o,S.at_,S.ex.1⟩;have hfit:=e7 (Tab.r T);refine wpAny_pyIter_slot hT F.slot_set_iter (cz F.slot_set_iter hT xM ?_ (F.args_set_iter_1 _));unfold eJ.«frozenset.__iter__»;show π _ _ (mT "__iter__" ⟨[.ref a],[]⟩ >>= _) _ _ s;refine γ (m:=mT "__iter__" ⟨[.ref a],[]⟩) (kl (a:=a) rfl ?_);unfold eJ.Frozenset.sizeOf setEntries;refine γ (γ (γ (bB S.at_ S.dat hfit (η (η ?_)))));unfold setDrawn;refine γ (γ (bB S.at_ S.dat hfit ?_));refine γ (pN (η ?_));have hnd:(!ij w&&(!t.plain&&decide (es.size > 1)))=false:=by rw[S.plain];simp
 show π _ _ (if (!ij w&&(!t.plain&&decide (es.size > 1)))=true then _ else _) _ _ s;rw[hnd,if_neg Ω];refine γ (η ?_);refine γ (wpAny_setEpoch_of S.at_ S.dat hfit ?_);refine γ ?_;unfold newFields;refine b9 ?_;refine η ⟨_,rfl,"set_iterator",_,⟨_,ab _ rfl,rfl⟩,fP.lookup,h⟩
theorem sF{a:ε}{o:aT}{es:Array (Int×δ)}{ep:Nat}{t:aW}(S:jF w s.heap a o es ep t)(T:Tab t (es.toList.map (·.1))){slot i:Nat}(hsl:oe w t slot i)
  {Q:Option (δ×Nat)->ζ->Prop} (h1:∀p slot',(gB w a ep es)[i]?=some p->oe w t slot' (i+1)->Q (some (p.2,slot')) s) (h2:(gB w a ep es)[i]?=none->Q none s):
  π (model prog w) A (setNext a slot i ep) Q E s:=by
 have hfit:=e7 (Tab.r T);have fv:t.place.size=es.size:=by
  have:=T.size;rw[ml] at this;exact this
 unfold setNext;refine γ (bB S.at_ S.dat hfit ?_);dsimp only;refine γ (pN ?_);unfold gB at h1 h2;cases hbt:ij w with
 |true=>
  rw[hbt] at h1 h2;rw[if_pos rfl];simp only[if_true,ao] at h1 h2;rw[if_neg (by simp)];unfold setWalk;refine γ (γ (bB S.at_ S.dat hfit ?_));dsimp only;refine γ (pN ?_);rw[hbt,if_pos rfl];refine γ (mv (η ?_));refine η ?_;show Q (uj (fun e=>(e.snd,slot)) (pickOrder (w.params.setOrder a ep) es)[i]?) s;cases hp:(pickOrder (w.params.setOrder a ep) es)[i]? with
  |none=>exact h2 hp
  |some p=>exact h1 p slot hp (.inl hbt)
 |false=>
  rw[hbt] at h1 h2;rw[if_neg Ω];simp only[bI,if_false,ao] at h1 h2;have hled:t.led=true:=by
   rw[S.led];show (!ij w)=true;rw[hbt];rfl
  have hb:fx t.place slot=i:=by
   rcases hsl with z|z
   ·rw[hbt] at z;cases z
   ·exact z
  have hnd:(!t.plain&&decide (es.size > 1))=false:=by rw[S.plain];simp
  show π _ _ (if (!t.plain&&decide (es.size > 1))=true then _ else _) _ _ s;rw[hnd,if_neg Ω];refine γ ?_;show π _ _ (if (!t.led && !es.isEmpty)=true then _ else _) _ _ s;rw[hled,if_neg (by simp)];refine η ?_;rw[hb];cases hp:es[i]? with
  |none=>
   refine η ?_;have hpl:t.place[i]?=none:=by
    have:=gS.mp hp;exact gS.mpr (by lia)
   exact h2 hp
  |some p=>
   have hil:=(ba.mp hp).1;have hj:t.place[i]?=some (t.place[i]'(by lia)):=by simp[fv,hil]
   rw[hj];obtain⟨ph,pv⟩:=p;refine η (h1 (ph,pv) _ hp (.inr ?_))
   -- the next place
   obtain⟨b0,b1,b2⟩:=o7 (j:=t.place[i]'(by lia)+1) T.rise;refine ax fun hne=>?_;by_cases hlt:fx t.place (t.place[i]'(by lia)+1)≤i
   ·have:=b2 i _ hlt hj;lia
   ·have hgt:i+1<fx t.place (t.place[i]'(by lia)+1):=by lia
    have hi1:i+1<t.place.size:=by lia
    have e1:t.place[i+1]?=some (t.place[i+1]):=by simp[hi1]
    have q:=b1 (i+1) _ hgt e1;have pw:=fo.mp T.rise i (i+1) (by simp;lia) (by simpa using hi1) (gI i);simp at pw;lia
theorem r8{it a:ε}{slot i n ep:Nat}(hit:kj s.heap it a slot i n ep):s.TypeIs (.ref it) "set_iterator":=⟨_,hit,rfl⟩
theorem pM{a it:ε}{o:aT}{es:Array (Int×δ)}{ep:Nat}{t:aW}(S:jF w s.heap a o es ep t)(T:Tab t (es.toList.map (·.1))){slot i:Nat}(hit:kj s.heap it a slot i es.size ep)
  {P:qC->ζ->Prop} (h:π (model prog w) A (do
   match ←setNext a slot i ep with
   |some (x,next)=>
    setField (.ref it) 0 (rawInt next)
    setField (.ref it) 1 (rawInt ((i:Int)+1))
    ret x
   | none=>setField (.ref it) 2 .none;raiseNew (←newExc (.type "StopIteration") [])) P E s):
  π (model prog w) A (eJ.«set_iterator.__next__» ⟨[.ref it],[]⟩) P E s:=by
 have hfit:=e7 (Tab.r T);unfold eJ.«set_iterator.__next__»;refine γ (m:=slotArgs "__next__" 0 ⟨[.ref it],[]⟩) (kl (a:=(.ref it,[])) rfl ?_);refine γ (wpAny_fieldsOf hit rfl ?_);dsimp only[rawInt];unfold setEntries;refine γ (γ (bB S.at_ S.dat hfit (η ?_)));rw[if_neg (by simp)];exact h
theorem v9{a it:ε}{o:aT}{es:Array (Int×δ)}{ep:Nat}{t:aW}(S:jF w s.heap a o es ep t)(T:Tab t (es.toList.map (·.1))){slot i:Nat}(hsl:oe w t slot i)(hit:kj s.heap it a slot i es.size ep)
  {p:Int×δ} (hp:(gB w a ep es)[i]?=some p) {Q:Option δ->ζ->Prop}
  (h:∀h' slot',kj h' it a slot' (i+1) es.size ep->oe w t slot' (i+1)->cQ it s.heap h'->Q (some p.2) { s with heap:=h' }):π (model prog w) A (pyNext (.ref it)) Q E s:=by
 have hT:=r8 hit;unfold pyNext;refine γ (wpAny_attempt (eE (name:=ip "__next__") hT fP
  (cz fP hT nY (pM S T hit (γ (sF S T hsl (fun q slot' hq hs'=>?_) fun hn=>?_))) (pA _))))
 ·rw[hp] at hq;cases hq;dsimp only;refine γ (kB hit (by simp) fun h1 e1 sb1=>?_);refine γ (kB (s:={ s with heap:=h1 }) e1 (by simp) fun h2 e2 sb2=>?_)
  refine η ⟨_,rfl,η (h h2 slot' ?_ hs' (sb1.trans sb2))⟩;unfold kj;rw[e2];rfl
 ·rw[hp] at hn;cases hn
theorem yo{a it:ε}{o:aT}{es:Array (Int×δ)}{ep:Nat}{t:aW}(hh:A.handled=none)(S:jF w s.heap a o es ep t)(T:Tab t (es.toList.map (·.1))){slot i:Nat}(hsl:oe w t slot i)(hit:kj s.heap it a slot i es.size ep)
  (hp:(gB w a ep es)[i]?=none) {Q:Option δ->ζ->Prop}
  (h:∀h',ai.ExtBut it s.heap h'->Q none { s with heap:=h' }):π (model prog w) A (pyNext (.ref it)) Q E s:=by
 have hT:=r8 hit;unfold pyNext;refine γ (wpAny_attempt (eE (name:=ip "__next__") hT fP
  (cz fP hT nY (pM S T hit (γ (sF S T hsl (fun q slot' hq hs'=>?_) fun hn=>?_))) (pA _))))
 ·rw[hp] at hq;cases hq
 ·dsimp only;refine γ (kB hit (by simp) fun h1 e1 sb1=>?_);refine γ ?_;simp only[newExc,newTuple];refine γ (b9 ?_ (by size_fits));refine γ (m:=firstArgMember _ _) (kl (a:=cM) (by first|rfl|(simp only[firstArgMember];rfl)) ?_)
  refine b9 ?_ (by size_fits);simp only[raiseNew];refine γ (wpAny_handled ?_);rw[show A.in1.handled=none from hh];refine γ (η (wpAny_throw ?_));refine γ (gG (T:="StopIteration") (b:=true) ⟨_,ab _ rfl,rfl⟩ isSubtype_stop ?_);refine η (h _ fun b ob hb e=>?_);exact ξ _ (ξ _ ((sb1.2 b hb).trans e))
end
end cP
namespace cP
open PySem jG
section
variable {prog:af} {w:ar} {A:bA} {E:δ->ζ->Prop} {s:ζ}
theorem ki.kept{h h':ai}{a:ε}{o:aT}{es:Array (Int×δ)}{ep:Nat}{t:aW}{xs:List (List Int×ε)}(S:ki prog w h a o es ep t xs)
  (k:∀b∈a::xs.map (·.2),∀ob,h.get? b=some ob->h'.get? b=some ob):ki prog w h' a o es ep t xs:=by
 refine⟨k a χ _ S.at_,S.ex,S.dat,S.ents,fun p hp=>?_,S.nd,S.plain,S.led⟩;obtain⟨oy,items,n,ho,r⟩:=S.keys p hp;exact⟨oy,items,n,k _ (ω _ (Φ.mpr ⟨p,hp,rfl⟩)) _ ho,r⟩
theorem jF.kept{h h':ai}{a:ε}{o:aT}{es:Array (Int×δ)}{ep:Nat}{t:aW}(S:jF w h a o es ep t)
  (k:∀b∈[a],∀ob,h.get? b=some ob->h'.get? b=some ob):jF w h' a o es ep t:=⟨k a χ _ S.at_,S.ex,S.dat,S.plain,S.led⟩
theorem jF.Mj{h:ai}{a it:ε}{o:aT}{es:Array (Int×δ)}{ep ep':Nat}{t:aW}{slot i n:Nat}{b:ε}(S:jF w h a o es ep t)(hit:kj h it b slot i n ep'):
  ∀c∈[a],c≠it:=fun c hc e=>by
 subst e;unfold kj at hit;rw[dt.mp hc,S.at_] at hit;cases hit;have:=S.dat;cases this
theorem B0(hh:A.handled=none){a it:ε}{o:aT}{es:Array (Int×δ)}{ep:Nat}{t:aW}(T:Tab t (es.toList.map (·.1))):
  Walks prog w A it ([it,a]) [it] es.size (fun i v=>∃p,(gB w a ep es)[i]?=some p/\v=p.2)
   (fun i h=>∃slot,kj h it a slot i es.size ep/\oe w t slot i/\jF w h a o es ep t) where
 sub:=fun b hb=>by
  have:b=it:=by simpa using hb
  simp[this]
 frame:=fun i h h' ⟨slot,h1,h2,h3⟩ k=>⟨slot,k it χ _ h1,h2,h3.kept fun b hb ob e=>k b (ω _ hb) ob e⟩
 item:=fun i s Q E hi ⟨slot,h1,h2,h3⟩ hQ=>by
  have hlen:(gB w a ep es).length=es.size:=by rw[(ly w a ep es).length_eq];simp
  have hp:(gB w a ep es)[i]?=some ((gB w a ep es)[i]'(by lia)):=aU (by lia);refine v9 h3 T h2 h1 hp fun h' slot' q1 q2 sb=>?_;refine hQ _ h' s.toks ⟨_,hp,rfl⟩ ⟨slot',q1,q2,h3.kept fun b hb ob e=>(sb.2 b (h3.Mj h1 b hb)).trans e⟩ fun b ob hb e=>?_;exact (sb.2 b (by simpa using hb)).trans e
 done:=fun s Q E ⟨slot,h1,h2,h3⟩ hQ=>by
  have hlen:(gB w a ep es).length=es.size:=by rw[(ly w a ep es).length_eq];simp
  refine yo hh h3 T h2 h1 (cA.mpr (by lia)) fun h' q=>?_;exact hQ h' s.toks fun b ob hb e=>q b ob (by simpa using hb) e
 self:=fun i s Q E ⟨slot,h1,h2,h3⟩ h=>by
  have hT:=r8 h1;refine wpAny_pyIter_slot hT pq (cz pq hT (b:=eJ.«dict_keyiterator.__iter__») ?_ ?_ ?_)
  ·exact entryFor_alias (id':="dict_keyiterator.__iter__") (by kernel_rfl) (by decide +kernel) (by decide +kernel) (by kernel_rfl)
  ·show π _ _ (ret (.ref it)) _ _ s;exact η ⟨_,rfl,"set_iterator",_,hT,fP.lookup,h⟩
  ·unfold argsOk;rw[signature?_of (id:="set_iterator.__iter__") (n:=['_','_','r','e','t','i','_','_']) (o:=['r','o','t','a','r','e','t','i','_','t','e','s']) (by kernel_rfl) vd]
   kernel_rfl
theorem uo(hh:A.handled=none){a:ε}{o:aT}{es:Array (Int×δ)}{ep:Nat}{t:aW}(S:jF w s.heap a o es ep t)(T:Tab t (es.toList.map (·.1)))(h64:es.size≤64)
  {Q:List δ->ζ->Prop} (h:∀s',fm [] (fun x y=>y=x) s s'->Q ((gB w a ep es).map (·.2)) s'):π (model prog w) A (collect (.ref a)) Q E s:=by
 have hT:s.TypeIs (.ref a) "set":=⟨o,S.at_,S.ex.1⟩;have hal:a<s.heap.objs.size:=Ψ S.at_;unfold collect;refine γ (j8 (bS F.entry_proto_collect ?_));rw[bZ F.plain_proto_collect _];show π _ A.in1 (newList [] >>= fun q=>again (.builtin "list.__iadd__" ⟨[q,.ref a],[]⟩)) _ _ s;refine γ (b9 ?_);refine η ⟨eA F.plain_list_iadd _,bS F.entry_list_iadd ?_⟩;rw[bZ F.plain_list_iadd _];show π _ A.in1 (eS (.ref s.heap.objs.size) (.ref a) (.ref s.heap.objs.size)) _ _ _;unfold eS;have S1:jF w (s.heap.push { cls:=.type "list",data:=.seq ([]:List δ).toArray }) a o es ep t:=S.kept fun b _ ob e=>ξ _ e;have hT1:kW { s with heap:=s.heap.push { cls:=.type "list",data:=.seq ([]:List δ).toArray }} (.ref a) "set":=⟨o,S1.at_,S.ex.1⟩;refine γ (eR hT1 ?_);have ne:s.heap.objs.size≠a:=fG hal;have e1:mK (.ref s.heap.objs.size) (.ref a)=false:=by simp[mK,ne]
 rw[if_neg (by rw[e1];decide)];refine γ (zD (s:={ s with heap:=s.heap.push { cls:=.type "list",data:=.seq ([]:List δ).toArray }}) S1 T ?_);have S2:=S1.kept (h':=(s.heap.push { cls:=.type "list",data:=.seq ([]:List δ).toArray }).push { cls:=.type "set_iterator",data:=.fields #[rawInt (0:Nat),rawInt (0:Nat),.ref a,rawInt es.size,rawInt ep]}) fun b _ ob e=>ξ _ e;have hit:kj ((s.heap.push { cls:=.type "list",data:=.seq ([]:List δ).toArray }).push { cls:=.type "set_iterator",data:=.fields #[rawInt (0:Nat),rawInt (0:Nat),.ref a,rawInt es.size,rawInt ep]})
   (s.heap.push { cls:=.type "list",data:=.seq ([]:List δ).toArray }).objs.size a 0 0 es.size ep:=ab _ rfl
 have hS0:((s.heap.push { cls:=.type "list",data:=.seq ([]:List δ).toArray }).push { cls:=.type "set_iterator",data:=.fields #[rawInt (0:Nat),rawInt (0:Nat),.ref a,rawInt es.size,rawInt ep]}).get? s.heap.objs.size
   = some { cls:=.type "list",data:=.seq ([]:List δ).toArray }:=ξ _ (ab _ rfl)
 have keep0:∀b ob,s.heap.get? b=some ob->((s.heap.push { cls:=.type "list",data:=.seq ([]:List δ).toArray }).push { cls:=.type "set_iterator",data:=.fields #[rawInt (0:Nat),rawInt (0:Nat),.ref a,rawInt es.size,rawInt ep]}).get? b=some ob:=
  fun b ob e=>ξ _ (ξ _ e)
 have hI:(s.heap.push { cls:=.type "list",data:=.seq ([]:List δ).toArray }).objs.size=s.heap.objs.size+1:=kd ..;generalize (s.heap.push { cls:=.type "list",data:=.seq ([]:List δ).toArray }).objs.size=it at hI hit ⊢;generalize ((s.heap.push { cls:=.type "list",data:=.seq ([]:List δ).toArray }).push { cls:=.type "set_iterator",data:=.fields #[rawInt (0:Nat),rawInt (0:Nat),.ref a,rawInt es.size,rawInt ep]})=hp at S2 hit hS0 keep0 ⊢;refine γ (br ?_);have hT2:kW { s with heap:=hp } (.ref a) "set":=⟨o,S2.at_,S.ex.1⟩;unfold eJ.List.listLengthHint;refine γ (ee hT2 F.slot_set_len.lookup ?_);generalize hid:("set.__len__":String)=id0;dsimp only;rw[show splitId id0=some ("set","__len__") from by subst hid;decide +kernel];subst hid;dsimp only;refine γ (gG (b:=true) hT2 (by rw[oj];kernel_rfl) ?_)
 rw[if_neg (by decide)];show π _ A.in1 (typeOf (.ref a) >>= _) _ _ _;refine γ (eR hT2 (η ?_));show π _ A.in1 (rule "list.extend.makes-room" >>= fun _=>eJ.List.listTouch (.ref s.heap.objs.size) >>= fun _=>again (.builtin "list.extend.loop" ⟨[.ref s.heap.objs.size,.ref it,.ref s.heap.objs.size],[]⟩)) _ _ _;refine γ (lJ (γ ?_));show π _ A.in1 (updateSeq s.heap.objs.size (·.push .none) >>= fun _=>updateSeq s.heap.objs.size (·.pop)) _ _ _;refine γ (g7 (s:={ s with heap:=hp }) hS0 rfl ?_);have q1:=dS (aS (·.push cM)) hS0 rfl;refine g7 (s:={ s with heap:=hp.update s.heap.objs.size (aS (·.push cM))}) q1 rfl ?_;have q2:=dS (aS (·.pop)) q1 rfl;have oth:∀b ob,b≠s.heap.objs.size->hp.get? b=some ob->((hp.update s.heap.objs.size (aS (·.push cM))).update s.heap.objs.size (aS (·.pop))).get? b=some ob:=
  fun b ob hb e=>(bz _ _ (eW hb)).trans ((bz _ _ (eW hb)).trans e)
 have q3:∃c,((hp.update s.heap.objs.size (aS (·.push cM))).update s.heap.objs.size (aS (·.pop))).get? s.heap.objs.size=some { cls:=.type "list",dict:=none,data:=.seq #[] c,slots:=#[]}:=⟨_,q2⟩;clear q2;generalize (hp.update s.heap.objs.size (aS (·.push cM))).update s.heap.objs.size (aS (·.pop))=hp2 at q3 oth ⊢;obtain⟨c0,q2⟩:=q3;have hfp:∀b∈[it,a],b≠s.heap.objs.size:=fun b hb e=>by
  rcases aM.mp hb with z|z
  ·lia
  ·have hlt:b<s.heap.objs.size:=by
    rw[dt.mp z];exact hal
   lia
 have W:=(B0 (prog:=prog) (w:=w) (A:=A.in1) (by simpa using hh) (it:=it) (a:=a) (o:=o) (ep:=ep) T).toS;refine η ⟨eA F.plain_extend_loop _,codeAny_extend_loopS W (by rw[bM];lia) _ (fun hm=>hfp _ hm rfl) _ es.size 0 _ _ _ rfl (aK _) ?_ q2 (ItemsOf.nil _) fun s' acc' c' hm hS' hacc=>?_⟩
 ·refine⟨0,oth _ _ (hfp _ χ) hit,?_,S2.kept fun b hb ob e=>oth b ob (hfp b (ω _ hb)) e⟩;by_cases hb:ij w=true
  ·exact .inl hb
  ·refine .inr ?_;obtain⟨b0,b1,b2⟩:=o7 (j:=0) T.rise;refine ax fun hne=>?_;have hpos:0<fx t.place 0:=by lia
   have h0:0<t.place.size:=by lia
   have:=b1 0 (t.place[0]) hpos (by simp[h0]);lia
 ·show π _ A (load s.heap.objs.size >>= _) _ _ s';refine γ (wpAny_load hS' ?_);refine η ?_;have hlen:(gB w a ep es).length=es.size:=by rw[(ly w a ep es).length_eq];simp
  have eacc:acc'.toList=(gB w a ep es).map (·.2):=by
   refine lu fun i=>?_;rw[ag,ao];cases ha:acc'[i]? with
   |none=>
    have h1:=gS.mp ha;rw[hacc.1] at h1;rw[cA.mpr (by lia)];rfl
   |some v=>
    obtain⟨p,e1,e2⟩:=hacc.2 i v ha;rw[e1,e2];rfl
  show Q acc'.toList s';rw[eacc];refine h s' ⟨fun b ob _ e=>?_,hm.gens,hm.drawn,hm.os,?_⟩
  ·have hlt:=Ψ e;refine hm.heap b ob ?_ (oth b ob (aQ hlt) (keep0 b ob e));intro z;rcases aM.mp z with z|z
   ·rw[z] at hlt;exact cv _ hlt
   ·have:b=it:=by simpa using z
    rw[this,hI] at hlt;exact cv _ (Nat.lt_of_succ_lt hlt)
  ·exact hm.toks
end
end cP
namespace cP
open PySem jG
section
variable {prog:af} {w:ar} {A:bA} {E:δ->ζ->Prop} {s:ζ}
def cy(w:ar):aT:={ cls:=.type "set",dict:=none,data:=.set #[] 0 (.fresh 0 0 (!(ij w)))}
theorem xR(a:δ){Q₁:δ->ζ->Prop}(h:Q₁ (.ref s.heap.objs.size) { s with heap:=s.heap.push (cy w)}):
  gw (model prog w) A (.call (.builtin "set.__new__") ⟨[.type "set",a],[]⟩) (wants Q₁ E) s:=by
 refine m6 ?_;show π _ A.in1 (checkBuiltinCall "set.__new__" ⟨[.type "set",a],[]⟩ >>= fun _=>again (.builtin "set.__new__" ⟨[.type "set",a],[]⟩)) _ _ s;refine γ (kl (F.newCall_set_1 a) (η ⟨eA F.plain_set_new _,bS F.entry_set_new ?_⟩));rw[bZ F.plain_set_new _];unfold eJ.«set.__new__» eJ.Frozenset.newClass;have hsub:=sub_set_self;obtain⟨hp,g,d,tk,os⟩:=s;dsimp only;wp_walk;refine mv (η ?_);dsimp only;simp only[newObj];refine γ (wpAny_alloc (η ?_));exact η h
theorem vk(led:Bool):Tab (aW.fresh 0 0 led) []:=
 ⟨.inl rfl,rfl,rF,(fun j hj=>(nomatch hj)),rfl,(by show 0*5<7*3;decide),(fun j h hj=>(nomatch hj))⟩
structure ue(ps xs:List (List Int×ε)):Prop where
 sub:∀p∈xs,p∈ps
 all:∀p∈ps,p.1∈xs.map (·.1)
 len:xs.length≤ps.length
theorem ue.add{ps xs xs':List (List Int×ε)}{p:List Int×ε}(d:ue ps xs)(h1:p.1∈xs.map (·.1)->xs'.Perm xs)(h2:p.1∉xs.map (·.1)->xs'.Perm (p::xs)):ue (ps++[p]) xs':=by
 by_cases hm:p.1∈xs.map (·.1)
 ·have pm:=h1 hm;refine⟨fun q hq=>bX _ (d.sub q (pm.mem_iff.mp hq)),fun q hq=>?_,?_⟩
  ·rw[(pm.map _).mem_iff];rcases bC.mp hq with hq|hq
   ·exact d.all q hq
   ·have:q=p:=by simpa using hq
    rw[this];exact hm
  ·rw[pm.length_eq,av];have:=d.len;lia
 ·have pm:=h2 hm;refine⟨fun q hq=>?_,fun q hq=>?_,?_⟩
  ·rcases aM.mp (pm.mem_iff.mp hq) with e|e
   ·exact aC _ (by simp[e])
   ·exact bX _ (d.sub q e)
  ·rw[(pm.map _).mem_iff,bH];rcases bC.mp hq with hq|hq
   ·exact ω _ (d.all q hq)
   ·have:q=p:=by simpa using hq
    rw[this];exact χ
  ·rw[pm.length_eq,av,au,dk];have:=d.len;lia
theorem um{I:ε}{fp:List ε}{n:Nat}{P:Nat->δ->Prop}{St:Nat->ai->Prop}(W:Walks prog w A.in1 I fp [I] n P St)(S:ε)(hSf:S∉fp)(ps:List (List Int×ε))(hps:ps.length=n)(hn:n≤60)
  (hu:A.in1.units<cLine) (hval:∀(i:Nat) v,P i v->∃p,ps[i]?=some p/\v=.ref p.2) (hpf:∀p∈ps,p.2≠I/\p.2≠S) {R:Result->ζ->Prop}:
  ∀(k i:Nat) (s:ζ) (xs:List (List Int×ε)),n-i=k->i≤n->St i s.heap->kh prog w s.heap S xs->ue (ps.take i) xs->(∀p∈ps,eF prog w s.heap p.1 p.2) ->
   (∀h' tk xs',(∀b ob,b≠S->b≠I->s.heap.get? b=some ob->h'.get? b=some ob)->kh prog w h' S xs'->ue ps xs'->R (.ok (.ret .none)) { s with heap:=h',toks:=tk }) ->
   gw (model prog w) A (.builtin "set.update.loop" ⟨[.ref S,.ref I],[]⟩) R s:=by
 have hSI:S≠I:=fun e=>hSf (W.sub _ (by rw[e];simp));have on_kept:∀{h h':ai} {xs:List (List Int×ε)},kh prog w h S xs->(∀p∈xs,p∈ps)->(∀b ob,b≠I->h.get? b=some ob->h'.get? b=some ob)->kh prog w h' S xs:=fun {h h' xs} ⟨o,es,ep,t,q,T⟩ sub kp=>
  ⟨o,es,ep,t,q.kept fun b hb ob e=>kp b ob (by
   rcases aM.mp hb with z|z
   ·rw[z];exact hSI
   ·obtain⟨p,hp,rfl⟩:=Φ.mp z;exact (hpf p (sub p hp)).1) e,T⟩
 intro k
 induction k with
 |zero=>
  intro i s xs hk hi hst hS hd hkeys hR;have hin:i=n:=by lia
  subst hin;refine bS dq ?_;rw[bZ bR _];show π _ A.in1 (pyNext (.ref I) >>= _) _ _ s;refine γ (W.done s _ _ hst fun h' tk kp=>?_);show π _ A.in1 (ret cM) _ _ _;have hd':ue ps xs:=by
   rw[←hps,mF] at hd;exact hd
  exact η (hR h' tk xs (fun b ob _ hb e=>kp b ob (by simpa using hb) e) (on_kept hS hd'.sub fun b ob hb e=>kp b ob (by simpa using hb) e) hd')
 |succ k ih=>
  intro i s xs hk hi hst hS hd hkeys hR;have hlt:i<n:=by lia
  refine bS dq ?_;rw[bZ bR _];show π _ A.in1 (pyNext (.ref I) >>= _) _ _ s;refine γ (W.item i s _ _ hlt hst fun v h1 tk1 hP hst1 kp1=>?_);obtain⟨p,hp,rfl⟩:=hval i v hP;have hpm:p∈ps:=aY hp;have kp1':∀b ob,b≠I->s.heap.get? b=some ob->h1.get? b=some ob:=fun b ob hb e=>kp1 b ob (by simpa using hb) e;have key1:∀q∈ps,eF prog w h1 q.1 q.2:=fun q hq=>by
   obtain⟨oy,items,m,ho,r⟩:=hkeys q hq;exact⟨oy,items,m,kp1' _ _ (hpf q hq).1 ho,r⟩
  have sub0:∀q∈xs,q∈ps:=fun q hq=>jN (hd.sub q hq);have hS1:=on_kept hS sub0 kp1';show π _ A.in1 (holding [aJ p.2] (setAdd S (.ref p.2)) >>= _) _ _ _;have hlen:xs.length<64:=by
   have h1:=hd.len;rw[dM] at h1;lia
  refine γ (br (Kl (s:={ s with heap:=h1,toks:=tk1 }) hS1 hlen hu (key1 p hpm) fun b h2 tk2 xs2 _ sb hS2 q1 q2=>?_));have hd2:ue (ps.take (i+1)) xs2:=by
   rw[List.take_add_one,hp];exact hd.add q1 q2
  obtain⟨oS,_,_,_,SS,_⟩:=hS1;refine η ⟨eA bR _,ih (i+1) _ xs2 (by lia) hlt (W.frame _ _ _ hst1 fun c hc ob e=>(sb.2 c (fun z=>hSf (z▸hc))).trans e) hS2 hd2 (fun q hq=>nW SS.at_ SS.dat sb (key1 q hq)) fun h' tk xs' kp' a1 a2=>?_⟩;exact hR h' tk xs' (fun c ob c1 c2 e=>kp' c ob c1 c2 ((sb.2 c c1).trans (kp1' c ob c2 e))) a1 a2
set_option maxHeartbeats 6400000 in
theorem vK{l:ε}{vs:List δ}{ps:List (List Int×ε)}{Q:δ->ζ->Prop}(hh:A.handled=none)(hl:s.heap.IsList l vs.toArray)(hv:vs=ps.map fun p=>aJ p.2)(hk:∀p∈ps,eF prog w s.heap p.1 p.2)(hn:ps.length≤60)
  (hu:A.units+4<cLine)
  (h:∀h' tk xs,(∀b ob,s.heap.get? b=some ob->h'.get? b=some ob)->kh prog w h' s.heap.objs.size xs->ue ps xs->Q (.ref s.heap.objs.size) { s with heap:=h',toks:=tk }):
  π (model prog w) A (call (.type "set") [.ref l]) Q E s:=by
 obtain⟨c,tl,hmro⟩:=F.called_set.mro;have hmade:=F.called_set.made;have hsub:=F.called_set.sub;refine wpAny_call (m6 ?_);show π _ _ (callAny (.type "set") _) _ _ _;refine η ⟨kK _ (by decide +kernel),bS F.entry_type_call ?_⟩;rw[qM (weight_type_call_type "set" [.ref l] []) rfl];have h1:=F.called_set.notType;have h2:=F.called_set.canCreate;have hct:=F.typeCall_set_1 (.ref l)
 repeat (any_goals (first|assumption|wp_step))
 refine gv (xR (.ref l) (E:=E) (Q₁:=fun obj s₁=>obj=.ref s.heap.objs.size/\s₁={ s with heap:=s.heap.push (cy w)}) ⟨rfl,rfl⟩) fun r s₁ hr=>?_;cases r with
 |error e=>exact hr
 |ok fl=>
  cases fl with
  |ret obj=>
   obtain⟨rfl,rfl⟩:=hr;have hS:(s.heap.push (cy w)).get? s.heap.objs.size=some (cy w):=ab _ rfl;have hT:kW { s with heap:=s.heap.push (cy w)} (.ref s.heap.objs.size) "set":=⟨_,hS,rfl⟩;have hli:=F.called_set.init.lookup;have hbi:=F.called_set.init.bind (.ref s.heap.objs.size)
   repeat (any_goals (first|assumption|wp_step))
   refine gv (codeAny_call_builtin (R:=wants (fun r s₂=>r=.none/\∃h' tk xs,s₂={ s with heap:=h',toks:=tk }/\(∀b ob,s.heap.get? b=some ob->h'.get? b=some ob)/\kh prog w h' s.heap.objs.size xs/\ue ps xs) E)
    F.called_set.init.plain F.entry_set_init (check_set_init_1 hT ?_)) fun r₂ s₂ hr₂=>?_
   ·obtain⟨ol,hol,hcl,nl,hdl⟩:=hl;obtain⟨ocls,odict,odata,oslots⟩:=ol;simp only at hcl hdl;subst hcl;subst hdl;have hol':(s.heap.push (cy w)).get? l=some { cls:=.type "list",dict:=odict,data:=.seq vs.toArray nl,slots:=oslots }:=ξ _ hol;have hsls:=F.sub_list_set;have hslf:=F.sub_list_frozenset;have hne:(jJ "list" == jJ "dict")=false:=by decide
    have hl1:(s.heap.push (cy w)).IsList l vs.toArray:=⟨_,hol',rfl,nl,rfl⟩;have hS2:(s.heap.push (cy w)).get? s.heap.objs.size=some { cls:=.type "set",dict:=none,data:=.set #[] 0 (.fresh 0 0 (!(ij w)))}:=hS;unfold eJ.«set.__init__» noKeywords kf;generalize hPI:pyIter=PI;wp_walk;subst hPI;refine iH hl1 ?_;refine γ (j8 ?_);have hlS:l<s.heap.objs.size:=Ψ hol;have hh3:A.in1.in1.in1.handled=none:=by simp[hh]
    have hu3:A.in1.in1.in1.units<cLine:=by
     show A.units+1+1+1<cLine;lia
    have fv:(s.heap.push (cy w)).objs.size=s.heap.objs.size+1:=kd ..;have hneI:l≠(s.heap.push (cy w)).objs.size:=by
     rw[fv];exact aQ (dC hlS)
    have hSf:s.heap.objs.size∉[(s.heap.push (cy w)).objs.size,l]:=by
     rw[fv];intro z;rcases aM.mp z with z|z
     ·exact absurd z (aQ (gI _))
     ·have:s.heap.objs.size=l:=by simpa using z
      exact absurd this (fG hlS)
    have hlen:vs.toArray.size=ps.length:=by rw[hv];simp
    refine um (uf hh3 _ l hneI vs.toArray) s.heap.objs.size hSf ps hlen.symm (by rw[hlen];exact hn) hu3 (fun i v e=>?_) (fun p hp=>?_) (vs.toArray.size-0) 0 _ [] rfl (aK _)
     ⟨⟨_,ab _ rfl,rfl,rfl⟩,hl1.push _⟩ ?hS0 ⟨(fun p hp=>(nomatch hp)),(fun p hp=>by rw[List.take_zero] at hp;cases hp),aK _⟩ (fun p hp=>?_) ?hR
    case hS0=>
     refine⟨_,#[],0,_,⟨ξ _ hS2,⟨rfl,rfl,rfl⟩,rfl,rfl,(fun p hp=>(nomatch hp)),kc,rfl,rfl⟩,vk _⟩
    case hR=>
     intro h' tk xs q1 q2 q3;refine η ?_;show π _ _ (ret cM) _ _ _;refine η ⟨rfl,h',tk,xs,rfl,fun b ob e=>?_,q2,q3⟩;have hb:=Ψ e;refine q1 b ob (aQ hb) ?_ (ξ _ (ξ _ e));rw[fv];exact aQ (dC hb)
    ·rw[hv,oA,ag] at e;cases hp:ps[i]? with
     |none=>rw[hp] at e;cases e
     |some p=>rw[hp] at e;exact⟨p,rfl,(ay e).symm⟩
    ·obtain⟨oy,_,_,ho,_⟩:=hk p hp;have hb:=Ψ ho;rw[fv];exact⟨aQ (dC hb),aQ hb⟩
    ·obtain⟨oy,items,m,ho,r⟩:=hk p hp;exact⟨oy,items,m,ξ _ (ξ _ ho),r⟩
   ·cases r₂ with
    |error e=>exact hr₂
    |ok fl₂=>
     cases fl₂ with
     |ret r=>
      obtain⟨rfl,h',tk,xs,rfl,q1,q2,q3⟩:=hr₂
      repeat (any_goals (first|assumption|wp_step))
      exact h _ _ _ q1 q2 q3
     |_=>exact hr₂.elim
  |_=>exact hr.elim
end
end cP
namespace b6
open PySem PySem.W PyProof.Rows cP NF
def lx:List Int->List Int->Bool
 |[],[]=>false
 |[],_::_=>true
 |_::_,[]=>false
 |x::xs,y::ys=>if x=y then lx xs ys else decide (x<y)
theorem tQ:∀{x y:List Int},lx x y=true->lx y x=false
 |[],[],h=>by cases h
 |[],_::_,_=>rfl
 |_::_,[],h=>by cases h
 |x::xs,y::ys,h=>by
  unfold lx at h ⊢;by_cases e:x=y
  ·rw[if_pos e] at h;rw[if_pos e.symm];exact tQ h
  ·rw[if_neg e] at h;rw[if_neg (eW e)];have:=of_decide_eq_true h;exact decide_eq_false (by lia)
theorem tP:∀{a b c:List Int},lx b a=false->lx c b=false->lx c a=false
 |[],b,[],_,_=>rfl
 |[],[],c::cs,_,h=>h
 |[],b::bs,c::cs,h,_=>rfl
 |a::as,[],c,h,_=>by cases h
 |a::as,b::bs,[],_,h=>by cases h
 |a::as,b::bs,c::cs,h1,h2=>by
  unfold lx at h1 h2 ⊢;by_cases e1:b=a
  ·rw[if_pos e1] at h1;by_cases e2:c=b
   ·rw[if_pos e2] at h2;rw[if_pos (e2.trans e1)];exact tP h1 h2
   ·rw[if_neg e2] at h2;have:=of_decide_eq_false h2;by_cases e3:c=a
    ·lia
    ·rw[if_neg e3];exact decide_eq_false (by lia)
  ·rw[if_neg e1] at h1;have:=of_decide_eq_false h1;by_cases e2:c=b
   ·rw[if_neg (by lia)];exact decide_eq_false (by lia)
   ·rw[if_neg e2] at h2;have:=of_decide_eq_false h2;by_cases e3:c=a
    ·lia
    ·rw[if_neg e3];exact decide_eq_false (by lia)
section
variable {prog:af} {w:ar} {A:bA} {E:δ->ζ->Prop} {s:ζ}
theorem Mt{Q:Bool->ζ->Prop}:∀(xs ys:List Int) (us vs:List δ) (i:Nat) (fin:Bool),ItemsAre (intKind prog w) xs us->ItemsAre (intKind prog w) ys vs ->
  (fin=decide (us.length<vs.length)∨∃n m,fin=decide (n+us.length<n+vs.length)/\m=n)->Q (lx xs ys) s->KatLex prog w A true fin Q (us.zip vs) i s:=by
 intro xs
 induction xs with
 |nil=>
  intro ys us vs i fin h1 h2 hf h;cases h1;cases h2 with
  |nil=>
   have:fin=false:=by
    rcases hf with hf|⟨n,m,hf,_⟩<;>simp at hf<;>exact hf
   rw[this];exact oi h
  |cons h3 h4=>
   have:fin=true:=by
    rcases hf with hf|⟨n,m,hf,_⟩<;>rw[hf]<;>simp
   rw[this];exact oi h
 |cons x xs ih=>
  intro ys us vs i fin h1 h2 hf h;cases h1 with
  |cons h1 h1'=>
  cases h2 with
  |nil=>
   have:fin=false:=by
    rcases hf with hf|⟨n,m,hf,_⟩<;>rw[hf]<;>simp
   rw[this];exact oi h
  |cons h3 h4=>
   obtain⟨t,rfl⟩:=et h1;obtain⟨t',rfl⟩:=et h3;refine kat_cons (wpAny_eqBool_int ?_);unfold lx at h;rename_i _ y ys _;by_cases e:x=y
   ·rw[if_pos e] at h;have:(x==y)=true:=by simpa using e
    rw[this];refine kat_yes (ih ys _ _ (i+1) fin h1' h4 (.inr ?_) h);rcases hf with hf|⟨n,m,hf,_⟩
    ·exact⟨1,1,by rw[hf];simp[Nat.add_comm],rfl⟩
    ·exact⟨n+1,n+1,by rw[hf];congr 1;simp only[au];apply propext;lia,rfl⟩
   ·rw[if_neg e] at h;have:(x==y)=false:=by simpa using e
    rw[this];refine kat_no ?_;by_cases hi:i=0
    ·subst hi;exact oneLt_int h
    ·have hb:(true&&i==0)=false:=by simp[hi]
     rw[hb];exact kat_one _ _ (lt_int h)
theorem Ft{Q:Bool->ζ->Prop}{x y:List Int}{a b:ε}(hx:eF prog w s.heap x a)(hy:eF prog w s.heap y b)(h:Q (lx x y) s):π (model prog w) A (keyLt' (tuples' true) (.ref a) (.ref b)) Q E s:=by
 obtain⟨o,its,n,ho,_,hd,hi⟩:=hx;obtain⟨o',its',n',ho',_,hd',hi'⟩:=hy;exact kat_lt ho hd ho' hd' (Mt x y its.toList its'.toList 0 _ hi hi' (.inl (by simp)) h)
def rL{α:Type}(lt:α->α->Bool)(d:α)(ps:List α)(i j:Nat):Bool:=lt (ps.getD i d) (ps.getD j d)
structure yn{α:Type}(lt:α->α->Bool):Prop where
 zz:∀x y,lt x y=true->lt y x=false
 rH:∀x y z,lt y x=false->lt z y=false->lt z x=false
theorem Je{α:Type}{lt:α->α->Bool}(O:yn lt)(d:α)(ps:List α)(n:Nat):Ord n (rL lt d ps):=⟨fun a b _ _ h=>O.zz _ _ h,fun a b c _ _ _ h1 h2=>O.rH _ _ _ h1 h2⟩
abbrev Mo(x y:List Int×ε):Bool:=lx x.1 y.1
abbrev fT(p:List Int×ε):δ:=.ref p.2
theorem Qd:yn Mo:=⟨fun _ _ h=>tQ h,fun _ _ _ h1 h2=>tP h1 h2⟩
def QL(n:Nat)(lt:Nat->Nat->Bool)(i j:Nat)(C:Bool->ζ->Prop)(s:ζ):Prop:=i<n/\j<n/\C (lt i j) s
theorem conv{α:Type}{n:Nat}{lt:Nat->Nat->Bool}{κ:j9}{vs:List δ}{Q:α->ζ->Prop}(ha:∀i j,i<n->j<n->∀C:Bool->ζ->Prop,C (lt i j) s->iA prog w A κ vs i j C s):
  ∀t:KasT α,t.kasWp (QL n lt) Q s->t.kasWp (iA prog w A κ vs) Q s
 |.ret a,h=>h
 |.ask i j k,h=>by
  obtain⟨h1,h2,h3⟩:=h;exact ha i j h1 h2 _ (conv ha (k (lt i j)) h3)
theorem getD_map{α:Type}{f:α->δ}{d:α}{ps:List α}{i:Nat}(hi:i<ps.length):(ps.map f).getD i cM=f (ps.getD i d):=by
 simp[jq,hi]
theorem getD_mem{ps:List (List Int×ε)}{i:Nat}(hi:i<ps.length):ps.getD i ([],0)∈ps:=by
 simp[jq,hi]
theorem Nu{ps:List (List Int×ε)}(hk:∀p∈ps,eF prog w s.heap p.1 p.2):∀i j,i<ps.length->j<ps.length->∀C:Bool->ζ->Prop,C (rL Mo ([],0) ps i j) s->iA prog w A (tuples' true) (ps.map fT) i j C s:=fun i j hi hj C h=>by
 unfold iA;rw[getD_map (d:=([],0)) hi,getD_map (d:=([],0)) hj];exact Ft (hk _ (getD_mem hi)) (hk _ (getD_mem hj)) h
theorem yD{h:ai}:∀{ps:List (List Int×ε)},(∀p∈ps,eF prog w h p.1 p.2/\p.1≠[])->∃fs,KatTups h (ps.map fun p=>aJ p.2) fs/\fs.length=ps.length/\∀v∈fs,∃i t,v=.int i t
 |[],_=>⟨[],.nil,rfl,fun v hv=>nomatch hv⟩
 |p::ps,hk=>by
  obtain⟨fs,h1,h2,h3⟩:=yD (ps:=ps) fun q hq=>hk q (ω _ hq);obtain⟨⟨o,its,n,ho,hc,hd,hi⟩,hne⟩:=hk p χ;obtain⟨ks,a⟩:=p;cases ks with
  |nil=>exact absurd rfl hne
  |cons k ks=>
   obtain⟨its⟩:=its;cases hi with
   |cons h4 h5=>
    rename_i v vs;obtain⟨t,e⟩:=et h4;refine⟨v::fs,KatTups.cons ho hc hd (by simp) h1,by simp[h2],fun u hu=>?_⟩;rcases aM.mp hu with q|q
    ·exact⟨k,t,q.trans e⟩
    ·exact h3 u q
theorem J2{ps:List (List Int×ε)}(hne:ps≠[])(hk:∀p∈ps,eF prog w s.heap p.1 p.2/\p.1≠[]){Q:j9->ζ->Prop}(h:Q (tuples' true) s):π (model prog w) A (keyKind' (ps.map fT).toArray) Q E s:=by
 obtain⟨fs,h1,h2,h3⟩:=yD hk;have hl:0<fs.length:=by
  rw[h2];exact pI.mpr hne
 refine kat_kind (T:=.type "int") h1 hl (fun v hv=>?_) rfl h;obtain⟨i,t,rfl⟩:=h3 v hv;exact .now
structure qx{α:Type}(lt:α->α->Bool)(ps qs:List α):Prop where
 perm:qs.Perm ps
 rise:qs.Pairwise fun x y=>lt y x=false
abbrev PJ(ps qs:List (List Int×ε)):Prop:=qx Mo ps qs
theorem KA{α:Type}{lt:α->α->Bool}{d:α}{ps:List α}{p:Array Nat}(v:Va ps.length p)(S:So (rL lt d ps) p ps.length):qx lt ps (p.toList.map fun i=>ps.getD i d):=by
 refine⟨?_,?_⟩
 ·refine (v.perm.map _).trans ?_;have:(aB ps.length).map (fun i=>ps.getD i d)=ps:=by
   refine lu fun i=>?_;by_cases hi:i<ps.length
   ·simp[ag,gY hi,jq,hi]
   ·rw[cA.mpr (by simpa using hi),cA.mpr (by lia)]
  rw[this]
 ·rw[cU,fo];intro i j hi hj hij;have hs:=v.size;have h1:i<ps.length:=by rw[←hs];simpa using hi
  have h2:j<ps.length:=by rw[←hs];simpa using hj
  have e1:p.toList[i]=g p i:=by
   have:=v.get h1;simp[g,jQ,hs,h1]
  have e2:p.toList[j]=g p j:=by simp[g,jQ,hs,h2]
  rw[e1,e2];exact S i j (mB hij) h2
theorem LK{α:Type}{f:α->δ}{d:α}{ps:List α}{p:Array Nat}(v:Va ps.length p):(p.toList.map fun i=>(ps.map f).getD i cM)=(p.toList.map fun i=>ps.getD i d).map f:=by
 rw[bp];refine b8 fun i hi=>?_;have:i<ps.length:=by
  have:=v.perm.mem_iff.mp hi;simpa using this
 exact getD_map this
theorem xw{α:Type}{lt:α->α->Bool}{f:α->δ}{d:α}{κ:j9}(O:yn lt){a:ε}{n:Nat}{ps:List α}{P:qC->ζ->Prop}(ho:s.heap.get? a=some (seqObj "list" (ps.map f).toArray n))
  (hk:∀h',(∀b o,b≠a->s.heap.get? b=some o->h'.get? b=some o)->(∀(Q:j9->ζ->Prop) (E':δ->ζ->Prop),Q κ { s with heap:=h' }->π (model prog w) A (keyKind' (ps.map f).toArray) Q E' { s with heap:=h' }) ∧
   ∀i j,i<ps.length->j<ps.length->∀C:Bool->ζ->Prop,C (rL lt d ps i j) { s with heap:=h' }->iA prog w A κ (ps.map f) i j C { s with heap:=h' }) (h2:2≤ps.length) (h64:ps.length<64)
  (h:∀qs h' c,qx lt ps qs->h'.get? a=some (seqObj "list" (qs.map f).toArray c)->(∀b o,b≠a->s.heap.get? b=some o->h'.get? b=some o)->P (.done (.ret .none)) { s with heap:=h' }):
  π (model prog w) A (eJ.«list.sort» ⟨[.ref a],[]⟩) P E s:=by
 have ha:a<s.heap.objs.size:=Ψ ho;have s1:=cZ s.heap a (aS fun _=>(#[]:Array δ));obtain⟨e1,ho1⟩:∃e1,(s.heap.update a (aS fun _=>(#[]:Array δ))).get? a=some (seqObj "list" #[] e1):=⟨_,g8 ho fun _=>#[]⟩;generalize hvs:(ps.map f)=vs at ho;have hlen:vs.length=ps.length:=by rw[←hvs,μ]
 have hu3:∀b o,b≠a->s.heap.get? b=some o->(((s.heap.update a (aS fun _=>(#[]:Array δ))).push (seqObj "tuple" vs.toArray 0)).push (seqObj "list" #[] 0)).get? b=some o:=fun b o hb e=>
  ξ _ (ξ _ ((s1.2 b hb).trans e))
 have ho3:(((s.heap.update a (aS fun _=>(#[]:Array δ))).push (seqObj "tuple" vs.toArray 0)).push (seqObj "list" #[] 0)).get? a=some (seqObj "list" #[] e1):=ξ _ (ξ _ ho1);rw[list_sort_plain];refine γ (mx ho rfl ?_);refine γ (iZ ho rfl ?_ (by rw[ψ,bM];lia) (aK _));refine γ (nB ho1 rfl ?_);refine γ (wpAny_newTuple ?_ (by show vs.length≤_;rw[bM];lia));refine γ (kU ?_ (aK _));refine br ?_;show π (model prog w) A _ P E { s with heap:=((s.heap.update a (aS fun _=>(#[]:Array δ))).push (seqObj "tuple" vs.toArray 0)).push (seqObj "list" #[] 0)};generalize ((s.heap.update a (aS fun _=>(#[]:Array δ))).push (seqObj "tuple" vs.toArray 0)).push (seqObj "list" #[] 0)=h3 at hu3 ho3 ⊢;obtain⟨hk1,dI⟩:=hk h3 hu3;dsimp only;have hn2:¬vs.toArray.size<2:=by rw[ψ];lia
 rw[if_neg hn2,if_neg hn2];refine γ ?_;rw[←hvs];refine hk1 _ _ ?_;have hsort:(kas_sort vs.length).kasWp (iA prog w A κ (ps.map f)) (fun p s'=>s'={ s with heap:=h3 }/\Va ps.length p/\So (rL lt d ps) p ps.length) { s with heap:=h3 }:=by
  refine conv (lt:=rL lt d ps) (n:=ps.length) dI _ ?_
  rw[hlen];exact IG (Je O d ps ps.length) (fun i j hi hj C s' hC=>⟨hi,hj,hC⟩) (by lia) fun p v S=>⟨rfl,v,S⟩
 have hsort:(kas_sort (ps.map f).length).kasWp (iA prog w A κ (ps.map f)) (fun p s'=>s'={ s with heap:=h3 }/\Va ps.length p/\So (rL lt d ps) p ps.length) { s with heap:=h3 }:=by
  rw[hlen] at hsort;rw[μ];exact hsort
 refine γ (ei (kat_run (Q:=fun st' s'=>∃p:Array Nat,p.size=(ps.map f).length/\arrOf st'=p.map (kas_item ((ps.map f).toArray.zip (ps.map f).toArray))/\failedOf st'=none/\s'={ s with heap:=h3 }/\Va ps.length p/\So (rL lt d ps) p ps.length)
  rfl (by rw[μ];exact h2) (by rw[μ];exact h64) (fun p' st' s' a1 a2 a3 a4=>⟨p',a1,a2,a3,a4⟩) hsort) ?_ fun _ _ e=>e)
 rintro⟨⟨⟩,st'⟩ s' ⟨p,hp,har,hf,rfl,va,so⟩;dsimp only;have hout:=kat_snds rfl har;rw[LK va] at hout;have hS:=KA va so;generalize (p.toList.map fun i=>ps.getD i d)=qs at hout hS;have fv:(iu (qs.map f)).size=ps.length:=by rw[ψ,μ,hS.perm.length_eq]
 rw[hout];have s2:=cZ h3 a (aS fun _=>iu (qs.map f));obtain⟨c2,hc2⟩:∃c2,(h3.update a (aS fun _=>iu (qs.map f))).get? a=some (seqObj "list" (iu (qs.map f)) c2):=⟨_,g8 ho3 fun _=>iu (qs.map f)⟩;refine γ (nB ho3 rfl ?_);refine γ (iZ ho3 rfl ?_ (aK _) (az (Nat.le_of_eq fv) (by rw[bM];lia)));rw[hf];simp only[bne_self_eq_false,bI,if_false];exact η (h qs _ c2 hS hc2 fun b o hb e=>(s2.2 b hb).trans (hu3 b o hb e))
theorem vH{a:ε}{n:Nat}{vs:List δ}{P:qC->ζ->Prop}(ho:s.heap.get? a=some (seqObj "list" vs.toArray n))(h2:vs.length<2)
  (h:∀h' c,h'.get? a=some (seqObj "list" vs.toArray c)->(∀b o,b≠a->s.heap.get? b=some o->h'.get? b=some o)->P (.done (.ret .none)) { s with heap:=h' }):
  π (model prog w) A (eJ.«list.sort» ⟨[.ref a],[]⟩) P E s:=by
 have s1:=cZ s.heap a (aS fun _=>(#[]:Array δ));obtain⟨e1,ho1⟩:∃e1,(s.heap.update a (aS fun _=>(#[]:Array δ))).get? a=some (seqObj "list" #[] e1):=⟨_,g8 ho fun _=>#[]⟩;have hu3:∀b o,b≠a->s.heap.get? b=some o->(((s.heap.update a (aS fun _=>(#[]:Array δ))).push (seqObj "tuple" vs.toArray 0)).push (seqObj "list" #[] 0)).get? b=some o:=fun b o hb e=>
  ξ _ (ξ _ ((s1.2 b hb).trans e))
 have ho3:(((s.heap.update a (aS fun _=>(#[]:Array δ))).push (seqObj "tuple" vs.toArray 0)).push (seqObj "list" #[] 0)).get? a=some (seqObj "list" #[] e1):=ξ _ (ξ _ ho1);rw[list_sort_plain];refine γ (mx ho rfl ?_);refine γ (iZ ho rfl ?_ (by rw[ψ,bM];lia) (aK _));refine γ (nB ho1 rfl ?_);refine γ (wpAny_newTuple ?_ (by show vs.length≤_;rw[bM];lia));refine γ (kU ?_ (aK _));refine br ?_;show π (model prog w) A _ P E { s with heap:=((s.heap.update a (aS fun _=>(#[]:Array δ))).push (seqObj "tuple" vs.toArray 0)).push (seqObj "list" #[] 0)};generalize ((s.heap.update a (aS fun _=>(#[]:Array δ))).push (seqObj "tuple" vs.toArray 0)).push (seqObj "list" #[] 0)=h3 at hu3 ho3 ⊢;dsimp only;have hn2:vs.toArray.size<2:=by rw[ψ];lia
 rw[if_pos hn2,if_pos hn2];refine γ (η ?_);rw[StateT.run_pure];refine γ (η ?_);dsimp only;have hout:(arrOf (SortSt.mk' general' (vs.toArray.zip vs.toArray) #[] 7 none)).map (·.2)=vs.toArray:=by
  show (vs.toArray.zip vs.toArray).map (·.2)=vs.toArray;refine Array.ext (by simp) fun i h1 h2=>?_;simp
 rw[hout];have s2:=cZ h3 a (aS fun _=>vs.toArray);obtain⟨c2,hc2⟩:∃c2,(h3.update a (aS fun _=>vs.toArray)).get? a=some (seqObj "list" vs.toArray c2):=⟨_,g8 ho3 fun _=>vs.toArray⟩;refine γ (nB ho3 rfl ?_);refine γ (iZ ho3 rfl ?_ (aK _) (by rw[ψ,bM];lia));simp only[bne_self_eq_false,bI,if_false];exact η (h _ c2 hc2 fun b o hb e=>(s2.2 b hb).trans (hu3 b o hb e))
theorem Fu{h h':ai}{ks:List Int}{a:ε}(keep:∀c o,h.get? c=some o->h'.get? c=some o)(hk:eF prog w h ks a):eF prog w h' ks a:=by
 obtain⟨o,it,m,ho,r⟩:=hk;exact⟨o,it,m,keep a o ho,r⟩
theorem tu{α:Type}{lt:α->α->Bool}{f:α->δ}{d:α}{κ:j9}(O:yn lt){l:ε}{ps:List α}{Q:δ->ζ->Prop}
  (hk:∀s':ζ,2≤ps.length->(∀b o,s.heap.get? b=some o->s'.heap.get? b=some o)->(∀(Q:j9->ζ->Prop) (E':δ->ζ->Prop),Q κ s'->π (model prog w) A.in1.in1 (keyKind' (ps.map f).toArray) Q E' s') ∧
   ∀i j,i<ps.length->j<ps.length->∀C:Bool->ζ->Prop,C (rL lt d ps i j) s'->iA prog w A.in1.in1 κ (ps.map f) i j C s') (h64:ps.length<64)
  (xG:∀(R:List δ->ζ->Prop),(∀s',fm [] (fun x y=>y=x) s s'->R (ps.map f) s')->π (model prog w) A.in1 (collect (.ref l)) R E s)
  (h:∀qs s' c D,qx lt ps qs->s.heap.get? D=none->s'.heap.get? D=some (seqObj "list" (qs.map f).toArray c)->fm [] (fun x y=>y=x) s s'->Q (.ref D) s'):
  π (model prog w) A (call (.builtin "sorted") [.ref l]) Q E s:=by
 refine lO kind_sorted plain_sorted entry_sorted (args_sorted1 _) ?_;unfold eJ.«sorted»;refine γ (m:=checkCount "sorted" 1 1 _) (η ?_);refine γ (xG _ fun s1 hm=>?_);refine γ (kU ?_ (by rw[μ,bM];lia));have hoL:(s1.heap.push (seqObj "list" (ps.map f).toArray 0)).get? s1.heap.objs.size=some (seqObj "list" (ps.map f).toArray 0):=ab _ rfl;have keep0:∀b o,s.heap.get? b=some o->s1.heap.get? b=some o:=fun b o e=>hm.heap b o (fun z=>nomatch z) e;have hfr:s.heap.get? s1.heap.objs.size=none:=by
  cases hz:s.heap.get? s1.heap.objs.size with
  |none=>rfl
  |some o=>exact absurd (Ψ (keep0 _ _ hz)) (cv _)
 have keep:∀b o,s.heap.get? b=some o->(s1.heap.push (seqObj "list" (ps.map f).toArray 0)).get? b=some o:=fun b o e=>ξ _ (keep0 b o e);show π _ _ _ _ _ { s1 with heap:=s1.heap.push (seqObj "list" (ps.map f).toArray 0)};refine γ (br (cz slot_list_sort ⟨_,hoL,rfl⟩ entry_list_sort ?body (args_list_sort _)));have fin:∀qs h' c,qx lt ps qs->h'.get? s1.heap.objs.size=some (seqObj "list" (qs.map f).toArray c)->(∀b o,b≠s1.heap.objs.size->(s1.heap.push (seqObj "list" (ps.map f).toArray 0)).get? b=some o->h'.get? b=some o)->Q (.ref s1.heap.objs.size) { s1 with heap:=h' }:=fun qs h' c hS e kk=>
  h qs _ c _ hS hfr e ⟨fun b o _ e1=>kk b o (aQ (Ψ (keep0 b o e1))) (keep b o e1),hm.gens,hm.drawn,hm.os,hm.toks⟩
 case body=>
  by_cases h2:2≤ps.length
  ·refine xw O (s:={ s1 with heap:=s1.heap.push (seqObj "list" (ps.map f).toArray 0)}) hoL (fun h' kk=>hk { s1 with heap:=h' } h2 fun b o e=>kk b o (aQ (Ψ (keep0 b o e))) (keep b o e)) h2 h64 fun qs h' c hS e kk=>?_;exact⟨_,rfl,η ⟨_,rfl,fin qs h' c hS e kk⟩⟩
  ·refine vH (s:={ s1 with heap:=s1.heap.push (seqObj "list" (ps.map f).toArray 0)}) hoL (by rw[μ];lia) fun h' c e kk=>?_;have hS:qx lt ps ps:=⟨.refl _,by
    rcases ps with _|⟨x,_|⟨y,r⟩⟩
    ·exact .nil
    ·exact mP _ _
    ·simp at h2⟩
   exact⟨_,rfl,η ⟨_,rfl,fin ps h' c hS e kk⟩⟩
theorem pX{l:ε}{ps:List (List Int×ε)}{Q:δ->ζ->Prop}(hk:∀p∈ps,eF prog w s.heap p.1 p.2/\p.1≠[])(h64:ps.length<64)
  (xG:∀(R:List δ->ζ->Prop),(∀s',fm [] (fun x y=>y=x) s s'->R (ps.map fT) s')->π (model prog w) A.in1 (collect (.ref l)) R E s)
  (h:∀qs s' c D,PJ ps qs->s.heap.get? D=none->s'.heap.get? D=some (seqObj "list" (qs.map fT).toArray c)->fm [] (fun x y=>y=x) s s'->Q (.ref D) s'):
  π (model prog w) A (call (.builtin "sorted") [.ref l]) Q E s:=by
 refine tu (κ:=tuples' true) (d:=([],0)) Qd (fun s' h2 kk=>?_) h64 xG h;have hk':∀p∈ps,eF prog w s'.heap p.1 p.2/\p.1≠[]:=fun p hp=>⟨Fu kk (hk p hp).1,(hk p hp).2⟩;exact⟨fun Q E q=>J2 (fun z=>by rw[z] at h2;simp at h2) hk' q,Nu fun p hp=>(hk' p hp).1⟩
end
end b6
namespace L3
open PySem PySem.Spec PyProof.Rows L2
structure zC(T:String):Prop where
 aq:∀K,fy K (.type "NoneType") (.type T)=some false
 bl:∀K,fy K (.type "bool") (.type T)=some (T=="bool" || T=="int")
 int:∀K,fy K (.type "int") (.type T)=some (T=="int")
 str:∀K,fy K (.type "str") (.type T)=some (T=="str")
 tup:∀K,fy K (.type "tuple") (.type T)=some (T=="tuple")
 lst:∀K,fy K (.type "list") (.type T)=some (T=="list")
 gO:∀K,fy K (.type "dict") (.type T)=some (T=="dict")
theorem J1:zC "int":=⟨fun _=>rfl,fun _=>rfl,fun _=>rfl,fun _=>rfl,fun _=>rfl,fun _=>rfl,fun _=>rfl⟩
theorem Fq:zC "bool":=⟨fun _=>rfl,fun _=>rfl,fun _=>rfl,fun _=>rfl,fun _=>rfl,fun _=>rfl,fun _=>rfl⟩
theorem kit_tuple:zC "tuple":=⟨fun _=>rfl,fun _=>rfl,fun _=>rfl,fun _=>rfl,fun _=>rfl,fun _=>rfl,fun _=>rfl⟩
section
variable {X:Cx} {a e:ρ} {es:List ρ} {ta:aD} {t:cJ} {pos p p2:aL}
theorem yA{T:String}(k:zC T):fM X (.builtin "isinstance") (fun vs H Q=>∃d v G b,vs=[v,.ty T]/\Hv X.K H d v/\bf X.K G H/\iy T G d=some b/\Q (.bl b) H):=by
 intro pins s σ H vs us Q I r h;obtain⟨d,v,G,b,rfl,hd,RG,hb,q⟩:=h;obtain⟨u,c,rfl,ru,rc⟩:=vals2 r;cases (show c=jJ T from rc);have fin:∀tk,EP X pins σ Q (.bool b) { s with toks:=tk }:=fun tk=>⟨.bl b,H,I.tok tk,rfl,q⟩
 cases d with
 |aq=>
  unfold Hv at hd;subst hd;cases (show u=cM from ru);cases hb;exact di PySem.W.kitx_none I.lh pd (k.aq _) (fun z=>nomatch z) fin
 |bl y=>
  rw[rb hd] at ru;cases (show u=fk y from ru);cases hb;exact di PySem.W.kitx_bool I.lh pd (k.bl _) (fun z=>nomatch z) fin
 |int y=>
  rw[df hd] at ru;obtain⟨t,rfl⟩:=(show ∃t,u=qA y t from ru);cases hb;exact di PySem.W.kitx_int I.lh pd (k.int _) (fun z=>nomatch z) fin
 |str y=>
  unfold Hv at hd;subst hd;obtain⟨t,rfl⟩:=(show ∃t,u=δ.str y t from ru);cases hb;exact di PySem.W.kitx_str I.lh pd (k.str _) (fun z=>nomatch z) fin
 |tup ds=>
  obtain⟨x,xs,rfl,e1,_⟩:=fU hd;cases (show u=aJ x from ru);cases hb;obtain⟨its,_,⟨o,h1,h2,_⟩,_⟩:=I.tuple e1;exact di PySem.W.kitx_tuple I.lh ⟨o,h1,h2⟩ (k.tup _) (fun z=>nomatch z) fin
 |fz ds=>
  obtain⟨x,xs,rfl,e1,_⟩:=mj hd;cases (show u=aJ x from ru);cases hb;obtain⟨its,_,p1,_⟩:=I.list e1.l;obtain⟨o,h1,h2,_⟩:=p1.isList;exact di lq I.lh ⟨o,h1,h2⟩ (k.lst _) (fun z=>nomatch z) fin
 |dc x=>
  unfold Hv at hd;obtain⟨rfl,ob,φ,e1,c⟩:=hd;cases (show u=aJ x from ru);cases hb;obtain⟨h1,_⟩:=I.bV x _ e1;exact di rE I.lh ⟨ob,h1,c⟩ (k.gO _) (fun z=>nomatch z) fin
 |obj x=>
  rw[de hd] at ru;cases (show u=aJ x from ru);unfold iy at hb;cases hG:G x with
  |none=>simp[hG] at hb
  |some o=>
   have hl:∀xs,H x=some (.lst xs)->∃o,s.heap.get? x=some o/\o.cls=.type "list":=fun xs e=>by
    obtain⟨_,_,n,_,h1⟩:=(show eN X.prog X.w H s.heap x (.lst xs) from I.bV x _ e);exact⟨_,h1,rfl⟩
   cases o with
   |lst ds=>
    simp only[hG] at hb;cases hb;obtain⟨vs,e1,_⟩:=RG x _ hG;obtain⟨o,h1,h2⟩:=hl _ e1;exact di lq I.lh ⟨o,h1,h2⟩ (k.lst _) (fun z=>nomatch z) fin
   |md=>
    simp only[hG] at hb;cases hb;obtain⟨_,_,_,e1,_⟩:=RG x _ hG;obtain⟨o,h1,h2⟩:=hl _ e1;exact di lq I.lh ⟨o,h1,h2⟩ (k.lst _) (fun z=>nomatch z) fin
   |gen R=>simp[hG] at hb
   |gO=>
    simp only[hG] at hb;cases hb;have e1:H x=some (.ext fun h=>∃o,h.get? x=some o/\o.cls=.type "dict"):=RG x _ hG;obtain⟨⟨o,h1,h2⟩,_⟩:=(show eN X.prog X.w H s.heap x _ from I.bV x _ e1);exact di rE I.lh ⟨o,h1,h2⟩ (k.gO _) (fun z=>nomatch z) fin
theorem Nb{T:String}{TS:Δ}(k:zC T)(hv:fF TS=some (.type T))(ha:bP X a ta)(hm:X.mg "isinstance" = none)(hm2:X.mg TS=none)(hgT:Gl X TS)(hnT:TS≠"__name__")(hdT:(TS==("__debug__":Δ))=false)(hg:Gl X "isinstance":=by rfl)
  (he:notStar a=true:=by rfl):
  bP X (.Call (.Name "isinstance" p) [a,.Name TS p2] [] pos) (oZ T ta):=
 eD (fb (yA k) hg hm rfl (je ha (je (Jm (v:=.ty T) hgT hm2 hv rfl hnT hdT) mf (bj rfl)) (bj he)) (he:=bj he) (hpl:=cW rfl)) fun σ H Q ⟨τ,G,Q3,RS,RG,h,k⟩=>by
  refine⟨τ,G,_,RS,RG,h,fun v H1 d G1 h1 S1 R1 q1=>?_⟩;cases hb:iy T G1 d with
  |none=>rw[hb] at q1;exact q1.elim
  |some b=>
   rw[hb] at q1;exact⟨d,v,G1,b,rfl,h1,R1,hb,k _ H1 (.bl b) G1 iW S1 R1 q1⟩
end
def tupI(ns:List Int):D:=.tup (ns.map D.int)
section
variable {P:af} {w:ar} {H:Hp} {h:ai} {a:ε} {o:HO}
theorem yw(x:eN P w H h a o):∃o,h.get? a=some o:=by
 cases o with
 |lst xs=>obtain⟨_,_,_,_,e⟩:=x;exact⟨_,e⟩
 |tup xs=>obtain⟨_,_,_,o,e,_⟩:=x;exact⟨_,e⟩
 |dK kvs=>obtain⟨_,_,_,_,o,_,_,e,_⟩:=x;exact⟨_,e⟩
 |dT kvs=>obtain⟨_,_,_,_,o,_,_,e,_⟩:=x;exact⟨_,e⟩
 |set S n=>obtain⟨o,_,_,_,e,_⟩:=x;exact⟨_,e⟩
 |ins C dx fs=>obtain⟨_,_,_,e,_⟩:=x;exact⟨_,e⟩
 |own y=>obtain⟨_,e⟩:=x;exact⟨_,e⟩
 |xd fs=>obtain⟨_,⟨_,_,_,e,_⟩,_⟩:=x;exact⟨_,e⟩
 |GK lo hi=>obtain⟨_,_,_,e⟩:=x;exact⟨_,e⟩
 |gf ob u=>obtain⟨e,_⟩:=x;exact⟨_,e⟩
 |uZ ps=>exact⟨_,(show h.get? a=some _ from x)⟩
 |met f y=>exact⟨_,(show h.get? a=some _ from x)⟩
 |ext φ=>obtain⟨_,⟨_,e⟩,_⟩:=x;exact⟨_,e⟩
end
section
variable {X:Cx} {pins:List (ε×aT)} {σ:L2.St} {H:Hp} {s:ζ}
theorem Inv.AU(I:Inv X pins σ H s){a:ε}(hn:s.heap.get? a=none):H a=none:=by
 cases e:H a with
 |none=>rfl
 |some o=>
  obtain⟨ob,h⟩:=yw (I.bV a o e);rw[hn] at h;cases h
theorem Inv.Ho{a:ε}{o:HO}{t':Nat}{h':ai}(I:Inv X pins σ H s)(k:∀b u,s.heap.get? b=some u->h'.get? b=some u)(hn:s.heap.get? a=none)(new:eN X.prog X.w (upd H a o) h' a o):
  Inv X pins σ (upd H a o) { s with heap:=h',toks:=t' }:=by
 have hH:=Inv.AU I hn;have ne:∀b u,s.heap.get? b=some u->b≠a:=fun b u e z=>by rw[z,hn] at e;cases e
 refine I.un ⟨fun b u q _ _ _=>k b u q,fun b u q _ _ _=>⟨u.slots,k b u q⟩,fun b u q n _=>by rw[bG (ne b u q)];exact n,fun b u q _=>⟨u,k b u q⟩,fun b xs q=>by rw[bG (dz q hH)];exact q,
  fun b u xs q=>by rw[bG (dz q hH)];exact q,fun b ps q=>⟨#[],by rw[bG (dz q hH),q];simp⟩⟩ fun b u e=>?_
 by_cases hb:b=a
 ·subst hb;rw[cm] at e;cases e;exact new
 ·rw[bG hb] at e;exact (I.bV b u e).uu (fun c v _ q=>k c v q) (fun c q=>by rw[bG (dz q hH)];exact q) fun c xs q=>by rw[bG (dz q hH)];exact q
theorem xE{ns:List Int}:∀{us:List δ},bc (ns.map V.int) us->ItemsAre (intKind X.prog X.w) ns us:=by
 induction ns with
 |nil=>intro us r;cases r;exact .nil
 |cons n ns ih=>
  intro us r;cases r with
  |cons r1 r2=>
   obtain⟨t,rfl⟩:=(show ∃t,_=qA n t from r1);exact .cons (by show nC n (.int n t)=true;simp[nC]) (ih r2)
theorem me(I:Inv X pins σ H s):∀{nss:List (List Int)} {vs:List V} {us:List δ},aF X.K H (nss.map tupI) vs->bc vs us ->
  ∃ps:List (List Int×ε),ps.map (·.1)=nss/\vs=ps.map (fun p=>.ref p.2)/\us=ps.map (fun p=>aJ p.2)/\∀p∈ps,dJ X.K H p.2 (p.1.map V.int)/\cP.eF X.prog X.w s.heap p.1 p.2
 |[],vs,us,h,r=>by
  cases h.gD;cases r;exact⟨[],rfl,rfl,rfl,fun p hp=>nomatch hp⟩
 |ns::nss,vs,us,h,r=>by
  obtain⟨v,vr,rfl,q1,q2⟩:=h.inv;cases r with
  |cons r1 r2=>
   obtain⟨ps,e1,e2,e3,e4⟩:=me I q2 r2;obtain⟨a,ws,rfl,z1,z2⟩:=fU q1;have hw:ws=ns.map V.int:=by
    refine gU z2 ?_;clear z2 z1 q1 h e1 e2 e3 e4 q2 r2 r1
    induction ns with
    |nil=>rfl
    |cons n ns ih=>simp[intsOf,ih]
   subst hw;cases (show _=aJ a from r1);obtain⟨its,rv,⟨o,h1,h2,n,h3⟩,_⟩:=I.tuple z1;refine⟨(ns,a)::ps,by simp[e1],by simp[e2],by simp[e3],fun p hp=>?_⟩;rcases aM.mp hp with rfl|hp
   ·exact⟨z1,o,its.toArray,n,h1,h2,h3,xE rv⟩
   ·exact e4 p hp
theorem mZ{K:ι}{H:Hp}:∀{qs:List (List Int×ε)},(∀p∈qs,dJ K H p.2 (p.1.map V.int))->aF K H ((qs.map (·.1)).map tupI) (qs.map fun p=>.ref p.2)
 |[],_=>.nil
 |q::qs,h=>.cons (iJ (h q χ) (aF.ints _)) (mZ fun p hp=>h p (ω _ hp))
theorem uV:∀(qs:List (List Int×ε)),bc (qs.map fun p=>V.ref p.2) (qs.map fun p=>aJ p.2)
 |[]=>.nil
 |q::qs=>.cons rfl (uV qs)
def gF(nss:List (List Int)):Prop:=nss.Pairwise fun x y=>b6.lx y x=false
theorem oF{Q:VK}(I:Inv X pins σ H s){ps qs:List (List Int×ε)}{s':ζ}{c:Nat}{D':ε}(hz:ps.length<64)(hS:b6.PJ ps qs)(hn:s.heap.get? D'=none)(hD:s'.heap.get? D'=some (seqObj "list" (qs.map fun p=>aJ p.2).toArray c))
  (hm:fm [] (fun x y=>y=x) s s') (q:H D'=none->Q (.ref D') (upd H D' (.lst (qs.map fun p=>.ref p.2)))):EP X pins σ Q (.ref D') s':=by
 have e:s'={ s with heap:=s'.heap,toks:=s'.toks }:=by
  cases s';cases s;have h1:=hm.gens;have h2:=hm.drawn;have h3:=hm.os;simp only at h1 h2 h3;subst h1 h2 h3;rfl
 rw[e];refine⟨.ref D',_,Inv.Ho I (o:=.lst (qs.map fun p=>.ref p.2)) (fun b u z=>hm.heap b u (fun y=>nomatch y) z) hn ?_,rfl,q (Inv.AU I hn)⟩;refine⟨?_,_,c,uV qs,hD⟩;rw[μ,hS.perm.length_eq,bM];lia
theorem yc(hc:X.calm=true)(hu:X.A.units+64<cLine):fM X (.builtin "sorted") (fun vs H Q=>∃(a:ε) (xs:List V) (nss:List (List Int)),vs=[.ref a]/\eQ X.K H a xs/\aF X.K H (nss.map tupI) xs/\nss.length<64/\(∀ns∈nss,ns≠[]) ∧
  ∀(p:ε) (mss:List (List Int)) (ys:List V),H p=none->mss.Perm nss->gF mss->aF X.K H (mss.map tupI) ys->Q (.ref p) (upd H p (.lst ys))):=by
 intro pins s σ H vs us Q I r h;obtain⟨a,xs,nss,rfl,hl,hv,hz,hne,q⟩:=h;obtain⟨u,rfl,ru⟩:=vals1 r;cases ru;obtain⟨its,rv,pl,_⟩:=I.list hl;obtain⟨ps,e1,e2,e3,e4⟩:=me I hv rv;subst e3;have hlen:ps.length=nss.length:=by rw[←e1,μ]
 refine b6.pX (ps:=ps) (fun p hp=>⟨(e4 p hp).2,hne _ (by rw[←e1];exact Φ.mpr ⟨p,hp,rfl⟩)⟩) (by lia) (fun R hR=>?_) fun qs s' c D' hS hn hD hm=>?_
 ·refine collect_list pl.isList (hR _ ⟨fun b o _ e=>?_,rfl,rfl,rfl,Θ _⟩) (by rw[μ,bM];lia);have hlt:=Ψ e;show ((s.heap.push (seqObj "list" #[] 0)).update s.heap.objs.size _).get? b=some o;rw[bz _ _ (fG hlt)];exact ξ _ e
 ·refine oF I (by lia) hS hn hD hm fun hf=>?_;refine q _ (qs.map (·.1)) _ hf (by rw[←e1];exact hS.perm.map _) ?_ (mZ fun p hp=>(e4 p (hS.perm.mem_iff.mp hp)).1);exact cU.mpr hS.rise
end
end L3
namespace L3
open PySem PySem.Spec PyProof.Rows L2
def wU(P:af)(w:ar)(b:ε)(zs:List (List Int×ε)):ai->Prop:=fun h=>∃o es ep t,h.get? b=some o/\o.ExactSet/\o.data=.set es ep t/\es.toList=zs.map (cP.ent P w)/\(zs.map (·.1)).Nodup/\t.plain=true ∧
 t.led=(!(w.params.followText "set-order"))/\jG.Tab t (es.toList.map (·.1))
theorem nt{α β:Type}{f:α->β}{l l':List β}(h:l.Perm l'):∀{zs:List α},l'=zs.map f->∃zs':List α,zs'.Perm zs/\l=zs'.map f:=by
 induction h with
 |nil=>
  intro zs e;have:zs=[]:=by simpa using e.symm
  subst this;exact⟨[],.nil,rfl⟩
 |cons x _ ih=>
  intro zs e;cases zs with
  |nil=>cases e
  |cons z zs=>
   simp only[bH,nc] at e;obtain⟨zs',h1,h2⟩:=ih e.2;exact⟨z::zs',h1.cons z,by simp[e.1,h2]⟩
 |swap x y l=>
  intro zs e;rcases zs with _|⟨z,_|⟨z2,zs⟩⟩
  ·cases e
  ·simp at e
  ·simp only[bH,nc] at e;exact⟨z2::z::zs,.swap _ _ _,by simp[e.1,e.2.1,e.2.2]⟩
 |trans _ _ ih1 ih2=>
  intro zs e;obtain⟨z2,h1,h2⟩:=ih2 e;obtain⟨z1,h3,h4⟩:=ih1 h2;exact⟨z1,h3.trans h1,h4⟩
section
variable {X:Cx}
theorem D4(hc:X.calm=true)(hu:X.A.units+64<cLine):fM X (.type "set") (fun vs H Q=>∃(a:ε) (xs:List V) (nss:List (List Int)),vs=[.ref a]/\eQ X.K H a xs/\aF X.K H (nss.map tupI) xs/\nss.length≤60 ∧
  ∀(b:ε) (zs:List (List Int×ε)),H b=none->(∀p∈zs,dJ X.K H p.2 (p.1.map V.int))->(∀ns,ns∈zs.map (·.1)↔ns∈nss)->(zs.map (·.1)).Nodup->zs.length≤nss.length->Q (.ref b) (upd H b (.ext (wU X.prog X.w b zs)))):=by
 intro pins s σ H vs us Q I r h;obtain⟨a,xs,nss,rfl,hl,hv,hz,q⟩:=h;obtain⟨u,rfl,ru⟩:=vals1 r;cases ru;obtain⟨its,rv,pl,_⟩:=I.list hl;obtain⟨ps,e1,e2,e3,e4⟩:=me I hv rv;subst e3;have hlen:ps.length=nss.length:=by rw[←e1,μ]
 refine cP.vK (ps:=ps) (I.ok.hd hc) pl.isList rfl (fun p hp=>(e4 p hp).2) (by lia) (by lia) fun h' tk zs kk hS hD=>?_;obtain⟨o,es,ep,t,S,T⟩:=hS;refine⟨.ref s.heap.objs.size,_,I.laid (o:=.ext (wU X.prog X.w s.heap.objs.size zs)) kk (Θ _) ?_,rfl,q _ zs (I.bV.fresh (Θ _)) (fun p hp=>(e4 p (hD.sub p hp)).1) (fun ns=>?_) S.nd ?_⟩
 ·refine⟨⟨o,es,ep,t,S.at_,S.ex,S.dat,S.ents,S.nd,S.plain,S.led,T⟩,⟨o,S.at_⟩,fun h1 h2 ⟨o',es',ep',t',y1,y⟩ kk2=>⟨o',es',ep',t',kk2 _ y1,y⟩⟩
 ·rw[←e1];constructor
  ·intro hm;obtain⟨p,hp,rfl⟩:=Φ.mp hm;exact Φ.mpr ⟨p,hD.sub p hp,rfl⟩
  ·intro hm;obtain⟨p,hp,rfl⟩:=Φ.mp hm;exact hD.all p hp
 ·rw[←hlen];exact hD.len
theorem ya(hc:X.calm=true)(hu:X.A.units+64<cLine):fM X (.builtin "sorted") (fun vs H Q=>∃(b:ε) (zs:List (List Int×ε)),vs=[.ref b]/\H b=some (.ext (wU X.prog X.w b zs))/\(∀p∈zs,dJ X.K H p.2 (p.1.map V.int))/\zs.length≤60/\(∀p∈zs,p.1≠[]) ∧
  ∀(p:ε) (mss:List (List Int)) (ys:List V),H p=none->mss.Perm (zs.map (·.1))->gF mss->aF X.K H (mss.map tupI) ys->Q (.ref p) (upd H p (.lst ys))):=by
 intro pins s σ H vs us Q I r h;obtain⟨b,zs,rfl,hb,hk,hz,hne,q⟩:=h;obtain⟨u,rfl,ru⟩:=vals1 r;cases ru;obtain⟨⟨o,es,ep,t,y1,y2,y3,y4,y5,y6,y7,T⟩,_⟩:=(show eN X.prog X.w H s.heap b _ from I.bV b _ hb);have hK:∀p∈zs,cP.eF X.prog X.w s.heap p.1 p.2:=fun p hp=>by
  obtain⟨its,rv,⟨o,h1,h2,n,h3⟩,_⟩:=I.tuple (hk p hp);exact⟨o,its.toArray,n,h1,h2,h3,xE rv⟩
 have S:cP.ki X.prog X.w s.heap b o es ep t zs:=⟨y1,y2,y3,y4,hK,y5,y6,y7⟩;obtain⟨zs',p1,p2⟩:=nt (cP.ly X.w b ep es) y4;have fv:es.size=zs.length:=by
  have:es.toList.length=zs.length:=by rw[y4,μ]
  simpa using this
 refine b6.pX (ps:=zs') (fun p hp=>⟨hK p (p1.mem_iff.mp hp),hne p (p1.mem_iff.mp hp)⟩) (by rw[p1.length_eq];lia) (fun R hR=>?_) fun qs s' c D' hS hn hD hm=>?_
 ·refine cP.uo (by have:=I.ok.hd hc;simpa using this) S.wk T (by lia) fun s' hm=>?_;have:=hR s' hm;rw[p2,bp];exact this
 ·refine oF I (by rw[p1.length_eq];lia) hS hn hD hm fun hf=>?_;refine q _ (qs.map (·.1)) _ hf ((hS.perm.map _).trans (p1.map _)) ?_ (mZ fun p hp=>hk p (p1.mem_iff.mp (hS.perm.mem_iff.mp hp)));exact cU.mpr hS.rise
end
section
variable {X:Cx} {K:ι} {e:ρ} {es:List ρ} {t:cJ} {ta:aD} {pos p p' pos':aL}
def i4:C3:=fun ds G Q=>match ds with
 |[.obj a]=>∃nss:List (List Int),G a=some (.lst (nss.map tupI))/\nss.length<64/\(∀ns∈nss,ns≠[])/\∀(p:ε) (mss:List (List Int)) (G':Gp),dw G p (.lst (mss.map tupI)) G'->mss.Perm nss->gF mss->Q (.obj p) G'
 |_=>False
theorem Fp:mq K i4 (fun vs H Q=>∃(a:ε) (xs:List V) (nss:List (List Int)),vs=[.ref a]/\eQ K H a xs/\aF K H (nss.map tupI) xs/\nss.length<64/\(∀ns∈nss,ns≠[]) ∧
  ∀(p:ε) (mss:List (List Int)) (ys:List V),H p=none->mss.Perm nss->gF mss->aF K H (mss.map tupI) ys->Q (.ref p) (upd H p (.lst ys))):=fun ds vs G H Q3 Q h RG q k=>by
 rcases ds with _|⟨d,_|⟨d2,ds⟩⟩
 ·exact q.elim
 ·obtain⟨v,rfl,hv⟩:=kM h;cases d with
  |obj a=>
   obtain⟨nss,e1,hz,hne,q⟩:=q;obtain⟨xs,e2,e3⟩:=RG a _ e1;rw[de hv];exact⟨a,xs,nss,rfl,.of e2,e3,hz,hne,fun p mss ys hp h1 h2 h3=>k _ _ (.obj p) _ jB (.g5 hp) (RG.qe hp h3) (q p mss _ (.mk' (RG.free hp)) h1 h2)⟩
  |_=>exact q.elim
 ·cases d<;>exact q.elim
theorem DX(hu:X.A.units+64<cLine)(hm:X.mg "sorted" = none)(ha:jk X (e::es) t)(hc:X.calm=true:=by rfl)(hg:Gl X "sorted":=by rfl)(he:notStar e=true:=by rfl)(hpl:es.all notStar=true:=by rfl):
  bP X (.Call (.Name "sorted" p) (e::es) [] pos) (dg i4 t):=nv Fp (fb (yc hc hu) hg hm rfl ha (he:=bj he) (hpl:=cW hpl))
def su(ta:aD):aD:=fun τ G Q=>ta τ G fun x G1=>match x with
 |.obj a=>∃nss:List (List Int),G1 a=some (.lst (nss.map tupI))/\nss.length≤60/\(∀ns∈nss,ns≠[])/\∀(p:ε) (mss:List (List Int)) (G':Gp),dw G1 p (.lst (mss.map tupI)) G'->(∀ns,ns∈mss↔ns∈nss)->mss.Nodup->gF mss->mss.length≤nss.length->Q (.obj p) G'
 |_=>False
theorem DY(hu:X.A.units+64<cLine)(ha:bP X e ta)(hm:X.mg "sorted" = none)(hm2:X.mg "set" = none)(hc:X.calm=true:=by rfl)(hg:Gl X "sorted":=by rfl)(hg2:Gl X "set":=by rfl)(he2:notStar e=true:=by rfl):
  bP X (.Call (.Name "sorted" p) [.Call (.Name "set" p') [e] [] pos'] [] pos) (su ta):=
 eD (fb (ya hc hu) hg hm rfl (je (mX (D4 hc hu) hg2 hm2 rfl (je ha mf (bj he2)) (he:=bj he2) (hpl:=cW rfl)) mf (bj rfl)) (he:=bj rfl) (hpl:=cW rfl)) fun σ H Q ⟨τ,G,Q3,RS,RG,h,k⟩=>by
  refine⟨τ,G,_,RS,RG,h,fun v H1 d G1 h1 S1 R1 q1=>?_⟩;cases d with
  |obj a=>
   obtain⟨nss,e1,hz,hne,q⟩:=q1;obtain⟨xs,e2,e3⟩:=R1 a _ e1;rw[de h1];refine⟨a,xs,nss,rfl,.of e2,e3,hz,fun b zs hb hk hmem hnd hlen=>?_⟩;have E2:Ext H1 (upd H1 b (.ext (wU X.prog X.w b zs))):=.laid hb;refine⟨b,zs,rfl,cm,fun p hp=>dJ.ext E2 (hk p hp),by lia,fun p hp=>hne _ ((hmem _).mp (Φ.mpr ⟨p,hp,rfl⟩)),fun p mss ys hp hpm hr hv=>?_⟩;have R2:bf X.K G1 (upd H1 b (.ext (wU X.prog X.w b zs))):=R1.laid hb;refine k _ _ (.obj p) _ jB ((S1.trans (.laid hb)).trans (.g5 hp)) (R2.qe hp hv) (q p mss _ (.mk' (R2.free hp)) (fun ns=>?_) ?_ hr ?_)
   ·rw[hpm.mem_iff];exact hmem ns
   ·exact hpm.nodup_iff.mpr hnd
   ·rw[hpm.length_eq,μ];exact hlen
  |_=>exact q1.elim
def o6:List D->Option (List Bool)
 |[]=>some []
 |.bl b::r=>(o6 r).map (b::·)
 |_::_=>none
theorem t7{H:Hp}:∀{ds:List D} {vs:List V} {bs:List Bool},aF K H ds vs->o6 ds=some bs->vs=bs.map V.bl
 |[],vs,ns,h,e=>by
  cases e;exact h.gD
 |d::ds,vs,ns,h,e=>by
  cases d with
  |bl i=>
   obtain⟨v,r,rfl,z1,z2⟩:=h.inv;unfold o6 at e;cases hm:o6 ds with
   |none=>rw[hm] at e;cases e
   |some ms=>
    rw[hm] at e;cases e;rw[rb z1,t7 z2 hm];rfl
  |_=>cases e
theorem wc:∀{bs:List Bool} {us:List δ},bc (bs.map V.bl) us->us=bs.map fk
 |[],_,.nil=>rfl
 |b::bs,_,.cons r rr=>by
  rw[(show _=fk b from r),wc rr];rfl
theorem range_all(bs:List Bool):(aB bs.length).all (fun i=>bs.getD i false)=bs.all id:=by
 rw[nj];simp only[dN,bO,id_eq];constructor
 ·intro h b hb;obtain⟨i,hi,rfl⟩:=List.mem_iff_getElem.mp hb;have:=h i hi;simpa [jq,hi] using this
 ·intro h i hi;have:=h bs[i] (mH hi);simpa [jq,hi] using this
theorem B1(hc:X.calm=true){pins:List (ε×aT)}{s:ζ}{σ:L2.St}{H:Hp}{a:ε}{xs:List V}{E:δ->ζ->Prop}(I:Inv X pins σ H s)(hl:eQ X.K H a xs){Q:δ->ζ->Prop}
  (q:∀(its:List δ) (I':ε),bc xs its->WalksS X.prog X.w X.A.in1 I' [I',a] [I'] (fun x y=>y=x) its.length (fun i v=>its[i]?=some v) (fun i s=>s.heap.IsListIter I' a i/\s.heap.IsList a its.toArray) ->
   (s.heap.push { cls:=.type "list_iterator",data:=.fields #[.ref a,.int 0 0]}).IsListIter I' a 0->(s.heap.push { cls:=.type "list_iterator",data:=.fields #[.ref a,.int 0 0]}).IsList a its.toArray ->
   (∀b∈[I',a],b<(s.heap.push { cls:=.type "list_iterator",data:=.fields #[.ref a,.int 0 0]}).objs.size) ->
   (∀s',fm [I'] (fun x y=>y=x) { s with heap:=s.heap.push { cls:=.type "list_iterator",data:=.fields #[.ref a,.int 0 0]}} s'->Inv X pins σ H s')->Q (.ref I') { s with heap:=s.heap.push { cls:=.type "list_iterator",data:=.fields #[.ref a,.int 0 0]}}):
  π (model X.prog X.w) X.A.in1 (pyIter (.ref a)) Q E s:=by
 obtain⟨its,rv,pl,_⟩:=I.list hl;have hla:a<s.heap.objs.size:=by
  obtain⟨o,h1,_⟩:=pl.isList;exact Ψ h1
 refine iH pl.isList ?_;have hW:=(uf (prog:=X.prog) (w:=X.w) (A:=X.A.in1) (by have:=I.ok.hd hc;simpa using this) s.heap.objs.size a (aQ hla) its.toArray).toS;refine q its s.heap.objs.size rv (by simpa using hW) ⟨_,ab _ rfl,rfl,rfl⟩ ?_ ?_ fun s' hm=>?_
 ·obtain⟨o,h1,h2⟩:=pl.isList;exact⟨o,ξ _ h1,h2⟩
 ·intro b hb;rw[size_push'];rcases aM.mp hb with e|e
  ·rw[e];exact gI _
  ·have:b=a:=by simpa using e
   rw[this];exact dC hla
 ·have e:s'={ s with heap:=s'.heap,toks:=s'.toks }:=by
   cases s';cases s;have h1:=hm.gens;have h2:=hm.drawn;have h3:=hm.os;simp only at h1 h2 h3;subst h1 h2 h3;rfl
  rw[e];exact I.kept fun b u z=>hm.heap b u (fun y=>by
   have:b=s.heap.objs.size:=by simpa using y
   exact absurd (this▸Ψ z) (cv _)) (ξ _ z)
theorem Eb(hc:X.calm=true):fM X (.builtin "all") (fun vs H Q=>∃(a:ε) (bs:List Bool),vs=[.ref a]/\eQ X.K H a (bs.map V.bl)/\Q (.bl (bs.all id)) H):=by
 intro pins s σ H vs us Q I r h;obtain⟨a,bs,rfl,hl,q⟩:=h;obtain⟨u,rfl,ru⟩:=vals1 r;cases ru;refine call_all_walkS (B1 hc I hl fun its I' rv W h1 h2 h3 back=>⟨I',_,_,_,_,_,_,fun i=>bs.getD i false,rfl,W,⟨h1,h2⟩,?_,fun s' hm=>?_⟩)
 ·intro i v s' Q' E' hv hq;have hx:=wc rv;subst hx;rw[ag] at hv;cases hb:bs[i]? with
  |none=>rw[hb] at hv;cases hv
  |some b=>
   rw[hb] at hv;cases hv;have:bs.getD i false=b:=by simp[jq,hb]
   dsimp only at hq;rw[this] at hq;exact dB hq
 ·have:its.length=bs.length:=by rw[←rv.length,μ]
  rw[this,range_all];exact⟨.bl (bs.all id),H,back s' hm,rfl,q⟩
def tG:C3:=fun ds G Q=>match ds with
 |[.obj a]=>∃xs bs,G a=some (.lst xs)/\o6 xs=some bs/\Q (.bl (bs.all id)) G
 |_=>False
theorem O4:mq K tG (fun vs H Q=>∃(a:ε) (bs:List Bool),vs=[.ref a]/\eQ K H a (bs.map V.bl)/\Q (.bl (bs.all id)) H):=fun ds vs G H Q3 Q h RG q k=>by
 rcases ds with _|⟨d,_|⟨d2,ds⟩⟩
 ·exact q.elim
 ·obtain⟨v,rfl,hv⟩:=kM h;cases d with
  |obj a=>
   obtain⟨xs,bs,e1,e2,q⟩:=q;obtain⟨ys,e3,e4⟩:=RG a _ e1;rw[de hv];rw[t7 e4 e2] at e3;exact⟨a,bs,rfl,.of e3,k _ H _ G iW (.refl H G) RG q⟩
  |_=>exact q.elim
 ·cases d<;>exact q.elim
theorem Na(hu:X.A.units+64<cLine)(hm:X.mg "all" = none)(ha:jk X (e::es) t)(hc:X.calm=true:=by rfl)(hg:Gl X "all":=by rfl)(he:notStar e=true:=by rfl)(hpl:es.all notStar=true:=by rfl):
  bP X (.Call (.Name "all" p) (e::es) [] pos) (dg tG t):=nv O4 (fb (Eb hc) hg hm rfl ha (he:=bj he) (hpl:=cW hpl))
end
end L3
namespace L3
open PySem PySem.Spec PyProof.Rows L2
section
variable {prog:af} {w:ar} {A:bA} {E:δ->ζ->Prop} {s:ζ}
theorem Ao(lo hi i:Int):(hJ lo hi 1 i).isSome=(decide (lo≤i)&&decide (i<hi)):=by
 unfold hJ;dsimp only;rw[if_pos (c:=(1:Int) > 0) (by decide),Int.emod_one];cases (decide (lo≤i)&&decide (i<hi))<;>rfl
theorem n8{r:ε}{lo hi i:Int}{t u v tk:Tok}{Q:Bool->ζ->Prop}(hr:s.heap.get? r=some { cls:=.type "range",data:=.fields #[.int lo t,.int hi u,.int 1 v]})(h:Q (decide (lo≤i)&&decide (i<hi)) s):
  π (model prog w) A (contains (.ref r) (.int i tk)) Q E s:=by
 have hT:s.TypeIs (.ref r) "range":=⟨_,hr,rfl⟩;refine wpAny_contains_slot hT kF (cz kF hT PySem.F.entry_range_contains ?_ (PySem.F.args_range_contains_2 _ _));show π _ _ (lP (.ref r) >>= _) _ _ s;unfold lP;refine γ (γ (iP hr rfl (x:=.int lo t) rfl (γ (η (γ (iP hr rfl (x:=.int hi u) rfl (γ (η (γ (iP hr rfl (x:=.int 1 v) rfl (γ (η (η ?_)))))))))))));show π _ _ (pure (Fin.done (Flow.ret (fk (hJ lo hi 1 i).isSome)))) _ _ s;rw[Ao];exact η ⟨_,rfl,dB h⟩
end
section
variable {X:Cx} {a b c:ρ} {ta:TE} {tb:TA} {op:ko} {p pos pos':aL}
def xF(neg:Bool)(lo hi i:Int):Bool:=if neg then !(decide (lo≤i)&&decide (i<hi)) else (decide (lo≤i)&&decide (i<hi))
def GD(neg:Bool)(ta:TE)(tb:TA):TE:=fun σ H Q=>ta σ H fun x H1=>tb σ H1 fun vs H2=>∃i hi,x=.int i/\vs=[.int hi]/\Q (.bl (xF neg 0 hi i)) H2
def GC(neg:Bool)(ta:TE)(tb:TA):TE:=fun σ H Q=>ta σ H fun x H1=>tb σ H1 fun vs H2=>∃i lo hi,x=.int i/\vs=[.int lo,.int hi]/\Q (.bl (xF neg lo hi i)) H2
def LR(neg:Bool):ko:=if neg then .NotIn else .In
theorem MR{pins:List (ε×aT)}{s:ζ}{σ:L2.St}{H:Hp}{Q:VK}{i lo hi:Int}{t u v tk:Tok}{tks:Nat}(I:L2.Inv X pins σ H s)(q:Q (.bl (decide (lo≤i)&&decide (i<hi))) H):
  π (model X.prog X.w) X.A (compareOp .In (.int i tk) (.ref s.heap.objs.size)) (EP X pins σ Q) X.xe { s with heap:=s.heap.push { cls:=.type "range",data:=.fields #[.int lo t,.int hi u,.int 1 v]},toks:=tks }:=by
 show π _ _ (contains (.ref s.heap.objs.size) (.int i tk) >>= fun b=>pure (fk b)) _ _ _;refine γ (n8 (ab _ rfl) (η ⟨.bl _,H,I.kept fun b ob q=>ξ _ q,rfl,q⟩))
theorem Ju{pins:List (ε×aT)}{s:ζ}{σ:L2.St}{H:Hp}{Q:VK}{i lo hi:Int}{t u v tk:Tok}{tks:Nat}(I:L2.Inv X pins σ H s)(q:Q (.bl (!(decide (lo≤i)&&decide (i<hi)))) H):
  π (model X.prog X.w) X.A (compareOp .NotIn (.int i tk) (.ref s.heap.objs.size)) (EP X pins σ Q) X.xe { s with heap:=s.heap.push { cls:=.type "range",data:=.fields #[.int lo t,.int hi u,.int 1 v]},toks:=tks }:=by
 show π _ _ (contains (.ref s.heap.objs.size) (.int i tk) >>= fun b=>pure (fk (!b))) _ _ _;refine γ (n8 (ab _ rfl) (η ⟨.bl _,H,I.kept fun b ob q=>ξ _ q,rfl,q⟩))
theorem zA{neg:Bool}{pins:List (ε×aT)}{s:ζ}{σ:L2.St}{H:Hp}{Q:VK}{i lo hi:Int}{t u v tk:Tok}{tks:Nat}(I:L2.Inv X pins σ H s)(q:Q (.bl (xF neg lo hi i)) H):
  π (model X.prog X.w) X.A (compareOp (LR neg) (.int i tk) (.ref s.heap.objs.size)) (EP X pins σ Q) X.xe { s with heap:=s.heap.push { cls:=.type "range",data:=.fields #[.int lo t,.int hi u,.int 1 v]},toks:=tks }:=by
 cases neg with
 |false=>exact MR I q
 |true=>exact Ju I q
theorem LJ{neg:Bool}(hg:Gl X "range")(hm:X.mg "range" = none)(ha:PE X a ta)(hb:PA X [b] tb)(hs:bE [b] X.env=[(false,eval b X.env)]):PC X (LR neg) a (.Call (.Name "range" p) [b] [] pos) (GD neg ta tb):=by
 intro pins s σ H Q I h;refine bK (ha pins s σ H _ I h) fun v s1 ⟨x,H1,I1,r1,q1⟩=>?_;refine Call_ (kz I1 hg hm lL (cK (bK (hb pos pins s1 σ H1 _ I1 q1) fun us s2 ⟨vs,H2,I2,r2,q2⟩=>?_) hs rfl));obtain⟨i,hi,rfl,rfl,q⟩:=q2;obtain⟨tk,rfl⟩:=r1;cases r2 with
 |cons r rr=>
  cases rr;obtain⟨t,rfl⟩:=r;exact call_range_1 (zA I2 q)
theorem LI{neg:Bool}(hg:Gl X "range")(hm:X.mg "range" = none)(ha:PE X a ta)(hb:PA X [b,c] tb)(hs:bE [b,c] X.env=[(false,eval b X.env),(false,eval c X.env)])(hs2:bE [c] X.env=[(false,eval c X.env)]):PC X (LR neg) a (.Call (.Name "range" p) [b,c] [] pos) (GC neg ta tb):=by
 intro pins s σ H Q I h;refine bK (ha pins s σ H _ I h) fun v s1 ⟨x,H1,I1,r1,q1⟩=>?_;refine Call_ (kz I1 hg hm lL (cK (bK (hb pos pins s1 σ H1 _ I1 q1) fun us s2 ⟨vs,H2,I2,r2,q2⟩=>?_) (by rw[hs,hs2]) (by rw[hs2];rfl)));obtain⟨i,lo,hi,rfl,rfl,q⟩:=q2;obtain⟨tk,rfl⟩:=r1;cases r2 with
 |cons r rr=>
  cases rr with
  |cons r' rr=>
   cases rr;obtain⟨t,rfl⟩:=r;obtain⟨t',rfl⟩:=r';exact call_range_2 (zA I2 q)
end
section
variable {X:Cx} {a b c:ρ} {ta:aD} {tb:cJ} {p pos pos':aL}
def rj(neg:Bool)(ta:aD)(tb:cJ):aD:=fun τ G Q=>ta τ G fun x G1=>tb τ G1 fun ds G2=>match x,ds with
 |.int i,[.int hi]=>Q (.bl (xF neg 0 hi i)) G2
 |_,_=>False
def rh(neg:Bool)(ta:aD)(tb:cJ):aD:=fun τ G Q=>ta τ G fun x G1=>tb τ G1 fun ds G2=>match x,ds with
 |.int i,[.int lo,.int hi]=>Q (.bl (xF neg lo hi i)) G2
 |_,_=>False
theorem JB{neg:Bool}{σ:L2.St}{H:Hp}{Q:VK}(h:low X.K (rj neg ta tb) σ H Q):GD neg (low X.K ta) (oP X.K tb) σ H Q:=by
 obtain⟨τ,G,Q3,RS,RG,h,k⟩:=h;refine⟨τ,G,_,RS,RG,h,fun v1 H1 d1 G1 h1 S1 R1 q1=>?_⟩;refine⟨τ,G1,_,RS.ext (S1.ext RG),R1,q1,fun vs H2 ds G2 h2 S2 R2 q2=>?_⟩;rcases ds with _|⟨d,_|⟨d2,ds⟩⟩
 ·cases d1<;>exact q2.elim
 ·cases d1 with
  |int i=>
   cases d with
   |int j=>
    obtain⟨v,r,rfl,z1,z2⟩:=h2.inv;cases z2.gD;unfold Hv at z1 h1;exact⟨i,j,h1,by rw[z1],k _ _ _ _ iW (S1.trans S2) R2 q2⟩
   |_=>exact q2.elim
  |_=>exact q2.elim
 ·cases d1 with
  |int i=>cases d<;>exact q2.elim
  |_=>exact q2.elim
theorem JA{neg:Bool}{σ:L2.St}{H:Hp}{Q:VK}(h:low X.K (rh neg ta tb) σ H Q):GC neg (low X.K ta) (oP X.K tb) σ H Q:=by
 obtain⟨τ,G,Q3,RS,RG,h,k⟩:=h;refine⟨τ,G,_,RS,RG,h,fun v1 H1 d1 G1 h1 S1 R1 q1=>?_⟩;refine⟨τ,G1,_,RS.ext (S1.ext RG),R1,q1,fun vs H2 ds G2 h2 S2 R2 q2=>?_⟩;rcases ds with _|⟨d,_|⟨d2,_|⟨d3,ds⟩⟩⟩
 ·cases d1<;>exact q2.elim
 ·cases d1 with
  |int i=>cases d<;>exact q2.elim
  |_=>exact q2.elim
 ·cases d1 with
  |int i=>
   cases d with
   |int lo=>
    cases d2 with
    |int hi=>
     obtain⟨v,r,rfl,z1,z2⟩:=h2.inv;obtain⟨v',r',rfl,z3,z4⟩:=z2.inv;cases z4.gD;unfold Hv at z1 z3 h1;exact⟨i,lo,hi,h1,by rw[z1,z3],k _ _ _ _ iW (S1.trans S2) R2 q2⟩
    |_=>exact q2.elim
   |_=>exact q2.elim
  |_=>exact q2.elim
 ·cases d1 with
  |int i=>
   cases d with
   |int lo=>cases d2<;>exact q2.elim
   |_=>exact q2.elim
  |_=>exact q2.elim
theorem FP(ha:bP X a ta)(hm:X.mg "range" = none)(hb:jk X [b] tb)(hg:Gl X "range":=by rfl)(hs:notStar b=true:=by rfl):bP X (.Compare a [.In] [.Call (.Name "range" p) [b] [] pos'] pos) (rj false ta tb):=
 eD (Dh (op:=.In) (LJ (neg:=false) hg hm ha hb (bj hs)) rfl) fun _ _ _ h=>JB h
theorem FO(ha:bP X a ta)(hm:X.mg "range" = none)(hb:jk X [b,c] tb)(hg:Gl X "range":=by rfl)(hs:notStar b=true:=by rfl)(hs2:notStar c=true:=by rfl):bP X (.Compare a [.In] [.Call (.Name "range" p) [b,c] [] pos'] pos) (rh false ta tb):=
 eD (Dh (op:=.In) (LI (neg:=false) hg hm ha hb (by rw[bj hs,bj hs2];rfl) (bj hs2)) rfl) fun _ _ _ h=>JA h
end
end L3
namespace L2
open PySem PySem.Spec PyProof.Rows
def BJ(lo c:Int)(n:Nat):It:=⟨fun i _=>i<n,fun i H x H'=>H'=H/\x=.int (lo+i*c),fun i _=>n≤i⟩
theorem yq{P:af}{w:ar}{K:ι}{tg:ρ}(it:ε)(lo c:Int)(n:Nat):Turn P w K tg (BJ lo c n) [it] it (fun i h=>nI h it (lo+(i:Nat)*c) ((n:Int)-(i:Nat)) c) where
 mem:=by simp
 obj:=fun i h st b hb=>by
  have e:b=it:=by simpa using hb
  subst e;exact⟨_,st,fun v z=>by
   have z':Data.fields _=Data.cell v:=z;cases z'⟩
 keep:=fun i h h' st k=>k it (by simp) _ st
 item:=by
  intro X hP hw hK hc i pins s σ H E I hf st hg;subst hP hw hK;obtain⟨f0,f1,f2,f3,f4,f5⟩:=hf it (by simp);have W:=Walks.range (prog:=X.prog) (w:=X.w) (I.ok.hd hc) it lo c n;refine W.item i s _ _ hg st fun v h' tk hv st' kk=>?_;obtain⟨t,rfl⟩:=hv;have I1:Inv X pins σ H { s with heap:=h',toks:=tk }:=I.turned (fun b o hb e=>kk b o (by simpa using hb) e) f0 f1 f3 f4 f5;refine⟨_,rfl,vV (s:={ s with heap:=h',toks:=tk }) (n:="range_iterator") st' rfl rfl (by decide) ⟨.int (lo+i*c),H,I1,⟨t,rfl⟩,⟨rfl,rfl⟩,st',fun b hb=>(hf b hb).1⟩⟩
 done:=by
  intro X hP hw hK hc i pins s σ H E I hf st hg;subst hP hw hK;obtain⟨f0,f1,f2,f3,f4,f5⟩:=hf it (by simp);exact wpAny_pyNext_range_end (I.ok.hd hc) st (by have:n≤i:=hg;lia) fun h' eb=>⟨rfl,I.turned (t':=s.toks) (fun b o hb e=>eb b o hb e) f0 f1 f3 f4 f5⟩
 self:=fun _ _ _ _ _ st h=>wpAny_pyIter_rangeiter st h
def gX(i j c:Int):Nat:=if i<j then ((j-i-1) / c+1).toNat else 0
theorem EN{i j c:Int}(hc:0<c):cq i j c=(gX i j c:Int):=by
 unfold cq gX;rw[if_pos hc];split
 ·rename_i h;have:0≤(j-i-1) / c:=nh (by lia) (by lia);lia
 ·rfl
theorem zV{i j c:Int}(h1:-(2^61)≤i)(h2:i<2^61)(h3:-(2^61)≤j)(h4:j<2^61)(hc:0<c)(hc2:c<2^30):jW i j c=true:=by
 have hs:cq i j c≤2^62/\0≤cq i j c:=by
  unfold cq;rw[if_pos hc];split
  ·rename_i h;have e1:(j-i-1) / c≤j-i-1:=Int.ediv_le_self _ (by lia);have e2:0≤(j-i-1) / c:=nh (by lia) (by lia);lia
  ·lia
 unfold jW;generalize cq i j c=z at hs;simp only[eJ.Range.rangeFitsLong,cN,Bool.or_eq_true,decide_eq_true_eq,beq_iff_eq,hc,gt_iff_lt,if_true];have:∀p q:Int,True:=fun _ _=>trivial;refine ?_;lia
section
variable {X:Cx} {tg:ρ}
theorem CO{pins:List (ε×aT)}{σ:St}{H:Hp}{s:ζ}{R:It->Hp->Prop}{E:δ->ζ->Prop}{lo hi c:Int}{t u v:Tok}{tk:Nat}(I:Inv X pins σ H s)(hs:jW lo hi c=true)(hc:0<c)
  (q:R (BJ lo c (gX lo hi c)) H):π (model X.prog X.w) X.A (pyIter (.ref s.heap.objs.size)) (HN X pins σ tg R) E { s with heap:=s.heap.push { cls:=.type "range",data:=.fields #[.int lo t,.int hi u,.int c v]},toks:=tk }:=by
 refine wpAny_pyIter_range (IsRange.new ..) hs ?_;have I1:Inv X pins σ H { s with heap:=s.heap.push { cls:=.type "range",data:=.fields #[.int lo t,.int hi u,.int c v]},toks:=tk }:=I.kept fun b o e=>ξ _ e;refine⟨(s.heap.push { cls:=.type "range",data:=.fields #[.int lo t,.int hi u,.int c v]}).objs.size,[(s.heap.push { cls:=.type "range",data:=.fields #[.int lo t,.int hi u,.int c v]}).objs.size],_,_,H,rfl,
  I1.kept (t':=tk) fun b o e=>ξ _ e,yq _ lo c (gX lo hi c),?_,fun b hb=>?_,q⟩
 ·have e1:lo+((0:Nat):Int)*c=lo:=by simp
  have e2:(((gX lo hi c):Nat):Int)-((0:Nat):Int)=cq lo hi c:=by rw[EN hc];simp
  show nI _ _ (lo+((0:Nat):Int)*c) ((((gX lo hi c):Nat):Int)-((0:Nat):Int)) c;rw[e1,e2];exact ab _ rfl
 ·have e:b=(s.heap.push { cls:=.type "range",data:=.fields #[.int lo t,.int hi u,.int c v]}).objs.size:=by simpa using hb
  subst e;exact I1.sr (Θ _) (I1.bV.fresh (Θ _))
def MV(ta:TA):TI:=fun σ H R=>ta σ H fun vs H1=>∃i j c:Int,vs=[.int i,.int j,.int c]/\(-(2^61)≤i/\i<2^61/\-(2^61)≤j/\j<2^61/\0<c/\c<2^30)/\R (BJ i c (gX i j c)) H1
theorem C8{a b d:ρ}{ta:TA}{p pos:aL}(hg:Gl X "range")(hm:X.mg "range" = none)(ha:PA X [a,b,d] ta)(hs:bE [a,b,d] X.env=[(false,eval a X.env),(false,eval b X.env),(false,eval d X.env)])(hs2:bE [b,d] X.env=[(false,eval b X.env),(false,eval d X.env)]):
  PI X tg (.Call (.Name "range" p) [a,b,d] [] pos) (MV ta):=by
 intro pins s σ H R I h;refine Call_ (kz I hg hm lL (cK (bK (ha pos pins s σ H _ I h) fun us s1 ⟨vs,H1,I1,r1,q1⟩=>?_) (by rw[hs,hs2]) (by rw[hs2];rfl)));obtain⟨i,j,c,e,⟨q1,q2,q3,q4,q5,q6⟩,q⟩:=q1;subst e;cases r1 with
 |cons r rr=>
  cases rr with
  |cons r' rr=>
   cases rr with
   |cons r'' rr=>
    cases rr;obtain⟨t,rfl⟩:=r;obtain⟨t',rfl⟩:=r';obtain⟨t'',rfl⟩:=r'';exact call_range_3 (by lia) (CO I1 (zV q1 q2 q3 q4 q5 q6) q5 q) (.inl (PyProof.noPylong_small (by lia)))
end
section
variable {X:Cx}
theorem Fy:NA X (EX X.K):=by
 intro pins s σ H x y v u Q I rx ry h;obtain⟨p,xs,i,z,rfl,rfl,hq,he,q⟩:=h;cases rx;obtain⟨t,rfl⟩:=ry;obtain⟨its,r,pl,hz⟩:=I.list hq;obtain⟨j,h1,h2,h3,h4,h5⟩:=rA he;obtain⟨w,ew,rw'⟩:=r.get h2;have hl:=r.length;have hn:=mi;have fin:EP X pins σ Q w s:=⟨z,H,I,rw',q⟩;by_cases h0:0≤i
 ·have hj:i.toNat=j:=by
   rw[nA h0 h5] at h1;exact ay h1
  exact wpAny_getItem_list pl.isList h0 (by lia) (by rw[hj];simpa using ew) fin
 ·have hj:(i+(its.toArray.size:Int)).toNat=j:=by
   rw[seqIndex_neg (by lia) h4] at h1;rw[ψ,←hl];exact ay h1
  exact wpAny_getItem_list_neg pl.isList (by lia) (by rw[ψ]<;>lia) (by lia) (by rw[hj];simpa using ew) fin
end
end L2
namespace L3
open PySem PySem.Spec PyProof.Rows L2
section
variable {X:Cx} {tg:ρ} {p pos:aL}
def nq(lo c:Int)(n:Nat):List D:=(aB n).map fun i:Nat=>.int (lo+(i:Int)*c)
theorem EU{lo c:Int}{n i:Nat}{d:D}(h:(nq lo c n)[i]?=some d):i<n/\d=.int (lo+(i:Int)*c):=by
 unfold nq at h;rw[ag] at h;by_cases hi:i<n
 ·rw[gY hi] at h;simp at h;exact⟨hi,h.symm⟩
 ·rw[cA.mpr (by simpa using hi)] at h;cases h
theorem yu(lo c:Int)(n:Nat):(nq lo c n).length=n:=by simp[nq]
theorem EM{K:ι}{H:Hp}(lo c:Int)(n:Nat):BF K H (BJ lo c n) ⟨nq lo c n,fun _=>True⟩:=⟨by
 intro i d H' G' _ RG _ hi;obtain⟨h1,h2⟩:=EU hi;refine⟨h1,fun x H'' hy=>?_⟩;obtain⟨rfl,rfl⟩:=hy;exact⟨by rw[h2];simp[Hv],.refl _ _,RG⟩,by
 intro i H' G' _ RG _ hi;rw[yu] at hi;exact hi⟩
def vU(ta:cJ):mn:=fun τ G R=>ta τ G fun ds G1=>match ds with
 |[.int i,.int j,.int c]=>(-(2^61)≤i/\i<2^61/\-(2^61)≤j/\j<2^61/\0<c/\c<2^30)/\R ⟨nq i c (gX i j c),fun _=>True⟩ G1
 |_=>False
theorem MS{a b d:ρ}{ta:cJ}(hm:X.mg "range" = none)(ha:jk X [a,b,d] ta)(hg:Gl X "range":=by rfl)(hs:notStar a=true:=by rfl)(hs2:notStar b=true:=by rfl)(hs3:notStar d=true:=by rfl):
  vC X tg (.Call (.Name "range" p) [a,b,d] [] pos) (vU ta):=
 Ap (C8 hg hm ha (by rw[bj hs,bj hs2,bj hs3];rfl) (by rw[bj hs2,bj hs3];rfl)) fun σ H R ⟨τ,G,R3,RS,RG,h,k⟩=>⟨τ,G,_,RS,RG,h,fun vs H1 ds G1 h1 S1 R1 q1=>by
  rcases ds with _|⟨d,_|⟨d2,_|⟨d3,_|⟨d4,ds⟩⟩⟩⟩
  ·exact q1.elim
  ·cases d<;>exact q1.elim
  ·cases d<;>(try exact q1.elim)<;>cases d2<;>exact q1.elim
  ·cases d with
   |int i=>
    cases d2 with
    |int j=>
     cases d3 with
     |int c=>
      obtain⟨v,r,rfl,z1,z2⟩:=h1.inv;obtain⟨v2,r2,rfl,z3,z4⟩:=z2.inv;obtain⟨v3,r3,rfl,z5,z6⟩:=z4.inv;cases z6.gD;unfold Hv at z1 z3 z5;exact⟨i,j,c,by rw[z1,z3,z5],q1.1,k _ _ _ _ (EM i c _) S1 R1 q1.2⟩
     |_=>exact q1.elim
    |_=>cases d3<;>exact q1.elim
   |_=>cases d2<;>(try exact q1.elim)<;>cases d3<;>exact q1.elim
  ·cases d<;>(try exact q1.elim)<;>cases d2<;>(try exact q1.elim)<;>cases d3<;>exact q1.elim⟩
theorem CK{o i e:ρ}{to ti te:aD}{tpos:aL}(ho:bP X o to)(hi:bP X i ti)(he:bP X e te)
  (ha:∀ov iv new,augStore i ov iv new=(do holding [new,ov,iv] (setItem ov iv new);release [new,ov,iv] [];pure .next):=by intros;rfl):
  m5 X (.AugAssign (.Subscript o i tpos) .Add e pos) (zY to ti te (· + ·)):=
 jz (Jb ho hi Fy he MQ set_list ha) fun D σ H ⟨τ,G,D3,RS,RG,h,k⟩=>by
  refine⟨τ,G,_,RS,RG,h,fun v1 H1 d1 G1 h1 S1 R1 q1=>⟨τ,G1,_,RS.ext (S1.ext RG),R1,q1,fun v2 H2 d2 G2 h2 S2 R2 q2=>?_⟩⟩;cases d1 with
  |obj p=>
   cases d2 with
   |int j=>
    obtain⟨ds,x,e1,e2,q⟩:=q2;obtain⟨vs,z1,z2⟩:=R2 p _ e1;obtain⟨v,z3,z4⟩:=n9 z2 e2;have hv1:v1=.ref p:=de h1;have hv2:v2=.int j:=df h2;refine⟨p,vs,j,v,hv1,hv2,.of z1,z3,⟨τ,G2,_,(RS.ext (S1.ext RG)).ext (S2.ext R1),R2,q,fun v5 H5 d5 G5 h5 S5 R5 q5=>?_⟩⟩;cases d5 with
    |int y=>
     have hx:v=.int x:=df z4;have hy:v5=.int y:=df h5;refine⟨x,y,hx,hy,?_⟩;exact ze (((h1.ext (S2.ext R1)).ext (S5.ext R2))) ((h2.ext (S5.ext R2))) fC R5 q5 fun H' G' y1 y2 y3=>k.nx _ _ G' H' ((((RS.ext (S1.ext RG)).ext (S2.ext R1)).ext (S5.ext R2)).ext (y1.ext R5)) (((S1.trans S2).trans S5).trans y1) y2 y3
    |_=>exact q5.elim
   |_=>exact q2.elim
  |_=>cases d2<;>exact q2.elim
end
end L3
namespace L3
open PySem PySem.Spec PyProof.Rows L2
structure QE(X:Cx)(e:ρ)(t:aD):Prop where
 of:bP X e t
structure QT(X:Cx)(e:ρ)(t:cu):Prop where
 of:oh X e t
structure QW(X:Cx)(e:ρ)(t:cu):Prop where
 of:vB X e t
structure QA(X:Cx)(es:List ρ)(t:cJ):Prop where
 of:jk X es t
structure QS(X:Cx)(st:aX)(t:aE):Prop where
 of:m5 X st t
structure uc(X:Cx)(st:List aX)(t:aE):Prop where
 of:nz X st t
structure QG(X:Cx)(tg:ρ)(t:gs):Prop where
 of:rS X tg t
structure HM(X:Cx)(tgs:List ρ)(t:mo):Prop where
 of:yl X tgs t
structure QI(X:Cx)(tg iter:ρ)(t:mn):Prop where
 of:vC X tg iter t
structure QO(X:Cx)(e:Option ρ)(t:vz):Prop where
 of:Eg X e t
structure QC(X:Cx)(ifs:List ρ)(t:cu):Prop where
 of:rT X ifs (oO X.K t)
section
variable {X:Cx} {a b e c:ρ} {ta tb te:aD} {tA tB:cu} {pos:aL} {es rest:List ρ}
theorem ν{i:Nat}{x:Δ}(h:PE X (.Name x pos) (zJ i)):QE X (.Name x pos) (υ i):=⟨Pd (h:=h)⟩
end
section
variable {X:Cx} {a b e c:ρ} {ta tb te:aD} {tA tB:cu} {pos:aL} {es rest:List ρ}
theorem Ξ{i:Int}{j}:QE X (.Constant (.int i) j pos) (eC (.int i)):=⟨Pm ⟩
end
section
variable {X:Cx} {a b e c:ρ} {ta tb te:aD} {tA tB:cu} {pos:aL} {es rest:List ρ}
theorem lD{i:Bool}{j}:QE X (.Constant (.bool i) j pos) (eC (.bl i)):=⟨QK ⟩
end
section
variable {X:Cx} {a b e c:ρ} {ta tb te:aD} {tA tB:cu} {pos:aL} {es rest:List ρ}
theorem CY{j}:QE X (.Constant .none j pos) (eC .aq):=⟨Ph ⟩
end
section
variable {X:Cx} {a b e c:ρ} {ta tb te:aD} {tA tB:cu} {pos:aL} {es rest:List ρ}
theorem IU{x:Δ}{i:Int}{u:Tok}(hm:X.mg x=some (.int i u))(hg:Gl X x:=by rfl)(hd:(x==("__debug__":Δ))=false:=by decide):QE X (.Name x pos) (eC (.int i)):=⟨Nc (hm:=hm) (hg:=hg) (hd:=hd)⟩
end
section
variable {X:Cx} {a b e c:ρ} {ta tb te:aD} {tA tB:cu} {pos:aL} {es rest:List ρ}
theorem bx{op:pe}{r:R3}{r2:R2}(L:fj X.K r r2)(ho:ey X (binaryOp op) r2)(ha:QE X a ta)(hb:QE X b tb):QE X (.BinOp a op b pos) (aR r ta tb):=⟨QH (L:=L) (ho:=ho) (ha:=ha.of) (hb:=hb.of)⟩
end
section
variable {X:Cx} {a b e c:ρ} {ta tb te:aD} {tA tB:cu} {pos:aL} {es rest:List ρ}
theorem C1{op:ko}{r:R3}{r2:R2}(L:fj X.K r r2)(ho:ey X (compareOp op) r2)(ha:QE X a ta)(hb:QE X b tb)(hm:behindInMarks op b=false):QE X (.Compare a [op] [b] pos) (aR r ta tb):=⟨Pn (L:=L) (ho:=ho) (ha:=ha.of) (hb:=hb.of) (hm:=hm)⟩
end
section
variable {X:Cx} {a b e c:ρ} {ta tb te:aD} {tA tB:cu} {pos:aL} {es rest:List ρ}
theorem cE{op:ko}{r:R3}{r2:R2}(L:fj X.K r r2)(ho:ey X (compareOp op) r2)(ha:QE X a ta)(hb:QE X b tb)(hm:behindInMarks op b=false):QT X (.Compare a [op] [b] pos) (bU (aR r ta tb)):=⟨Ks (L:=L) (ho:=ho) (ha:=ha.of) (hb:=hb.of) (hm:=hm)⟩
end
section
variable {X:Cx} {a b e c:ρ} {ta tb te:aD} {tA tB:cu} {pos:aL} {es rest:List ρ}
theorem jd(h:QE X a ta)(he:∀whole,isTrue a X.env whole=(do let v ←whole;standAt a.pos;holding [v] (truthy v)):=by intro _;rfl):QT X a (bU ta):=⟨Kq (h:=h.of) (he:=he)⟩
end
section
variable {X:Cx} {a b e c:ρ} {ta tb te:aD} {tA tB:cu} {pos:aL} {es rest:List ρ}
theorem Lr(ha:QE X a ta):QE X (.UnaryOp .USub a pos) (Nh Af ta):=⟨Pj (ha:=ha.of)⟩
end
section
variable {X:Cx} {a b e c:ρ} {ta tb te:aD} {tA tB:cu} {pos:aL} {es rest:List ρ}
theorem xa(ha:QT X a tA):QW X (.BoolOp .And [a] pos) tA:=⟨tw_and1 (ha:=ha.of)⟩
end
section
variable {X:Cx} {a b e c:ρ} {ta tb te:aD} {tA tB:cu} {pos:aL} {es rest:List ρ}
theorem nS(ha:QT X a tA):QW X (.BoolOp .Or [a] pos) tA:=⟨tw_or1 (ha:=ha.of)⟩
end
section
variable {X:Cx} {a b e c:ρ} {ta tb te:aD} {tA tB:cu} {pos:aL} {es rest:List ρ}
theorem yM(ha:QT X a tA)(hb:QW X (.BoolOp .And (b::rest) pos) tB):QW X (.BoolOp .And (a::b::rest) pos) (Bg tA tB):=⟨tw_and (ha:=ha.of) (hb:=hb.of)⟩
end
section
variable {X:Cx} {a b e c:ρ} {ta tb te:aD} {tA tB:cu} {pos:aL} {es rest:List ρ}
theorem kx(ha:QT X a tA)(hb:QW X (.BoolOp .Or (b::rest) pos) tB):QW X (.BoolOp .Or (a::b::rest) pos) (pz tA tB):=⟨tw_or (ha:=ha.of) (hb:=hb.of)⟩
end
section
variable {X:Cx} {a b e c:ρ} {ta tb te:aD} {tA tB:cu} {pos:aL} {es rest:List ρ}
theorem oI(h:QW X a tA):QT X a tA:=⟨PQ (h:=h.of)⟩
end
section
variable {X:Cx} {a b e c:ρ} {ta tb te:aD} {tA tB:cu} {pos:aL} {es rest:List ρ}
theorem jZ(ha:QT X a tA):QT X (.UnaryOp .Not a pos) (kO tA):=⟨Kr (ha:=ha.of)⟩
end
section
variable {X:Cx} {a b e c:ρ} {ta tb te:aD} {tA tB:cu} {pos:aL} {es rest:List ρ}
theorem CW{op}(h:QE X a ta):QE X (.BoolOp op [a] pos) ta:=⟨Pf (h:=h.of)⟩
end
section
variable {X:Cx} {a b e c:ρ} {ta tb te:aD} {tA tB:cu} {pos:aL} {es rest:List ρ}
theorem C2(ha:QE X a ta)(hb:QE X (.BoolOp .And (b::rest) pos) tb):QE X (.BoolOp .And (a::b::rest) pos) (tW ta tb):=⟨Po (ha:=ha.of) (hb:=hb.of)⟩
end
section
variable {X:Cx} {a b e c:ρ} {ta tb te:aD} {tA tB:cu} {pos:aL} {es rest:List ρ}
theorem Lq(ha:QE X a ta):QE X (.UnaryOp .Not a pos) (Be ta):=⟨Pg (ha:=ha.of)⟩
end
section
variable {X:Cx} {a b e c:ρ} {ta tb te:aD} {tA tB:cu} {pos:aL} {es rest:List ρ}
theorem Γ  : QA X [] aa:=⟨Pz ⟩
end
section
variable {X:Cx} {a b e c:ρ} {ta tb te:aD} {tA tB:cu} {pos:aL} {es rest:List ρ}
theorem θ{tr:cJ}(ha:QE X a ta)(hr:QA X es tr)(hs:notStar a=true:=by rfl):QA X (a::es) (ο ta tr):=⟨Nv (ha:=ha.of) (hr:=hr.of) (hs:=hs)⟩
end
section
variable {X:Cx} {a b e c:ρ} {ta tb te:aD} {tA tB:cu} {pos:aL} {es rest:List ρ}
theorem gM{t:cJ}{x1}(h:QA X es t):QE X (.Tuple es x1 pos) (i8 t):=⟨Pe (h:=h.of)⟩
end
section
variable {X:Cx} {a b e c:ρ} {ta tb te:aD} {tA tB:cu} {pos:aL} {es rest:List ρ}
theorem hZ{t:cJ}(h:QA X es t):QE X (.List es pos) (j3 t):=⟨Pl (h:=h.of)⟩
end
section
variable {X:Cx} {st:aX} {rest:List aX} {t u:aE} {e c:ρ} {te:aD} {tc:cu} {pos:aL}
theorem fS  : uc X [] fL:=⟨N5 ⟩
end
section
variable {X:Cx} {st:aX} {rest:List aX} {t u:aE} {e c:ρ} {te:aD} {tc:cu} {pos:aL}
theorem aI(h1:QS X st t)(h2:uc X rest u):uc X (st::rest) (bJ t u):=⟨KR (h1:=h1.of) (h2:=h2.of)⟩
end
section
variable {X:Cx} {st:aX} {rest:List aX} {t u:aE} {e c:ρ} {te:aD} {tc:cu} {pos:aL}
theorem aH(h1:QS X st t):uc X [st] t:=⟨N4 (h1:=h1.of)⟩
end
section
variable {X:Cx} {st:aX} {rest:List aX} {t u:aE} {e c:ρ} {te:aD} {tc:cu} {pos:aL}
theorem qT(he:QE X e te)(hs:swapsWith e none pos.line X.env=pure false:=by rfl):QS X (.Expr e pos) (qQ te):=⟨KQ (he:=he.of) (hs:=hs)⟩
end
section
variable {X:Cx} {st:aX} {rest:List aX} {t u:aE} {e c:ρ} {te:aD} {tc:cu} {pos:aL}
theorem bF(he:QE X e te):QS X (.Return (some e) pos) (cn te):=⟨N1 (he:=he.of)⟩
end
section
variable {X:Cx} {st:aX} {rest:List aX} {t u:aE} {e c:ρ} {te:aD} {tc:cu} {pos:aL}
theorem gi{a b:List aX}(hc:QT X c tc)(ha:uc X a t)(hb:uc X b u):QS X (.If c a b pos) (jb tc t u):=⟨P4 (hc:=hc.of) (ha:=ha.of) (hb:=hb.of)⟩
end
section
variable {X:Cx} {st:aX} {rest:List aX} {t u:aE} {e c:ρ} {te:aD} {tc:cu} {pos:aL}
theorem EY  : QS X st wW:=⟨IK ⟩
end
section
variable {X:Cx} {pos:aL} {e:ρ} {es:List ρ}
theorem bL{i:Nat}{x:Δ}(hN:X.N.Nodup)(hi:X.N[i]?=some x:=by rfl)(hx:Loc X.env.scope x:=by first|exact qD rfl|exact ox rfl)(hf:X.fn x=true∨X.env.scope.names.lookup x=some .local:=by first|exact .inl rfl|exact .inr rfl|assumption):QG X (.Name x pos) (hName i):=⟨MX (hN:=hN) (hi:=hi) (hx:=hx) (hf:=hf)⟩
end
section
variable {X:Cx} {pos:aL} {e:ρ} {es:List ρ}
theorem lS  : HM X [] oW:=⟨MW ⟩
end
section
variable {X:Cx} {pos:aL} {e:ρ} {es:List ρ}
theorem e8{t:gs}{u:mo}(h1:QG X e t)(h2:HM X es u)(hs:(assignEach (e::es) X.env).map (·.2)=assign e X.env::(assignEach es X.env).map (·.2):=by rfl):HM X (e::es) (gj t u):=⟨J5 (h1:=h1.of) (h2:=h2.of) (hs:=hs)⟩
end
section
variable {X:Cx} {pos:aL} {e:ρ} {es:List ρ}
theorem nU{k:Nat}{t:mo}{n:Nat}(hc:X.calm=true)(h:HM X es t)(hn:(assignEach es X.env).length=n:=by rfl)(hst:(assignEach es X.env).findIdx? (·.1)=none:=by rfl):QG X (.Tuple es k pos) (oV n t):=⟨O6 (hc:=hc) (h:=h.of) (hn:=hn) (hst:=hst)⟩
end
section
variable {X:Cx} {pos:aL} {e:ρ} {es:List ρ}
theorem tI{tg:ρ}{te:aD}{g:gs}(he:QE X e te)(hg:QG X tg g)(hs:swapsWithSole [tg] e pos.line X.env=pure false:=by rfl)(hw:swappedStores [tg] e X.env=pure none:=by rfl)(h1:(assignEach [tg] X.env).map (·.2)=[assign tg X.env]:=by rfl):QS X (.Assign [tg] e pos) (cx te g):=⟨N7 (he:=he.of) (hg:=hg.of) (hs:=hs) (hw:=hw) (h1:=h1)⟩
end
section
variable {X:Cx} {pos:aL} {e:ρ} {es:List ρ}
theorem b7{i:Nat}{x:Δ}{te:aD}{pos':aL}(hN:X.N.Nodup)(he:QE X e te)(hi:X.N[i]?=some x:=by rfl)(hx:Loc X.env.scope x:=by first|exact qD rfl|exact ox rfl)(hs:swapsWith e (some (.Name x pos')) pos.line X.env=pure false:=by rfl)(hf:X.fn x=true∨X.env.scope.names.lookup x=some .local:=by first|exact .inl rfl|exact .inr rfl|assumption):QS X (.Assign [.Name x pos'] e pos) (cx te (hName i)):=⟨N0 (hN:=hN) (he:=he.of) (hi:=hi) (hx:=hx) (hs:=hs) (hf:=hf)⟩
end
section
variable {X:Cx} {pos:aL} {e:ρ} {es:List ρ}
theorem CU{o i:ρ}{to ti:aD}(ho:QE X o to)(hi:QE X i ti) (ha:∀v,assign (.Subscript o i pos) X.env v=(do
   let ov ←holding [v] (eval o X.env)
   let iv ←holding [v,ov] (eval i X.env)
   standAt pos
   holding [v,ov,iv] (setItem ov iv v)
   release [v,ov,iv] []):=by intro _;rfl):QG X (.Subscript o i pos) (hSub to ti):=⟨O7 (ho:=ho.of) (hi:=hi.of) (ha:=ha)⟩
end
section
variable {X:Cx} {pos:aL} {e:ρ} {es:List ρ}
theorem r9{c:ρ}{body:List aX}{tc:cu}{tb:aE}(hp:kG (model X.prog X.w) X.A X.env X.xe)(hc:QT X c tc)(hb:uc X body tb):QS X (.While c body [] pos) (p7 tc tb):=⟨IJ (hp:=hp) (hc:=hc.of) (hb:=hb.of)⟩
end
section
variable {X:Cx} {k:Nat} {f:ε} {fd:aG} {ps:List Δ} {sp:dG} {x:Δ} {p pos:aL} {e:ρ} {es:List ρ} {t:cJ}
theorem aw(F:ck X.prog X.w X.K X.mg X.base k f fd ps sp)(hr:fD k X.A)(hm:X.mg x=some (.ref f))(hk:gx X.K (.ref f)=true)(hb:Binds X.K fd ps [])(ha:QA X (e::es) t)(hg:Gl X x:=by rfl)(hdb:(x==("__debug__":Δ))=false:=by decide)(he:notStar e=true:=by rfl)(hpl:es.all notStar=true:=by rfl):QE X (.Call (.Name x p) (e::es) [] pos) (aV sp t):=⟨Ng (F:=F) (hr:=hr) (hm:=hm) (hk:=hk) (hb:=hb) (ha:=ha.of) (hg:=hg) (hdb:=hdb) (he:=he) (hpl:=hpl)⟩
end
section
variable {X:Cx} {tg iter:ρ} {pos p:aL}
theorem fe{l:ρ}{te:aD}(hl:QE X l te):QI X tg l (gW te):=⟨O5 (hl:=hl.of)⟩
end
section
variable {X:Cx} {tg iter:ρ} {pos p:aL}
theorem nT{a:ρ}{ta:cJ}(hm:X.mg "range" = none)(ha:QA X [a] ta)(hg:Gl X "range":=by rfl)(hs:notStar a=true:=by rfl):QI X tg (.Call (.Name "range" p) [a] [] pos) (lH ta):=⟨MU (hm:=hm) (ha:=ha.of) (hg:=hg) (hs:=hs)⟩
end
section
variable {X:Cx} {tg iter:ρ} {pos p:aL}
theorem yO{a b:ρ}{ta:cJ}(hm:X.mg "range" = none)(ha:QA X [a,b] ta)(hg:Gl X "range":=by rfl)(hs:notStar a=true:=by rfl)(hs2:notStar b=true:=by rfl):QI X tg (.Call (.Name "range" p) [a,b] [] pos) (qZ ta):=⟨MT (hm:=hm) (ha:=ha.of) (hg:=hg) (hs:=hs) (hs2:=hs2)⟩
end
section
variable {X:Cx} {tg iter:ρ} {pos p:aL}
theorem hX{body:List aX}{ti:mn}{g:gs}{tb:aE}(hp:kG (model X.prog X.w) X.A X.env X.xe)(hc:X.calm=true)(hi:QI X tg iter ti)(hg:QG X tg g)(hb:uc X body tb)(hs:∀x,foldedSetIterable iter X.env x=pure x:=by intro _;rfl):QS X (.For tg iter body [] pos) (jY ti g tb):=⟨N6 (hp:=hp) (hc:=hc) (hi:=hi.of) (hg:=hg.of) (hb:=hb.of) (hs:=hs)⟩
end
section
variable {X:Cx} {tg iter:ρ} {pos p:aL}
theorem fQ  : QC X [] (cV):=⟨Nk ⟩
end
section
variable {X:Cx} {tg iter:ρ} {pos p:aL}
theorem yQ{c:ρ}{t:cu}(h:QT X c t):QC X [c] (t):=⟨Nj (h:=h.of)⟩
end
section
variable {X:Cx} {K:ι}
theorem eU{a b:ρ}{ta tb:aD}{pos:aL}(ha:QE X a ta)(hb:QE X b tb)(hs:og b:=by intro _ _;rfl):QE X (.Subscript a b pos) (aR eB ta tb):=⟨QJ (ha:=ha.of) (hb:=hb.of) (hs:=hs)⟩
end
section
variable {X:Cx} {K:ι}
theorem E3{es:List ρ}{b:ρ}{ta:cJ}{tb:aD}{pos pos':aL}(ha:QA X es ta)(hb:QE X b tb)(hs:og b:=by intro _ _;rfl):QE X (.Subscript (.List es pos') b pos) (xO ta tb):=⟨J9 (ha:=ha.of) (hb:=hb.of) (hs:=hs)⟩
end
section
variable {X:Cx} {a b e:ρ} {ta tb:aD} {pos:aL}
theorem IP  : QO X none Au:=⟨L5 ⟩
end
section
variable {X:Cx} {a b e:ρ} {ta tb:aD} {pos:aL}
theorem uA(h:QE X e ta):QO X (some e) (tN ta):=⟨L4 (h:=h.of)⟩
end
section
variable {X:Cx} {a b e:ρ} {ta tb:aD} {pos:aL}
theorem GR{lo hi:Option ρ}{tl th:vz}{p2:aL}(ha:QE X a ta)(hl:QO X lo tl)(hh:QO X hi th):QE X (.Subscript a (.Slice lo hi none p2) pos) (Hw ta tl th):=⟨QF (ha:=ha.of) (hl:=hl.of) (hh:=hh.of)⟩
end
section
variable {X:Cx} {K:ι} {e:ρ} {es:List ρ} {t:cJ} {ta:aD} {pos p:aL}
theorem gT(hu:X.A.units+64<cLine)(hm:X.mg "len" = none)(ha:QA X (e::es) t)(hg:Gl X "len":=by rfl)(he:notStar e=true:=by rfl)(hpl:es.all notStar=true:=by rfl):QE X (.Call (.Name "len" p) (e::es) [] pos) (dg g0 t):=⟨M8 (hu:=hu) (hm:=hm) (ha:=ha.of) (hg:=hg) (he:=he) (hpl:=hpl)⟩
end
section
variable {X:Cx} {K:ι} {e:ρ} {es:List ρ} {t:cJ} {ta:aD} {pos p:aL}
theorem IT(hu:X.A.units+64<cLine)(hm:X.mg "int" = none)(ha:QA X (e::es) t)(hg:Gl X "int":=by rfl)(he:notStar e=true:=by rfl)(hpl:es.all notStar=true:=by rfl):QE X (.Call (.Name "int" p) (e::es) [] pos) (dg vP t):=⟨M9 (hu:=hu) (hm:=hm) (ha:=ha.of) (hg:=hg) (he:=he) (hpl:=hpl)⟩
end
section
variable {X:Cx} {K:ι} {e:ρ} {es:List ρ} {t:cJ} {ta:aD} {pos p:aL}
theorem uB(hu:X.A.units+64<cLine)(hm:X.mg "max" = none)(ha:QA X (e::es) t)(hc:X.calm=true:=by rfl)(hg:Gl X "max":=by rfl)(he:notStar e=true:=by rfl)(hpl:es.all notStar=true:=by rfl):QE X (.Call (.Name "max" p) (e::es) [] pos) (dg tF t):=⟨M7 (hu:=hu) (hm:=hm) (ha:=ha.of) (hc:=hc) (hg:=hg) (he:=he) (hpl:=hpl)⟩
end
section
variable {X:Cx} {K:ι} {e:ρ} {es:List ρ} {t:cJ} {ta:aD} {pos p:aL}
theorem IS(hu:X.A.units+64<cLine)(hm:X.mg "min" = none)(ha:QA X (e::es) t)(hc:X.calm=true:=by rfl)(hg:Gl X "min":=by rfl)(he:notStar e=true:=by rfl)(hpl:es.all notStar=true:=by rfl):QE X (.Call (.Name "min" p) (e::es) [] pos) (dg Ad t):=⟨M6 (hu:=hu) (hm:=hm) (ha:=ha.of) (hc:=hc) (hg:=hg) (he:=he) (hpl:=hpl)⟩
end
section
variable {X:Cx} {K:ι} {e:ρ} {es:List ρ} {t:cJ} {ta:aD} {pos p:aL}
theorem mW(hu:X.A.units+64<cLine)(hm:X.mg "tuple" = none)(ha:QA X (e::es) t)(hg:Gl X "tuple":=by rfl)(he:notStar e=true:=by rfl)(hpl:es.all notStar=true:=by rfl):QE X (.Call (.Name "tuple" p) (e::es) [] pos) (dg jc t):=⟨FN (hu:=hu) (hm:=hm) (ha:=ha.of) (hg:=hg) (he:=he) (hpl:=hpl)⟩
end
section
variable {X:Cx} {a e:ρ} {es:List ρ} {ta:aD} {t:cJ} {pos p p2:aL}
theorem qU{T:String}{TS:Δ}(k:zC T)(hv:fF TS=some (.type T))(ha:QE X a ta)(hm:X.mg "isinstance" = none)(hm2:X.mg TS=none)(hgT:Gl X TS)(hnT:TS≠"__name__")(hdT:(TS==("__debug__":Δ))=false)(hg:Gl X "isinstance":=by rfl)(he:notStar a=true:=by rfl):QE X (.Call (.Name "isinstance" p) [a,.Name TS p2] [] pos) (oZ T ta):=⟨Nb (k:=k) (hv:=hv) (ha:=ha.of) (hm:=hm) (hm2:=hm2) (hgT:=hgT) (hnT:=hnT) (hdT:=hdT) (hg:=hg) (he:=he)⟩
end
section
variable {X:Cx} {K:ι} {e:ρ} {es:List ρ} {t:cJ} {ta:aD} {pos p p' pos':aL}
theorem lC(hu:X.A.units+64<cLine)(hm:X.mg "sorted" = none)(ha:QA X (e::es) t)(hc:X.calm=true:=by rfl)(hg:Gl X "sorted":=by rfl)(he:notStar e=true:=by rfl)(hpl:es.all notStar=true:=by rfl):QE X (.Call (.Name "sorted" p) (e::es) [] pos) (dg i4 t):=⟨DX (hu:=hu) (hm:=hm) (ha:=ha.of) (hc:=hc) (hg:=hg) (he:=he) (hpl:=hpl)⟩
end
section
variable {X:Cx} {K:ι} {e:ρ} {es:List ρ} {t:cJ} {ta:aD} {pos p p' pos':aL}
theorem Ai(hu:X.A.units+64<cLine)(ha:QE X e ta)(hm:X.mg "sorted" = none)(hm2:X.mg "set" = none)(hc:X.calm=true:=by rfl)(hg:Gl X "sorted":=by rfl)(hg2:Gl X "set":=by rfl)(he2:notStar e=true:=by rfl):QE X (.Call (.Name "sorted" p) [.Call (.Name "set" p') [e] [] pos'] [] pos) (su ta):=⟨DY (hu:=hu) (ha:=ha.of) (hm:=hm) (hm2:=hm2) (hc:=hc) (hg:=hg) (hg2:=hg2) (he2:=he2)⟩
end
section
variable {X:Cx} {K:ι} {e:ρ} {es:List ρ} {t:cJ} {ta:aD} {pos p p' pos':aL}
theorem yP(hu:X.A.units+64<cLine)(hm:X.mg "all" = none)(ha:QA X (e::es) t)(hc:X.calm=true:=by rfl)(hg:Gl X "all":=by rfl)(he:notStar e=true:=by rfl)(hpl:es.all notStar=true:=by rfl):QE X (.Call (.Name "all" p) (e::es) [] pos) (dg tG t):=⟨Na (hu:=hu) (hm:=hm) (ha:=ha.of) (hc:=hc) (hg:=hg) (he:=he) (hpl:=hpl)⟩
end
section
variable {X:Cx} {a b c:ρ} {ta:aD} {tb:cJ} {p pos pos':aL}
theorem C0(ha:QE X a ta)(hm:X.mg "range" = none)(hb:QA X [b] tb)(hg:Gl X "range":=by rfl)(hs:notStar b=true:=by rfl):QE X (.Compare a [.In] [.Call (.Name "range" p) [b] [] pos'] pos) (rj false ta tb):=⟨FP (ha:=ha.of) (hm:=hm) (hb:=hb.of) (hg:=hg) (hs:=hs)⟩
end
section
variable {X:Cx} {a b c:ρ} {ta:aD} {tb:cJ} {p pos pos':aL}
theorem CZ(ha:QE X a ta)(hm:X.mg "range" = none)(hb:QA X [b,c] tb)(hg:Gl X "range":=by rfl)(hs:notStar b=true:=by rfl)(hs2:notStar c=true:=by rfl):QE X (.Compare a [.In] [.Call (.Name "range" p) [b,c] [] pos'] pos) (rh false ta tb):=⟨FO (ha:=ha.of) (hm:=hm) (hb:=hb.of) (hg:=hg) (hs:=hs) (hs2:=hs2)⟩
end
section
variable {X:Cx} {tg:ρ} {p pos:aL}
theorem yN{a b d:ρ}{ta:cJ}(hm:X.mg "range" = none)(ha:QA X [a,b,d] ta)(hg:Gl X "range":=by rfl)(hs:notStar a=true:=by rfl)(hs2:notStar b=true:=by rfl)(hs3:notStar d=true:=by rfl):QI X tg (.Call (.Name "range" p) [a,b,d] [] pos) (vU ta):=⟨MS (hm:=hm) (ha:=ha.of) (hg:=hg) (hs:=hs) (hs2:=hs2) (hs3:=hs3)⟩
end
section
variable {X:Cx} {tg:ρ} {p pos:aL}
theorem Ah{o i e:ρ}{to ti te:aD}{tpos:aL}(ho:QE X o to)(hi:QE X i ti)(he:QE X e te)(ha:∀ov iv new,augStore i ov iv new=(do holding [new,ov,iv] (setItem ov iv new);release [new,ov,iv] [];pure .next):=by intros;rfl):QS X (.AugAssign (.Subscript o i tpos) .Add e pos) (zY to ti te (· + ·)):=⟨CK (ho:=ho.of) (hi:=hi.of) (he:=he.of) (ha:=ha)⟩
end
section
variable {X:Cx} {a b c e o:ρ} {es:List ρ} {ta tb tc te to:aD} {t:cJ} {pos apos cpos p:aL}
theorem tJ{name:Δ}{id:String}{r:D->List D->Gp->V3->Prop}{r2:V->List V->Hp->VK->Prop}(L:uR X.K r r2)(slot:Slot "list" name id)(hty:typeOf (.builtin id)=pure (.type "method_descriptor"))(hm:NB X id r2)(ho:QE X o to)(ha:QA X (e::es) t)
  (AQ:attributeBase o name X.env (eval o X.env)=eval o X.env:=by rfl)
  (Fx:((backTo cpos (bE (e::es) X.env)).all (fun x=>!x.1)&&(backToKw cpos (keywordEach [] X.env)).all (fun x=>x.1.isSome)
   && decide ((e::es).length+([]:List Keyword).length+(if ([]:List Keyword).isEmpty then 0 else 1)<30))=true:=by rfl)
  (AO:(apos.endLine==cpos.line)=true:=by rfl) (he:notStar e=true:=by rfl) (hpl:es.all notStar=true:=by rfl):
  QE X (.Call (.Attribute o name apos) (e::es) [] cpos) (eM r to t):=⟨Pk L (Oq PySem.F.plainAttrs_list slot hty hm ho.of ha.of AQ Fx AO (bj he) (cW hpl))⟩
theorem Lp{i j:Nat}{x y:Δ}{px py pt:aL}{kt k2 pt2}(hc:X.calm=true)(hN:X.N.Nodup)(hi:X.N[i]?=some x)(hj:X.N[j]?=some y)(hij:i≠j)(hx:X.env.scope.names.lookup x=some .local)(hy:X.env.scope.names.lookup y=some .local)(ha:QA X [a,b] t)
  (hw:swappedStores [.Tuple [.Name x px,.Name y py] kt pt] (.Tuple [a,b] k2 pt2) X.env=pure (some [x,y])) (hs:swapsWithSole [.Tuple [.Name x px,.Name y py] kt pt] (.Tuple [a,b] k2 pt2) pos.line X.env=pure false:=by rfl):
  QS X (.Assign [.Tuple [.Name x px,.Name y py] kt pt] (.Tuple [a,b] k2 pt2) pos) (ER i j t):=⟨N3 (Lw hc hN hi hj hij hx hy ha.of hw hs)⟩
end
section
variable {X:Cx} {tg iter elt:ρ} {ifs:List ρ} {scope:fW} {own:List Δ} {js:List Nat} {ti:mn} {g:gs} {tc:cu} {te:aD} {pos:aL}
theorem gp(hc:X.calm=true)(C:dh X.N X.env.scope scope own js)(hi:QI X tg iter ti)
  (hb:∀s H fp,QG (X.cmp scope own js s H fp) tg g/\QC (X.cmp scope own js s H fp) ifs tc/\QE (X.cmp scope own js s H fp) elt te)
  (hs:∀x,foldedSetIterable iter X.env x=pure x:=by intro _;rfl):QE X (.ListComp elt [⟨tg,iter,ifs,0⟩] scope pos) (fi own js ti g tc te):=
 ⟨Nf hc C hi.of (fun s H fp=>⟨(hb s H fp).1.of,(hb s H fp).2.1.of,(hb s H fp).2.2.of⟩) hs⟩
theorem oJ{i:Nat}{y:Δ}{py spos:aL}(hc:X.calm=true)(hN:X.N.Nodup)(C:dh X.N X.env.scope scope own js)(hi:QI X tg iter ti)
  (hb:∀s H fp,QG (X.cmp scope own js s H fp) tg g/\QC (X.cmp scope own js s H fp) ifs tc/\QE (X.cmp scope own js s H fp) elt te) (hy:X.N[i]?=some y:=by rfl) (hyl:X.env.scope.names.lookup y=some .local:=by rfl)
  (DS:swapsWith (.ListComp elt [⟨tg,iter,ifs,0⟩] scope pos) (some (.Name y py)) spos.line X.env=pure true:=by rfl)
  (hs:∀x,foldedSetIterable iter X.env x=pure x:=by intro _;rfl):QS X (.Assign [.Name y py] (.ListComp elt [⟨tg,iter,ifs,0⟩] scope pos) spos) (cx (fi own js ti g tc te) (hName i)):=
 ⟨CJ hc hN C hi.of (fun s H fp=>⟨(hb s H fp).1.of,(hb s H fp).2.1.of,(hb s H fp).2.2.of⟩) hy hyl DS hs⟩
end
theorem dW{P:af}{w:ar}{K:ι}{mg:Δ->Option δ}{base:ai}{x qual:Δ}{st:aX}{f:ε}{fd:aG}{N ps:List Δ}{k:Nat}{sp:dG}(F:ez K x qual st f fd)(S:bD N ps (ah st))(hN:ps.length≤N.length)(len:∀ds G Q,sp ds G Q->ds.length=ps.length)(tb:aE)
  (oU:∀(cdv:δ) (A:bA) (outer:List gA) (s:ζ) (H:Hp) (E:XK),fD k (A.deeper (envOfC qual (ah st) s.heap.objs.size f cdv)) ->
   uc (qt vD P w K mg base N qual (ah st) f cdv A outer s H E).yX (jh st) tb)
  (Hs:∀ds G Q,sp ds G Q->tb (aN Q) (bh N ds) G):ck P w K mg base (k+1) f fd ps sp:=Ry F S hN len tb (fun cdv A outer s H E hr=>(oU cdv A outer s H E hr).of) Hs
theorem Fz{P:af}{w:ar}{K:ι}{mg:Δ->Option δ}{base:ai}{f:ε}{fd:aG}{ps:List Δ}{k:Nat}{sp:dG}(h:∀ds G Q,¬sp ds G Q):ck P w K mg base k f fd ps sp:=
 ⟨fun vs H Q E q=>by obtain⟨ds,G,Q3,_,_,z,_⟩:=q;exact absurd z (h _ _ _),fun A outer s H args us vs Q E _ _ _ _ q=>by obtain⟨ds,G,Q3,_,_,z,_⟩:=q;exact absurd z (h _ _ _)⟩
end L3
namespace My
open PySem L2 L3
def Known(G:Gp):D->Prop
 |.obj a=>∃o,G a=some o/\o.plain
 |_=>True
def Km:D->Bool
 |.int _=>true
 |_=>false
theorem aZ{Q:V3}{d:D}{G:Gp}(h:Q d G):(aN Q).rt d G:=⟨G,Sub.refl G,h⟩
theorem lR{Q:V3}{d:D}{G G':Gp}(s:Sub G G')(h:Q d G):(aN Q).rt d G':=⟨G,s,h⟩
theorem dm{i:Int}(h1:-(10^80)<i)(h2:i<10^80):iC i:=by
 have:i.natAbs<10^80:=by lia
 exact jM this (by decide)
theorem Sub.wd{G G':Gp}{a:ε}{o:GO}(s:Sub G G')(h:G a=none):Sub G (dA G' a o):=fun b u e=>by
 rw[dE (fun z=>by rw[z,h] at e;cases e)];exact s b u e
def iV:dG:=fun ds G Q=>match ds with
 |[d]=>Known G d/\Q (.bl (Km d)) G
 |_=>False
def pg:aE:=cn (tW (oZ "int" (υ 0)) (Be (oZ "bool" (υ 0))))
theorem EV{nm:Δ}:∀ds G Q,iV ds G Q->pg (aN Q) (bh [nm] ds) G:=by
 intro ds G Q h;rcases ds with _|⟨d,_|⟨d2,ds⟩⟩
 ·exact h.elim
 ·cases d with
  |int i=>exact⟨fun _=>aZ h.2,nofun⟩
  |bl b=>exact⟨fun _=>aZ h.2,nofun⟩
  |aq=>exact⟨nofun,fun _=>aZ h.2⟩
  |str _=>exact⟨nofun,fun _=>aZ h.2⟩
  |tup _=>exact⟨nofun,fun _=>aZ h.2⟩
  |fz _=>exact⟨nofun,fun _=>aZ h.2⟩
  |dc _=>exact⟨nofun,fun _=>aZ h.2⟩
  |obj a=>
   obtain⟨o1,h1,hp⟩:∃o,G a=some o/\o.plain:=h.1;show match iy "int" G (.obj a) with
    |some b=>_
    |none=>_
   cases hG:G a with
   |none=>rw[h1] at hG;cases hG
   |some o=>
    cases o with
    |lst _=>simp only[iy,hG];exact⟨nofun,fun _=>aZ h.2⟩
    |md=>simp only[iy,hG];exact⟨nofun,fun _=>aZ h.2⟩
    |gO=>simp only[iy,hG];exact⟨nofun,fun _=>aZ h.2⟩
    |gen R=>
     rw[h1] at hG;cases hG;exact hp.elim
 ·exact h.elim
abbrev nN:=iV
abbrev Ku:=pg
abbrev K7:=@EV "found"
def nQ:dG:=fun ds G Q=>∃(ns:List Int) (k:Nat),ds=[.fz (ns.map .int),.int k]/\∀i:Int,Q (.int i) G
def Cn:aE:=bJ (jb (bU (aR qS (υ 1) (dg g0 (ο (υ 0) (aa))))) (cn (aR eB (υ 0) (υ 1))) (fL)) (cn (eC (.int 0)))
theorem Ld:∀ds G Q,nQ ds G Q->Cn (aN Q) (bh ["script","k"] ds) G:=by
 rintro ds G Q ⟨ns,k,rfl,q⟩;refine⟨fun h=>?_,fun h=>aZ (q 0)⟩;have h':(k:Int)<((ns.map D.int).length:Nat):=of_decide_eq_true h;rw[μ] at h';have hk:k<ns.length:=by lia
 exact⟨.int ns[k],rz (by rw[ag,aU hk];rfl),aZ (q _)⟩
def nL:dG:=fun ds G Q=>∃n:Int,ds=[.int n]/\0≤n/\∀r:Int,0≤r->r<2147483629->Q (.int r) G
def Cb:aE:=bJ (cx (aR g4 (aR eK (υ 0) (eC (.int 7919))) (eC (.int 2147483647))) (hName 0)) (cn (aR g4 (aR eK (aR eK (aR lB (υ 0) (υ 0)) (aR lB (eC (.int 48271)) (υ 0))) (eC (.int 12345))) (eC (.int 2147483629))))
theorem K4:∀ds G Q,nL ds G Q->Cb (aN Q) (bh ["seed"] ds) G:=by
 rintro ds G Q ⟨n,rfl,hn,q⟩;have h1:=eZ (n+7919) (show (2147483647:Int)≠0 by decide);have h2:=dR (n+7919) (show (0:Int)<2147483647 by decide);have hb:iC ((n+7919)%2147483647):=dm (by lia) (by lia);refine⟨(by decide:(0:Int)<2147483647),⟨hb,hb⟩,⟨dm (by decide) (by decide),hb⟩,(by decide:(0:Int)<2147483629),aZ (q _ ?_ ?_)⟩
 ·exact eZ _ (by decide)
 ·exact dR _ (by decide)
def jx:dG:=fun ds G Q=>∃(p:ε) (m i j k:Int),ds=[.obj p,.int m]/\G p=some (.lst [.int i,.int j,.int k])/\rB i j k/\0<m/\iC m ∧
 ∀r i' j' k':Int,rB i' j' k'->0≤r->r<m->Q (.int r) (dA G p (.lst [.int i',.int j',.int k']))
def eO:dG:=fun ds G Q=>∃(p:ε) (m:Int),ds=[.obj p,.int m]/\G p=some .md/\(0<m/\iC m)/\∀r:Int,0≤r->r<m->Q (.int r) G
def Cc:aE:=bJ (jb (bU (aR (fA false) (aR eB (υ 0) (eC (.int 1))) (eC (.int 1)))) (bJ (cx (aR g4 (aR eB (υ 0) (eC (.int 0))) (υ 1)) (hName 2)) (bJ (cx (aR tH (aR eB (υ 0) (eC (.int 0))) (υ 1)) (hSub (υ 0) (eC (.int 0)))) (cn (υ 2)))) (fL)) (bJ (cx (aV nL (ο (aR eK (aV nL (ο (aR eB (υ 0) (eC (.int 2))) (aa))) (eC (.int 7))) (aa))) (hSub (υ 0) (eC (.int 2)))) (cn (aR g4 (aR tH (aR eB (υ 0) (eC (.int 2))) (eC (.int 64))) (υ 1))))
theorem w4:∀ds G Q,jx ds G Q->Cc (aN Q) (bh ["pen","many","found"] ds) G:=by
 rintro ds G Q ⟨p,m,i,j,k,rfl,hp,ok,hm,hb,q⟩;obtain⟨o1,o2,o3⟩:=ok;refine⟨_,_,hp,rfl,_,_,rfl,rfl,aK _,fun _=>?_,fun _=>?_⟩
 ·refine⟨_,_,hp,rfl,hm,_,_,hp,rfl,⟨hm,hb⟩,_,0,hp,rfl,?_⟩;refine aZ (q (i%m) (i / m) j k ⟨?_,o2,o3⟩ ?_ ?_)
  ·exact nh o1 (by lia)
  ·exact eZ _ (by lia)
  ·exact dR _ hm
 ·refine⟨_,_,hp,rfl,_,rfl,o2,fun r h1 h2=>⟨_,rfl,(by lia),fun r' h3 h4=>?_⟩⟩;refine⟨_,2,hp,rfl,_,_,cT,rfl,⟨by decide,dm (by decide) (by decide)⟩,hm,?_⟩;refine aZ (q _ i j r' ⟨o1,h3,by lia⟩ ?_ ?_)
  ·exact eZ _ (by lia)
  ·exact dR _ hm
theorem FQ{K:ι}:∀vs H Q E,lG K eO vs H Q E->lG K jx vs H Q E:=by
 rintro vs H Q E ⟨ds,G,Q3,hd,RG,⟨p,m,rfl,hp,hm,q⟩,k⟩;obtain⟨i,j,l,e,ok⟩:=RG p _ hp;refine⟨_,dA G p (.lst [.int i,.int j,.int l]),fun d G'=>∃i' j' l',rB i' j' l'/\G'=dA G p (.lst [.int i',.int j',.int l'])/\Q3 d G,hd,?_,⟨p,m,i,j,l,rfl,cT,ok,hm.1,hm.2,fun r i' j' k' ok' h1 h2=>⟨i',j',k',ok',B2,q r h1 h2⟩⟩,?_⟩
 ·intro a o ea;by_cases z:a=p
  ·subst z;rw[cT] at ea;cases ea;exact⟨_,e,.cons (by simp[Hv]) (.cons (by simp[Hv]) (.cons (by simp[Hv]) .nil))⟩
  ·rw[dE z] at ea;exact RG a o ea
 ·rintro v H' d G' hv S R ⟨i',j',l',ok',rfl,h3⟩;refine k v H' d G hv ⟨fun a o ea n=>S.fr a o ea ?_,S.mU,fun a n z=>absurd n z⟩ (fun a o ea=>?_) h3
  ·have:a≠p:=fun z=>by rw[z,hp] at n;cases n
   rw[dE this];exact n
  ·by_cases z:a=p
   ·subst z;rw[hp] at ea;cases ea;obtain⟨ws,e1,e2⟩:=R a _ cT;have:=gU e2 (ns:=[i',j',l']) rfl;subst this;exact⟨i',j',l',e1,ok'⟩
   ·exact R a o (by rw[dE z];exact ea)
def iw:dG:=fun ds G Q=>∃c:Int,ds=[.int c]/\∀p i j k G',dw G p (.lst [.int i,.int j,.int k]) G'->rB i j k->Q (.obj p) G'
def tm:dG:=fun ds G Q=>∃c:Int,ds=[.int c]/\∀p G',dw G p .md G'->Q (.obj p) G'
def Ci:aE:=bJ (cx (dg tF (ο (υ 0) (ο (aR oH (eC (.int 0)) (υ 0)) (aa)))) (hName 1)) (cn (j3 (ο (υ 1) (ο (dg vP (ο (aR Ln (υ 1) (aR vQ (eC (.int 10)) (eC (.int 18)))) (aa))) (ο (aR g4 (υ 1) (eC (.int 1000003))) (aa))))))
theorem ux:∀ds G Q,iw ds G Q->Ci (aN Q) (bh ["cell","left"] ds) G:=by
 rintro ds G Q ⟨c,rfl,q⟩;refine⟨⟨by decide,by decide,by decide⟩,(by decide:(0:Int)<1000003),fun p G' hp=>aZ (q p _ _ _ _ hp ⟨?_,?_,?_⟩)⟩
 ·split<;>lia
 ·exact eZ _ (by decide)
 ·exact Int.lt_trans (dR _ (by decide)) (by decide)
theorem Jh{K:ι}:∀vs H Q E,lG K tm vs H Q E->lG K iw vs H Q E:=by
 rintro vs H Q E ⟨ds,G,Q3,hd,RG,⟨c,rfl,q⟩,k⟩;refine⟨_,G,fun d G'=>∃p i j l,rB i j l/\dw G p (.lst [.int i,.int j,.int l]) G'/\d=.obj p,hd,RG,⟨c,rfl,fun p i j l G' hp ok=>⟨p,i,j,l,ok,hp,rfl⟩⟩,?_⟩;rintro v H' d G' hv S R ⟨p,i,j,l,ok,hp,rfl⟩;refine k v H' _ (dA G' p .md) hv ⟨S.fr,S.mU,fun a n z=>S.new a n ?_⟩ (fun a o ea=>?_) (q p _ ⟨hp.aq,Sub.wd hp.sub hp.aq,cT⟩)
 ·by_cases y:a=p
  ·rw[y,hp.at_];simp
  ·rw[dE y] at z;exact z
 ·by_cases z:a=p
  ·subst z;rw[cT] at ea;cases ea;obtain⟨ws,e1,e2⟩:=R a _ hp.at_;have:=gU e2 (ns:=[i,j,l]) rfl;subst this;exact⟨i,j,l,e1,ok⟩
  ·rw[dE z] at ea;exact R a o ea
abbrev ak:=Int×Int
def cD(c:ak):D:=.tup [.int c.1,.int c.2]
def bW(cs:List ak):D:=.tup (cs.map cD)
def Valid(c:ak):Prop:=0<c.1/\0≤c.2/\c.2<c.1
def rg(n:Int)(c:ak):Bool:=n%c.1==c.2
theorem cY{n:Nat}(h:n≤1000):n≤aj:=az h (by decide)
theorem fw{α:Type}{guard:Gp->Prop}{g:gs}{tc:cu}{te:aD}{Q:List D->Gp->Prop}(I:S3->Prop)(h:α->D)(pr:α->Bool)(f:α->D){G:Gp}(hg:guard G):∀(xs:List α) (acc:List D) (τ:S3),I τ ->
  (∀x∈xs,∀τ (K1:S3->Gp->Prop) (K2:S3->D->Gp->Prop),I τ->(pr x=true->∀τ2,I τ2->K2 τ2 (f x) G)->(pr x=false->∀τ2,I τ2->K1 τ2 G)->g (h x) τ G fun τ2 G2=>tc τ2 G2 fun b G3=>Br b (te τ2 G3 fun v G4=>K2 τ2 v G4) (K1 τ2 G3)) ->
  Q (acc++(xs.filter pr).map f) G->fV guard g tc te Q (xs.map h) acc τ G
 |[],acc,τ,_,_,q=>⟨hg,by simpa using q⟩
 |d::ds,acc,τ,hI,hs,q=>by
  refine⟨hg,hs d χ τ (fun τ2 G3=>fV guard g tc te Q (ds.map h) acc τ2 G3) (fun τ2 v G4=>fV guard g tc te Q (ds.map h) (acc++[v]) τ2 G4) hI (fun hp τ2 h2=>?_) fun hp τ2 h2=>?_⟩
  ·refine fw I h pr f hg ds _ τ2 h2 (fun d' hd=>hs d' (ω _ hd)) ?_;rw[List.filter_cons_of_pos hp] at q;simpa using q
  ·refine fw I h pr f hg ds _ τ2 h2 (fun d' hd=>hs d' (ω _ hd)) ?_;rw[List.filter_cons_of_neg (by rw[hp];simp)] at q;exact q
end My
namespace My
open PySem L2 L3
def cX(c:ak):Dat.D:=.tup [.int c.1,.int c.2]
theorem uX:∀cs:List ak,fO (cs.map cD)=some (cs.map cX)
 |[]=>rfl
 |c::cs=>by
  show (match jv (cD c) with
   |some x=>match fO (cs.map cD) with
    |some xs=>some (x::xs)
    |none=>none
   | none=>none)=_
  rw[uX cs];rfl
theorem zr:∀cs:List ak,Dat.gr (cs.map cX)≤1
 |[]=>aK _
 |c::cs=>by
  show max (cX c).iL (Dat.gr (cs.map cX))≤1;have h1:(cX c).iL=1:=rfl;have:=zr cs;lia
theorem Pb(a b:ak):(cX a).ff (cX b)=decide (a=b):=by
 obtain⟨s,r⟩:=a;obtain⟨s',r'⟩:=b;show ((s==s')&&((r==r')&&true))=decide ((s,r)=(s',r'));rw[nj];simp
theorem zp:∀as bs:List ak,Dat.i7 (as.map cX) (bs.map cX)=decide (as=bs)
 |[],[]=>rfl
 |[],b::bs=>rfl
 |a::as,[]=>rfl
 |a::as,b::bs=>by
  show ((cX a).ff (cX b)&&Dat.i7 (as.map cX) (bs.map cX))=_;rw[Pb,zp as bs,nj];simp
end My
namespace My
open PySem L2 L3
def sv{α:Type}(xs:List α)(lo hi:Option Int):List α:=(xs.drop (HT.bQ xs.length 0 lo)).take (HT.bQ xs.length xs.length hi-HT.bQ xs.length 0 lo)
theorem xQ{α:Type}(f:α->D)(xs:List α)(lo hi:Option Int):kP (xs.map f) lo hi=(sv xs lo hi).map f:=by
 unfold kP sv;rw[μ,i0,i3]
theorem Kc{α:Type}(xs:List α)(k:Nat):sv xs none (some (k:Int))=xs.take k:=by
 unfold sv;rw[HT.ES,HT.uw];simp only[List.drop_zero,Nat.sub_zero];by_cases h:k≤xs.length
 ·rw[Nat.min_eq_left h]
 ·rw[Nat.min_eq_right (by lia),mF,iS (by lia)]
def dZ(M:Int)(cs:List ak):Prop:=∀c∈cs,Valid c/\c.1≤M
theorem Ar{s r k i:Int}(h:Valid (s,r))(h1:0≤i)(h2:i<k):Valid (s*k,r+s*i):=by
 obtain⟨a,b,c⟩:=h;simp only at a b c;have q:=gh (show i≤k-1 by lia) (show 0≤s by lia);rw[Int.mul_sub,Int.mul_one] at q;have q2:=Int.mul_nonneg (show 0≤s by lia) h1;refine⟨?_,?_,?_⟩
 ·exact Int.mul_pos a (by lia)
 ·show 0≤r+s*i;lia
 ·show r+s*i<s*k;lia
theorem yf{α:Type}(f:α->D){xs:List α}{r:Int}(h1:0≤r)(h2:r<(xs.length:Nat)):∃x,xs[r.toNat]?=some x/\x∈xs/\iM (xs.map f) r=some (f x):=by
 have hk:r.toNat<xs.length:=by lia
 refine⟨xs[r.toNat],aU hk,mH hk,?_⟩;have e:r=((r.toNat:Nat):Int):=by lia
 have q:iM (xs.map f) ((r.toNat:Nat):Int)=some (f xs[r.toNat]):=rz (by rw[ag];simp[hk]);rw[←e] at q;exact q
theorem zx{ns:List Int}{r:Int}(h1:0≤r)(h2:r<(ns.length:Nat)):∃n,n∈ns/\iM (ns.map D.int) r=some (.int n):=by
 obtain⟨x,_,h3,h4⟩:=yf D.int h1 h2;exact⟨x,h3,h4⟩
end My
namespace My
open PySem L2 L3
def dO(c:ak):List Int:=[c.1,c.2]
theorem j0(cs:List ak):(cs.map dO).map tupI=cs.map cD:=by
 rw[bp];rfl
theorem xh{cs:List ak}:∀{mss:List (List Int)},(∀ns∈mss,ns∈cs.map dO)->∃cs':List ak,mss=cs'.map dO/\∀c∈cs',c∈cs
 |[],_=>⟨[],rfl,fun c hc=>nomatch hc⟩
 |ns::mss,h=>by
  obtain⟨cs',e,hc⟩:=xh (mss:=mss) fun n hn=>h n (ω _ hn);obtain⟨c,h1,rfl⟩:=Φ.mp (h ns χ);refine⟨c::cs',by simp[e],fun d hd=>?_⟩;rcases aM.mp hd with rfl|hd
  ·exact h1
  ·exact hc d hd
def Ec(a b:ak):Prop:=a.1<b.1∨(a.1=b.1/\a.2<b.2)
def j6(cs:List ak):Prop:=cs.Pairwise Ec
theorem uq{a b:ak}(h:dO a=dO b):a=b:=by
 obtain⟨s,r⟩:=a;obtain⟨s',r'⟩:=b;simp[dO] at h;simp[h]
theorem sg{a b:ak}(h:b6.lx (dO b) (dO a)=false)(hne:a≠b):Ec a b:=by
 obtain⟨s,r⟩:=a;obtain⟨s',r'⟩:=b;unfold dO at h;simp only[b6.lx] at h;by_cases e:s'=s
 ·rw[if_pos e] at h;by_cases e2:r'=r
  ·exact absurd (by rw[e,e2]) hne
  ·rw[if_neg e2] at h;have:=of_decide_eq_false h;exact .inr ⟨e.symm,by simp only;lia⟩
 ·rw[if_neg e] at h;have:=of_decide_eq_false h;exact .inl (by simp only;lia)
theorem yJ{cs:List ak}(h:gF (cs.map dO))(nd:(cs.map dO).Nodup):j6 cs:=by
 have h1:=cU.mp h;have h2:=cU.mp nd;exact (h1.and h2).imp fun {a b} q=>sg q.1 fun z=>q.2 (by rw[z])
theorem j6.take{cs:List ak}(h:j6 cs)(n:Nat):j6 (cs.take n):=List.Pairwise.sublist (ls n cs) h
theorem zU{cs:List ak}{mss:List (List Int)}(hmem:∀ns,ns∈mss↔ns∈cs.map dO)(nd:mss.Nodup)(hr:gF mss)(hl:mss.length≤(cs.map dO).length):
  ∃cs':List ak,mss=cs'.map dO/\(∀c,c∈cs'↔c∈cs)/\j6 cs'/\cs'.length≤cs.length:=by
 obtain⟨cs',rfl,hc⟩:=xh fun ns hn=>(hmem ns).mp hn;refine⟨cs',rfl,fun c=>⟨fun h=>hc c h,fun h=>?_⟩,yJ hr nd,by simpa using hl⟩;obtain⟨c',h1,h2⟩:=Φ.mp ((hmem (dO c)).mpr (Φ.mpr ⟨c,h,rfl⟩));rw[←uq h2];exact h1
theorem sJ{cs:List ak}:∀ns∈cs.map dO,ns≠[]:=fun ns hn=>by
 obtain⟨c,_,rfl⟩:=Φ.mp hn;simp[dO]
theorem uP{G:Gp}{a:ε}{cs:List ak}(e:G a=some (.lst (cs.map cD))):G a=some (.lst ((cs.map dO).map tupI)):=by rw[j0];exact e
theorem CA{r:Int}{n:Nat}(h1:0≤r)(h2:r<(n:Int)):seqIndex? r n=some r.toNat:=by
 unfold seqIndex?;simp only[if_neg (show ¬r<0 by lia)];rw[if_pos (by simp;lia)]
theorem mm{α β:Type}(f:α->β):∀(xs:List α) (i:Nat),(xs.map f).eraseIdx i=(xs.eraseIdx i).map f
 |[],_=>rfl
 |_::_,0=>rfl
 |x::xs,i+1=>by simp[mm f xs i]
end My
namespace My
open PySem L2 L3
theorem jj{guard:Gp->Prop}{g:gs}{tc:cu}{te:aD}{Q:List D->Gp->Prop}(I:List D->List D->S3->Gp->Prop)(hg:∀ds acc τ G,I ds acc τ G->guard G)
  (step:∀d ds acc τ G (K1:S3->Gp->Prop) (K2:S3->D->Gp->Prop),I (d::ds) acc τ G->(∀τ' v G',I ds (acc++[v]) τ' G'->K2 τ' v G')->(∀τ' G',I ds acc τ' G'->K1 τ' G')->g d τ G fun τ2 G2=>tc τ2 G2 fun b G3=>Br b (te τ2 G3 fun v G4=>K2 τ2 v G4) (K1 τ2 G3))
  (ie:∀acc τ G,I [] acc τ G->Q acc G):∀ds acc τ G,I ds acc τ G->fV guard g tc te Q ds acc τ G
 |[],acc,τ,G,h=>⟨hg _ _ _ _ h,ie _ _ _ h⟩
 |d::ds,acc,τ,G,h=>⟨hg _ _ _ _ h,step d ds acc τ G (fun τ2 G3=>fV guard g tc te Q ds acc τ2 G3) (fun τ2 v G4=>fV guard g tc te Q ds (acc++[v]) τ2 G4) h
   (fun τ' v G' q=>jj I hg step ie ds _ τ' G' q) fun τ' G' q=>jj I hg step ie ds _ τ' G' q⟩
def qO:dG:=fun ds G Q=>∃(p:ε) (m:Int),ds=[.obj p,.int m]/\G p=some .md/\(0<m/\m≤1000)/\∀c:ak,Valid c->c.1≤m->Q (cD c) G
def Ia:aE:=cn (i8 (ο (υ 2) (ο (aV eO (ο (υ 0) (ο (υ 2) (aa)))) (aa))))
def Gv:aE:=bJ (cx (aR eK (eC (.int 1)) (aV eO (ο (υ 0) (ο (υ 1) (aa))))) (hName 2)) Ia
theorem Oa:∀ds G Q,qO ds G Q->Gv (aN Q) (bh ["pen","most","step"] ds) G:=by
 rintro ds G Q ⟨p,m,rfl,hp,hm,q⟩;refine⟨p,m,rfl,hp,⟨hm.1,dm (by lia) (by lia)⟩,fun r h1 h2=>?_⟩;refine⟨p,_,rfl,hp,⟨by lia,dm (by lia) (by lia)⟩,fun r2 h3 h4=>aZ (q (1+r,r2) ⟨?_,h3,h4⟩ ?_)⟩
 ·show 0<1+r;lia
 ·show 1+r≤m;lia
theorem rM{cs:List ak}{mss:List (List Int)}(hp:mss.Perm (cs.map dO)):∃cs':List ak,mss=cs'.map dO/\(∀c∈cs',c∈cs)/\cs'.length=cs.length:=by
 obtain⟨cs',rfl,hc⟩:=xh fun ns hn=>hp.mem_iff.mp hn;exact⟨cs',rfl,hc,by simpa using hp.length_eq⟩
def nR:dG:=fun ds G Q=>∃(p:ε) (l m:Int),ds=[.obj p,.int l,.int m]/\G p=some .md/\(l≤m/\1≤m/\m≤50)/\∀q cs G',dZ 1000 cs->1≤cs.length->(cs.length:Int)≤m->dw G q (.lst (cs.map cD)) G'->Q (.obj q) G'
def EE:aE:=cx (aR eK (υ 3) (fi ["part"] [5,4,6] (lH (ο (υ 4) (aa))) (hName 0) (cV) (i8 (ο (aR lB (υ 1) (υ 2)) (ο (aR eK (υ 3) (aR lB (υ 1) (υ 0))) (aa)))))) (hName 3)
def EF:aE:=bJ (jb (bU (aR uz (aR lB (υ 5) (υ 4)) (eC (.int 1000)))) (cn (dg i4 (ο (aR eK (υ 3) (j3 (ο (i8 (ο (υ 5) (ο (υ 6) (aa)))) (aa)))) (aa)))) (fL)) EE
def wo:aE:=bJ (cx (eM w8 (υ 3) (ο (aV eO (ο (υ 0) (ο (dg g0 (ο (υ 3) (aa))) (aa)))) (aa))) (oV 2 (gj (hName 5) (gj (hName 6) (oW))))) EF
def EG:aE:=bJ (cx (dg Ad (ο (υ 4) (ο (dg tF (ο (eC (.int 2)) (ο (aR eK (aR oH (υ 2) (dg g0 (ο (υ 3) (aa)))) (eC (.int 1))) (aa)))) (aa)))) (hName 4)) wo
def wq:aE:=bJ (cx (xO (ο (eC (.int 2)) (ο (eC (.int 2)) (ο (eC (.int 3)) (ο (eC (.int 2)) (ο (eC (.int 3)) (ο (eC (.int 5)) (aa))))))) (aV eO (ο (υ 0) (ο (eC (.int 6)) (aa))))) (hName 4)) EG
def r0:aE:=cn (dg i4 (ο (υ 3) (aa)))
def EH:aE:=bJ (p7 (pz (bU (aR qS (dg g0 (ο (υ 3) (aa))) (υ 1))) (Bg (bU (aR uz (aV eO (ο (υ 0) (ο (eC (.int 4)) (aa)))) (eC (.int 0)))) (bU (aR qS (dg g0 (ο (υ 3) (aa))) (υ 2))))) (wq)) r0
def Cp:aE:=bJ (cx (j3 (ο (i8 (ο (eC (.int 1)) (ο (eC (.int 0)) (aa)))) (aa))) (hName 3)) EH
theorem wrote{G G1:Gp}{q:ε}{o o':GO}(n:dw G q o G1):dw G q o' (dA G1 q o'):=⟨n.aq,Sub.wd n.sub n.aq,cT⟩
theorem Di{G G1:Gp}{Q:V3}{p:ε}{l m:Int}{q1:ε}{cs:List ak}{x4 x5 x6:Option D}(hm:m≤50)(q:∀q cs G',dZ 1000 cs->1≤cs.length->(cs.length:Int)≤m->dw G q (.lst (cs.map cD)) G'->Q (.obj q) G')
  (n1:dw G q1 (.lst (cs.map cD)) G1) (ok:dZ 1000 cs) (l1:1≤cs.length) (l2:(cs.length:Int)≤m):r0 (aN Q) [some (.obj p),some (.int l),some (.int m),some (.obj q1),x4,x5,x6] G1:=by
 refine⟨_,uP n1.at_,by rw[μ];lia,sJ,fun p2 mss G2 hp2 hpm hr=>?_⟩;obtain⟨cs',rfl,hmem,hlen⟩:=rM hpm;rw[j0] at hp2;exact aZ (q p2 cs' _ (fun c hc=>ok c (hmem c hc)) (by lia) (by lia) ⟨n1.sub.of_none hp2.aq,n1.sub.trans hp2.sub,hp2.at_⟩)
def o8(G:Gp)(p:ε)(l m:Int)(k:Nat):S3->Gp->Prop:=fun τ' G'=>∃m',m' < k/\∃q cs x4 x5 x6,τ'=[some (.obj p),some (.int l),some (.int m),some (.obj q),x4,x5,x6]/\dw G q (.lst (cs.map cD)) G'/\dZ 1000 cs/\1≤cs.length/\(cs.length:Int)≤m/\(m':Int)+cs.length=m
theorem Aq{G G1:Gp}{Q:V3}{D3:jH}{p:ε}{l m:Int}{q1:ε}{cs:List ak}{x5 x6:Option D}{k:Nat}{k1:Int}(hp:G p=some .md)(hm:m≤50)(q:∀q cs G',dZ 1000 cs->1≤cs.length->(cs.length:Int)≤m->dw G q (.lst (cs.map cD)) G'->Q (.obj q) G')
  (n1:dw G q1 (.lst (cs.map cD)) G1) (ok:dZ 1000 cs) (l1:1≤cs.length) (l2:(cs.length:Int)<m) (hk:(k:Int)+cs.length=m) (h1:2≤k1) (h2:k1≤5) (h3:(cs.length:Int)-1+k1≤m)
  (Q9:D3.rt=(aN Q).rt) (hnx:D3.nx=o8 G p l m k):wo D3 [some (.obj p),some (.int l),some (.int m),some (.obj q1),some (.int k1),x5,x6] G1:=by
 have hp1:=n1.sub p _ hp;have e1:=n1.at_;refine⟨⟨q1,_,rfl,e1⟩,_,e1,p,_,rfl,hp1,⟨by rw[μ];lia,dm (by rw[μ];lia) (by rw[μ];lia)⟩,fun r a b=>?_⟩;rw[μ] at b;obtain⟨c,ec,hc,_⟩:=yf cD a b;obtain⟨s,r'⟩:=c;refine⟨_,r.toNat,cD (s,r'),e1,⟨by lia,by lia⟩,by rw[μ];exact CA a b,by rw[ag,ec];rfl,rfl,?_⟩;rw[mm];have n2:dw G q1 (.lst ((cs.eraseIdx r.toNat).map cD)) (dA G1 q1 (.lst ((cs.eraseIdx r.toNat).map cD))):=wrote n1;generalize dA G1 q1 (.lst ((cs.eraseIdx r.toNat).map cD))=G2 at n2;have hv:=(ok _ hc).1;have hs:=(ok _ hc).2;simp only at hs;have hv1:0<s:=hv.1;have hlen:(cs.eraseIdx r.toNat).length=cs.length-1:=List.length_eraseIdx_of_lt (by lia);have ok2:dZ 1000 (cs.eraseIdx r.toNat):=fun c hc=>ok c (mG hc);refine⟨⟨dm (by lia) (by lia),dm (by lia) (by lia)⟩,fun hg=>?_,fun hg=>?_⟩
 ·intro q3 G3 n3;refine⟨_,_,n3.sub _ _ n2.at_,n3.at_,?_,fun q4 G4 n4=>?_⟩
  ·rw[μ,hlen];exact cY (by simp;lia)
  have e4:G4 q4=some (.lst (((cs.eraseIdx r.toNat)++[(s,r')]).map cD)):=by
   rw[n4.at_,bw];rfl
  refine⟨_,uP e4,by rw[μ,av,hlen];simp;lia,sJ,fun p2 mss G5 hp2 hpm hr=>?_⟩;obtain⟨cs',rfl,hmem,hl'⟩:=rM hpm;rw[j0] at hp2;rw[Q9];rw[av,hlen,dk] at hl';have s4:=(n2.sub.trans n3.sub).trans n4.sub;refine aZ (q p2 cs' _ (fun c hc'=>?_) (by lia) (by lia) ⟨s4.of_none hp2.aq,s4.trans hp2.sub,hp2.at_⟩);rcases bC.mp (hmem c hc') with z|z
  ·exact ok2 c z
  ·have:c=(s,r'):=by simpa using z
   rw[this];exact ok _ hc
 ·have hg':¬(1000<s*k1):=of_decide_eq_false hg;refine⟨⟨by lia,by lia⟩,?_,?_⟩
  ·show (gb 0 k1.toNat).length≤aj;rw[fZ];exact cY (by lia)
  refine fw (fun τ=>∃x,τ=[x,some (.int s),some (.int k1),some (.int r')]) (fun i:Nat=>D.int (0+(i:Int))) (fun _=>true) (fun i:Nat=>cD (s*k1,r'+s*(0+(i:Int)))) trivial (aB k1.toNat) [] _ ⟨none,rfl⟩ ?_ ?_
  ·rintro i hi τ K1 K2 ⟨x,rfl⟩ g1 g2;have hi':(i:Int)<k1:=by have:=bO.mp hi;lia
   have b1:iC s:=dm (by lia) (by lia);refine⟨fun _=>⟨⟨b1,dm (by lia) (by lia)⟩,⟨b1,dm (by lia) (by lia)⟩,?_⟩,nofun⟩;exact g1 rfl _ ⟨_,rfl⟩
  ·intro q3 G3 n3;rw[dj,pK.mpr (fun _ _=>rfl)] at n3;have em:((aB k1.toNat).map fun i:Nat=>cD (s*k1,r'+s*(0+(i:Int))))=((aB k1.toNat).map fun i:Nat=>((s*k1,r'+s*(0+(i:Int))):ak)).map cD:=by rw[bp];rfl
   rw[em] at n3;refine⟨_,_,n3.sub _ _ n2.at_,n3.at_,?_,fun q4 G4 n4=>?_⟩
   ·rw[μ,μ,μ,fg,hlen];exact cY (by lia)
   rw[←bw] at n4;show D3.nx _ G4;rw[hnx];have s3:=n2.sub.trans n3.sub;have hl':((cs.eraseIdx r.toNat)++((aB k1.toNat).map fun i:Nat=>((s*k1,r'+s*(0+(i:Int))):ak))).length=cs.length-1+k1.toNat:=by
    rw[av,hlen,μ,fg]
   refine⟨(m-((cs.length:Int)-1+k1)).toNat,by lia,q4,_,_,_,_,rfl,⟨s3.of_none n4.aq,s3.trans n4.sub,n4.at_⟩,fun c hc'=>?_,by lia,by lia,by lia⟩;rcases bC.mp hc' with z|z
   ·exact ok2 c z
   ·obtain⟨i,hi,rfl⟩:=Φ.mp z;have:=bO.mp hi;exact⟨Ar hv (by lia) (by lia),by show s*k1≤1000;lia⟩
theorem Lf:∀ds G Q,nR ds G Q->Cp (aN Q) (bh ["pen","least","most","clocks","k","step","rest"] ds) G:=by
 rintro ds G Q ⟨p,l,m,rfl,hp,hm,q⟩;intro q0 G0 n0;refine⟨fun k τ G'=>∃q cs x4 x5 x6,τ=[some (.obj p),some (.int l),some (.int m),some (.obj q),x4,x5,x6]/\dw G q (.lst (cs.map cD)) G'/\dZ 1000 cs/\1≤cs.length/\(cs.length:Int)≤m/\(k:Int)+cs.length=m,⟨(m-1).toNat,q0,[(1,0)],_,_,_,rfl,n0,by intro c hc;simp at hc;subst hc;exact⟨⟨by decide,by decide,by decide⟩,by decide⟩,by decide,by simp;lia,by simp;lia⟩,?_⟩;rintro k τ G1 ⟨q1,cs,x4,x5,x6,rfl,n1,ok,l1,l2,hk⟩;have hp1:=n1.sub p _ hp;have e1:=n1.at_;have stop:=Di (p:=p) (l:=l) (x4:=x4) (x5:=x5) (x6:=x6) (by lia) q n1 ok l1 l2;have go:(cs.length:Int)<m->wq { aN Q with nx:=o8 G p l m k,ct:=o8 G p l m k,bk:=r0 (aN Q)} [some (.obj p),some (.int l),some (.int m),some (.obj q1),x4,x5,x6] G1:=by
  intro hlt;refine⟨p,6,rfl,hp1,⟨by decide,dm (by decide) (by decide)⟩,fun r h1 h2=>?_⟩;obtain⟨k0,hk0,ek⟩:=zx (ns:=[2,2,3,2,3,5]) h1 h2;refine⟨.int k0,ek,_,e1,?_⟩;have dI:2≤k0/\k0≤5:=by simp at hk0;lia
  refine Aq hp (by lia) q n1 ok l1 hlt hk ?_ ?_ ?_ rfl rfl
  ·rw[μ];split<;>split<;>lia
  ·rw[μ];split<;>split<;>lia
  ·rw[μ];split<;>split<;>lia
 refine⟨_,e1,fun h=>⟨fun _=>go ?_,nofun⟩,fun h=>⟨p,4,rfl,hp1,⟨by decide,dm (by decide) (by decide)⟩,fun r a b=>⟨fun h2=>⟨_,e1,fun h3=>go ?_,fun h3=>stop⟩,fun h2=>⟨nofun,fun _=>stop⟩⟩⟩⟩
 ·have h':((cs.map cD).length:Int)<l:=of_decide_eq_true h;rw[μ] at h';lia
 ·have h':((cs.map cD).length:Int)<m:=of_decide_eq_true h3;rw[μ] at h';lia
end My
namespace My
open PySem L2 L3
def td:dG:=fun ds G Q=>∃(p:ε) (m:Int),ds=[.obj p,.int m]/\G p=some .md/\(1≤m/\m≤50)/\∀cs,dZ 1000 cs->(cs.length:Int)≤m->j6 cs->Q (bW cs) G
def Ie:aE:=qQ (eM vc (υ 3) (ο (i8 (ο (υ 6) (ο (aV eO (ο (υ 0) (ο (υ 6) (aa)))) (aa)))) (aa)))
def Ig:aE:=bJ (cx (aR eB (υ 4) (aV eO (ο (υ 0) (ο (eC (.int 7)) (aa))))) (hName 6)) Ie
def Ih:aE:=jY (lH (ο (aV eO (ο (υ 0) (ο (aR eK (υ 1) (eC (.int 1))) (aa)))) (aa))) (hName 5) (Ig)
def Ii:aE:=bJ (cx (j3 (aa)) (hName 3)) Ih
def wj:aE:=jb (bU (aR (fA false) (υ 2) (eC (.int 4)))) (qQ (eM w8 (υ 3) (ο (aV eO (ο (υ 0) (ο (dg g0 (ο (υ 3) (aa))) (aa)))) (aa)))) (fL)
def Eo:aE:=bJ (jb (bU (aR (fA false) (υ 2) (eC (.int 3)))) (cx (aR eK (υ 3) (j3 (ο (aV qO (ο (υ 0) (ο (eC (.int 6)) (aa)))) (aa)))) (hName 3)) (fL)) wj
def rZ:aE:=cn (Hw (dg jc (ο (su (υ 3)) (aa))) (Au) (tN (υ 1)))
def Ij:aE:=bJ (jb (bU (aR (fA false) (υ 2) (eC (.int 0)))) (cx (fi ["turn"] [0] (lH (ο (aV eO (ο (υ 0) (ο (aR eK (υ 1) (eC (.int 1))) (aa)))) (aa))) (hName 0) (cV) (aV qO (ο (υ 1) (ο (eC (.int 12)) (aa))))) (hName 3)) (jb (bU (aR (fA false) (υ 2) (eC (.int 1)))) (bJ (cx (j3 (ο (eC (.int 2)) (ο (eC (.int 3)) (ο (eC (.int 4)) (ο (eC (.int 6)) (ο (eC (.int 8)) (ο (eC (.int 12)) (ο (eC (.int 24)) (aa))))))))) (hName 4)) Ii) (bJ (cx (aV nR (ο (υ 0) (ο (eC (.int 1)) (ο (dg tF (ο (eC (.int 1)) (ο (aR oH (υ 1) (eC (.int 1))) (aa)))) (aa))))) (hName 3)) Eo))) rZ
def Gx:aE:=bJ (cx (aV eO (ο (υ 0) (ο (eC (.int 5)) (aa)))) (hName 2)) Ij
theorem jE{G G1:Gp}{Q:V3}{p:ε}{m:Int}{q1:ε}{cs:List ak}{x2 x4 x5 x6:Option D}(hm:1≤m/\m≤50)(q:∀cs,dZ 1000 cs->(cs.length:Int)≤m->j6 cs->Q (bW cs) G)
  (n1:dw G q1 (.lst (cs.map cD)) G1) (ok:dZ 1000 cs) (hl:cs.length≤60):rZ (aN Q) [some (.obj p),some (.int m),x2,some (.obj q1),x4,x5,x6] G1:=by
 refine⟨_,uP n1.at_,by rw[μ];exact hl,sJ,fun p1 mss G2 hp1 hmem nd hr hlen=>?_⟩;obtain⟨cs',rfl,hmem,hr,hlen⟩:=zU hmem nd hr hlen;rw[j0] at hp1;refine⟨_,hp1.at_,?_⟩;obtain⟨k,rfl⟩:∃k:Nat,m=(k:Int):=⟨m.toNat,by lia⟩;show (aN Q).rt (.tup (kP (cs'.map cD) none (some (k:Int)))) G2;rw[xQ,Kc];refine lR (n1.sub.trans hp1.sub) (q _ (fun c hc=>ok c ((hmem c).mp (jN hc))) ?_ (hr.take k));rw[dM];lia
theorem Oc:∀ds G Q,td ds G Q->Gx (aN Q) (bh ["pen","most","way","found","steps","turn","step"] ds) G:=by
 rintro ds G Q ⟨p,m,rfl,hp,hm,q⟩;refine⟨p,5,rfl,hp,⟨by decide,dm (by decide) (by decide)⟩,fun way w1 w2=>?_⟩;refine⟨_,_,rfl,rfl,aK _,fun _=>?_,fun _=>⟨_,_,rfl,rfl,aK _,fun _=>?_,fun _=>?_⟩⟩
 ·-- clocks of small steps
  refine⟨p,_,rfl,hp,⟨by lia,dm (by lia) (by lia)⟩,fun n h1 h2=>⟨⟨by lia,by lia⟩,?_,?_⟩⟩
  ·show (gb 0 n.toNat).length≤aj;rw[fZ];exact cY (by lia)
  refine jj (fun ds acc τ G'=>(∃cs:List ak,acc=cs.map cD/\dZ 1000 cs/\cs.length+ds.length≤50)/\G'=G/\∃x,τ=[x,some (.obj p)]) (fun _ _ _ _ _=>trivial) ?_ ?_ _ _ _ _ ⟨⟨[],rfl,(fun c hc=>nomatch hc),?_⟩,rfl,none,rfl⟩
  ·rintro d ds acc τ G' K1 K2 ⟨⟨cs,rfl,ok,hl⟩,rfl,x,rfl⟩ g1 g2;refine⟨fun _=>⟨p,12,rfl,hp,⟨by decide,by decide⟩,fun c hv hc=>?_⟩,nofun⟩;refine g1 _ _ _ ⟨⟨cs++[c],by simp,fun c' hc'=>?_,?_⟩,rfl,_,rfl⟩
   ·rcases bC.mp hc' with z|z
    ·exact ok c' z
    ·have:c'=c:=by simpa using z
     rw[this];exact⟨hv,by lia⟩
   ·rw[av,dk];simp only[au] at hl;lia
  ·rintro acc τ G' ⟨⟨cs,rfl,ok,hl⟩,rfl,x,rfl⟩;intro q1 G1 n1;exact jE hm q n1 ok (by simp at hl;lia)
  ·show ([]:List ak).length+(gb 0 n.toNat).length≤50;rw[fZ];simp;lia
 ·-- of told steps
  intro st G0 hst q1 G1 n1;have hp1:=n1.sub _ _ (hst.sub _ _ hp);refine⟨p,_,rfl,hp1,⟨by lia,dm (by lia) (by lia)⟩,fun n h1 h2=>⟨⟨by lia,by lia⟩,?_⟩⟩;refine fc (fun ds τ G'=>∃cs x5 x6,τ=[some (.obj p),some (.int m),some (.int way),some (.obj q1),some (.obj st),x5,x6]/\dw G q1 (.lst (cs.map cD)) G'/\G' st=some (.lst (([2,3,4,6,8,12,24]:List Int).map D.int))/\dZ 1000 cs/\cs.length+ds.length≤50) (fun _ _ _ _=>trivial) ?_ ?_ _ _ _ ?_
  ·rintro d ds τ G2 N ⟨cs,x5,x6,rfl,n2,e3,ok,hl⟩ hN;have hp2:=n2.sub p _ hp;have e2:=n2.at_;refine⟨p,7,rfl,hp2,⟨by decide,dm (by decide) (by decide)⟩,fun r a b=>?_⟩;obtain⟨stp,hm',es⟩:=zx (ns:=[2,3,4,6,8,12,24]) a b;have hs:2≤stp/\stp≤24:=by simp at hm';lia
   refine⟨_,.int stp,e3,es,⟨q1,_,rfl,e2⟩,p,stp,rfl,hp2,⟨by lia,dm (by lia) (by lia)⟩,fun r2 h3 h4=>?_⟩;simp only[au] at hl;refine⟨_,e2,by rw[μ];exact kH (show cs.length≤50 by lia) (by decide),?_⟩;have hne:st≠q1:=fun z=>by
    rw[z,e2] at e3;cases cs with
    |nil=>simp at e3
    |cons c cs=>simp[cD] at e3
   refine hN _ _ ⟨cs++[(stp,r2)],_,_,rfl,⟨n2.aq,Sub.wd n2.sub n2.aq,?_⟩,?_,fun c hc=>?_,?_⟩
   ·rw[cT,bw];rfl
   ·rw[dE hne];exact e3
   ·rcases bC.mp hc with hc|hc
    ·exact ok c hc
    ·have:c=(stp,r2):=by simpa using hc
     subst this;exact⟨⟨by show 0<stp;lia,h3,h4⟩,by show stp≤1000;lia⟩
   ·rw[av,dk];lia
  ·rintro τ G2 ⟨cs,x5,x6,rfl,n2,e3,ok,hl⟩;exact jE hm q n2 ok (by simp at hl;lia)
  ·refine⟨[],_,_,rfl,⟨hst.sub.of_none n1.aq,hst.sub.trans n1.sub,n1.at_⟩,n1.sub _ _ hst.at_,(fun c hc=>nomatch hc),?_⟩;show ([]:List ak).length+(gb 0 n.toNat).length≤50;rw[fZ];simp;lia
 ·-- by splits
  refine⟨p,1,_,rfl,hp,⟨?_,?_,?_⟩,fun q1 cs G1 ok l1 l2 n1=>?_⟩
  ·split<;>lia
  ·split<;>lia
  ·split<;>lia
  have l3:cs.length≤50:=by
   have:(cs.length:Int)≤50:=Int.le_trans l2 (by split<;>lia)
   lia
  have hp1:=n1.sub _ _ hp;have pop:∀{q1:ε} {cs:List ak} {G1:Gp},dZ 1000 cs->1≤cs.length->cs.length≤51->dw G q1 (.lst (cs.map cD)) G1->wj { aN Q with nx:=rZ (aN Q)} [some (.obj p),some (.int m),some (.int way),some (.obj q1),none,none,none] G1:=by
   intro q1 cs G1 ok l1 l3 n1;refine⟨_,_,rfl,rfl,aK _,fun _=>?_,fun _=>jE hm q n1 ok (by lia)⟩;have e1:=n1.at_;refine⟨⟨q1,_,rfl,e1⟩,_,e1,p,_,rfl,n1.sub _ _ hp,⟨by rw[μ];lia,dm (by rw[μ];lia) (by rw[μ];lia)⟩,fun r a b=>?_⟩;rw[μ] at b;obtain⟨c,ec,hc,_⟩:=yf cD a b;refine⟨_,r.toNat,cD c,e1,⟨by lia,by lia⟩,by rw[μ];exact CA a b,by rw[ag,ec];rfl,?_⟩;rw[mm];exact jE hm q (wrote n1) (fun c hc=>ok c (mG hc)) (az (qg cs _) (by lia))
  refine⟨_,_,rfl,rfl,aK _,fun _=>?_,fun _=>pop ok l1 (by lia) n1⟩;refine⟨p,6,rfl,hp1,⟨by decide,by decide⟩,fun c hv hc=>?_⟩;intro q2 G2 n2;refine⟨_,_,n2.sub _ _ n1.at_,n2.at_,?_,fun q3 G3 n3=>?_⟩
  ·rw[μ];exact cY (by simp;lia)
  have n3':dw G q3 (.lst ((cs++[c]).map cD)) G3:=⟨(n1.sub.trans n2.sub).of_none n3.aq,(n1.sub.trans n2.sub).trans n3.sub,by rw[n3.at_,bw];rfl⟩;refine pop (fun c' hc'=>?_) (by simp) (by simp;lia) n3';rcases bC.mp hc' with z|z
  ·exact ok c' z
  ·have:c'=c:=by simpa using z
   rw[this];exact⟨hv,by lia⟩
end My
namespace My
open PySem L2 L3
def pU:dG:=fun ds G Q=>∃a b:Nat,ds=[.int a,.int b]/\Q (.int (cS a b:Nat)) G
def ED:aE:=ER 0 1 (ο (υ 1) (ο (aR g4 (υ 0) (υ 1)) (aa)))
def EC:aE:=cn (υ 0)
def Cj:aE:=bJ (p7 (bU (aR uz (υ 1) (eC (.int 0)))) (ED)) EC
theorem La:∀ds G Q,pU ds G Q->Cj (aN Q) (bh ["one","other"] ds) G:=by
 rintro ds G Q ⟨a,b,rfl,q⟩;refine⟨fun m τ G'=>G'=G/\∃a':Nat,τ=[some (.int a'),some (.int (m:Nat))]/\cS a' m=cS a b,⟨b,rfl,a,rfl,rfl⟩,?_⟩;rintro m τ G' ⟨rfl,a',rfl,hg⟩;refine⟨fun h=>?_,fun h=>?_⟩
 ·have h':(0:Int)<(m:Int):=of_decide_eq_true h;refine⟨h',a'%m,by exact_mod_cast iB a' (by lia),rfl,m,?_,?_⟩
  ·show [some (D.int (m:Nat)),some (D.int ((a':Int)%(m:Int)))]=_;rw[←Int.natCast_emod]
  ·rw[←hg,mD a' m,Nat.gcd_rec m a',mD]
 ·have h':¬((0:Int)<(m:Int)):=of_decide_eq_false h;have:m=0:=by lia
  subst this;rw[Nat.gcd_zero_right] at hg;rw[←hg] at q;exact aZ q
def oG(cs:List ak)(a:Nat):Nat:=cs.foldl (fun a c=>eX a c.1.toNat) a
def gn(cs:List ak):Nat:=oG cs 1
theorem yI{M:Nat}:∀{cs:List ak} {a:Nat},(∀c∈cs,0<c.1/\c.1≤(M:Int))->0<a->0<oG cs a/\oG cs a≤a*M^cs.length
 |[],a,_,h=>⟨h,by simp[oG]⟩
 |c::cs,a,hc,h=>by
  obtain⟨h1,h2⟩:=hc c χ;have hp:0<eX a c.1.toNat:=rY h (by lia);obtain⟨h3,h4⟩:=yI (cs:=cs) (a:=eX a c.1.toNat) (fun d hd=>hc d (ω _ hd)) hp;refine⟨h3,az h4 ?_⟩;rw[au,mz,fH (M^cs.length) M,←pD];refine jL _ ?_;have:eX a c.1.toNat≤a*c.1.toNat:=gQ (rX h (by lia)) (nG (lr _ _) (mE _ _));exact az this (jS _ (by lia))
theorem zw{n:Nat}(h:n<10^80):iC (n:Int):=by
 show (n:Int).natAbs<2^4000;exact jM (by simpa using h) (by decide)
def nM:dG:=fun ds G Q=>∃cs:List ak,ds=[bW cs]/\dZ 1000 cs/\cs.length≤12/\Q (.int (gn cs:Nat)) G
def Eu:aE:=cx (aR lB (aR tH (υ 1) (aV pU (ο (υ 1) (ο (υ 2) (aa))))) (υ 2)) (hName 1)
def Et:aE:=cn (υ 1)
def Ew:aE:=bJ (jY (gW (υ 0)) (oV 2 (gj (hName 2) (gj (hName 3) (oW)))) (Eu)) Et
def Ce:aE:=bJ (cx (eC (.int 1)) (hName 1)) Ew
theorem K6:∀ds G Q,nM ds G Q->Ce (aN Q) (bh ["clocks","found","step","rest"] ds) G:=by
 rintro ds G Q ⟨cs,rfl,ok,hl,q⟩;refine fc (fun ds τ G'=>G'=G/\∃(zs:List ak) (a:Nat) (x2 x3:Option D),ds=zs.map cD/\τ=[some (bW cs),some (.int a),x2,x3]/\dZ 1000 zs/\0<a/\a*1000^zs.length≤1000^12/\oG zs a=gn cs) (fun _ _ _ _=>trivial) ?_ ?_ _ _ _ ⟨rfl,cs,1,none,none,rfl,rfl,ok,by decide,?_,rfl⟩
 ·rintro d ds τ G' N ⟨rfl,zs,a,x2,x3,e,rfl,okz,ha,hb,hr⟩ hN;cases zs with
  |nil=>cases e
  |cons z zs=>
   cases e;obtain⟨s,r⟩:=z;obtain⟨v,hs⟩:=okz _ χ;have hs1:0<s:=v.1;have hs2:s≤1000:=hs;obtain⟨n,rfl⟩:∃n:Nat,s=(n:Int):=⟨s.toNat,by lia⟩;have hg:0<cS a n:=iE _ ha;have hga:cS a n≤a:=gQ ha (mC _ _);have ha12:a≤1000^12:=az (mO _ (Nat.pow_pos (by decide))) hb;have hbig:∀k:Nat,k≤1000^12->iC (k:Int):=fun k hk=>zw (kH hk (by decide));refine⟨rfl,a,n,rfl,⟨by lia,hbig _ (az hga ha12)⟩,⟨?_,hbig _ (az (show n≤1000 by lia) (by decide))⟩,?_⟩
   ·rw[←gK];exact hbig _ (az (Nat.div_le_self _ _) ha12)
   have el:a / cS a n*n=eX a n:=by
    unfold eX;rw[fH a n,Nat.mul_div_assoc n (mC a n),fH]
   refine hN _ _ ⟨rfl,zs,eX a n,some (.int n),some (.int r),rfl,?_,fun c hc=>okz c (ω _ hc),rY ha (by lia),?_,hr⟩
   ·show [some (bW cs),some (D.int ((a:Int) / (cS a n:Nat)*(n:Int))),_,_]=_;rw[←gK,←ng,el]
   ·refine az ?_ hb;rw[au,mz,fH (1000^zs.length) 1000,←pD];refine jL _ ?_;have:eX a n≤a*n:=gQ (rX ha (by lia)) (nG (lr _ _) (mE _ _));exact az this (jS _ (by lia))
 ·rintro τ G' ⟨rfl,zs,a,x2,x3,e,rfl,okz,ha,hb,hr⟩;have:zs=[]:=by cases zs with
   |nil=>rfl
   |cons z zs=>cases e
  subst this;have hr':a=gn cs:=hr;rw[←hr'] at q;exact aZ q
 ·rw[Nat.one_mul];exact jK (by decide) hl
end My
namespace My
open PySem L2 L3
def qP:dG:=fun ds G Q=>∃a b:Nat,ds=[.int a,.int b]/\Q (.int (cS a b:Nat)) G
def Iu:aE:=cx (υ 2) (hName 1)
def Iv:aE:=bJ (cx (υ 1) (hName 0)) Iu
def Iw:aE:=bJ (cx (aR g4 (υ 0) (υ 1)) (hName 2)) Iv
def Ir:aE:=cn (υ 0)
def Gz:aE:=bJ (p7 (bU (aR (fA true) (υ 1) (eC (.int 0)))) (Iw)) Ir
theorem Of:∀ds G Q,qP ds G Q->Gz (aN Q) (bh ["one","other","left"] ds) G:=by
 rintro ds G Q ⟨a,b,rfl,q⟩;refine⟨fun m τ G'=>G'=G/\∃(a':Nat) (x:Option D),τ=[some (.int a'),some (.int (m:Nat)),x]/\cS a' m=cS a b,⟨b,rfl,a,_,rfl,rfl⟩,?_⟩;rintro m τ G' ⟨rfl,a',x,rfl,hg⟩;refine⟨_,_,rfl,rfl,aK _,fun h=>?_,fun h=>?_⟩
 ·have h1:(!((m:Int)==0))=true:=h;have h':(0:Int)<(m:Int):=by simp at h1;lia
  refine⟨h',a'%m,by exact_mod_cast iB a' (by lia),rfl,m,some (.int (a'%m:Nat)),?_,?_⟩
  ·show [some (D.int (m:Nat)),some (D.int ((a':Int)%(m:Int))),some (D.int ((a':Int)%(m:Int)))]=_;rw[←Int.natCast_emod]
  ·rw[←hg,mD a' m,Nat.gcd_rec m a',mD]
 ·have h1:(!((m:Int)==0))=false:=h;have:m=0:=by simp at h1;lia
  subst this;rw[Nat.gcd_zero_right] at hg;rw[←hg] at q;exact aZ q
def nD(n:Nat):D:=.int (n:Nat)
def uJ(ns:List Nat)(a:Nat):Nat:=ns.foldl eX a
def tq:dG:=fun ds G Q=>∃(p:ε) (ns:List Nat),ds=[.obj p]/\G p=some (.lst (ns.map nD))/\(∀n∈ns,0<n/\n≤1000)/\ns.length≤20/\Q (.int (uJ ns 1:Nat)) G
def IA:aE:=cx (aR lB (υ 1) (aR tH (υ 2) (aV qP (ο (υ 1) (ο (υ 2) (aa)))))) (hName 1)
def Iz:aE:=cn (υ 1)
def IB:aE:=bJ (jY (gW (υ 0)) (hName 2) (IA)) Iz
def GA:aE:=bJ (cx (eC (.int 1)) (hName 1)) IB
theorem Oh:∀ds G Q,tq ds G Q->GA (aN Q) (bh ["numbers","least","number"] ds) G:=by
 rintro ds G Q ⟨p,ns,rfl,hp,ok,hl,q⟩;refine⟨_,hp,?_⟩;refine fc (fun ds τ G'=>G'=G/\∃(zs:List Nat) (a:Nat) (x2:Option D),ds=zs.map nD/\τ=[some (.obj p),some (.int a),x2]/\(∀n∈zs,0<n/\n≤1000)/\0<a/\a*1000^zs.length≤1000^20/\uJ zs a=uJ ns 1) (fun _ _ _ h=>by rw[h.1];exact hp) ?_ ?_ _ _ _ ⟨rfl,ns,1,none,rfl,rfl,ok,by decide,?_,rfl⟩
 ·rintro d ds τ G' N ⟨rfl,zs,a,x2,e,rfl,okz,ha,hb,hr⟩ hN;cases zs with
  |nil=>cases e
  |cons n zs=>
   cases e;obtain⟨hs1,hs2⟩:=okz _ χ;have hg:0<cS a n:=iE _ ha;have hga:cS a n≤a:=gQ ha (mC _ _);have ha20:a≤1000^20:=az (mO _ (Nat.pow_pos (by decide))) hb;have hbig:∀k:Nat,k≤1000^20->iC (k:Int):=fun k hk=>zw (kH hk (by decide));refine⟨a,n,rfl,⟨by lia,hbig _ (az hga ha20)⟩,⟨hbig _ ha20,?_⟩,?_⟩
   ·show iC ((n:Int) / (cS a n:Nat));rw[←gK];exact hbig _ (az (Nat.div_le_self _ _) (az hs2 (by decide)))
   have el:a*(n / cS a n)=eX a n:=by
    unfold eX;rw[Nat.mul_div_assoc a (Nat.gcd_dvd_right a n)]
   refine hN _ _ ⟨rfl,zs,eX a n,some (nD n),rfl,?_,fun c hc=>okz c (ω _ hc),rY ha (by lia),?_,hr⟩
   ·show [some (D.obj p),some (D.int ((a:Int)*((n:Int) / (cS a n:Nat)))),_]=_;rw[←gK,←ng,el]
   ·refine az ?_ hb;rw[au,mz,fH (1000^zs.length) 1000,←pD];refine jL _ ?_;have:eX a n≤a*n:=gQ (rX ha (by lia)) (nG (lr _ _) (mE _ _));exact az this (jS _ (by lia))
 ·rintro τ G' ⟨rfl,zs,a,x2,e,rfl,okz,ha,hb,hr⟩;have:zs=[]:=by cases zs with
   |nil=>rfl
   |cons z zs=>cases e
  subst this;have hr':a=uJ ns 1:=hr;rw[←hr'] at q;exact aZ q
 ·rw[Nat.one_mul];exact jK (by decide) hl
theorem JX(cs:List ak)(a:Nat):uJ (cs.map fun c=>c.1.toNat) a=oG cs a:=by
 unfold uJ oG;rw[List.foldl_map]
def nJ:dG:=fun ds G Q=>∃cs:List ak,ds=[bW cs]/\dZ 1000 cs/\cs.length≤20/\Q (.int (gn cs:Nat)) G
def B9:aE:=cn (aV tq (ο (fi ["clock"] [] (gW (υ 0)) (hName 0) (cV) (aR eB (υ 0) (eC (.int 0)))) (aa)))
theorem filter_all{α:Type}(xs:List α):xs.filter (fun _=>true)=xs:=pK.mpr fun _ _=>rfl
theorem K0:∀ds G Q,nJ ds G Q->B9 (aN Q) (bh ["clocks"] ds) G:=by
 rintro ds G Q ⟨cs,rfl,ok,hl,q⟩;refine⟨by show (cs.map cD).length≤aj;rw[μ];exact cY (by lia),?_⟩;refine fw (fun τ=>∃x,τ=[x]) cD (fun _=>true) (fun c=>nD c.1.toNat) (G:=G) trivial cs [] _ ⟨none,rfl⟩ ?_ ?_
 ·rintro⟨s,r⟩ hm τ K1 K2 ⟨x,rfl⟩ h1 h2;refine⟨fun _=>⟨_,rfl,?_⟩,nofun⟩;have hs:0<s:=(ok _ hm).1.1;have:=h1 rfl [some (cD (s,r))] ⟨_,rfl⟩;show K2 [some (cD (s,r))] (.int s) G;rw[show D.int s=nD (s,r).1.toNat by show D.int s=D.int ((s.toNat:Nat):Int);rw[jV (by lia)]];exact this
 ·intro p G' n;rw[filter_all,dj,show cs.map (fun c:ak=>nD c.1.toNat)=(cs.map fun c:ak=>c.1.toNat).map nD by rw[bp];rfl] at n;refine⟨p,_,rfl,n.at_,fun k hk=>?_,by rw[μ];exact hl,?_⟩
  ·obtain⟨c,hc,rfl⟩:=Φ.mp hk;obtain⟨⟨a,_⟩,b⟩:=ok c hc;lia
  ·rw[JX];exact lR n.sub q
end My
namespace My
open PySem L2 L3
theorem P7(n:Nat):gb 0 n=(aB n).map nD:=by
 unfold gb;refine b8 fun i _=>?_;show D.int (0+(i:Int))=D.int (i:Int);rw[Int.zero_add]
theorem HI{cs:List ak}{i:Nat}{a:ak}(h:cs[i]?=some a):iM (cs.map cD) (i:Int)=some (cD a):=rz (by rw[ag,h];rfl)
end My
namespace My
open PySem L2 L3
def Eh(G:Gp):D->Prop
 |.tup ds=>∀d∈ds,Known G d
 |.obj a=>∃o,G a=some o/\o.plain
 |_=>True
theorem sk{G:Gp}{d:D}(h:Eh G d)(hn:∀ds,d≠.tup ds):iy "tuple" G d=some false:=by
 cases d with
 |obj a=>
  obtain⟨o,hG,hp⟩:∃o,G a=some o/\o.plain:=h;cases o with
  |gen R=>exact hp.elim
  |_=>simp[iy,hG]
 |tup ds=>exact absurd rfl (hn ds)
 |_=>rfl
end My
namespace My
open PySem L2 L3
theorem uO{α:Type}(f:α->Bool):∀xs:List α,o6 (xs.map fun x=>D.bl (f x))=some (xs.map f)
 |[]=>rfl
 |x::xs=>by
  show uj _ (o6 (xs.map fun x=>D.bl (f x)))=_;rw[uO f xs];rfl
theorem all_map{α:Type}(f:α->Bool)(xs:List α):(xs.map f).all id=xs.all f:=by
 induction xs with
 |nil=>rfl
 |cons x xs ih=>simp
end My
namespace My
open PySem L2 L3
def Kn(G:Gp):Nat->D->Prop
 |0,d=>Known G d
 |n+1,.tup ds=>∀d∈ds,Kn G n d
 |_+1,d=>Known G d
def jR(G:Gp)(d:D):Prop:=∀n,Kn G n d
section
variable {G G':Gp}
theorem jR.tup{ds:List D}(h:∀d∈ds,jR G d):jR G (.tup ds):=fun n=>match n with
 |0=>trivial
 |n+1=>fun d hd=>h d hd n
theorem jR.int(i:Int):jR G (.int i):=fun n=>by cases n<;>trivial
theorem jR.el{ds:List D}{d:D}(h:jR G (.tup ds))(hd:d∈ds):jR G d:=fun n=>h (n+1) d hd
theorem jR.known{d:D}(h:jR G d):Known G d:=h 0
theorem jR.xB{d:D}(h:jR G d):Eh G d:=by
 cases d with
 |tup ds=>exact fun d hd=>(h.el hd).known
 |obj a=>exact h 0
 |_=>trivial
end
def qv(s r:Int):Bool:=(decide (1≤s)&&decide (s≤1000))&&(decide (0≤r)&&decide (r<s))
def ig:D->Bool
 |.tup [.int s,.int r]=>qv s r
 |_=>false
def pk:dG:=fun ds G Q=>∃d:D,ds=[d]/\jR G d/\Q (.bl (ig d)) G
def sM:aE:=cn (tW (DZ w9 w9 (eC (.int 1)) (aR eB (υ 0) (eC (.int 0))) (eC (.int 1000))) (DZ w9 qS (eC (.int 0)) (aR eB (υ 0) (eC (.int 1))) (aR eB (υ 0) (eC (.int 0)))))
def sN:aE:=bJ (jb (pz (kO (bU (aV iV (ο (aR eB (υ 0) (eC (.int 0))) (aa))))) (kO (bU (aV iV (ο (aR eB (υ 0) (eC (.int 1))) (aa)))))) (cn (eC (.bl false))) (fL)) sM
def pj:aE:=bJ (jb (pz (kO (bU (oZ "tuple" (υ 0)))) (bU (aR (fA true) (dg g0 (ο (υ 0) (aa))) (eC (.int 2))))) (cn (eC (.bl false))) (fL)) sN
theorem o5{ds:List D}(h:ds.length≠2):ig (.tup ds)=false:=by
 unfold ig;split
 ·rename_i h2;cases h2;exact absurd rfl h
 ·rfl
theorem Kj:∀ds G Q,pk ds G Q->pj (aN Q) (bh ["thing"] ds) G:=by
 rintro ds G Q ⟨d,rfl,hk,q⟩;have not_tup:(∀ds,d≠.tup ds)->pj (aN Q) (bh ["thing"] [d]) G:=by
  intro hn;have e:ig d=false:=by
   cases d with
   |tup ds=>exact absurd rfl (hn ds)
   |_=>rfl
  rw[e] at q;show match iy "tuple" G d with
   |some b=>_
   |none=>False
  rw[sk hk.xB hn];exact⟨fun _=>⟨fun _=>aZ q,nofun⟩,nofun⟩
 cases d with
 |tup ds=>
  refine⟨nofun,fun _=>⟨_,_,rfl,rfl,aK _,?_⟩⟩;rcases ds with _|⟨a,_|⟨b,_|⟨c,ds⟩⟩⟩
  ·exact⟨fun _=>aZ q,nofun⟩
  ·rw[o5 (by simp)] at q;exact⟨fun _=>aZ q,nofun⟩
  ·refine⟨nofun,fun _=>⟨a,rfl,(hk.el (by simp)).known,?_⟩⟩;have hb:Known G b:=(hk.el (by simp)).known;cases a with
   |int s=>
    refine⟨nofun,fun _=>⟨b,rfl,hb,?_⟩⟩;cases b with
    |int r=>
     have fin:∀v,qv s r=v->(aN Q).rt (.bl v) G:=fun v e=>by
      rw[←e];exact aZ q
     refine⟨nofun,fun _=>⟨_,rfl,⟨fun h1=>⟨fun h2=>⟨_,rfl,fun h3=>⟨_,rfl,fin _ ?_⟩,fun h3=>fin _ ?_⟩,fun h2=>fin _ ?_⟩,fun h1=>⟨nofun,fun _=>fin _ ?_⟩⟩⟩⟩
     ·unfold qv;rw[h1,h2,h3];rfl
     ·unfold qv;rw[h1,h2,h3];rfl
     ·unfold qv;rw[h1,h2];rfl
     ·unfold qv;rw[h1];rfl
    |_=>exact⟨fun _=>aZ q,nofun⟩
   |_=>exact⟨fun _=>⟨fun _=>aZ q,nofun⟩,nofun⟩
  ·refine⟨fun _=>?_,fun h=>?_⟩
   ·rw[o5 (by simp)] at q;exact aZ q
   have h':(!(((ds.length+1+1+1:Nat):Int)==2))=false:=h;simp at h';omega
 |_=>exact not_tup nofun
def DJ(p:ak×ak):Bool:=HT.lexLt (dO p.1) (dO p.2)
def sy(cs:List ak):Bool:=(cs.zip (cs.drop 1)).all DJ
def vY:D->ak
 |.tup [.int s,.int r]=>(s,r)
 |_=>(0,0)
def t5:D->Bool
 |.tup ds=>decide (ds.length≤12)&&(ds.all ig&&sy (ds.map vY))
 |_=>false
theorem Nm{d:D}(h:ig d=true):∃c:ak,d=cD c:=by
 unfold ig at h;split at h
 ·rename_i s r;exact⟨(s,r),rfl⟩
 ·cases h
theorem zt:∀{ds:List D},ds.all ig=true->∃cs:List ak,ds=cs.map cD
 |[],_=>⟨[],rfl⟩
 |d::ds,h=>by
  rw[kZ,cN] at h;obtain⟨c,rfl⟩:=Nm h.1;obtain⟨cs,rfl⟩:=zt h.2;exact⟨c::cs,rfl⟩
theorem vg(cs:List ak):(cs.map cD).map vY=cs:=by
 rw[bp];exact (b8 fun c _=>rfl).trans (List.map_id cs)
def uv:dG:=fun ds G Q=>∃d:D,ds=[d]/\jR G d/\Q (.bl (t5 d)) G
theorem Gf{G:Gp}{te:aD}{Q:List D->Gp->Prop}{ds:List D}{f:D->Bool}{js:List Nat}{τ:S3}(hl:ds.length≤1000)
  (hs:∀x∈ds,∀y:Option D,∀K:V3,K (.bl (f x)) G->te (jy (y::js.map fun j=>gP τ j) 0 x) G K) (q:Q (ds.map fun x=>.bl (f x)) G):fV (fun _=>True) (hName 0) cV te Q ds [] (none::js.map fun j=>gP τ j) G:=by
 have:=fw (α:=D) (guard:=fun _=>True) (g:=hName 0) (tc:=cV) (te:=te) (Q:=Q) (fun τ'=>∃x,τ'=x::js.map fun j=>gP τ j) (fun x=>x) (fun _=>true) (fun x=>.bl (f x)) (G:=G) trivial ds [] (none::js.map fun j=>gP τ j) ⟨none,rfl⟩ ?_ ?_
 ·rw[List.map_id'] at this;exact this
 ·rintro x hx τ' K1 K2 ⟨y,rfl⟩ h1 h2;exact⟨fun _=>hs x hx y _ (h1 rfl _ ⟨_,rfl⟩),nofun⟩
 ·rw[filter_all,dj];exact q
end My
namespace My
open PySem L2 L3
theorem Kf{a b:ak}(h:Ec a b)(h':Ec b a):False:=by
 rcases h with h|⟨h1,h2⟩<;>rcases h' with h' | ⟨h3,h4⟩<;>lia
theorem Jy{a b:ak}(h:b6.lx (dO b) (dO a)=false)(h':b6.lx (dO a) (dO b)=false):a=b:=
 ax fun hne=>Kf (sg h hne) (sg h' fun z=>hne z.symm)
theorem wO:∀{as bs:List ak},as.Perm bs->gF (as.map dO)->gF (bs.map dO)->as=bs
 |[],bs,p,_,_=>(List.nil_perm.mp p).symm
 |a::as,[],p,_,_=>absurd p.length_eq (by simp)
 |a::as,b::bs,p,ha,hb=>by
  have ha':=fX.mp ha;have hb':=fX.mp hb;have hab:a=b:=by
   have m1:a∈b::bs:=p.mem_iff.mp χ;have m2:b∈a::as:=p.mem_iff.mpr χ;rcases aM.mp m1 with h|h
   ·exact h
   ·rcases aM.mp m2 with h2|h2
    ·exact h2.symm
    ·exact Jy (ha'.1 _ (Φ.mpr ⟨b,h2,rfl⟩)) (hb'.1 _ (Φ.mpr ⟨a,h,rfl⟩))
  subst hab;rw[wO (List.Perm.cons_inv p) ha'.2 hb'.2]
end My
namespace My
open PySem L2 L3
theorem Aa{cs:List ak}{d:Nat}:∀{a:Nat},a∣d->(∀c∈cs,c.1.toNat∣d)->oG cs a∣d:=by
 induction cs with
 |nil=>exact fun h _=>h
 |cons c cs ih=>
  intro a h hc;exact ih (a:=eX a c.1.toNat) (nG h (hc c χ)) fun c' h'=>hc c' (ω _ h')
end My
namespace My
open PySem L2 L3
def pW:dG:=fun ds G Q=>∃a b:Int,ds=[.int a,.int b]/\a≤b/\Q .aq G
def Co:aE:=jb (bU (aR uz (υ 0) (υ 1))) (wW) (fL)
theorem Le:∀ds G Q,pW ds G Q->Co (aN Q) (bh ["many","most"] ds) G:=by
 rintro ds G Q ⟨a,b,rfl,h,q⟩;refine⟨fun h'=>?_,fun _=>⟨G,Sub.refl _,q⟩⟩;have:a > b:=of_decide_eq_true h';lia
def nums(c:ak)(n:Nat):List Nat:=(aB (gX c.2 n c.1)).map fun i=>c.2.toNat+i*c.1.toNat
theorem xi{c:ak}(h:Valid c)(n:Nat):nq c.2 c.1 (gX c.2 n c.1)=(nums c n).map nD:=by
 unfold nq nums;rw[bp];refine b8 fun i _=>?_;show D.int _=D.int ((c.2.toNat+i*c.1.toNat:Nat):Int);congr 1;have:=h.1;have:=h.2.1;rw[Int.natCast_add,ng,jV (by lia),jV (by lia)]
theorem se{c:ak}(h:Valid c){n x:Nat}:x∈nums c n↔x<n/\rg x c=true:=by
 obtain⟨h1,h2,h3⟩:=h;unfold nums;rw[Φ];obtain⟨s,hs⟩:∃s:Nat,c.1=(s:Int):=⟨c.1.toNat,by lia⟩;obtain⟨r,hr⟩:∃r:Nat,c.2=(r:Int):=⟨c.2.toNat,by lia⟩;have hrg:rg x c=true↔x%s=r:=by
  show ((x:Int)%c.1==c.2)=true↔_;rw[beq_iff_eq,hs,hr];constructor
  ·intro e;exact_mod_cast e
  ·intro e;exact_mod_cast e
 rw[hrg];have s0:0<s:=by lia
 have rs:r<s:=by lia
 have hc:∀i,i<gX c.2 n c.1↔r+i*s<n:=fun i=>by
  unfold gX;rw[hs,hr];split
  ·rename_i hlt;have hrn:r<n:=by lia
   rw[show ((n:Int)-(r:Int)-1) / (s:Int)+1=(((n-r-1) / s+1:Nat):Int) by
    rw[Int.natCast_add,gK,show ((n-r-1:Nat):Int)=(n:Int)-(r:Int)-1 by lia];rfl,dD,Nat.lt_succ_iff,Nat.le_div_iff_mul_le s0]
   lia
  ·rename_i hlt;have:¬r<n:=by lia
   constructor
   ·intro z;exact absurd z (m7 _)
   ·intro z;lia
 rw[hs,hr,dD,dD];constructor
 ·rintro⟨i,hi,rfl⟩;have hi:=bO.mp hi;rw[←hs,←hr] at hi;refine⟨(hc i).mp hi,?_⟩;rw[Nat.add_mul_mod_self_right,Nat.mod_eq_of_lt rs]
 ·rintro⟨hx,e⟩;have hd:s*(x / s)+x%s=x:=Nat.div_add_mod x s;refine⟨x / s,?_,?_⟩
  ·rw[bO,←hs,←hr,hc,fH];lia
  ·rw[fH];lia
theorem Av{c:ak}(h:Valid c)(n:Nat):(nums c n).Nodup:=by
 unfold nums;unfold List.Nodup;rw[cU];refine List.Pairwise.imp ?_ (List.nodup_range (n:=gX c.2 n c.1));intro a b hab e;have:=h.1;have h0:0<c.1.toNat:=by lia
 exact hab (Nat.eq_of_mul_eq_mul_right h0 (by lia))
def kQ(cs:List ak)(x:Nat):Nat:=(cs.filter (rg x)).length
def gV(f:Nat->Nat)(n:Nat):List D:=(aB n).map fun x=>nD (f x)
theorem qN(f:Nat->Nat)(n:Nat):(gV f n).length=n:=by simp[gV]
theorem Cw{f:Nat->Nat}{n x:Nat}(h:x<n):iM (gV f n) (x:Int)=some (nD (f x)):=rz (by
 unfold gV;rw[ag,gY h];rfl)
theorem IC{f:Nat->Nat}{n x v:Nat}(h:x<n):(gV f n).set x (nD v)=gV (fun y=>if y=x then v else f y) n:=by
 unfold gV;apply lu;intro i;rw[List.getElem?_set];by_cases hi:i<n
 ·by_cases hx:x=i
  ·subst hx;simp[h]
  ·have:¬i=x:=fun z=>hx z.symm;simp[hi,hx,this]
 ·have:¬x=i:=fun z=>hi (by lia);simp[hi,this]
theorem u4{f g:Nat->Nat}{n:Nat}(h:∀x,x<n->f x=g x):gV f n=gV g n:=by
 unfold gV;refine b8 fun x hx=>?_;rw[h x (bO.mp hx)]
theorem MP{n x:Nat}(h:x<n):qi n (x:Int)=some x:=by
 unfold qi;simp[h]
def tf:dG:=fun ds G Q=>∃(cs:List ak) (n:Nat),ds=[bW cs,.int n]/\dZ 1000 cs/\cs.length≤1000/\n≤10000/\∀p G',dw G p (.lst (gV (kQ cs) n)) G'->Q (.obj p) G'
def Il:aE:=zY (υ 2) (υ 5) (eC (.int 1)) (· + ·)
def Im:aE:=jY (vU (ο (υ 4) (ο (υ 1) (ο (υ 3) (aa))))) (hName 5) (Il)
def Ik:aE:=cn (υ 2)
def Io:aE:=bJ (jY (gW (υ 0)) (oV 2 (gj (hName 3) (gj (hName 4) (oW)))) (Im)) Ik
def Ip:aE:=bJ (cx (aR lB (j3 (ο (eC (.int 0)) (aa))) (υ 1)) (hName 2)) Io
def Gy:aE:=bJ (qQ (aV pW (ο (υ 1) (ο (eC (.int 10000)) (aa))))) Ip
theorem zeros(n:Nat):(bo n [D.int 0]).flatten=gV (fun _=>0) n:=by
 unfold gV
 induction n with
 |zero=>rfl
 |succ n ih=>
  rw[List.replicate_succ',List.flatten_append,ih,List.range_succ,bw];rfl
theorem D0(c:ak)(cs:List ak)(x:Nat):kQ (c::cs) x=(if rg x c=true then 1 else 0)+kQ cs x:=by
 unfold kQ;rw[List.filter_cons];split
 ·rw[au];lia
 ·lia
theorem Od:∀ds G Q,tf ds G Q->Gy (aN Q) (bh ["clocks","many","counts","step","rest","number"] ds) G:=by
 rintro ds G Q ⟨cs,n,rfl,ok,hl,hn,q⟩;refine⟨n,10000,rfl,by lia,?_⟩;intro p0 G0 n0;refine⟨_,n0.at_,⟨by lia,by lia⟩,?_,fun p G1 n1=>?_⟩
 ·rw[dD];exact az (show 1*n≤10000 by lia) (by decide)
 rw[dD,zeros] at n1;have m1:dw G p (.lst (gV (fun _=>0) n)) G1:=⟨n0.sub.of_none n1.aq,n0.sub.trans n1.sub,n1.at_⟩;refine fc (fun ds τ G'=>∃(zs:List ak) (f:Nat->Nat) (x3 x4 x5:Option D),ds=zs.map cD/\τ=[some (bW cs),some (.int n),some (.obj p),x3,x4,x5]/\dw G p (.lst (gV f n)) G'/\(∀z∈zs,z∈cs)/\∀x,f x+kQ zs x=kQ cs x) (fun _ _ _ _=>trivial) ?_ ?_ _ _ _ ⟨cs,fun _=>0,none,none,none,rfl,rfl,m1,fun _ h=>h,fun x=>Nat.zero_add _⟩
 ·rintro d ds τ G' N ⟨zs,f,x3,x4,x5,e,rfl,m2,hm,hf⟩ hN;cases zs with
  |nil=>cases e
  |cons c zs=>
   cases e;obtain⟨hv,h1000⟩:=ok c (hm c χ);have v1:=hv.1;have v2:=hv.2.1;have v3:=hv.2.2;refine⟨rfl,⟨by lia,by lia,by lia,by lia,v1,by lia⟩,?_⟩;show lI _ _ _ _ (nq c.2 c.1 (gX c.2 n c.1)) _ _;rw[xi hv];refine fc (fun ds τ G'=>∃(ms:List Nat) (g:Nat->Nat) (x5:Option D),ds=ms.map nD/\τ=[some (bW cs),some (.int n),some (.obj p),some (.int c.1),some (.int c.2),x5]/\dw G p (.lst (gV g n)) G'/\ms.Nodup/\(∀x∈ms,x<n/\rg x c=true)/\∀x,x<n->g x=f x+(if rg x c=true/\x∉ms then 1 else 0)) (fun _ _ _ _=>trivial) ?_ ?_ _ _ _ ⟨nums c n,f,x5,rfl,rfl,m2,Av hv n,fun x hx=>(se hv).mp hx,fun x hx=>?_⟩
   ·rintro d ds τ G2 N2 ⟨ms,g,x5,e,rfl,m3,nd,hr,hg⟩ hN2;cases ms with
    |nil=>cases e
    |cons x ms=>
     cases e;have nd':=eo.mp nd;obtain⟨hx,hrx⟩:=hr x χ;refine⟨_,_,m3.at_,Cw hx,?_⟩;refine⟨_,x,m3.at_,?_,?_⟩
     ·rw[qN];exact MP hx
     ·refine hN2 _ _ ⟨ms,fun y=>if y=x then g x+1 else g y,_,rfl,rfl,⟨m3.aq,Sub.wd m3.sub m3.aq,?_⟩,nd'.2,fun y hy=>hr y (ω _ hy),fun y hy=>?_⟩
      ·rw[cT,←IC hx];rfl
      ·have:=hg y hy;by_cases hyx:y=x
       ·subst hyx;rw[if_neg (fun z=>z.2 χ)] at this;rw[if_pos (⟨hrx,nd'.1⟩:rg y c=true/\y∉ms)];show (if y=y then g y+1 else g y)=f y+1;rw[if_pos rfl,this]
       ·show (if y=x then g x+1 else g y)=_;rw[if_neg hyx,this];have:y∉x::ms↔y∉ms:=by simp[hyx]
        simp only[this]
   ·rintro τ G2 ⟨ms,g,x5,e,rfl,m3,nd,hr,hg⟩;have e0:ms=[]:=by cases ms with
     |nil=>rfl
     |cons z zs=>cases e
    subst e0;refine hN _ _ ⟨zs,fun x=>f x+(if rg x c=true then 1 else 0),_,_,_,rfl,rfl,?_,fun z hz=>hm z (ω _ hz),fun x=>?_⟩
    ·rw[u4 (g:=g) fun x hx=>?_]
     ·exact m3
     ·rw[hg x hx];simp
    ·have:=hf x;rw[D0] at this;show f x+(if rg x c=true then 1 else 0)+kQ zs x=kQ cs x;lia
   ·rw[if_neg]
    ·rfl
    ·rintro⟨z1,z2⟩;exact z2 ((se hv).mpr ⟨hx,z1⟩)
 ·rintro τ G' ⟨zs,f,x3,x4,x5,e,rfl,m2,hm,hf⟩;have e0:zs=[]:=by cases zs with
   |nil=>rfl
   |cons z zs=>cases e
  subst e0;refine aZ (q p G' ?_);rw[u4 (g:=f) fun x _=>by have:=hf x;have e:kQ [] x=0:=rfl;lia];exact m2
def oN:Option Nat->D
 |none=>.aq
 |some x=>nD x
def sZ:dG:=fun ds G Q=>∃(c:ak) (p:ε) (f:Nat->Nat) (n m:Nat),ds=[cD c,.obj p,.int m]/\G p=some (.lst (gV f n))/\Valid c/\c.1≤1000000/\n≤10000/\Q (oN ((nums c n).find? fun x=>f x==m)) G
def Ic:aE:=jb (bU (aR (fA false) (aR eB (υ 1) (υ 3)) (υ 2))) (cn (υ 3)) (fL)
def Ib:aE:=cn (eC .aq)
def Gw:aE:=bJ (jY (vU (ο (aR eB (υ 0) (eC (.int 1))) (ο (dg g0 (ο (υ 1) (aa))) (ο (aR eB (υ 0) (eC (.int 0))) (aa))))) (hName 3) (Ic)) Ib
theorem Ob:∀ds G Q,sZ ds G Q->Gw (aN Q) (bh ["clock","counts","many","number"] ds) G:=by
 rintro ds G Q ⟨c,p,f,n,m,rfl,hp,hv,hb,hn,q⟩;have v1:=hv.1;have v2:=hv.2.1;have v3:=hv.2.2;refine⟨_,rfl,_,hp,_,rfl,⟨by lia,by lia,by rw[qN];lia,by rw[qN];lia,v1,by lia⟩,?_⟩;show lI _ _ _ _ (nq c.2 c.1 (gX c.2 (((gV f n).length:Nat):Int) c.1)) _ _;rw[qN,xi hv];refine fc (fun ds τ G'=>G'=G/\∃(ms:List Nat) (x3:Option D),ds=ms.map nD/\τ=[some (cD c),some (.obj p),some (.int m),x3]/\(∀x∈ms,x<n)/\ms.find? (fun x=>f x==m)=(nums c n).find? fun x=>f x==m) (fun _ _ _ _=>trivial) ?_ ?_ _ _ _ ⟨rfl,nums c n,none,rfl,rfl,fun x hx=>((se hv).mp hx).1,rfl⟩
 ·rintro d ds τ G' N ⟨eg,ms,x3,e,rfl,hm,hf⟩ hN;cases ms with
  |nil=>cases e
  |cons x ms=>
   cases e;rw[List.find?_cons] at hf;refine⟨_,_,by rw[eg];exact hp,Cw (hm x χ),_,_,rfl,rfl,aK _,fun h=>?_,fun h=>?_⟩
   ·have h':(((f x:Nat):Int)==(m:Int))=true:=h;have e2:f x=m:=by
     rw[beq_iff_eq] at h';exact_mod_cast h'
    rw[show (f x==m)=true by rw[e2,beq_self_eq_true]] at hf;rw[←hf] at q;rw[eg];exact aZ q
   ·have h':(((f x:Nat):Int)==(m:Int))=false:=h;have e2:(f x==m)=false:=by
     cases e3:f x==m with
     |false=>rfl
     |true=>
      rw[beq_iff_eq] at e3;rw[e3,beq_self_eq_true] at h';cases h'
    rw[e2] at hf;exact hN _ _ ⟨eg,ms,_,rfl,rfl,fun y hy=>hm y (ω _ hy),hf⟩
 ·rintro τ G' ⟨eg,ms,x3,e,rfl,hm,hf⟩;cases ms with
  |cons x ms=>cases e
  |nil=>
   have hf:none=(nums c n).find? fun x=>f x==m:=hf;rw[←hf] at q;rw[eg];exact aZ q
end My
namespace My
open PySem L2 L3
def M1(cs:List ak)(c:ak):Option Nat:=(nums c (gn (cs++[c]))).find? fun x=>kQ cs x==0
def sX:dG:=fun ds G Q=>∃(cs:List ak) (c:ak),ds=[bW cs,cD c]/\dZ 1000 (cs++[c])/\cs.length≤12/\gn (cs++[c])≤10000/\Q (oN (M1 cs c)) G
def Gr:aE:=cn (aV sZ (ο (υ 1) (ο (aV tf (ο (υ 0) (ο (aV nJ (ο (aR eK (υ 0) (i8 (ο (υ 1) (aa)))) (aa))) (aa)))) (ο (eC (.int 0)) (aa)))))
theorem N8:∀ds G Q,sX ds G Q->Gr (aN Q) (bh ["clocks","clock"] ds) G:=by
 rintro ds G Q ⟨cs,c,rfl,ok,hl,hn,q⟩;have hc:=ok c (by simp);have h1:=hc.2;refine⟨?_,cs++[c],?_,ok,by simp;lia,cs,gn (cs++[c]),rfl,fun z hz=>ok z (bX _ hz),by lia,hn,fun p G1 n1=>?_⟩
 ·show (cs.map cD).length+1≤aj;rw[μ];exact cY (by lia)
 ·show [D.tup (cs.map cD++[cD c])]=[bW (cs++[c])];unfold bW;rw[bw];rfl
 ·exact⟨c,p,kQ cs,gn (cs++[c]),0,rfl,n1.at_,hc.1,by lia,hn,lR n1.sub q⟩
def tV(cs:List ak):Option Nat:=(aB (gn cs)).find? fun x=>kQ cs x==0
theorem yH(cs:List ak):gn (cs++[(1,0)])=gn cs:=by
 unfold gn oG;rw[List.foldl_append];show eX _ 1=_;rw[Nat.lcm_one_right]
theorem Fh(n:Nat):nums (1,0) n=aB n:=by
 have e:gX 0 (n:Int) 1=n:=by
  unfold gX;split
  ·rw[Int.ediv_one];lia
  ·lia
 unfold nums;show (aB (gX 0 (n:Int) 1)).map (fun i=>0+i*1)=_;rw[e];refine (b8 fun i _=>?_).trans (List.map_id _);show 0+i*1=i;lia
theorem M0(cs:List ak):M1 cs (1,0)=tV cs:=by
 unfold M1 tV;rw[yH,Fh]
theorem L0{cs:List ak}(ok:dZ 1000 cs):dZ 1000 (cs++[(1,0)]):=fun z hz=>by
 rcases bC.mp hz with h|h
 ·exact ok z h
 ·have:z=(1,0):=by simpa using h
  subst this;exact⟨⟨by decide,by decide,by decide⟩,by decide⟩
def Gj(cs:List ak):Prop:=dZ 1000 cs/\cs.length≤12/\gn cs≤10000
def sY:dG:=fun ds G Q=>∃cs:List ak,ds=[bW cs]/\Gj cs/\Q (oN (tV cs)) G
def Gu:aE:=cn (aV sX (ο (υ 0) (ο (i8 (ο (eC (.int 1)) (ο (eC (.int 0)) (aa)))) (aa))))
theorem N9:∀ds G Q,sY ds G Q->Gu (aN Q) (bh ["clocks"] ds) G:=by
 rintro ds G Q ⟨cs,rfl,⟨ok,hl,hn⟩,q⟩;refine⟨cs,(1,0),rfl,L0 ok,hl,by rw[yH];exact hn,?_⟩;rw[M0];exact aZ q
end My
namespace My
open PySem L2 L3
theorem uY{G:Gp}(cs:List ak):sL G (bW cs)=some (.tup (cs.map cX)):=by
 show jv (.tup (cs.map cD))=_;rw[jv,uX]
theorem Kb(cs:List ak):(Dat.D.tup (cs.map cX)).iL≤50:=by
 show Dat.gr (cs.map cX)+1≤50;have:=zr cs;lia
theorem J7(cs:List ak):(Dat.D.tup (cs.map cX)).ff (.tup (cs.map cX))=true:=by
 show Dat.i7 (cs.map cX) (cs.map cX)=true;rw[zp];simp
end My
namespace cP
open PySem jG
section
variable {prog:af} {w:ar} {A:bA} {E:δ->ζ->Prop} {s:ζ}
inductive gu(prog:af)(w:ar)(h:ai):List (List Int)->List δ->Prop
 |nil:gu prog w h [] []
 |cons {ks:List Int} {b:ε} {kss:List (List Int)} {vs:List δ}:eF prog w h ks b->gu prog w h kss vs->gu prog w h (ks::kss) (.ref b::vs)
def cF(prog:af)(w:ar)(h:ai)(kss:List (List Int))(a:ε):Prop:=∃o items n,h.get? a=some o/\o.cls=.type "tuple"/\o.data=.seq items n/\gu prog w h kss items.toList
def dI(prog:af)(w:ar)(kss:List (List Int)):Int:=reduceHash (bY (kss.map (hk prog w)))
def dr(kss:List (List Int)):Nat:=(kss.map fun ks=>ks.length+1).sum
def qq(kss:List (List Int)):Nat:=dr kss+1
theorem gu.inj{h:ai}{x y:List (List Int)}{vs:List δ}(hx:gu prog w h x vs)(hy:gu prog w h y vs):x=y:=by
 induction hx generalizing y with
 |nil=>cases hy;rfl
 |cons h1 _ ih=>
  cases hy with
  |cons h2 t2=>rw[h1.inj h2,ih t2]
theorem gu.mono{h h':ai}{x:List (List Int)}{vs:List δ}(m:∀ks b,eF prog w h ks b->eF prog w h' ks b)(hx:gu prog w h x vs):gu prog w h' x vs:=by
 induction hx with
 |nil=>exact .nil
 |cons h1 _ ih=>exact .cons (m _ _ h1) ih
theorem cF.typeIs{s:ζ}{kss:List (List Int)}{a:ε}(x:cF prog w s.heap kss a):s.TypeIs (.ref a) "tuple":=let ⟨o,_,_,ho,hc,_⟩:=x;⟨o,ho,hc⟩
theorem cF.inj{h:ai}{a:ε}{x y:List (List Int)}(hx:cF prog w h x a)(hy:cF prog w h y a):x=y:=by
 obtain⟨o,items,n,ho,_,hd,hi⟩:=hx;obtain⟨o',items',n',ho',_,hd',hi'⟩:=hy;obtain rfl:o=o':=ay (ho.symm.trans ho');rw[hd] at hd';injection hd' with h1 _;subst h1;exact hi.inj hi'
theorem cF.keeps{h h':ai}{kss:List (List Int)}{a d:ε}{o:aT}{es ep}(x:cF prog w h kss a)(ho:h.get? d=some o)(hd:o.data=.dict es ep)(hs:cQ d h h'):cF prog w h' kss a:=by
 obtain⟨o',items,n,ho',hc,hd',hi⟩:=x;have hne:a≠d:=by
  rintro rfl;obtain rfl:o'=o:=ay (ho'.symm.trans ho);rw[hd] at hd';exact nomatch hd'
 exact⟨o',items,n,(hs.2 a hne).trans ho',hc,hd',hi.mono fun ks b z=>z.keeps ho hd hs⟩
theorem wa{kss:List (List Int)}{a:ε}{Q:Int->ζ->Prop}(hu:A.units+8<cLine)(hk':cF prog w s.heap kss a)(h:Q (dI prog w kss) { s with toks:=s.toks+qq kss }):
  π (model prog w) A (pyHash (.ref a)) Q E s:=by
 have hT:=hk'.typeIs;obtain⟨o,items,n,ho,_,hd,hi⟩:=hk';unfold pyHash
 first|unfold pyHashByItsType|skip
 first|refine γ (wpAny_cRoomFor_or (.inr (by lia)) ?_)|skip
 refine γ (ee hT F.slot_tuple_hash.lookup ?_);show π _ _ (if (some (δ.builtin "tuple.__hash__")==some cM)=true then _ else _) Q E s;rw[if_neg (by rw[beq_builtin_none];exact Ω)];refine γ (ee hT F.slot_tuple_hash.lookup ?_);show π _ _ (callSpecialIfBoundUnlessNone? (.ref a) "__hash__" _ >>= _) Q E s;refine γ (wpAny_callSpecialIfBoundUnlessNone?_slot hT F.slot_tuple_hash (cz F.slot_tuple_hash hT F.entry_tuple_hash ?_ (F.args_tuple_hash_1 _)));show π _ _ (gR (.ref a) >>= _) _ _ s;refine γ (kA ho hd ?_);refine γ ?_;rw[←cL];refine bN _
  (fun rest (b:Array Int) s'=>∃done left,kss=done++left/\gu prog w s.heap left rest/\b.toList=done.map (hk prog w)/\s'={ s with toks:=s.toks+dr done })
  _ ?_ ?_ _ _ ⟨[],kss,rfl,hi,rfl,rfl⟩
 ·rintro x rest b s' ⟨done,left,rfl,hl,hb,rfl⟩;cases hl with
  |@cons k _ ks' _ h1 hl'=>
   refine γ (wpAny_pyHash_tuple (s:={ s with toks:=s.toks+dr done }) (by first|lia|(show _+1<cLine;lia)) h1 ?_)
   have ed:s.toks+dr done+(k.length+1)=s.toks+dr (done++[k]):=by
    unfold dr;rw[bw,List.sum_append];simp only[bH,qG,List.sum_cons,List.sum_nil];lia
   first
    |exact η ⟨done++[k],ks',by simp,hl',by simp[hb],by rw[ed]⟩
    |exact γ (η (η ⟨done++[k],ks',by simp,hl',by simp[hb],by rw[ed]⟩))
 ·rintro b s' ⟨done,left,rfl,hl,hb,rfl⟩;cases hl;rw[cI] at h;show π _ _ (retInt (bY b.toList)) _ _ _;rw[hb];refine wpAny_ret_mkInt ?_;show π _ _ (if (decide (-(2:Int)^63≤bY (done.map (hk prog w)))&&decide (bY (done.map (hk prog w))<2^63))=true then _ else _) Q E _;unfold dI reduceHash at h;have ed:s.toks+dr done+1=s.toks+qq done:=by unfold qq;lia
  by_cases hr:(decide (-(2:Int)^63≤bY (done.map (hk prog w)))&&decide (bY (done.map (hk prog w))<2^63))=true
  ·rw[if_pos hr];rw[if_pos hr] at h;exact η (by rw[←ed] at h;exact h)
  ·rw[if_neg hr];rw[if_neg hr] at h;exact γ (lJ (η (by rw[←ed] at h;exact h)))
theorem B5{x y:List (List Int)}{a b:ε}{P:qC->ζ->Prop}(hu:A.units+8<cLine)(hx:cF prog w s.heap x a)(hy:cF prog w s.heap y b)(h:P (.done (.ret (.bool (decide (x=y))))) s):
  π (model prog w) A (eJ.«tuple.__eq__» ⟨[.ref a,.ref b],[]⟩) P E s:=by
 have hTb:=hy.typeIs;obtain⟨oa,xs,na,hoa,_,hda,hia⟩:=hx;obtain⟨ob,ys,nb,hob,_,hdb,hib⟩:=hy;show π _ _ (isInstance (.ref b) (.type "tuple") >>= _) _ _ s;refine γ (gG hTb jn ?_);simp only[fR,bI,if_false];refine γ (kA hoa hda ?_);refine γ (kA hob hdb ?_);refine γ ?_;refine bN _
  (fun rest r s'=>r.1=none/\s'=s/\∃x' y' xs' ys',rest=List.zip xs' ys'/\gu prog w s.heap x' xs'/\gu prog w s.heap y' ys'/\decide (x'=y')=decide (x=y)/\(xs'.length==ys'.length)=(xs.size==ys.size))
  _ ?_ ?_ _ _ ⟨rfl,rfl,x,y,xs.toList,ys.toList,rfl,hia,hib,rfl,by simp⟩
 ·rintro⟨u,v⟩ rest r s' ⟨hr,rfl,x',y',xs',ys',hz,hx',hy',hdec,hlen⟩;cases hx' with
  |nil=>simp at hz
  |@cons k1 u' x'' xs'' h1 hx''=>
   cases hy' with
   |nil=>simp at hz
   |@cons k2 v' y'' ys'' h2 hy''=>
    simp only[dQ,nc,Prod.mk.injEq] at hz;obtain⟨⟨rfl,rfl⟩,rfl⟩:=hz;refine γ (il (by lia) h1 h2 ?_);by_cases hk:k1=k2
    ·subst hk;rw[decide_eq_true rfl];simp only[fR,bI,if_false];refine η ⟨rfl,rfl,x'',y'',xs'',ys'',rfl,hx'',hy'',?_,by simpa using hlen⟩;rw[←hdec];by_cases hxy:x''=y''
     ·simp[hxy]
     ·simp[hxy]
    ·rw[decide_eq_false hk];simp only[Bool.not_false,if_true];have hf:decide (x=y)=false:=by rw[←hdec];simp[hk]
     rw[hf] at h;exact γ (η (η (η h)))
 ·rintro⟨r1,r2⟩ s' ⟨hr,rfl,x',y',xs',ys',hz,hx',hy',hdec,hlen⟩;simp only at hr;subst hr;refine η ?_;have hfin:(xs.size==ys.size)=decide (x=y):=by
   rw[←hdec,←hlen];cases hx' with
   |nil=>
    cases hy' with
    |nil=>simp
    |cons _ _=>simp
   |cons _ _=>
    cases hy' with
    |nil=>simp
    |cons _ _=>simp at hz
  show P (.done (.ret (.bool (xs.size==ys.size)))) s';rw[hfin];exact h
theorem BZ{x y:List (List Int)}{a b:ε}{Q:Bool->ζ->Prop}(hu:A.units+16<cLine)(hx:cF prog w s.heap x a)(hy:cF prog w s.heap y b)(h:Q (decide (x=y)) s):
  π (model prog w) A (eqBool (.ref a) (.ref b)) Q E s:=by
 unfold eqBool
 try with_reducible refine br ?_
 show π _ _ (if (aJ a==aJ b)=true then _ else _) Q E s;by_cases hab:(aJ a==aJ b)=true
 ·rw[if_pos hab];have e:a=b:=by have:=eq_of_beq hab;injection this
  subst e;obtain rfl:=hx.inj hy;exact γ (lJ (η (by simpa using h)))
 ·rw[if_neg hab];exact γ (wpAny_richCompare_same_room (op:=.Eq) hx.typeIs hy.typeIs F.slot_tuple_eq
   (cz F.slot_tuple_eq hx.typeIs F.entry_tuple_eq (B5 (by first|lia|(show _+1+8<cLine;lia)) hx hy ⟨_,rfl,(fun e=>nomatch e),dB h⟩) (F.args_tuple_eq_2 _ _)) (by lia))
theorem IM{ks:List Int}{a:ε}{Q:Bool->ζ->Prop}(d:Nat)(hk:eF prog w s.heap ks a)(h:Q true s):π (model prog w) A (eqIsQuiet (d+1) (.ref a)) Q E s:=by
 have hT:=hk.typeIs;obtain⟨o,items,n,ho,_,hd,hi⟩:=hk;unfold eqIsQuiet;refine γ (ee hT F.slot_tuple_eq.lookup ?_);show π _ _ (isInstance (.ref a) (.type "tuple") >>= _) _ _ s;refine γ (gG hT jn ?_);simp only[fR,bI,if_false];refine γ (cR ho hd ?_);refine γ ?_;show π _ _ (forIn items _ _) _ _ s;rw[←cL];refine bN _ (fun rest r s'=>r.1=none/\s'=s/\∀v∈rest,carriedByValue v=true) _ ?_ ?_ _ _ ⟨rfl,rfl,hi.byValue⟩
 ·rintro v rest r s' ⟨hr,rfl,hall⟩;rw[eqIsQuiet_byValue _ (hall v χ)];refine γ (η ?_);simp only[fR,bI,if_false];exact η ⟨rfl,rfl,fun u hu'=>hall u (ω _ hu')⟩
 ·rintro⟨r1,r2⟩ s' ⟨hr,rfl,_⟩;simp only at hr;subst hr;exact η h
theorem pL{kss:List (List Int)}{a:ε}{Q:Bool->ζ->Prop}(hk:cF prog w s.heap kss a)(h:Q true s):π (model prog w) A (eqIsQuiet 8 (.ref a)) Q E s:=by
 have hT:=hk.typeIs;obtain⟨o,items,n,ho,_,hd,hi⟩:=hk;unfold eqIsQuiet;refine γ (ee hT F.slot_tuple_eq.lookup ?_);show π _ _ (isInstance (.ref a) (.type "tuple") >>= _) _ _ s;refine γ (gG hT jn ?_);simp only[fR,bI,if_false];refine γ (cR ho hd ?_);refine γ ?_;show π _ _ (forIn items _ _) _ _ s;rw[←cL];refine bN _ (fun rest r s'=>r.1=none/\s'=s/\∃x',gu prog w s.heap x' rest) _ ?_ ?_ _ _ ⟨rfl,rfl,kss,hi⟩
 ·rintro v rest r s' ⟨hr,rfl,x',hall⟩;cases hall with
  |cons h1 h2=>
   refine γ (IM 6 h1 ?_);simp only[fR,bI,if_false];exact η ⟨rfl,rfl,_,h2⟩
 ·rintro⟨r1,r2⟩ s' ⟨hr,rfl,_⟩;simp only at hr;subst hr;exact η h
theorem Kd{ks:List Int}{a:ε}{Q:Bool->ζ->Prop}(d:Nat)(hx:eF prog w s.heap ks a)(h:Q false s):π (model prog w) A (ofAClassStatement (d+1) (.ref a)) Q E s:=by
 have hT:=hx.typeIs;obtain⟨o,items,n,ho,hc,hd,hi⟩:=hx;unfold ofAClassStatement;refine γ (eR hT ?_);dsimp only;rw[if_pos (by decide)];refine γ (η ?_);rw[if_neg (by decide)];refine γ (cR ho hd ?_);dsimp only;refine γ ?_;rw[←cL];refine bN _ (fun rest r s'=>r.1=none/\s'=s/\∀v∈rest,carriedByValue v=true) _ ?_ ?_ _ _ ⟨rfl,rfl,hi.byValue⟩
 ·rintro v rest r s' ⟨hr,rfl,hall⟩;rw[vn _ (hall v χ)];refine γ (η ?_);rw[if_neg Ω];exact η ⟨rfl,rfl,fun u hu'=>hall u (ω _ hu')⟩
 ·rintro⟨r1,r2⟩ s' ⟨hr,rfl,_⟩;simp only at hr;subst hr;exact η h
theorem uU{kss:List (List Int)}{a:ε}{Q:Bool->ζ->Prop}(hx:cF prog w s.heap kss a)(h:Q false s):π (model prog w) A (ofAClassStatement 8 (.ref a)) Q E s:=by
 have hT:=hx.typeIs;obtain⟨o,items,n,ho,hc,hd,hi⟩:=hx;unfold ofAClassStatement;refine γ (eR hT ?_);dsimp only;rw[if_pos (by decide)];refine γ (η ?_);rw[if_neg (by decide)];refine γ (cR ho hd ?_);dsimp only;refine γ ?_;rw[←cL];refine bN _ (fun rest r s'=>r.1=none/\s'=s/\∃x',gu prog w s.heap x' rest) _ ?_ ?_ _ _ ⟨rfl,rfl,kss,hi⟩
 ·rintro v rest r s' ⟨hr,rfl,x',hall⟩;cases hall with
  |cons h1 h2=>
   refine γ (Kd 6 h1 ?_);rw[if_neg Ω];exact η ⟨rfl,rfl,_,h2⟩
 ·rintro⟨r1,r2⟩ s' ⟨hr,rfl,_⟩;simp only at hr;subst hr;exact η h
theorem Ee{ks:List Int}{a:ε}{Q:Bool->ζ->Prop}(d:Nat)(hx:eF prog w s.heap ks a)(h:Q true s):π (model prog w) A (hashByValue (d+1) (.ref a)) Q E s:=by
 have hT:=hx.typeIs;obtain⟨o,items,n,ho,hc,hd,hi⟩:=hx;unfold hashByValue;refine γ (ee hT F.slot_tuple_hash.lookup ?_);dsimp only;refine γ (cR ho hd ?_);refine γ ?_;show π _ _ (forIn items _ _) _ _ s;rw[←cL];refine bN _ (fun rest r s'=>r.1=none/\s'=s/\∃l,ItemsAre (intKind prog w) l rest) _ ?_ ?_ _ _ ⟨rfl,rfl,ks,hi⟩
 ·rintro v rest r s' ⟨hr,rfl,l,hl⟩;cases hl with
  |@cons k v' _ _ h1 h2=>
   obtain⟨tk,rfl⟩:=et (k:=k) h1;have e:hashByValue d (.int k tk)=pure true:=by cases d<;>rfl
   rw[e];refine γ (η ?_);rw[if_neg (by decide)];exact η ⟨rfl,rfl,_,h2⟩
 ·rintro⟨r1,r2⟩ s' ⟨hr,rfl,_⟩;simp only at hr;subst hr;exact η h
theorem yp{kss:List (List Int)}{a:ε}{Q:Bool->ζ->Prop}(hx:cF prog w s.heap kss a)(h:Q true s):π (model prog w) A (hashByValue 8 (.ref a)) Q E s:=by
 have hT:=hx.typeIs;obtain⟨o,items,n,ho,hc,hd,hi⟩:=hx;unfold hashByValue;refine γ (ee hT F.slot_tuple_hash.lookup ?_);dsimp only;refine γ (cR ho hd ?_);refine γ ?_;show π _ _ (forIn items _ _) _ _ s;rw[←cL];refine bN _ (fun rest r s'=>r.1=none/\s'=s/\∃x',gu prog w s.heap x' rest) _ ?_ ?_ _ _ ⟨rfl,rfl,kss,hi⟩
 ·rintro v rest r s' ⟨hr,rfl,l,hl⟩;cases hl with
  |cons h1 h2=>
   refine γ (Ee 6 h1 ?_);rw[if_neg (by decide)];exact η ⟨rfl,rfl,_,h2⟩
 ·rintro⟨r1,r2⟩ s' ⟨hr,rfl,_⟩;simp only at hr;subst hr;exact η h
end
def sf(prog:af)(w:ar):HeapKind prog w (List (List Int)) where
 is:=cF prog w
 hash:=dI prog w
 draws:=qq
 room:=fun A=>A.units+16<cLine
 inj:=fun hx hy=>hx.inj hy
 keeps:=fun x ho hd hs=>x.keeps ho hd hs
 pyHash:=fun hu hk h=>wa (by lia) hk h
 eqBool:=fun hu hx hy h=>BZ hu hx hy h
 quiet:=fun hk h=>pL hk h
end cP
namespace HT
open PySem PyProof.Rows
def iK:List (List Int)->List (List Int)->Bool
 |[],[]=>false
 |[],_::_=>true
 |_::_,[]=>false
 |x::xs,y::ys=>if x=y then iK xs ys else lexLt x y
inductive kR(h:ai):List δ->List (List Int)->Prop
 |nil:kR h [] []
 |cons {a:ε} {its:Array δ} {ks:List Int} {vs:List δ} {kss:List (List Int)}:gJ h a its->dF its.toList ks->kR h vs kss->kR h (.ref a::vs) (ks::kss)
theorem kR.length{h:ai}{vs:List δ}{kss:List (List Int)}(t:kR h vs kss):vs.length=kss.length:=by
 induction t with
 |nil=>rfl
 |cons _ _ _ ih=>simp[ih]
theorem yy{h:ai}{prog:af}{w:ar}{ks:List Int}{vs:List δ}(i:dF vs ks):ItemsAre (intKind prog w) ks vs:=by
 induction i with
 |nil=>exact .nil
 |cons a t _ ih=>exact .cons (by simp[intKind,nC]) ih
theorem yx{prog:af}{w:ar}{ks:List Int}{vs:List δ}(i:ItemsAre (intKind prog w) ks vs):dF vs ks:=by
 induction i with
 |nil=>exact .nil
 |cons h1 _ ih=>
  obtain⟨t,rfl⟩:=et h1;exact .cons _ _ ih
theorem vh{h:ai}{prog:af}{w:ar}{a:ε}{its:Array δ}{ks:List Int}(t:gJ h a its)(i:dF its.toList ks):cP.eF prog w h ks a:=by
 obtain⟨o,ho,hc,n,hd⟩:=t;exact⟨o,its,n,ho,hc,hd,yy (h:=h) i⟩
theorem qk{h:ai}{prog:af}{w:ar}{a:ε}{ks:List Int}(k:cP.eF prog w h ks a):∃its,gJ h a its/\dF its.toList ks:=by
 obtain⟨o,its,n,ho,hc,hd,i⟩:=k;exact⟨its,⟨o,ho,hc,n,hd⟩,yx i⟩
theorem xD{h:ai}{prog:af}{w:ar}{vs:List δ}{kss:List (List Int)}(t:cP.gu prog w h kss vs):kR h vs kss:=by
 induction t with
 |nil=>exact .nil
 |cons k _ ih=>
  obtain⟨its,t,i⟩:=qk k;exact .cons t i ih
section
open PySem.SeqAt
open PySem.AutoSeq1 (wpAny_loadPart')
open PySem.MeetsSeq PySem.MeetsSeq2 PySem.MeetsSeq3
theorem vE(l b:ε)(items items2:Array δ)(n n2:Nat)(dd dd2:Option ε)(sl sl2:Array (Option δ))(ns ms:List (List Int)):
  Meets (eJ.«tuple.__lt__» ⟨[.ref l,.ref b],[]⟩)
   (fun A R s=>s.heap.get? l=some { cls:=.type "tuple",dict:=dd,data:=.seq items n,slots:=sl }/\s.heap.get? b=some { cls:=.type "tuple",dict:=dd2,data:=.seq items2 n2,slots:=sl2 } ∧
    (kR s.heap items.toList ns/\kR s.heap items2.toList ms/\A.units+8<cLine)/\R (.ok (.ret (.bool (iK ns ms)))) s):=
 .of_wp fun prog w A R s h=>by
  obtain⟨hp,g,d,tk,os⟩:=s;obtain⟨hl,hb,⟨hi,hj,hu⟩,h⟩:=h;have f2:=mL;have z1:items.size=ns.length:=by rw[←hi.length];simp
  have z2:items2.size=ms.length:=by rw[←hj.length];simp
  have hu1:A.in1.units<cLine:=by first|(show A.units<cLine;lia)|(show A.units+1<cLine;lia)
  wp_walk using wpAny_loadPart' hl,wpAny_loadPart' hb,bN _ (fun rest b s'=>b.1=none/\s'=⟨hp,g,d,tk,os⟩/\∃(vs ws:List δ) (ns' ms':List (List Int)),rest=vs.zip ws ∧
   kR hp vs ns'/\kR hp ws ms'/\ns'.length+items2.size=ms'.length+items.size/\R (.ok (.ret (.bool (iK ns' ms')))) ⟨hp,g,d,tk,os⟩) _
  case turn=>
   rintro⟨y,x⟩ rest b s' ⟨hb',rfl,vs,ws,ns',ms',hz,hvi,hwi,hlen,hR⟩;cases hvi with
   |nil=>rw[List.zip_nil_left] at hz;cases hz
   |@cons a its ks _ _ t1 i1 hvi'=>
    cases hwi with
    |nil=>rw[qF] at hz;cases hz
    |@cons c its2 ks2 _ _ t2 i2 hwi'=>
     rw[dQ] at hz;injection hz with hyx hrest;injection hyx with hy hx;subst hy hx;have hR2:R (.ok (.ret (.bool (if ks=ks2 then iK _ _ else lexLt ks ks2)))) ⟨hp,g,d,tk,os⟩:=hR;simp only[au] at hlen;refine γ (il (knd:=intKind prog w) (s:=⟨hp,g,d,tk,os⟩) hu1 (vh t1 i1) (vh t2 i2) ?_);by_cases e:ks=ks2
     ·rw[if_pos e] at hR2;rw[decide_eq_true e];wp_walk;exact⟨rfl,rfl,_,_,_,_,hrest,hvi',hwi',by lia,hR2⟩
     ·rw[if_neg e] at hR2;rw[decide_eq_false e];have hri:∀(E:δ->ζ->Prop) (Q:δ->ζ->Prop),Q (.bool (lexLt ks ks2)) ⟨hp,g,d,tk,os⟩->π (model prog w) A.in1 (iQ .Lt (.ref a) (.ref c)) Q E ⟨hp,g,d,tk,os⟩:=fun E Q h=>(oM (s:=⟨hp,g,d,tk,os⟩) t1 t2 i1 i2 hu1 h:π (model prog w) A.in1 (compareOp .Lt (.ref a) (.ref c)) Q E ⟨hp,g,d,tk,os⟩);wp_walk using hri;exact⟨_,rfl,by simpa using hR2⟩
  case fin=>
   rintro⟨b1,b2⟩ s' ⟨hb',rfl,vs,ws,ns',ms',hz,hvi,hwi,hlen,hR⟩;simp only at hb';subst hb';have hv:iK ns' ms'=decide (items.size<items2.size):=by
    cases hvi with
    |nil=>
     cases hwi with
     |nil=>
      simp only[eY] at hlen;exact (decide_eq_false (by lia)).symm
     |cons c u hw=>
      simp only[eY,au] at hlen;exact (decide_eq_true (by lia)).symm
    |cons a t hv=>
     cases hwi with
     |nil=>
      simp only[eY,au] at hlen;exact (decide_eq_false (by lia)).symm
     |cons c u hw=>
      rw[dQ] at hz;cases hz
   rw[hv] at hR;wp_walk;exact⟨_,rfl,by simpa [jt] using hR⟩
  case h=>
   exact⟨rfl,rfl,items.toList,items2.toList,ns,ms,rfl,hi,hj,by lia,h⟩
end
section
variable {prog:af} {w:ar} {A:bA} {E:δ->ζ->Prop} {s:ζ}
theorem AE{l b:ε}{items items2:Array δ}{ns ms:List (List Int)}{Q:δ->ζ->Prop}(hl:gJ s.heap l items)(hb:gJ s.heap b items2)(hi:kR s.heap items.toList ns)(hj:kR s.heap items2.toList ms)
  (hu:A.units+16<cLine) (h:Q (.bool (iK ns ms)) s):π (model prog w) A (compareOp .Lt (.ref l) (.ref b)) Q E s:=by
 obtain⟨⟨cls,dd,data,sl⟩,ho,hc,n,hd⟩:=id hl;obtain⟨⟨cls2,dd2,data2,sl2⟩,ho2,hc2,n2,hd2⟩:=id hb;simp only at hc hd hc2 hd2;subst hc hd hc2 hd2;exact richCompare_meets_room (op:=.Lt) ⟨_,ho,rfl⟩ ⟨_,ho2,rfl⟩ oq nF (mN _ _) (vE l b items items2 n n2 dd dd2 sl sl2 ns ms)
  ⟨ho,ho2,⟨hi,hj,by first|lia|(show A.units+1+8<cLine;lia)|(show A.units+2+8<cLine;lia)⟩,show fk (iK ns ms)≠pb/\Q (.bool (iK ns ms)) s from⟨(fun x=>nomatch x),h⟩⟩ (by lia)
end
end HT
namespace cP
open PySem jG
section
variable {prog:af} {w:ar} {A:bA} {E:δ->ζ->Prop} {s:ζ}
def qp(prog:af)(w:ar)(p:List (List Int)×ε):Int×δ:=(dI prog w p.1,.ref p.2)
structure ub(prog:af)(w:ar)(h:ai)(a:ε)(o:aT)(es:Array (Int×δ))(ep:Nat)(t:aW)(xs:List (List (List Int)×ε)):Prop where
 at_:h.get? a=some o
 ex:o.ExactSet
 dat:o.data=.set es ep t
 ents:es.toList=xs.map (qp prog w)
 keys:∀p∈xs,cF prog w h p.1 p.2
 nd:(xs.map (·.1)).Nodup
 plain:t.plain=true
 led:t.led = !(w.params.followText "set-order")
theorem Ek{ks:List (List Int)}{a:ε}{Q:Bool->ζ->Prop}(hx:cF prog w s.heap ks a)(l:List δ)(hl:∀v∈l,∃k y,v=.ref y/\cF prog w s.heap k y)(h:Q false s):
  π (model prog w) A (searchCouldBeSeen (.ref a) l) Q E s:=by
 unfold searchCouldBeSeen;refine γ ?_;refine bN _ (fun rest r s'=>r.1=none/\s'=s/\∀v∈rest,∃k y,v=.ref y/\cF prog w s.heap k y) _ ?_ ?_ _ _ ⟨rfl,rfl,hl⟩
 ·rintro v rest r s' ⟨hr,rfl,hall⟩;obtain⟨k,y,rfl,hy⟩:=hall v χ;have hrest:∀v∈rest,∃k y,v=aJ y/\cF prog w s'.heap k y:=fun v hv=>hall v (ω _ hv);dsimp only;by_cases hc:((a==y)||(carriedByValue (.ref a)&&carriedByValue (.ref y)))=true
  ·rw[if_pos hc];exact η ⟨rfl,rfl,hrest⟩
  ·rw[if_neg hc];refine γ (pL hx ?_);rw[if_neg (by decide)];refine γ (pL hy ?_);rw[if_neg (by decide)];refine γ (uU hx ?_);rw[if_neg Ω];refine γ (uU hy ?_);rw[if_neg Ω];exact η ⟨rfl,rfl,hrest⟩
 ·rintro⟨r1,r2⟩ s' ⟨hr,rfl,_⟩;simp only at hr;subst hr;exact η h
theorem M5{es:Array (Int×δ)}{xs:List (List (List Int)×ε)}(he:es.toList=xs.map (qp prog w)){i:Nat}(hi:i<es.size):∃p,xs[i]?=some p/\es[i]?=some (qp prog w p):=by
 have hl:xs.length=es.size:=by
  have:=congrArg du he;simpa using this.symm
 obtain⟨p,hp⟩:∃p,xs[i]?=some p:=⟨xs[i]'(by lia),aU (by lia)⟩;refine⟨p,hp,?_⟩;rw[←ao,he,ag,hp];rfl
theorem sG{a:ε}{o:aT}{es:Array (Int×δ)}{ep:Nat}{t:aW}{xs:List (List (List Int)×ε)}(S:ub prog w s.heap a o es ep t xs)(T:Tab t (es.toList.map (·.1)))(hu:A.units+16<cLine)
  {ks:List (List Int)} {x:ε} (hx:cF prog w s.heap ks x) {ke:Nat} (hke:ke≤10*t.mask+130) (hemp:(sq t.mask (dI prog w ks) ke).j∉t.place.toList) (hliv:∀k,k<ke->(sq t.mask (dI prog w ks) k).j∈t.place.toList)
  {Q:SetFound->ζ->Prop} (hin:ks∈xs.map (·.1)->Q (.there none) s) (hout:ks∉xs.map (·.1)->Q (.free (sq t.mask (dI prog w ks) ke).j false) s):
  ∀(fuel n:Nat) (stand:Option uS),stand.getD (t.probeStart (dI prog w ks))=sq t.mask (dI prog w ks) n->n≤ke->ke-n<fuel ->
   (∀(k' i':Nat) p,k' < n->t.place[i']?=some (sq t.mask (dI prog w ks) k').j->xs[i']?=some p->p.1≠ks) ->
   π (model prog w) A (setSearchFrom a (.ref x) (dI prog w ks) true fuel stand) Q E s
 |0,n,stand,_,_,hf,_=>by lia
 |fuel+1,n,stand,hst,hn,hf,hprev=>by
  have fv:t.place.size=es.size:=by
   have:=T.size
   rw[ml] at this
   exact this
  have hfit:=e7 (Tab.r T)
  have hal:∀(i:Nat) (p:List (List Int)×ε),xs[i]?=some p->((es[i]?).map fun z:Int×δ=>z.1).getD 0=dI prog w p.1:=fun i p hp=>by
   rw[←ao,S.ents,ag,hp]
   rfl
  unfold setSearchFrom
  refine γ (bB S.at_ S.dat hfit ?_)
  dsimp only
  rw[zm T.mask,if_neg Ω,hst]
  obtain⟨met,e,m⟩:=rK T (hashAt:=fun i=>((es[i]?).map fun z:Int×δ=>z.1).getD 0) hke hemp hliv hn
  erw [e]
  dsimp only
  cases m with
  |free h1 h5=>
   dsimp only
   refine η (hout fun hmem=>?_)
   obtain⟨p,hp,rfl⟩:=Φ.mp hmem
   obtain⟨i,hi⟩:=er hp
   have hil:i<es.size:=by
    have h1:=(aP.mp hi).1
    have h2:=congrArg du S.ents
    simp at h2
    lia
   have hj:∃j,t.place[i]?=some j:=⟨t.place[i]'(by lia),by simp⟩
   obtain⟨j,hj⟩:=hj
   have hz:(j,dI prog w p.1)∈t.place.toList.zip (es.toList.map (·.1)):=by
    refine aY (i:=i) ?_
    rw[lM]
    refine⟨by rw[ao];exact hj,?_⟩
    rw[S.ents,bp,ag,hi]
    rfl
   obtain⟨k,hk1,dI⟩:=T.reach _ _ hz
   have hkke:k<ke:=by
    refine ax fun z=>hemp ?_
    by_cases q:k=ke
    ·rw[←q,hk1]
     exact aY (by rw[ao];exact hj)
    ·exact dI ke (by lia)
   rw[←hk1] at hj
   by_cases hkn:k<n
   ·exact hprev k i p hkn hj hi rfl
   ·exact h5 k i (by lia) hkke hj (hal i p hi)
  |@xY k i h1 h2 h3 h4 h5=>
   dsimp only
   have hil:i<es.size:=by
    have:=(ba.mp h3).1
    lia
   obtain⟨p,hp,hesi⟩:=M5 S.ents hil
   have hyk:=S.keys p (aY hp)
   have hpk:p∈xs:=aY hp
   have go:π (model prog w) A (do
     let some (_,y):=es[i]? | unsupported "internal:set-entry"
     let equal ←holding [y] (eqBool y (.ref x))
     let (es',_,t') ←setState a
     if true&&equal then return .there none
     let some same:=t'.sameMemory t.moves t.mask|unsupported "set.changed-during-lookup:is-the-new-block-at-the-old-address"
     let still ←match (if same then t'.slot (sq t.mask (dI prog w ks) k).j else .empty) with
      |.live i'=>match es'[i']? with
       |some (_,y')=>do pure (if ←isSame y' y then some i' else none)
       |none=>pure none
      |_=>pure none
     match still with
     |none=>rule "set.search.anew";setSearchFrom a (.ref x) (dI prog w ks) true fuel none
     | some i'=>if equal then return .there (some i') else setSearchFrom a (.ref x) (dI prog w ks) true fuel (some (sq t.mask (dI prog w ks) (k+1)))) Q E s:=by
    rw[hesi]
    dsimp only[qp]
    refine γ (br (BZ hu hyk hx ?_))
    refine γ (bB S.at_ S.dat hfit ?_)
    dsimp only
    by_cases heq:p.1=ks
    ·rw[decide_eq_true heq,if_pos (by decide)]
     exact η (hin (Φ.mpr ⟨p,hpk,heq⟩))
    ·rw[decide_eq_false heq,if_neg (by decide)]
     have hsm:t.sameMemory t.moves t.mask=some true:=by unfold pH;simp
     rw[hsm]
     dsimp only
     rw[if_pos rfl,pZ T.rise h3]
     dsimp only
     rw[hesi]
     dsimp only[qp]
     refine γ (wpAny_isSame_ref_self ?_)
     rw[if_pos rfl]
     refine γ (η ?_)
     dsimp only
     rw[if_neg Ω]
     refine sG S T hu hx hke hemp hliv hin hout fuel (k+1) _ rfl (by lia) (by lia) fun k' i' p' hk' hpl hp'=>?_
     by_cases hkn:k' < n
     ·exact hprev k' i' p' hkn hpl hp'
     ·by_cases hkk:k'=k
      ·subst hkk
       have e1:=below_at T.rise h3
       have e2:=below_at T.rise hpl
       have:i'=i:=by lia
       subst this
       rw[hp] at hp'
       cases hp'
       exact heq
      ·intro he
       exact h5 k' i' (by lia) (by lia) hpl (by rw[hal i' p' hp',he])
   by_cases hled:t.led=true
   ·rw[hled]
    rw[if_neg (by decide)]
    exact go
   ·have hled':t.led=false:=by simpa using hled
    rw[hled']
    rw[if_pos (by decide)]
    refine γ (Ek hx _ (fun v hv=>?_) ?_)
    ·obtain⟨e0,he0,rfl⟩:=Φ.mp hv
     have he1:e0∈es.toList:=by
      have:=gL.mp he0
      exact gL.mpr (Array.mem_filter.mp this).1
     rw[S.ents] at he1
     obtain⟨p0,hp0,rfl⟩:=Φ.mp he1
     exact⟨p0.1,p0.2,rfl,S.keys p0 hp0⟩
    ·rw[if_neg Ω]
     exact go
def iN(prog:af)(w:ar)(h:ai)(a:ε)(xs:List (List (List Int)×ε)):Prop:=
 ∃o es ep t,ub prog w h a o es ep t xs/\Tab t (es.toList.map (·.1))
theorem J4{h h':ai}{ks:List Int}{b:ε}(k:∀c ob,h.get? c=some ob->h'.get? c=some ob)(z:eF prog w h ks b):eF prog w h' ks b:=by
 obtain⟨o,its,n,ho,r⟩:=z;exact⟨o,its,n,k _ _ ho,r⟩
theorem sj{h h':ai}{kss:List (List Int)}{b:ε}(k:∀c ob,h.get? c=some ob->h'.get? c=some ob)(z:cF prog w h kss b):cF prog w h' kss b:=by
 obtain⟨o,its,n,ho,hc,hd,hi⟩:=z;exact⟨o,its,n,k _ _ ho,hc,hd,hi.mono fun ks b z=>J4 k z⟩
theorem si{h h':ai}{a y:ε}{ks:List (List Int)}{o:aT}{es:Array (Int×δ)}{ep:Nat}{t:aW}(ho:h.get? a=some o)(hd:o.data=.set es ep t)(sb:cQ a h h')(hy:cF prog w h ks y):cF prog w h' ks y:=by
 obtain⟨oy,items,n,hoy,hc,hdy,hi⟩:=hy;have ne:y≠a:=by
  intro e;subst e;rw[ho] at hoy;cases hoy;rw[hd] at hdy;cases hdy
 exact⟨oy,items,n,(sb.2 y ne).trans hoy,hc,hdy,hi.mono fun ks b z=>cP.nW ho hd sb z⟩
theorem BY{a:ε}{o:aT}{es:Array (Int×δ)}{ep:Nat}{t:aW}{xs:List (List (List Int)×ε)}(S:ub prog w s.heap a o es ep t xs)(T:ny t (es.toList.map (·.1)))(hf:t.tooFull=true)(h64:es.size≤64)
  {Q:Unit->ζ->Prop} (h:∀h' xs',cQ a s.heap h'->iN prog w h' a xs'->xs'.Perm xs->Q () { s with heap:=h' }):
  π (model prog w) A (setRelay a (dP es.size)) Q E s:=by
 have fv:(es.toList.map (·.1)).length=es.size:=ml
 obtain⟨m,hm1,hm2,hm3,hm4⟩:=tE T hf (by rw[fv];exact h64)
 rw[fv] at hm1 hm3
 unfold setRelay
 refine γ (bB S.at_ S.dat (e7 T) ?_)
 dsimp only
 rw[hm1,if_neg (by rw[bM];lia)]
 obtain⟨t2,order,e2,em,el,ep2,ef,hperm,T2⟩:=zi (finger:=t.finger) (moves:=t.movedTo m) (led:=t.led) (plain:=t.plain) hm2 (es.map (·.1)) (by simpa using hm3)
 have erel:t.relaid (es.map (·.1)) (dP es.size)=some (t2,order):=by
  unfold ug
  rw[hm1,Nat.add_sub_cancel]
  exact e2
 have hosz:(es.map (·.1)).size=es.size:=by simp
 rw[hosz] at hperm
 have hes2:(order.filterMap (es[·]?)).toList=(order.toList.filterMap fun k=>xs[k]?).map (qp prog w):=by
  rw[gd,←lj,←S.ents]
  congr 1
  funext k
  rw[ao]
 have hxl:xs.length=es.size:=by
  have:=congrArg du S.ents
  simpa using this.symm
 have hxp:(order.toList.filterMap fun k=>xs[k]?).Perm xs:=by
  have:=hperm.filterMap fun k=>xs[k]?
  rw[←hxl,lA] at this
  exact this
 have hsz2:(order.filterMap (es[·]?)).size=es.size:=by
  have:=congrArg du hes2
  simp only[μ] at this
  rw[hxp.length_eq,hxl] at this
  rw[←cC]
  exact this
 refine γ ?_
 show π _ _ (do
  let some (t,order):=t.relaid (es.map (·.1)) (dP es.size)|unsupported "internal:set-table-without-room"
  let es':=order.filterMap (es[·]?)
  if es'.size != es.size then unsupported "internal:set-table-lost-an-element"
  pure (es',t)) _ _ _
 rw[erel]
 dsimp only
 rw[hsz2,if_neg (by simp)]
 refine η ?_
 dsimp only
 refine iG S.at_ S.dat ?_ (by rw[hsz2,bM];lia)
 have sb:=cZ s.heap a (gH (order.filterMap (es[·]?)) t2)
 refine h _ _ sb ⟨_,_,_,_,⟨qV S.at_ S.dat,⟨S.ex.1,S.ex.2.1,S.ex.2.2⟩,rfl,hes2,fun p hp=>si S.at_ S.dat sb (S.keys p (hxp.mem_iff.mp hp)),?_,ep2.trans S.plain,el.trans S.led⟩,?_⟩ hxp
 ·exact (hxp.map _).nodup_iff.mpr S.nd
 ·have eT:(order.filterMap (es[·]?)).toList.map (·.1)=order.toList.filterMap fun k=>(es.map (·.1))[k]?:=by
   rw[gd,kJ]
   congr 1
   funext k
   simp
  rw[eT]
  exact T2
theorem HZ{a:ε}{xs:List (List (List Int)×ε)}(S:iN prog w s.heap a xs)(h64:xs.length<64)(hu:A.units+16<cLine){ks:List (List Int)}{x:ε}(hx:cF prog w s.heap ks x)
  {Q:Bool->ζ->Prop} (h:∀b h' tk xs',s.toks≤tk->cQ a s.heap h'->iN prog w h' a xs'->(ks∈xs.map (·.1)->xs'.Perm xs)->(ks∉xs.map (·.1)->xs'.Perm ((ks,x)::xs))->Q b { s with heap:=h',toks:=tk }):
  π (model prog w) A (setAdd a (.ref x)) Q E s:=by
 obtain⟨o,es,ep,t,S,T⟩:=S;have hxl:xs.length=es.size:=by
  have:=congrArg du S.ents;simpa using this.symm
 unfold setAdd;refine br (γ (wa (by lia) hx ?_));unfold setAddHashed;refine br ?_;have ie:∀b h' xs',cQ a s.heap h'->iN prog w h' a xs'->(ks∈xs.map (·.1)->xs'.Perm xs)->(ks∉xs.map (·.1)->xs'.Perm ((ks,x)::xs))->Q b { s with heap:=h',toks:=s.toks+qq ks }:=
  fun b h' xs' q1 q2 q3 q4=>h b h' _ xs' (ja _ _) q1 q2 q3 q4
 obtain⟨ke,hke,hemp,hliv⟩:=rP T (dI prog w ks);unfold setAddHashedIn;refine γ (bB (s:={ s with toks:=s.toks+qq ks }) S.at_ S.dat (e7 (Tab.r T)) ?_);dsimp only;rw[show byScan (.ref x) es=false from rfl,if_neg Ω];refine γ ?_;unfold setSearch;refine sG (s:={ s with toks:=s.toks+qq ks }) S T hu hx hke hemp hliv (fun hin=>?_) (fun hout=>?_) 100000 0 none rfl (aK _) (by rcases T.mask with e|e|e<;>rw[e] at hke<;>lia) fun k' i' p hk'=>absurd hk' (m7 _)
 ·dsimp only;exact η (ie false s.heap xs (.refl _ _) ⟨o,es,ep,t,S,T⟩ (fun _=>.refl _) fun z=>absurd hin z)
 ·dsimp only;refine γ (bB (s:={ s with toks:=s.toks+qq ks }) S.at_ S.dat (e7 (Tab.r T)) ?_);dsimp only;rw[C4 T.jA];dsimp only;rw[S.plain,if_pos rfl];refine γ (yp (s:={ s with toks:=s.toks+qq ks }) hx ?_);rw[if_pos rfl];have TR:=T.put hemp hliv;generalize hp:fx t.place (sq t.mask (dI prog w ks) ke).j=p at TR ⊢;have hes1:(ae es p (dI prog w ks,aJ x)).toList=(xs.take p++(ks,x)::xs.drop p).map (qp prog w):=by
   rw[cH,S.ents,bw,bH,i0,i3];rfl
  have hhs:(ae es p (dI prog w ks,aJ x)).toList.map (·.1)=(es.toList.map (·.1)).take p++dI prog w ks::(es.toList.map (·.1)).drop p:=by
   rw[cH,bw,bH,i0,i3]
  have hsz1:(ae es p (dI prog w ks,aJ x)).size=es.size+1:=by
   rw[←cC,cH,(fu p es.toList _).length_eq,au,cC]
  rw[←hhs] at TR;refine γ (iG (s:={ s with toks:=s.toks+qq ks }) S.at_ S.dat ?_ (by rw[hsz1,bM];lia));have sb:=cZ s.heap a (gH (ae es p (dI prog w ks,aJ x)) { t with place:=ae t.place p (sq t.mask (dI prog w ks) ke).j,dummies:=#[],plain:=true });have hpx:(xs.take p++(ks,x)::xs.drop p).Perm ((ks,x)::xs):=fu p xs _;have S1:ub prog w (s.heap.update a (gH (ae es p (dI prog w ks,aJ x)) { t with place:=ae t.place p (sq t.mask (dI prog w ks) ke).j,dummies:=#[],plain:=true })) a { o with data:=.set (ae es p (dI prog w ks,aJ x)) (ep+1) { t with place:=ae t.place p (sq t.mask (dI prog w ks) ke).j,dummies:=#[],plain:=true }} (ae es p (dI prog w ks,aJ x)) (ep+1)
    { t with place:=ae t.place p (sq t.mask (dI prog w ks) ke).j,dummies:=#[],plain:=true } (xs.take p++(ks,x)::xs.drop p):=by
   refine⟨qV S.at_ S.dat,⟨S.ex.1,S.ex.2.1,S.ex.2.2⟩,rfl,hes1,fun q hq=>?_,?_,rfl,S.led⟩
   ·rcases aM.mp (hpx.mem_iff.mp hq) with e|e
    ·rw[e];exact si S.at_ S.dat sb hx
    ·exact si S.at_ S.dat sb (S.keys q e)
   ·refine (hpx.map _).nodup_iff.mpr ?_;rw[bH,eo];exact⟨hout,S.nd⟩
  have TR':ny { t with place:=ae t.place p (sq t.mask (dI prog w ks) ke).j,dummies:=#[],plain:=true } ((ae es p (dI prog w ks,aJ x)).toList.map (·.1)):=
   ⟨TR.mask,TR.size,TR.rise,TR.bound,TR.jA,TR.Ht,TR.reach⟩
  by_cases hfull:({ t with place:=ae t.place p (sq t.mask (dI prog w ks) ke).j,dummies:=#[],plain:=true }:aW).tooFull=true
  ·rw[hfull,if_pos (by decide)];refine γ ?_;rw[←hsz1];refine BY (s:={ s with heap:=s.heap.update a _,toks:=s.toks+qq ks }) S1 TR' hfull (by rw[hsz1];lia) fun h' xs' sb' S2 pm=>?_;exact η (ie true h' xs' (sb.trans sb') S2 (fun z=>absurd z hout) fun _=>pm.trans hpx)
  ·have hfull':({ t with place:=ae t.place p (sq t.mask (dI prog w ks) ke).j,dummies:=#[],plain:=true }:aW).tooFull=false:=by simpa using hfull
   rw[hfull',if_neg (by decide)];exact η (ie true _ _ sb ⟨_,_,_,_,S1,TR'.tab hfull'⟩ (fun z=>absurd z hout) fun _=>hpx)
structure o9(ps xs:List (List (List Int)×ε)):Prop where
 sub:∀p∈xs,p∈ps
 all:∀p∈ps,p.1∈xs.map (·.1)
 len:xs.length≤ps.length
theorem o9.add{ps xs xs':List (List (List Int)×ε)}{p:List (List Int)×ε}(d:o9 ps xs)(h1:p.1∈xs.map (·.1)->xs'.Perm xs)(h2:p.1∉xs.map (·.1)->xs'.Perm (p::xs)):o9 (ps++[p]) xs':=by
 by_cases hm:p.1∈xs.map (·.1)
 ·have pm:=h1 hm;refine⟨fun q hq=>bX _ (d.sub q (pm.mem_iff.mp hq)),fun q hq=>?_,?_⟩
  ·rw[(pm.map _).mem_iff];rcases bC.mp hq with hq|hq
   ·exact d.all q hq
   ·have:q=p:=by simpa using hq
    rw[this];exact hm
  ·rw[pm.length_eq,av];have:=d.len;lia
 ·have pm:=h2 hm;refine⟨fun q hq=>?_,fun q hq=>?_,?_⟩
  ·rcases aM.mp (pm.mem_iff.mp hq) with e|e
   ·exact aC _ (by simp[e])
   ·exact bX _ (d.sub q e)
  ·rw[(pm.map _).mem_iff,bH];rcases bC.mp hq with hq|hq
   ·exact ω _ (d.all q hq)
   ·have:q=p:=by simpa using hq
    rw[this];exact χ
  ·rw[pm.length_eq,av,au,dk];have:=d.len;lia
theorem sE{I:ε}{fp:List ε}{n:Nat}{P:Nat->δ->Prop}{St:Nat->ai->Prop}(W:Walks prog w A.in1 I fp [I] n P St)(S:ε)(hSf:S∉fp)(ps:List (List (List Int)×ε))(hps:ps.length=n)(hn:n≤60)
  (hu:A.in1.units+16<cLine) (hval:∀(i:Nat) v,P i v->∃p,ps[i]?=some p/\v=.ref p.2) (h0:ai) (hfar:∀b ob,h0.get? b=some ob->b≠I/\b≠S) (hk0:∀p∈ps,cF prog w h0 p.1 p.2) {R:Result->ζ->Prop}:
  ∀(k i:Nat) (s:ζ) (xs:List (List (List Int)×ε)),n-i=k->i≤n->St i s.heap->iN prog w s.heap S xs->o9 (ps.take i) xs->(∀b ob,h0.get? b=some ob->s.heap.get? b=some ob) ->
   (∀h' tk xs',(∀b ob,b≠S->b≠I->s.heap.get? b=some ob->h'.get? b=some ob)->iN prog w h' S xs'->o9 ps xs'->R (.ok (.ret .none)) { s with heap:=h',toks:=tk }) ->
   gw (model prog w) A (.builtin "set.update.loop" ⟨[.ref S,.ref I],[]⟩) R s:=by
 have hSI:S≠I:=fun e=>hSf (W.sub _ (by rw[e];simp));have on_kept:∀{h h':ai} {xs:List (List (List Int)×ε)},iN prog w h S xs->(∀p∈xs,p∈ps)->(∀b ob,b≠I->h.get? b=some ob->h'.get? b=some ob)->(∀b ob,h0.get? b=some ob->h.get? b=some ob)->iN prog w h' S xs:=fun {h h' xs} ⟨o,es,ep,t,q,T⟩ sub kp e0=>
  ⟨o,es,ep,t,⟨kp S _ hSI q.at_,q.ex,q.dat,q.ents,fun p hp=>sj (fun b ob e=>kp b ob (hfar b ob e).1 (e0 b ob e)) (hk0 p (sub p hp)),q.nd,q.plain,q.led⟩,T⟩
 intro k
 induction k with
 |zero=>
  intro i s xs hk hi hst hS hd hkeys hR;have hin:i=n:=by lia
  subst hin;refine bS dq ?_;rw[bZ bR _];show π _ A.in1 (pyNext (.ref I) >>= _) _ _ s;refine γ (W.done s _ _ hst fun h' tk kp=>?_);show π _ A.in1 (ret cM) _ _ _;have hd':o9 ps xs:=by
   rw[←hps,mF] at hd;exact hd
  exact η (hR h' tk xs (fun b ob _ hb e=>kp b ob (by simpa using hb) e) (on_kept hS hd'.sub (fun b ob hb e=>kp b ob (by simpa using hb) e) hkeys) hd')
 |succ k ih=>
  intro i s xs hk hi hst hS hd hkeys hR;have hlt:i<n:=by lia
  refine bS dq ?_;rw[bZ bR _];show π _ A.in1 (pyNext (.ref I) >>= _) _ _ s;refine γ (W.item i s _ _ hlt hst fun v h1 tk1 hP hst1 kp1=>?_);obtain⟨p,hp,rfl⟩:=hval i v hP;have hpm:p∈ps:=aY hp;have kp1':∀b ob,b≠I->s.heap.get? b=some ob->h1.get? b=some ob:=fun b ob hb e=>kp1 b ob (by simpa using hb) e;have ext1:∀b ob,h0.get? b=some ob->h1.get? b=some ob:=fun b ob e=>kp1' b ob (hfar b ob e).1 (hkeys b ob e);have key1:∀q∈ps,cF prog w h1 q.1 q.2:=fun q hq=>sj ext1 (hk0 q hq);have sub0:∀q∈xs,q∈ps:=fun q hq=>jN (hd.sub q hq);have hS1:=on_kept hS sub0 kp1' hkeys;show π _ A.in1 (holding [aJ p.2] (setAdd S (.ref p.2)) >>= _) _ _ _;have hlen:xs.length<64:=by
   have h1:=hd.len;rw[dM] at h1;lia
  refine γ (br (HZ (s:={ s with heap:=h1,toks:=tk1 }) hS1 hlen hu (key1 p hpm) fun b h2 tk2 xs2 _ sb hS2 q1 q2=>?_));have hd2:o9 (ps.take (i+1)) xs2:=by
   rw[List.take_add_one,hp];exact hd.add q1 q2
  obtain⟨oS,_,_,_,SS,_⟩:=hS1;refine η ⟨eA bR _,ih (i+1) _ xs2 (by lia) hlt (W.frame _ _ _ hst1 fun c hc ob e=>(sb.2 c (fun z=>hSf (z▸hc))).trans e) hS2 hd2 (fun b ob e=>(sb.2 b (hfar b ob e).2).trans (ext1 b ob e)) fun h' tk xs' kp' a1 a2=>?_⟩;exact hR h' tk xs' (fun c ob c1 c2 e=>kp' c ob c1 c2 ((sb.2 c c1).trans (kp1' c ob c2 e))) a1 a2
set_option maxHeartbeats 6400000 in
theorem vL{l:ε}{vs:List δ}{ps:List (List (List Int)×ε)}{Q:δ->ζ->Prop}(hh:A.handled=none)(hl:s.heap.IsList l vs.toArray)(hv:vs=ps.map fun p=>aJ p.2)(hk:∀p∈ps,cF prog w s.heap p.1 p.2)(hn:ps.length≤60)
  (hu:A.units+20<cLine)
  (h:∀h' tk xs,(∀b ob,s.heap.get? b=some ob->h'.get? b=some ob)->iN prog w h' s.heap.objs.size xs->o9 ps xs->Q (.ref s.heap.objs.size) { s with heap:=h',toks:=tk }):
  π (model prog w) A (call (.type "set") [.ref l]) Q E s:=by
 obtain⟨c,tl,hmro⟩:=F.called_set.mro;have hmade:=F.called_set.made;have hsub:=F.called_set.sub;refine wpAny_call (m6 ?_);show π _ _ (callAny (.type "set") _) _ _ _;refine η ⟨kK _ (by decide +kernel),bS F.entry_type_call ?_⟩;rw[qM (weight_type_call_type "set" [.ref l] []) rfl];have h1:=F.called_set.notType;have h2:=F.called_set.canCreate;have hct:=F.typeCall_set_1 (.ref l)
 repeat (any_goals (first|assumption|wp_step))
 refine gv (xR (.ref l) (E:=E) (Q₁:=fun obj s₁=>obj=.ref s.heap.objs.size/\s₁={ s with heap:=s.heap.push (cy w)}) ⟨rfl,rfl⟩) fun r s₁ hr=>?_;cases r with
 |error e=>exact hr
 |ok fl=>
  cases fl with
  |ret obj=>
   obtain⟨rfl,rfl⟩:=hr;have hS:(s.heap.push (cy w)).get? s.heap.objs.size=some (cy w):=ab _ rfl;have hT:kW { s with heap:=s.heap.push (cy w)} (.ref s.heap.objs.size) "set":=⟨_,hS,rfl⟩;have hli:=F.called_set.init.lookup;have hbi:=F.called_set.init.bind (.ref s.heap.objs.size)
   repeat (any_goals (first|assumption|wp_step))
   refine gv (codeAny_call_builtin (R:=wants (fun r s₂=>r=.none/\∃h' tk xs,s₂={ s with heap:=h',toks:=tk }/\(∀b ob,s.heap.get? b=some ob->h'.get? b=some ob)/\iN prog w h' s.heap.objs.size xs/\o9 ps xs) E)
    F.called_set.init.plain F.entry_set_init (check_set_init_1 hT ?_)) fun r₂ s₂ hr₂=>?_
   ·obtain⟨ol,hol,hcl,nl,hdl⟩:=hl;obtain⟨ocls,odict,odata,oslots⟩:=ol;simp only at hcl hdl;subst hcl;subst hdl;have hol':(s.heap.push (cy w)).get? l=some { cls:=.type "list",dict:=odict,data:=.seq vs.toArray nl,slots:=oslots }:=ξ _ hol;have hsls:=F.sub_list_set;have hslf:=F.sub_list_frozenset;have hne:(jJ "list" == jJ "dict")=false:=by decide
    have hl1:(s.heap.push (cy w)).IsList l vs.toArray:=⟨_,hol',rfl,nl,rfl⟩;have hS2:(s.heap.push (cy w)).get? s.heap.objs.size=some { cls:=.type "set",dict:=none,data:=.set #[] 0 (.fresh 0 0 (!(ij w)))}:=hS;unfold eJ.«set.__init__» noKeywords kf;generalize hPI:pyIter=PI;wp_walk;subst hPI;refine iH hl1 ?_;refine γ (j8 ?_);have hlS:l<s.heap.objs.size:=Ψ hol;have hh3:A.in1.in1.in1.handled=none:=by simp[hh]
    have hu3:A.in1.in1.in1.units+16<cLine:=by
     show A.units+1+1+1+16<cLine;lia
    have fv:(s.heap.push (cy w)).objs.size=s.heap.objs.size+1:=kd ..;have hneI:l≠(s.heap.push (cy w)).objs.size:=by
     rw[fv];exact aQ (dC hlS)
    have hSf:s.heap.objs.size∉[(s.heap.push (cy w)).objs.size,l]:=by
     rw[fv];intro z;rcases aM.mp z with z|z
     ·exact absurd z (aQ (gI _))
     ·have:s.heap.objs.size=l:=by simpa using z
      exact absurd this (fG hlS)
    have hlen:vs.toArray.size=ps.length:=by rw[hv];simp
    refine sE (uf hh3 _ l hneI vs.toArray) s.heap.objs.size hSf ps hlen.symm (by rw[hlen];exact hn) hu3 (fun i v e=>?_) s.heap (fun b ob e=>?_) hk (vs.toArray.size-0) 0 _ [] rfl (aK _)
     ⟨⟨_,ab _ rfl,rfl,rfl⟩,hl1.push _⟩ ?hS0 ⟨(fun p hp=>(nomatch hp)),(fun p hp=>by rw[List.take_zero] at hp;cases hp),aK _⟩ (fun b ob e=>ξ _ (ξ _ e)) ?hR
    case hS0=>
     refine⟨_,#[],0,_,⟨ξ _ hS2,⟨rfl,rfl,rfl⟩,rfl,rfl,(fun p hp=>(nomatch hp)),kc,rfl,rfl⟩,vk _⟩
    case hR=>
     intro h' tk xs q1 q2 q3;refine η ?_;show π _ _ (ret cM) _ _ _;refine η ⟨rfl,h',tk,xs,rfl,fun b ob e=>?_,q2,q3⟩;have hb:=Ψ e;refine q1 b ob (aQ hb) ?_ (ξ _ (ξ _ e));rw[fv];exact aQ (dC hb)
    ·rw[hv,oA,ag] at e;cases hp:ps[i]? with
     |none=>rw[hp] at e;cases e
     |some p=>rw[hp] at e;exact⟨p,rfl,(ay e).symm⟩
    ·have hb:=Ψ e;rw[fv];exact⟨aQ (dC hb),aQ hb⟩
   ·cases r₂ with
    |error e=>exact hr₂
    |ok fl₂=>
     cases fl₂ with
     |ret r=>
      obtain⟨rfl,h',tk,xs,rfl,q1,q2,q3⟩:=hr₂
      repeat (any_goals (first|assumption|wp_step))
      exact h _ _ _ q1 q2 q3
     |_=>exact hr₂.elim
  |_=>exact hr.elim
end
end cP
namespace b6
open PySem PySem.W PyProof.Rows PySem.Calls cP
theorem xq:∀x y:List Int,lx x y=HT.lexLt x y
 |[],[]=>rfl
 |[],_::_=>rfl
 |_::_,[]=>rfl
 |x::xs,y::ys=>by
  show (if x=y then lx xs ys else _)=(if x=y then HT.lexLt xs ys else _);rw[xq xs ys]
theorem xp:∀{x y:List Int},x≠y->lx x y=false->lx y x=true
 |[],[],h,_=>absurd rfl h
 |[],_::_,_,h=>by cases h
 |_::_,[],_,_=>rfl
 |x::xs,y::ys,h,h2=>by
  have h2':(if x=y then lx xs ys else decide (x<y))=false:=h2;show (if y=x then lx ys xs else decide (y<x))=true;by_cases e:x=y
  ·subst e;rw[if_pos rfl] at h2' ⊢;exact xp (fun z=>h (by rw[z])) h2'
  ·rw[if_neg e] at h2';rw[if_neg (eW e)];have:=of_decide_eq_false h2';exact decide_eq_true (by lia)
def eP:List (List Int)->List (List Int)->Bool
 |[],[]=>false
 |[],_::_=>true
 |_::_,[]=>false
 |x::xs,y::ys=>if x=y then eP xs ys else lx x y
theorem zc:∀x y:List (List Int),HT.iK x y=eP x y
 |[],[]=>rfl
 |[],_::_=>rfl
 |_::_,[]=>rfl
 |x::xs,y::ys=>by
  show (if x=y then HT.iK xs ys else HT.lexLt x y)=(if x=y then eP xs ys else lx x y);rw[zc xs ys,xq]
theorem qW:∀{x y:List (List Int)},eP x y=true->eP y x=false
 |[],[],h=>by cases h
 |[],_::_,_=>rfl
 |_::_,[],h=>by cases h
 |x::xs,y::ys,h=>by
  have h':(if x=y then eP xs ys else lx x y)=true:=h;show (if y=x then eP ys xs else lx y x)=false;by_cases e:x=y
  ·rw[if_pos e] at h';rw[if_pos e.symm];exact qW h'
  ·rw[if_neg e] at h';rw[if_neg (eW e)];exact tQ h'
theorem uG:∀{a b c:List (List Int)},eP b a=false->eP c b=false->eP c a=false
 |[],_,[],_,_=>rfl
 |[],[],_::_,_,_=>rfl
 |[],_::_,_::_,_,_=>rfl
 |_::_,[],_,h,_=>by cases h
 |_::_,_::_,[],_,h=>by cases h
 |a::as,b::bs,c::cs,h1,h2=>by
  have h1':(if b=a then eP bs as else lx b a)=false:=h1;have h2':(if c=b then eP cs bs else lx c b)=false:=h2;show (if c=a then eP cs as else lx c a)=false;by_cases e1:b=a
  ·rw[if_pos e1] at h1';by_cases e2:c=b
   ·rw[if_pos e2] at h2';rw[if_pos (e2.trans e1)];exact uG h1' h2'
   ·rw[if_neg e2] at h2';rw[if_neg (fun z=>e2 (z.trans e1.symm)),←e1];exact h2'
  ·rw[if_neg e1] at h1';by_cases e2:c=b
   ·rw[if_neg (fun z=>e1 (e2.symm.trans z)),e2];exact h1'
   ·rw[if_neg e2] at h2';by_cases e3:c=a
    ·subst e3;have:=xp (eW e1) h2';rw[h1'] at this;cases this
    ·rw[if_neg e3];exact tP h1' h2'
theorem zb:∀{x y:List (List Int)},x≠y->eP x y=false->eP y x=true
 |[],[],h,_=>absurd rfl h
 |[],_::_,_,h=>by cases h
 |_::_,[],_,_=>rfl
 |x::xs,y::ys,h,h2=>by
  have h2':(if x=y then eP xs ys else lx x y)=false:=h2;show (if y=x then eP ys xs else lx y x)=true;by_cases e:x=y
  ·subst e;rw[if_pos rfl] at h2' ⊢;exact zb (fun z=>h (by rw[z])) h2'
  ·rw[if_neg e] at h2';rw[if_neg (eW e)];exact xp e h2'
section
variable {prog:af} {w:ar} {A:bA} {E:δ->ζ->Prop} {s:ζ}
theorem JC{Q:Bool->ζ->Prop}(hu:A.units+16<cLine):∀(xs ys:List (List Int)) (us vs:List δ) (i:Nat) (fin:Bool),gu prog w s.heap xs us->gu prog w s.heap ys vs ->
  (∃n,fin=decide (n+us.length<n+vs.length))->Q (eP xs ys) s->KatLex prog w A false fin Q (us.zip vs) i s:=by
 intro xs
 induction xs with
 |nil=>
  intro ys us vs i fin h1 h2 hf h;cases h1;obtain⟨n,hf⟩:=hf;cases h2 with
  |nil=>
   have:fin=false:=by simp at hf;exact hf
   rw[this];exact oi h
  |cons h3 h4=>
   have:fin=true:=by rw[hf];simp
   rw[this];exact oi h
 |cons x xs ih=>
  intro ys us vs i fin h1 h2 hf h;cases h1 with
  |cons h1 h1'=>
  cases h2 with
  |nil=>
   obtain⟨n,hf⟩:=hf;have:fin=false:=by rw[hf];simp
   rw[this];exact oi h
  |cons h3 h4=>
   refine kat_cons (il (by lia) h1 h3 ?_);rename_i _ y _ ys _;have h':Q (if x=y then eP xs ys else lx x y) s:=h;by_cases e:x=y
   ·rw[if_pos e] at h';rw[decide_eq_true e];refine kat_yes (ih ys _ _ (i+1) fin h1' h4 ?_ h');obtain⟨n,hf⟩:=hf;exact⟨n+1,by rw[hf];congr 1;simp only[au];apply propext;lia⟩
   ·rw[if_neg e] at h';rw[decide_eq_false e];refine kat_no ?_;show π _ _ (oneLt' false _ _) _ _ _;obtain⟨i1,t1,j1⟩:=HT.qk h1;obtain⟨i2,t2,j2⟩:=HT.qk h3;refine kat_one _ _ (HT.oM t1 t2 j1 j2 (by lia) ?_);rw[←xq];exact h'
theorem DP{Q:Bool->ζ->Prop}{x y:List (List Int)}{a b:ε}(hu:A.units+16<cLine)(hx:cF prog w s.heap x a)(hy:cF prog w s.heap y b)(h:Q (eP x y) s):π (model prog w) A (keyLt' (tuples' false) (.ref a) (.ref b)) Q E s:=by
 obtain⟨o,its,n,ho,_,hd,hi⟩:=hx;obtain⟨o',its',n',ho',_,hd',hi'⟩:=hy;exact kat_lt ho hd ho' hd' (JC hu x y its.toList its'.toList 0 _ hi hi' ⟨0,by simp⟩ h)
abbrev AF(x y:List (List Int)×ε):Bool:=eP x.1 y.1
abbrev Hu(p:List (List Int)×ε):δ:=.ref p.2
theorem Ov:yn AF:=⟨fun _ _ h=>qW h,fun _ _ _ h1 h2=>uG h1 h2⟩
theorem vj{ps:List (List (List Int)×ε)}{i:Nat}(hi:i<ps.length):ps.getD i ([],0)∈ps:=by
 simp[jq,hi]
theorem Ki{ps:List (List (List Int)×ε)}(hu:A.units+16<cLine)(hk:∀p∈ps,cF prog w s.heap p.1 p.2):∀i j,i<ps.length->j<ps.length->∀C:Bool->ζ->Prop,C (rL AF ([],0) ps i j) s->iA prog w A (tuples' false) (ps.map Hu) i j C s:=fun i j hi hj C h=>by
 unfold iA;rw[getD_map (d:=([],0)) hi,getD_map (d:=([],0)) hj];exact DP hu (hk _ (vj hi)) (hk _ (vj hj)) h
theorem wg{h:ai}:∀{ps:List (List (List Int)×ε)},(∀p∈ps,cF prog w h p.1 p.2/\p.1≠[])->∃fs,KatTups h (ps.map fun p=>aJ p.2) fs/\fs.length=ps.length/\∀v∈fs,∃ks b,v=.ref b/\eF prog w h ks b
 |[],_=>⟨[],.nil,rfl,fun v hv=>nomatch hv⟩
 |p::ps,hk=>by
  obtain⟨fs,h1,h2,h3⟩:=wg (ps:=ps) fun q hq=>hk q (ω _ hq);obtain⟨⟨o,its,n,ho,hc,hd,hi⟩,hne⟩:=hk p χ;obtain⟨ks,a⟩:=p;cases ks with
  |nil=>exact absurd rfl hne
  |cons k ks=>
   obtain⟨its⟩:=its;cases hi with
   |@cons _ b _ vs h4 h5=>
    refine⟨.ref b::fs,KatTups.cons ho hc hd (by simp) h1,by simp[h2],fun u hu=>?_⟩;rcases aM.mp hu with q|q
    ·exact⟨k,b,q,h4⟩
    ·exact h3 u q
theorem Fs{ps:List (List (List Int)×ε)}(hne:ps≠[])(hk:∀p∈ps,cF prog w s.heap p.1 p.2/\p.1≠[]){Q:j9->ζ->Prop}(h:Q (tuples' false) s):π (model prog w) A (keyKind' (ps.map Hu).toArray) Q E s:=by
 obtain⟨fs,h1,h2,h3⟩:=wg hk;have hl:0<fs.length:=by
  rw[h2];exact pI.mpr hne
 refine kat_kind (T:=.type "tuple") h1 hl (fun v hv=>?_) rfl h;obtain⟨ks,b,rfl,⟨o,its,n,ho,hc,hd,hi⟩⟩:=h3 v hv;rw[←hc];exact (Looks.ld ho).andThen .now
theorem zT{l:ε}{ps:List (List (List Int)×ε)}{Q:δ->ζ->Prop}(hu:A.units+20<cLine)(hk:∀p∈ps,cF prog w s.heap p.1 p.2/\p.1≠[])(h64:ps.length<64)
  (xG:∀(R:List δ->ζ->Prop),(∀s',fm [] (fun x y=>y=x) s s'->R (ps.map Hu) s')->π (model prog w) A.in1 (collect (.ref l)) R E s)
  (h:∀qs s' c D,qx AF ps qs->s.heap.get? D=none->s'.heap.get? D=some (seqObj "list" (qs.map Hu).toArray c)->fm [] (fun x y=>y=x) s s'->Q (.ref D) s'):
  π (model prog w) A (call (.builtin "sorted") [.ref l]) Q E s:=by
 refine tu (κ:=tuples' false) (d:=([],0)) Ov (fun s' h2 kk=>?_) h64 xG h;have hk':∀p∈ps,cF prog w s'.heap p.1 p.2/\p.1≠[]:=fun p hp=>⟨sj kk (hk p hp).1,(hk p hp).2⟩;exact⟨fun Q E q=>Fs (fun z=>by rw[z] at h2;simp at h2) hk' q,Ki (by show A.units+1+1+16<cLine;lia) fun p hp=>(hk' p hp).1⟩
end
end b6
namespace L3
open PySem PySem.Spec PyProof.Rows L2
section
variable {X:Cx} {e:ρ} {te:aD} {p p2 pos kp kp2 cp:aL} {j:Option Δ}
theorem zl{K:ι}{H:Hp}:∀{ds:List D} {vs:List V} {i:Nat} {d:D},aF K H ds vs->ds[i]?=some d->∃v,vs[i]?=some v/\Hv K H d v
 |[],vs,i,d,_,e=>by cases e
 |x::ds,vs,i,d,h,e=>by
  obtain⟨v,r,rfl,h1,h2⟩:=h.inv;cases i with
  |zero=>
   cases e;exact⟨v,rfl,h1⟩
  |succ i=>exact zl (i:=i) h2 e
end
end L3
namespace My
open PySem PySem.Spec PyProof.Rows L2 L3
section
variable {prog:af} {w:ar} {A:bA} {R:Result->ζ->Prop} {I:ε} {fp wr:List ε} {Gs:Array GenState->Array GenState->Prop} {n:Nat} {P:Nat->δ->Prop} {St:Nat->ζ->Prop}
theorem DH(W:WalksS prog w A.in1 I fp wr Gs n P St)(bt:Nat->Nat->Bool)(S:ε)(hSf:S∉fp)(s0:ζ)
  (xH:∀(i j:Nat) (v u:δ) (s':ζ),P i v->P j u->fm (S::wr) Gs s0 s'->∀(Q:δ->ζ->Prop) (E:δ->ζ->Prop),Q (.bool (bt i j)) s'->π (model prog w) A.in1 (iQ .Lt v u) Q E s'):
  ∀(k j:Nat) (s:ζ) (vb:δ) (c:Nat),n-(j+1)=k->j+1≤n->St (j+1) s->P (argBest bt j) vb ->
  s.heap.get? S=some { cls:=.type "list",dict:=none,data:=.seq #[vb,vb] c,slots:=#[]}->fm (S::wr) Gs s0 s ->
  (∀v s',P (argBest bt (n-1)) v->fm (S::wr) Gs s s'->R (.ok (.ret v)) s')->gw (model prog w) A (.builtin "min.loop" ⟨[.ref I,.none,.ref S],[]⟩) R s:=by
 have hSw:S∉wr:=fun h=>hSf (W.sub _ h);have hsub:∀b∈wr,b∈S::wr:=fun b hb=>ω _ hb;have hname:(toString "min" ++ toString ".loop":String)="min.loop":=by decide
 have notS:∀{b:ε},b∉S::wr->S≠b:=fun hb h=>hb (by rw[h];exact χ);intro k
 induction k with
 |zero=>
  intro j s vb c hk hj hst hPb hS hM hR;have hin:j+1=n:=by lia
  refine bS F.entry_min_loop ?_;rw[bZ F.plain_min_loop _];show π _ A.in1 (seqItems? (.ref S) >>= _) _ _ s;refine γ (cR hS rfl ?_);show π _ A.in1 (tryCatch (pyNext (.ref I)) _ >>= _) _ _ s;refine γ (j7 (W.done s _ _ (hin▸hst) fun s' hm=>?_));have hS':=hm.heap S _ hSw hS;show π _ A.in1 (updateSeq S (fun _=>#[]) >>= _) _ _ _;refine γ ?_;refine g7 hS' rfl (γ (km (η ?_)));exact hR vb _ (by rw[←hin];exact hPb) ((hm.mono hsub).then_heap (tk:=s'.toks) (Θ _) fun b o hb e=>(bz _ _ (notS hb)).trans e)
 |succ k ih=>
  intro j s vb c hk hj hst hPb hS hM hR;have hlt:j+1<n:=by lia
  refine bS F.entry_min_loop ?_;rw[bZ F.plain_min_loop _];show π _ A.in1 (seqItems? (.ref S) >>= _) _ _ s;refine γ (cR hS rfl ?_);show π _ A.in1 (tryCatch (pyNext (.ref I)) _ >>= _) _ _ s;refine γ (j7 (W.item (j+1) s _ _ hlt hst fun v s' hP hst' hm=>?_));have hS':=hm.heap S _ hSw hS;have hM':fm (S::wr) Gs s0 s':=kn W.gtrans hM (hm.mono hsub);show π _ A.in1 (tryCatch (holding [v,v] (iQ .Lt v vb >>= _)) _ >>= _) _ _ _;refine γ (j7 (br (γ (xH (j+1) (argBest bt j) v vb s' hP hPb hM' _ _ ?_))));refine γ (br (dB ?_));refine γ (km (η ?_));cases hb:bt (j+1) (argBest bt j) with
  |true=>
   simp only[if_true];refine γ ?_;refine g7 hS' rfl (γ (km ?_));rw[hname];have hM3:fm (S::wr) Gs s { s' with heap:=s'.heap.update S (aS fun _=>#[v,v])}:=(hm.mono hsub).then_heap (tk:=s'.toks) (Θ _) fun b o hb e=>(bz _ _ (notS hb)).trans e;refine η ⟨eA F.plain_min_loop _,ih (j+1) _ v _ (by lia) hlt (W.frame _ s' _ s'.toks hst' (Θ _) fun b hbf o e=>?_) (by simp only[argBest,hb,if_true];exact hP) (dS _ hS' rfl) (kn W.gtrans hM hM3)
    fun v' s'' hP' hm''=>?_⟩
   ·exact (bz _ _ (fun h:S=b=>hSf (by rw[h];exact hbf))).trans e
   ·exact hR v' s'' hP' (kn W.gtrans hM3 hm'')
  |false=>
   simp only[bI,if_false];refine γ (km ?_);rw[hname];refine η ⟨eA F.plain_min_loop _,ih (j+1) _ vb c (by lia) hlt hst' (by simp only[argBest,hb,bI,if_false];exact hPb) hS' hM' fun v' s'' hP' hm''=>?_⟩;exact hR v' s'' hP' (kn W.gtrans (hm.mono hsub) hm'')
theorem Ax(W:WalksS prog w A.in1 I fp wr Gs n P St)(bt:Nat->Nat->Bool)(S:ε)(hSf:S∉fp)(hn:0<n){s:ζ}{c:Nat}(hst:St 0 s)
  (hS:s.heap.get? S=some { cls:=.type "list",dict:=none,data:=.seq #[] c,slots:=#[]})
  (xH:∀(i j:Nat) (v u:δ) (s':ζ),P i v->P j u->fm (S::wr) Gs s s'->∀(Q:δ->ζ->Prop) (E:δ->ζ->Prop),Q (.bool (bt i j)) s'->π (model prog w) A.in1 (iQ .Lt v u) Q E s')
  (hR:∀v s',P (argBest bt (n-1)) v->fm (S::wr) Gs s s'->R (.ok (.ret v)) s'):gw (model prog w) A (.builtin "min.loop" ⟨[.ref I,.none,.ref S],[]⟩) R s:=by
 have hSw:S∉wr:=fun h=>hSf (W.sub _ h);have hsub:∀b∈wr,b∈S::wr:=fun b hb=>ω _ hb;have hname:(toString "min" ++ toString ".loop":String)="min.loop":=by decide
 have notS:∀{b:ε},b∉S::wr->S≠b:=fun hb h=>hb (by rw[h];exact χ);refine bS F.entry_min_loop ?_;rw[bZ F.plain_min_loop _];show π _ A.in1 (seqItems? (.ref S) >>= _) _ _ s;refine γ (cR hS rfl ?_);show π _ A.in1 (tryCatch (pyNext (.ref I)) _ >>= _) _ _ s;refine γ (j7 (W.item 0 s _ _ hn hst fun v s' hP hst' hm=>?_));have hS':=hm.heap S _ hSw hS;show π _ A.in1 (updateSeq S (fun _=>#[v,v]) >>= _) _ _ _;refine γ ?_;refine g7 hS' rfl ?_;rw[hname];have hM3:fm (S::wr) Gs s { s' with heap:=s'.heap.update S (aS fun _=>#[v,v])}:=(hm.mono hsub).then_heap (tk:=s'.toks) (Θ _) fun b o hb e=>(bz _ _ (notS hb)).trans e;refine η ⟨eA F.plain_min_loop _,DH W bt S hSf s xH _ 0 _ v _ rfl hn (W.frame _ s' _ s'.toks hst' (Θ _) fun b hbf o e=>?_) hP (dS _ hS' rfl) hM3 fun v' s'' hP' hm''=>?_⟩
 ·exact (bz _ _ (fun h:S=b=>hSf (by rw[h];exact hbf))).trans e
 ·exact hR v' s'' hP' (kn W.gtrans hM3 hm'')
theorem D6{E:δ->ζ->Prop}{s:ζ}{x:δ}{Q:δ->ζ->Prop}
  (h:π (model prog w) A.in1 (pyIter x) (fun it s₂=>∃I fp wr Gs n P St bt,it=.ref I/\WalksS prog w A.in1 I fp wr Gs n P St/\St 0 s₂/\(∀b∈fp,b<s₂.heap.objs.size)/\0<n ∧
   (∀(i j:Nat) (v u:δ) (s':ζ),P i v->P j u->fm wr Gs s₂ s'->∀(Q:δ->ζ->Prop) (E:δ->ζ->Prop),Q (.bool (bt i j)) s'->π (model prog w) A.in1 (iQ .Lt v u) Q E s') ∧
   ∀v s',P (argBest bt (n-1)) v->fm wr Gs s₂ s'->Q v s') E s):
  π (model prog w) A (call (.builtin "min") [x]) Q E s:=by
 have hname:(toString "min" ++ toString ".loop":String)="min.loop":=by decide
 refine call_function_tree F.kind_min F.plain_min F.entry_min (F.args_min1 _) ?_;show π _ A.in1 (kL "min" ["key","default"] 0 ⟨[],[]⟩ >>= _) _ _ s;refine γ (kl (show kL "min" ["key","default"] 0 ⟨[],[]⟩=pure [none,none] from rfl) ?_);refine γ (η ?_);refine γ (ei h (fun it s₂ h₂=>?_) fun _ _ e=>e);obtain⟨I,fp,wr,Gs,n,P,St,bt,rfl,W,hst,hfp,hn,xH,hQ⟩:=h₂;refine γ (b9 ?_);have hSf:s₂.heap.objs.size∉fp:=fun hm=>cv _ (hfp _ hm);rw[hname];refine η ⟨eA F.plain_min_loop _,Ax W bt s₂.heap.objs.size hSf hn (W.frame 0 s₂ _ s₂.toks hst (Θ _) fun b _ o e=>ξ _ e) (ab _ rfl) (fun i j v u s' h1 h2 hm=>xH i j v u s' h1 h2 (fm.drop_new (tk:=s₂.toks) hm (Θ _))) fun v s' hP hm=>?_⟩;exact hQ v s' hP (fm.drop_new (tk:=s₂.toks) hm (Θ _))
end
theorem t8{bt:Nat->Nat->Bool}(tr:∀i j k,bt i j=true->bt j k=true->bt i k=true)(ir:∀i,bt i i=false):∀n,argBest bt n≤n/\∀j,j≤n->bt j (argBest bt n)=false
 |0=>⟨Θ _,fun j hj=>by
  have:j=0:=by lia
  rw[this];exact ir 0⟩
 |n+1=>by
  obtain⟨h1,h2⟩:=t8 tr ir n;cases hb:bt (n+1) (argBest bt n) with
  |true=>
   have e:argBest bt (n+1)=n+1:=by simp only[argBest,hb,if_true]
   rw[e];refine⟨Θ _,fun j hj=>?_⟩;by_cases ej:j=n+1
   ·rw[ej];exact ir _
   ·cases h:bt j (n+1) with
    |false=>rfl
    |true=>
     have:=h2 j (by lia);rw[tr _ _ _ h hb] at this;cases this
  |false=>
   have e:argBest bt (n+1)=argBest bt n:=by simp only[argBest,hb,bI,if_false]
   rw[e];refine⟨by lia,fun j hj=>?_⟩;by_cases ej:j=n+1
   ·rw[ej];exact hb
   ·exact h2 j (by lia)
end My
namespace L2
open PySem PySem.Spec PyProof.Rows
section
variable {X:Cx} {pins:List (ε×aT)} {σ:St} {H:Hp} {s:ζ} {a:ε} {y v:V} {u r:δ} {o:Option V} {A:bA} {E:δ->ζ->Prop}
theorem Inv.RA(I:Inv X pins σ H s):sysModules<s.heap.objs.size:=by
 have h:bq<s.heap.objs.size:=(I.mod.glob.keeps I.bk).lt;exact jM (by decide) h
end
end L2
namespace L3
open PySem PySem.Spec PyProof.Rows L2 My
def dX(kss:List (List Int)):D:=.tup (kss.map tupI)
def qy(K:ι)(H:Hp)(kss:List (List Int))(a:ε):Prop:=∃vs,dJ K H a vs/\aF K H (kss.map tupI) vs
theorem qy.ext{K:ι}{H H':Hp}{kss:List (List Int)}{a:ε}(E:Ext H H')(h:qy K H kss a):qy K H' kss a:=by
 obtain⟨vs,h1,h2⟩:=h;exact⟨vs,dJ.ext E h1,h2.ext E⟩
theorem ra{K:ι}{H:Hp}{kss:List (List Int)}{v:V}(h:Hv K H (dX kss) v):∃a,v=.ref a/\qy K H kss a:=by
 obtain⟨a,ws,rfl,z1,z2⟩:=fU h;exact⟨a,rfl,ws,z1,z2⟩
theorem Jx{K:ι}{H:Hp}{kss:List (List Int)}{a:ε}(h:qy K H kss a):Hv K H (dX kss) (.ref a):=by
 obtain⟨vs,h1,h2⟩:=h;exact iJ h1 h2
theorem tU{K:ι}{H:Hp}:∀{qs:List (List (List Int)×ε)},(∀p∈qs,qy K H p.1 p.2)->aF K H ((qs.map (·.1)).map dX) (qs.map fun p=>.ref p.2)
 |[],_=>.nil
 |q::qs,h=>.cons (Jx (h q χ)) (tU fun p hp=>h p (ω _ hp))
theorem zk{P:af}{w:ar}{h:ai}:∀(ps:List (List Int×ε)),(∀p∈ps,cP.eF P w h p.1 p.2)->cP.gu P w h (ps.map (·.1)) (ps.map fun p=>aJ p.2)
 |[],_=>.nil
 |p::ps,hk=>.cons (hk p χ) (zk ps fun q hq=>hk q (ω _ hq))
section
variable {X:Cx} {pins:List (ε×aT)} {s:ζ} {σ:L2.St} {H:Hp}
theorem nX(I:Inv X pins σ H s){kss:List (List Int)}{a:ε}(h:qy X.K H kss a):cP.cF X.prog X.w s.heap kss a:=by
 obtain⟨vs,h1,h2⟩:=h;obtain⟨its,rv,⟨o,ho,hc,n,hd⟩,_⟩:=I.tuple h1;obtain⟨ps,e1,e2,e3,e4⟩:=me I h2 rv;refine⟨o,its.toArray,n,ho,hc,hd,?_⟩;rw[←e1,e3];exact zk ps fun p hp=>(e4 p hp).2
theorem qc(I:Inv X pins σ H s):∀{nss:List (List (List Int))} {vs:List V} {us:List δ},aF X.K H (nss.map dX) vs->bc vs us ->
  ∃ps:List (List (List Int)×ε),ps.map (·.1)=nss/\vs=ps.map (fun p=>.ref p.2)/\us=ps.map (fun p=>aJ p.2)/\∀p∈ps,qy X.K H p.1 p.2/\cP.cF X.prog X.w s.heap p.1 p.2
 |[],vs,us,h,r=>by
  cases h.gD;cases r;exact⟨[],rfl,rfl,rfl,fun p hp=>nomatch hp⟩
 |ns::nss,vs,us,h,r=>by
  obtain⟨v,vr,rfl,q1,q2⟩:=aF.inv (show aF X.K H (dX ns::nss.map dX) vs from h);cases r with
  |cons r1 r2=>
   obtain⟨ps,e1,e2,e3,e4⟩:=qc I q2 r2;obtain⟨a,rfl,z⟩:=ra q1;cases r1;refine⟨(ns,a)::ps,by rw[bH,e1],by rw[bH,e2],by rw[bH,e3],fun p hp=>?_⟩;rcases aM.mp hp with rfl|hp
   ·exact⟨z,nX I z⟩
   ·exact e4 p hp
theorem sH:∀(qs:List (List (List Int)×ε)),bc (qs.map fun p=>V.ref p.2) (qs.map fun p=>aJ p.2)
 |[]=>.nil
 |q::qs=>.cons rfl (sH qs)
def BG(nss:List (List (List Int))):Prop:=nss.Pairwise fun x y=>b6.eP y x=false
theorem yr{Q:VK}(I:Inv X pins σ H s){ps qs:List (List (List Int)×ε)}{s':ζ}{c:Nat}{D':ε}(hz:ps.length<64)(hS:b6.qx b6.AF ps qs)(hn:s.heap.get? D'=none)(hD:s'.heap.get? D'=some (seqObj "list" (qs.map fun p=>aJ p.2).toArray c))
  (hm:fm [] (fun x y=>y=x) s s') (q:H D'=none->Q (.ref D') (upd H D' (.lst (qs.map fun p=>.ref p.2)))):EP X pins σ Q (.ref D') s':=by
 have e:s'={ s with heap:=s'.heap,toks:=s'.toks }:=by
  cases s';cases s;have h1:=hm.gens;have h2:=hm.drawn;have h3:=hm.os;simp only at h1 h2 h3;subst h1 h2 h3;rfl
 rw[e];refine⟨.ref D',_,Inv.Ho I (o:=.lst (qs.map fun p=>.ref p.2)) (fun b u z=>hm.heap b u (fun y=>nomatch y) z) hn ?_,rfl,q (Inv.AU I hn)⟩;refine⟨?_,_,c,sH qs,hD⟩;rw[μ,hS.perm.length_eq,bM];lia
end
section
variable {X:Cx}
theorem yb(hc:X.calm=true)(hu:X.A.units+64<cLine):fM X (.builtin "sorted") (fun vs H Q=>∃(a:ε) (xs:List V) (nss:List (List (List Int))),vs=[.ref a]/\eQ X.K H a xs/\aF X.K H (nss.map dX) xs/\nss.length<64/\(∀ns∈nss,ns≠[]) ∧
  ∀(p:ε) (mss:List (List (List Int))) (ys:List V),H p=none->mss.Perm nss->BG mss->aF X.K H (mss.map dX) ys->Q (.ref p) (upd H p (.lst ys))):=by
 intro pins s σ H vs us Q I r h;obtain⟨a,xs,nss,rfl,hl,hv,hz,hne,q⟩:=h;obtain⟨u,rfl,ru⟩:=vals1 r;cases ru;obtain⟨its,rv,pl,_⟩:=I.list hl;obtain⟨ps,e1,e2,e3,e4⟩:=qc I hv rv;subst e3;have hlen:ps.length=nss.length:=by rw[←e1,μ]
 refine b6.zT (ps:=ps) (by lia) (fun p hp=>⟨(e4 p hp).2,hne _ (by rw[←e1];exact Φ.mpr ⟨p,hp,rfl⟩)⟩) (by lia) (fun R hR=>?_) fun qs s' c D' hS hn hD hm=>?_
 ·refine collect_list pl.isList (hR _ ⟨fun b o _ e=>?_,rfl,rfl,rfl,Θ _⟩) (by rw[μ,bM];lia);have hlt:=Ψ e;show ((s.heap.push (seqObj "list" #[] 0)).update s.heap.objs.size _).get? b=some o;rw[bz _ _ (fG hlt)];exact ξ _ e
 ·refine yr I (by lia) hS hn hD hm fun hf=>?_;refine q _ (qs.map (·.1)) _ hf (by rw[←e1];exact hS.perm.map _) ?_ (tU fun p hp=>(e4 p (hS.perm.mem_iff.mp hp)).1);exact cU.mpr hS.rise
def zX(P:af)(w:ar)(b:ε)(zs:List (List (List Int)×ε)):ai->Prop:=fun h=>∃o es ep t,h.get? b=some o/\o.ExactSet/\o.data=.set es ep t/\es.toList=zs.map (cP.qp P w)/\(zs.map (·.1)).Nodup/\t.plain=true ∧
 t.led=(!(w.params.followText "set-order"))/\jG.Tab t (es.toList.map (·.1))
theorem D5(hc:X.calm=true)(hu:X.A.units+64<cLine):fM X (.type "set") (fun vs H Q=>∃(a:ε) (xs:List V) (nss:List (List (List Int))),vs=[.ref a]/\eQ X.K H a xs/\aF X.K H (nss.map dX) xs/\nss.length≤60 ∧
  ∀(b:ε) (zs:List (List (List Int)×ε)),H b=none->(∀ns,ns∈zs.map (·.1)↔ns∈nss)->(zs.map (·.1)).Nodup->zs.length≤nss.length->Q (.ref b) (upd H b (.ext (zX X.prog X.w b zs)))):=by
 intro pins s σ H vs us Q I r h;obtain⟨a,xs,nss,rfl,hl,hv,hz,q⟩:=h;obtain⟨u,rfl,ru⟩:=vals1 r;cases ru;obtain⟨its,rv,pl,_⟩:=I.list hl;obtain⟨ps,e1,e2,e3,e4⟩:=qc I hv rv;subst e3;have hlen:ps.length=nss.length:=by rw[←e1,μ]
 refine cP.vL (ps:=ps) (I.ok.hd hc) pl.isList rfl (fun p hp=>(e4 p hp).2) (by lia) (by lia) fun h' tk zs kk hS hD=>?_;obtain⟨o,es,ep,t,S,T⟩:=hS;refine⟨.ref s.heap.objs.size,_,I.laid (o:=.ext (zX X.prog X.w s.heap.objs.size zs)) kk (Θ _) ?_,rfl,q _ zs (I.bV.fresh (Θ _)) (fun ns=>?_) S.nd ?_⟩
 ·refine⟨⟨o,es,ep,t,S.at_,S.ex,S.dat,S.ents,S.nd,S.plain,S.led,T⟩,⟨o,S.at_⟩,fun h1 h2 ⟨o',es',ep',t',y1,y⟩ kk2=>⟨o',es',ep',t',kk2 _ y1,y⟩⟩
 ·rw[←e1];constructor
  ·intro hm;obtain⟨p,hp,rfl⟩:=Φ.mp hm;exact Φ.mpr ⟨p,hD.sub p hp,rfl⟩
  ·intro hm;obtain⟨p,hp,rfl⟩:=Φ.mp hm;exact hD.all p hp
 ·rw[←hlen];exact hD.len
theorem BA:fM X (.builtin "len") (fun vs H Q=>∃(b:ε) (zs:List (List (List Int)×ε)),vs=[.ref b]/\H b=some (.ext (zX X.prog X.w b zs))/\zs.length≤60/\Q (.int zs.length) H):=by
 intro pins s σ H vs us Q I r ⟨b,zs,e1,hb,hz,q⟩;subst e1;obtain⟨u,rfl,ru⟩:=vals1 r;cases ru;obtain⟨⟨o,es,ep,t,y1,y2,y3,y4,y5,y6,y7,T⟩,_⟩:=(show eN X.prog X.w H s.heap b _ from I.bV b _ hb);have fv:es.size=zs.length:=by
  have:es.toList.length=zs.length:=by rw[y4,μ]
  simpa using this
 refine call_len_set y1 y2 y3 (cP.e7 (cP.Tab.r T)) (by rw[fv];lia) ?_;rw[fv];exact⟨.int zs.length,H,I.tok _,⟨_,rfl⟩,q⟩
theorem Jz:∀x:List (List Int),b6.eP x x=false:=fun x=>by
 cases h:b6.eP x x with
 |false=>rfl
 |true=>
  have:=b6.qW h;rw[h] at this;cases this
theorem DI{a b c:List (List Int)}(h1:b6.eP a b=true)(h2:b6.eP b c=true):b6.eP a c=true:=by
 cases h:b6.eP a c with
 |true=>rfl
 |false=>
  have h3:=b6.qW h1;have:=b6.uG h h3;rw[h2] at this;cases this
theorem D7(hc:X.calm=true)(hu:X.A.units+64<cLine):fM X (.builtin "min") (fun vs H Q=>∃(a:ε) (xs:List V) (nss:List (List (List Int))),vs=[.ref a]/\eQ X.K H a xs/\aF X.K H (nss.map dX) xs/\0<nss.length/\∀m x,m∈nss->Hv X.K H (dX m) x->(∀r∈nss,b6.eP r m=false)->Q x H):=by
 intro pins s σ H vs us Q I r h;obtain⟨a,xs,qs,rfl,hl,hx,h0,q⟩:=h;obtain⟨u,rfl,ru⟩:=vals1 r;cases ru;refine D6 (B1 hc I hl fun its I' rv W h1 h2 h3 back=>?_);have h4:its.length=qs.length:=by rw[←rv.length,←hx.length,μ]
 have hg:∀i (hi:i<qs.length),qs.getD i []=qs[i]:=fun i hi=>by
  rw[kY,aU hi];rfl
 have hP:∀(i:Nat) (v:δ),its[i]?=some v->∃x,Hv X.K H (dX (qs.getD i [])) x/\RelV x v/\qs.getD i []∈qs:=by
  intro i v hv;have hi:i<qs.length:=by
   have:=(aP.mp hv).1;lia
  obtain⟨x,z1,z2⟩:=zl (i:=i) (d:=dX qs[i]) hx (by rw[ag,aU hi];rfl);obtain⟨u',z3,z4⟩:=rv.get z1;rw[hv] at z3;cases z3;rw[hg i hi];exact⟨x,z2,z4,mH hi⟩
 refine⟨I',_,_,_,_,_,_,fun i j=>b6.eP (qs.getD i []) (qs.getD j []),rfl,W,⟨h1,h2⟩,h3,by lia,fun i j v u s' pv pu hm Q E hq=>?_,fun v s' hv hm=>?_⟩
 ·obtain⟨x,a1,a2,_⟩:=hP i v pv;obtain⟨y,b1,b2,_⟩:=hP j u pu;have J:=back s' hm;obtain⟨a',rfl,sa⟩:=ra a1;obtain⟨b',rfl,sb⟩:=ra b1;cases a2;cases b2;obtain⟨oa,ia,na,ea,ca,da,ta⟩:=nX J sa;obtain⟨ob,ib,nb,eb,cb,db,tb⟩:=nX J sb;have hq:Q (.bool (b6.eP (qs.getD i []) (qs.getD j []))) s':=hq;rw[←b6.zc] at hq;exact (HT.AE (prog:=X.prog) (w:=X.w) (A:=X.A.in1) (s:=s') ⟨oa,ea,ca,na,da⟩ ⟨ob,eb,cb,nb,db⟩ (HT.xD ta) (HT.xD tb) (by show X.A.units+1+16<cLine;lia) hq:π _ _ (compareOp .Lt (.ref a') (.ref b')) Q E s')
 ·obtain⟨x,a1,a2,a3⟩:=hP _ v hv;refine⟨x,H,back s' hm,a2,q _ x a3 a1 fun r hr=>?_⟩;obtain⟨j,hj,ej⟩:=List.getElem_of_mem hr;have:=(t8 (bt:=fun i j=>b6.eP (qs.getD i []) (qs.getD j [])) (fun i j k=>DI) (fun i=>Jz _) (its.length-1)).2 j (by lia);rw[hg j hj,ej] at this;exact this
end
section
variable {X:Cx} {K:ι} {e:ρ} {es:List ρ} {t:cJ} {ta:aD} {pos p p' pos':aL}
def p8:C3:=fun ds G Q=>match ds with
 |[.obj a]=>∃nss:List (List (List Int)),G a=some (.lst (nss.map dX))/\nss.length<64/\(∀ns∈nss,ns≠[])/\∀(p:ε) (mss:List (List (List Int))) (G':Gp),dw G p (.lst (mss.map dX)) G'->mss.Perm nss->BG mss->Q (.obj p) G'
 |_=>False
theorem DL:mq K p8 (fun vs H Q=>∃(a:ε) (xs:List V) (nss:List (List (List Int))),vs=[.ref a]/\eQ K H a xs/\aF K H (nss.map dX) xs/\nss.length<64/\(∀ns∈nss,ns≠[]) ∧
  ∀(p:ε) (mss:List (List (List Int))) (ys:List V),H p=none->mss.Perm nss->BG mss->aF K H (mss.map dX) ys->Q (.ref p) (upd H p (.lst ys))):=fun ds vs G H Q3 Q h RG q k=>by
 rcases ds with _|⟨d,_|⟨d2,ds⟩⟩
 ·exact q.elim
 ·obtain⟨v,rfl,hv⟩:=kM h;cases d with
  |obj a=>
   obtain⟨nss,e1,hz,hne,q⟩:=q;obtain⟨xs,e2,e3⟩:=RG a _ e1;rw[de hv];exact⟨a,xs,nss,rfl,.of e2,e3,hz,hne,fun p mss ys hp h1 h2 h3=>k _ _ (.obj p) _ jB (.g5 hp) (RG.qe hp h3) (q p mss _ (.mk' (RG.free hp)) h1 h2)⟩
  |_=>exact q.elim
 ·cases d<;>exact q.elim
theorem yv(hu:X.A.units+64<cLine)(hm:X.mg "sorted" = none)(ha:QA X (e::es) t)(hc:X.calm=true:=by rfl)(hg:Gl X "sorted":=by rfl)(he:notStar e=true:=by rfl)(hpl:es.all notStar=true:=by rfl):
  QE X (.Call (.Name "sorted" p) (e::es) [] pos) (dg p8 t):=⟨nv DL (fb (yb hc hu) hg hm rfl ha.of (he:=bj he) (hpl:=cW hpl))⟩
def p9:C3:=fun ds G Q=>match ds with
 |[.obj a]=>∃nss:List (List (List Int)),G a=some (.lst (nss.map dX))/\0<nss.length/\∀m,m∈nss->(∀r∈nss,b6.eP r m=false)->Q (dX m) G
 |_=>False
theorem MH:mq K p9 (fun vs H Q=>∃(a:ε) (xs:List V) (nss:List (List (List Int))),vs=[.ref a]/\eQ K H a xs/\aF K H (nss.map dX) xs/\0<nss.length/\∀m x,m∈nss->Hv K H (dX m) x->(∀r∈nss,b6.eP r m=false)->Q x H):=fun ds vs G H Q3 Q h RG q k=>by
 rcases ds with _|⟨d,_|⟨d2,ds⟩⟩
 ·exact q.elim
 ·obtain⟨v,rfl,hv⟩:=kM h;cases d with
  |obj a=>
   obtain⟨qs,e1,h0,q⟩:=q;obtain⟨xs,e2,e3⟩:=RG a _ e1;rw[de hv];exact⟨a,xs,qs,rfl,.of e2,e3,h0,fun p x hp hx hm=>k x H (dX p) G hx (.refl H G) RG (q p hp hm)⟩
  |_=>exact q.elim
 ·cases d<;>exact q.elim
theorem xb(hu:X.A.units+64<cLine)(hm:X.mg "min" = none)(ha:QA X (e::es) t)(hc:X.calm=true:=by rfl)(hg:Gl X "min":=by rfl)(he:notStar e=true:=by rfl)(hpl:es.all notStar=true:=by rfl):
  QE X (.Call (.Name "min" p) (e::es) [] pos) (dg p9 t):=⟨nv MH (fb (D7 hc hu) hg hm rfl ha.of (he:=bj he) (hpl:=cW hpl))⟩
def xP(ta:aD):aD:=fun τ G Q=>ta τ G fun x G1=>match x with
 |.obj a=>∃nss:List (List (List Int)),G1 a=some (.lst (nss.map dX))/\nss.length≤60/\∀(mss:List (List (List Int))),(∀ns,ns∈mss↔ns∈nss)->mss.Nodup->Q (.int mss.length) G1
 |_=>False
theorem Aj(hu:X.A.units+64<cLine)(ha:QE X e ta)(hm:X.mg "len" = none)(hm2:X.mg "set" = none)(hc:X.calm=true:=by rfl)(hg:Gl X "len":=by rfl)(hg2:Gl X "set":=by rfl)(he2:notStar e=true:=by rfl):
  QE X (.Call (.Name "len" p) [.Call (.Name "set" p') [e] [] pos'] [] pos) (xP ta):=
 ⟨eD (fb BA hg hm rfl (je (mX (D5 hc hu) hg2 hm2 rfl (je ha.of mf (bj he2)) (he:=bj he2) (hpl:=cW rfl)) mf (bj rfl)) (he:=bj rfl) (hpl:=cW rfl)) fun σ H Q ⟨τ,G,Q3,RS,RG,h,k⟩=>by
  refine⟨τ,G,_,RS,RG,h,fun v H1 d G1 h1 S1 R1 q1=>?_⟩;cases d with
  |obj a=>
   obtain⟨nss,e1,hz,q⟩:=q1;obtain⟨xs,e2,e3⟩:=R1 a _ e1;refine⟨a,xs,nss,by rw[de h1],.of e2,e3,hz,fun b zs hb hmem hnd hlen=>⟨b,zs,rfl,cm,by lia,?_⟩⟩;have q':=q (zs.map (·.1)) hmem hnd;rw[μ] at q';exact k _ _ (.int zs.length) G1 fC (S1.trans (.laid hb)) (R1.laid hb) q'
  |_=>exact q1.elim⟩
end
end L3
namespace L3
open PySem PySem.Spec PyProof.Rows L2 My
def Qx(kss:List (List Int)):Int:=reduceHash (bY (kss.map fun ks=>reduceHash (bY (ks.map hashInt))))
def Pc(x:List (List Int)×ε):DictEntry:=⟨Qx x.1,.ref x.2,.bool true⟩
def g6(a:ε)(xs:List (List (List Int)×ε)):ai->Prop:=fun h=>(a==sysModules)=false/\∃o es ep,h.get? a=some o/\o.ExactDict/\o.data=.dict es ep/\es.toList=xs.map Pc/\(xs.map (·.1)).Nodup
def lE(xs:List (List (List Int)×ε))(k:List (List Int))(b:ε):List (List (List Int)×ε):=if k∈xs.map (·.1) then xs else xs++[(k,b)]
def hU(x:List (List Int)×ε):List (List Int)×ε×δ:=(x.1,x.2,.bool true)
theorem rG(xs:List (List (List Int)×ε)):(xs.map hU).map (·.1)=xs.map (·.1):=by
 rw[bp];rfl
theorem zK(xs:List (List (List Int)×ε))(k:List (List Int))(b:ε):storedH (xs.map hU) k b (.bool true)=(lE xs k b).map hU:=by
 unfold lE;by_cases h:k∈xs.map (·.1)
 ·rw[if_pos h];have hs:(atKey (xs.map hU) k).isSome=true:=by
   unfold atKey;rw[Option.isSome_map,List.find?_isSome];obtain⟨x,hx,rfl⟩:=Φ.mp h;exact⟨hU x,jT hx,decide_eq_true rfl⟩
  unfold storedH;rw[if_pos hs,bp];refine b8 fun x hx=>?_;show putAt k (.bool true) (hU x)=hU x;unfold putAt;split<;>rfl
 ·rw[if_neg h,bw];have hs:atKey (xs.map hU) k=none:=by
   unfold atKey;rw[Option.map_eq_none_iff,qI];intro y hy hk;obtain⟨x,hx,rfl⟩:=Φ.mp hy;exact h (Φ.mpr ⟨x,hx,of_decide_eq_true hk⟩)
  exact storedH_new hs b _
theorem Ka{P:af}{w:ar}{h:ai}{a:ε}{xs:List (List (List Int)×ε)}(d:g6 a xs h)(hk:∀x∈xs,cP.cF P w h x.1 x.2):h.DictOfH (cP.sf P w) a (xs.map hU):=by
 obtain⟨_,o,es,ep,h1,h2,h3,h4,h5⟩:=d;refine⟨o,es,ep,h1,h2,h3,?_,fun x hx=>?_,by rw[rG];exact h5⟩
 ·rw[h4,bp];rfl
 ·obtain⟨y,hy,rfl⟩:=Φ.mp hx;exact hk y hy
theorem Js{P:af}{w:ar}{h:ai}{a:ε}{xs:List (List (List Int)×ε)}(hs:(a==sysModules)=false)(d:h.DictOfH (cP.sf P w) a (xs.map hU)):g6 a xs h:=by
 obtain⟨o,es,ep,h1,h2,h3,h4,h5,h6⟩:=d;refine⟨hs,o,es,ep,h1,h2,h3,?_,by rw[rG] at h6;exact h6⟩;rw[h4,bp];rfl
theorem tX{a:ε}{xs:List (List (List Int)×ε)}:∀h1 h2:ai,g6 a xs h1->(∀o,h1.get? a=some o->h2.get? a=some o)->g6 a xs h2:=fun h1 h2 ⟨y,o,es,ep,y1,y2⟩ kk=>⟨y,o,es,ep,kk _ y1,y2⟩
section
variable {X:Cx}
def Oj(K:ι):V->V->V->Hp->(Hp->Prop)->Prop:=fun o i v H Q=>∃p xs k b,o=.ref p/\i=.ref b/\v=.bl true/\H p=some (.ext (g6 p xs))/\(∀x∈xs,qy K H x.1 x.2)/\qy K H k b/\xs.length≤1000/\Q (upd H p (.ext (g6 p (lE xs k b))))
theorem EO(hu:X.A.units+64<cLine):BH X (Oj X.K):=by
 intro pins s σ H o i v ov iv u Q I ro ri rv h;obtain⟨p,xs,k,b,rfl,rfl,rfl,hp,hx,hb,hz,q⟩:=h;cases ro;cases ri;cases rv;obtain⟨d,_⟩:=(show eN X.prog X.w H s.heap p _ from I.bV p _ hp);have hs:=d.1;refine wpAny_setItem_heap (knd:=cP.sf X.prog X.w) (xs:=xs.map hU) (k:=k) (by show X.A.units+1+16<cLine;omega) (nX I hb) (Ka d fun x hx'=>nX I (hx x hx')) (fun h' d' sb=>?_) (by rw[μ];exact az hz (by decide));rw[zK] at d';have d2:g6 p (lE xs k b) h':=Js hs d';obtain⟨_,o',es',ep',y1,y2⟩:=id d2;refine⟨_,I.write (x:=p) (e:=p) (o:=.ext (g6 p (lE xs k b))) (by rw[hp];trivial) (.inl rfl) (fun c u hc e=>(sb.2 c hc).trans e) ⟨_,y1⟩ ⟨d2,⟨_,y1⟩,tX⟩,q⟩
theorem BB:fM X (.builtin "len") (fun vs H Q=>∃(p:ε) (xs:List (List (List Int)×ε)),vs=[.ref p]/\H p=some (.ext (g6 p xs))/\xs.length≤1000/\Q (.int xs.length) H):=by
 intro pins s σ H vs us Q I r ⟨p,xs,e1,hp,hz,q⟩;subst e1;obtain⟨u,rfl,ru⟩:=vals1 r;cases ru;obtain⟨⟨hd,o,es,ep,y1,y2,y3,y4,y5⟩,_⟩:=(show eN X.prog X.w H s.heap p _ from I.bV p _ hp);have fv:es.size=xs.length:=by
  have:es.toList.length=xs.length:=by rw[y4,μ]
  simpa using this
 have hT:s.TypeIs (.ref p) "dict":=⟨o,y1,y2.1⟩;refine lO kind_len plain_len entry_len (args_len1 _) ?_;unfold eJ.«len»;refine γ (m:=oneArg "len" _) (η ?_);refine γ (m:=callSpecial? (.ref p) (ip "__len__")) (eE (name:=ip "__len__") hT ou (cz ou hT PySem.F.entry_dict_len ?_ (PySem.F.args_dict_len_1 _)));show π _ _ (dictSize p >>= _) _ _ s;unfold dictSize;refine γ (γ (wpAny_dictEntries y1 y3 (η ?_)));show π _ _ (eJ.Dict.pendingCount p >>= _) _ _ s;refine γ (wpAny_pendingCount_other hd ?_);refine wpAny_ret_mkInt ?_;rw[Nat.add_zero,fv];refine γ (br (η ?_));refine γ (km ?_);show π _ _ (if ((xs.length:Nat):Int)<0 then _ else _) _ _ _;rw[if_neg (by omega)];show π _ _ (if ((xs.length:Nat):Int)≥2^63 then _ else _) _ _ _;rw[if_neg (by omega)];exact γ (wpAny_mkInt (η ⟨_,rfl,⟨.int xs.length,H,(I.tok _).tok _,⟨_,rfl⟩,q⟩⟩))
end
def qr(ks:List (List (List Int))):ι->ε->Hp->Prop:=fun K a H=>∃xs:List (List (List Int)×ε),H a=some (.ext (g6 a xs))/\xs.map (·.1)=ks/\∀x∈xs,qy K H x.1 x.2
def nr(ks:List (List (List Int)))(k:List (List Int)):List (List (List Int)):=if k∈ks then ks else ks++[k]
section
variable {K:ι} {H:Hp} {G:Gp} {a p:ε} {ks:List (List (List Int))}
theorem zq(h:qr ks K a H):rW K H a (.gen (qr ks)):=
 ⟨h,let ⟨xs,e,_⟩:=h;⟨_,e,fun _=>nofun,fun _ _=>nofun⟩,fun H1 H2 ht hf e ⟨xs,z,r,q⟩=>⟨xs,e.trans z,r,fun x hx=>(q x hx).ext ⟨fun b ys e=>ht b ys e,fun b o u e=>hf b o u e⟩⟩⟩
theorem Ext.sD{φ:ai->Prop}{o:HO}(h:H p=some (.ext φ)):Ext H (upd H p o):=
 ⟨fun b ys e=>by
  rw[bG fun z=>by rw[z,h] at e;cases e];exact e,fun b x u e=>by
  rw[bG fun z=>by rw[z,h] at e;cases e];exact e⟩
theorem bf.sD{φ:ai->Prop}{o:HO}{g:GO}(R:bf K G H)(h:H p=some (.ext φ))(new:rW K (upd H p o) p g):bf K (dA G p g) (upd H p o):=fun a u e=>by
 by_cases z:a=p
 ·subst z;rw[cT] at e;cases e;exact new
 ·rw[dE z] at e;exact (R a u e).ext (Ext.sD h) (bG z)
theorem Ak{xs:List (List (List Int)×ε)}(e:xs.map (·.1)=ks)(k:List (List Int))(b:ε):(lE xs k b).map (·.1)=nr ks k:=by
 unfold lE nr;rw[e];by_cases h:k∈ks
 ·rw[if_pos h,if_pos h,e]
 ·rw[if_neg h,if_neg h,bw,e];rfl
end
section
variable {X:Cx} {K:ι} {o i e:ρ} {es:List ρ} {pos p:aL} {to ti:aD} {t:cJ}
def Bf:aD:=fun _ G Q=>∀p G2,dw G p (.gen (qr [])) G2->Q (.obj p) G2
theorem Nd:bP X (.Dict [] [] pos) Bf:=fun pins s σ H Q I ⟨τ,G,Q3,RS,RG,h,k⟩=>by
 have hf:H s.heap.objs.size=none:=I.bV.fresh (Θ _);have hb:=I.RA;have d:g6 s.heap.objs.size [] (s.heap.push { cls:=.type "dict",data:=.dict #[]}):=⟨beq_eq_false_iff_ne.mpr (fG hb),_,#[],0,ab _ rfl,⟨rfl,rfl,rfl⟩,rfl,rfl,kc⟩;refine wpAny_Dict_empty ⟨.ref s.heap.objs.size,_,I.laid (a:=s.heap.objs.size) (o:=.ext (g6 s.heap.objs.size [])) (t':=s.toks) (fun _ _ q=>ξ _ q) (Θ _) ⟨d,⟨_,ab _ rfl⟩,tX⟩,rfl,?_⟩;exact k _ _ (.obj s.heap.objs.size) _ jB (.g5 hf) (RG.g5 hf (zq ⟨[],cm,rfl,fun x hx=>nomatch hx⟩)) (h _ _ (.mk' (RG.free hf)))
theorem IV:QE X (.Dict [] [] pos) Bf:=⟨Nd⟩
def AR(to ti:aD):gs:=fun v τ G Q=>v=.bl true/\to τ G fun o G1=>ti τ G1 fun i G2=>match o with
 |.obj p=>∃ks k,G2 p=some (.gen (qr ks))/\i=dX k/\ks.length≤1000/\Q τ (dA G2 p (.gen (qr (nr ks k))))
 |_=>False
theorem MY(hu:X.A.units+64<cLine)(ho:bP X o to)(hi:bP X i ti)
  (ha:∀v,assign (.Subscript o i pos) X.env v=(do
   let ov ←holding [v] (eval o X.env)
   let iv ←holding [v,ov] (eval i X.env)
   standAt pos
   holding [v,ov,iv] (setItem ov iv v)
   release [v,ov,iv] []):=by intro _;rfl):rS X (.Subscript o i pos) (AR to ti):=vR (De ho hi (EO hu) ha) fun v σ H Q ⟨d,τ,G,Q3,hd,RS,RG,h,k⟩=>by
 obtain⟨rfl,h⟩:=h
 refine⟨τ,G,_,RS,RG,h,fun v1 H1 d1 G1 h1 S1 R1 q1=>⟨τ,G1,_,RS.ext (S1.ext RG),R1,q1,fun v2 H2 d2 G2 h2 S2 R2 q2=>?_⟩⟩
 cases d1 with
 |obj p=>
  obtain⟨ks,key,e1,rfl,hz,q⟩:=q2
  obtain⟨⟨xs,z1,z2,z3⟩,_⟩:=R2 p _ e1
  obtain⟨b,rfl,hb⟩:=ra h2
  have hl:xs.length=ks.length:=by rw[←z2,μ]
  refine⟨p,xs,key,b,de h1,rfl,rb hd,z1,z3,hb,by omega,?_⟩
  have E:=Ext.sD (o:=.ext (g6 p (lE xs key b))) z1
  refine k _ _ _ _ (((RS.ext (S1.ext RG)).ext (S2.ext R1)).ext E) ((S1.trans S2).trans (Step.wrote e1)) (R2.sD z1 (zq ⟨_,cm,Ak z2 key b,fun x hx=>?_⟩)) q
  unfold lE at hx
  split at hx
  ·exact (z3 x hx).ext E
  ·rcases bC.mp hx with hx|hx
   ·exact (z3 x hx).ext E
   ·rw[dt.mp hx]
    exact hb.ext E
 |_=>exact q2.elim
theorem IQ(hu:X.A.units+64<cLine)(ho:QE X o to)(hi:QE X i ti)
  (ha:∀v,assign (.Subscript o i pos) X.env v=(do
   let ov ←holding [v] (eval o X.env)
   let iv ←holding [v,ov] (eval i X.env)
   standAt pos
   holding [v,ov,iv] (setItem ov iv v)
   release [v,ov,iv] []):=by intro _;rfl):QG X (.Subscript o i pos) (AR to ti):=⟨MY hu ho.of hi.of ha⟩
def uy:C3:=fun ds G Q=>match ds with
 |[.obj a]=>∃ks,G a=some (.gen (qr ks))/\ks.length≤1000/\Q (.int ks.length) G
 |_=>False
theorem JZ:mq K uy (fun vs H Q=>∃(p:ε) (xs:List (List (List Int)×ε)),vs=[.ref p]/\H p=some (.ext (g6 p xs))/\xs.length≤1000/\Q (.int xs.length) H):=fun ds vs G H Q3 Q h RG q k=>by
 rcases ds with _|⟨d,_|⟨d2,ds⟩⟩
 ·exact q.elim
 ·obtain⟨v,rfl,hv⟩:=kM h;cases d with
  |obj a=>
   obtain⟨ks,e1,hz,q⟩:=q;obtain⟨⟨xs,z1,z2,z3⟩,_⟩:=RG a _ e1;have hl:xs.length=ks.length:=by rw[←z2,μ]
   rw[de hv];refine⟨a,xs,rfl,z1,by omega,?_⟩;rw[hl];exact k _ H (.int ks.length) G fC (.refl H G) RG q
  |_=>exact q.elim
 ·cases d<;>exact q.elim
theorem CV(hm:X.mg "len" = none)(ha:QA X (e::es) t)(hg:Gl X "len":=by rfl)(he:notStar e=true:=by rfl)(hpl:es.all notStar=true:=by rfl):
  QE X (.Call (.Name "len" p) (e::es) [] pos) (dg uy t):=⟨nv JZ (fb BB hg hm rfl ha.of (he:=bj he) (hpl:=cW hpl))⟩
end
end L3
namespace L3
open PySem PySem.Spec PyProof.Rows L2
theorem i6{us:List δ}(h:us.length=1):∃a,us=[a]:=List.length_eq_one_iff.mp h
theorem jD{us:List δ}(h:us.length=2):∃a b,us=[a,b]:=by
 rcases us with _|⟨a,us⟩
 ·cases h
 ·obtain⟨b,rfl⟩:=i6 (us:=us) (Nat.succ.inj h);exact⟨a,b,rfl⟩
theorem Fn{us:List δ}(h:us.length=3):∃a b c,us=[a,b,c]:=by
 rcases us with _|⟨a,us⟩
 ·cases h
 ·obtain⟨b,c,rfl⟩:=jD (us:=us) (Nat.succ.inj h);exact⟨a,b,c,rfl⟩
end L3
namespace My
open PySem L2 L3
def tj:dG:=pk
def Iq:aE:=cn (tW (rh false (aR eB (υ 0) (eC (.int 0))) (ο (eC (.int 1)) (ο (eC (.int 1001)) (aa)))) (rj false (aR eB (υ 0) (eC (.int 1))) (ο (aR eB (υ 0) (eC (.int 0))) (aa))))
def zH:aE:=bJ (jb (pz (kO (bU (oZ "tuple" (υ 0)))) (pz (bU (aR (fA true) (dg g0 (ο (υ 0) (aa))) (eC (.int 2)))) (pz (kO (bU (aV nN (ο (aR eB (υ 0) (eC (.int 0))) (aa))))) (kO (bU (aV nN (ο (aR eB (υ 0) (eC (.int 1))) (aa)))))))) (cn (eC (.bl false))) (fL)) Iq
theorem xW(s r:Int):qv s r=(xF false 1 1001 s&&xF false 0 s r):=by
 show ((decide (1≤s)&&decide (s≤1000))&&(decide (0≤r)&&decide (r<s)))=((decide (1≤s)&&decide (s<1001))&&(decide (0≤r)&&decide (r<s)));rw[show decide (s≤1000)=decide (s<1001) from decide_eq_decide.mpr (by omega)]
theorem Oe:∀ds G Q,tj ds G Q->zH (aN Q) (bh ["thing"] ds) G:=by
 rintro ds G Q ⟨d,rfl,hk,q⟩;have not_tup:(∀ds,d≠.tup ds)->zH (aN Q) (bh ["thing"] [d]) G:=by
  intro hn;have e:ig d=false:=by
   cases d with
   |tup ds=>exact absurd rfl (hn ds)
   |_=>rfl
  rw[e] at q;show match iy "tuple" G d with
   |some b=>_
   |none=>False
  rw[sk hk.xB hn];exact⟨fun _=>⟨fun _=>aZ q,nofun⟩,nofun⟩
 cases d with
 |tup ds=>
  refine⟨nofun,fun _=>⟨_,_,rfl,rfl,aK _,?_⟩⟩;rcases ds with _|⟨a,_|⟨b,_|⟨c,ds⟩⟩⟩
  ·exact⟨fun _=>⟨fun _=>aZ q,nofun⟩,nofun⟩
  ·rw[o5 (by simp)] at q;exact⟨fun _=>⟨fun _=>aZ q,nofun⟩,nofun⟩
  ·refine⟨nofun,fun _=>⟨a,rfl,(hk.el (by simp)).known,?_⟩⟩;have hb:Known G b:=(hk.el (by simp)).known;cases a with
   |int s=>
    refine⟨nofun,fun _=>⟨b,rfl,hb,?_⟩⟩;cases b with
    |int r=>
     have fin:∀v,qv s r=v->(aN Q).rt (.bl v) G:=fun v e=>by
      rw[←e];exact aZ q
     refine⟨nofun,fun _=>⟨_,rfl,⟨fun h1=>⟨_,rfl,_,rfl,fin _ ?_⟩,fun h1=>fin _ ?_⟩⟩⟩
     ·rw[xW,h1];rfl
     ·rw[xW,h1];rfl
    |_=>exact⟨fun _=>aZ q,nofun⟩
   |_=>exact⟨fun _=>⟨fun _=>aZ q,nofun⟩,nofun⟩
  ·refine⟨fun _=>?_,fun h=>?_⟩
   ·rw[o5 (by simp)] at q;exact⟨fun _=>aZ q,nofun⟩
   have h':(!(((ds.length+1+1+1:Nat):Int)==2))=false:=h;simp at h';omega
 |_=>exact not_tup nofun
def yi(cs:List ak)(k:Nat):Bool:=match cs[k]?,cs[k+1]? with
 |some a,some b=>DJ (a,b)
 |_,_=>false
theorem t9:∀cs:List ak,sy cs=(aB (cs.length-1)).all (yi cs)
 |[]=>rfl
 |[c]=>rfl
 |a::b::cs=>by
  have ih:=t9 (b::cs);show (DJ (a,b)&&sy (b::cs))=_;rw[ih];show _=(aB (cs.length+1)).all (yi (a::b::cs));rw[iT,kZ,qK];rfl
theorem P6(n:Nat):gb 1 n=(aB n).map fun k=>nD (k+1):=by
 unfold gb;refine b8 fun k _=>?_;show D.int (1+(k:Int))=D.int ((k+1:Nat):Int);rw[show (1:Int)+(k:Int)=((k+1:Nat):Int) by omega]
def tp:dG:=uv
def Iy:aE:=cn (dg tG (ο (fi ["k"] [0] (qZ (ο (eC (.int 1)) (ο (dg g0 (ο (υ 0) (aa))) (aa)))) (hName 0) (cV) (aR qS (aR eB (υ 1) (aR oH (υ 0) (eC (.int 1)))) (aR eB (υ 1) (υ 0)))) (aa)))
def zI:aE:=bJ (jb (pz (kO (bU (oZ "tuple" (υ 0)))) (pz (bU (aR uz (dg g0 (ο (υ 0) (aa))) (eC (.int 12)))) (kO (bU (dg tG (ο (fi ["clock"] [] (gW (υ 0)) (hName 0) (cV) (aV tj (ο (υ 0) (aa)))) (aa))))))) (cn (eC (.bl false))) (fL)) Iy
theorem Og:∀ds G Q,tp ds G Q->zI (aN Q) (bh ["thing"] ds) G:=by
 rintro ds G Q ⟨d,rfl,hk,q⟩;have not_tup:(∀ds,d≠.tup ds)->zI (aN Q) (bh ["thing"] [d]) G:=by
  intro hn;have e:t5 d=false:=by
   cases d with
   |tup ds=>exact absurd rfl (hn ds)
   |_=>rfl
  rw[e] at q;show match iy "tuple" G d with
   |some b=>_
   |none=>False
  rw[sk hk.xB hn];exact⟨fun _=>⟨fun _=>aZ q,nofun⟩,nofun⟩
 cases d with
 |tup ds=>
  refine⟨nofun,fun _=>⟨fun h=>?_,fun h=>?_⟩⟩
  ·have h':(12:Int)<((ds.length:Nat):Int):=of_decide_eq_true h;have e:t5 (.tup ds)=false:=by
    show (decide (ds.length≤12)&&_)=false;rw[decide_eq_false (by omega)];rfl
   rw[e] at q;exact⟨fun _=>aZ q,nofun⟩
  ·have h':¬((12:Int)<((ds.length:Nat):Int)):=of_decide_eq_false h;have e:t5 (.tup ds)=(ds.all ig&&sy (ds.map vY)):=by
    show (decide (ds.length≤12)&&_)=_;rw[decide_eq_true (by omega)];rfl
   rw[e] at q;refine⟨cY (by show ds.length≤1000;omega),Gf (js:=[]) (τ:=[]) (f:=ig) (by show ds.length≤1000;omega) (fun x hx y K k=>⟨x,rfl,hk.el hx,k⟩) fun p G1 n1=>⟨_,_,n1.at_,uO ig ds,?_⟩⟩;rw[all_map];refine⟨fun hw=>?_,fun hw=>?_⟩
   ·have hw':ds.all ig=false:=by simpa using hw
    rw[hw'] at q;exact lR n1.sub q
   ·have hw':ds.all ig=true:=by simpa using hw
    rw[hw'] at q;obtain⟨cs,rfl⟩:=zt hw';rw[vg,t9] at q;have hcl:(cs.map cD).length=cs.length:=μ ..;rw[hcl] at h';refine⟨⟨by decide,by decide,?_,?_⟩,?_,?_⟩
    ·show -(2^62)≤(((cs.map cD).length:Nat):Int);omega
    ·show (((cs.map cD).length:Nat):Int)<2^62;rw[hcl];omega
    ·show (gb 1 ((((cs.map cD).length:Nat):Int)-1).toNat).length≤aj;rw[fZ,hcl];exact cY (by omega)
    ·show fV _ _ _ _ _ (gb 1 ((((cs.map cD).length:Nat):Int)-1).toNat) _ _ _;rw[hcl,show ((((cs.length:Nat):Int)-1).toNat)=cs.length-1 by omega,P6];refine fw (fun τ=>∃x,τ=[x,some (bW cs)]) (fun k=>nD (k+1)) (fun _=>true) (fun k=>.bl (yi cs k)) (G:=G1) trivial (aB (cs.length-1)) [] _ ⟨none,rfl⟩ ?_ ?_
     ·rintro k hm τ K1 K2 ⟨x,rfl⟩ h1 h2;have hk1:k<cs.length-1:=by simpa using hm
      have ea:cs[k]?=some (cs[k]'(by omega)):=aU (by omega);have eb:cs[k+1]?=some (cs[k+1]'(by omega)):=aU (by omega);refine⟨fun _=>⟨cD (cs[k]'(by omega)),?_,cD (cs[k+1]'(by omega)),HI eb,dO _,dO _,rfl,rfl,?_⟩,nofun⟩
      ·show iM (cs.map cD) (((k+1:Nat):Int)-1)=_;rw[show (((k+1:Nat):Int)-1)=(k:Int) by omega];exact HI ea
      ·have:=h1 rfl [some (nD (k+1)),some (bW cs)] ⟨_,rfl⟩;unfold yi at this;rw[ea,eb] at this;exact this
     ·intro p2 G2 n2;rw[filter_all,dj] at n2;refine⟨_,_,n2.at_,uO (yi cs) _,?_⟩;rw[all_map];exact lR (n1.sub.trans n2.sub) q
 |_=>exact not_tup nofun
end My
namespace L3
open PySem PySem.Spec PyProof.Rows L2
section
variable {prog:af} {w:ar} {A:bA} {E:δ->ζ->Prop} {s:ζ}
theorem yz{l:ε}{vs:List δ}{Q:List δ->ζ->Prop}(hl:gJ s.heap l vs.toArray)(hz:vs.length≤aj)
  (h:Q vs { s with heap:=(s.heap.push (seqObj "list" #[] 0)).update s.heap.objs.size (aS (· ++ vs.toArray))}):π (model prog w) A (collect (.ref l)) Q E s:=by
 obtain⟨o,ho,hc,n,hd⟩:=id hl;unfold collect;refine γ (j8 (bS entry_proto_collect' ?_));show π _ _ (do again (.builtin "list.__iadd__" ⟨[←newList [],.ref l],[]⟩)) _ _ s;refine γ (kU (η ⟨kK _ (by decide +kernel),bS entry_list_iadd' ?_⟩));show π _ _ (eS (.ref s.heap.objs.size) (.ref l) (.ref s.heap.objs.size)) _ _ { s with heap:=s.heap.push (seqObj "list" #[] 0)};unfold eS;have ho':(s.heap.push (seqObj "list" #[] 0)).get? l=some o:=ξ _ ho;refine γ (eR (T:="tuple") ⟨o,ho',hc⟩ ?_);rw[if_pos (by simp)];refine γ (mx ho' hd ?_);refine γ (mx (xs:=#[]) (n:=0) (ab _ rfl) rfl ?_);rw[if_neg (by simp)];refine γ (iZ (xs:=#[]) (n:=0) (ab _ rfl) rfl ?_ (aK _) (by show (#[]++vs.toArray).size≤aj+1;simp only[Array.size_append,ψ,eY];lia));refine η ?_;show π (model prog w) A (do
   let o ←load s.heap.objs.size
   match o.data with
   |.seq xs _=>pure xs.toList
   | _=>unsupported "internal:collect") Q E { s with heap:=(s.heap.push (seqObj "list" #[] 0)).update s.heap.objs.size (aS (· ++ vs.toArray))}
 refine γ (wpAny_load (g8 (ab _ rfl) _) ?_);show π _ _ (pure ((#[]:Array δ)++vs.toArray).toList) Q E _;rw[show ((#[]:Array δ)++vs.toArray).toList=vs by simp];exact η h
end
section
variable {X:Cx} {e:ρ} {ta:aD} {pos p:aL}
theorem xZ(hc:X.calm=true)(hu:X.A.units+64<cLine):fM X (.builtin "sorted") (fun vs H Q=>∃(a:ε) (xs:List V) (nss:List (List Int)),vs=[.ref a]/\dJ X.K H a xs/\aF X.K H (nss.map tupI) xs/\nss.length<64/\(∀ns∈nss,ns≠[]) ∧
  ∀(p:ε) (mss:List (List Int)) (ys:List V),H p=none->mss.Perm nss->gF mss->aF X.K H (mss.map tupI) ys->Q (.ref p) (upd H p (.lst ys))):=by
 intro pins s σ H vs us Q I r h;obtain⟨a,xs,nss,rfl,hl,hv,hz,hne,q⟩:=h;obtain⟨u,rfl,ru⟩:=vals1 r;cases ru;obtain⟨its,rv,pl,_⟩:=I.tuple hl;obtain⟨ps,e1,e2,e3,e4⟩:=me I hv rv;subst e3;have hlen:ps.length=nss.length:=by rw[←e1,μ]
 refine b6.pX (ps:=ps) (fun p hp=>⟨(e4 p hp).2,hne _ (by rw[←e1];exact Φ.mpr ⟨p,hp,rfl⟩)⟩) (by lia) (fun R hR=>?_) fun qs s' c D' hS hn hD hm=>?_
 ·refine yz pl (by rw[μ,bM];lia) (hR _ ⟨fun b o _ e=>?_,rfl,rfl,rfl,Θ _⟩);have hlt:=Ψ e;show ((s.heap.push (seqObj "list" #[] 0)).update s.heap.objs.size _).get? b=some o;rw[bz _ _ (fG hlt)];exact ξ _ e
 ·refine oF I (by lia) hS hn hD hm fun hf=>?_;refine q _ (qs.map (·.1)) _ hf (by rw[←e1];exact hS.perm.map _) ?_ (mZ fun p hp=>(e4 p (hS.perm.mem_iff.mp hp)).1);exact cU.mpr hS.rise
def xN(ta:aD):aD:=fun τ G Q=>ta τ G fun x G1=>match x with
 |.tup ds=>∃nss:List (List Int),ds=nss.map tupI/\nss.length<64/\(∀ns∈nss,ns≠[])/\∀(p:ε) (mss:List (List Int)) (G':Gp),dw G1 p (.lst (mss.map tupI)) G'->mss.Perm nss->gF mss->Q (.obj p) G'
 |_=>False
theorem J8(hu:X.A.units+64<cLine)(ha:bP X e ta)(hm:X.mg "sorted" = none)(hc:X.calm=true:=by rfl)(hg:Gl X "sorted":=by rfl)(he:notStar e=true:=by rfl):
  bP X (.Call (.Name "sorted" p) [e] [] pos) (xN ta):=
 eD (fb (xZ hc hu) hg hm rfl (je ha mf (bj he)) (he:=bj he)) fun σ H Q ⟨τ,G,Q3,RS,RG,h,k⟩=>⟨τ,G,_,RS,RG,h,fun v H1 d G1 h1 S1 R1 q1=>by
  cases d with
  |tup ds=>
   obtain⟨nss,rfl,hz,hne,q⟩:=q1;obtain⟨a,xs,rfl,e1,e2⟩:=fU h1;exact⟨a,xs,nss,rfl,e1,e2,hz,hne,fun p mss ys hp h2 h3 h4=>k _ _ (.obj p) _ jB (S1.trans (.g5 hp)) (R1.qe hp h4) (q p mss _ (.mk' (R1.free hp)) h2 h3)⟩
  |_=>exact q1.elim⟩
theorem EZ(hu:X.A.units+64<cLine)(ha:QE X e ta)(hm:X.mg "sorted" = none)(hc:X.calm=true:=by rfl)(hg:Gl X "sorted":=by rfl)(he:notStar e=true:=by rfl):
  QE X (.Call (.Name "sorted" p) [e] [] pos) (xN ta):=⟨J8 hu ha.of hm hc hg he⟩
end
end L3
namespace My
open PySem L2 L3
def ju(cs:List ak):List (List Int):=cs.map dO
theorem sx(cs:List ak):bW cs=dX (ju cs):=by
 unfold bW dX ju;rw[bp];rfl
theorem rl(css:List (List ak)):css.map bW=(css.map ju).map dX:=by
 rw[bp];refine b8 fun cs _=>sx cs
theorem En{cs ds:List ak}(h:ju cs=ju ds):cs=ds:=List.map_inj_right (fun a b e=>uq e) |>.mp h
def zg(c d:ak):Bool:=!(b6.lx (dO d) (dO c))
def lg(cs:List ak):List ak:=cs.mergeSort zg
theorem jX(cs:List ak):(lg cs).Perm cs:=List.mergeSort_perm cs zg
theorem wM(cs:List ak):gF ((lg cs).map dO):=by
 have h:(lg cs).Pairwise fun a b=>zg a b=true:=by
  refine List.pairwise_mergeSort (fun a b c h1 h2=>?_) (fun a b=>?_) cs
  ·unfold zg at h1 h2 ⊢;rw[Bool.not_eq_true'] at h1 h2 ⊢;exact b6.tP h1 h2
  ·unfold zg;cases h:b6.lx (dO b) (dO a) with
   |false=>rfl
   |true=>
    rw[b6.tQ h];rfl
 unfold gF;rw[cU];refine h.imp fun h=>?_;unfold zg at h;rwa [Bool.not_eq_true'] at h
theorem u7{cs:List ak}{mss:List (List Int)}(hp:mss.Perm (cs.map dO))(hr:gF mss):mss=(lg cs).map dO:=by
 obtain⟨zs,p1,e⟩:=nt hp rfl;subst e;rw[wO (p1.trans (jX cs).symm) hr (wM cs)]
def yZ(k:Int)(c:ak):ak:=(c.1,(c.2+k)%c.1)
def mh(cs:List ak)(k:Int):List ak:=lg (cs.map (yZ k))
def Gg(G:Gp)(d:D)(cs:List ak):Prop:=d=bW cs∨∃q,d=.obj q/\G q=some (.lst (cs.map cD))
def kr:dG:=fun ds G Q=>∃(d:D) (cs:List ak) (k:Int),ds=[d,.int k]/\Gg G d cs/\(∀c∈cs,0<c.1)/\cs.length≤60/\∀G',Sub G G'->Q (bW (mh cs k)) G'
def B7:aE:=cn (dg jc (ο (dg i4 (ο (fi ["step","rest"] [1] (gW (υ 0)) (oV 2 (gj (hName 0) (gj (hName 1) (oW)))) (cV) (i8 (ο (υ 0) (ο (aR g4 (aR eK (υ 1) (υ 2)) (υ 0)) (aa))))) (aa))) (aa)))
theorem tO{G:Gp}{g:Gp->Prop}{cs:List ak}{k:Int}{Q:List D->Gp->Prop}(hg:g G)(hp:∀c∈cs,0<c.1)(q:Q ((cs.map (yZ k)).map cD) G):
  fV g (oV 2 (gj (hName 0) (gj (hName 1) (oW)))) cV (i8 (ο (υ 0) (ο (aR g4 (aR eK (υ 1) (υ 2)) (υ 0)) (aa)))) Q (cs.map cD) [] [none,none,some (.int k)] G:=by
 refine fw (fun τ=>∃x y,τ=[x,y,some (.int k)]) cD (fun _=>true) (fun c=>cD (yZ k c)) (G:=G) hg cs [] _ ⟨none,none,rfl⟩ ?_ ?_
 ·rintro c hm τ K1 K2 ⟨_,_,rfl⟩ g1 g2;exact⟨rfl,fun _=>⟨hp c hm,g1 rfl _ ⟨_,_,rfl⟩⟩,nofun⟩
 ·rw[filter_all,dj];rw[bp] at q;exact q
theorem vf{G G1:Gp}{p1:ε}{cs:List ak}{k:Int}{Q:V3}(hl:cs.length≤60)(n1:dw G p1 (.lst ((cs.map (yZ k)).map cD)) G1)(q:∀G',Sub G G'->Q (bW (mh cs k)) G'):
  ∃nss:List (List Int),G1 p1=some (.lst (nss.map tupI))/\nss.length<64/\(∀ns∈nss,ns≠[])/\∀(p:ε) (mss:List (List Int)) (G':Gp),dw G1 p (.lst (mss.map tupI)) G'->mss.Perm nss->gF mss->jc [.obj p] G' (aN Q).rt:=by
 refine⟨(cs.map (yZ k)).map dO,?_,by rw[μ,μ];lia,fun ns hn=>?_,fun p2 mss G2 n2 hp hr=>?_⟩
 ·rw[n1.at_,bp (f:=dO)];rfl
 ·obtain⟨c,_,rfl⟩:=Φ.mp hn;exact nofun
 ·refine⟨_,n2.at_,?_⟩;rw[u7 hp hr,bp];exact aZ (q G2 (n1.sub.trans n2.sub))
theorem CM:∀ds G Q,kr ds G Q->B7 (aN Q) (bh ["clocks","number"] ds) G:=by
 rintro ds G Q ⟨d,cs,k,rfl,hd,hp,hl,q⟩;have hz:(cs.map cD).length≤aj:=by rw[μ];exact cY (by lia)
 rcases hd with rfl|⟨q0,rfl,hq⟩
 ·exact⟨hz,tO trivial hp fun p1 G1 n1=>vf hl n1 q⟩
 ·exact⟨_,hq,hz,tO hq hp fun p1 G1 n1=>vf hl n1 q⟩
def lW:dG:=kr
def Cd:aE:=cn (dg jc (ο (dg i4 (ο (fi ["step","rest"] [1] (gW (υ 0)) (oV 2 (gj (hName 0) (gj (hName 1) (oW)))) (cV) (i8 (ο (υ 0) (ο (aR g4 (aR eK (υ 1) (υ 2)) (υ 0)) (aa))))) (aa))) (aa)))
theorem K5:∀ds G Q,lW ds G Q->Cd (aN Q) (bh ["clocks","number"] ds) G:=CM
def xo(cs:List ak):List (List ak):=(aB (gn cs)).map fun x:Nat=>mh cs (x:Int)
def jm(cs m:List ak):Prop:=m∈xo cs/\∀r∈xo cs,b6.eP (ju r) (ju m)=false
theorem oQ{cs m m':List ak}(h:jm cs m)(h':jm cs m'):m=m':=by
 refine En (ax fun e=>?_);have:=b6.zb e (h'.2 m h.1);rw[h.2 m' h'.1] at this;cases this
structure zB(cs:List ak):Prop where
 ok:dZ 1000 cs
 len:cs.length≤12
 gn:gn cs≤10000
def nP:dG:=fun ds G Q=>∃cs:List ak,ds=[bW cs]/\zB cs/\∀m G',jm cs m->Sub G G'->Q (bW m) G'
def Cm:aE:=cn (dg p9 (ο (fi ["number"] [0] (lH (ο (aV nJ (ο (υ 0) (aa))) (aa))) (hName 0) (cV) (aV kr (ο (υ 1) (ο (υ 0) (aa))))) (aa)))
theorem tR{G:Gp}{cs:List ak}{Q:V3}{sp:dG}(rN:sp=kr)(h:zB cs)(q:∀m G',jm cs m->Sub G G'->Q (bW m) G'):
  (-(2^62)≤((gn cs:Nat):Int)/\((gn cs:Nat):Int)<2^62)/\(gb 0 ((gn cs:Nat):Int).toNat).length≤aj/\fV (fun _=>True) (hName 0) cV (aV sp (ο (υ 1) (ο (υ 0) (aa)))) (fun acc G1=>∀p G2,dw G1 p (.lst acc) G2->p9 [.obj p] G2 (aN Q).rt) (gb 0 ((gn cs:Nat):Int).toNat) [] [none,some (bW cs)] G:=by
 subst rN;have hr:=h.gn;have h0:0<gn cs:=(yI (M:=1000) (cs:=cs) (a:=1) (fun c hc=>⟨(h.ok c hc).1.1,(h.ok c hc).2⟩) (by decide)).1;refine⟨⟨by lia,by lia⟩,?_,?_⟩
 ·rw[fZ,dD];exact az hr (by decide)
 rw[dD,P7];refine jj (fun es acc τ G'=>∃(dn rs:List Nat) (x:Option D),dn++rs=aB (gn cs)/\es=rs.map nD/\acc=dn.map (fun k:Nat=>bW (mh cs (k:Int)))/\Sub G G'/\τ=[x,some (bW cs)]) (fun _ _ _ _ _=>trivial) ?_ ?_ _ _ _ _ ⟨[],_,none,rfl,rfl,rfl,Sub.refl _,rfl⟩
 ·rintro d es acc τ G3 K1 K2 ⟨dn,rs,x,e1,e3,rfl,s1,rfl⟩ g1 g2;cases rs with
  |nil=>cases e3
  |cons k rs=>
   cases e3;refine⟨fun _=>⟨_,cs,(k:Int),rfl,.inl rfl,fun c hc=>(h.ok c hc).1.1,by have:=h.len;lia,fun G4 s4=>?_⟩,nofun⟩;exact g1 _ _ _ ⟨dn++[k],rs,_,by rw[eu];exact e1,rfl,by rw[bw];rfl,s1.trans s4,rfl⟩
 ·rintro acc τ G3 ⟨dn,rs,x,e1,e3,rfl,s1,rfl⟩;have e0:rs=[]:=by
   cases rs with
   |nil=>rfl
   |cons z zs=>cases e3
  subst e0;rw[cI] at e1;subst e1;intro p4 G4 n4;have em:((aB (gn cs)).map fun k:Nat=>bW (mh cs (k:Int)))=((xo cs).map ju).map dX:=by
   rw[←rl];unfold xo;rw[bp];rfl
  rw[em] at n4;refine⟨_,n4.at_,?_,fun m hm hl=>?_⟩
  ·unfold xo;rw[μ,μ,fg];exact h0
  ·obtain⟨m',hm',rfl⟩:=Φ.mp hm;rw[←sx];exact aZ (q m' G4 ⟨hm',fun r hr=>hl _ (jT hr)⟩ (s1.trans n4.sub))
theorem Lc:∀ds G Q,nP ds G Q->Cm (aN Q) (bh ["clocks"] ds) G:=by
 rintro ds G Q ⟨cs,rfl,h,q⟩;exact⟨cs,rfl,h.ok,by have:=h.len;lia,tR rfl h q⟩
def nO:dG:=fun ds G Q=>∃cs:List ak,ds=[bW cs]/\zB cs/\∀m G',jm cs m->Sub G G'->Q (bW m) G'
def Cf:aE:=cn (dg p9 (ο (fi ["number"] [0] (lH (ο (aV nM (ο (υ 0) (aa))) (aa))) (hName 0) (cV) (aV lW (ο (υ 1) (ο (υ 0) (aa))))) (aa)))
theorem K8:∀ds G Q,nO ds G Q->Cf (aN Q) (bh ["clocks"] ds) G:=by
 rintro ds G Q ⟨cs,rfl,h,q⟩;exact⟨cs,rfl,h.ok,h.len,tR rfl h q⟩
end My
namespace My
open PySem L2 L3
def xU(cs:List ak)(c:ak):Bool:=cs.all fun d=>!(decide ((d.2-c.2)%((cS d.1.toNat c.1.toNat:Nat):Int)=0))
def pS:dG:=fun ds G Q=>∃(cs:List ak) (c:ak),ds=[bW cs,cD c]/\(∀d∈cs,0<d.1)/\0<c.1/\Q (.bl (xU cs c)) G
def Er:aE:=jb (bU (aR (fA false) (aR g4 (aR oH (υ 3) (aR eB (υ 1) (eC (.int 1)))) (aV qP (ο (υ 2) (ο (aR eB (υ 1) (eC (.int 0))) (aa))))) (eC (.int 0)))) (cn (eC (.bl false))) (fL)
def Ep:aE:=cn (eC (.bl true))
def B6:aE:=bJ (jY (gW (υ 0)) (oV 2 (gj (hName 2) (gj (hName 3) (oW)))) (Er)) Ep
theorem KY:∀ds G Q,pS ds G Q->B6 (aN Q) (bh ["clocks","clock","step","rest"] ds) G:=by
 rintro ds G Q ⟨cs,c,rfl,hd,hc,q⟩;refine fc (fun ds τ G'=>∃(rs:List ak) (x2 x3:Option D),ds=rs.map cD/\xU cs c=xU rs c/\(∀d∈rs,0<d.1)/\τ=[some (bW cs),some (cD c),x2,x3]/\G'=G) (fun _ _ _ _=>trivial) ?_ ?_ _ _ _ ⟨cs,none,none,rfl,rfl,hd,rfl,rfl⟩
 ·rintro d ds τ G' N ⟨rs,x2,x3,e,ec,hp,rfl,rfl⟩ hN;cases rs with
  |nil=>cases e
  |cons d rs=>
   cases e;obtain⟨s,r⟩:=d;obtain⟨s2,r2⟩:=c;have hs:0<s:=hp (s,r) χ;have hs2:0<s2:=hc;obtain⟨a,rfl⟩:=fN (qL hs);obtain⟨b,rfl⟩:=fN (qL hs2);have hg:0<cS a b:=iE _ (by lia);have ec2:xU cs ((b:Int),r2)=(!(decide ((r-r2)%((cS a b:Nat):Int)=0))&&xU rs ((b:Int),r2)):=ec;refine⟨rfl,_,rfl,_,rfl,a,b,rfl,by show (0:Int)<((cS a b:Nat):Int);lia,_,_,rfl,rfl,aK _,fun g=>?_,fun g=>?_⟩
   ·have g':(((r-r2)%((cS a b:Nat):Int))==0)=true:=g;rw[beq_iff_eq] at g';rw[decide_eq_true g',fR,Bool.false_and] at ec2;rw[ec2] at q;exact aZ q
   ·have g':(((r-r2)%((cS a b:Nat):Int))==0)=false:=g;have g2:¬(r-r2)%((cS a b:Nat):Int)=0:=fun z=>by rw[z] at g';cases g'
    rw[decide_eq_false g2,Bool.not_false,Bool.true_and] at ec2;exact hN _ _ ⟨rs,_,_,rfl,ec2,fun d hd=>hp d (ω _ hd),rfl,rfl⟩
 ·rintro τ G' ⟨rs,x2,x3,e,ec,hp,rfl,rfl⟩;have e0:rs=[]:=by
   cases rs with
   |nil=>rfl
   |cons z zs=>cases e
  subst e0;rw[ec] at q;exact aZ q
def grown(ss:List Int)(cs:List ak)(x:Int):List (List ak):=((ss.map fun s=>((s,x%s):ak)).filter (xU cs)).map fun c=>cs++[c]
def pT:dG:=fun ds G Q=>∃(p:ε) (ss:List Int) (cs:List ak) (x:Int),ds=[.obj p,bW cs,.int x]/\G p=some (.lst (ss.map D.int))/\(∀s∈ss,0<s)/\ss.length≤60/\(∀c∈cs,0<c.1)/\cs.length≤100/\∀q G',dw G q (.lst ((grown ss cs x).map bW)) G'->Q (.obj q) G'
def Es:aE:=cn (fi ["clock"] [1] (gW (υ 3)) (hName 0) (bU (aV pS (ο (υ 1) (ο (υ 0) (aa))))) (aR eK (υ 1) (i8 (ο (υ 0) (aa)))))
def B8:aE:=bJ (cx (fi ["step"] [2] (gW (υ 0)) (hName 0) (cV) (i8 (ο (υ 0) (ο (aR g4 (υ 1) (υ 0)) (aa))))) (hName 3)) Es
theorem KZ:∀ds G Q,pT ds G Q->B8 (aN Q) (bh ["steps","clocks","number","tried"] ds) G:=by
 rintro ds G Q ⟨p,ss,cs,x,rfl,hp,hs,hl,hc,hcl,q⟩;refine⟨_,hp,by rw[μ];exact cY (by lia),?_⟩;refine fw (fun τ=>∃y,τ=[y,some (.int x)]) D.int (fun _=>true) (fun s=>cD ((s,x%s):ak)) (G:=G) hp ss [] _ ⟨none,rfl⟩ ?_ ?_
 ·rintro s hm τ K1 K2 ⟨_,rfl⟩ g1 g2;exact⟨fun _=>⟨hs s hm,g1 rfl _ ⟨_,rfl⟩⟩,nofun⟩
 rw[filter_all,dj];intro p3 G3 n3;have e3:G3 p3=some (.lst ((ss.map fun s=>((s,x%s):ak)).map cD)):=by
  rw[n3.at_,bp];rfl
 refine⟨_,e3,by rw[μ,μ];exact cY (by lia),?_⟩;refine fw (fun τ=>∃y,τ=[y,some (bW cs)]) cD (xU cs) (fun c=>bW (cs++[c])) (G:=G3) e3 (ss.map fun s=>((s,x%s):ak)) [] _ ⟨none,rfl⟩ ?_ ?_
 ·rintro c hm τ K1 K2 ⟨_,rfl⟩ g1 g2;obtain⟨s,hs',rfl⟩:=Φ.mp hm;refine⟨cs,_,rfl,hc,hs s hs',fun g=>⟨?_,?_⟩,fun g=>g2 g _ ⟨_,rfl⟩⟩
  ·show (cs.map cD).length+1≤aj;rw[μ];exact cY (by lia)
  ·have e:bW (cs++[((s,x%s):ak)])=.tup (cs.map cD++[cD ((s,x%s):ak)]):=by
    unfold bW;rw[bw];rfl
   rw[e] at g1;exact g1 g _ ⟨_,rfl⟩
 ·intro p4 G4 n4;have e4:G4 p4=some (.lst ((grown ss cs x).map bW)):=by
   rw[n4.at_,dj];unfold grown;rw[bp];rfl
  exact aZ (q p4 G4 ⟨n3.sub.of_none n4.aq,n3.sub.trans n4.sub,e4⟩)
def Dv(cs:List ak):Bool:=cs.all (fun c=>decide (0<c.1)&&decide (0≤c.2)&&decide (c.2<c.1)&&decide (c.1≤1000))&&decide (cs.length≤12)&&decide (gn cs≤10000)
def yV(ss:List Int):Nat->List ak->Bool
 |0,_=>false
 |f+1,cs=>Dv cs&&match tV cs with
  |none=>true
  |some x=>(grown ss cs (x:Int)).all (yV ss f)
def qo(ss:List Int):Nat->List ak->List (List ak)
 |0,_=>[]
 |f+1,cs=>match tV cs with
  |none=>[cs]
  |some x=>(grown ss cs (x:Int)).flatMap (qo ss f)
theorem yW{cs:List ak}(h:Dv cs=true):Gj cs:=by
 unfold Dv at h;simp only[cN,decide_eq_true_eq,dN] at h;refine⟨fun c hc=>?_,h.1.2,h.2⟩;have:=h.1.1 c hc;exact⟨⟨this.1.1.1,this.1.1.2,this.1.2⟩,this.2⟩
def ku(n:Nat):dG:=fun ds G Q=>∃(p:ε) (ss:List Int) (cs:List ak),ds=[.obj p,bW cs]/\G p=some (.lst (ss.map D.int))/\(∀s∈ss,0<s)/\ss.length≤60/\yV ss n cs=true/\(qo ss n cs).length≤1000/\∀q G',dw G q (.lst ((qo ss n cs).map bW)) G'->Q (.obj q) G'
theorem L7:∀ds G Q,¬ku 0 ds G Q:=by
 rintro ds G Q ⟨_,_,_,_,_,_,_,h,_⟩;cases h
def Ey(n:Nat):aE:=qQ (eM u9 (υ 3) (ο (aV (ku n) (ο (υ 0) (ο (υ 4) (aa)))) (aa)))
def Ex(n:Nat):aE:=cn (υ 3)
def Ez(n:Nat):aE:=bJ (jY (gW (aV pT (ο (υ 0) (ο (υ 1) (ο (υ 2) (aa)))))) (hName 4) ((Ey n))) (Ex n)
def EA(n:Nat):aE:=bJ (cx (j3 (aa)) (hName 3)) (Ez n)
def EB(n:Nat):aE:=bJ (jb (bU (aR (Lm false) (υ 2) (eC .aq))) (cn (j3 (ο (υ 1) (aa)))) (fL)) (EA n)
def Cg(n:Nat):aE:=bJ (cx (aV sY (ο (υ 1) (aa))) (hName 2)) (EB n)
theorem K9(n:Nat):∀ds G Q,ku (n+1) ds G Q->Cg n (aN Q) (bh ["steps","clocks","number","found","grown"] ds) G:=by
 rintro ds G Q ⟨p,ss,cs,rfl,hp,hs,hl,ho,hx,q⟩;have ho':(Dv cs&&match tV cs with
  |none=>true
  | some x=>(grown ss cs (x:Int)).all (yV ss n))=true:=ho
 have hx':(match tV cs with
  |none=>[cs]
  | some x=>(grown ss cs (x:Int)).flatMap (qo ss n)).length≤1000:=hx
 have q':∀q G',dw G q (.lst ((match tV cs with
  |none=>[cs]
  | some x=>(grown ss cs (x:Int)).flatMap (qo ss n)).map bW)) G'->Q (.obj q) G':=q
 rw[cN] at ho';obtain⟨hc,ho'⟩:=ho';have hR:=yW hc;refine⟨cs,rfl,hR,?_⟩;cases hm:tV cs with
 |none=>
  rw[hm] at q';exact⟨fun _ p1 G1 n1=>aZ (q' p1 G1 n1),nofun⟩
 |some x=>
  rw[hm] at q' ho' hx';have q':∀q G',dw G q (.lst (((grown ss cs (x:Int)).flatMap (qo ss n)).map bW)) G'->Q (.obj q) G':=q';have ho':(grown ss cs (x:Int)).all (yV ss n)=true:=ho';have hx':((grown ss cs (x:Int)).flatMap (qo ss n)).length≤1000:=hx';refine⟨nofun,fun _ p3 G3 n3=>⟨p,ss,cs,(x:Int),rfl,n3.sub _ _ hp,hs,hl,fun c hc=>(hR.1 c hc).1.1,by have:=hR.2.1;lia,fun p4 G4 n4=>⟨_,n4.at_,?_⟩⟩⟩;have h34:p4≠p3:=fun z=>by
   have:=n4.aq;rw[z,n3.at_] at this;cases this
  rw[dN] at ho';refine fc (fun ds τ G'=>∃(dn rs:List (List ak)) (x4:Option D),dn++rs=grown ss cs (x:Int)/\ds=rs.map bW/\τ=[some (.obj p),some (bW cs),some (.int (x:Nat)),some (.obj p3),x4]/\dw G p3 (.lst ((dn.flatMap (qo ss n)).map bW)) G'/\G' p4=some (.lst ((grown ss cs (x:Int)).map bW))) (fun _ _ _ h=>?_) ?_ ?_ _ _ _ ⟨[],grown ss cs (x:Int),none,rfl,rfl,rfl,⟨n3.aq,n3.sub.trans n4.sub,n4.sub _ _ n3.at_⟩,n4.at_⟩
  ·obtain⟨_,_,_,_,_,_,_,h⟩:=h;exact h
  ·rintro d ds τ G5 N ⟨dn,rs,x4,e1,e2,rfl,n5,e5⟩ hN;cases rs with
   |nil=>cases e2
   |cons g rs=>
    cases e2;have hg:g∈grown ss cs (x:Int):=by
     rw[←e1];exact aC _ χ
    have hlen:(dn.flatMap (qo ss n)).length+(qo ss n g).length≤1000:=by
     rw[←e1,pJ,List.flatMap_cons,av,av] at hx';lia
    refine⟨⟨p3,_,rfl,n5.at_⟩,p,ss,g,rfl,n5.sub _ _ hp,hs,hl,ho' g hg,by lia,fun q6 G6 n6=>?_⟩;have h6:=n6.sub _ _ n5.at_;refine⟨_,_,h6,n6.at_,cY (by rw[μ,μ];lia),hN _ _ ⟨dn++[g],rs,_,by rw[eu];exact e1,rfl,rfl,⟨n5.aq,Sub.wd (n5.sub.trans n6.sub) n5.aq,?_⟩,?_⟩⟩
    ·rw[cT,pJ,bw];simp
    ·rw[dE h34];exact n6.sub _ _ e5
  ·rintro τ G5 ⟨dn,rs,x4,e1,e2,rfl,n5,e5⟩;have e0:rs=[]:=by
    cases rs with
    |nil=>rfl
    |cons z zs=>cases e2
   subst e0;rw[cI] at e1;subst e1;exact aZ (q' p3 G5 n5)
def jw(n:Nat):List Int:=((aB n).map fun k:Nat=>((k+1:Nat):Int)).filter fun s=>(n:Int)%s==0
def raw(n:Nat):List (List ak):=qo (jw n) 40 []
def PH(n:Nat):Bool:=yV (jw n) 40 []&&decide ((raw n).length≤60)&&(raw n).all fun cs=>Dv cs&&(!cs.isEmpty&&cs.all fun c=>(n:Int)%c.1==0)
theorem Np:∀n,n<11->1≤n->PH n=true:=by decide +kernel
end My
namespace My
open PySem L2 L3
structure HL(n:Nat)(cs:List ak):Prop where
 rs:Gj cs
 ne:cs≠[]
 dv:∀c∈cs,c.1∣(n:Int)
theorem CN{n:Nat}(h1:1≤n)(h2:n<11):yV (jw n) 40 []=true/\(raw n).length≤60/\∀cs∈raw n,HL n cs:=by
 have h:=Np n h2 h1;unfold PH at h;simp only[cN,decide_eq_true_eq,dN] at h;refine⟨h.1.1,h.1.2,fun cs hc=>?_⟩;obtain⟨a,b,c⟩:=h.2 cs hc;refine⟨yW a,fun z=>?_,fun d hd=>?_⟩
 ·rw[z] at b;cases b
 ·have:=c d hd;rw[beq_iff_eq] at this;exact mS this
theorem IF{n:Nat}{cs:List ak}(h1:1≤n)(h2:n<11)(h:HL n cs):zB (lg cs):=by
 have hp:=jX cs;refine⟨fun c hc=>h.rs.1 c (hp.mem_iff.mp hc),by rw[hp.length_eq];exact h.rs.2.1,?_⟩;have hd:gn (lg cs)∣n:=Aa (Nat.one_dvd _) fun c hc=>by
  have hm:=hp.mem_iff.mp hc;have h0:=(h.rs.1 c hm).1.1;have:=h.dv c hm;obtain⟨a,ha⟩:=fN (qL h0);rw[ha] at this ⊢;exact Int.natCast_dvd_natCast.mp this
 have:=gQ (by lia) hd;lia
def nK:dG:=fun ds G Q=>∃n:Nat,ds=[.int n]/\1≤n/\n<11/\∀(q:ε) (rs:List (List ak)) (G':Gp),rs.Perm ((raw n).map lg)->dw G q (.lst (rs.map bW)) G'->Q (.obj q) G'
def wm:aE:=cn (dg p8 (ο (fi ["clocks"] [] (gW (aV (ku 40) (ο (υ 1) (ο (i8 (aa)) (aa))))) (hName 0) (cV) (dg jc (ο (xN (υ 0)) (aa)))) (aa)))
def Ca:aE:=bJ (cx (fi ["step"] [0] (qZ (ο (eC (.int 1)) (ο (aR eK (υ 0) (eC (.int 1))) (aa)))) (hName 0) (bU (aR (fA false) (aR g4 (υ 1) (υ 0)) (eC (.int 0)))) (υ 0)) (hName 1)) wm
theorem P5(n:Nat):gb 1 n=(aB n).map fun k=>nD (k+1):=by
 unfold gb;refine b8 fun k _=>?_;show D.int (1+(k:Int))=D.int ((k+1:Nat):Int);rw[show (1:Int)+(k:Int)=((k+1:Nat):Int) by lia]
theorem J6{Q:V3}{G:Gp}{n:Nat}{p1:ε}{x0:Option D}(h1:1≤n)(h2:n<11)(e1:G p1=some (.lst ((jw n).map D.int)))(q:∀(q:ε) (rs:List (List ak)) (G':Gp),rs.Perm ((raw n).map lg)->dw G q (.lst (rs.map bW)) G'->(aN Q).rt (.obj q) G'):
  wm (aN Q) [x0,some (.obj p1)] G:=by
 obtain⟨ok,hl,hc⟩:=CN h1 h2;have hsl:(jw n).length≤60:=by
  unfold jw;have:=List.length_filter_le (fun s=>(n:Int)%s==0) ((aB n).map fun k:Nat=>((k+1:Nat):Int));rw[μ,fg] at this;lia
 refine⟨p1,jw n,[],rfl,e1,fun s hs=>?_,hsl,ok,az hl (by decide),fun q2 G2 n2=>?_⟩
 ·obtain⟨k,_,rfl⟩:=Φ.mp (m9.mp hs).1;lia
 have n2':dw G q2 (.lst ((raw n).map bW)) G2:=n2;refine⟨_,n2'.at_,by rw[μ];exact cY (by lia),?_⟩;refine jj (fun es acc τ G'=>∃(dn rs:List (List ak)) (x:Option D),dn++rs=raw n/\es=rs.map bW/\acc=dn.map (fun cs=>bW (lg cs))/\Sub G2 G'/\τ=[x]) (fun _ _ _ _ h=>?_) ?_ ?_ _ _ _ _ ⟨[],_,none,rfl,rfl,rfl,Sub.refl _,rfl⟩
 ·obtain⟨_,_,_,_,_,_,s,_⟩:=h;exact s _ _ n2'.at_
 ·rintro d es acc τ G3 K1 K2 ⟨dn,rs,x,e1,e3,rfl,s1,rfl⟩ g1 g2;cases rs with
  |nil=>cases e3
  |cons cs rs=>
   cases e3;have hR:=hc cs (by rw[←e1];exact aC _ χ);refine⟨fun _=>⟨cs.map dO,(j0 cs).symm,by rw[μ];have:=hR.rs.2.1;lia,sJ,fun p4 mss G4 n4 hp hr=>⟨_,n4.at_,?_⟩⟩,nofun⟩;have e:D.tup (mss.map tupI)=bW (lg cs):=by
    rw[u7 hp hr,j0];rfl
   rw[e];exact g1 _ _ _ ⟨dn++[cs],rs,_,by rw[eu];exact e1,rfl,by rw[bw];rfl,s1.trans n4.sub,rfl⟩
 ·rintro acc τ G3 ⟨dn,rs,x,e1,e3,rfl,s1,rfl⟩;have e0:rs=[]:=by
   cases rs with
   |nil=>rfl
   |cons z zs=>cases e3
  subst e0;rw[cI] at e1;subst e1;intro p4 G4 n4;have em:(raw n).map (fun cs=>bW (lg cs))=(((raw n).map lg).map ju).map dX:=by
   rw[←rl,bp];rfl
  rw[em] at n4;refine⟨_,n4.at_,by rw[μ,μ];lia,fun ns hn=>?_,fun p5 mss G5 n5 hp hr=>?_⟩
  ·obtain⟨cs,hcs,rfl⟩:=Φ.mp hn;obtain⟨c0,hc0,rfl⟩:=Φ.mp hcs;intro z;have:(lg c0).length=0:=by
    have:=congrArg du z;unfold ju at this;rw[μ] at this;exact this
   rw[(jX c0).length_eq] at this;exact (hc c0 hc0).ne (gg this)
  ·obtain⟨rs,pr,rfl⟩:=nt hp rfl;rw[←rl] at n5;have s:=((n2'.sub.trans s1).trans n4.sub);exact q p5 rs G5 pr ⟨s.of_none n5.aq,s.trans n5.sub,n5.at_⟩
theorem K3:∀ds G Q,nK ds G Q->Ca (aN Q) (bh ["n","steps"] ds) G:=by
 rintro ds G Q ⟨n,rfl,h1,h2,q⟩;refine⟨⟨by decide,by decide,by lia,by lia⟩,?_⟩;rw[show ((n:Int)+1-1).toNat=n by lia,P5];refine⟨by rw[μ,fg];exact cY (by lia),?_⟩;refine fw (fun τ=>∃x,τ=[x,some (.int (n:Int))]) (fun k:Nat=>nD (k+1)) (fun k:Nat=>(n:Int)%((k+1:Nat):Int)==0) (fun k:Nat=>nD (k+1)) (G:=G) trivial (aB n) [] _ ⟨none,rfl⟩ ?_ ?_
 ·rintro k hm τ K1 K2 ⟨_,rfl⟩ g1 g2;refine⟨by show (0:Int)<((k+1:Nat):Int);lia,_,_,rfl,rfl,aK _,fun g=>g1 g _ ⟨_,rfl⟩,fun g=>g2 g _ ⟨_,rfl⟩⟩
 intro p1 G1 n1;have e1:G1 p1=some (.lst ((jw n).map D.int)):=by
  rw[n1.at_,dj];unfold jw;rw[List.filter_map,bp];rfl
 exact J6 h1 h2 e1 fun q2 rs G' hp n2=>aZ (q q2 rs G' hp ⟨n1.sub.of_none n2.aq,n1.sub.trans n2.sub,n2.at_⟩)
def HQ(rs:List (List ak))(m:List (List Int)):Prop:=∃c∈rs,∃l,jm c l/\m=ju l
def Kinds(n:Nat)(k:Nat):Prop:=∃ks:List (List (List Int)),ks.Nodup/\(∀m,m∈ks↔HQ ((raw n).map lg) m)/\k=ks.length
theorem AK{n k k':Nat}(h:Kinds n k)(h':Kinds n k'):k=k':=by
 obtain⟨ks,a,b,rfl⟩:=h;obtain⟨ks',a',b',rfl⟩:=h';exact ((kX a a').mpr fun m=>(b m).trans (b' m).symm).length_eq
theorem xC{as bs:List (List ak)}(h:as.Perm bs)(m:List (List Int)):HQ as m↔HQ bs m:=
 ⟨fun⟨c,hc,r⟩=>⟨c,h.mem_iff.mp hc,r⟩,fun⟨c,hc,r⟩=>⟨c,h.mem_iff.mpr hc,r⟩⟩
theorem CL{n:Nat}{rs:List (List ak)}(h1:1≤n)(h2:n<11)(hp:rs.Perm ((raw n).map lg)):rs.length≤60/\∀c∈rs,zB c:=by
 obtain⟨_,hl,hc⟩:=CN h1 h2;refine⟨by rw[hp.length_eq,μ];exact hl,fun c hcm=>?_⟩;obtain⟨c0,h0,rfl⟩:=Φ.mp (hp.mem_iff.mp hcm);exact IF h1 h2 (hc c0 h0)
def pV:dG:=fun ds G Q=>∃n:Nat,ds=[.int n]/\1≤n/\n<11/\∀k G',Kinds n k->Sub G G'->Q (.int (k:Nat)) G'
def Ck:aE:=cn (xP (fi ["clocks"] [] (gW (aV nK (ο (υ 0) (aa)))) (hName 0) (cV) (aV nP (ο (υ 0) (aa)))))
theorem Lb:∀ds G Q,pV ds G Q->Ck (aN Q) (bh ["n"] ds) G:=by
 rintro ds G Q ⟨n,rfl,h1,h2,q⟩;refine⟨n,rfl,h1,h2,fun q1 rs0 G1 hp n1=>?_⟩;obtain⟨hl,bV⟩:=CL h1 h2 hp;refine⟨_,n1.at_,by rw[μ];exact cY (by lia),?_⟩;refine jj (fun es acc τ G'=>∃(dn rs ms:List (List ak)) (x:Option D),dn++rs=rs0/\es=rs.map bW/\acc=ms.map bW/\ms.length=dn.length/\(∀m∈ms,∃c∈dn,jm c m)/\(∀c∈dn,∃m∈ms,jm c m)/\Sub G1 G'/\τ=[x]) (fun _ _ _ _ h=>?_) ?_ ?_ _ _ _ _ ⟨[],_,[],none,rfl,rfl,rfl,rfl,nofun,nofun,Sub.refl _,rfl⟩
 ·obtain⟨_,_,_,_,_,_,_,_,_,_,s,_⟩:=h;exact s _ _ n1.at_
 ·rintro d es acc τ G3 K1 K2 ⟨dn,rs,ms,x,e1,e3,rfl,el,ha,hb,s1,rfl⟩ g1 g2;cases rs with
  |nil=>cases e3
  |cons c rs=>
   cases e3;have hcm:c∈rs0:=by
    rw[←e1];exact aC _ χ
   refine⟨fun _=>⟨c,rfl,bV c hcm,fun m G4 hm s4=>?_⟩,nofun⟩;refine g1 _ _ _ ⟨dn++[c],rs,ms++[m],_,by rw[eu];exact e1,rfl,by rw[bw];rfl,by rw[av,av,el];rfl,fun z hz=>?_,fun z hz=>?_,s1.trans s4,rfl⟩
   ·rcases bC.mp hz with hz|hz
    ·obtain⟨c',h3,h4⟩:=ha z hz;exact⟨c',bX _ h3,h4⟩
    ·rw[dt.mp hz];exact⟨c,aC _ χ,hm⟩
   ·rcases bC.mp hz with hz|hz
    ·obtain⟨c',h3,h4⟩:=hb z hz;exact⟨c',bX _ h3,h4⟩
    ·rw[dt.mp hz];exact⟨m,aC _ χ,hm⟩
 ·rintro acc τ G3 ⟨dn,rs,ms,x,e1,e3,rfl,el,ha,hb,s1,rfl⟩;have e0:rs=[]:=by
   cases rs with
   |nil=>rfl
   |cons z zs=>cases e3
  subst e0;rw[cI] at e1;subst e1;intro p4 G4 n4;rw[rl] at n4;refine⟨_,n4.at_,by rw[μ];lia,fun mss hm nd=>aZ (q mss.length G4 ⟨mss,nd,fun m=>?_,rfl⟩ ((n1.sub.trans s1).trans n4.sub))⟩;rw[hm,←xC hp];constructor
  ·intro hz;obtain⟨l,hl',rfl⟩:=Φ.mp hz;obtain⟨c,hc,hL⟩:=ha l hl';exact⟨c,hc,l,hL,rfl⟩
  ·rintro⟨c,hc,l,hL,rfl⟩;obtain⟨m',hm',hL'⟩:=hb c hc;rw[oQ hL hL'];exact jT hm'
theorem Nn{c:ak}(h:Valid c/\c.1≤1000):ig (cD c)=true:=by
 obtain⟨⟨h1,h2,h3⟩,h4⟩:=h;show ((decide (1≤c.1)&&decide (c.1≤1000))&&(decide (0≤c.2)&&decide (c.2<c.1)))=true;rw[decide_eq_true (show 1≤c.1 by lia),decide_eq_true h4,decide_eq_true h2,decide_eq_true h3];rfl
theorem Qp{a b:ak}(h:Ec a b):DJ (a,b)=true:=by
 obtain⟨s,r⟩:=a;obtain⟨s',r'⟩:=b;show (if s=s' then (if r=r' then false else decide (r<r')) else decide (s<s'))=true;rcases h with h|⟨h1,h2⟩
 ·have h:s<s':=h;rw[if_neg (by lia),decide_eq_true h]
 ·have h1:s=s':=h1;have h2:r<r':=h2;rw[if_pos h1,if_neg (by lia),decide_eq_true h2]
theorem HJ:∀{cs:List ak},j6 cs->sy cs=true
 |[],_=>rfl
 |[c],_=>rfl
 |a::b::cs,h=>by
  show (DJ (a,b)&&sy (b::cs))=true;have h':=fX.mp h;rw[Qp (h'.1 b χ),HJ (cs:=b::cs) h'.2];rfl
theorem Nl{cs:List ak}(ok:dZ 1000 cs)(hl:cs.length≤12)(hr:j6 cs):t5 (bW cs)=true:=by
 show (decide ((cs.map cD).length≤12)&&((cs.map cD).all ig&&sy ((cs.map cD).map vY)))=true;rw[vg,HJ hr,μ,decide_eq_true hl,qK];have:cs.all (ig ∘ cD)=true:=dN.mpr fun c hc=>Nn (ok c hc);rw[this];rfl
theorem J0{G:Gp}(cs:List ak):jR G (bW cs):=jR.tup fun d hd=>by
 obtain⟨c,_,rfl⟩:=Φ.mp hd;refine jR.tup fun z hz=>?_;simp only[aM,List.not_mem_nil,or_false] at hz;rcases hz with rfl|rfl<;>exact jR.int _
theorem Jt{cs:List ak}(h:j6 cs):cs.Nodup:=h.imp fun {a b} q e=>by
 subst e;have q:a.1<a.1∨(a.1=a.1/\a.2<a.2):=q;lia
theorem DG{cs:List ak}{k:Int}(ok:dZ 1000 cs):dZ 1000 (mh cs k):=fun c hc=>by
 obtain⟨d,hd,rfl⟩:=Φ.mp ((jX _).mem_iff.mp hc);obtain⟨⟨h1,h2,h3⟩,h4⟩:=ok d hd;have h1:0<d.1:=h1;exact⟨⟨h1,eZ _ (by lia),dR _ h1⟩,h4⟩
theorem za(cs:List ak)(k:Int):(mh cs k).length=cs.length:=by
 unfold mh;rw[(jX _).length_eq,μ]
theorem Jw{r r' n s:Int}(h0:0<s)(h1:0≤r)(h2:r<s)(h3:0≤r')(h4:r' < s)(e:(r+n)%s=(r'+n)%s):r=r':=by
 have h:(r+n-(r'+n))%s=0:=Int.emod_eq_emod_iff_emod_sub_eq_zero.mp e;have h':(r-r')%s=0:=by
  rw[show r-r'=r+n-(r'+n) by lia];exact h
 obtain⟨t,ht⟩:=mS h';rcases Int.lt_trichotomy t 0 with z|z|z
 ·have:s*t≤s*(-1):=gh (by lia) (by lia);lia
 ·rw[z] at ht;lia
 ·have:s*1≤s*t:=gh (by lia) (by lia);lia
theorem Fi{cs:List ak}{k:Int}(ok:dZ 1000 cs)(hr:j6 cs):j6 (mh cs k):=by
 refine yJ (wM _) ?_;have h1:(cs.map (yZ k)).Nodup:=by
  refine iI (R:=fun a b=>a∈cs/\b∈cs/\a≠b) _ (fun a b ⟨ha,hb,hne⟩ e=>hne ?_) ?_
  ·obtain⟨⟨a1,a2,a3⟩,_⟩:=ok a ha;obtain⟨⟨b1,b2,b3⟩,_⟩:=ok b hb;obtain⟨s,r⟩:=a;obtain⟨s',r'⟩:=b;have e':((s,(r+k)%s):ak)=(s',(r'+k)%s'):=e;injection e' with e1 e2;subst e1;have:r=r':=Jw (s:=s) a1 a2 a3 b2 b3 e2;rw[this]
  ·have nd:=Jt hr;clear hr ok
   induction cs with
   |nil=>exact .nil
   |cons c cs ih=>
    rw[eo] at nd;refine fX.mpr ⟨fun b hb=>⟨χ,ω _ hb,fun z=>nd.1 (z▸hb)⟩,?_⟩;exact (ih nd.2).imp fun⟨x,y,z⟩=>⟨ω _ x,ω _ y,z⟩
 have h2:(mh cs k).Nodup:=(jX _).nodup_iff.mpr h1;exact iI _ (fun a b h e=>h (uq e)) h2
end My
namespace My
open PySem L2 L3
def kv:dG:=fun ds G Q=>∃ns:List Int,ds=[.fz (ns.map .int)]/\ns.length≤63/\Q (.bl true) G
def EK:aE:=cx (eC (.bl true)) (AR (υ 2) (aV nO (ο (υ 3) (aa))))
def Cs:aE:=jb (pz (kO (bU (aV tp (ο (υ 8) (aa))))) (bU (aR (fA true) (υ 8) (aV lW (ο (υ 3) (ο (υ 7) (aa))))))) (cn (eC (.bl false))) (fL)
def u3:aE:=bJ (cx (aV kr (ο (υ 3) (ο (υ 7) (aa)))) (hName 8)) Cs
def Cr:aE:=jb (Bg (bU (aR w9 (aV nM (ο (υ 9) (aa))) (eC (.int 300)))) (bU (aR (fA true) (aV nP (ο (υ 9) (aa))) (aV nO (ο (υ 9) (aa)))))) (cn (eC (.bl false))) (fL)
def u0:aE:=bJ (cx (aV lW (ο (aV nR (ο (υ 6) (ο (eC (.int 1)) (ο (eC (.int 9)) (aa))))) (ο (aV eO (ο (υ 6) (ο (eC (.int 100)) (aa)))) (aa)))) (hName 9)) Cr
def Ct:aE:=bJ (jY (gW (j3 (ο (eC (.int 0)) (ο (eC (.int 1)) (ο (Nh Af (eC (.int 1))) (ο (aV eO (ο (υ 6) (ο (aR vQ (eC (.int 10)) (eC (.int 59))) (aa)))) (ο (aR oH (eC (.int 0)) (aV eO (ο (υ 6) (ο (aR vQ (eC (.int 10)) (eC (.int 59))) (aa))))) (aa)))))))) (hName 7) (u3)) u0
def Cu:aE:=bJ (cx (aV td (ο (υ 6) (ο (eC (.int 12)) (aa)))) (hName 3)) Ct
def wt:aE:=bJ (cx (aV tm (ο (υ 5) (aa))) (hName 6)) Cu
def Cq:aE:=cn (eC (.bl true))
def wu:aE:=bJ (jY (gW (aR eK (j3 (ο (aV nQ (ο (υ 0) (ο (eC (.int 0)) (aa)))) (aa))) (Hw (υ 0) (tN (eC (.int 1))) (tN (eC (.int 5)))))) (hName 5) (wt)) Cq
def EI:aE:=bJ (jb (pz (kO (bU (aV nN (ο (υ 4) (aa))))) (bU (aR (fA true) (υ 4) (dg uy (ο (υ 2) (aa)))))) (cn (eC (.bl false))) (fL)) wu
def EJ:aE:=bJ (cx (aV pV (ο (υ 1) (aa))) (hName 4)) EI
def wx:aE:=bJ (jY (gW (aV nK (ο (υ 1) (aa)))) (hName 3) (EK)) EJ
def wy:aE:=bJ (cx (Bf) (hName 2)) wx
def Cv:aE:=bJ (cx (aR eK (eC (.int 1)) (aV eO (ο (aV tm (ο (aV nQ (ο (υ 0) (ο (eC (.int 0)) (aa)))) (aa))) (ο (eC (.int 10)) (aa))))) (hName 1)) wy
theorem DW{G:Gp}{cs:List ak}{Q:V3}(q:Q (.bl false) G):fA true (bW cs) (bW cs) G Q:=by
 refine⟨_,_,uY cs,uY cs,Kb cs,?_⟩;show Q (.bl (!((Dat.D.tup (cs.map cX)).ff (.tup (cs.map cX))))) G;rw[J7];exact q
theorem MG{D3:jH}{G:Gp}{cs:List ak}{k:Int}{x0 x1 x2 x4 x5 x6 x8 x9:Option D}(ok:dZ 1000 cs)(hl:cs.length≤12)(hr:j6 cs)(n:∀G' y8,Sub G G'->D3.nx [x0,x1,x2,some (bW cs),x4,x5,x6,some (.int k),y8,x9] G'):
  u3 D3 [x0,x1,x2,some (bW cs),x4,x5,x6,some (.int k),x8,x9] G:=by
 have hp:∀c∈cs,0<c.1:=fun c hc=>(ok c hc).1.1;refine⟨_,cs,k,rfl,.inl rfl,hp,by lia,fun G1 s1=>?_⟩;refine⟨_,rfl,J0 _,?_⟩;rw[Nl (DG ok) (by rw[za];exact hl) (Fi ok hr)];exact⟨nofun,fun _=>⟨_,cs,k,rfl,.inl rfl,hp,by lia,fun G2 s2=>DW ⟨nofun,fun _=>n G2 _ (s1.trans s2)⟩⟩⟩
theorem MF{D3:jH}{G:Gp}{pp:ε}{x0 x1 x2 x3 x4 x5 x7 x8 x9:Option D}(hp:G pp=some .md)(n:∀G' y9,Sub G G'->D3.nx [x0,x1,x2,x3,x4,x5,some (.obj pp),x7,x8,y9] G'):
  u0 D3 [x0,x1,x2,x3,x4,x5,some (.obj pp),x7,x8,x9] G:=by
 refine⟨pp,1,9,rfl,hp,⟨by decide,by decide,by decide⟩,fun q cs G1 ok h1 h2 n1=>?_⟩;refine⟨pp,100,rfl,n1.sub _ _ hp,⟨by decide,dm (by decide) (by decide)⟩,fun r a b=>?_⟩;refine⟨_,cs,r,rfl,.inr ⟨q,rfl,n1.at_⟩,fun c hc=>(ok c hc).1.1,by lia,fun G2 s2=>?_⟩;have ok2:dZ 1000 (mh cs r):=DG ok;have hl2:(mh cs r).length≤12:=by rw[za];lia
 refine⟨mh cs r,rfl,ok2,hl2,fun g=>?_,fun g=>⟨nofun,fun _=>n _ _ (n1.sub.trans s2)⟩⟩;have g':((gn (mh cs r):Nat):Int)≤300:=of_decide_eq_true g;have hL:zB (mh cs r):=⟨ok2,hl2,by lia⟩;refine⟨_,rfl,hL,fun m G3 hm s3=>⟨_,rfl,hL,fun m' G4 hm' s4=>?_⟩⟩;rw[oQ hm hm'];exact DW ⟨nofun,fun _=>n _ _ (((n1.sub.trans s2).trans s3).trans s4)⟩
theorem OY{D3:jH}{G:Gp}{cell:Int}{x0 x1 x2 x3 x4 x6 x7 x8 x9:Option D}(n:∀G' y3 y5 y6 y7 y8 y9,Sub G G'->D3.nx [x0,x1,x2,y3,x4,y5,y6,y7,y8,y9] G'):
  wt D3 [x0,x1,x2,x3,x4,some (.int cell),x6,x7,x8,x9] G:=by
 refine⟨cell,rfl,fun pp G1 n1=>?_⟩;refine⟨pp,12,rfl,n1.at_,⟨by decide,by decide⟩,fun cs ok hl hr=>?_⟩;refine⟨⟨by decide,by decide,by decide⟩,pp,_,rfl,n1.at_,⟨by decide,dm (by decide) (by decide)⟩,fun f f1 f2=>⟨⟨by decide,by decide,by decide⟩,pp,_,rfl,n1.at_,⟨by decide,dm (by decide) (by decide)⟩,fun f' f3 f4 p2 G2 n2=>⟨_,n2.at_,?_⟩⟩⟩;refine fc (fun ds τ G'=>Sub G2 G'/\∃(is:List Int) (y7 y8:Option D),ds=is.map D.int/\τ=[x0,x1,x2,some (bW cs),x4,some (.int cell),some (.obj pp),y7,y8,x9]) (fun _ _ _ h=>h.1 _ _ n2.at_) ?_ ?_ _ _ _ ⟨Sub.refl _,[0,1,-1,f,0-f'],x7,x8,rfl,rfl⟩
 ·rintro d ds τ G3 N ⟨s3,is,y7,y8,e,rfl⟩ hN;cases is with
  |nil=>cases e
  |cons i is=>
   cases e;exact MG ok (by lia) hr fun G4 y8 s4=>hN _ _ ⟨s3.trans s4,is,_,_,rfl,rfl⟩
 ·rintro τ G3 ⟨s3,is,y7,y8,e,rfl⟩;exact MF (s3 _ _ (n2.sub _ _ n1.at_)) fun G4 y9 s4=>n _ _ _ _ _ _ _ (((n1.sub.trans n2.sub).trans s3).trans s4)
theorem OZ{Q:V3}{G:Gp}{ns:List Int}{x1 x2 x3 x4:Option D}(q:∀G',Sub G G'->(aN Q).rt (.bl true) G'):wu (aN Q) [some (.fz (ns.map .int)),x1,x2,x3,x4,none,none,none,none,none] G:=by
 refine⟨ns,0,rfl,fun i=>?_⟩;intro q0 G2 n2 q1 G3 n3;rw[xQ] at n3;have hc8:(sv ns (some 1) (some 5)).length≤4:=by
  unfold sv;rw[show (some 1:Option Int)=some ((1:Nat):Int) from rfl,show (some 5:Option Int)=some ((5:Nat):Int) from rfl,HT.uw,HT.uw,dM];lia
 refine⟨_,_,n3.sub _ _ n2.at_,n3.at_,?_,fun q2 G4 n4=>?_⟩
 ·rw[μ];exact cY (by simp;lia)
 have s4:=(n2.sub.trans n3.sub).trans n4.sub;refine⟨_,n4.at_,?_⟩;refine fc (fun ds τ G'=>∃(is:List Int) (x3 x5 x6 x7 x8 x9:Option D),ds=is.map D.int/\τ=[some (.fz (ns.map .int)),x1,x2,x3,x4,x5,x6,x7,x8,x9]/\Sub G4 G') (fun _ _ _ h=>?_) ?_ ?_ _ _ _ ⟨i::sv ns (some 1) (some 5),_,_,_,_,_,_,rfl,rfl,Sub.refl _⟩
 ·obtain⟨_,_,_,_,_,_,_,_,_,s⟩:=h;exact s _ _ n4.at_
 ·rintro d ds τ G5 N ⟨is,x3,x5,x6,x7,x8,x9,e,rfl,s⟩ hN;cases is with
  |nil=>cases e
  |cons cc is=>
   cases e;exact OY fun G' y3 y5 y6 y7 y8 y9 s'=>hN _ _ ⟨is,y3,y5,y6,y7,y8,y9,rfl,rfl,s.trans s'⟩
 ·rintro τ G5 ⟨is,x3,x5,x6,x7,x8,x9,e,rfl,s⟩;exact q _ (s4.trans s)
theorem E6{ks:List (List (List Int))}{k m:List (List Int)}:m∈nr ks k↔m∈ks∨m=k:=by
 unfold nr;by_cases h:k∈ks
 ·rw[if_pos h];constructor
  ·exact .inl
  ·rintro (z|rfl)
   ·exact z
   ·exact h
 ·rw[if_neg h,bC,dt]
theorem IW{ks:List (List (List Int))}{k:List (List Int)}(h:ks.Nodup):(nr ks k).Nodup:=by
 unfold nr;by_cases hk:k∈ks
 ·rw[if_pos hk];exact h
 ·rw[if_neg hk];refine List.nodup_append.mpr ⟨h,mP _ _,fun a ha b hb e=>?_⟩;rw[dt.mp hb] at e;exact hk (e▸ha)
theorem E7(ks:List (List (List Int)))(k:List (List Int)):(nr ks k).length≤ks.length+1:=by
 unfold nr;split
 ·lia
 ·rw[av];exact Θ _
theorem O0{Q:V3}{G:Gp}{ns:List Int}{n:Nat}{p2:ε}(h1:1≤n)(h2:n<11)(hp2:G p2=some (.gen (qr [])))(q:∀G',(∀b o,b≠p2->G b=some o->G' b=some o)->(aN Q).rt (.bl true) G'):wx (aN Q) [some (.fz (ns.map .int)),some (.int (n:Nat)),some (.obj p2),none,none,none,none,none,none,none] G:=by
 refine⟨n,rfl,h1,h2,fun q1 rs0 G1 hp n1=>⟨_,n1.at_,?_⟩⟩;obtain⟨hl,bV⟩:=CL h1 h2 hp;have hne:q1≠p2:=fun z=>by
  have:=n1.aq;rw[z,hp2] at this;cases this
 refine fc (fun ds τ G'=>∃(dn rs:List (List ak)) (ks:List (List (List Int))) (x3:Option D),dn++rs=rs0/\ds=rs.map bW/\τ=[some (.fz (ns.map .int)),some (.int (n:Nat)),some (.obj p2),x3,none,none,none,none,none,none]/\G' p2=some (.gen (qr ks))/\ks.Nodup/\ks.length≤dn.length/\(∀m,m∈ks↔HQ dn m)/\G' q1=some (.lst (rs0.map bW))/\∀b o,b≠p2->G b=some o->G' b=some o) (fun _ _ _ h=>?_) ?_ ?_ _ _ _ ⟨[],rs0,[],none,rfl,rfl,rfl,n1.sub _ _ hp2,kc,aK _,fun m=>⟨nofun,fun⟨c,hc,_⟩=>nomatch hc⟩,n1.at_,fun b o _ e=>n1.sub _ _ e⟩
 ·obtain⟨_,_,_,_,_,_,_,_,_,_,_,h,_⟩:=h;exact h
 ·rintro d ds τ G5 N ⟨dn,rs,ks,x3,e1,e2,rfl,e5,nd,hkl,hk,e6,hs⟩ hN;cases rs with
  |nil=>cases e2
  |cons c rs=>
   cases e2;have hcm:c∈rs0:=by
    rw[←e1];exact aC _ χ
   have hdl:dn.length≤60:=by
    have:=congrArg du e1;rw[av] at this;lia
   refine⟨rfl,c,rfl,bV c hcm,fun m G6 hm s6=>⟨ks,ju m,s6 _ _ e5,sx m,by lia,hN _ _ ⟨dn++[c],rs,nr ks (ju m),_,by rw[eu];exact e1,rfl,rfl,cT,IW nd,?_,fun z=>?_,?_,fun b o hb e=>?_⟩⟩⟩
   ·have:=E7 ks (ju m);rw[av];show _≤dn.length+1;lia
   ·rw[E6,hk];constructor
    ·rintro (⟨c',hc',r⟩|rfl)
     ·exact⟨c',bX _ hc',r⟩
     ·exact⟨c,aC _ χ,m,hm,rfl⟩
    ·rintro⟨c',hc',l,hL,rfl⟩;rcases bC.mp hc' with hc' | hc'
     ·exact .inl ⟨c',hc',l,hL,rfl⟩
     ·rw[dt.mp hc'] at hL;rw[oQ hL hm];exact .inr rfl
   ·rw[dE hne];exact s6 _ _ e6
   ·rw[dE hb];exact s6 _ _ (hs b o hb e)
 ·rintro τ G5 ⟨dn,rs,ks,x3,e1,e2,rfl,e5,nd,hkl,hk,e6,hs⟩;have e0:rs=[]:=by
   cases rs with
   |nil=>rfl
   |cons z zs=>cases e2
  subst e0;rw[cI] at e1;subst e1;refine⟨n,rfl,h1,h2,fun k G6 hK s6=>?_⟩;have ek:k=ks.length:=AK hK ⟨ks,nd,fun m=>(hk m).trans (xC hp m),rfl⟩;subst ek;refine⟨trivial,nofun,fun _=>⟨ks,s6 _ _ e5,by lia,_,_,rfl,rfl,aK _,fun g=>?_,fun _=>?_⟩⟩
  ·have g':(!(((ks.length:Nat):Int)==((ks.length:Nat):Int)))=true:=g;rw[beq_self_eq_true] at g';cases g'
  ·exact OZ fun G' s'=>q G' fun b o hb e=>s' _ _ (s6 _ _ (hs b o hb e))
theorem Lg:∀ds G Q,kv ds G Q->Cv (aN Q) (bh ["script","n","kinds","clocks","many","cell","pen","number","found","made"] ds) G:=by
 rintro ds G Q ⟨ns,rfl,hl,q⟩;refine⟨ns,0,rfl,fun i=>⟨i,rfl,fun pp G1 n1=>⟨pp,10,rfl,n1.at_,⟨by decide,dm (by decide) (by decide)⟩,fun r a b=>?_⟩⟩⟩;obtain⟨k,rfl⟩:=fN a;show wy (aN Q) [some (.fz (ns.map .int)),some (.int (1+(k:Int))),none,none,none,none,none,none,none,none] G1;rw[show (1:Int)+(k:Int)=((k+1:Nat):Int) by lia];intro p2 G2 n2;refine O0 (n:=k+1) (by lia) (by lia) n2.at_ fun G' h=>lR (fun b o e=>h b o (fun z=>?_) (n2.sub _ _ (n1.sub _ _ e))) q;have h1:=n1.sub _ _ e;rw[z,n2.aq] at h1;cases h1
end My
namespace My
open PySem L2 L3
def top(i:Nat):aX:=PySem.Challenge.pw_coverclocks_k64_clocks_moved.main.body.getD i (.Pass ⟨0,0,0,0⟩)
abbrev wK:aX:=top 5
abbrev Mh:List Δ:=["many","most"]
theorem KP:bD Mh ["many","most"] (ah wK):=⟨rfl,rfl,rfl,by decide +kernel,rfl,by decide +kernel,by decide +kernel⟩
abbrev zR:aX:=top 6
abbrev OO:List Δ:=["one","other","left"]
theorem vN:bD OO ["one","other"] (ah zR):=⟨rfl,rfl,rfl,by decide +kernel,rfl,by decide +kernel,by decide +kernel⟩
abbrev zS:aX:=top 7
abbrev OP:List Δ:=["numbers","least","number"]
theorem vO:bD OP ["numbers"] (ah zS):=⟨rfl,rfl,rfl,by decide +kernel,rfl,by decide +kernel,by decide +kernel⟩
abbrev zP:aX:=top 8
abbrev OM:List Δ:=["clocks","many","counts","step","rest","number"]
theorem tw:bD OM ["clocks","many"] (ah zP):=⟨rfl,rfl,rfl,by decide +kernel,rfl,by decide +kernel,by decide +kernel⟩
abbrev zO:aX:=top 9
abbrev OL:List Δ:=["clock","counts","many","number"]
theorem GJ:bD OL ["clock","counts","many"] (ah zO):=⟨rfl,rfl,rfl,by decide +kernel,rfl,by decide +kernel,by decide +kernel⟩
abbrev sQ:aX:=top 11
abbrev Dz:List Δ:=["clocks"]
theorem KG:bD Dz ["clocks"] (ah sQ):=⟨rfl,rfl,rfl,by decide +kernel,rfl,by decide +kernel,by decide +kernel⟩
abbrev zM:aX:=top 13
abbrev OJ:List Δ:=["clocks"]
theorem NX:bD OJ ["clocks"] (ah zM):=⟨rfl,rfl,rfl,by decide +kernel,rfl,by decide +kernel,by decide +kernel⟩
abbrev zL:aX:=top 14
abbrev OI:List Δ:=["clocks","clock"]
theorem NW:bD OI ["clocks","clock"] (ah zL):=⟨rfl,rfl,rfl,by decide +kernel,rfl,by decide +kernel,by decide +kernel⟩
abbrev pR:aX:=top 16
abbrev xm:List Δ:=["n","steps"]
theorem CD:bD xm ["n"] (ah pR):=⟨rfl,rfl,rfl,by decide +kernel,rfl,by decide +kernel,by decide +kernel⟩
abbrev wG:aX:=top 17
abbrev Md:List Δ:=["steps","clocks","number","found","grown"]
theorem tx:bD Md ["steps","clocks"] (ah wG):=⟨rfl,rfl,rfl,by decide +kernel,rfl,by decide +kernel,by decide +kernel⟩
abbrev pQ:aX:=top 18
abbrev xl:List Δ:=["steps","clocks","number","tried"]
theorem CC:bD xl ["steps","clocks","number"] (ah pQ):=⟨rfl,rfl,rfl,by decide +kernel,rfl,by decide +kernel,by decide +kernel⟩
abbrev wA:aX:=top 19
abbrev L8:List Δ:=["clocks","clock","step","rest"]
theorem wV:bD L8 ["clocks","clock"] (ah wA):=⟨rfl,rfl,rfl,by decide +kernel,rfl,by decide +kernel,by decide +kernel⟩
abbrev sP:aX:=top 20
abbrev Dy:List Δ:=["clocks","number"]
theorem KE:bD Dy ["clocks","number"] (ah sP):=⟨rfl,rfl,rfl,by decide +kernel,rfl,by decide +kernel,by decide +kernel⟩
abbrev sU:aX:=top 21
abbrev DD:List Δ:=["clocks"]
theorem KN:bD DD ["clocks"] (ah sU):=⟨rfl,rfl,rfl,by decide +kernel,rfl,by decide +kernel,by decide +kernel⟩
abbrev sT:aX:=top 22
abbrev DC:List Δ:=["n"]
theorem KL:bD DC ["n"] (ah sT):=⟨rfl,rfl,rfl,by decide +kernel,rfl,by decide +kernel,by decide +kernel⟩
abbrev wJ:aX:=top 24
abbrev Mg:List Δ:=["script","k"]
theorem KO:bD Mg ["script","k"] (ah wJ):=⟨rfl,rfl,rfl,by decide +kernel,rfl,by decide +kernel,by decide +kernel⟩
abbrev wB:aX:=top 25
abbrev L9:List Δ:=["seed"]
theorem CF:bD L9 ["seed"] (ah wB):=⟨rfl,rfl,rfl,by decide +kernel,rfl,by decide +kernel,by decide +kernel⟩
abbrev wH:aX:=top 26
abbrev Me:List Δ:=["cell","left"]
theorem CH:bD Me ["cell"] (ah wH):=⟨rfl,rfl,rfl,by decide +kernel,rfl,by decide +kernel,by decide +kernel⟩
abbrev wC:aX:=top 27
abbrev Ma:List Δ:=["pen","many","found"]
theorem CG:bD Ma ["pen","many"] (ah wC):=⟨rfl,rfl,rfl,by decide +kernel,rfl,by decide +kernel,by decide +kernel⟩
abbrev wF:aX:=top 28
abbrev Mc:List Δ:=["found"]
theorem KI:bD Mc ["found"] (ah wF):=⟨rfl,rfl,rfl,by decide +kernel,rfl,by decide +kernel,by decide +kernel⟩
abbrev zN:aX:=top 29
abbrev OK:List Δ:=["pen","most","step"]
theorem GI:bD OK ["pen","most"] (ah zN):=⟨rfl,rfl,rfl,by decide +kernel,rfl,by decide +kernel,by decide +kernel⟩
abbrev sV:aX:=top 30
abbrev DE:List Δ:=["pen","least","most","clocks","k","step","rest"]
theorem lY:bD DE ["pen","least","most"] (ah sV):=⟨rfl,rfl,rfl,by decide +kernel,rfl,by decide +kernel,by decide +kernel⟩
abbrev vM:aX:=top 31
abbrev G7:List Δ:=["pen","most","way","found","steps","turn","step"]
theorem lz:bD G7 ["pen","most"] (ah vM):=⟨rfl,rfl,rfl,by decide +kernel,rfl,by decide +kernel,by decide +kernel⟩
abbrev wI:aX:=top 33
abbrev Mf:List Δ:=["one","other"]
theorem CI:bD Mf ["one","other"] (ah wI):=⟨rfl,rfl,rfl,by decide +kernel,rfl,by decide +kernel,by decide +kernel⟩
abbrev wD:aX:=top 34
abbrev Mb:List Δ:=["clocks","found","step","rest"]
theorem p6:bD Mb ["clocks"] (ah wD):=⟨rfl,rfl,rfl,by decide +kernel,rfl,by decide +kernel,by decide +kernel⟩
abbrev zQ:aX:=top 35
abbrev ON:List Δ:=["thing"]
theorem NY:bD ON ["thing"] (ah zQ):=⟨rfl,rfl,rfl,by decide +kernel,rfl,by decide +kernel,by decide +kernel⟩
abbrev sW:aX:=top 36
abbrev Aw:List Δ:=["thing"]
theorem NZ:bD Aw ["thing"] (ah sW):=⟨rfl,rfl,rfl,by decide +kernel,rfl,by decide +kernel,by decide +kernel⟩
abbrev sR:aX:=top 37
abbrev DA:List Δ:=["clocks","number"]
theorem KH:bD DA ["clocks","number"] (ah sR):=⟨rfl,rfl,rfl,by decide +kernel,rfl,by decide +kernel,by decide +kernel⟩
abbrev sS:aX:=top 38
abbrev DB:List Δ:=["clocks"]
theorem KJ:bD DB ["clocks"] (ah sS):=⟨rfl,rfl,rfl,by decide +kernel,rfl,by decide +kernel,by decide +kernel⟩
abbrev wL:aX:=top 39
abbrev Mi:List Δ:=["script","n","kinds","clocks","many","cell","pen","number","found","made"]
theorem hV:bD Mi ["script"] (ah wL):=⟨rfl,rfl,rfl,by decide +kernel,rfl,by decide +kernel,by decide +kernel⟩
set_option genInjectivity false in
structure HX where
 Bb:ε
 By:aG
 FI:ε
 FZ:aG
 FK:ε
 Gd:aG
 FG:ε
 FX:aG
 FE:ε
 FV:aG
 AY:ε
 Bk:aG
 FC:ε
 FT:aG
 FA:ε
 FR:aG
 AZ:ε
 Bl:aG
 vW:ε
 vX:aG
 AX:ε
 Bj:aG
 AV:ε
 Bh:aG
 AW:ε
 Bi:aG
 A9:ε
 Bw:aG
 A8:ε
 Bv:aG
 Ba:ε
 Bx:aG
 A0:ε
 Bm:aG
 A6:ε
 Bt:aG
 A1:ε
 Bn:aG
 A4:ε
 Bq:aG
 FD:ε
 FU:aG
 Bc:ε
 Bz:aG
 FF:ε
 FW:aG
 A7:ε
 Bu:aG
 A3:ε
 Bp:aG
 FH:ε
 FY:aG
 FJ:ε
 Gc:aG
 A2:ε
 Bo:aG
 A5:ε
 Bs:aG
 Bd:ε
 tZ:aG
 ur:Tok
structure Txt(K:ι)(mg:Δ->Option δ)(t:HX):Prop where
 HW:ez K "refuse_above" "refuse_above" wK t.Bb t.By
 OU:mg "refuse_above" = some (.ref t.Bb)
 Py:Binds K t.By ["many","most"] []
 Gm:ez K "common_divisor" "common_divisor" zR t.FI t.FZ
 Mm:mg "common_divisor" = some (.ref t.FI)
 Nt:Binds K t.FZ ["one","other"] []
 NN:ez K "common_multiple" "common_multiple" zS t.FK t.Gd
 Qo:mg "common_multiple" = some (.ref t.FK)
 QY:Binds K t.Gd ["numbers"] []
 NK:ez K "counts_within" "counts_within" zP t.FG t.FX
 Ql:mg "counts_within" = some (.ref t.FG)
 QU:Binds K t.FX ["clocks","many"] []
 NI:ez K "first_counted" "first_counted" zO t.FE t.FV
 Qj:mg "first_counted" = some (.ref t.FE)
 QQ:Binds K t.FV ["clock","counts","many"] []
 BL:ez K "round_of" "round_of" sQ t.AY t.Bk
 G9:mg "round_of" = some (.ref t.AY)
 Hy:Binds K t.Bk ["clocks"] []
 NH:ez K "first_missed" "first_missed" zM t.FC t.FT
 Qi:mg "first_missed" = some (.ref t.FC)
 QP:Binds K t.FT ["clocks"] []
 NG:ez K "first_within" "first_within" zL t.FA t.FR
 Qh:mg "first_within" = some (.ref t.FA)
 QN:Binds K t.FR ["clocks","clock"] []
 BM:ez K "exact_of" "exact_of" pR t.AZ t.Bl
 Hc:mg "exact_of" = some (.ref t.AZ)
 Hz:Binds K t.Bl ["n"] []
 BQ:ez K "exact_from" "exact_from" wG t.vW t.vX
 Hg:mg "exact_from" = some (.ref t.vW)
 HD:Binds K t.vX ["steps","clocks"] []
 HS:ez K "grown_at" "grown_at" pQ t.AX t.Bj
 OR:mg "grown_at" = some (.ref t.AX)
 Pu:Binds K t.Bj ["steps","clocks","number"] []
 HR:ez K "clear_of" "clear_of" wA t.AV t.Bh
 OQ:mg "clear_of" = some (.ref t.AV)
 Pt:Binds K t.Bh ["clocks","clock"] []
 BK:ez K "moved_to" "moved_to" sP t.AW t.Bi
 G8:mg "moved_to" = some (.ref t.AW)
 Hx:Binds K t.Bi ["clocks","number"] []
 BS:ez K "first_moved" "first_moved" sU t.A9 t.Bw
 Hi:mg "first_moved" = some (.ref t.A9)
 HF:Binds K t.Bw ["clocks"] []
 HV:ez K "moved_kinds" "moved_kinds" sT t.A8 t.Bv
 OT:mg "moved_kinds" = some (.ref t.A8)
 Px:Binds K t.Bv ["n"] []
 BU:ez K "_law_cell_at" "_law_cell_at" wJ t.Ba t.Bx
 Hj:mg "_law_cell_at" = some (.ref t.Ba)
 HG:Binds K t.Bx ["script","k"] []
 BN:ez K "_law_next" "_law_next" wB t.A0 t.Bm
 Hd:mg "_law_next" = some (.ref t.A0)
 HA:Binds K t.Bm ["seed"] []
 BR:ez K "_law_pen_of" "_law_pen_of" wH t.A6 t.Bt
 Hh:mg "_law_pen_of" = some (.ref t.A6)
 HE:Binds K t.Bt ["cell"] []
 gk:ez K "_law_draw" "_law_draw" wC t.A1 t.Bn
 gC:mg "_law_draw" = some (.ref t.A1)
 gE:Binds K t.Bn ["pen","many"] []
 v7:ez K "_law_whole" "_law_whole" wF t.A4 t.Bq
 AA:mg "_law_whole" = some (.ref t.A4)
 BD:Binds K t.Bq ["found"] []
 Gk:ez K "_law_clock_by" "_law_clock_by" zN t.FD t.FU
 Ml:mg "_law_clock_by" = some (.ref t.FD)
 Nr:Binds K t.FU ["pen","most"] []
 BV:ez K "_law_parts_by" "_law_parts_by" sV t.Bc t.Bz
 Hk:mg "_law_parts_by" = some (.ref t.Bc)
 HH:Binds K t.Bz ["pen","least","most"] []
 NJ:ez K "_law_clocks_by" "_law_clocks_by" vM t.FF t.FW
 Qk:mg "_law_clocks_by" = some (.ref t.FF)
 QR:Binds K t.FW ["pen","most"] []
 HU:ez K "_law_common" "_law_common" wI t.A7 t.Bu
 OS:mg "_law_common" = some (.ref t.A7)
 Pw:Binds K t.Bu ["one","other"] []
 BO:ez K "_law_round" "_law_round" wD t.A3 t.Bp
 He:mg "_law_round" = some (.ref t.A3)
 HB:Binds K t.Bp ["clocks"] []
 NL:ez K "_law_clock_good" "_law_clock_good" zQ t.FH t.FY
 Qm:mg "_law_clock_good" = some (.ref t.FH)
 QV:Binds K t.FY ["thing"] []
 NM:ez K "_law_clocks_good" "_law_clocks_good" sW t.FJ t.Gc
 Qn:mg "_law_clocks_good" = some (.ref t.FJ)
 QX:Binds K t.Gc ["thing"] []
 vZ:ez K "_law_moved" "_law_moved" sR t.A2 t.Bo
 Az:mg "_law_moved" = some (.ref t.A2)
 BC:Binds K t.Bo ["clocks","number"] []
 BP:ez K "_law_least" "_law_least" sS t.A5 t.Bs
 Hf:mg "_law_least" = some (.ref t.A5)
 HC:Binds K t.Bs ["clocks"] []
 PB:ez K "law" "law" wL t.Bd t.tZ
 OV:mg "law" = some (.ref t.Bd)
 RB:Binds K t.tZ ["script"] []
 uF:mg "MOST_NUMBERS" = some (.int 10000 t.ur)
 Hn:mg "all" = none
 Mn:mg "bool" = none
 Hm:mg "int" = none
 jC:mg "isinstance" = none
 iX:mg "len" = none
 AD:mg "max" = none
 AB:mg "min" = none
 gq:mg "range" = none
 Hl:mg "set" = none
 i5:mg "sorted" = none
 lT:mg "tuple" = none
section
variable {P:af} {w:ar} {K:ι} {mg:Δ->Option δ} {base:ai} {t:HX}
theorem JU:∀ds G Q,pW ds G Q->ds.length=2:=by
 intro ds G Q h;obtain⟨_,_,rfl,_⟩:=h;rfl
theorem LZ(T:Txt K mg t):ck P w K mg base 1 t.Bb t.By ["many","most"] pW:=by
 refine dW (k:=0) (sp:=pW) T.HW KP (by decide) JU Co (fun cdv A outer s H E hr=>?_) Le;refine aH (gi (cE xA tM (ν (pv 0)) (ν (pv 1)) (cO _)) (aH EY) fS)
theorem MC:∀ds G Q,qP ds G Q->ds.length=2:=by
 intro ds G Q h;obtain⟨_,_,rfl,_⟩:=h;rfl
theorem GZ(T:Txt K mg t):ck P w K mg base 1 t.FI t.FZ ["one","other"] qP:=by
 refine dW (k:=0) (sp:=qP) T.Gm vN (by decide) MC Gz (fun cdv A outer s H E hr=>?_) Of;refine aI ?_ (aH (bF (ν (pv 0))));refine r9 bT (cE xy (qd hr.units) (ν (pv 1)) Ξ (cO _)) ?_;refine aI (b7 (i:=2) vN.nd (bx iY gN (ν (pv 0)) (ν (pv 1)))) ?_;refine aI (b7 (i:=0) vN.nd (ν (pv 1))) (aH (b7 (i:=1) vN.nd (ν (pv 2))))
theorem ME:∀ds G Q,tq ds G Q->ds.length=1:=by
 intro ds G Q h;obtain⟨_,_,rfl,_⟩:=h;rfl
theorem OH(T:Txt K mg t):ck P w K mg base 2 t.FK t.Gd ["numbers"] tq:=by
 refine dW (k:=1) (sp:=tq) T.NN vO (by decide) ME GA (fun cdv A outer s H E hr=>?_) Oh;refine aI (b7 (i:=1) vO.nd Ξ) (aI ?_ (aH (bF (ν (pv 1)))));refine hX bT rfl (fe (ν (pv 0))) (bL (i:=2) vO.nd) (aH ?_);refine b7 (i:=1) vO.nd (bx mY jg (ν (pv 1)) (bx vT oK (ν (pv 2)) ?_));refine aw ((GZ T).mono (by decide)) hr T.Mm T.Gm.kp T.Nt ?_;refine θ (ν (pv 1)) (θ (ν (pv 2)) Γ)
theorem MA:∀ds G Q,tf ds G Q->ds.length=2:=by
 intro ds G Q h;obtain⟨_,_,rfl,_⟩:=h;rfl
theorem OE(T:Txt K mg t):ck P w K mg base 2 t.FG t.FX ["clocks","many"] tf:=by
 refine dW (k:=1) (sp:=tf) T.NK tw (by decide) MA Gy (fun cdv A outer s H E hr=>?_) Od;refine aI (qT ?_) ?_;refine aw ((LZ T).mono (by decide)) hr T.OU T.HW.kp T.Py ?_;refine θ (ν (pv 1)) (θ (IU T.uF) Γ);refine aI (b7 (i:=2) tw.nd (bx mY jg (hZ (θ Ξ Γ)) (ν (pv 1)))) ?_;refine aI ?_ (aH (bF (ν (pv 2))));refine hX bT rfl (fe (ν (pv 0))) ?_ (aH ?_);refine nU rfl (e8 (bL (i:=3) tw.nd) (e8 (bL (i:=4) tw.nd) lS));refine hX bT rfl (yN T.gq (θ (ν (pv 4)) (θ (ν (pv 1)) (θ (ν (pv 3)) Γ)))) ?_ ?_;refine bL (i:=5) tw.nd;refine aH (Ah (ν (pv 2)) (ν (pv 5)) Ξ)
theorem Mx:∀ds G Q,sZ ds G Q->ds.length=3:=by
 intro ds G Q h;obtain⟨_,_,_,_,_,rfl,_⟩:=h;rfl
theorem OC(T:Txt K mg t):ck P w K mg base 1 t.FE t.FV ["clock","counts","many"] sZ:=by
 refine dW (k:=0) (sp:=sZ) T.NI GJ (by decide) Mx Gw (fun cdv A outer s H E hr=>?_) Ob;refine aI ?_ (aH (bF CY));refine hX bT rfl (yN T.gq ?_) (bL (i:=3) GJ.nd) ?_;refine θ (eU (ν (pv 0)) Ξ) (θ (gT hr.units T.iX (θ (ν (pv 1)) Γ)) (θ (eU (ν (pv 0)) Ξ) Γ));refine aH (gi (cE qh (ky hr.units) (eU (ν (pv 1)) (ν (pv 3))) (ν (pv 2)) (cO _)) (aH (bF (ν (pv 3)))) fS)
theorem JG:∀ds G Q,nJ ds G Q->ds.length=1:=by
 intro ds G Q h;obtain⟨_,rfl,_⟩:=h;rfl
theorem Dl(T:Txt K mg t):ck P w K mg base 3 t.AY t.Bk ["clocks"] nJ:=by
 refine dW (k:=2) (sp:=nJ) T.BL KG (by decide) JG B9 (fun cdv A outer s H E hr=>?_) K0;refine aH (bF ?_);refine aw ((OH T).mono (by decide)) hr T.Qo T.NN.kp T.QY (θ ?_ Γ);refine gp rfl (show dh Dz (ah sQ) _ ["clock"] [] from⟨rfl,by decide +kernel,by decide +kernel,by decide +kernel,by decide +kernel,by decide +kernel⟩) ?_ ?_;refine fe (ν (pv 0));intro s0 H0 fp0;refine⟨(bL (i:=0) (show (["clock"]:List Δ).Nodup by decide +kernel)),fQ,(eU (ν (pv 0)) Ξ)⟩
theorem Mu:∀ds G Q,sX ds G Q->ds.length=2:=by
 intro ds G Q h;obtain⟨_,_,rfl,_⟩:=h;rfl
theorem OA(T:Txt K mg t):ck P w K mg base 4 t.FA t.FR ["clocks","clock"] sX:=by
 refine dW (k:=3) (sp:=sX) T.NG NW (by decide) Mu Gr (fun cdv A outer s H E hr=>?_) N8;refine aH (bF ?_);refine aw ((OC T).mono (by decide)) hr T.Qj T.NI.kp T.QQ ?_;refine θ (ν (pv 1)) (θ ?_ (θ Ξ Γ));refine aw ((OE T).mono (by decide)) hr T.Ql T.NK.kp T.QU (θ (ν (pv 0)) (θ ?_ Γ));refine aw ((Dl T).mono (by decide)) hr T.G9 T.BL.kp T.Hy ?_;refine θ (bx fh dy (ν (pv 0)) (gM (θ (ν (pv 1)) Γ))) Γ
theorem Mv:∀ds G Q,sY ds G Q->ds.length=1:=by
 intro ds G Q h;obtain⟨_,rfl,_⟩:=h;rfl
theorem OB(T:Txt K mg t):ck P w K mg base 5 t.FC t.FT ["clocks"] sY:=by
 refine dW (k:=4) (sp:=sY) T.NH NX (by decide) Mv Gu (fun cdv A outer s H E hr=>?_) N9;refine aH (bF ?_);refine aw ((OA T).mono (by decide)) hr T.Qh T.NG.kp T.QN ?_;refine θ (ν (pv 0)) (θ (gM (θ Ξ (θ Ξ Γ))) Γ)
theorem JD:∀ds G Q,pS ds G Q->ds.length=2:=by
 intro ds G Q h;obtain⟨_,_,rfl,_⟩:=h;rfl
theorem LU(T:Txt K mg t):ck P w K mg base 2 t.AV t.Bh ["clocks","clock"] pS:=by
 refine dW (k:=1) (sp:=pS) T.HR wV (by decide) JD B6 (fun cdv A outer s H E hr=>?_) KY;refine aI ?_ (aH (bF lD));refine hX bT rfl (fe (ν (pv 0))) ?_ (aH ?_);refine nU rfl (e8 (bL (i:=2) wV.nd) (e8 (bL (i:=3) wV.nd) lS));refine gi (cE qh (ky hr.units) ?_ Ξ (cO _)) (aH (bF lD)) fS;refine bx iY gN (bx qY nV (ν (pv 3)) (eU (ν (pv 1)) Ξ)) ?_;refine aw ((GZ T).mono (by decide)) hr T.Mm T.Gm.kp T.Nt ?_;refine θ (ν (pv 2)) (θ (eU (ν (pv 1)) Ξ) Γ)
theorem JF:∀ds G Q,pT ds G Q->ds.length=3:=by
 intro ds G Q h;obtain⟨_,_,_,_,rfl,_⟩:=h;rfl
theorem LV(T:Txt K mg t):ck P w K mg base 3 t.AX t.Bj ["steps","clocks","number"] pT:=by
 refine dW (k:=2) (sp:=pT) T.HS CC (by decide) JF B8 (fun cdv A outer s H E hr=>?_) KZ;refine aI ?_ (aH (bF ?_));refine oJ (i:=3) rfl CC.nd (show dh xl (ah pQ) _ ["step"] [2] from⟨rfl,by decide +kernel,by decide +kernel,by decide +kernel,by decide +kernel,by decide +kernel⟩) ?_ ?_;refine fe (ν (pv 0));intro s0 H0 fp0;refine⟨(bL (i:=0) (show (["step","number"]:List Δ).Nodup by decide +kernel)),fQ,?_⟩;refine gM (θ (ν (pv 0)) (θ (bx iY gN (ν (pv 1)) (ν (pv 0))) Γ));refine gp rfl (show dh xl (ah pQ) _ ["clock"] [1] from⟨rfl,by decide +kernel,by decide +kernel,by decide +kernel,by decide +kernel,by decide +kernel⟩) ?_ ?_;refine fe (ν (pv 3));intro s0 H0 fp0;refine⟨(bL (i:=0) (show (["clock","clocks"]:List Δ).Nodup by decide +kernel)),(yQ ?_),?_⟩;refine jd (aw ((LU T).mono (by decide)) hr T.OQ T.HR.kp T.Pt (θ (ν (pv 1)) (θ (ν (pv 0)) Γ)));refine bx fh dy (ν (pv 1)) (gM (θ (ν (pv 0)) Γ))
theorem JO(n:Nat):∀ds G Q,ku n ds G Q->ds.length=2:=by
 intro ds G Q h;obtain⟨_,_,_,rfl,_⟩:=h;rfl
theorem yU(T:Txt K mg t):∀n:Nat,ck P w K mg base (5+n) t.vW t.vX ["steps","clocks"] (ku n)
 |0=>Fz L7
 |n+1=>by
  have ih:=yU T n
  ·refine dW (k:=5+n) (sp:=ku (n+1)) T.BQ tx (by decide) (JO (n+1)) (Cg n) (fun cdv A outer s H E hr=>?_) (K9 n);refine aI (b7 (i:=2) tx.nd ?_) ?_;refine aw ((OB T).mono (az (by decide:_≤5) (ja _ _))) hr T.Qi T.NH.kp T.QP ?_;refine θ (ν (pv 1)) Γ;refine aI (gi (cE Qt LO (ν (pv 2)) CY (cO _)) (aH (bF (hZ (θ (ν (pv 1)) Γ)))) fS) ?_;refine aI (b7 (i:=3) tx.nd (hZ Γ)) (aI ?_ (aH (bF (ν (pv 3)))));refine hX bT rfl (fe ?_) (bL (i:=4) tx.nd) (aH (qT ?_));refine aw ((LV T).mono (az (by decide:_≤5) (ja _ _))) hr T.OR T.HS.kp T.Pu ?_;refine θ (ν (pv 0)) (θ (ν (pv 1)) (θ (ν (pv 2)) Γ));refine tJ DN PySem.F.slot_list_extend PySem.F.type_list_extend DF (ν (pv 3)) ?_;refine θ (aw (ih.mono (Θ _)) hr T.Hg T.BQ.kp T.HD (θ (ν (pv 0)) (θ (ν (pv 4)) Γ))) Γ
theorem LW(T:Txt K mg t):ck P w K mg base 45 t.vW t.vX ["steps","clocks"] (ku 40):=(yU T 40)
theorem JH:∀ds G Q,nK ds G Q->ds.length=1:=by
 intro ds G Q h;obtain⟨_,rfl,_⟩:=h;rfl
theorem Dm(T:Txt K mg t):ck P w K mg base 46 t.AZ t.Bl ["n"] nK:=by
 refine dW (k:=45) (sp:=nK) T.BM CD (by decide) JH Ca (fun cdv A outer s H E hr=>?_) K3;refine aI ?_ (aH (bF (yv hr.units T.i5 (θ ?_ Γ))));refine oJ (i:=1) rfl CD.nd (show dh xm (ah pR) _ ["step"] [0] from⟨rfl,by decide +kernel,by decide +kernel,by decide +kernel,by decide +kernel,by decide +kernel⟩) ?_ ?_;refine yO T.gq (θ Ξ (θ (bx fh dy (ν (pv 0)) Ξ) Γ));intro s0 H0 fp0;refine⟨(bL (i:=0) (show (["step","n"]:List Δ).Nodup by decide +kernel)),?_,(ν (pv 0))⟩;refine yQ (cE qh (ky hr.units) (bx iY gN (ν (pv 1)) (ν (pv 0))) Ξ (cO _));refine gp rfl (show dh xm (ah pR) _ ["clocks"] [] from⟨rfl,by decide +kernel,by decide +kernel,by decide +kernel,by decide +kernel,by decide +kernel⟩) ?_ ?_;refine fe ?_;refine aw ((LW T).mono (by decide)) hr T.Hg T.BQ.kp T.HD (θ (ν (pv 1)) (θ (gM Γ) Γ));intro s0 H0 fp0;refine⟨(bL (i:=0) (show (["clocks"]:List Δ).Nodup by decide +kernel)),fQ,?_⟩;refine mW hr.units T.lT (θ (EZ hr.units (ν (pv 0)) T.i5) Γ)
theorem JE:∀ds G Q,kr ds G Q->ds.length=2:=by
 intro ds G Q h;obtain⟨_,_,_,rfl,_⟩:=h;rfl
theorem Dk(T:Txt K mg t):ck P w K mg base 1 t.AW t.Bi ["clocks","number"] kr:=by
 refine dW (k:=0) (sp:=kr) T.BK KE (by decide) JE B7 (fun cdv A outer s H E hr=>?_) CM;refine aH (bF ?_);refine mW hr.units T.lT (θ (lC hr.units T.i5 (θ ?_ Γ)) Γ);refine gp rfl (show dh Dy (ah sP) _ ["step","rest"] [1] from⟨rfl,by decide +kernel,by decide +kernel,by decide +kernel,by decide +kernel,by decide +kernel⟩) ?_ ?_;refine fe (ν (pv 0));intro s0 H0 fp0;refine⟨(nU rfl ?_),fQ,?_⟩;refine e8 (bL (i:=0) (show (["step","rest","number"]:List Δ).Nodup by decide +kernel)) ?_;refine e8 (bL (i:=1) (show (["step","rest","number"]:List Δ).Nodup by decide +kernel)) lS;refine gM (θ (ν (pv 0)) (θ (bx iY gN (bx fh dy (ν (pv 1)) (ν (pv 2))) (ν (pv 0))) Γ))
theorem JS:∀ds G Q,nP ds G Q->ds.length=1:=by
 intro ds G Q h;obtain⟨_,rfl,_⟩:=h;rfl
theorem Ds(T:Txt K mg t):ck P w K mg base 4 t.A9 t.Bw ["clocks"] nP:=by
 refine dW (k:=3) (sp:=nP) T.BS KN (by decide) JS Cm (fun cdv A outer s H E hr=>?_) Lc;refine aH (bF (xb hr.units T.AB (θ ?_ Γ)));refine gp rfl (show dh DD (ah sU) _ ["number"] [0] from⟨rfl,by decide +kernel,by decide +kernel,by decide +kernel,by decide +kernel,by decide +kernel⟩) ?_ ?_;refine nT T.gq (θ (aw ((Dl T).mono (by decide)) hr T.G9 T.BL.kp T.Hy (θ (ν (pv 0)) Γ)) Γ);intro s0 H0 fp0;refine⟨(bL (i:=0) (show (["number","clocks"]:List Δ).Nodup by decide +kernel)),fQ,?_⟩;refine aw ((Dk T).mono (by decide)) hr T.G8 T.BK.kp T.Hx (θ (ν (pv 1)) (θ (ν (pv 0)) Γ))
theorem JR:∀ds G Q,pV ds G Q->ds.length=1:=by
 intro ds G Q h;obtain⟨_,rfl,_⟩:=h;rfl
theorem LY(T:Txt K mg t):ck P w K mg base 47 t.A8 t.Bv ["n"] pV:=by
 refine dW (k:=46) (sp:=pV) T.HV KL (by decide) JR Ck (fun cdv A outer s H E hr=>?_) Lb;refine aH (bF (Aj hr.units ?_ T.iX T.Hl));refine gp rfl (show dh DC (ah sT) _ ["clocks"] [] from⟨rfl,by decide +kernel,by decide +kernel,by decide +kernel,by decide +kernel,by decide +kernel⟩) ?_ ?_;refine fe (aw ((Dm T).mono (by decide)) hr T.Hc T.BM.kp T.Hz (θ (ν (pv 0)) Γ));intro s0 H0 fp0;refine⟨(bL (i:=0) (show (["clocks"]:List Δ).Nodup by decide +kernel)),fQ,?_⟩;refine aw ((Ds T).mono (by decide)) hr T.Hi T.BS.kp T.HF (θ (ν (pv 0)) Γ)
theorem JT:∀ds G Q,nQ ds G Q->ds.length=2:=by
 intro ds G Q h;obtain⟨_,_,rfl,_⟩:=h;rfl
theorem Dt(T:Txt K mg t):ck P w K mg base 1 t.Ba t.Bx ["script","k"] nQ:=by
 refine dW (k:=0) (sp:=nQ) T.BU KO (by decide) JT Cn (fun cdv A outer s H E hr=>?_) Ld;refine aI ?_ (aH (bF Ξ));refine gi (cE vS (tL hr.sI) (ν (pv 1)) (gT hr.units T.iX (θ (ν (pv 0)) Γ)) (cO _)) ?_ fS;refine aH (bF (eU (ν (pv 0)) (ν (pv 1))))
theorem JI:∀ds G Q,nL ds G Q->ds.length=1:=by
 intro ds G Q h;obtain⟨_,rfl,_⟩:=h;rfl
theorem Dn(T:Txt K mg t):ck P w K mg base 1 t.A0 t.Bm ["seed"] nL:=by
 refine dW (k:=0) (sp:=nL) T.BN CF (by decide) JI Cb (fun cdv A outer s H E hr=>?_) K4;refine aI (b7 (i:=0) CF.nd (bx iY gN (bx fh dy (ν (pv 0)) Ξ) Ξ)) ?_;refine aH (bF (bx iY gN ?_ Ξ));refine bx fh dy (bx fh dy (bx mY jg (ν (pv 0)) (ν (pv 0))) (bx mY jg Ξ (ν (pv 0)))) Ξ
theorem JP:∀ds G Q,iw ds G Q->ds.length=1:=by
 intro ds G Q h;obtain⟨_,rfl,_⟩:=h;rfl
theorem Dr(T:Txt K mg t):ck P w K mg base 1 t.A6 t.Bt ["cell"] tm:=by
 refine iF.imp ?_ Jh;refine dW (k:=0) (sp:=iw) T.BR CH (by decide) JP Ci (fun cdv A outer s H E hr=>?_) ux;refine aI (b7 (i:=1) CH.nd (uB hr.units T.AD (θ (ν (pv 0)) (θ (bx qY nV Ξ (ν (pv 0))) Γ)))) ?_;refine aH (bF (hZ (θ (ν (pv 1)) ?_)));refine θ (IT hr.units T.Hm (θ (C1 Qu Oz (ν (pv 1)) (bx AJ xc Ξ Ξ) (cO _)) Γ)) ?_;refine θ (bx iY gN (ν (pv 1)) Ξ) Γ
theorem JJ:∀ds G Q,jx ds G Q->ds.length=2:=by
 intro ds G Q h;obtain⟨_,_,_,_,_,rfl,_⟩:=h;rfl
theorem fB(T:Txt K mg t):ck P w K mg base 2 t.A1 t.Bn ["pen","many"] eO:=by
 refine iF.imp ?_ FQ;refine dW (k:=1) (sp:=jx) T.gk CG (by decide) JJ Cc (fun cdv A outer s H E hr=>?_) w4;refine aI ?_ ?_;refine gi (cE qh (ky hr.units) (eU (ν (pv 0)) Ξ) Ξ (cO _)) ?_ fS;refine aI (b7 (i:=2) CG.nd (bx iY gN (eU (ν (pv 0)) Ξ) (ν (pv 1)))) ?_;refine aI (tI (bx vT oK (eU (ν (pv 0)) Ξ) (ν (pv 1))) (CU (ν (pv 0)) Ξ)) (aH (bF (ν (pv 2))));refine aI (tI ?_ (CU (ν (pv 0)) Ξ)) ?_;refine aw ((Dn T).mono (by decide)) hr T.Hd T.BN.kp T.HA (θ ?_ Γ);refine bx fh dy (aw ((Dn T).mono (by decide)) hr T.Hd T.BN.kp T.HA (θ (eU (ν (pv 0)) Ξ) Γ)) (Ξ);refine aH (bF (bx iY gN (bx vT oK (eU (ν (pv 0)) Ξ) Ξ) (ν (pv 1))))
theorem JM:∀ds G Q,nN ds G Q->ds.length=1:=by
 intro ds G Q h
 first
  | (rcases ds with _|⟨_,_|⟨_,_|⟨_,_|⟨_,_⟩⟩⟩⟩<;>first|rfl|exact h.elim)
  | (obtain⟨rfl,_⟩:=h;rfl)
  | (obtain⟨_,rfl,_⟩:=h;rfl)
  | (obtain⟨_,_,rfl,_⟩:=h;rfl)
  | (obtain⟨_,_,_,rfl,_⟩:=h;rfl)
  | (obtain⟨_,_,_,_,rfl,_⟩:=h;rfl)
  | (obtain⟨_,_,_,_,_,rfl,_⟩:=h;rfl)
  | (obtain⟨_,_,_,_,_,_,rfl,_⟩:=h;rfl)
  | (obtain⟨_,_,_,_,_,_,_,rfl,_⟩:=h;rfl)
  | (obtain⟨_,_,_,_,_,_,_,_,rfl,_⟩:=h;rfl)
theorem xg(T:Txt K mg t):ck P w K mg base 1 t.A4 t.Bq ["found"] nN:=by
 refine dW (k:=0) (sp:=nN) T.v7 KI (by decide) JM Ku (fun cdv A outer s H E hr=>?_) K7;refine aH (bF ?_);refine C2 (qU J1 rfl (ν (pv 0)) T.jC T.Hm rfl (by decide) (by decide)) ?_;refine CW (Lq (qU Fq rfl (ν (pv 0)) T.jC T.Mn rfl (by decide) (by decide)))
theorem Mw:∀ds G Q,qO ds G Q->ds.length=2:=by
 intro ds G Q h;obtain⟨_,_,rfl,_⟩:=h;rfl
theorem GY(T:Txt K mg t):ck P w K mg base 3 t.FD t.FU ["pen","most"] qO:=by
 refine dW (k:=2) (sp:=qO) T.Gk GI (by decide) Mw Gv (fun cdv A outer s H E hr=>?_) Oa;refine aI (b7 (i:=2) GI.nd (bx fh dy Ξ ?_)) (aH (bF (gM (θ (ν (pv 2)) ?_))));refine aw ((fB T).mono (by decide)) hr T.gC T.gk.kp T.gE (θ (ν (pv 0)) (θ (ν (pv 1)) Γ));refine θ (aw ((fB T).mono (by decide)) hr T.gC T.gk.kp T.gE (θ (ν (pv 0)) (θ (ν (pv 2)) Γ))) (Γ)
theorem JV:∀ds G Q,nR ds G Q->ds.length=3:=by
 intro ds G Q h;obtain⟨_,_,_,rfl,_⟩:=h;rfl
theorem Du(T:Txt K mg t):ck P w K mg base 3 t.Bc t.Bz ["pen","least","most"] nR:=by
 refine dW (k:=2) (sp:=nR) T.BV lY (by decide) JV Cp (fun cdv A outer s H E hr=>?_) Lf;refine aI (b7 (i:=3) lY.nd (hZ (θ (gM (θ Ξ (θ Ξ Γ))) Γ))) ?_;refine aI ?_ (aH (bF (lC hr.units T.i5 (θ (ν (pv 3)) Γ))));refine r9 bT (oI ?_) ?_;refine kx (cE vS (tL hr.sI) (gT hr.units T.iX (θ (ν (pv 3)) Γ)) (ν (pv 1)) (cO _)) (nS (oI ?_));refine yM ?_ (xa (cE vS (tL hr.sI) (gT hr.units T.iX (θ (ν (pv 3)) Γ)) (ν (pv 2)) (cO _)));refine cE xA tM (aw ((fB T).mono (by decide)) hr T.gC T.gk.kp T.gE (θ (ν (pv 0)) (θ Ξ Γ))) ?_ (cO _);refine Ξ;refine aI (b7 (i:=4) lY.nd ?_) ?_;refine E3 (θ Ξ (θ Ξ (θ Ξ (θ Ξ (θ Ξ (θ Ξ Γ)))))) ?_;refine aw ((fB T).mono (by decide)) hr T.gC T.gk.kp T.gE (θ (ν (pv 0)) (θ Ξ Γ));refine aI (b7 (i:=4) lY.nd ?_) ?_;refine IS hr.units T.AB (θ (ν (pv 4)) (θ (uB hr.units T.AD ?_) Γ));refine θ Ξ (θ (bx fh dy (bx qY nV (ν (pv 2)) (gT hr.units T.iX (θ (ν (pv 3)) Γ))) Ξ) Γ);refine aI ?_ ?_;refine tI ?_ (nU rfl (e8 (bL (i:=5) lY.nd) (e8 (bL (i:=6) lY.nd) lS)));refine tJ DM ot oo xn (ν (pv 3)) (θ ?_ Γ);refine aw ((fB T).mono (by decide)) hr T.gC T.gk.kp T.gE ?_;refine θ (ν (pv 0)) (θ (gT hr.units T.iX (θ (ν (pv 3)) Γ)) Γ);refine aI ?_ ?_;refine gi (cE xA tM (bx mY jg (ν (pv 5)) (ν (pv 4))) Ξ (cO _)) (aH (bF (lC hr.units T.i5 ?_))) fS;refine θ (bx fh dy (ν (pv 3)) (hZ (θ (gM (θ (ν (pv 5)) (θ (ν (pv 6)) Γ))) Γ))) Γ;refine aH (b7 (i:=3) lY.nd (bx fh dy (ν (pv 3)) ?_));refine gp rfl (show dh DE (ah sV) _ ["part"] [5,4,6] from⟨rfl,by decide +kernel,by decide +kernel,by decide +kernel,by decide +kernel,by decide +kernel⟩) ?_ ?_;refine nT T.gq (θ (ν (pv 4)) Γ);intro s0 H0 fp0;refine⟨(bL (i:=0) (show (["part","step","k","rest"]:List Δ).Nodup by decide +kernel)),fQ,?_⟩;refine gM (θ (bx mY jg (ν (pv 1)) (ν (pv 2))) ?_);refine θ (bx fh dy (ν (pv 3)) (bx mY jg (ν (pv 1)) (ν (pv 0)))) Γ
theorem Mz:∀ds G Q,td ds G Q->ds.length=2:=by
 intro ds G Q h;obtain⟨_,_,rfl,_⟩:=h;rfl
theorem OD(T:Txt K mg t):ck P w K mg base 4 t.FF t.FW ["pen","most"] td:=by
 refine dW (k:=3) (sp:=td) T.NJ lz (by decide) Mz Gx (fun cdv A outer s H E hr=>?_) Oc;refine aI (b7 (i:=2) lz.nd ?_) ?_;refine aw ((fB T).mono (by decide)) hr T.gC T.gk.kp T.gE (θ (ν (pv 0)) (θ Ξ Γ));refine aI ?_ ?_;refine gi (cE qh (ky hr.units) (ν (pv 2)) Ξ (cO _)) (aH ?_) (aH ?_);refine oJ (i:=3) rfl lz.nd (show dh G7 (ah vM) _ ["turn"] [0] from⟨rfl,by decide +kernel,by decide +kernel,by decide +kernel,by decide +kernel,by decide +kernel⟩) ?_ ?_;refine nT T.gq (θ ?_ Γ);refine aw ((fB T).mono (by decide)) hr T.gC T.gk.kp T.gE ?_;refine θ (ν (pv 0)) (θ (bx fh dy (ν (pv 1)) Ξ) Γ);intro s0 H0 fp0;refine⟨(bL (i:=0) (show (["turn","pen"]:List Δ).Nodup by decide +kernel)),fQ,?_⟩;refine aw ((GY T).mono (by decide)) hr T.Ml T.Gk.kp T.Nr (θ (ν (pv 1)) (θ Ξ Γ));refine gi (cE qh (ky hr.units) (ν (pv 2)) Ξ (cO _)) ?_ ?_;refine aI (b7 (i:=4) lz.nd ?_) (aI (b7 (i:=3) lz.nd (hZ Γ)) (aH ?_));refine hZ (θ Ξ (θ Ξ (θ Ξ (θ Ξ (θ Ξ (θ Ξ (θ Ξ Γ)))))));refine hX bT rfl (nT T.gq (θ ?_ Γ)) (bL (i:=5) lz.nd) ?_;refine aw ((fB T).mono (by decide)) hr T.gC T.gk.kp T.gE ?_;refine θ (ν (pv 0)) (θ (bx fh dy (ν (pv 1)) Ξ) Γ);refine aI (b7 (i:=6) lz.nd ?_) (aH (qT ?_));refine eU (ν (pv 4)) (aw ((fB T).mono (by decide)) hr T.gC T.gk.kp T.gE (θ (ν (pv 0)) (θ Ξ Γ)));refine tJ DO PySem.F.slot_list_append PySem.F.type_list_append ve (ν (pv 3)) (θ (gM (θ (ν (pv 6)) ?_)) Γ);refine θ (aw ((fB T).mono (by decide)) hr T.gC T.gk.kp T.gE (θ (ν (pv 0)) (θ (ν (pv 6)) Γ))) (Γ);refine aI (b7 (i:=3) lz.nd ?_) ?_;refine aw ((Du T).mono (by decide)) hr T.Hk T.BV.kp T.HH ?_;refine θ (ν (pv 0)) (θ Ξ (θ (uB hr.units T.AD (θ Ξ (θ (bx qY nV (ν (pv 1)) Ξ) Γ))) Γ));refine aI ?_ (aH ?_);refine gi (cE qh (ky hr.units) (ν (pv 2)) Ξ (cO _)) (aH ?_) fS;refine b7 (i:=3) lz.nd (bx fh dy (ν (pv 3)) (hZ (θ ?_ Γ)));refine aw ((GY T).mono (by decide)) hr T.Ml T.Gk.kp T.Nr (θ (ν (pv 0)) (θ Ξ Γ));refine gi (cE qh (ky hr.units) (ν (pv 2)) Ξ (cO _)) (aH (qT ?_)) fS;refine tJ DM ot oo xn (ν (pv 3)) (θ ?_ Γ);refine aw ((fB T).mono (by decide)) hr T.gC T.gk.kp T.gE ?_;refine θ (ν (pv 0)) (θ (gT hr.units T.iX (θ (ν (pv 3)) Γ)) Γ);refine aH (bF (GR (mW hr.units T.lT (θ (Ai hr.units (ν (pv 3)) T.i5 T.Hl) Γ)) IP (uA (ν (pv 1)))))
theorem JQ:∀ds G Q,pU ds G Q->ds.length=2:=by
 intro ds G Q h;obtain⟨_,_,rfl,_⟩:=h;rfl
theorem LX(T:Txt K mg t):ck P w K mg base 1 t.A7 t.Bu ["one","other"] pU:=by
 refine dW (k:=0) (sp:=pU) T.HU CI (by decide) JQ Cj (fun cdv A outer s H E hr=>?_) La;refine aI ?_ (aH (bF (ν (pv 0))));refine r9 bT (cE xA tM (ν (pv 1)) Ξ (cO _)) (aH ?_);refine Lp (i:=0) (j:=1) rfl CI.nd rfl rfl (by decide) rfl rfl ?_ rfl;refine θ (ν (pv 1)) (θ (bx iY gN (ν (pv 0)) (ν (pv 1))) Γ)
theorem JL:∀ds G Q,nM ds G Q->ds.length=1:=by
 intro ds G Q h;obtain⟨_,rfl,_⟩:=h;rfl
theorem Dp(T:Txt K mg t):ck P w K mg base 2 t.A3 t.Bp ["clocks"] nM:=by
 refine dW (k:=1) (sp:=nM) T.BO p6 (by decide) JL Ce (fun cdv A outer s H E hr=>?_) K6;refine aI (b7 (i:=1) p6.nd Ξ) (aI ?_ (aH (bF (ν (pv 1)))));refine hX bT rfl (fe (ν (pv 0))) ?_ (aH ?_);refine nU rfl (e8 (bL (i:=2) p6.nd) (e8 (bL (i:=3) p6.nd) lS));refine b7 (i:=1) p6.nd (bx mY jg (bx vT oK (ν (pv 1)) ?_) (ν (pv 2)));refine aw ((LX T).mono (by decide)) hr T.OS T.HU.kp T.Pw (θ (ν (pv 1)) (θ (ν (pv 2)) Γ))
theorem MB:∀ds G Q,tj ds G Q->ds.length=1:=by
 intro ds G Q h
 first
  | (rcases ds with _|⟨_,_|⟨_,_|⟨_,_|⟨_,_⟩⟩⟩⟩<;>first|rfl|exact h.elim)
  | (obtain⟨rfl,_⟩:=h;rfl)
  | (obtain⟨_,rfl,_⟩:=h;rfl)
  | (obtain⟨_,_,rfl,_⟩:=h;rfl)
  | (obtain⟨_,_,_,rfl,_⟩:=h;rfl)
  | (obtain⟨_,_,_,_,rfl,_⟩:=h;rfl)
  | (obtain⟨_,_,_,_,_,rfl,_⟩:=h;rfl)
  | (obtain⟨_,_,_,_,_,_,rfl,_⟩:=h;rfl)
  | (obtain⟨_,_,_,_,_,_,_,rfl,_⟩:=h;rfl)
  | (obtain⟨_,_,_,_,_,_,_,_,rfl,_⟩:=h;rfl)
theorem OF(T:Txt K mg t):ck P w K mg base 2 t.FH t.FY ["thing"] tj:=by
 refine dW (k:=1) (sp:=tj) T.NL NY (by decide) MB zH (fun cdv A outer s H E hr=>?_) Oe;refine aI (gi (oI ?_) (aH (bF lD)) fS) (aH (bF ?_));refine kx (jZ (jd (qU kit_tuple rfl (ν (pv 0)) T.jC T.lT rfl (by decide) (by decide)))) ?_;refine kx (cE xy (qd hr.units) (gT hr.units T.iX (θ (ν (pv 0)) Γ)) Ξ (cO _)) ?_;refine kx ?_ (nS ?_);refine jZ (jd (aw ((xg T).mono (by decide)) hr T.AA T.v7.kp T.BD (θ (eU (ν (pv 0)) Ξ) Γ)));refine jZ (jd (aw ((xg T).mono (by decide)) hr T.AA T.v7.kp T.BD (θ (eU (ν (pv 0)) Ξ) Γ)));refine C2 (CZ (eU (ν (pv 0)) Ξ) T.gq (θ Ξ (θ Ξ Γ))) ?_;refine CW (C0 (eU (ν (pv 0)) Ξ) T.gq (θ (eU (ν (pv 0)) Ξ) Γ))
theorem MD:∀ds G Q,tp ds G Q->ds.length=1:=by
 intro ds G Q h
 first
  | (rcases ds with _|⟨_,_|⟨_,_|⟨_,_|⟨_,_⟩⟩⟩⟩<;>first|rfl|exact h.elim)
  | (obtain⟨rfl,_⟩:=h;rfl)
  | (obtain⟨_,rfl,_⟩:=h;rfl)
  | (obtain⟨_,_,rfl,_⟩:=h;rfl)
  | (obtain⟨_,_,_,rfl,_⟩:=h;rfl)
  | (obtain⟨_,_,_,_,rfl,_⟩:=h;rfl)
  | (obtain⟨_,_,_,_,_,rfl,_⟩:=h;rfl)
  | (obtain⟨_,_,_,_,_,_,rfl,_⟩:=h;rfl)
  | (obtain⟨_,_,_,_,_,_,_,rfl,_⟩:=h;rfl)
  | (obtain⟨_,_,_,_,_,_,_,_,rfl,_⟩:=h;rfl)
theorem OG(T:Txt K mg t):ck P w K mg base 3 t.FJ t.Gc ["thing"] tp:=by
 refine dW (k:=2) (sp:=tp) T.NM NZ (by decide) MD zI (fun cdv A outer s H E hr=>?_) Og;refine aI (gi (oI ?_) (aH (bF lD)) fS) (aH (bF (yP hr.units T.Hn (θ ?_ Γ))));refine kx (jZ (jd (qU kit_tuple rfl (ν (pv 0)) T.jC T.lT rfl (by decide) (by decide)))) ?_;refine kx (cE xA tM (gT hr.units T.iX (θ (ν (pv 0)) Γ)) Ξ (cO _)) ?_;refine nS (jZ (jd (yP hr.units T.Hn (θ ?_ Γ))));refine gp rfl (show dh Aw (ah sW) _ ["clock"] [] from⟨rfl,by decide +kernel,by decide +kernel,by decide +kernel,by decide +kernel,by decide +kernel⟩) ?_ ?_;refine fe (ν (pv 0));intro s0 H0 fp0;refine⟨(bL (i:=0) (show (["clock"]:List Δ).Nodup by decide +kernel)),fQ,?_⟩;refine aw ((OF T).mono (by decide)) hr T.Qm T.NL.kp T.QV (θ (ν (pv 0)) Γ);refine gp rfl (show dh Aw (ah sW) _ ["k"] [0] from⟨rfl,by decide +kernel,by decide +kernel,by decide +kernel,by decide +kernel,by decide +kernel⟩) ?_ ?_;refine yO T.gq (θ Ξ (θ (gT hr.units T.iX (θ (ν (pv 0)) Γ)) Γ));intro s0 H0 fp0;refine⟨(bL (i:=0) (show (["k","thing"]:List Δ).Nodup by decide +kernel)),fQ,?_⟩;refine C1 vS (tL hr.sI) (eU (ν (pv 1)) (bx qY nV (ν (pv 0)) Ξ)) (eU (ν (pv 1)) (ν (pv 0))) (cO _)
theorem JK:∀ds G Q,lW ds G Q->ds.length=2:=by
 intro ds G Q h
 first
  | (rcases ds with _|⟨_,_|⟨_,_|⟨_,_|⟨_,_⟩⟩⟩⟩<;>first|rfl|exact h.elim)
  | (obtain⟨rfl,_⟩:=h;rfl)
  | (obtain⟨_,rfl,_⟩:=h;rfl)
  | (obtain⟨_,_,rfl,_⟩:=h;rfl)
  | (obtain⟨_,_,_,rfl,_⟩:=h;rfl)
  | (obtain⟨_,_,_,_,rfl,_⟩:=h;rfl)
  | (obtain⟨_,_,_,_,_,rfl,_⟩:=h;rfl)
  | (obtain⟨_,_,_,_,_,_,rfl,_⟩:=h;rfl)
  | (obtain⟨_,_,_,_,_,_,_,rfl,_⟩:=h;rfl)
  | (obtain⟨_,_,_,_,_,_,_,_,rfl,_⟩:=h;rfl)
theorem xf(T:Txt K mg t):ck P w K mg base 1 t.A2 t.Bo ["clocks","number"] lW:=by
 refine dW (k:=0) (sp:=lW) T.vZ KH (by decide) JK Cd (fun cdv A outer s H E hr=>?_) K5;refine aH (bF ?_);refine mW hr.units T.lT (θ (lC hr.units T.i5 (θ ?_ Γ)) Γ);refine gp rfl (show dh DA (ah sR) _ ["step","rest"] [1] from⟨rfl,by decide +kernel,by decide +kernel,by decide +kernel,by decide +kernel,by decide +kernel⟩) ?_ ?_;refine fe (ν (pv 0));intro s0 H0 fp0;refine⟨(nU rfl ?_),fQ,?_⟩;refine e8 (bL (i:=0) (show (["step","rest","number"]:List Δ).Nodup by decide +kernel)) ?_;refine e8 (bL (i:=1) (show (["step","rest","number"]:List Δ).Nodup by decide +kernel)) lS;refine gM (θ (ν (pv 0)) (θ (bx iY gN (bx fh dy (ν (pv 1)) (ν (pv 2))) (ν (pv 0))) Γ))
theorem JN:∀ds G Q,nO ds G Q->ds.length=1:=by
 intro ds G Q h
 first
  | (rcases ds with _|⟨_,_|⟨_,_|⟨_,_|⟨_,_⟩⟩⟩⟩<;>first|rfl|exact h.elim)
  | (obtain⟨rfl,_⟩:=h;rfl)
  | (obtain⟨_,rfl,_⟩:=h;rfl)
  | (obtain⟨_,_,rfl,_⟩:=h;rfl)
  | (obtain⟨_,_,_,rfl,_⟩:=h;rfl)
  | (obtain⟨_,_,_,_,rfl,_⟩:=h;rfl)
  | (obtain⟨_,_,_,_,_,rfl,_⟩:=h;rfl)
  | (obtain⟨_,_,_,_,_,_,rfl,_⟩:=h;rfl)
  | (obtain⟨_,_,_,_,_,_,_,rfl,_⟩:=h;rfl)
  | (obtain⟨_,_,_,_,_,_,_,_,rfl,_⟩:=h;rfl)
theorem Dq(T:Txt K mg t):ck P w K mg base 3 t.A5 t.Bs ["clocks"] nO:=by
 refine dW (k:=2) (sp:=nO) T.BP KJ (by decide) JN Cf (fun cdv A outer s H E hr=>?_) K8;refine aH (bF (xb hr.units T.AB (θ ?_ Γ)));refine gp rfl (show dh DB (ah sS) _ ["number"] [0] from⟨rfl,by decide +kernel,by decide +kernel,by decide +kernel,by decide +kernel,by decide +kernel⟩) ?_ ?_;refine nT T.gq (θ (aw ((Dp T).mono (by decide)) hr T.He T.BO.kp T.HB (θ (ν (pv 0)) Γ)) Γ);intro s0 H0 fp0;refine⟨(bL (i:=0) (show (["number","clocks"]:List Δ).Nodup by decide +kernel)),fQ,?_⟩;refine aw ((xf T).mono (by decide)) hr T.Az T.vZ.kp T.BC (θ (ν (pv 1)) (θ (ν (pv 0)) Γ))
theorem JW:∀ds G Q,kv ds G Q->ds.length=1:=by
 intro ds G Q h;obtain⟨_,rfl,_⟩:=h;rfl
theorem L1(T:Txt K mg t):ck P w K mg base 48 t.Bd t.tZ ["script"] kv:=by
 refine dW (k:=47) (sp:=kv) T.PB hV (by decide) JW Cv (fun cdv A outer s H E hr=>?_) Lg;refine aI (b7 (i:=1) hV.nd (bx fh dy Ξ ?_)) (aI (b7 (i:=2) hV.nd IV) ?_);refine aw ((fB T).mono (by decide)) hr T.gC T.gk.kp T.gE (θ ?_ (θ Ξ Γ));refine aw ((Dr T).mono (by decide)) hr T.Hh T.BR.kp T.HE ?_;refine θ (aw ((Dt T).mono (by decide)) hr T.Hj T.BU.kp T.HG (θ (ν (pv 0)) (θ Ξ Γ))) (Γ);refine aI ?_ ?_;refine hX bT rfl (fe (aw ((Dm T).mono (by decide)) hr T.Hc T.BM.kp T.Hz (θ (ν (pv 1)) Γ))) ?_ ?_;refine bL (i:=3) hV.nd;refine aH (tI lD ?_);refine IQ hr.units (ν (pv 2)) (aw ((Dq T).mono (by decide)) hr T.Hf T.BP.kp T.HC (θ (ν (pv 3)) Γ));refine aI ?_ ?_;refine b7 (i:=4) hV.nd (aw ((LY T).mono (by decide)) hr T.OT T.HV.kp T.Px (θ (ν (pv 1)) Γ));refine aI (gi (oI ?_) (aH (bF lD)) fS) (aI ?_ (aH (bF lD)));refine kx (jZ (jd (aw ((xg T).mono (by decide)) hr T.AA T.v7.kp T.BD (θ (ν (pv 4)) Γ)))) ?_;refine nS (cE xy (qd hr.units) (ν (pv 4)) (CV T.iX (θ (ν (pv 2)) Γ)) (cO _));refine hX bT rfl (fe ?_) (bL (i:=5) hV.nd) ?_;refine bx fh dy (hZ ?_) (GR (ν (pv 0)) (uA Ξ) (uA Ξ));refine θ (aw ((Dt T).mono (by decide)) hr T.Hj T.BU.kp T.HG (θ (ν (pv 0)) (θ Ξ Γ))) (Γ);refine aI ?_ ?_;refine b7 (i:=6) hV.nd (aw ((Dr T).mono (by decide)) hr T.Hh T.BR.kp T.HE (θ (ν (pv 5)) Γ));refine aI (b7 (i:=3) hV.nd ?_) ?_;refine aw ((OD T).mono (by decide)) hr T.Qk T.NJ.kp T.QR (θ (ν (pv 6)) (θ Ξ Γ));refine aI ?_ ?_;refine hX bT rfl (fe (hZ (θ Ξ (θ Ξ (θ (Lr Ξ) ?_))))) (bL (i:=7) hV.nd) ?_;refine θ ?_ (θ (bx qY nV Ξ ?_) Γ);refine aw ((fB T).mono (by decide)) hr T.gC T.gk.kp T.gE ?_;refine θ (ν (pv 6)) (θ (bx AJ xc Ξ Ξ) Γ);refine aw ((fB T).mono (by decide)) hr T.gC T.gk.kp T.gE ?_;refine θ (ν (pv 6)) (θ (bx AJ xc Ξ Ξ) Γ);refine aI (b7 (i:=8) hV.nd ?_) (aH (gi (oI ?_) (aH (bF lD)) fS));refine aw ((Dk T).mono (by decide)) hr T.G8 T.BK.kp T.Hx (θ (ν (pv 3)) (θ (ν (pv 7)) Γ));refine kx (jZ ?_) (nS (cE xy (qd hr.units) (ν (pv 8)) ?_ (cO _)));refine jd (aw ((OG T).mono (by decide)) hr T.Qn T.NM.kp T.QX (θ (ν (pv 8)) Γ));refine aw ((xf T).mono (by decide)) hr T.Az T.vZ.kp T.BC (θ (ν (pv 3)) (θ (ν (pv 7)) Γ));refine aI (b7 (i:=9) hV.nd ?_) (aH (gi (oI ?_) (aH (bF lD)) fS));refine aw ((xf T).mono (by decide)) hr T.Az T.vZ.kp T.BC ?_;refine θ ?_ ?_;refine aw ((Du T).mono (by decide)) hr T.Hk T.BV.kp T.HH ?_;refine θ (ν (pv 6)) (θ Ξ (θ Ξ Γ));refine θ (aw ((fB T).mono (by decide)) hr T.gC T.gk.kp T.gE (θ (ν (pv 6)) (θ Ξ Γ))) Γ;refine yM ?_ (xa ?_);refine cE Qr Oy (aw ((Dp T).mono (by decide)) hr T.He T.BO.kp T.HB (θ (ν (pv 9)) Γ)) Ξ (cO _);refine cE xy (qd hr.units) ?_ ?_ (cO _);refine aw ((Ds T).mono (by decide)) hr T.Hi T.BS.kp T.HF (θ (ν (pv 9)) Γ);refine aw ((Dq T).mono (by decide)) hr T.Hf T.BP.kp T.HC (θ (ν (pv 9)) Γ)
end
def fE(K:ι)(nm:Δ)(st:aX):Prop:=∃f d,ez K nm nm st f d/\cG K bq nm=some (some (.ref f))
theorem cf{K:ι}{nm:Δ}{st:aX}{f:ε}{od an:Option ε}{sl:Array (Option δ)}{oc kV dc pm cd ct:δ}(a:cG K bq nm=some (some (.ref f)))(l:K.lookup f=some ⟨oc,od,.func (gy nm nm (nZ st) (jh st) (ah st) .none kV dc pm an cd ct),sl⟩)(c:ka K cd nm=true)(k:gx K (.ref f)=true):fE K nm st:=⟨f,_,M2 l c k,a⟩
theorem we{K:ι}{h:ai}{mg:Δ->Option δ}(X:K.In h)(G:h.Ns bq mg)
  (h0:fE K "refuse_above" wK)
  (h1:fE K "common_divisor" zR)
  (h2:fE K "common_multiple" zS)
  (h3:fE K "counts_within" zP)
  (h4:fE K "first_counted" zO)
  (h5:fE K "round_of" sQ)
  (h6:fE K "first_missed" zM)
  (h7:fE K "first_within" zL)
  (h8:fE K "exact_of" pR)
  (h9:fE K "exact_from" wG)
  (Rx:fE K "grown_at" pQ)
  (Rw:fE K "clear_of" wA)
  (Rv:fE K "moved_to" sP)
  (Ru:fE K "first_moved" sU)
  (Rt:fE K "moved_kinds" sT)
  (Rr:fE K "_law_cell_at" wJ)
  (Rq:fE K "_law_next" wB)
  (Rp:fE K "_law_pen_of" wH)
  (Ro:fE K "_law_draw" wC)
  (Rn:fE K "_law_whole" wF)
  (Rm:fE K "_law_clock_by" zN)
  (Rl:fE K "_law_parts_by" sV)
  (Rk:fE K "_law_clocks_by" vM)
  (Rj:fE K "_law_common" wI)
  (Ri:fE K "_law_round" wD)
  (Rh:fE K "_law_clock_good" zQ)
  (Rg:fE K "_law_clocks_good" sW)
  (Rf:fE K "_law_moved" sR)
  (Rc:fE K "_law_least" sS)
  (Rb:fE K "law" wL)
  {t0:Tok} (gint0:cG K bq "MOST_NUMBERS" = some (some (.int 10000 t0)))
  (z0:cG K bq "all" = some none)
  (z1:cG K bq "bool" = some none)
  (z2:cG K bq "int" = some none)
  (z3:cG K bq "isinstance" = some none)
  (z4:cG K bq "len" = some none)
  (z5:cG K bq "max" = some none)
  (z6:cG K bq "min" = some none)
  (z7:cG K bq "range" = some none)
  (z8:cG K bq "set" = some none)
  (z9:cG K bq "sorted" = some none)
  (Kk:cG K bq "tuple" = some none)
  : ∃t:HX,Txt K mg t/\∀(s:ζ) (v:δ),oB s t.tZ ⟨[v],[]⟩ [("script",v)]:=by
 obtain⟨f0,d0,F0,a0⟩:=h0;obtain⟨f1,d1,F1,a1⟩:=h1;obtain⟨f2,d2,F2,a2⟩:=h2;obtain⟨f3,d3,F3,a3⟩:=h3;obtain⟨f4,d4,F4,a4⟩:=h4;obtain⟨f5,d5,F5,a5⟩:=h5;obtain⟨f6,d6,F6,a6⟩:=h6;obtain⟨f7,d7,F7,a7⟩:=h7;obtain⟨f8,d8,F8,a8⟩:=h8;obtain⟨f9,d9,F9,a9⟩:=h9;obtain⟨f10,d10,F10,a10⟩:=Rx;obtain⟨f11,d11,F11,a11⟩:=Rw;obtain⟨f12,d12,F12,a12⟩:=Rv;obtain⟨f13,d13,F13,a13⟩:=Ru;obtain⟨f14,d14,F14,a14⟩:=Rt;obtain⟨f15,d15,F15,a15⟩:=Rr;obtain⟨f16,d16,F16,a16⟩:=Rq;obtain⟨f17,d17,F17,a17⟩:=Rp;obtain⟨f18,d18,F18,a18⟩:=Ro;obtain⟨f19,d19,F19,a19⟩:=Rn;obtain⟨f20,d20,F20,a20⟩:=Rm;obtain⟨f21,d21,F21,a21⟩:=Rl;obtain⟨f22,d22,F22,a22⟩:=Rk;obtain⟨f23,d23,F23,a23⟩:=Rj;obtain⟨f24,d24,F24,a24⟩:=Ri;obtain⟨f25,d25,F25,a25⟩:=Rh;obtain⟨f26,d26,F26,a26⟩:=Rg;obtain⟨f27,d27,F27,a27⟩:=Rf;obtain⟨f28,d28,F28,a28⟩:=Rc;obtain⟨f29,d29,F29,a29⟩:=Rb;exact⟨⟨f0,d0,f1,d1,f2,d2,f3,d3,f4,d4,f5,d5,f6,d6,f7,d7,f8,d8,f9,d9,f10,d10,f11,d11,f12,d12,f13,d13,f14,d14,f15,d15,f16,d16,f17,d17,f18,d18,f19,d19,f20,d20,f21,d21,f22,d22,f23,d23,f24,d24,f25,d25,f26,d26,f27,d27,f28,d28,f29,d29,t0⟩,⟨F0,
  aA X G a0,
  F0.binds (ps:=["many","most"]) fun _ _ _ _ _ _ us hl=>by obtain⟨_,_,rfl⟩:=jD hl;rfl,
  F1,
  aA X G a1,
  F1.binds (ps:=["one","other"]) fun _ _ _ _ _ _ us hl=>by obtain⟨_,_,rfl⟩:=jD hl;rfl,
  F2,
  aA X G a2,
  F2.binds (ps:=["numbers"]) fun _ _ _ _ _ _ us hl=>by obtain⟨_,rfl⟩:=i6 hl;rfl,
  F3,
  aA X G a3,
  F3.binds (ps:=["clocks","many"]) fun _ _ _ _ _ _ us hl=>by obtain⟨_,_,rfl⟩:=jD hl;rfl,
  F4,
  aA X G a4,
  F4.binds (ps:=["clock","counts","many"]) fun _ _ _ _ _ _ us hl=>by obtain⟨_,_,_,rfl⟩:=Fn hl;rfl,
  F5,
  aA X G a5,
  F5.binds (ps:=["clocks"]) fun _ _ _ _ _ _ us hl=>by obtain⟨_,rfl⟩:=i6 hl;rfl,
  F6,
  aA X G a6,
  F6.binds (ps:=["clocks"]) fun _ _ _ _ _ _ us hl=>by obtain⟨_,rfl⟩:=i6 hl;rfl,
  F7,
  aA X G a7,
  F7.binds (ps:=["clocks","clock"]) fun _ _ _ _ _ _ us hl=>by obtain⟨_,_,rfl⟩:=jD hl;rfl,
  F8,
  aA X G a8,
  F8.binds (ps:=["n"]) fun _ _ _ _ _ _ us hl=>by obtain⟨_,rfl⟩:=i6 hl;rfl,
  F9,
  aA X G a9,
  F9.binds (ps:=["steps","clocks"]) fun _ _ _ _ _ _ us hl=>by obtain⟨_,_,rfl⟩:=jD hl;rfl,
  F10,
  aA X G a10,
  F10.binds (ps:=["steps","clocks","number"]) fun _ _ _ _ _ _ us hl=>by obtain⟨_,_,_,rfl⟩:=Fn hl;rfl,
  F11,
  aA X G a11,
  F11.binds (ps:=["clocks","clock"]) fun _ _ _ _ _ _ us hl=>by obtain⟨_,_,rfl⟩:=jD hl;rfl,
  F12,
  aA X G a12,
  F12.binds (ps:=["clocks","number"]) fun _ _ _ _ _ _ us hl=>by obtain⟨_,_,rfl⟩:=jD hl;rfl,
  F13,
  aA X G a13,
  F13.binds (ps:=["clocks"]) fun _ _ _ _ _ _ us hl=>by obtain⟨_,rfl⟩:=i6 hl;rfl,
  F14,
  aA X G a14,
  F14.binds (ps:=["n"]) fun _ _ _ _ _ _ us hl=>by obtain⟨_,rfl⟩:=i6 hl;rfl,
  F15,
  aA X G a15,
  F15.binds (ps:=["script","k"]) fun _ _ _ _ _ _ us hl=>by obtain⟨_,_,rfl⟩:=jD hl;rfl,
  F16,
  aA X G a16,
  F16.binds (ps:=["seed"]) fun _ _ _ _ _ _ us hl=>by obtain⟨_,rfl⟩:=i6 hl;rfl,
  F17,
  aA X G a17,
  F17.binds (ps:=["cell"]) fun _ _ _ _ _ _ us hl=>by obtain⟨_,rfl⟩:=i6 hl;rfl,
  F18,
  aA X G a18,
  F18.binds (ps:=["pen","many"]) fun _ _ _ _ _ _ us hl=>by obtain⟨_,_,rfl⟩:=jD hl;rfl,
  F19,
  aA X G a19,
  F19.binds (ps:=["found"]) fun _ _ _ _ _ _ us hl=>by obtain⟨_,rfl⟩:=i6 hl;rfl,
  F20,
  aA X G a20,
  F20.binds (ps:=["pen","most"]) fun _ _ _ _ _ _ us hl=>by obtain⟨_,_,rfl⟩:=jD hl;rfl,
  F21,
  aA X G a21,
  F21.binds (ps:=["pen","least","most"]) fun _ _ _ _ _ _ us hl=>by obtain⟨_,_,_,rfl⟩:=Fn hl;rfl,
  F22,
  aA X G a22,
  F22.binds (ps:=["pen","most"]) fun _ _ _ _ _ _ us hl=>by obtain⟨_,_,rfl⟩:=jD hl;rfl,
  F23,
  aA X G a23,
  F23.binds (ps:=["one","other"]) fun _ _ _ _ _ _ us hl=>by obtain⟨_,_,rfl⟩:=jD hl;rfl,
  F24,
  aA X G a24,
  F24.binds (ps:=["clocks"]) fun _ _ _ _ _ _ us hl=>by obtain⟨_,rfl⟩:=i6 hl;rfl,
  F25,
  aA X G a25,
  F25.binds (ps:=["thing"]) fun _ _ _ _ _ _ us hl=>by obtain⟨_,rfl⟩:=i6 hl;rfl,
  F26,
  aA X G a26,
  F26.binds (ps:=["thing"]) fun _ _ _ _ _ _ us hl=>by obtain⟨_,rfl⟩:=i6 hl;rfl,
  F27,
  aA X G a27,
  F27.binds (ps:=["clocks","number"]) fun _ _ _ _ _ _ us hl=>by obtain⟨_,_,rfl⟩:=jD hl;rfl,
  F28,
  aA X G a28,
  F28.binds (ps:=["clocks"]) fun _ _ _ _ _ _ us hl=>by obtain⟨_,rfl⟩:=i6 hl;rfl,
  F29,
  aA X G a29,
  F29.binds (ps:=["script"]) fun _ _ _ _ _ _ us hl=>by obtain⟨_,rfl⟩:=i6 hl;rfl,
  aA X G gint0,
  b5 X G z0,
  b5 X G z1,
  b5 X G z2,
  b5 X G z3,
  b5 X G z4,
  b5 X G z5,
  b5 X G z6,
  b5 X G z7,
  b5 X G z8,
  b5 X G z9,
  b5 X G Kk⟩,fun s v=>by
  obtain⟨_,_,_,_,_,_,_,_,_,rfl,_⟩:=F29.ex;exact .of_eq rfl⟩
theorem KC(K:ι)(H:Hp)(a:ε)(ns:List Int)(hl:ns.length≤63)(ho:BI H)(hS:eQ K H a (ns.map V.int)):lG K kv [.ref a] H (fun v _=>v=.bl true) fun _ _ _=>False:=by
 refine⟨[.fz (ns.map .int)],fun _=>none,fun d _=>d=.bl true,.cons ?_ .nil,(fun _ _ e=>nomatch e),⟨ns,rfl,hl,rfl⟩,fun v H' d G' hv _ _ q=>?_⟩
 ·unfold Hv;refine⟨a,ns.map V.int,rfl,?_,aF.ints ns⟩;rcases hS with (h|h)|h
  ·rcases ho a with z|⟨o,xs,z⟩
   ·rw[z] at h;cases h
   ·rw[z] at h;cases h
  ·exact .inl h
  ·exact .inr h
 ·subst q;exact rb hv
theorem walk{l:ui}{q:af}{loose:List Δ}{XP:(Δ->Option δ)->ai->Prop}{YP:ar->ai->Prop}{d:DefRec}{K:Params->ι}(hn:l.most=some 63)(hdf:d.params.defaults=[])
  (hY:∀(w:ar) (h:ai),YP w h->(K w.params).In h)
  (F:∀(w:ar) (mg:Δ->Option δ) (fa:ε) (h:ai),(K w.params).In h->h.Ns bq mg->mg d.name=some (.ref fa) ->
   ∃fd:aG,(∀(s:ζ) (u:δ),oB s fd ⟨[u],[]⟩ [("script",u)])/\∀base:ai,(K w.params).In base->base.Ns bq mg->iF l.prog w (K w.params) mg base vD 48 fa fd ["script"] (lG (K w.params) kv)):
  PySem.W.WalkO q loose XP YP l.row.toRowW d [] (fun f vs=>uh f vs):=
 L2.yC (n:=63) (k:=48) (x:="script") (CX:=fun _=>vD) (sp:=fun w=>lG (K w.params) kv) hn (by decide) hdf ⟨rfl,by decide,by decide⟩ hY F (fun w H a ns hl ho hS=>KC (K w.params) H a ns hl ho hS) fun _ _ _ _ _ z=>z
end My
open PySem PySem.W PyProof.Rows
set_option maxRecDepth 100000 in
set_option maxHeartbeats 0 in
theorem PySem.Challenge.cw_coverclocks_k64_clocks_moved_holds : PySem.Challenge.rw_coverclocks_k64_clocks_moved.Holds := by
 w_on;o_law;k_head;(case hw=>w_witness2)
 k_fill
 refine My.walk (l:=PySem.Challenge.rw_coverclocks_k64_clocks_moved) rfl rfl (fun w h Y=>PySem.W.kIn_of Y) ?F
 case F=>
  intro w mg fa h KX G hmg
  refine' Exists.elim (My.we KX G (My.cf ?a0 ?l0 ?c0 ?k0) (My.cf ?a1 ?l1 ?c1 ?k1) (My.cf ?a2 ?l2 ?c2 ?k2) (My.cf ?a3 ?l3 ?c3 ?k3) (My.cf ?a4 ?l4 ?c4 ?k4) (My.cf ?a5 ?l5 ?c5 ?k5) (My.cf ?a6 ?l6 ?c6 ?k6) (My.cf ?a7 ?l7 ?c7 ?k7) (My.cf ?a8 ?l8 ?c8 ?k8) (My.cf ?a9 ?l9 ?c9 ?k9) (My.cf ?a10 ?l10 ?c10 ?k10) (My.cf ?a11 ?l11 ?c11 ?k11) (My.cf ?a12 ?l12 ?c12 ?k12) (My.cf ?a13 ?l13 ?c13 ?k13) (My.cf ?a14 ?l14 ?c14 ?k14) (My.cf ?a15 ?l15 ?c15 ?k15) (My.cf ?a16 ?l16 ?c16 ?k16) (My.cf ?a17 ?l17 ?c17 ?k17) (My.cf ?a18 ?l18 ?c18 ?k18) (My.cf ?a19 ?l19 ?c19 ?k19) (My.cf ?a20 ?l20 ?c20 ?k20) (My.cf ?a21 ?l21 ?c21 ?k21) (My.cf ?a22 ?l22 ?c22 ?k22) (My.cf ?a23 ?l23 ?c23 ?k23) (My.cf ?a24 ?l24 ?c24 ?k24) (My.cf ?a25 ?l25 ?c25 ?k25) (My.cf ?a26 ?l26 ?c26 ?k26) (My.cf ?a27 ?l27 ?c27 ?k27) (My.cf ?a28 ?l28 ?c28 ?k28) (My.cf ?a29 ?l29 ?c29 ?k29) ?gint0 ?z0 ?z1 ?z2 ?z3 ?z4 ?z5 ?z6 ?z7 ?z8 ?z9 ?Kk) ?fin
  case a0|l0|c0|k0|a1|l1|c1|k1|a2|l2|c2|k2|a3|l3|c3|k3|a4|l4|c4|k4|a5|l5|c5|k5|a6|l6|c6|k6|a7|l7|c7|k7|a8|l8|c8|k8|a9|l9|c9|k9=>k_is
  case a10|l10|c10|k10|a11|l11|c11|k11|a12|l12|c12|k12|a13|l13|c13|k13|a14|l14|c14|k14|a15|l15|c15|k15|a16|l16|c16|k16|a17|l17|c17|k17|a18|l18|c18|k18|a19|l19|c19|k19=>k_is
  case a20|l20|c20|k20|a21|l21|c21|k21|a22|l22|c22|k22|a23|l23|c23|k23|a24|l24|c24|k24|a25|l25|c25|k25|a26|l26|c26|k26|a27|l27|c27|k27|a28|l28|c28|k28|a29|l29|c29|k29=>k_is
  case gint0|z0|z1|z2|z3|z4|z5|z6|z7|z8|z9|Kk=>k_is
  case fin=>
   rintro t ⟨T,b⟩
   have e2:=hmg.symm.trans T.OV
   cases e2
   exact⟨t.tZ,b,fun base _ _=>My.L1 T⟩
