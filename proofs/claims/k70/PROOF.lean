import PyProof.Rows.All
import Wide.All
import OpenK.AllK
import Wide.FinOn
import Lean
import PyProof.EqAt
import PyProof.EqKinds
import PyProof.TupleCall
import PyProof.NeKinds
import KE.KSortAsk
import PySem.SetTable
import PyProof.SetKind
import PyProof.TupleKey
import PyProof.IsRules
import PyProof.DictKinds
import PyProof.FactsAll.set
import PyProof.RangeIter
import PyProof.Seq
import PyProof.ForAny
import PyProof.WalksMore
import PyProof.CollectWalk
import PyProof.CollectIter
import PyProof.WalksS
import PyProof.Rows.SetFrom
import KE.KSortTup
import PyProof.Draws
import PyProof.Rows.Range3
import PyProof.StrBlockL
import PyProof.StrWalks
import PyProof.EnumMake
import PyProof.Rows.StrItems
import PyProof.StrLawsTight
import PyProof.StrLawsChain
import KE.KIntText
import PyProof.StrLawsIn
import PyProof.SetRoads
import PyProof.Rows.StrSplitAre
import PyProof.ExcClass2
import PyProof.InstSpecial
import PyProof.RaisesMany
import PyProof.Rows.Own
import KE.KTryDeep
import PyProof.InstStoreFacts
import PyProof.ExcArgs
import PySem.Challenge.RW_coverclocks_k70_clocks_written_and_read
set_option Elab.async false
set_option linter.all false
set_option maxRecDepth 100000
set_option maxHeartbeats 6400000
namespace PySem.W.Fast
def tw10187853307165345300:=0
def tw108547211912048363:=0
def tw10906526392409639542:=0
def tw11155553658484310920:=0
def tw11539177200079133468:=0
def tw11823818947016023822:=0
def tw11883045689177239082:=0
def tw121527551936079148:=0
def tw12182039554270707298:=0
def tw12446709873502969008:=0
def tw13093539230424550210:=0
def tw13491306946377981507:=0
def tw13951656930558247140:=0
def tw14026358864228575615:=0
def tw1405160789408411975:=0
def tw14127425093480725914:=0
def tw14604334870814781987:=0
def tw14732681578499727652:=0
def tw14765707910932829461:=0
def tw14810415011881047261:=0
def tw15131201048223260580:=0
def tw15355971722628073810:=0
def tw15843688450606133359:=0
def tw15939990397512475822:=0
def tw16031649603100974258:=0
def tw16265981380372936548:=0
def tw16391996776740161427:=0
def tw16415866635510744119:=0
def tw16896454943984965578:=0
def tw17197226380058304623:=0
def tw17229132060478260147:=0
def tw2302643322847945833:=0
def tw265017925850390012:=0
def tw30030061728265318:=0
def tw3080276638474570562:=0
def tw3384789567108688044:=0
def tw3797968628358721899:=0
def tw4213717677204625311:=0
def tw4359985360865715806:=0
def tw4366327313966317834:=0
def tw4467492849814313419:=0
def tw5553002348688467783:=0
def tw5592881836112001648:=0
def tw5717061546225502983:=0
def tw579721482012564935:=0
def tw592581200333135377:=0
def tw6097446389614813308:=0
def tw6823283711913539786:=0
def tw71595915732060838:=0
def tw8593108379252917734:=0
def tw8899956498976753822:=0
def tw8972460189331067464:=0
def tw9213560485472907571:=0
def tw936081481281488109:=0
def tw9766662013927110094:=0
def tw987470174615170137:=0
def tw9929866494080826782:=0
def tw9990838871391577282:=0
def tw10007191638888638672:=0
def tw11001729521887178036:=0
def tw11017038647824653256:=0
def tw11241978138031998352:=0
def tw11961889354319102363:=0
def tw12193360259730503564:=0
def tw12698915384742029481:=0
def tw13066498881546634728:=0
def tw13380009020762875281:=0
def tw13873320717156576676:=0
def tw14162994096016519179:=0
def tw15145319985058516585:=0
def tw15487203547759245400:=0
def tw18325941053053137585:=0
def tw2953014230222989371:=0
def tw4447835904421295192:=0
def tw4456313091760481143:=0
def tw5160516414954010552:=0
def tw6478477238061556811:=0
def tw6516186392433687906:=0
def tw710449301116829842:=0
def tw9352373692418481311:=0
def tw9560748301472521395:=0
def tw9931360767209246229:=0
def tw11417422000439828283:=0
def tw12018706943026093373:=0
def tw12502357606022829741:=0
def tw13075420735038766619:=0
def tw13823275477652828696:=0
def tw13936179122752661408:=0
def tw16373953165759055030:=0
def tw16692944074086583026:=0
def tw18026923403873040372:=0
def tw18293107496571464471:=0
def tw2228626770130624721:=0
def tw2676539641940918861:=0
def tw2825586903313986175:=0
def tw3884695122718155378:=0
def tw4934521464813103156:=0
def tw5106776737459150626:=0
def tw5853981427032908172:=0
def tw6248310076417129598:=0
def tw7879652611005330909:=0
def tw9448607357355098491:=0
def tw945382554731266616:=0
def tw16288900931968930318:=0
def tw17812269899424169829:=0
def tw2502747593551456314:=0
def tw461754715704765521:=0
def tw10817110705265981346:=0
def tw12187011742305295359:=0
def tw1835352440908394301:=0
def tw12939455817658275037:=0
def tw14989607061938752743:=0
end PySem.W.Fast
open Array renaming getElem?_toList->ak,getElem?_eq_some_iff->aR,length_toList->dz,getElem?_eq_none_iff->gh,getD->jm,getElem?_eq_getElem->kA,toList->lA,toList_filterMap->mq,toList_extract->nS,mem_toList_iff->nT,forIn_toList->pS
open Bool renaming false_ne_true->af,false_and->cF,and_eq_true->cQ,and_false->fS,false_eq_true->gQ,eq_iff_iff->jk,true_and->oz,and_true->oA
open Classical renaming byContradiction->ay
open False renaming elim->ey
open ForInStep renaming yield->fo
open Int renaming emod_lt_of_pos->dJ,emod_nonneg->fm,toNat_of_nonneg->gq,toNat_natCast->km,ediv_nonneg->lV
open List renaming length_map->ξ,size_toArray->χ,mem_cons_self->Ψ,mem_cons_of_mem->Ω,mem_cons->aa,length_cons->aj,range->aq,getElem?_map->av,length_append->az,mem_map->aB,mem_append_right->aC,getElem?_eq_some_iff->aG,not_mem_nil->aT,replicate->aV,mem_of_getElem?->bu,getElem?_eq_getElem->bz,length_take->bC,mem_range->bJ,map_append->bW,getElem?_eq_none_iff->bZ,map_cons->cn,mem_append->cL,getElem?_append_right->cN,all_eq_true->cP,getElem?_append_left->cW,nil_append->de,mem_of_mem_take->df,map_map->dg,pairwise_map->dm,replicate_succ->dy,append_nil->dO,pairwise_iff_getElem->ei,getElem?_of_mem->eo,drop_eq_getElem_cons->eu,lookup_cons->eQ,nodup_cons->fk,take_of_length_le->fv,drop_eq_nil_of_le->fw,flatten_cons->fF,append_assoc->fG,length_singleton->fR,mem_append_left->fY,length_drop->fZ,length->gn,length_nil->gw,zip_cons_cons->gM,toArray->gN,take_sublist->hU,length_range->hV,getElem?_set_self->ig,length_replicate->iM,getElem?_set_ne->jh,eq_nil_of_length_eq_zero->jn,map_congr_left->ju,getElem?_range->jv,filterMap_cons->jw,mem_singleton->j3,mem_filterMap->j4,getD->j5,take_length->ll,getElem_mem->lp,getElem?_take_of_lt->lq,filterMap_cons_some->ls,all_map->lu,pairwise_singleton->lB,length_eq_zero_iff->lC,getElem?_replicate->lD,of_mem_zip->lR,length_zip->lS,head?_cons->lT,forIn_cons->lU,range_succ_eq_map->ml,pairwise_lt_range->mm,take_append_drop->mV,mem_of_mem_drop->nQ,map_take->oq,map_drop->ou,all_cons->ox,length_zipWith->oC,filter_eq_self->oD,pairwise_cons->pO,map_filterMap->pP,getElem?_drop->pQ,filterMap_map->pR,foldl->su
open List.Pairwise renaming nil->kl,map->qw
open List.cons renaming inj->ir,injEq->sv
open Nat renaming le_refl->Γ,ne_of_lt->aO,lt_of_lt_of_le->aP,zero_le->aQ,le_trans->bc,lt_irrefl->bS,le_add_right->eP,lt_succ_of_lt->fE,ne_of_gt->gL,lt_succ_self->iG,toDigits->jd,mod_lt->je,min_self->jg,succ_pos->lb,lt_trans->lg,le_of_not_lt->lh,le_of_lt->lj
open Ne renaming symm->eZ
open Option renaming getD_none->qY,map->sr
open Option.some renaming inj->ai
open Or renaming inr->mU,inl->pN
open PyProof.Rows renaming slot_tuple_getitem->bQ,callWith_type1->cK,IntsAre->eI,AllBare->iO,get?_update_seq->ja,listUpdate_at->kc,IsTup->kz,SortKind->kY,seqEpoch_at->me,split_pos->mj
open PyProof.Rows.F renaming plain_set_update_loop->dI,entry_set_update_loop->gK
open PySem renaming wpAny_bind->γ,Value->δ,Addr->ε,Shared->η,wpAny_pure->μ,Expr->ν,Str->π,wpAny->ρ,sizeLine->Φ,Heap->ae,Program->ah,World->ar,Spec->au,Pos->aE,mainGlobals->aI,Obj->aJ,FuncData->aM,SetTable->aS,Stmt->aU,starEach->ba,Around->bo,wpAny_callSpecial?_slot->bE,wpAny_call_entry->bK,wpAny_newObj_type->bN,wpAny_field->bY,wpAny_setState_of->b9,wpAny_holding->cb,sizeLine_eq->cg,wpAny_setField_rec->cm,wpAny_truthy_bool->cu,wpAny_pyIter_tuple->cA,wpAny_seqItems->cC,wpAny_pyIter_list->dk,mem_of_lookup->dw,NameKind->dB,Builtin->dC,wpAny_mono->dZ,bootBuiltins->eN,IsPair->eR,codeAny_builtin->fh,call_meets->fi,Scope->fD,Env->fV,wpAny_passesOwn->gu,Tok->gv,wpAny_typeOf->gI,wpAny_attempt->iq,IsZip->iu,CmpOp->iw,wpAny_isInstance->iE,wpAny_forIn_list->iF,codeAny->iL,wpAny_updateSeq_pair->i8,typeIs_str->i9,codeAny_mono->jb,IsPart->ji,wpAny_of_eq->jP,wpAny_Call_Name_kw->jZ,wpAny_onRaise->j9,plainId_quiet->ka,wpAny_rule->kv,wpAny_askSetting->kU,noFill_tuple_add->kW,wpAny_execs_nil->lQ,IsRangeIter->mn,wpAny_newTuple->mN,isSubtype_type->mO,isSubtype_stop->mP,intText?->mQ,SetTable->mR,Keyword->mW,BindsTo->mX,wpAny_newList->oi,seq_tuple_add->oj,call->sk
open PySem.Around renaming under_plainId->eB
open PySem.Builtin.Frozenset renaming slot0->lE
open PySem.Builtin.Int renaming intBits->gr
open PySem.Builtin.List renaming listTooLong->eU,listExtendWith->j6,listSameRef->ly
open PySem.Builtin.Range renaming rangeSize->dr
open PySem.Builtin.Slice renaming slicePlaces->eA,sliceAdjust->gy,sliceApplied->kg
open PySem.Builtin.SmallTypes renaming nextOf->bH,ownedTupleIsFree->cE,ownedTupleHandOut->gP
open PySem.Builtin.Str renaming occurrences->bF,partsBetween->gO,tooLong->oE,strKind->oF
open PySem.Builtin.Tuple renaming tupleExact->eS,tupleItemsOf->kf
open PySem.Calls renaming Name_function_global->kd
open PySem.Data renaming cell->iN,fields->jQ
open PySem.F renaming args_tuple_add_2->gJ,entry_tuple_add->g6,slot_tuple_add->ie,type_list_append->kZ,slot_list_append->la,type_str_split->mh,slot_str_split->mi,type_str_join->mS,slot_str_join->mT
open PySem.Heap renaming get?_push_of_some->θ,lt_size->Δ,get?_push_size->Ξ,size_push->cU,SameBut->dh,get?_update_other->dG,get?_update_self->dP,IsTuple->jj,IsList->mo,get?_push_cases->nR,ExtBut->qG
open PySem.Heap.IsList renaming push->qZ
open PySem.Heap.IsTuple renaming push->qx
open PySem.Heap.SameBut renaming update->cv
open PySem.IsRange renaming new->qF
open PySem.NameKind renaming free->bT,cell->oo
open PySem.Obj renaming mapSeq->aL,putSet->ky
open PySem.PassesOwn renaming never->fj
open PySem.SeqAt.RcAt renaming lists_lengths->pM
open PySem.SetTable renaming insertAt->aY,grown->fN,below->fO,sizeAbove->j0
open PySem.Shared renaming heap->eE,TypeIs->om
open PySem.Str renaming ofString->aA,length_append->bO,join->dS,empty->eD,empty_append->eO,append_assoc->kX
open PySem.StrLaws renaming sumLen_le->qu
open PySem.Value renaming ref->bh,none->bV,isInt_shape->fC,bool->jc,type->kx,str->pK,int->pL,isInt->qE
open PySem.W renaming Frag->ζ,mg_of->aF,mg_none_of->bj,nsIn->br,kia_one->cw,kitOne->eH,keepIn->fP,fnOf->fQ,kas_ask->jF,codeIn->jG,methodObj->ki,kitx_list->kj,cellsFrom_some->mf,kitx_dict->qv,OpenLaw->sm
open PySem.W.KasT renaming kasWp_bind->gx
open Sum renaming inr->kC,inl->kD
open True renaming intro->nP
namespace L2
open PySem PySem.Spec PyProof.Rows
abbrev Key:=Sum Int π
def Dm:Key->δ->Bool
 |.inl k,v=>qE k v
 |.inr x,v=>δ.isStrOf x v
def LP(w:ar):Key->Int
 |.inl k=>hashInt k
 |.inr x=>hashStr w x
theorem dE:∀{k:Key} {v:δ},Dm k v=true->(∃i t,k=kD i/\v=pL i t)∨(∃x t,k=kC x/\v=pK x t)
 |.inl i,v,h=>by
  obtain⟨t,e⟩:=fC (k:=i) (v:=v) h;exact .inl ⟨i,t,rfl,e⟩
 |.inr x,v,h=>by
  obtain⟨t,e⟩:=δ.isStrOf_shape (x:=x) (v:=v) h;exact .inr ⟨x,t,rfl,e⟩
theorem HP(a b:Int):decide ((kD a:Key)=kD b)=(a==b):=by
 by_cases e:a=b
 ·subst e;simp
 ·have h:¬(kD a:Key)=kD b:=fun q=>e (kD.inj q);rw[decide_eq_false h];exact (beq_eq_false_iff_ne.mpr e).symm
theorem HL(a b:π):decide ((kC a:Key)=kC b)=decide (a=b):=by
 by_cases e:a=b
 ·subst e;simp
 ·have h:¬(kC a:Key)=kC b:=fun q=>e (kC.inj q);rw[decide_eq_false h,decide_eq_false e]
theorem HN(a:Int)(b:π):decide ((kD a:Key)=kC b)=false:=decide_eq_false (fun q=>nomatch q)
theorem HM(a:π)(b:Int):decide ((kC a:Key)=kD b)=false:=decide_eq_false (fun q=>nomatch q)
def sL(prog:ah)(w:ar):PySem.KeyKind prog w Key where
 is:=Dm
 hash:=LP w
 inj:=fun v a b ha hb=>by
  rcases dE ha with⟨i,t,rfl,rfl⟩|⟨x,t,rfl,rfl⟩
  ·rcases dE hb with⟨j,u,rfl,e⟩|⟨y,u,rfl,e⟩
   ·injection e with e1 _;rw[e1]
   ·exact nomatch e
  ·rcases dE hb with⟨j,u,rfl,e⟩|⟨y,u,rfl,e⟩
   ·exact nomatch e
   ·injection e with e1 _;rw[e1]
 byValue:=fun k v h=>by
  rcases dE h with⟨i,t,rfl,rfl⟩|⟨x,t,rfl,rfl⟩<;>rfl
 pyHash:=fun hv h=>by
  rcases dE hv with⟨i,t,rfl,rfl⟩|⟨x,t,rfl,rfl⟩
  ·exact wpAny_pyHash_int h
  ·exact wpAny_pyHash_str h
 eqBool:=fun hu hv h=>by
  rcases dE hu with⟨i,t,rfl,rfl⟩|⟨x,t,rfl,rfl⟩
  ·rcases dE hv with⟨j,u,rfl,rfl⟩|⟨y,u,rfl,rfl⟩
   ·rw[HP] at h;exact wpAny_eqBool_int h
   ·rw[HN] at h;exact SeqAt.EqAt.int_str i t y u _ _ _ _ h
  ·rcases dE hv with⟨j,u,rfl,rfl⟩|⟨y,u,rfl,rfl⟩
   ·rw[HM] at h;exact SeqAt.EqAt.str_int x t j u _ _ _ _ h
   ·rw[HL] at h;exact wpAny_eqBool_str h
 «strs»:=fun k x t v h=>by
  rcases dE h with⟨i,u,rfl,e⟩|⟨y,u,rfl,e⟩
  ·exact nomatch e
  ·injection e with e1 _;subst e1;cases v<;>rfl
end L2
namespace L2
open PySem PySem.Spec PyProof.Rows
inductive V where
 |ao|bl (b:Bool)|int (i:Int)|str (x:π)|AW (b:Array UInt8)|Ib (b:UInt64)|ref (a:ε)|ty (n:String)
 deriving DecidableEq
def RelV:V->δ->Prop
 |.ao,u=>u=bV
 |.bl b,u=>u=jc b
 |.int i,u=>∃t,u=pL i t
 |.str x,u=>∃t,u=pK x t
 |.AW b,u=>∃t,u=δ.bytes b t
 |.Ib b,u=>∃t,u=δ.float b t
 |.ref a,u=>u=bh a
 |.ty n,u=>u=kx n
abbrev aH:List V->List δ->Prop:=Paired RelV
theorem aH.length{xs:List V}{us:List δ}(r:aH xs us):xs.length=us.length:=Paired.length r
theorem aH.get:∀{xs:List V} {us:List δ} {i:Nat} {x:V},aH xs us->xs[i]?=some x->∃u,us[i]?=some u/\RelV x u
 |_,_,_,_,.nil,e=>by simp at e
 |_,_,0,_,.cons r _,e=>by simp at e;subst e;exact⟨_,rfl,r⟩
 |_,_,i+1,x,.cons _ t,e=>by
  obtain⟨u,h1,h2⟩:=aH.get (i:=i) (x:=x) t (by simpa using e);exact⟨u,by simpa using h1,h2⟩
theorem aH.set{x:V}{u:δ}(r:RelV x u):∀{xs:List V} {us:List δ} (i:Nat),aH xs us->aH (xs.set i x) (us.set i u)
 |_,_,_,.nil=>.nil
 |_,_,0,.cons _ t=>.cons r t
 |_,_,i+1,.cons q t=>.cons q (aH.set r i t)
theorem aH.append:∀{xs ys:List V} {us ws:List δ},aH xs us->aH ys ws->aH (xs++ys) (us++ws)
 |_,_,_,_,.nil,s=>s
 |_,_,_,_,.cons r t,s=>.cons r (aH.append t s)
theorem aH.take:∀{xs:List V} {us:List δ} (n:Nat),aH xs us->aH (xs.take n) (us.take n)
 |_,_,0,_=>.nil
 |_,_,_+1,.nil=>.nil
 |_,_,n+1,.cons r t=>.cons r (aH.take n t)
theorem aH.drop:∀{xs:List V} {us:List δ} (n:Nat),aH xs us->aH (xs.drop n) (us.drop n)
 |_,_,0,r=>r
 |_,_,_+1,.nil=>.nil
 |_,_,n+1,.cons _ t=>aH.drop n t
def IH:Option V->Option δ->Prop
 |some v,some u=>RelV v u
 |none,none=>True
 |_,_=>False
def KV{κ:Type}:List (κ×V)->List (κ×δ)->Prop:=Paired fun (p:κ×V) (q:κ×δ)=>p.1=q.1/\RelV p.2 q.2
def kV:Key->V
 |.inl i=>.int i
 |.inr x=>.str x
inductive HO where
 |lst (xs:List V)
 |tup (xs:List V)
 |dK (kvs:List (Key×V))|dT (kvs:List (List Key×V))
 |set (S:Int->Bool) (n:Nat)
 |ins (C dx:ε) (fs:List (π×V))
 |own (x:ε)
 |xd (fs:List (π×V))
 |met (f x:ε)
 |CU (lo hi:Int)
 |fx (o:aJ) (u:HO)
 |tx (ps:Array δ)
 |ext (φ:ae->Prop)
abbrev Hp:=ε->Option HO
def upd(H:Hp)(a:ε)(o:HO):Hp:=fun b=>if b=a then some o else H b
theorem bX{H:Hp}{a:ε}{o:HO}:upd H a o a=some o:=by unfold upd;rw[if_pos rfl]
theorem bp{H:Hp}{a b:ε}{o:HO}(h:b≠a):upd H a o b=H b:=by unfold upd;rw[if_neg h]
theorem cB{H:Hp}{a b:ε}{o:HO}(h:H a=some o)(h':H b=none):a≠b:=by
 intro e;subst e;rw[h] at h';cases h'
def ia(h:ae)(a:ε)(items:Array δ):Prop:=∃o,h.get? a=some o/\o.cls=.type "tuple"/\(∃n,o.data=.seq items n)/\o.dict=none
theorem ia.tup{h:ae}{a:ε}{items:Array δ}(x:ia h a items):kz h a items:=let ⟨o,h1,h2,h3,_⟩:=x;⟨o,h1,h2,h3⟩
theorem ia.new(h:ae)(items:Array δ):ia (h.push { cls:=.type "tuple",data:=.seq items }) h.objs.size items:=⟨_,Ξ _ rfl,rfl,⟨_,rfl⟩,rfl⟩
theorem ia.lt{h:ae}{a:ε}{items:Array δ}(x:ia h a items):a<h.objs.size:=let ⟨_,ho,_⟩:=x;Δ ho
section
variable (P:ah) (w:ar)
def eV(H:Hp)(h:ae)(a:ε):HO->Prop
 |.lst xs=>xs.length≤Φ/\∃(its:List δ) (n:Nat),aH xs its/\h.get? a=some { cls:=.type "list",data:=.seq its.toArray n }
 |.tup xs=>xs.length≤Φ/\∃its:List δ,aH xs its/\ia h a its.toArray
 |.dK kvs=>kvs.length≤Φ/\(a==sysModules)=false/\∃vs,KV kvs vs/\h.DictOf (sL P w) a vs
 |.dT kvs=>kvs.length≤Φ/\(a==sysModules)=false/\∃xs:List (List Key×ε×δ),
   Paired (fun (p:List Key×V) (q:List Key×ε×δ)=>p.1=q.1/\H q.2.1=some (.tup (p.1.map kV))/\RelV p.2 q.2.2) kvs xs ∧
   ∃o es ep,h.get? a=some o/\o.ExactDict/\o.data=.dict es ep/\es.toList=xs.map (entryOfKey (tupleKind (sL P w)))/\(xs.map (·.1)).Nodup
 |.set S n=>h.SetOf (intKind P w) a S n
 |.ins C dx fs=>H dx=some (.own a)/\fs.length≤1000/\dx≠a/\h.get? a=some (PySem.W.instObj C dx) ∧
   ∃mA,h.Ns1 dx mA/\(∀f,IH (fs.lookup f) (mA f))/\PySem.Within mA (fs.map (·.1))
 |.own _=>∃o,h.get? a=some o
 |.xd fs=>∃mA,h.Ns1 a mA/\∀f,IH (fs.lookup f) (mA f)
 |.CU lo hi=>∃t u v,h.get? a=some { cls:=.type "range",data:=.fields #[.int lo t,.int hi u,.int 1 v]}
 |.fx o u=>h.get? a=some o/\eV H h a u
 |.tx ps=>h.get? a=some { cls:=.none,data:=.fields ps }
 |.met f x=>h.get? a=some (ki (.ref f) (.ref x))
 |.ext φ=>φ h/\(∃o,h.get? a=some o)/\∀h1 h2:ae,φ h1->(∀o,h1.get? a=some o->h2.get? a=some o)->φ h2
def gG(H:Hp)(h:ae):Prop:=∀a o,H a=some o->eV P w H h a o
end
section
variable {P:ah} {w:ar} {H H':Hp} {h h':ae} {a:ε} {o:HO}
theorem eV.lt(x:eV P w H h a o):a<h.objs.size:=by
 cases o with
 |lst xs=>obtain⟨_,_,_,_,e⟩:=x;exact Δ e
 |tup xs=>obtain⟨_,_,_,p⟩:=x;exact p.lt
 |dK kvs=>obtain⟨_,_,_,_,o,_,_,e,_⟩:=x;exact Δ e
 |dT kvs=>obtain⟨_,_,_,_,o,_,_,e,_⟩:=x;exact Δ e
 |set S n=>obtain⟨o,_,_,_,e,_⟩:=x;exact Δ e
 |ins C dx fs=>obtain⟨_,_,_,e,_⟩:=x;exact Δ e
 |own y=>obtain⟨_,e⟩:=x;exact Δ e
 |xd fs=>obtain⟨_,⟨_,_,_,e,_⟩,_⟩:=x;exact Δ e
 |CU lo hi=>obtain⟨_,_,_,e⟩:=x;exact Δ e
 |fx ob u=>obtain⟨e,_⟩:=x;exact Δ e
 |tx ps=>exact Δ (show h.get? a=some _ from x)
 |met f y=>exact Δ (show h.get? a=some _ from x)
 |ext φ=>obtain⟨_,⟨_,e⟩,_⟩:=x;exact Δ e
theorem Paired.Hk{α β:Type}{F G:α->β->Prop}:∀{l₁:List α} {l₂:List β},Paired F l₁ l₂->(∀a b,F a b->G a b)->Paired G l₁ l₂
 |_,_,.nil,_=>.nil
 |_,_,.cons r t,f=>.cons (f _ _ r) (Paired.Hk t f)
theorem eV.qH(x:eV P w H h a o)(k:∀b u,(b=a∨H b=some (.own a))->h.get? b=some u->h'.get? b=some u)
  (ho:∀b,H b=some (.own a)->H' b=some (.own a)) (ht:∀b xs,H b=some (.tup xs)->H' b=some (.tup xs)):eV P w H' h' a o:=by
 induction o with
 |lst xs=>obtain⟨z,its,n,r,e⟩:=x;exact⟨z,its,n,r,k _ _ (.inl rfl) e⟩
 |tup xs=>obtain⟨z,its,r,ob,e,c⟩:=x;exact⟨z,its,r,ob,k _ _ (.inl rfl) e,c⟩
 |dK kvs=>obtain⟨z,y,vs,r,ob,es,ep,e,c⟩:=x;exact⟨z,y,vs,r,ob,es,ep,k _ _ (.inl rfl) e,c⟩
 |dT kvs=>
  obtain⟨z,y,xs,r,ob,es,ep,e,c⟩:=x;exact⟨z,y,xs,Paired.Hk r fun p q z=>⟨z.1,ht _ _ z.2.1,z.2.2⟩,ob,es,ep,k _ _ (.inl rfl) e,c⟩
 |set S n=>obtain⟨ob,es,ep,t,e,c⟩:=x;exact⟨ob,es,ep,t,k _ _ (.inl rfl) e,c⟩
 |ins C dx fs=>
  obtain⟨d,z,ne,e,mA,⟨od,es,ep,e2,c⟩,r⟩:=x;exact⟨ho _ d,z,ne,k _ _ (.inl rfl) e,mA,⟨od,es,ep,k _ _ (.inr d) e2,c⟩,r⟩
 |own y=>obtain⟨ob,e⟩:=x;exact⟨ob,k _ _ (.inl rfl) e⟩
 |xd fs=>obtain⟨mA,⟨od,es,ep,e,c⟩,r⟩:=x;exact⟨mA,⟨od,es,ep,k _ _ (.inl rfl) e,c⟩,r⟩
 |CU lo hi=>obtain⟨t,u,v,e⟩:=x;exact⟨t,u,v,k _ _ (.inl rfl) e⟩
 |fx ob u ih=>obtain⟨e,q⟩:=x;exact⟨k _ _ (.inl rfl) e,ih q⟩
 |tx ps=>
  have e:h.get? a=some { cls:=.none,data:=.fields ps }:=x;show h'.get? a=some { cls:=.none,data:=.fields ps };exact k a _ (.inl rfl) e
 |met f y=>
  have e:h.get? a=some (ki (.ref f) (.ref y)):=x;show h'.get? a=some (ki (.ref f) (.ref y));exact k a _ (.inl rfl) e
 |ext φ=>obtain⟨p,⟨o,e⟩,st⟩:=x;exact⟨st _ _ p fun o q=>k _ _ (.inl rfl) q,⟨o,k _ _ (.inl rfl) e⟩,st⟩
theorem gG.lt(x:gG P w H h)(e:H a=some o):a<h.objs.size:=(x a o e).lt
theorem gG.fresh(x:gG P w H h)(e:h.objs.size≤a):H a=none:=by
 cases q:H a with
 |none=>rfl
 |some u=>exact absurd (aP (x.lt q) e) (bS _)
theorem gG.kept(x:gG P w H h)(k:∀b u,h.get? b=some u->h'.get? b=some u):gG P w H h':=fun a o e=>
 (x a o e).qH (fun b u _ q=>k b u q) (fun _ q=>q) fun _ _ q=>q
theorem gG.laid(x:gG P w H h)(k:∀b u,h.get? b=some u->h'.get? b=some u)(hp:h.objs.size≤a)(new:eV P w (upd H a o) h' a o):gG P w (upd H a o) h':=fun b u e=>by
 have hn:=x.fresh hp;by_cases hb:b=a
 ·subst hb;rw[bX] at e;cases e;exact new
 ·rw[bp hb] at e;exact (x b u e).qH (fun c v _ q=>k c v q) (fun c q=>by rw[bp (cB q hn)];exact q) fun c xs q=>by rw[bp (cB q hn)];exact q
end
def Rd(H:Hp)(a:ε)(u:HO):Prop:=H a=some u∨∃o,H a=some (.fx o u)
theorem Rd.ok{P:ah}{w:ar}{H:Hp}{h:ae}{a:ε}{u:HO}(r:Rd H a u)(x:gG P w H h):eV P w H h a u:=by
 rcases r with r|⟨o,r⟩
 ·exact x a u r
 ·obtain⟨_,q⟩:=x a _ r;exact q
def Dx:Option HO->Prop
 |some (.lst _)=>True
 |some (.dK _)=>True
 |some (.dT _)=>True
 |some (.set _ _)=>True
 |some (.ins _ _ _)=>True
 |some (.ext _)=>True
 |_=>False
section
variable {P:ah} {w:ar} {H:Hp} {h h':ae} {x e:ε} {o':HO}
theorem gG.write(ok:gG P w H h)(mu:Dx (H x))(he:e=x∨H e=some (.own x))(k:∀b u,b≠e->h.get? b=some u->h'.get? b=some u)(heo:∃u,h'.get? e=some u)
  (new:eV P w (upd H x o') h' x o'):gG P w (upd H x o') h':=fun b u q=>by
 have nown:∀c y,H c=some (.own y)->c≠x:=fun c y r z=>by subst z;rw[r] at mu;exact mu
 have ntup:∀c xs,H c=some (.tup xs)->c≠x:=fun c xs r z=>by subst z;rw[r] at mu;exact mu
 by_cases hb:b=x
 ·subst hb;rw[bX] at q;cases q;exact new
 ·rw[bp hb] at q;by_cases hbe:b=e
  ·have q':H b=some (.own x):=by
    rcases he with z|z
    ·exact absurd (hbe.trans z) hb
    ·rw[hbe];exact z
   rw[q] at q';cases q';obtain⟨v,hv⟩:=heo;exact⟨v,by rw[hbe];exact hv⟩
  ·refine (ok b u q).qH (fun c v hc r=>k c v ?_ r) (fun c r=>by rw[bp (nown c b r)];exact r) fun c xs r=>by rw[bp (ntup c xs r)];exact r
   rcases hc with rfl|hc
   ·exact hbe
   ·rintro rfl;rcases he with z|z
    ·exact nown c b hc z
    ·rw[hc] at z;cases z;exact hb rfl
end
structure Un(fs ex:List ε)(H H':Hp)(h h':ae):Prop where
 keep:∀b o,h.get? b=some o->H b=none->b∉fs->b∉ex->h'.get? b=some o
 slot:∀b o,h.get? b=some o->H b=none->b∈fs->b∉ex->∃sl,h'.get? b=some { o with slots:=sl }
 free:∀b o,h.get? b=some o->H b=none->b∉ex->H' b=none
 there:∀b o,h.get? b=some o->b∉ex->∃o',h'.get? b=some o'
 oI:∀b xs,H b=some (.tup xs)->H' b=some (.tup xs)
 nE:∀b o u,H b=some (.fx o u)->H' b=some (.fx o u)
 oK:∀b ps,H b=some (.tx ps)->∃more,H' b=some (.tx (ps++more))
section
variable {fs fs' ex ex':List ε} {H H1 H2:Hp} {h h1 h2 h':ae} {a x e:ε} {o:HO}
theorem Un.any(u:Un fs ex H H1 h h1){b:ε}{ob:aJ}(q:h.get? b=some ob)(n:H b=none)(hx:b∉ex):∃sl,h1.get? b=some { ob with slots:=sl }:=by
 by_cases hb:b∈fs
 ·exact u.slot b ob q n hb hx
 ·exact⟨ob.slots,u.keep b ob q n hb hx⟩
theorem Un.kept(k:∀b u,h.get? b=some u->h'.get? b=some u):Un fs ex H H h h':=
 ⟨fun b ob q _ _ _=>k b ob q,fun b ob q _ _ _=>⟨ob.slots,k b ob q⟩,fun _ _ _ n _=>n,fun b ob q _=>⟨ob,k b ob q⟩,fun _ _ q=>q,fun _ _ _ q=>q,fun _ ps q=>⟨#[],by rw[q];simp⟩⟩
theorem Un.refl:Un fs ex H H h h:=Un.kept fun _ _ q=>q
theorem Un.laid(k:∀b u,h.get? b=some u->h'.get? b=some u)(hp:h.objs.size≤a)(hn:H a=none):Un fs ex H (upd H a o) h h' where
 keep:=fun b u q _ _ _=>k b u q
 slot:=fun b u q _ _ _=>⟨u.slots,k b u q⟩
 free:=fun b u q n _=>by rw[bp (aO (aP (Δ q) hp))];exact n
 there:=fun b u q _=>⟨u,k b u q⟩
 oI:=fun b xs q=>by rw[bp (cB q hn)];exact q
 nE:=fun b u xs q=>by rw[bp (cB q hn)];exact q
 oK:=fun b ps q=>⟨#[],by rw[bp (cB q hn),q];simp⟩
theorem Un.write(mu:Dx (H x))(he:e=x∨H e=some (.own x))(k:∀b u,b≠e->h.get? b=some u->h'.get? b=some u)(heo:∃u,h'.get? e=some u):Un fs ex H (upd H x o) h h':=by
 have hx:∀b,H b=none->b≠x:=fun b n z=>by subst z;rw[n] at mu;exact mu
 have hb:∀b,H b=none->b≠e:=fun b n z=>by
  subst z;rcases he with r|r
  ·exact hx b n r
  ·rw[n] at r;cases r
 have hm:∀b u,H b=some u->¬Dx (some u)->b≠x:=fun b u q nm z=>by subst z;rw[q] at mu;exact nm mu
 refine⟨fun b u q n _ _=>k b u (hb b n) q,fun b u q n _ _=>⟨u.slots,k b u (hb b n) q⟩,fun b u q n _=>by rw[bp (hx b n)];exact n,fun b u q _=>?_,
  fun b xs q=>by rw[bp (hm b _ q fun z=>z)];exact q,fun b u xs q=>by rw[bp (hm b _ q fun z=>z)];exact q,fun b ps q=>⟨#[],by rw[bp (hm b _ q fun z=>z),q];simp⟩⟩
 by_cases hbe:b=e
 ·subst hbe;exact heo
 ·exact⟨u,k b u hbe q⟩
end
def lF(h:ae)(H:Hp):List ε:=(aq h.objs.size).filter fun a=>(H a).isSome
def nB(h:ae)(H:Hp):ae:=PySem.W.hideAll h (lF h H)
theorem AD(h:ae)(H:Hp):(nB h H).objs.size=h.objs.size:=PySem.W.hideAll_size _ _
theorem BY{h:ae}{H:Hp}{b:ε}{o:aJ}(e:h.get? b=some o)(n:H b=none):(nB h H).get? b=some o:=
 PySem.W.hideAll_get _ e fun hm=>by
  have q:(H b).isSome=true:=(List.mem_filter.mp hm).2;rw[n] at q;simp at q
theorem EC{h:ae}{H:Hp}{b:ε}{o:aJ}(e:(nB h H).get? b=some o):h.get? b=some o/\H b=none:=by
 have e':h.get? b=some o:=PySem.W.of_hideAll (lF h H) e;refine⟨e',?_⟩;cases q:H b with
 |none=>rfl
 |some x=>
  have hm:b∈lF h H:=List.mem_filter.mpr ⟨bJ.mpr (Δ e'),by simp[q]⟩;have z:(nB h H).get? b=none:=PySem.W.hideAll_none (lF h H) hm;rw[z] at e;cases e
end L2
namespace L2
open PySem PySem.Spec PyProof.Rows
structure Mod(K:ζ)(mg:π->Option δ)(base:ae):Prop where
 Dl:K.In base
 glob:base.Ns aI mg
 blt:∃mb,base.Ns builtinsNs mb/\∀x:π,x≠"__name__"->mb x=eN x
 nolimit:base.NoLimit
structure Cx where
 prog:ah
 w:ar
 K:ζ
 mg:π->Option δ
 base:ae
 A:bo
 N:List π
 s₀:η
 H₀:Hp
 env:fV
 outer:List fV
 stack:List fV
 ex:List ε
 fn:π->Bool
 calm:Bool
 pn:List (ε×aJ)
 xe:δ->η->Prop
def pC(l:List fV):List ε:=l.filterMap (·.frame)
abbrev Cx.fs(X:Cx):List ε:=pC X.outer
def IE(sc:fD)(x:π):Prop:=sc.names.lookup x=some .local∨sc.names.lookup x=some .cell∨sc.names.lookup x=some .free
def Loc(sc:fD)(x:π):Prop:=sc.names.lookup x=some .local∨sc.names.lookup x=some .cell
def Look(env:fV)(h:ae)(m:π->Option δ)(x:π)(u:δ):Prop:=
 (env.kindOf x=some .local/\m x=some u)∨((env.kindOf x=some .cell∨env.kindOf x=some .free)/\∃c,env.cells.lookup x=some c/\h.IsCell c (some u))
structure Cx.Ok(X:Cx):Prop where
 mod:Mod X.K X.mg X.base
 kind:X.env.scope.kind=.function
 glob:X.env.globals=aI
 blt:X.env.builtins=builtinsNs
 above:X.s₀.heap.objs.size≤X.env.locals
 inj:∀x y c,X.env.cells.lookup x=some c->X.env.cells.lookup y=some c->x=y
 has:∀x,(X.env.kindOf x=some .cell∨X.env.kindOf x=some .free)->∃c,X.env.cells.lookup x=some c
 xu:∀x c,X.fn x=true->X.env.cells.lookup x=some c->X.s₀.heap.objs.size≤c
 hd:X.calm=true->X.A.handled=none
 frames:X.A.frames=some X.stack
 zF:X.stack=X.outer∨(X.stack=X.env::X.outer/\X.env.frame=some X.env.locals)
 AI:∀b∈X.ex,b≠X.env.locals/\∀x c,X.env.cells.lookup x=some c->c≠b
 bs:∀b o,X.base.get? b=some o->X.s₀.heap.get? b=some o/\X.H₀ b=none
 se:X.base.objs.size≤X.s₀.heap.objs.size
 qN:∀b o,X.base.get? b=some o->b∉X.ex
 sR:∀b∈X.ex,b∉X.fs
 j8:X.s₀.heap.FunFrames X.base X.outer
 vI:∀b∈X.fs,X.H₀ b=none
structure Inv(X:Cx)(pins:List (ε×aJ))(σ:List (Option V))(H:Hp)(s:η):Prop where
 ok:X.Ok
 os:s.os=X.s₀.os
 bare:iO s.gens
 base:Un X.fs X.ex X.H₀ H X.s₀.heap s.heap
 loc:∃m,s.heap.Ns X.env.locals m/\∀(i:Nat) (x:π) (v:V),X.N[i]?=some x->σ[i]?=some (some v)->IE X.env.scope x->∃u,RelV v u/\Look X.env s.heap m x u
 cell:∀x c,X.env.cells.lookup x=some c->∃v,s.heap.IsCell c v
 free:H X.env.locals=none
 jJ:∀x c,X.env.cells.lookup x=some c->H c=none
 pin:∀p∈X.pn++pins,s.heap.get? p.1=some p.2/\H p.1=none/\p.1≠X.env.locals/\p.1∉X.fs/\∀v,p.2.data≠.cell v
 bD:gG X.prog X.w H s.heap
 len:σ.length=X.N.length
section
variable {X:Cx} {pins:List (ε×aJ)} {σ:List (Option V)} {H H':Hp} {s:η} {h':ae}
theorem Cx.Ok.LB(ok:X.Ok){b:ε}{o:aJ}(e:X.base.get? b=some o):b∉X.fs:=fun hb=>by
 have:=(ok.j8.mem hb).1;rw[e] at this;cases this
theorem Inv.bs(I:Inv X pins σ H s):∀b o,X.base.get? b=some o->s.heap.get? b=some o/\H b=none:=fun b o e=>
 ⟨I.base.keep b o (I.ok.bs b o e).1 (I.ok.bs b o e).2 (I.ok.LB e) (I.ok.qN b o e),I.base.free b o (I.ok.bs b o e).1 (I.ok.bs b o e).2 (I.ok.qN b o e)⟩
theorem Inv.bk(I:Inv X pins σ H s):∀b o,X.base.get? b=some o->s.heap.get? b=some o:=fun b o e=>(I.bs b o e).1
theorem Inv.mod(I:Inv X pins σ H s):Mod X.K X.mg X.base:=I.ok.mod
theorem Inv.kh(I:Inv X pins σ H s):X.K.In s.heap:=I.ok.mod.Dl.keeps I.bk
theorem Inv.lt(I:Inv X pins σ H s):X.env.locals<s.heap.objs.size:=let ⟨_,hn,_⟩:=I.loc;hn.lt
theorem Inv.sz(I:Inv X pins σ H s):X.s₀.heap.objs.size≤s.heap.objs.size:=bc I.ok.above (lj I.lt)
theorem Inv.LA(I:Inv X pins σ H s){a:ε}(h:s.heap.objs.size≤a):a∉X.fs:=fun hb=>by
 obtain⟨_,o,ho,_⟩:=I.ok.j8.mem hb;exact absurd (aP (Δ ho) (bc I.sz h)) (bS _)
theorem Inv.vM(I:Inv X pins σ H s):∀x c,X.env.cells.lookup x=some c->c≠X.env.locals:=fun x c e z=>by
 obtain⟨v,o,ho,hd⟩:=I.cell x c e;obtain⟨m,⟨o',es,ep,ho',hd',_⟩,_⟩:=I.loc;rw[z,ho'] at ho;cases ho;rw[hd'] at hd;cases hd
theorem Inv.j8(I:Inv X pins σ H s):s.heap.FunFrames X.base X.outer:=by
 have all:∀(l:List fV),(∀b∈pC l,b∈X.fs)->X.s₀.heap.FunFrames X.base l->s.heap.FunFrames X.base l:=by
  intro l
  induction l with
  |nil=>intro _ _;trivial
  |cons env r ih=>
   intro hs hl;obtain⟨hk,⟨L,o,hf,hn,ho,hd⟩,hr⟩:=hl;have hL:L∈X.fs:=hs L (by unfold pC;rw[jw,hf];exact Ψ);obtain⟨sl,e⟩:=I.base.slot L o ho (I.ok.vI L hL) hL fun z=>I.ok.sR L z hL;exact⟨hk,⟨L,_,hf,hn,e,hd⟩,ih (fun b hb=>hs b (by unfold pC;rw[jw,hf];exact Ω _ hb)) hr⟩
 exact all X.outer (fun _ hb=>hb) I.ok.j8
theorem Inv.stack(I:Inv X pins σ H s):s.heap.FunFrames X.base X.stack:=by
 rcases I.ok.zF with e|⟨e,hf⟩
 ·rw[e];exact I.j8
 ·rw[e];obtain⟨m,hn,_⟩:=I.loc;refine .cons (by rw[I.ok.kind];decide) hf hn ?_ I.j8;exact ae.get?_none_of_le (bc I.ok.se I.ok.above)
theorem Inv.uz(I:Inv X pins σ H s):∀b∈pC X.stack,b∈X.env.locals::X.fs:=fun b hb=>by
 rcases I.ok.zF with e|⟨e,hf⟩
 ·rw[e] at hb;exact Ω _ hb
 ·rw[e] at hb;unfold pC at hb;rw[jw,hf] at hb;exact hb
theorem Inv.wM(I:Inv X pins σ H s):∀b∈pC X.stack,H b=none:=fun b hb=>by
 rcases aa.mp (I.uz b hb) with e|hb
 ·rw[e];exact I.free
 ·obtain⟨_,o,ho,_⟩:=I.ok.j8.mem hb;exact I.base.free b o ho (I.ok.vI b hb) fun z=>I.ok.sR b z hb
theorem Inv.step{g':Array GenState}{t':Nat}{d':Drawn}{ch:List ε}(I:Inv X pins σ H s)
  (nW:∀b∈ch,(b∈X.ex∨X.s₀.heap.objs.size≤b)/\b≠X.env.locals/\(∀x c,X.env.cells.lookup x=some c->c≠b)/\∀p∈X.pn++pins,p.1≠b)
  (keep:∀b o,b≠X.env.locals->b∉X.fs->b∉ch->s.heap.get? b=some o->H b=none->h'.get? b=some o)
  (slot:∀b o,b≠X.env.locals->b∈X.fs->b∉ch->s.heap.get? b=some o->H b=none->∃sl,h'.get? b=some { o with slots:=sl }) (free:∀b o,b∉ch->s.heap.get? b=some o->H b=none->H' b=none)
  (there:∀b o,b∉ch->s.heap.get? b=some o->∃o',h'.get? b=some o')
  (oI:∀b xs,H b=some (.tup xs)->H' b=some (.tup xs)) (nE:∀b o u,H b=some (.fx o u)->H' b=some (.fx o u)) (oK:∀b ps,H b=some (.tx ps)->∃more,H' b=some (.tx (ps++more)))
  (ns:∀m,s.heap.Ns X.env.locals m->h'.Ns X.env.locals m) (bD:gG X.prog X.w H' h') (hg:iO g'):
  Inv X pins σ H' { s with heap:=h',gens:=g',drawn:=d',toks:=t' }:=by
 have neL:∀b o,X.s₀.heap.get? b=some o->b≠X.env.locals:=fun b o e=>aO (aP (Δ e) I.ok.above);have neC:∀b o,X.s₀.heap.get? b=some o->b∉X.ex->b∉ch:=fun b o e hx hb=>by
  rcases (nW b hb).1 with z|z
  ·exact hx z
  ·exact absurd (aP (Δ e) z) (bS _)
 have cellK:∀x c,X.env.cells.lookup x=some c->∀v,s.heap.IsCell c v->h'.IsCell c v:=fun x c e v ⟨o,ho,hd⟩=>by
  have nch:c∉ch:=fun z=>(nW c z).2.2.1 x c e rfl;by_cases hc:c∈X.fs
  ·obtain⟨sl,q⟩:=slot c o (I.vM x c e) hc nch ho (I.jJ x c e);exact⟨_,q,hd⟩
  ·exact⟨o,keep c o (I.vM x c e) hc nch ho (I.jJ x c e),hd⟩
 refine⟨I.ok,I.os,hg,⟨fun b o e n hb hx=>?_,fun b o e n hb hx=>?_,fun b o e n hx=>?_,fun b o e hx=>?_,fun b xs e=>oI b xs (I.base.oI b xs e),fun b o xs e=>nE b o xs (I.base.nE b o xs e),fun b ps e=>?_⟩,?_,fun x c e=>?_,?_,fun x c e=>?_,fun p hp=>?_,bD,I.len⟩
 ·exact keep b o (neL b o e) hb (neC b o e hx) (I.base.keep b o e n hb hx) (I.base.free b o e n hx)
 ·obtain⟨sl,e1⟩:=I.base.slot b o e n hb hx;obtain⟨sl',e2⟩:=slot b _ (neL b o e) hb (neC b o e hx) e1 (I.base.free b o e n hx);exact⟨sl',e2⟩
 ·obtain⟨o',e1⟩:=I.base.there b o e hx;exact free b o' (neC b o e hx) e1 (I.base.free b o e n hx)
 ·obtain⟨o',e1⟩:=I.base.there b o e hx;exact there b o' (neC b o e hx) e1
 ·obtain⟨m1,e1⟩:=I.base.oK b ps e;obtain⟨m2,e2⟩:=oK b _ e1;exact⟨m1++m2,by rw[e2,Array.append_assoc]⟩
 ·obtain⟨m,hn,hl⟩:=I.loc;refine⟨m,ns m hn,fun i x v e1 e2 e3=>?_⟩;obtain⟨u,r,l⟩:=hl i x v e1 e2 e3;refine⟨u,r,?_⟩;rcases l with l|⟨k,c,e,z⟩
  ·exact .inl l
  ·exact .inr ⟨k,c,e,cellK x c e _ z⟩
 ·obtain⟨v,z⟩:=I.cell x c e;exact⟨v,cellK x c e v z⟩
 ·obtain⟨m,⟨o,_,_,ho,_⟩,_⟩:=I.loc;exact free _ o (fun z=>(nW _ z).2.1 rfl) ho I.free
 ·obtain⟨v,o,ho,hd⟩:=I.cell x c e;exact free c o (fun z=>(nW c z).2.2.1 x c e rfl) ho (I.jJ x c e)
 ·obtain⟨e,n,ne,nf,d⟩:=I.pin p hp;have nch:p.1∉ch:=fun z=>(nW p.1 z).2.2.2 p hp rfl;exact⟨keep p.1 p.2 ne nf nch e n,free p.1 p.2 nch e n,ne,nf,d⟩
theorem Inv.un{t':Nat}(I:Inv X pins σ H s)(u:Un X.fs [] H H' s.heap h')(bD:gG X.prog X.w H' h'):Inv X pins σ H' { s with heap:=h',toks:=t' }:=by
 obtain⟨m,⟨o,es,ep,ho,r⟩,_⟩:=id I.loc;obtain⟨sl,hL⟩:=u.any ho I.free (by simp);exact I.step (g':=s.gens) (d':=s.drawn) (ch:=[]) (fun _ z=>nomatch z) (fun b o _ hb _ e n=>u.keep b o e n hb (by simp)) (fun b o _ hb _ e n=>u.slot b o e n hb (by simp)) (fun b o _ e n=>u.free b o e n (by simp)) (fun b o _ e=>u.there b o e (by simp)) u.oI u.nE u.oK (fun m' hm=>by
  obtain⟨o',es',ep',ho',r'⟩:=hm;rw[ho] at ho';cases ho';exact⟨_,es',ep',hL,r'⟩) bD I.bare
theorem Inv.call{g':Array GenState}{t':Nat}{d':Drawn}{ch:List ε}(I:Inv X pins σ H s)(u:Un (pC X.stack) ch H H' s.heap h')(bD:gG X.prog X.w H' h')(hg:iO g')
  (nW:∀b∈ch,(b∈X.ex∨X.s₀.heap.objs.size≤b)/\b≠X.env.locals/\(∀x c,X.env.cells.lookup x=some c->c≠b)/\∀p∈X.pn++pins,p.1≠b):
  Inv X pins σ H' { s with heap:=h',gens:=g',drawn:=d',toks:=t' }:=by
 obtain⟨m,⟨o,es,ep,ho,r⟩,_⟩:=id I.loc;obtain⟨sl,hL⟩:=u.any ho I.free fun z=>(nW _ z).2.1 rfl;exact I.step (ch:=ch) nW (fun b o hL hb hc e n=>u.keep b o e n (fun z=>(aa.mp (I.uz b z)).elim hL hb) hc) (fun b o _ _ hc e n=>u.any e n hc) (fun b o hc e n=>u.free b o e n hc) (fun b o hc e=>u.there b o e hc) u.oI u.nE u.oK (fun m' hm=>by
  obtain⟨o',es',ep',ho',r'⟩:=hm;rw[ho] at ho';cases ho';exact⟨_,es',ep',hL,r'⟩) bD hg
theorem Inv.turned{t':Nat}{it:ε}(I:Inv X pins σ H s)(k:∀b o,b≠it->s.heap.get? b=some o->h'.get? b=some o)(hn:H it=none)(hL:it≠X.env.locals)
  (h1:it∈X.ex∨X.s₀.heap.objs.size≤it) (h2:∀x c,X.env.cells.lookup x=some c->c≠it) (h3:∀p∈X.pn++pins,p.1≠it):Inv X pins σ H { s with heap:=h',toks:=t' }:=by
 have nit:∀b u,H b=some u->b≠it:=fun b u e z=>by rw[z,hn] at e;cases e
 refine I.step (g':=s.gens) (d':=s.drawn) (ch:=[it]) (fun b hb=>?_) (fun b o _ _ hc e _=>k b o (fun z=>hc (by simp[z])) e) (fun b o _ _ hc e _=>⟨o.slots,k b o (fun z=>hc (by simp[z])) e⟩) (fun _ _ _ _ n=>n)
  (fun b o hc e=>⟨o,k b o (fun z=>hc (by simp[z])) e⟩) (fun _ _ e=>e) (fun _ _ _ e=>e) (fun b ps e=>⟨#[],by rw[e];simp⟩) (fun m hm=>?_) (fun b u e=>?_) I.bare
 ·have e:b=it:=by simpa using hb
  subst e;exact⟨h1,hL,h2,h3⟩
 ·obtain⟨o,es,ep,ho,r⟩:=hm;exact⟨o,es,ep,k _ o (eZ hL) ho,r⟩
 ·refine (I.bD b u e).qH (fun c v hc q=>k c v ?_ q) (fun _ q=>q) fun _ _ q=>q;rcases hc with z|z
  ·rw[z];exact nit b u e
  ·exact nit c _ z
theorem Inv.tok(I:Inv X pins σ H s)(t:Nat):Inv X pins σ H { s with toks:=t }:=I.un (h':=s.heap) (t':=t) Un.refl I.bD
theorem Inv.kept{t':Nat}(I:Inv X pins σ H s)(k:∀b u,s.heap.get? b=some u->h'.get? b=some u):Inv X pins σ H { s with heap:=h',toks:=t' }:=I.un (Un.kept k) (I.bD.kept k)
theorem Inv.laid{a:ε}{o:HO}{t':Nat}(I:Inv X pins σ H s)(k:∀b u,s.heap.get? b=some u->h'.get? b=some u)(hp:s.heap.objs.size≤a)(new:eV X.prog X.w (upd H a o) h' a o):
  Inv X pins σ (upd H a o) { s with heap:=h',toks:=t' }:=I.un (Un.laid k hp (I.bD.fresh hp)) (I.bD.laid k hp new)
theorem Inv.write{x e:ε}{o:HO}{t':Nat}(I:Inv X pins σ H s)(mu:Dx (H x))(he:e=x∨H e=some (.own x))(k:∀b u,b≠e->s.heap.get? b=some u->h'.get? b=some u)(heo:∃u,h'.get? e=some u)
  (new:eV X.prog X.w (upd H x o) h' x o):Inv X pins σ (upd H x o) { s with heap:=h',toks:=t' }:=I.un (Un.write mu he k heo) (I.bD.write mu he k heo new)
theorem Inv.wX{pins':List (ε×aJ)}(I:Inv X pins σ H s)(h:∀p∈pins',s.heap.get? p.1=some p.2/\H p.1=none/\p.1≠X.env.locals/\p.1∉X.fs/\∀v,p.2.data≠.cell v):Inv X pins' σ H s:=
 ⟨I.ok,I.os,I.bare,I.base,I.loc,I.cell,I.free,I.jJ,fun p hp=>(cL.mp hp).elim (fun z=>I.pin p (fY _ z)) (h p),I.bD,I.len⟩
theorem vf{N:List π}(hN:N.Nodup){i j:Nat}{x:π}(a:N[i]?=some x)(b:N[j]?=some x):i=j:=by
 obtain⟨h1,e1⟩:=aG.mp a;obtain⟨h2,e2⟩:=aG.mp b;exact (List.getElem_inj hN).mp (e1.trans e2.symm)
theorem zE{M:Model}{A:bo}{E:δ->η->Prop}{i:Nat}{x:π}{v:V}{u:δ}{Q:Unit->η->Prop}(I:Inv X pins σ H s)(hN:X.N.Nodup)(hi:X.N[i]?=some x)(hx:Loc X.env.scope x)(r:RelV v u)
  (h:∀s',Inv X pins (σ.set i (some v)) H s'->(∃a,dh a s.heap s'.heap/\(a=X.env.locals∨X.env.cells.lookup x=some a))->Q () s') (hf:X.fn x=true∨X.env.scope.names.lookup x=some .local:=by first|exact .inl rfl|exact .inr rfl|assumption):ρ M A (storeName X.env x u) Q E s:=by
 obtain⟨m,hn,hl⟩:=id I.loc;have hcls:(X.env.scope.kind==.class||(X.env.scope.kind==.module&&X.env.locals != X.env.globals))=false:=by rw[I.ok.kind];rfl
 have hiσ:i<σ.length:=by rw[I.len];exact (aG.mp hi).1
 have vM:=I.vM;have tracked:∀{a:ε} {h':ae},(∃o,s.heap.get? a=some o/\H a=none)->dh a s.heap h'->gG X.prog X.w H h':=fun {a h'} ha hs b ob e=>by
  obtain⟨_,_,hfree⟩:=ha;refine (I.bD b ob e).qH (fun c w' hc q=>(hs.2 c ?_).trans q) (fun _ q=>q) fun _ _ q=>q;rintro rfl;rcases hc with rfl|hc
  ·rw[hfree] at e;cases e
  ·rw[hfree] at hc;cases hc
 rcases hx with hk|hk
 ·refine wpAny_storeName_local hk hn (fun h' hn' hs=>?_) hcls;obtain⟨oL,_,_,hoL,_⟩:=id hn;refine h _ ⟨I.ok,I.os,I.bare,⟨fun b o e n hb hx=>?_,fun b o e n hb hx=>?_,I.base.free,fun b o e hx=>?_,I.base.oI,I.base.nE,I.base.oK⟩,⟨_,hn',fun j y v' e1 e2 e3=>?_⟩,fun y c e=>?_,I.free,I.jJ,fun p hp=>?_,tracked ⟨oL,hoL,I.free⟩ hs,by simpa using I.len⟩ ⟨_,hs,.inl rfl⟩
  ·exact (hs.2 b (aO (aP (Δ e) I.ok.above))).trans (I.base.keep b o e n hb hx)
  ·obtain⟨sl,e1⟩:=I.base.slot b o e n hb hx;exact⟨sl,(hs.2 b (aO (aP (Δ e) I.ok.above))).trans e1⟩
  ·obtain⟨o',e1⟩:=I.base.there b o e hx;exact⟨o',(hs.2 b (aO (aP (Δ e) I.ok.above))).trans e1⟩
  ·by_cases hj:j=i
   ·subst hj;rw[hi] at e1;cases e1;rw[ig hiσ] at e2;cases e2;exact⟨u,r,.inl ⟨hk,by simp⟩⟩
   ·rw[jh (eZ hj)] at e2;obtain⟨u',r',q⟩:=hl j y v' e1 e2 e3;refine⟨u',r',?_⟩;rcases q with⟨k,e⟩|⟨k,c,e,z⟩
    ·refine .inl ⟨k,?_⟩;have:y≠x:=fun e=>hj (vf hN e1 (e▸hi));simp[this,e]
    ·exact .inr ⟨k,c,e,z.sameBut hs (vM y c e)⟩
  ·obtain⟨w',z⟩:=I.cell y c e;exact⟨w',z.sameBut hs (vM y c e)⟩
  ·obtain⟨e,n,ne,nf,d⟩:=I.pin p hp;exact⟨(hs.2 p.1 ne).trans e,n,ne,nf,d⟩
 ·have hfn:X.fn x=true:=by
   rcases hf with z|z
   ·exact z
   ·rw[z] at hk;cases hk
  obtain⟨c,hc⟩:=I.ok.has x (.inl hk);obtain⟨w',z⟩:=I.cell x c hc;refine wpAny_storeName_cell I.ok.kind hk hc z (fun h' hc' hs=>?_);obtain⟨oc,hoc,hocd⟩:=id z;refine h { s with heap:=h' } ⟨I.ok,I.os,I.bare,⟨fun b o e n hb hx=>?_,fun b o e n hb hx=>?_,I.base.free,fun b o e hx=>?_,I.base.oI,I.base.nE,I.base.oK⟩,⟨m,hn.sameBut hs (eZ (vM x c hc)),fun j y v' e1 e2 e3=>?_⟩,fun y c' e=>?_,I.free,I.jJ,fun p hp=>?_,tracked ⟨oc,hoc,I.jJ x c hc⟩ hs,by simpa using I.len⟩ ⟨c,hs,.inr hc⟩
  ·exact (hs.2 b (aO (aP (Δ e) (I.ok.xu x c hfn hc)))).trans (I.base.keep b o e n hb hx)
  ·obtain⟨sl,e1⟩:=I.base.slot b o e n hb hx;exact⟨sl,(hs.2 b (aO (aP (Δ e) (I.ok.xu x c hfn hc)))).trans e1⟩
  ·obtain⟨o',e1⟩:=I.base.there b o e hx;exact⟨o',(hs.2 b (aO (aP (Δ e) (I.ok.xu x c hfn hc)))).trans e1⟩
  ·by_cases hj:j=i
   ·subst hj;rw[hi] at e1;cases e1;rw[ig hiσ] at e2;cases e2;exact⟨u,r,.inr ⟨.inl hk,c,hc,hc'⟩⟩
   ·rw[jh (eZ hj)] at e2;obtain⟨u',r',q⟩:=hl j y v' e1 e2 e3;refine⟨u',r',?_⟩;rcases q with q|⟨k,c',e,z'⟩
    ·exact .inl q
    ·refine .inr ⟨k,c',e,z'.sameBut hs ?_⟩;rintro rfl;exact hj (vf hN e1 (I.ok.inj _ _ _ e hc▸hi))
  ·by_cases hcc:c'=c
   ·subst hcc;exact⟨_,hc'⟩
   ·obtain⟨w2,z2⟩:=I.cell y c' e;exact⟨w2,z2.sameBut hs hcc⟩
  ·obtain⟨e,n,ne,nf,d⟩:=I.pin p hp;refine⟨(hs.2 p.1 ?_).trans e,n,ne,nf,d⟩;intro q;rw[q,hoc] at e;have q':oc=p.2:=ai e;exact d w' (by rw[←q'];exact hocd)
theorem uy{M:Model}{A:bo}{E:δ->η->Prop}{i:Nat}{x:π}{v:V}{u:δ}{Q:Unit->η->Prop}(I:Inv X pins σ H s)(hN:X.N.Nodup)(hi:X.N[i]?=some x)(hx:Loc X.env.scope x)(r:RelV v u)
  (h:∀s',Inv X pins (σ.set i (some v)) H s'->Q () s') (hf:X.fn x=true∨X.env.scope.names.lookup x=some .local:=by first|exact .inl rfl|exact .inr rfl|assumption):ρ M A (storeName X.env x u) Q E s:=
 zE I hN hi hx r (fun s' I' _=>h s' I') hf
theorem Inv.KN{s':η}{ch:List ε}(I:Inv X pins σ H s)(ho:s'.os=s.os)(u:Un (pC X.stack) ch H H' s.heap s'.heap)(bD:gG X.prog X.w H' s'.heap)(hg:iO s'.gens)
  (nW:∀b∈ch,(b∈X.ex∨X.s₀.heap.objs.size≤b)/\b≠X.env.locals/\(∀x c,X.env.cells.lookup x=some c->c≠b)/\∀p∈X.pn++pins,p.1≠b):Inv X pins σ H' s':=by
 obtain⟨h',g',d',t',o'⟩:=s';have e:o'=s.os:=ho;subst e;exact I.call (g':=g') (t':=t') (d':=d') u bD hg nW
end
abbrev XK:=δ->Option ε->Hp->Prop
abbrev St:=List (Option V)
abbrev VK:=V->Hp->Prop
abbrev TE:=St->Hp->VK->Prop
abbrev TT:=St->Hp->(Bool->Hp->Prop)->Prop
abbrev TA:=St->Hp->(List V->Hp->Prop)->Prop
structure Ends where
 nx:St->Hp->Prop
 rt:VK
 bk:St->Hp->Prop:=fun _ _=>False
 ct:St->Hp->Prop:=fun _ _=>False
abbrev TS:=Ends->St->Hp->Prop
def EP(X:Cx)(pins:List (ε×aJ))(σ:St)(Q:VK)(u:δ)(s':η):Prop:=∃v H',Inv X pins σ H' s'/\RelV v u/\Q v H'
def TP(X:Cx)(pins:List (ε×aJ))(σ:St)(Q:Bool->Hp->Prop)(b:Bool)(s':η):Prop:=∃H',Inv X pins σ H' s'/\Q b H'
def AP(X:Cx)(pins:List (ε×aJ))(σ:St)(Q:List V->Hp->Prop)(us:List δ)(s':η):Prop:=∃vs H',Inv X pins σ H' s'/\aH vs us/\Q vs H'
def SP(X:Cx)(pins:List (ε×aJ))(D:Ends)(f:Flow)(s':η):Prop:=
 match f with
 |.next=>∃σ' H',Inv X pins σ' H' s'/\D.nx σ' H'
 |.brk=>∃σ' H',Inv X pins σ' H' s'/\D.bk σ' H'
 |.cont=>∃σ' H',Inv X pins σ' H' s'/\D.ct σ' H'
 |.ret u=>∃v σ' H',Inv X pins σ' H' s'/\RelV v u/\D.rt v H'
def PE(X:Cx)(e:ν)(t:TE):Prop:=
 ∀(pins:List (ε×aJ)) (s:η) (σ:St) (H:Hp) (Q:VK),Inv X pins σ H s->t σ H Q->ρ (model X.prog X.w) X.A (eval e X.env) (EP X pins σ Q) X.xe s
def PT(X:Cx)(e:ν)(t:TT):Prop:=
 ∀(pins:List (ε×aJ)) (s:η) (σ:St) (H:Hp) (Q:Bool->Hp->Prop),Inv X pins σ H s->t σ H Q->ρ (model X.prog X.w) X.A (isTrue e X.env (eval e X.env)) (TP X pins σ Q) X.xe s
def PW(X:Cx)(e:ν)(t:TT):Prop:=
 ∀(whole:Sem δ) (pins:List (ε×aJ)) (s:η) (σ:St) (H:Hp) (Q:Bool->Hp->Prop),Inv X pins σ H s->t σ H Q->ρ (model X.prog X.w) X.A (isTrue e X.env whole) (TP X pins σ Q) X.xe s
theorem PW.pt{X:Cx}{e:ν}{t:TT}(h:PW X e t):PT X e t:=h _
def PA(X:Cx)(es:List ν)(t:TA):Prop:=
 ∀(pos:aE) (pins:List (ε×aJ)) (s:η) (σ:St) (H:Hp) (Q:List V->Hp->Prop),Inv X pins σ H s->t σ H Q->ρ (model X.prog X.w) X.A (spliced (backTo pos (ba es X.env))) (AP X pins σ Q) X.xe s
def PS(X:Cx)(st:aU)(t:TS):Prop:=
 ∀(pins:List (ε×aJ)) (s:η) (σ:St) (H:Hp) (D:Ends),Inv X pins σ H s->t D σ H->ρ (model X.prog X.w) X.A (exec st X.env) (SP X pins D) X.xe s
def kS(X:Cx)(st:List aU)(t:TS):Prop:=
 ∀(pins:List (ε×aJ)) (s:η) (σ:St) (H:Hp) (D:Ends),Inv X pins σ H s->t D σ H->ρ (model X.prog X.w) X.A (execs st X.env) (SP X pins D) X.xe s
theorem bq{α:Type}{t:Sem α}{Q Q':α->η->Prop}{M:Model}{A:bo}{E:δ->η->Prop}{s:η}(h:ρ M A t Q E s)(hQ:∀a s,Q a s->Q' a s):ρ M A t Q' E s:=dZ h hQ fun _ _ x=>x
end L2
namespace L2
open PySem PySem.Spec PyProof.Rows
section
variable {X:Cx}
theorem bin{a b:ν}{ta tb:TE}(ha:PE X a ta)(hb:PE X b tb){pins:List (ε×aJ)}{s:η}{σ:St}{H:Hp}{R:V->V->Hp->Prop}(I:Inv X pins σ H s)(h:ta σ H fun x H1=>tb σ H1 fun y H2=>R x y H2)
  {α:Type} {Q:α->η->Prop} {f:δ->δ->Sem α}
  (hf:∀v u s2 x y H2,Inv X pins σ H2 s2->RelV x v->RelV y u->R x y H2->ρ (model X.prog X.w) X.A (f v u) Q X.xe s2):
  ρ (model X.prog X.w) X.A (eval a X.env) (fun v s₁=>ρ (model X.prog X.w) X.A (eval b X.env) (fun u s₂=>ρ (model X.prog X.w) X.A (f v u) Q X.xe s₂) X.xe s₁) X.xe s:=by
 refine bq (ha pins s σ H _ I h) fun v s1 ⟨x,H1,I1,r1,q1⟩=>?_;refine bq (hb pins s1 σ H1 _ I1 q1) fun u s2 ⟨y,H2,I2,r2,q2⟩=>?_;exact hf v u s2 x y H2 I2 r1 r2 q2
def xK(i:Nat):TE:=fun σ H Q=>∃v,σ[i]?=some (some v)/\Q v H
def tC(v:V):TE:=fun _ H Q=>Q v H
theorem Gw{i:Nat}{x:π}{pos:aE}(hN:X.N[i]?=some x)(hv:IE X.env.scope x)(hd:(x==("__debug__":π))=false:=by decide)(pB:(x==("__classdict__":π))=false:=by decide):PE X (.Name x pos) (xK i):=by
 intro pins s σ H Q I h;obtain⟨v,e,h⟩:=h;obtain⟨m,hn,hl⟩:=I.loc;obtain⟨u,r,l⟩:=hl i x v hN e hv;have fin:EP X pins σ Q u s:=⟨v,H,I,r,h⟩;rcases l with⟨hk,hm⟩|⟨hk,c,hc,hcell⟩
 ·exact wpAny_Name (wpAny_loadName_local I.ok.kind hk hn hm fin) hd
 ·rcases hk with hk|hk
  ·exact wpAny_Name (wpAny_loadName_cell I.ok.kind hk hc hcell fin) hd
  ·exact wpAny_Name (wpAny_loadName_free I.ok.kind hk hc hcell fin pB) hd
theorem GB{i j pos}:PE X (.Constant (.int i) j pos) (tC (.int i)):=fun _ _ _ H _ I h=>wpAny_Constant_int ⟨.int i,H,I.tok _,⟨_,rfl⟩,h⟩
theorem JG{b j pos}:PE X (.Constant (.bool b) j pos) (tC (.bl b)):=fun _ _ _ H _ I h=>Constant_bool ⟨.bl b,H,I,rfl,h⟩
theorem Gy{x j pos}:PE X (.Constant (.str x) j pos) (tC (.str x)):=fun _ _ _ H _ I h=>Calls.Constant_str ⟨.str x,H,I.tok _,⟨_,rfl⟩,h⟩
def Gl(X:Cx)(x:π):Prop:=X.env.kindOf x=some .globalImplicit
theorem xf{E:δ->η->Prop}{pins:List (ε×aJ)}{s:η}{σ:St}{H:Hp}{x:π}{u:δ}{pos:aE}{Q:δ->η->Prop}(I:Inv X pins σ H s)(hg:Gl X x)(hm:X.mg x=some u)(h:Q u s)
  (hd:(x==("__debug__":π))=false:=by decide):ρ (model X.prog X.w) X.A (eval (.Name x pos) X.env) Q E s:=
 kd I.ok.kind hg (Calls.loadGlobal_global (by rw[I.ok.glob];exact I.mod.glob.keeps I.bk) hm h) hd
theorem kO{E:δ->η->Prop}{pins:List (ε×aJ)}{s:η}{σ:St}{H:Hp}{x:π}{u:δ}{pos:aE}{Q:δ->η->Prop}(I:Inv X pins σ H s)(hg:Gl X x)(hm:X.mg x=none)(hv:eN x=some u)(h:Q u s)
  (hn:x≠"__name__":=by decide) (hd:(x==("__debug__":π))=false:=by decide):ρ (model X.prog X.w) X.A (eval (.Name x pos) X.env) Q E s:=by
 obtain⟨mb,h1,h2⟩:=I.mod.blt;exact kd I.ok.kind hg (Calls.loadGlobal_builtin (by rw[I.ok.glob];exact I.mod.glob.keeps I.bk) hm (by rw[I.ok.blt];exact h1.keeps I.bk) ((h2 x hn).trans hv) h) hd
theorem wZ{x:π}{v:V}{u:δ}{pos:aE}(hg:Gl X x)(hm:X.mg x=some u)(r:RelV v u)(hd:(x==("__debug__":π))=false:=by decide):PE X (.Name x pos) (tC v):=
 fun _ _ _ H _ I h=>xf I hg hm ⟨v,H,I,r,h⟩ hd
theorem Ey{x:π}{v:V}{u:δ}{pos:aE}(hg:Gl X x)(hm:X.mg x=none)(hv:eN x=some u)(r:RelV v u)(hn:x≠"__name__":=by decide)(hd:(x==("__debug__":π))=false:=by decide):PE X (.Name x pos) (tC v):=
 fun _ _ _ H _ I h=>kO I hg hm hv ⟨v,H,I,r,h⟩ hn hd
variable {a b:ν} {ta tb:TE} {pos:aE}
variable {tA tB':TT} {rest:List ν}
def Lp(t u:TT):TT:=fun σ H Q=>t σ H fun c H1=>if c=true then u σ H1 Q else Q false H1
def Mk(t u:TT):TT:=fun σ H Q=>t σ H fun c H1=>if c=true then Q true H1 else u σ H1 Q
def Lk(t:TT):TT:=fun σ H Q=>t σ H fun c H1=>Q (!c) H1
theorem pw_and1(ha:PT X a tA):PW X (.BoolOp .And [a] pos) tA:=by
 intro wh pins s σ H Q I h;refine isTrue_and (bq (ha pins s σ H Q I h) fun c s1 e=>?_);cases c with
 |true=>exact isTrue_and_nil e
 |false=>exact e
theorem pw_or1(ha:PT X a tA):PW X (.BoolOp .Or [a] pos) tA:=by
 intro wh pins s σ H Q I h;refine isTrue_or (bq (ha pins s σ H Q I h) fun c s1 e=>?_);cases c with
 |false=>exact isTrue_or_nil e
 |true=>exact e
theorem pw_and(ha:PT X a tA)(hb:PW X (.BoolOp .And (b::rest) pos) tB'):PW X (.BoolOp .And (a::b::rest) pos) (Lp tA tB'):=by
 intro wh pins s σ H Q I h;refine isTrue_and (bq (ha pins s σ H _ I h) fun c s1 ⟨H1,I1,q1⟩=>?_);cases c with
 |true=>exact hb wh pins s1 σ H1 Q I1 q1
 |false=>exact⟨H1,I1,q1⟩
theorem pw_or(ha:PT X a tA)(hb:PW X (.BoolOp .Or (b::rest) pos) tB'):PW X (.BoolOp .Or (a::b::rest) pos) (Mk tA tB'):=by
 intro wh pins s σ H Q I h;refine isTrue_or (bq (ha pins s σ H _ I h) fun c s1 ⟨H1,I1,q1⟩=>?_);cases c with
 |true=>exact⟨H1,I1,q1⟩
 |false=>exact hb wh pins s1 σ H1 Q I1 q1
theorem Gk(ha:PT X a tA):PT X (.UnaryOp .Not a pos) (Lk tA):=by
 intro pins s σ H Q I h;exact isTrue_not (ha pins s σ H (fun c H1=>Q (!c) H1) I h)
def Je(ta tb:TE):TE:=fun σ H Q=>ta σ H fun x H1=>∃c,x=.bl c/\if c=true then tb σ H1 Q else Q (.bl false) H1
def Lj(ta tb:TE):TE:=fun σ H Q=>ta σ H fun x H1=>∃c,x=.bl c/\if c=true then Q (.bl true) H1 else tb σ H1 Q
def Ja(ta:TE):TE:=fun σ H Q=>ta σ H fun x H1=>∃c,x=.bl c/\Q (.bl (!c)) H1
theorem Gz{op}{t:TE}(h:PE X a t):PE X (.BoolOp op [a] pos) t:=fun pins s σ H Q I hw=>BoolOp_one (h pins s σ H Q I hw)
theorem GC(ha:PE X a ta)(hb:PE X (.BoolOp .And (b::rest) pos) tb):PE X (.BoolOp .And (a::b::rest) pos) (Je ta tb):=by
 intro pins s σ H Q I h;refine BoolOp_and (bq (ha pins s σ H _ I h) fun v s1 ⟨x,H1,I1,r1,q1⟩=>?_);obtain⟨c,rfl,q1⟩:=q1;cases r1;refine cu ?_;cases c with
 |true=>exact hb pins s1 σ H1 Q I1 q1
 |false=>exact⟨.bl false,H1,I1,rfl,q1⟩
theorem JE(ha:PE X a ta)(hb:PE X (.BoolOp .Or (b::rest) pos) tb):PE X (.BoolOp .Or (a::b::rest) pos) (Lj ta tb):=by
 intro pins s σ H Q I h;refine BoolOp_or (bq (ha pins s σ H _ I h) fun v s1 ⟨x,H1,I1,r1,q1⟩=>?_);obtain⟨c,rfl,q1⟩:=q1;cases r1;refine cu ?_;cases c with
 |false=>exact hb pins s1 σ H1 Q I1 q1
 |true=>exact⟨.bl true,H1,I1,rfl,q1⟩
theorem GA(ha:PE X a ta):PE X (.UnaryOp .Not a pos) (Ja ta):=by
 intro pins s σ H Q I h;refine UnaryOp_ (bq (ha pins s σ H _ I h) fun v s1 ⟨x,H1,I1,r1,q1⟩=>?_);obtain⟨c,rfl,q1⟩:=q1;cases r1;exact not_of (cu ⟨.bl (!c),H1,I1,rfl,q1⟩)
end
end L2
namespace L2
open PySem PySem.Spec PyProof.Rows
def du(K:ζ)(H:Hp)(a:ε)(xs:List V):Prop:=
 Rd H a (.lst xs) ∨
  ∃(o:aJ) (its:Array δ) (n:Nat),K.lookup a=some o/\o.cls=.type "list"/\o.dict=none/\o.data=.seq its n/\its.size≤Φ/\aH xs its.toList
def cJ(K:ζ)(H:Hp)(a:ε)(xs:List V):Prop:=
 Rd H a (.tup xs) ∨
  ∃(o:aJ) (its:Array δ) (n:Nat),K.lookup a=some o/\o.cls=.type "tuple"/\o.dict=none/\o.data=.seq its n/\its.size≤Φ/\aH xs its.toList
def Mf:δ->Option V
 |.none=>some .ao
 |.bool b=>some (.bl b)
 |.int i _=>some (.int i)
 |.str x _=>some (.str x)
 |.bytes b _=>some (.AW b)
 |.float b _=>some (.Ib b)
 |.ref a=>some (.ref a)
 |.type n=>some (.ty n)
 |_=>none
theorem RelV.abs{x:V}{u:δ}(r:RelV x u):Mf u=some x:=by
 cases x with
 |ao=>cases r;rfl
 |bl _=>cases r;rfl
 |int _=>obtain⟨t,rfl⟩:=r;rfl
 |str _=>obtain⟨t,rfl⟩:=r;rfl
 |AW _=>obtain⟨t,rfl⟩:=r;rfl
 |Ib _=>obtain⟨t,rfl⟩:=r;rfl
 |ref _=>cases r;rfl
 |ty _=>cases r;rfl
theorem RelV.inj{x y:V}{u:δ}(r:RelV x u)(q:RelV y u):x=y:=ai (r.abs.symm.trans q.abs)
theorem aH.inj:∀{xs ys:List V} {us:List δ},aH xs us->aH ys us->xs=ys
 |_,_,_,.nil,.nil=>rfl
 |_,_,_,.cons r t,.cons r' t'=>by rw[r.inj r',aH.inj t t']
section
variable {X:Cx} {pins:List (ε×aJ)} {σ:St} {H:Hp} {s:η} {a:ε} {xs ys:List V}
theorem du.of{K:ζ}(h:H a=some (.lst xs)):du K H a xs:=.inl (.inl h)
theorem cJ.of{K:ζ}(h:H a=some (.tup xs)):cJ K H a xs:=.inl (.inl h)
theorem Inv.list(I:Inv X pins σ H s)(h:du X.K H a xs):∃its:List δ,aH xs its/\PlainL s.heap a its.toArray/\xs.length≤Φ:=by
 rcases h with h|⟨o,its,n,hk,hc,hd,hs,hz,r⟩
 ·obtain⟨z,its,n,r,e⟩:=h.ok I.bD;exact⟨its,r,⟨_,n,e,rfl,rfl,rfl⟩,z⟩
 ·refine⟨its.toList,r,⟨o,n,I.kh a o hk,hc,hd,by simpa using hs⟩,?_⟩;have e:=r.length;simp only[dz] at e;lia
theorem Inv.tuple(I:Inv X pins σ H s)(h:cJ X.K H a xs):∃its:List δ,aH xs its/\kz s.heap a its.toArray/\xs.length≤Φ:=by
 rcases h with h|⟨o,its,n,hk,hc,_,hs,hz,r⟩
 ·obtain⟨z,its,r,p⟩:=h.ok I.bD;exact⟨its,r,p.tup,z⟩
 ·refine⟨its.toList,r,⟨o,I.kh a o hk,hc,n,by simpa using hs⟩,?_⟩;have e:=r.length;simp only[dz] at e;lia
theorem Inv.vm(I:Inv X pins σ H s)(h:du X.K H a xs)(h':du X.K H a ys):xs=ys:=by
 obtain⟨its,r,⟨o,n,e,_,_,d⟩,_⟩:=I.list h;obtain⟨its',r',⟨o',n',e',_,_,d'⟩,_⟩:=I.list h';rw[e] at e';cases e';rw[d] at d';injection d' with d1 _
 have:its=its':=by simpa using congrArg lA d1
 subst this;exact r.inj r'
theorem Inv.tv(I:Inv X pins σ H s)(h:cJ X.K H a xs)(h':cJ X.K H a ys):xs=ys:=by
 obtain⟨its,r,⟨o,e,_,n,d⟩,_⟩:=I.tuple h;obtain⟨its',r',⟨o',e',_,n',d'⟩,_⟩:=I.tuple h';rw[e] at e';cases e';rw[d] at d';injection d' with d1 _
 have:its=its':=by simpa using congrArg lA d1
 subst this;exact r.inj r'
end
abbrev Cx.lW(X:Cx)(E:δ->η->Prop):Cx:={ X with xe:=E }
abbrev Cx.w9(X:Cx):Cx:=X.lW fun _ _=>False
theorem Cx.Ok.lW{X:Cx}(ok:X.Ok)(E:δ->η->Prop):(X.lW E).Ok:=
 ⟨ok.mod,ok.kind,ok.glob,ok.blt,ok.above,ok.inj,ok.has,ok.xu,ok.hd,ok.frames,ok.zF,ok.AI,ok.bs,ok.se,ok.qN,ok.sR,ok.j8,ok.vI⟩
theorem Cx.Ok.jR{X:Cx}{E:δ->η->Prop}(ok:(X.lW E).Ok):X.Ok:=
 ⟨ok.mod,ok.kind,ok.glob,ok.blt,ok.above,ok.inj,ok.has,ok.xu,ok.hd,ok.frames,ok.zF,ok.AI,ok.bs,ok.se,ok.qN,ok.sR,ok.j8,ok.vI⟩
section
variable {X:Cx} {pins:List (ε×aJ)} {σ:St} {H:Hp} {s:η} {E:δ->η->Prop}
theorem Inv.lW(I:Inv X pins σ H s)(E:δ->η->Prop):Inv (X.lW E) pins σ H s:=⟨I.ok.lW E,I.os,I.bare,I.base,I.loc,I.cell,I.free,I.jJ,I.pin,I.bD,I.len⟩
theorem Inv.jR(I:Inv (X.lW E) pins σ H s):Inv X pins σ H s:=⟨I.ok.jR,I.os,I.bare,I.base,I.loc,I.cell,I.free,I.jJ,I.pin,I.bD,I.len⟩
theorem SP.jR{D:Ends}{f:Flow}{s':η}(h:SP (X.lW E) pins D f s'):SP X pins D f s':=by
 cases f with
 |next=>obtain⟨σ',H',I,q⟩:=h;exact⟨σ',H',I.jR,q⟩
 |brk=>obtain⟨σ',H',I,q⟩:=h;exact⟨σ',H',I.jR,q⟩
 |cont=>obtain⟨σ',H',I,q⟩:=h;exact⟨σ',H',I.jR,q⟩
 |ret u=>obtain⟨v,σ',H',I,r,q⟩:=h;exact⟨v,σ',H',I.jR,r,q⟩
theorem kS.w9{st:List aU}{t:TS}(h:kS X.w9 st t):kS X st t:=fun pins s σ H D I hw=>
 dZ (h pins s σ H D (I.lW _) hw) (fun _ _ q=>q.jR) fun _ _ z=>ey z
end
section
variable {X:Cx} {st:aU} {rest:List aU} {t u:TS} {e:ν} {te:TE} {pos:aE}
def Jb:TS:=fun D σ H=>D.nx σ H
def Lh(t u:TS):TS:=fun D σ H=>t { D with nx:=u D } σ H
theorem Ek:kS X [] Jb:=fun _ _ σ H _ I h=>lQ ⟨σ,H,I,h⟩
theorem BD(h1:PS X st t)(h2:kS X rest u):kS X (st::rest) (Lh t u):=by
 intro pins s σ H D I h;refine wpAny_execs_cons (bq (h1 pins s σ H { D with nx:=u D } I h) fun f s1 q=>?_);cases f with
 |next=>
  obtain⟨σ',H',I',q⟩:=q;exact h2 pins s1 σ' H' D I' q
 |ret v=>exact q
 |brk=>exact q
 |cont=>exact q
theorem Ej(h1:PS X st t):kS X [st] t:=by
 intro pins s σ H D I h;refine wpAny_execs_cons (bq (h1 pins s σ H D I h) fun f s1 q=>?_);cases f with
 |next=>exact lQ q
 |ret v=>exact q
 |brk=>exact q
 |cont=>exact q
theorem Inv.quiet{pins:List (ε×aJ)}{σ:St}{H:Hp}{s:η}(I:Inv X pins σ H s):interactive X.env=false:=by simp[interactive,I.ok.kind]
def Jc(te:TE):TS:=fun D σ H=>te σ H fun _ H1=>D.nx σ H1
theorem El(he:PE X e te)(hs:swapsWith e none pos.line X.env=pure false:=by rfl):PS X (.Expr e pos) (Jc te):=by
 intro pins s σ H D I h;exact wpAny_Expr_any (bq (he pins s σ H _ I h) fun v s1 ⟨x,H1,I1,r1,q1⟩=>⟨σ,H1,I1,q1⟩) I.quiet hs
def Li(te:TE):TS:=fun D σ H=>te σ H D.rt
theorem Gn(he:PE X e te):PS X (.Return (some e) pos) (Li te):=by
 intro pins s σ H D I h;exact wpAny_Return_some (bq (he pins s σ H _ I h) fun v s1 ⟨x,H1,I1,r1,q1⟩=>⟨x,σ,H1,I1,r1,q1⟩)
def Ln(c:TT)(t u:TS):TS:=fun D σ H=>c σ H fun b H1=>if b=true then t D σ H1 else u D σ H1
theorem JC{c:ν}{a b:List aU}{tc:TT}(hc:PT X c tc)(ha:kS X a t)(hb:kS X b u):PS X (.If c a b pos) (Ln tc t u):=by
 intro pins s σ H D I h;refine wpAny_If (bq (hc pins s σ H _ I h) fun d s1 ⟨H1,I1,q1⟩=>?_);cases d with
 |true=>exact ha pins s1 σ H1 D I1 q1
 |false=>exact hb pins s1 σ H1 D I1 q1
def FA:TS:=fun _ _ _=>False
theorem BE:PS X st FA:=fun _ _ _ _ _ _ h=>h.elim
end
abbrev TG:=V->St->Hp->(St->Hp->Prop)->Prop
abbrev sg:=List V->St->Hp->(St->Hp->Prop)->Prop
def PG(X:Cx)(target:ν)(t:TG):Prop:=
 ∀(pins:List (ε×aJ)) (s:η) (σ:St) (H:Hp) (v:V) (u:δ) (Q:St->Hp->Prop),Inv X pins σ H s->RelV v u->t v σ H Q ->
  ρ (model X.prog X.w) X.A (assign target X.env u) (fun _ s'=>∃σ' H',Inv X pins σ' H' s'/\Q σ' H') X.xe s
def v9(X:Cx)(ts:List ν)(t:sg):Prop:=
 ∀(pins:List (ε×aJ)) (s:η) (σ:St) (H:Hp) (vs:List V) (us:List δ) (Q:St->Hp->Prop),Inv X pins σ H s->aH vs us->t vs σ H Q ->
  ρ (model X.prog X.w) X.A (assignInOrder ((assignEach ts X.env).map (·.2)) us) (fun _ s'=>∃σ' H',Inv X pins σ' H' s'/\Q σ' H') X.xe s
abbrev Cz:=V->V->V->Hp->(Hp->Prop)->Prop
def II(X:Cx)(t:Cz):Prop:=
 ∀(pins:List (ε×aJ)) (s:η) (σ:St) (H:Hp) (o i v:V) (ov iv u:δ) (Q:Hp->Prop),Inv X pins σ H s->RelV o ov->RelV i iv->RelV v u->t o i v H Q ->
  ρ (model X.prog X.w) X.A (setItem ov iv u) (fun _ s'=>∃H',Inv X pins σ H' s'/\Q H') X.xe s
section
variable {X:Cx} {pos:aE}
def Dq(i:Nat):TG:=fun v σ H Q=>Q (σ.set i (some v)) H
theorem Es{i:Nat}{x:π}(hN:X.N.Nodup)(hi:X.N[i]?=some x)(hx:Loc X.env.scope x)(hf:X.fn x=true∨X.env.scope.names.lookup x=some .local:=by first|exact .inl rfl|exact .inr rfl|assumption):PG X (.Name x pos) (Dq i):=by
 intro pins s σ H v u Q I r h;exact wpAny_assign_Name (uy I hN hi hx r (fun s' I'=>⟨_,H,I',h⟩) hf)
def LV:sg:=fun vs σ H Q=>vs=[]/\Q σ H
def Kr(t:TG)(u:sg):sg:=fun vs σ H Q=>∃v r,vs=v::r/\t v σ H fun σ' H'=>u r σ' H' Q
theorem Er:v9 X [] LV:=by
 intro pins s σ H vs us Q I r h;obtain⟨e,h⟩:=h;subst e;cases r;exact assignInOrder_nil ⟨σ,H,I,h⟩
theorem BG{e:ν}{es:List ν}{t:TG}{u:sg}(h1:PG X e t)(h2:v9 X es u)
  (hs:(assignEach (e::es) X.env).map (·.2)=assign e X.env::(assignEach es X.env).map (·.2):=by rfl):v9 X (e::es) (Kr t u):=by
 intro pins s σ H vs us Q I r h;obtain⟨v,vr,e1,h⟩:=h;subst e1;cases r with
 |cons r rr=>
  rw[hs];refine assignInOrder_cons (bq (h1 pins s σ H _ _ _ I r h) fun _ s1 ⟨σ1,H1,I1,q1⟩=>?_);exact h2 pins s1 σ1 H1 _ _ Q I1 rr q1
def LS(K:ζ)(n:Nat)(t:sg):TG:=fun v σ H Q=>∃a xs,v=.ref a/\cJ K H a xs/\xs.length=n/\t xs σ H Q
theorem Gu{es:List ν}{k:Nat}{t:sg}{n:Nat}(hc:X.calm=true)(h:v9 X es t)
  (hn:(assignEach es X.env).length=n:=by rfl) (hst:(assignEach es X.env).findIdx? (·.1)=none:=by rfl):PG X (.Tuple es k pos) (LS X.K n t):=by
 intro pins s σ H v u Q I r hw;obtain⟨a,xs,e1,hq,hl,hw⟩:=hw;subst e1;cases r;obtain⟨its,rv,ht,hz⟩:=I.tuple hq;refine assign_Tuple_tuple (I.ok.hd hc) ht (by simp[hn,←hl,rv.length]) hst fun h' hx=>?_;have I1:Inv X pins σ H { s with heap:=h' }:=I.kept (t':=s.toks) fun b o e=>hx b o (aO (Δ e)) e
 exact h pins _ σ H xs _ Q I1 (by simpa using rv) hw
def LU(to ti:TE)(t:Cz):TG:=fun v σ H Q=>to σ H fun o H1=>ti σ H1 fun i H2=>t o i v H2 fun H3=>Q σ H3
theorem Gv{o i:ν}{to ti:TE}{t:Cz}(ho:PE X o to)(hi:PE X i ti)(hs:II X t)
  (ha:∀v,assign (.Subscript o i pos) X.env v=(do
   let ov ←holding [v] (eval o X.env)
   let iv ←holding [v,ov] (eval i X.env)
   standAt pos
   holding [v,ov,iv] (setItem ov iv v)
   release [v,ov,iv] []):=by intro _;rfl):PG X (.Subscript o i pos) (LU to ti t):=by
 intro pins s σ H v u Q I r h
 rw[ha]
 refine γ (cb (bq (ho pins s σ H _ I h) fun ov s1 ⟨x,H1,I1,r1,q1⟩=>?_))
 refine γ (cb (bq (hi pins s1 σ H1 _ I1 q1) fun iv s2 ⟨y,H2,I2,r2,q2⟩=>?_))
 refine γ (wpAny_standAt (γ (cb (bq (hs pins s2 σ H2 x y v ov iv u _ I2 r1 r2 r q2) fun _ s3 ⟨H3,I3,q3⟩=>?_))))
 exact wpAny_release ⟨σ,H3,I3,q3⟩
def FC(te:TE)(g:TG):TS:=fun D σ H=>te σ H fun x H1=>g x σ H1 D.nx
theorem Gr{tg e:ν}{te:TE}{g:TG}(he:PE X e te)(hg:PG X tg g)(hs:swapsWithSole [tg] e pos.line X.env=pure false:=by rfl)(hw:swappedStores [tg] e X.env=pure none:=by rfl)
  (h1:(assignEach [tg] X.env).map (·.2)=[assign tg X.env]:=by rfl):PS X (.Assign [tg] e pos) (FC te g):=by
 intro pins s σ H D I h;refine wpAny_Assign_stores (bq (he pins s σ H _ I h) fun v s1 ⟨x,H1,I1,r1,q1⟩=>?_) hs hw;rw[h1];exact bq (hg pins s1 σ H1 x v _ I1 r1 q1) fun _ s2 q=>q
theorem Gm{i:Nat}{x:π}{e:ν}{te:TE}{pos':aE}(hN:X.N.Nodup)(hi:X.N[i]?=some x)(hx:Loc X.env.scope x)(he:PE X e te)(hs:swapsWith e (some (.Name x pos')) pos.line X.env=pure false:=by rfl)(hf:X.fn x=true∨X.env.scope.names.lookup x=some .local:=by first|exact .inl rfl|exact .inr rfl|assumption):
  PS X (.Assign [.Name x pos'] e pos) (FC te (Dq i)):=by
 intro pins s σ H D I h;refine wpAny_Assign_Name (bq (he pins s σ H _ I h) fun v s1 ⟨y,H1,I1,r1,q1⟩=>?_) hs;exact uy I1 hN hi hx r1 (fun s2 I2=>⟨_,H1,I2,q1⟩) hf
end
structure It where
 go:Nat->Hp->Prop
 zi:Nat->Hp->V->Hp->Prop
 stop:Nat->Hp->Prop
def gH(X:Cx)(pins:List (ε×aJ))(H:Hp)(b:ε):Prop:=
 H b=none/\b≠X.env.locals/\b∉X.fs/\(b∈X.ex∨X.s₀.heap.objs.size≤b)/\(∀x c,X.env.cells.lookup x=some c->c≠b)/\∀p∈X.pn++pins,p.1≠b
theorem Inv.pD{X:Cx}{pins:List (ε×aJ)}{σ:St}{H H':Hp}{s:η}{b:ε}(I:Inv X pins σ H s)(hb:s.heap.objs.size≤b)(hn:H' b=none):gH X pins H' b:=by
 refine⟨hn,gL (aP I.lt hb),I.LA hb,.inr (bc I.sz hb),fun x c e z=>?_,fun p hp z=>?_⟩
 ·obtain⟨v,q⟩:=I.cell x c e;exact absurd (aP q.lt (by rw[z];exact hb)) (bS _)
 ·exact absurd (aP (Δ (I.pin p hp).1) (by rw[z];exact hb)) (bS _)
structure Turn(P:ah)(w:ar)(K:ζ)(tg:ν)(J:It)(fp:List ε)(it:ε)(tn:Nat->ae->Prop):Prop where
 mem:it∈fp
 obj:∀i h,tn i h->∀b∈fp,∃o,h.get? b=some o/\∀v,o.data≠.cell v
 keep:∀i h h',tn i h->(∀b∈fp,∀o,h.get? b=some o->h'.get? b=some o)->tn i h'
 item:∀(X:Cx),X.prog=P->X.w=w->X.K=K->X.calm=true->∀(i:Nat) (pins:List (ε×aJ)) (s:η) (σ:St) (H:Hp) (E:δ->η->Prop),Inv X pins σ H s->(∀b∈fp,gH X pins H b)->tn i s.heap->J.go i H ->
  ρ (model P w) X.A (pyNext (.ref it)) (fun r s1=>∃u,r=some u ∧
   ρ (model P w) X.A (letOwnedTupleGo tg (.ref it) u) (fun _ s2=>∃x H',Inv X pins σ H' s2/\RelV x u/\J.zi i H x H'/\tn (i+1) s2.heap/\∀b∈fp,H' b=none) E s1) E s
 done:∀(X:Cx),X.prog=P->X.w=w->X.K=K->X.calm=true->∀(i:Nat) (pins:List (ε×aJ)) (s:η) (σ:St) (H:Hp) (E:δ->η->Prop),Inv X pins σ H s->(∀b∈fp,gH X pins H b)->tn i s.heap->J.stop i H ->
  ρ (model P w) X.A (pyNext (.ref it)) (fun r s1=>r=none/\Inv X pins σ H s1) E s
 self:∀(A:bo) (i:Nat) (s:η) (Q:δ->η->Prop) (E:δ->η->Prop),tn i s.heap->Q (.ref it) s->ρ (model P w) A (pyIter (.ref it)) Q E s
abbrev TI:=St->Hp->(It->Hp->Prop)->Prop
def Dw(X:Cx)(pins:List (ε×aJ))(σ:St)(tg:ν)(R:It->Hp->Prop)(itv:δ)(s2:η):Prop:=
 ∃(it:ε) (fp:List ε) (tn:Nat->ae->Prop) (J:It) (H':Hp),itv=.ref it/\Inv X pins σ H' s2/\Turn X.prog X.w X.K tg J fp it tn/\tn 0 s2.heap/\(∀b∈fp,gH X pins H' b)/\R J H'
def PI(X:Cx)(tg iter:ν)(wi:TI):Prop:=
 ∀(pins:List (ε×aJ)) (s:η) (σ:St) (H:Hp) (R:It->Hp->Prop),Inv X pins σ H s->wi σ H R ->
  ρ (model X.prog X.w) X.A (eval iter X.env) (fun v s1=>ρ (model X.prog X.w) X.A (pyIter v) (Dw X pins σ tg R) X.xe s1) X.xe s
theorem qf{M:Model}{A:bo}{E:δ->η->Prop}{s:η}{tg:ν}{it:ε}{u:δ}{o:aJ}{n:String}{vs:Array δ}{Q:Unit->η->Prop}(ho:s.heap.get? it=some o)(hc:o.cls=.type n)(hd:o.data=.fields vs)
    (hn:["enumerate","zip","dict_itemiterator","dict_reverseitemiterator","odict_iterator","itertools.zip_longest","itertools.pairwise"].contains n=false) (hQ:Q () s):ρ M A (letOwnedTupleGo tg (.ref it) u) Q E s:=by
  unfold letOwnedTupleGo;cases tg<;>first
    |exact μ hQ
    | (cases u<;>first
        |exact μ hQ
        | (refine γ (wpAny_load ho ?_)
           rw[hc,hd];show ρ M A (if (["enumerate","zip","dict_itemiterator","dict_reverseitemiterator","odict_iterator","itertools.zip_longest","itertools.pairwise"].contains n&&vs[0]?==some (rawInt _))=true then _ else _) Q E s;rw[if_neg (by intro h;rw[hn,cF] at h;cases h)];exact μ hQ))
def Lc(K:ζ)(a:ε):It:=
 ⟨fun i H=>∃xs x,du K H a xs/\xs[i]?=some x,fun i H x H'=>H'=H/\∀xs,du K H a xs->xs[i]?=some x,fun i H=>∃xs,du K H a xs/\xs.length≤i⟩
def La(K:ζ)(a:ε):It:=
 ⟨fun i H=>∃xs x,cJ K H a xs/\xs[i]?=some x,fun i H x H'=>H'=H/\∀xs,cJ K H a xs->xs[i]?=some x,fun i H=>∃xs,cJ K H a xs/\xs.length≤i⟩
def Dy(lo:Int)(n:Nat):It:=⟨fun i _=>i<n,fun i H x H'=>H'=H/\x=.int (lo+i),fun i _=>n≤i⟩
theorem zo{P:ah}{w:ar}{K:ζ}{tg:ν}(a it:ε):Turn P w K tg (Lc K a) [it] it (fun i h=>h.IsListIter it a i) where
 mem:=by simp
 obj:=fun i h st b hb=>by
  have e:b=it:=by simpa using hb
  subst e;obtain⟨o,e,c,d⟩:=st;exact⟨o,e,fun v z=>by rw[d] at z;cases z⟩
 keep:=fun i h h' st k=>st.at fun o e=>k it (by simp) o e
 item:=by
  intro X hP hw hK hc i pins s σ H E I hf st hg;subst hP hw hK;obtain⟨xs,x,hq,hx⟩:=hg;obtain⟨its,rv,p,hz⟩:=I.list hq;obtain⟨u,hu,ru⟩:=rv.get hx;obtain⟨f0,f1,f2,f3,f4,f5⟩:=hf it (by simp);refine wpAny_pyNext_list_item st p.isList (x:=u) (by simpa using hu) fun h' st' sb=>?_;have I1:Inv X pins σ H { s with heap:=h' }:=I.turned (t':=s.toks) (fun b o hb e=>(sb.2 b hb).trans e) f0 f1 f3 f4 f5;obtain⟨o,e,c,d⟩:=id st';exact⟨u,rfl,qf (s:={ s with heap:=h' }) e c d (by decide) ⟨x,H,I1,ru,⟨rfl,fun ys hy=>by rw[I.vm hy hq];exact hx⟩,st',fun b hb=>(hf b hb).1⟩⟩
 done:=by
  intro X hP hw hK hc i pins s σ H E I hf st hg;subst hP hw hK;obtain⟨xs,hq,hx⟩:=hg;obtain⟨its,rv,p,hz⟩:=I.list hq;obtain⟨f0,f1,f2,f3,f4,f5⟩:=hf it (by simp);have hl:=rv.length;exact wpAny_pyNext_list_end (I.ok.hd hc) st p.isList (by simp;lia) fun h' eb=>⟨rfl,I.turned (t':=s.toks) (fun b o hb e=>eb b o hb e) f0 f1 f3 f4 f5⟩
 self:=fun _ _ _ _ _ st h=>wpAny_pyIter_listiter st h
theorem xF{P:ah}{w:ar}{K:ζ}{tg:ν}(a it:ε):Turn P w K tg (La K a) [it] it (fun i h=>h.IsTupleIter it a i) where
 mem:=by simp
 obj:=fun i h st b hb=>by
  have e:b=it:=by simpa using hb
  subst e;obtain⟨o,e,c,d⟩:=st;exact⟨o,e,fun v z=>by rw[d] at z;cases z⟩
 keep:=fun i h h' st k=>st.at fun o e=>k it (by simp) o e
 item:=by
  intro X hP hw hK hc i pins s σ H E I hf st hg;subst hP hw hK;obtain⟨xs,x,hq,hx⟩:=hg;obtain⟨its,rv,p,hz⟩:=I.tuple hq;obtain⟨u,hu,ru⟩:=rv.get hx;obtain⟨f0,f1,f2,f3,f4,f5⟩:=hf it (by simp);refine wpAny_pyNext_tuple_item st (show s.heap.IsTuple a its.toArray from p) (x:=u) (by simpa using hu) fun h' st' sb=>?_;have I1:Inv X pins σ H { s with heap:=h' }:=I.turned (t':=s.toks) (fun b o hb e=>(sb.2 b hb).trans e) f0 f1 f3 f4 f5;obtain⟨o,e,c,d⟩:=id st';exact⟨u,rfl,qf (s:={ s with heap:=h' }) e c d (by decide) ⟨x,H,I1,ru,⟨rfl,fun ys hy=>by rw[I.tv hy hq];exact hx⟩,st',fun b hb=>(hf b hb).1⟩⟩
 done:=by
  intro X hP hw hK hc i pins s σ H E I hf st hg;subst hP hw hK;obtain⟨xs,hq,hx⟩:=hg;obtain⟨its,rv,p,hz⟩:=I.tuple hq;obtain⟨f0,f1,f2,f3,f4,f5⟩:=hf it (by simp);have hl:=rv.length;exact wpAny_pyNext_tuple_end (I.ok.hd hc) st (show s.heap.IsTuple a its.toArray from p) (by simp;lia) fun h' eb=>⟨rfl,I.turned (t':=s.toks) (fun b o hb e=>eb b o hb e) f0 f1 f3 f4 f5⟩
 self:=fun _ _ _ _ _ st h=>wpAny_pyIter_tupleiter st h
theorem xG{P:ah}{w:ar}{K:ζ}{tg:ν}(it:ε)(lo:Int)(n:Nat):Turn P w K tg (Dy lo n) [it] it (fun i h=>mn h it (lo+(i:Nat)*1) ((n:Int)-(i:Nat)) 1) where
 mem:=by simp
 obj:=fun i h st b hb=>by
  have e:b=it:=by simpa using hb
  subst e;exact⟨_,st,fun v z=>by
   have z':jQ _=iN v:=z;cases z'⟩
 keep:=fun i h h' st k=>k it (by simp) _ st
 item:=by
  intro X hP hw hK hc i pins s σ H E I hf st hg;subst hP hw hK;obtain⟨f0,f1,f2,f3,f4,f5⟩:=hf it (by simp);have W:=Walks.range (prog:=X.prog) (w:=X.w) (I.ok.hd hc) it lo 1 n;refine W.item i s _ _ hg st fun v h' tk hv st' kk=>?_;obtain⟨t,rfl⟩:=hv;have I1:Inv X pins σ H { s with heap:=h',toks:=tk }:=I.turned (fun b o hb e=>kk b o (by simpa using hb) e) f0 f1 f3 f4 f5;refine⟨_,rfl,qf (s:={ s with heap:=h',toks:=tk }) (n:="range_iterator") st' rfl rfl (by decide) ⟨.int (lo+i),H,I1,⟨t,?_⟩,⟨rfl,rfl⟩,st',fun b hb=>(hf b hb).1⟩⟩;rw[Int.mul_one]
 done:=by
  intro X hP hw hK hc i pins s σ H E I hf st hg;subst hP hw hK;obtain⟨f0,f1,f2,f3,f4,f5⟩:=hf it (by simp);exact wpAny_pyNext_range_end (I.ok.hd hc) st (by have:n≤i:=hg;lia) fun h' eb=>⟨rfl,I.turned (t':=s.toks) (fun b o hb e=>eb b o hb e) f0 f1 f3 f4 f5⟩
 self:=fun _ _ _ _ _ st h=>wpAny_pyIter_rangeiter st h
end L2
namespace L2
open PySem PySem.Spec PyProof.Rows
section
variable {X:Cx} {tg:ν}
theorem Bw{pins:List (ε×aJ)}{σ:St}{H:Hp}{s:η}{R:It->Hp->Prop}{E:δ->η->Prop}{lo hi:Int}{t u v:gv}{tk:Nat}(I:Inv X pins σ H s)(h1:-(2^62)≤lo)(h2:lo<2^62)(h3:-(2^62)≤hi)(h4:hi<2^62)
  (q:R (Dy lo (hi-lo).toNat) H):ρ (model X.prog X.w) X.A (pyIter (.ref s.heap.objs.size)) (Dw X pins σ tg R) E { s with heap:=s.heap.push { cls:=.type "range",data:=.fields #[.int lo t,.int hi u,.int 1 v]},toks:=tk }:=by
 refine wpAny_pyIter_range (qF ..) (small_one h1 h2 h3 h4) ?_;have I1:Inv X pins σ H { s with heap:=s.heap.push { cls:=.type "range",data:=.fields #[.int lo t,.int hi u,.int 1 v]},toks:=tk }:=I.kept fun b o e=>θ _ e;refine⟨(s.heap.push { cls:=.type "range",data:=.fields #[.int lo t,.int hi u,.int 1 v]}).objs.size,[(s.heap.push { cls:=.type "range",data:=.fields #[.int lo t,.int hi u,.int 1 v]}).objs.size],_,_,H,rfl,
  I1.kept (t':=tk) fun b o e=>θ _ e,xG _ lo (hi-lo).toNat,?_,fun b hb=>?_,q⟩
 ·have e1:lo+((0:Nat):Int)*1=lo:=by simp
  have e2:(((hi-lo).toNat:Nat):Int)-((0:Nat):Int)=dr lo hi 1:=by rw[rangeSize_one];split<;>lia
  show mn _ _ (lo+((0:Nat):Int)*1) ((((hi-lo).toNat:Nat):Int)-((0:Nat):Int)) 1;rw[e1,e2];exact Ξ _ rfl
 ·have e:b=(s.heap.push { cls:=.type "range",data:=.fields #[.int lo t,.int hi u,.int 1 v]}).objs.size:=by simpa using hb
  subst e;exact I1.pD (Γ _) (I1.bD.fresh (Γ _))
def nA(ta:TA):TI:=fun σ H R=>ta σ H fun vs H1=>∃j:Int,vs=[.int j]/\-(2^62)≤j/\j<2^62/\R (Dy 0 j.toNat) H1
theorem Ad{a:ν}{ta:TA}{p pos:aE}(hg:Gl X "range")(hm:X.mg "range" = none)(ha:PA X [a] ta)(hs:ba [a] X.env=[(false,eval a X.env)]:=by rfl):PI X tg (.Call (.Name "range" p) [a] [] pos) (nA ta):=by
 intro pins s σ H R I h;refine Call_ (kO I hg hm boot_range (cK (bq (ha pos pins s σ H _ I h) fun us s1 ⟨vs,H1,I1,r1,q1⟩=>?_) hs rfl));obtain⟨j,e,q1,q2,q⟩:=q1;subst e;cases r1 with
 |cons r rr=>
  cases rr;obtain⟨t,rfl⟩:=r;exact call_range_1 (Bw I1 (by lia) (by lia) q1 q2 (by simpa using q))
def Lo(wi:TI)(g:TG)(tb:TS):TS:=fun D σ H=>wi σ H fun J H1=>∃W:Nat->Nat->St->Hp->Prop,(∃m,W 0 m σ H1)/\∀i m σ H,W i m σ H ->
 (J.stop i H/\D.nx σ H)∨(J.go i H/\∃N:St->Hp->Prop,(∀σ' H',N σ' H'->∃m',m' < m/\W (i+1) m' σ' H')/\∀x H',J.zi i H x H'->g x σ H' fun σ2 H2=>tb { D with nx:=N,ct:=N,bk:=D.nx } σ2 H2)
def pd(fp:List ε)(h:ae):List (ε×aJ):=fp.filterMap fun b=>(h.get? b).map fun o=>(b,o)
theorem kr{fp:List ε}{h:ae}{b:ε}{o:aJ}(hb:b∈fp)(e:h.get? b=some o):(b,o)∈pd fp h:=j4.mpr ⟨b,hb,by rw[e];rfl⟩
theorem Am{fp:List ε}{h:ae}{p:ε×aJ}(hp:p∈pd fp h):p.1∈fp/\h.get? p.1=some p.2:=by
 obtain⟨b,hb,e⟩:=j4.mp hp;cases q:h.get? b with
 |none=>rw[q] at e;cases e
 |some o=>
  rw[q] at e;have e':(b,o)=p:=ai e;subst e';exact⟨hb,q⟩
theorem Inv.pinned{pins:List (ε×aJ)}{σ:St}{H:Hp}{s:η}{fp:List ε}(I:Inv X pins σ H s)(hf:∀b∈fp,gH X pins H b)(ho:∀b∈fp,∃o,s.heap.get? b=some o/\∀v,o.data≠.cell v):Inv X (pins++pd fp s.heap) σ H s:=
 I.wX fun p hp=>(cL.mp hp).elim (fun z=>I.pin p (aC _ z)) fun z=>by
  obtain⟨hb,e⟩:=Am z;obtain⟨f0,f1,f2,_⟩:=hf p.1 hb;obtain⟨o,e',d⟩:=ho p.1 hb;rw[e] at e';cases e';exact⟨e,f0,f1,f2,d⟩
theorem Inv.mZ{pins pl:List (ε×aJ)}{σ:St}{H:Hp}{s:η}(I:Inv X (pins++pl) σ H s):Inv X pins σ H s:=I.wX fun p hp=>I.pin p (aC _ (fY _ hp))
theorem Gq{iter:ν}{body:List aU}{wi:TI}{g:TG}{tb:TS}{pos:aE}(hp:PassesOwn (model X.prog X.w) X.A X.env X.xe)(hc:X.calm=true)(hi:PI X tg iter wi)(hg:PG X tg g)(hb:kS X body tb)
  (hs:∀x,foldedSetIterable iter X.env x=pure x:=by intro _;rfl):PS X (.For tg iter body [] pos) (Lo wi g tb):=by
 intro pins s σ H D I h;refine wpAny_For (bq (hi pins s σ H _ I h) fun v s1 h1=>bq h1 fun itv s2 h2=>?_) hs;obtain⟨it,fp,tn,J,H2,e,I2,T,st2,f2,W,⟨m0,w0⟩,turn⟩:=h2;subst e
 -- what stays true of the iterator's objects through the loop
 have stat:∀{H':Hp},(∀b∈fp,H' b=none)->∀b∈fp,gH X pins H' b:=fun hn b hb=>⟨hn b hb,(f2 b hb).2⟩;refine codeAny_forLoop_any (fun n s'=>∃i σ' H',Inv X pins σ' H' s'/\tn i s'.heap/\(∀b∈fp,H' b=none)/\W i n σ' H') ?_ m0 ⟨0,σ,H2,I2,st2,fun b hb=>(f2 b hb).1,w0⟩;rintro n s3 ⟨i,σ3,H3,I3,st3,fr3,w3⟩;rcases turn i n σ3 H3 w3 with⟨stop,qn⟩|⟨go,N,hN,step⟩
 ·refine gu hp (bq (T.done X rfl rfl rfl hc i pins s3 σ3 H3 X.xe I3 (stat fr3) st3 stop) fun r s4 ⟨hr,I4⟩=>?_);subst hr;exact lQ ⟨σ3,H3,I4,qn⟩
 ·refine gu hp (bq (T.item X rfl rfl rfl hc i pins s3 σ3 H3 X.xe I3 (stat fr3) st3 go) fun r s4 ⟨u,hr,h4⟩=>?_);subst hr;refine gu hp (bq h4 fun _ s5 ⟨x,H5,I5,r5,y5,st5,fr5⟩=>?_);have I5':=I5.pinned (stat fr5) (T.obj _ _ st5);refine gu hp (bq (hg _ s5 σ3 H5 x u _ I5' r5 (step x H5 y5)) fun _ s6 ⟨σ6,H6,I6,q6⟩=>?_);refine gu hp (bq (hb _ s6 σ6 H6 _ I6 q6) fun f s7 q7=>?_);have again:∀{σ7:St} {H7:Hp},Inv X (pins++pd fp s5.heap) σ7 H7 s7->N σ7 H7->∃m,m<n/\∃i σ' H',Inv X pins σ' H' s7/\tn i s7.heap/\(∀b∈fp,H' b=none)/\W i m σ' H':=fun {σ7 H7} I7 n7=>by
   obtain⟨m',hm,w7⟩:=hN σ7 H7 n7;refine⟨m',hm,i+1,σ7,H7,I7.mZ,T.keep _ _ _ st5 fun b hb o e=>(I7.pin (b,o) (aC _ (aC _ (kr hb e)))).1,fun b hb=>?_,w7⟩;obtain⟨o,e,d⟩:=T.obj _ _ st5 b hb;exact (I7.pin (b,o) (aC _ (aC _ (kr hb e)))).2.1
  cases f with
  |next=>obtain⟨σ7,H7,I7,n7⟩:=q7;exact again I7 n7
  |cont=>obtain⟨σ7,H7,I7,n7⟩:=q7;exact again I7 n7
  |brk=>obtain⟨σ7,H7,I7,q7⟩:=q7;exact⟨σ7,H7,I7.mZ,q7⟩
  |ret v=>obtain⟨x7,σ7,H7,I7,r7,q7⟩:=q7;exact⟨x7,σ7,H7,I7.mZ,r7,q7⟩
end
end L2
namespace L2
open PySem PySem.Spec PyProof.Rows
abbrev R2:=V->V->Hp->VK->Prop
def cy(X:Cx)(f:δ->δ->Sem δ)(r:R2):Prop:=
 ∀(pins:List (ε×aJ)) (s:η) (σ:St) (H:Hp) (x y:V) (v u:δ) (Q:VK),Inv X pins σ H s->RelV x v->RelV y u->r x y H Q ->
  ρ (model X.prog X.w) X.A (f v u) (EP X pins σ Q) X.xe s
def IF(X:Cx)(f:δ->Sem δ)(r:V->Hp->VK->Prop):Prop:=
 ∀(pins:List (ε×aJ)) (s:η) (σ:St) (H:Hp) (x:V) (v:δ) (Q:VK),Inv X pins σ H s->RelV x v->r x H Q ->
  ρ (model X.prog X.w) X.A (f v) (EP X pins σ Q) X.xe s
def gs(X:Cx)(f:δ)(r:List V->Hp->VK->Prop):Prop:=
 ∀(pins:List (ε×aJ)) (s:η) (σ:St) (H:Hp) (xs:List V) (us:List δ) (Q:VK),Inv X pins σ H s->aH xs us->r xs H Q ->
  ρ (model X.prog X.w) X.A (call f us) (EP X pins σ Q) X.xe s
def Mg(X:Cx)(r:V->Hp->(Bool->Hp->Prop)->Prop):Prop:=
 ∀(pins:List (ε×aJ)) (s:η) (σ:St) (H:Hp) (x:V) (v:δ) (Q:Bool->Hp->Prop),Inv X pins σ H s->RelV x v->r x H Q ->
  ρ (model X.prog X.w) X.A (truthy v) (TP X pins σ Q) X.xe s
def zD(r:R2)(ta tb:TE):TE:=fun σ H Q=>ta σ H fun x H1=>tb σ H1 fun y H2=>r x y H2 Q
def Mi(r:V->Hp->VK->Prop)(ta:TE):TE:=fun σ H Q=>ta σ H fun x H1=>r x H1 Q
def rI(C:Int->Int->Prop)(g:Int->Int->V):R2:=fun x y H Q=>∃i j,x=.int i/\y=.int j/\C i j/\Q (g i j) H
def kK(g:Int->Int->V):R2:=fun x y H Q=>∃i j,x=.int i/\y=.int j/\Q (g i j) H
def rU(g:Int->V):V->Hp->VK->Prop:=fun x H Q=>∃i,x=.int i/\Q (g i) H
section
variable {X:Cx} {a b c:ν} {ta tb tc:TE} {pos:aE}
theorem Cy(ha:PE X a ta)(hb:PE X b tb){pins:List (ε×aJ)}{s:η}{σ:St}{H:Hp}{R:V->V->Hp->Prop}(I:Inv X pins σ H s)
  (h:ta σ H fun x H1=>tb σ H1 fun y H2=>R x y H2) {Q:δ->η->Prop} {f:δ->δ->Sem δ}
  (hf:∀v u s2 x y H2,Inv X pins σ H2 s2->RelV x v->RelV y u->R x y H2->ρ (model X.prog X.w) X.A (f v u) Q X.xe s2):
  ρ (model X.prog X.w) X.A (eval a X.env) (fun v s₁=>ρ (model X.prog X.w) X.A (eval b X.env) (fun u s₂=>ρ (model X.prog X.w) X.A (f v u) Q X.xe s₂) X.xe s₁) X.xe s:=by
 refine bq (ha pins s σ H _ I h) fun v s1 ⟨x,H1,I1,r1,q1⟩=>?_;refine bq (hb pins s1 σ H1 _ I1 q1) fun u s2 ⟨y,H2,I2,r2,q2⟩=>?_;exact hf v u s2 x y H2 I2 r1 r2 q2
theorem JF{op:Operator}{r:R2}(ho:cy X (binaryOp op) r)(ha:PE X a ta)(hb:PE X b tb):PE X (.BinOp a op b pos) (zD r ta tb):=by
 intro pins s σ H Q I h;exact wpAny_BinOp (Cy ha hb I h fun v u s2 x y H2 I2 rx ry q=>ho pins s2 σ H2 x y v u Q I2 rx ry q)
theorem JD{op:UnaryOp}{r:V->Hp->VK->Prop}(ho:IF X (unaryOp op) r)(ha:PE X a ta):PE X (.UnaryOp op a pos) (Mi r ta):=by
 intro pins s σ H Q I h;exact UnaryOp_ (bq (ha pins s σ H _ I h) fun v s1 ⟨x,H1,I1,r1,q1⟩=>ho pins s1 σ H1 x v Q I1 r1 q1)
theorem C9{f:δ->δ->Sem δ}{C:Int->Int->Prop}{g:Int->Int->Int}
  (rule:∀(i j:Int) (t u:gv) (s:η) (Q:δ->η->Prop) (E:δ->η->Prop),C i j->Q (.int (g i j) s.toks) { s with toks:=s.toks+1 }->ρ (model X.prog X.w) X.A (f (.int i t) (.int j u)) Q E s):
  cy X f (rI C fun i j=>.int (g i j)):=by
 intro pins s σ H x y v u Q I rx ry h;obtain⟨i,j,rfl,rfl,hc,q⟩:=h;obtain⟨t,rfl⟩:=rx;obtain⟨t',rfl⟩:=ry;exact rule i j t t' s _ _ hc ⟨.int (g i j),H,I.tok _,⟨_,rfl⟩,q⟩
theorem GL{f:δ->δ->Sem δ}{g:Int->Int->Int}
  (rule:∀(i j:Int) (t u:gv) (s:η) (Q:δ->η->Prop) (E:δ->η->Prop),Q (.int (g i j) s.toks) { s with toks:=s.toks+1 }->ρ (model X.prog X.w) X.A (f (.int i t) (.int j u)) Q E s):
  cy X f (kK fun i j=>.int (g i j)):=by
 intro pins s σ H x y v u Q I rx ry h;obtain⟨i,j,rfl,rfl,q⟩:=h;obtain⟨t,rfl⟩:=rx;obtain⟨t',rfl⟩:=ry;exact rule i j t t' s _ _ ⟨.int (g i j),H,I.tok _,⟨_,rfl⟩,q⟩
theorem yl{f:δ->δ->Sem δ}{g:Int->Int->Bool}
  (rule:∀(i j:Int) (t u:gv) (s:η) (Q:δ->η->Prop) (E:δ->η->Prop),Q (.bool (g i j)) s->ρ (model X.prog X.w) X.A (f (.int i t) (.int j u)) Q E s):
  cy X f (kK fun i j=>.bl (g i j)):=by
 intro pins s σ H x y v u Q I rx ry h;obtain⟨i,j,rfl,rfl,q⟩:=h;obtain⟨t,rfl⟩:=rx;obtain⟨t',rfl⟩:=ry;exact rule i j t t' s _ _ ⟨.bl (g i j),H,I,rfl,q⟩
def CC(i j:Int):Prop:=0≤j/\j≤1000000/\i.natAbs<2^64
theorem GK:cy X (binaryOp .Add) (kK fun i j=>.int (i+j)):=GL fun _ _ _ _ _ _ _ q=>add_int q
theorem Ai:cy X (binaryOp .Sub) (kK fun i j=>.int (i-j)):=GL fun _ _ _ _ _ _ _ q=>sub_int q
theorem pf:cy X (binaryOp .Mod) (rI (fun _ j=>0<j) fun i j=>.int (i%j)):=C9 fun i j _ _ _ _ _ hc q=>by
 have h1:(0:Int)<j:=hc;exact mod_int' (by lia) (by rw[Int.fmod_eq_emod_of_nonneg i (by lia)];exact q)
theorem GH:cy X (binaryOp .Pow) (rI CC fun i j=>.int (i^j.toNat)):=C9 fun _ _ _ _ _ _ _ hc q=>pow_int_small hc.1 hc.2.1 hc.2.2 q
theorem Mh{f:δ->Sem δ}{g:Int->Int}
  (rule:∀(i:Int) (t:gv) (s:η) (Q:δ->η->Prop) (E:δ->η->Prop),Q (.int (g i) s.toks) { s with toks:=s.toks+1 }->ρ (model X.prog X.w) X.A (f (.int i t)) Q E s):
  IF X f (rU fun i=>.int (g i)):=by
 intro pins s σ H x v Q I rx h;obtain⟨i,rfl,q⟩:=h;obtain⟨t,rfl⟩:=rx;exact rule i t s _ _ ⟨.int (g i),H,I.tok _,⟨_,rfl⟩,q⟩
theorem Ft:IF X (unaryOp .USub) (rU fun i=>.int (-i)):=Mh fun _ _ _ _ _ q=>neg_int q
end
section
variable {X:Cx} {a b c:ν} {ta tb tc:TE} {pos:aE}
theorem Ie{pins:List (ε×aJ)}{σ:St}{H:Hp}{s:η}{Q:VK}{k k':Bool}(I:Inv X pins σ H s)(q:Q (.bl k) H)(e:k=k'):EP X pins σ Q (.bool k') s:=by
 subst e;exact⟨.bl k,H,I,rfl,q⟩
theorem JJ:cy X (compareOp .Lt) (kK fun i j=>.bl (decide (i<j))):=yl fun _ _ _ _ _ _ _ q=>lt_int q
theorem rN:cy X (compareOp .LtE) (kK fun i j=>.bl (decide (i≤j))):=yl fun _ _ _ _ _ _ _ q=>le_int q
theorem C8:cy X (compareOp .Gt) (kK fun i j=>.bl (decide (j<i))):=yl fun _ _ _ _ _ _ _ q=>gt_int q
theorem JK:cy X (compareOp .GtE) (kK fun i j=>.bl (decide (j≤i))):=yl fun _ _ _ _ _ _ _ q=>ge_int q
theorem Aj:cy X (compareOp .In) (fun x y H Q=>∃i j,x=.str i/\y=.str j/\Q (.bl (!(bF j i 0 j.length 1).isEmpty)) H):=by
 intro pins s σ H x y v u Q I rx ry h;obtain⟨i,j,rfl,rfl,q⟩:=h;obtain⟨t,rfl⟩:=rx;obtain⟨t',rfl⟩:=ry;exact in_str (Ie I q rfl)
theorem cy.or{f:δ->δ->Sem δ}{r r':R2}(h:cy X f r)(h':cy X f r'):cy X f (fun x y H Q=>r x y H Q∨r' x y H Q):=by
 intro pins s σ H x y v u Q I rx ry q;rcases q with q|q
 ·exact h pins s σ H x y v u Q I rx ry q
 ·exact h' pins s σ H x y v u Q I rx ry q
theorem cS(b:ν){op:iw}(h:op≠.In:=by decide)(h2:op≠.NotIn:=by decide):behindInMarks op b=false:=by
 have e1:(op==iw.In)=false:=by cases op<;>first|rfl|exact absurd rfl h
 have e2:(op==iw.NotIn)=false:=by cases op<;>first|rfl|exact absurd rfl h2
 cases b<;>simp[behindInMarks,e1,e2]
theorem Ew{op:iw}{r:R2}(ho:cy X (compareOp op) r)(ha:PE X a ta)(hb:PE X b tb)(hm:behindInMarks op b=false):PE X (.Compare a [op] [b] pos) (zD r ta tb):=by
 intro pins s σ H Q I h;exact wpAny_Compare1 (Cy ha hb I h fun v u s2 x y H2 I2 rx ry q=>ho pins s2 σ H2 x y v u Q I2 rx ry q) hm
def uc(t:TE):TT:=fun σ H Q=>t σ H fun x H'=>∃k,x=.bl k/\Q k H'
theorem Ei{op:iw}{r:R2}(ho:cy X (compareOp op) r)(ha:PE X a ta)(hb:PE X b tb)(hm:behindInMarks op b=false):PT X (.Compare a [op] [b] pos) (uc (zD r ta tb)):=by
 intro pins s σ H Q I h;refine wpAny_isTrue_Compare1 (bq (ha pins s σ H _ I h) fun v s1 ⟨x,H1,I1,r1,q1⟩=>bq (hb pins s1 σ H1 _ I1 q1) fun u s2 ⟨y,H2,I2,r2,q2⟩=>
  bq (ho pins s2 σ H2 x y v u _ I2 r1 r2 q2) fun c s3 ⟨z,H3,I3,r3,k,e,q3⟩=>?_) hm
 subst e;cases r3;exact cu ⟨H3,I3,q3⟩
def oM(r r':R2)(ta tb tc:TE):TE:=fun σ H Q=>ta σ H fun x H1=>tb σ H1 fun y H2=>r x y H2 fun z H3=>∃k,z=.bl k ∧
 (if k=true then tc σ H3 fun w' H4=>r' y w' H4 Q else Q (.bl false) H3)
theorem BI{op op':iw}{r r':R2}(ho:cy X (compareOp op) r)(ho':cy X (compareOp op') r')(ha:PE X a ta)(hb:PE X b tb)(hc:PE X c tc)
  (hm:lastMarks [op,op'] [b,c]=false:=by with_unfolding_all rfl):PE X (.Compare a [op,op'] [b,c] pos) (oM r r' ta tb tc):=by
 intro pins s σ H Q I h;refine Compare_chain (bq (ha pins s σ H _ I h) fun v s1 ⟨x,H1,I1,r1,q1⟩=>chain_link (bq (hb pins s1 σ H1 _ I1 q1) fun u s2 ⟨y,H2,I2,r2,q2⟩=>
  bq (ho pins s2 σ H2 x y v u _ I2 r1 r2 q2) fun d s3 ⟨z,H3,I3,r3,k,e,q3⟩=>?_)) hm
 subst e;cases r3;refine cu ?_;cases k with
 |false=>exact ite_ff ⟨.bl false,H3,I3,rfl,q3⟩
 |true=>exact ite_tt (chain_last (bq (hc pins s3 σ H3 _ I3 q3) fun w' s4 ⟨z',H4,I4,r4,q4⟩=>ho' pins s4 σ H4 y z' u w' Q I4 r2 r4 q4))
theorem BC{op op':iw}{r r':R2}(ho:cy X (compareOp op) r)(ho':cy X (compareOp op') r')(ha:PE X a ta)(hb:PE X b tb)(hc:PE X c tc)
  (hm:lastMarks [op,op'] [b,c]=false:=by with_unfolding_all rfl):PT X (.Compare a [op,op'] [b,c] pos) (uc (oM r r' ta tb tc)):=by
 intro pins s σ H Q I h;refine isTrue_chain (bq (ha pins s σ H _ I h) fun v s1 ⟨x,H1,I1,r1,q1⟩=>test_link (bq (hb pins s1 σ H1 _ I1 q1) fun u s2 ⟨y,H2,I2,r2,q2⟩=>
  bq (ho pins s2 σ H2 x y v u _ I2 r1 r2 q2) fun d s3 ⟨z,H3,I3,r3,k,e,q3⟩=>?_)) hm
 subst e;cases r3;refine cu ?_;cases k with
 |false=>
  obtain⟨k',e',q'⟩:=q3;cases e';exact ite_ff ⟨H3,I3,q'⟩
 |true=>
  refine ite_tt (test_last (bq (hc pins s3 σ H3 _ I3 q3) fun w' s4 ⟨z',H4,I4,r4,q4⟩=>bq (ho' pins s4 σ H4 y z' u w' _ I4 r2 r4 q4) fun d' s5 ⟨z2,H5,I5,r5,k2,e2,q5⟩=>?_));subst e2;cases r5;exact cu ⟨H5,I5,q5⟩
def IG(K:ζ)(x:V)(H:Hp)(k:Bool):Prop:=
 match x with
 |.ao=>k=false
 |.bl b=>k=b
 |.int i=>k=(i != 0)
 |.str y=>y.length≤Φ/\k=((y.length:Int) != 0)
 |.AW y=>y.size≤Φ/\k=((y.size:Int) != 0)
 |.ref p=>(∃xs,du K H p xs/\k = !xs.isEmpty)∨(∃xs,cJ K H p xs/\k = !xs.isEmpty)∨∃kvs,H p=some (.dK kvs)/\k = !kvs.isEmpty
 |_=>False
theorem yw{κ:Type}{kvs:List (κ×V)}{vs:List (κ×δ)}(r:KV kvs vs):(!vs.isEmpty) = !kvs.isEmpty:=by
 cases r<;>rfl
theorem rW{xs:List V}{its:List δ}(r:aH xs its):(!its.toArray.isEmpty) = !xs.isEmpty:=by
 cases r<;>simp
theorem kN:(Φ:Nat)<2^63:=by rw[cg];decide
theorem Fy:Mg X (fun x H Q=>∃k,IG X.K x H k/\Q k H):=by
 intro pins s σ H x v Q I rx h;obtain⟨k,e,q⟩:=h;have hl:=kN;have hs:Φ=16777216:=cg;cases x with
 |ao=>
  cases rx;have e':k=false:=e;subst e';exact truthy_none ⟨H,I,q⟩
 |bl b=>
  cases rx;have e':k=b:=e;subst e';exact cu ⟨H,I,q⟩
 |int i=>
  obtain⟨t,rfl⟩:=rx;have e':k=(i != 0):=e;subst e';exact PySem.P.truthy_int ⟨H,I,q⟩
 |str y=>
  obtain⟨t,rfl⟩:=rx;obtain⟨hy,e'⟩:y.length≤Φ/\k=((y.length:Int) != 0):=e;subst e';exact PySem.P.truthy_str (by lia) ⟨H,I.tok _,q⟩
 |AW y=>
  obtain⟨t,rfl⟩:=rx;obtain⟨hy,e'⟩:y.size≤Φ/\k=((y.size:Int) != 0):=e;subst e';exact PySem.W.truthy_bytes (by lia) ⟨H,I.tok _,q⟩
 |ref p=>
  cases rx;have e':(∃xs,du X.K H p xs/\k = !xs.isEmpty)∨(∃xs,cJ X.K H p xs/\k = !xs.isEmpty)∨∃kvs,H p=some (.dK kvs)/\k = !kvs.isEmpty:=e;rcases e' with⟨xs,hx,e'⟩|⟨xs,hx,e'⟩|⟨kvs,hx,e'⟩
  ·subst e';obtain⟨its,r,pl,hz⟩:=I.list hx;have hlen:=r.length;exact wpAny_truthy_list pl.isList (by simp only[χ];lia) ⟨H,I.tok _,by rw[rW r];exact q⟩
  ·subst e';obtain⟨its,r,pl,hz⟩:=I.tuple hx;have hlen:=r.length;exact truthy_tuple pl (by simp only[χ];lia) ⟨H,I.tok _,by rw[rW r];exact q⟩
  ·subst e';obtain⟨hz,hS,vs,r,m⟩:kvs.length≤Φ/\(p==sysModules)=false/\∃vs,KV kvs vs/\s.heap.DictOf (sL X.prog X.w) p vs:=I.bD p _ hx;have hlen:kvs.length=vs.length:=Paired.length r;exact wpAny_truthy_dict hS m (by lia) ⟨H,I.tok _,by rw[yw r];exact q⟩
 |_=>exact (show False from e).elim
theorem BB(ha:PE X a ta)(he:∀whole,isTrue a X.env whole=(do let v ←whole;standAt a.pos;holding [v] (truthy v))):
  PT X a (fun σ H Q=>ta σ H fun x H'=>∃k,IG X.K x H' k/\Q k H'):=by
 intro pins s σ H Q I h;exact isTrue_plain (bq (ha pins s σ H _ I h) fun v s1 ⟨x,H1,I1,r1,q1⟩=>Fy pins s1 σ H1 x v Q I1 r1 q1) (he _)
theorem ko:cy X (binaryOp .Add) (fun x y H Q=>∃i j,x=.str i/\y=.str j/\i.length+j.length≤Φ/\Q (.str (i++j)) H):=by
 intro pins s σ H x y v u Q I rx ry h;obtain⟨i,j,rfl,rfl,hz,q⟩:=h;obtain⟨t,rfl⟩:=rx;obtain⟨t',rfl⟩:=ry;exact add_str (fun t' tk=>⟨.str (i++j),H,I.tok _,⟨_,rfl⟩,q⟩) hz
theorem vals1{x:V}{us:List δ}(r:aH [x] us):∃u,us=[u]/\RelV x u:=by
 cases r with
 |cons r1 r2=>cases r2;exact⟨_,rfl,r1⟩
theorem vals2{x y:V}{us:List δ}(r:aH [x,y] us):∃u w',us=[u,w']/\RelV x u/\RelV y w':=by
 cases r with
 |cons r1 r2=>
  cases r2 with
  |cons r3 r4=>cases r4;exact⟨_,_,rfl,r1,r3⟩
theorem AS(hc:X.calm=true):gs X (.builtin "max") (fun xs H Q=>∃i j,xs=[.int i,.int j]/\Q (.int (if j > i then j else i)) H):=by
 intro pins s σ H xs us Q I r h;obtain⟨i,j,rfl,q⟩:=h;obtain⟨u,w',rfl,⟨t,rfl⟩,⟨t',rfl⟩⟩:=vals2 r;refine max_two_ints (I.ok.hd hc) fun h' tk k=>⟨_,H,I.kept k,?_,q⟩;by_cases hj:j > i
 ·rw[if_pos hj,if_pos hj];exact⟨_,rfl⟩
 ·rw[if_neg hj,if_neg hj];exact⟨_,rfl⟩
theorem AU:gs X (.type "int") (fun xs H Q=>(∃i,xs=[.int i]/\Q (.int i) H)∨∃k,xs=[.bl k]/\Q (.int (if k then 1 else 0)) H):=by
 intro pins s σ H xs us Q I r h;rcases h with⟨i,rfl,q⟩|⟨k,rfl,q⟩
 ·obtain⟨u,rfl,t,rfl⟩:=vals1 r;exact call_int_int ⟨.int i,H,I,⟨_,rfl⟩,q⟩
 ·obtain⟨u,rfl,r1⟩:=vals1 r;cases r1;exact call_int_bool ⟨.int (if k then 1 else 0),H,I.tok _,⟨_,rfl⟩,q⟩
theorem vR:gs X (.type "str") (fun xs H Q=>∃i,xs=[.int i]/\i.natAbs.log2<1920/\Q (.str (toString i)) H):=by
 intro pins s σ H xs us Q I r h;obtain⟨i,rfl,hz,q⟩:=h;obtain⟨u,rfl,t,rfl⟩:=vals1 r;exact PySem.P.str_of_int hz ⟨.str _,H,I.tok _,⟨_,rfl⟩,q⟩
end
end L2
namespace L2
open PySem PySem.Spec PyProof.Rows
structure eL(k:Nat)(A:bo):Prop where
 hd:A.handled=none
 dp:A.depth+3*k+5<recursionLimit
 un:A.units+16*k+200<cLine
theorem eL.mono{j k:Nat}{A:bo}(r:eL k A)(h:j≤k):eL j A:=⟨r.hd,by have:=r.dp;lia,by have:=r.un;lia⟩
theorem eL.deeper{k:Nat}{A:bo}(r:eL (k+1) A)(env:fV):eL k (A.deeper env):=
 ⟨r.hd,by have:=r.dp;show A.depth+1+3*k+5<_;lia,by have:=r.un;show A.units+3+16*k+200<_;lia⟩
theorem eL.depth{k:Nat}{A:bo}(r:eL k A):A.depth<recursionLimit:=by have:=r.dp;lia
theorem eL.units{k:Nat}{A:bo}(r:eL k A):A.units+64<cLine:=by have:=r.un;lia
theorem eL.kF{k:Nat}{A:bo}(r:eL k A):A.units<cLine:=by have:=r.un;lia
def Ll:TA:=fun _ H Q=>Q [] H
def Jd(ta:TE)(tr:TA):TA:=fun σ H Q=>ta σ H fun x H1=>tr σ H1 fun xs H2=>Q (x::xs) H2
section
variable {X:Cx} {e:ν} {es:List ν} {te:TE} {t:TA} {pos:aE}
theorem rL:PA X [] Ll:=fun _ _ _ _ H Q I h=>Calls.spliced_nil ⟨[],H,I,.nil,h⟩
theorem mD(ha:PE X e te)(hr:PA X es t)(hs:ba (e::es) X.env=(false,eval e X.env)::ba es X.env:=by rfl):PA X (e::es) (Jd te t):=by
 intro pos pins s σ H Q I h;rw[hs];show ρ _ _ (spliced ((false,eval e X.env)::backTo pos (ba es X.env))) _ _ s;refine Calls.spliced_cons (bq (ha pins s σ H _ I h) fun u s1 ⟨x,H1,I1,r1,q1⟩=>?_);exact bq (hr pos pins s1 σ H1 _ I1 q1) fun us s2 ⟨xs,H2,I2,r2,q2⟩=>⟨x::xs,H2,I2,.cons r1 r2,q2⟩
def Lg(t:TA):TE:=fun σ H Q=>t σ H fun xs H1=>xs.length≤Φ/\∀p,H1 p=none->Q (.ref p) (upd H1 p (.tup xs))
def Lm(t:TA):TE:=fun σ H Q=>t σ H fun xs H1=>xs.length≤Φ/\∀p,H1 p=none->Q (.ref p) (upd H1 p (.lst xs))
theorem Gx{x1}(h:PA X es t):PE X (.Tuple es x1 pos) (Lg t):=by
 intro pins s σ H Q I hq;refine wpAny_Tuple_spliced (bq (h pos pins s σ H _ I hq) fun us s1 ⟨xs,H1,I1,r,z,q⟩=>⟨by rw[←r.length];exact z,?_⟩);have hf:H1 s1.heap.objs.size=none:=I1.bD.fresh (Γ _);refine⟨.ref s1.heap.objs.size,upd H1 s1.heap.objs.size (.tup xs),I1.laid (t':=s1.toks) (fun b u e=>θ _ e) (Γ _) ?_,rfl,q _ hf⟩;exact⟨z,us,r,⟨_,Ξ _ rfl,rfl,⟨_,rfl⟩,rfl⟩⟩
theorem Ag(h:PA X es t):PE X (.List es pos) (Lm t):=by
 intro pins s σ H Q I hq;refine wpAny_List_spliced (bq (h pos pins s σ H _ I hq) fun us s1 ⟨xs,H1,I1,r,z,q⟩=>⟨by rw[←r.length];exact z,?_⟩);have hf:H1 s1.heap.objs.size=none:=I1.bD.fresh (Γ _);refine⟨.ref s1.heap.objs.size,upd H1 s1.heap.objs.size (.lst xs),I1.laid (t':=s1.toks) (fun b u e=>θ _ e) (Γ _) ?_,rfl,q _ hf⟩;exact⟨z,us,0,r,Ξ _ rfl⟩
end
abbrev Sp:=List V->Hp->VK->XK->Prop
abbrev oh:=List fV->Hp->η->XK->δ->η->Prop
structure zc(P:ah)(w:ar)(K:ζ)(mg:π->Option δ)(base:ae)(A:bo)(outer:List fV)(s:η)(H:Hp):Prop where
 frames:A.frames=some outer
 mod:Mod K mg base
 bs:∀b o,base.get? b=some o->s.heap.get? b=some o/\H b=none
 se:base.objs.size≤s.heap.objs.size
 j8:s.heap.FunFrames base outer
 vI:∀b∈pC outer,H b=none
 bD:gG P w H s.heap
 bare:iO s.gens
def CE(outer:List fV)(P:ah)(w:ar)(H:Hp)(s:η)(Q:VK)(u:δ)(s':η):Prop:=
 ∃v H',s'.os=s.os/\iO s'.gens/\Un (pC outer) [] H H' s.heap s'.heap/\gG P w H' s'.heap/\RelV v u/\Q v H'
def CR(CX:oh)(outer:List fV)(P:ah)(w:ar)(H:Hp)(s:η)(Q:VK)(E:XK)(r:Result)(s':η):Prop:=
 match r with
 |.ok (.ret u)=>CE outer P w H s Q u s'
 |.ok _=>False
 |.error e=>CX outer H s E e s'
structure hJ(P:ah)(w:ar)(K:ζ)(mg:π->Option δ)(base:ae)(CX:oh)(k:Nat)(f:ε)(fd:aM)(ps:List π)(sp:Sp):Prop where
 len:∀vs H Q E,sp vs H Q E->vs.length=ps.length
 run:∀(A:bo) (outer:List fV) (s:η) (H:Hp) (args:Args) (us:List δ) (vs:List V) (Q:VK) (E:XK),eL k A->zc P w K mg base A outer s H->mX s fd args (ps.zip us)->aH vs us->sp vs H Q E ->
  iL (model P w) A (.call (.ref f) args) (CR CX outer P w H s Q E) s
theorem hJ.mono{P:ah}{w:ar}{K:ζ}{mg:π->Option δ}{base:ae}{CX:oh}{j k:Nat}{f:ε}{fd:aM}{ps:List π}{sp:Sp}(F:hJ P w K mg base CX j f fd ps sp)(h:j≤k):
  hJ P w K mg base CX k f fd ps sp:=⟨F.len,fun A outer s H args us vs Q E hr=>F.run A outer s H args us vs Q E (hr.mono h)⟩
theorem hJ.imp{P:ah}{w:ar}{K:ζ}{mg:π->Option δ}{base:ae}{CX:oh}{k:Nat}{f:ε}{fd:aM}{ps:List π}{sp sp':Sp}(F:hJ P w K mg base CX k f fd ps sp)
  (h:∀vs H Q E,sp' vs H Q E->sp vs H Q E):hJ P w K mg base CX k f fd ps sp':=
 ⟨fun vs H Q E q=>F.len vs H Q E (h _ _ _ _ q),fun A outer s H args us vs Q E hr he hb hv hs=>F.run A outer s H args us vs Q E hr he hb hv (h _ _ _ _ hs)⟩
section
variable {X:Cx} {pins:List (ε×aJ)} {σ:St} {H:Hp} {s s':η}
theorem Inv.LW(I:Inv X pins σ H s):zc X.prog X.w X.K X.mg X.base X.A X.stack s H:=
 ⟨I.ok.frames,I.ok.mod,I.bs,bc I.ok.se I.sz,I.stack,I.wM,I.bD,I.bare⟩
theorem Inv.after{Q:VK}{u:δ}(I:Inv X pins σ H s)(h:CE X.stack X.prog X.w H s Q u s'):EP X pins σ Q u s':=by
 obtain⟨v,H',os,bare,un,bD,r,q⟩:=h;obtain⟨hh,g,d,t,os'⟩:=s';obtain rfl:os'=s.os:=os;exact⟨v,H',I.call (h':=hh) (g':=g) (d':=d) (t':=t) (ch:=[]) un bD bare (fun b z=>absurd z (by simp)),r,q⟩
end
def CM(sp:Sp)(dvs:List V)(E:XK)(t:TA):TE:=fun σ H Q=>t σ H fun vs H1=>sp (vs++dvs) H1 Q E
def Binds(K:ζ)(fd:aM)(ps:List π)(ds:List δ):Prop:=
 ∀(s:η) (us:List δ),K.In s.heap->(us++ds).length=ps.length->mX s fd ⟨us,[]⟩ (ps.zip (us++ds))
theorem Binds.all{K:ζ}{fd:aM}{ps:List π}(h:∀us:List δ,us.length=ps.length->bindArgs fd ⟨us,[]⟩=pure (ps.zip us)):Binds K fd ps []:=fun s us _ hl=>by
 rw[dO] at hl ⊢;exact .of_eq (h us hl)
def v7(CX:oh)(X:Cx)(E:XK):Prop:=∀(pins:List (ε×aJ)) (σ:St) (H:Hp) (s:η) (e:δ) (s':η),Inv X pins σ H s->CX X.stack H s E e s'->X.xe e s'
section
variable {X:Cx} {CX:oh} {k:Nat} {f C:ε} {fd:aM} {ps:List π} {sp:Sp} {dvs:List V} {ds:List δ} {E:XK} {x m:π} {p pos apos:aE} {e o:ν} {es:List ν} {ta:TE} {t:TA}
theorem FL{pins:List (ε×aJ)}{σ:St}{H:Hp}{s:η}{Q:VK}{us:List δ}{vs:List V}(F:hJ X.prog X.w X.K X.mg X.base CX k f fd ps sp)(hr:eL k X.A)(hb:Binds X.K fd ps ds)(hd:aH dvs ds)(hx:v7 CX X E)
  (I:Inv X pins σ H s) (r:aH vs us) (h:sp (vs++dvs) H Q E):ρ (model X.prog X.w) X.A (call (.ref f) us) (EP X pins σ Q) X.xe s:=by
 have r2:aH (vs++dvs) (us++ds):=r.append hd;have hl:(us++ds).length=ps.length:=by rw[←r2.length];exact F.len _ _ _ _ h
 refine wpAny_call (jb (F.run X.A X.stack s H ⟨us,[]⟩ (us++ds) (vs++dvs) Q E hr I.LW (hb s us I.kh hl) r2 h) fun r s' hq=>?_);cases r with
 |error e=>exact hx pins σ H s e s' I hq
 |ok fl=>
  cases fl with
  |ret u=>exact I.after hq
  |next=>exact ey hq
  |brk=>exact ey hq
  |cont=>exact ey hq
theorem Ex(F:hJ X.prog X.w X.K X.mg X.base CX k f fd ps sp)(hr:eL k X.A)(hg:Gl X x)(hm:X.mg x=some (.ref f))(hk:fP X.K (.ref f)=true)(hb:Binds X.K fd ps ds)(hd:aH dvs ds)(hx:v7 CX X E)
  (ha:PA X (e::es) t) (hdb:(x==("__debug__":π))=false:=by decide) (he:ba (e::es) X.env=(false,eval e X.env)::ba es X.env:=by rfl) (hpl:(backTo pos (ba es X.env)).any (·.1)=false:=by rfl):
  PE X (.Call (.Name x p) (e::es) [] pos) (CM sp dvs E t):=by
 intro pins s σ H Q I h;refine jZ (xf I hg hm ?_ hdb);refine PySem.W.callWith_K (h₀:=X.base) I.ok.mod.Dl hk (bq (ha pos pins s σ H _ I h) fun us s1 ⟨vs,H1,I1,r,q⟩=>⟨I1.kh,?_⟩) he hpl;exact FL F hr hb hd hx I1 r q
end
structure bR(N P:List π)(sc:fD):Prop where
 kind:sc.kind=.function
 co:sc.isCoroutine=false
 gen:sc.isGenerator=false
 nd:N.Nodup
 pre:N.take P.length=P
 par:∀x∈P,sc.names.lookup x=some .local∨sc.names.lookup x=some .cell
 GZ:∀y∈sc.names,y.2≠.free
theorem tN{kindOf:π->Option dB}{x:π}:∀{binds:List (π×δ)} {m:π->Option δ},(∀v,(x,v)∉binds)->bindL kindOf binds m x=m x
 |[],_,_=>rfl
 | (n,v)::r,m,h=>by
  unfold bindL;rw[tN fun w hw=>h w (Ω _ hw)];split
  ·have:x≠n:=by rintro rfl;exact h v Ψ
   simp[this]
  ·rfl
theorem tP{kindOf:π->Option dB}{x:π}:∀{binds:List (π×δ)} {m:π->Option δ},(∀v,(x,v)∉binds)->bindC kindOf binds m x=m x
 |[],_,_=>rfl
 | (n,v)::r,m,h=>by
  unfold bindC;rw[tP fun w hw=>h w (Ω _ hw)];split
  ·rfl
  ·have:x≠n:=by rintro rfl;exact h v Ψ
   simp[this]
theorem tO{kindOf:π->Option dB}{x:π}{v:δ}:∀{P:List π} {vs:List δ} {i:Nat} {m:π->Option δ},P.Nodup->P[i]?=some x->vs[i]?=some v->kindOf x=some .local ->
  bindL kindOf (P.zip vs) m x=some v
 |[],_,_,_,_,h,_,_=>by simp at h
 |_::_,[],_,_,_,_,h,_=>by simp at h
 |p::P,w::vs,0,m,nd,h1,h2,hk=>by
  simp at h1 h2;subst h1;subst h2;show bindL kindOf ((p,w)::P.zip vs) m p=_;unfold bindL;rw[tN fun v hv=>(fk.mp nd).1 (lR hv).1,if_pos hk];simp
 |p::P,w::vs,i+1,m,nd,h1,h2,hk=>by
  show bindL kindOf ((p,w)::P.zip vs) m x=_;unfold bindL;exact tO (i:=i) (fk.mp nd).2 (by simpa using h1) (by simpa using h2) hk
theorem tQ{kindOf:π->Option dB}{x:π}{v:δ}:∀{P:List π} {vs:List δ} {i:Nat} {m:π->Option δ},P.Nodup->P[i]?=some x->vs[i]?=some v->kindOf x≠some .local ->
  bindC kindOf (P.zip vs) m x=some v
 |[],_,_,_,_,h,_,_=>by simp at h
 |_::_,[],_,_,_,_,h,_=>by simp at h
 |p::P,w::vs,0,m,nd,h1,h2,hk=>by
  simp at h1 h2;subst h1;subst h2;show bindC kindOf ((p,w)::P.zip vs) m p=_;unfold bindC;rw[tP fun v hv=>(fk.mp nd).1 (lR hv).1,if_neg hk];simp
 |p::P,w::vs,i+1,m,nd,h1,h2,hk=>by
  show bindC kindOf ((p,w)::P.zip vs) m x=_;unfold bindC;exact tQ (i:=i) (fk.mp nd).2 (by simpa using h1) (by simpa using h2) hk
def start(N:List π)(vs:List V):St:=vs.map some++aV (N.length-vs.length) none
def pF(CX:oh)(P:ah)(w:ar)(K:ζ)(mg:π->Option δ)(base:ae)(N:List π)(qual:π)(scope:fD)(f:ε)(cd:δ)(A:bo)(outer:List fV)(s:η)(H:Hp)(E:XK):Cx where
 prog:=P
 w:=w
 K:=K
 mg:=mg
 base:=base
 A:=A.deeper (envOfC qual scope s.heap.objs.size f cd)
 N:=N
 s₀:=s
 H₀:=H
 env:=envOfC qual scope s.heap.objs.size f cd
 outer:=outer
 stack:=envOfC qual scope s.heap.objs.size f cd::outer
 ex:=[]
 calm:=true
 fn:=fun _=>true
 pn:=[]
 xe:=fun e s'=>ρ (model P w) (A.deeper (envOfC qual scope s.heap.objs.size f cd)) (leaving (envOfC qual scope s.heap.objs.size f cd) e) (fun _ s''=>CX outer H s E e s'') (fun e' s''=>CX outer H s E e' s'') s'
theorem vQ{sc:fD}{n:Nat}{x:π}(h:sc.names.lookup x=some .cell):∃c,(cellsFrom n sc.names []).lookup x=some c:=by
 have q:=mf sc.names n [] (.inl h);exact Option.isSome_iff_exists.mp q
theorem AB{CX:oh}{P:ah}{w:ar}{K:ζ}{mg:π->Option δ}{base:ae}{N ps:List π}{qual:π}{scope:fD}{f:ε}{cd:δ}{A:bo}{outer:List fV}{s s1:η}{H:Hp}{E:XK}{us:List δ}{vs:List V}
  (S:bR N ps scope) (hd:A.handled=none) (e0:zc P w K mg base A outer s H) (hl:vs.length=ps.length) (r:aH vs us)
  (x:InCallC s s.heap.objs.size (bindL (envOfC qual scope s.heap.objs.size f cd).kindOf (ps.zip us) fun _=>none) (cellsFrom (s.heap.objs.size+1) scope.names []) (bindC (envOfC qual scope s.heap.objs.size f cd).kindOf (ps.zip us) fun _=>none) s1):
  Inv (pF CX P w K mg base N qual scope f cd A outer s H E) [] (start N vs) H s1:=by
 have hpl:ps.length≤N.length:=by have:=congrArg gn S.pre;rw[bC] at this;lia
 obtain⟨h1,tk,rfl,hk⟩:=x.done;have noA:∀b:ε,b∉(pF CX P w K mg base N qual scope f cd A outer s H E).ex:=fun b z=>absurd (show b∈([]:List ε) from z) (by simp);refine⟨⟨e0.mod,S.kind,rfl,rfl,Γ _,fun y z c h1 h2=>?_,fun y hy=>?_,fun y c _ h=>?_,fun _=>hd,bo.frames_deeper e0.frames,.inr ⟨rfl,rfl⟩,fun b z=>absurd z (noA b),e0.bs,e0.se,fun b _ _=>noA b,fun b z=>absurd z (noA b),e0.j8,e0.vI⟩,
  rfl,e0.bare,Un.kept hk,⟨_,x.toInCall.ns,fun i y v h1 h2 h3=>?_⟩,fun y c h=>⟨_,x.cell y c h⟩,e0.bD.fresh (Γ _),fun y c h=>?_,fun p hp=>absurd (show p∈([]:List (ε×aJ)) from hp) (by simp),e0.bD.kept hk,?_⟩
 ·exact name_of_addr x.apart (dw h1) (dw h2)
 ·have hy:scope.names.lookup y=some .cell∨scope.names.lookup y=some .free:=hy;rcases hy with hy|hy
  ·exact vQ hy
  ·exact absurd rfl (S.GZ _ (dw hy))
 ·exact lj (x.above y c (dw h))
 ·have hi:i<vs.length:=by
   unfold start at h2;by_cases hi:i<vs.length
   ·exact hi
   ·rw[cN (by simpa using hi)] at h2;rw[lD] at h2;split at h2<;>cases h2
  have ha:vs[i]?=some v:=by
   unfold start at h2;rw[cW (by simpa using hi),av] at h2;cases e:vs[i]? with
   |none=>rw[e] at h2;cases h2
   |some a=>rw[e] at h2;cases h2;rfl
  obtain⟨u,hu,rv⟩:=r.get ha;have hp:ps[i]?=some y:=by
   rw[←S.pre,lq (by lia)];exact h1
  have ndP:ps.Nodup:=by rw[←S.pre];exact S.nd.sublist (hU _ _)
  refine⟨u,rv,?_⟩;rcases S.par y (bu hp) with k|k
  ·exact .inl ⟨k,tO ndP hp hu k⟩
  ·obtain⟨c,e⟩:=vQ (n:=s.heap.objs.size+1) k;refine .inr ⟨.inl k,c,e,?_⟩;have q:=x.cell y c e;rw[tQ ndP hp hu (by show scope.names.lookup y≠_;rw[k];decide)] at q;exact q
 ·exact e0.bD.fresh (lj (x.above y c (dw h)))
 ·unfold start;show _=N.length;rw[az,ξ,iM];lia
theorem Ks{CX:oh}{P:ah}{w:ar}{K:ζ}{mg:π->Option δ}{base:ae}{k:Nat}{f:ε}{name qual:π}{params:Arguments}{body:List aU}{scope:fD}{dV kV doc pm cdv ct oc:δ}{an od:Option ε}
  {osl:Array (Option δ)} {N ps:List π} {sp:Sp} (lk:K.lookup f=some ⟨oc,od,.func (fQ name qual params body scope dV kV doc pm an cdv ct),osl⟩) (pB:jG K cdv qual=true) (S:bR N ps scope)
  (len:∀vs H Q E,sp vs H Q E->vs.length=ps.length)
  (nC:∀(A:bo) (outer:List fV) (s:η) (H:Hp) (vs:List V) (Q:VK) (E:XK),eL k (A.deeper (envOfC qual scope s.heap.objs.size f cdv))->sp vs H Q E ->
   ∃t,kS (pF CX P w K mg base N qual scope f cdv A outer s H E) body t/\t { nx:=fun _ H'=>Q .ao H',rt:=Q } (start N vs) H):
  hJ P w K mg base CX (k+1) f (fQ name qual params body scope dV kV doc pm an cdv ct) ps sp:=by
 refine⟨len,fun A outer s H args us vs Q E hr e0 hb r tL=>?_⟩;have hl:=len _ _ _ _ tL;have KX:K.In s.heap:=e0.mod.Dl.keeps fun b o e=>(e0.bs b o e).1;have lim:s.heap.NoLimit:=e0.mod.nolimit.keeps fun b o e=>(e0.bs b o e).1;have hkind:∀y∈ps.zip us,scope.names.lookup y.1=some .local∨(scope.names.lookup y.1=some .cell/\((cellsFrom (s.heap.objs.size+1) scope.names []).lookup y.1).isSome=true):=fun⟨n,v⟩ hy=>by
  rcases S.par n (lR hy).1 with q|q
  ·exact .inl q
  ·exact .inr ⟨q,mf _ _ _ (.inl q)⟩
 refine codeAny_call_function hr.depth (KX _ _ lk) rfl S.co S.gen rfl (PySem.W.codeRec_of KX pB) (hb _ _ _ _ ?_);refine wpAny_newFunctionEnv_cells S.kind hkind fun env he s1 x=>?_;subst he;refine⟨lim.keeps x.toInCall.keep,codeAny_func ?_⟩;obtain⟨t,ht,hq⟩:=nC A outer s H vs Q E (hr.deeper _) tL;have I:Inv (pF CX P w K mg base N qual scope f cdv A outer s H E) [] (start N vs) H s1:=AB S hr.hd e0 hl r x;refine dZ (ht [] s1 (start N vs) H _ I hq) (fun fl s' hs=>?_) fun e s' hs=>hs;have fin:∀{σ':St} {H':Hp} {v:V} {u:δ},Inv (pF CX P w K mg base N qual scope f cdv A outer s H E) [] σ' H' s'->RelV v u->Q v H'->CE outer P w H s Q u s':=
  fun {σ' H' v u} J rv q=>⟨v,H',J.os,J.bare,J.base,J.bD,rv,q⟩
 cases fl with
 |ret u=>
  obtain⟨v,σ',H',J,rv,q⟩:=hs;exact fin J rv q
 |next=>
  obtain⟨σ',H',J,q⟩:=hs;exact fin (v:=V.ao) (u:=bV) J rfl q
 |brk=>
  obtain⟨_,_,_,q⟩:=hs;exact ey q
 |cont=>
  obtain⟨_,_,_,q⟩:=hs;exact ey q
end L2
namespace L2
open PySem PySem.Spec PyProof.Rows
section
variable {X:Cx} {x:π} {p pos:aE} {e:ν} {es:List ν} {t:TA} {id T:String} {r:List V->Hp->VK->Prop}
def CN(r:List V->Hp->VK->Prop)(t:TA):TE:=fun σ H Q=>t σ H fun vs H1=>r vs H1 Q
theorem iy(hc:gs X (.builtin id) r)(hg:Gl X x)(hm:X.mg x=none)(hv:eN x=some (.builtin id))(ha:PA X (e::es) t)(hn:x≠"__name__":=by decide)(hdb:(x==("__debug__":π))=false:=by decide)
  (he:ba (e::es) X.env=(false,eval e X.env)::ba es X.env:=by rfl) (hpl:(backTo pos (ba es X.env)).any (·.1)=false:=by rfl):PE X (.Call (.Name x p) (e::es) [] pos) (CN r t):=by
 intro pins s σ H Q I h;refine jZ (kO I hg hm hv ?_ hn hdb);exact PyProof.Rows.callWith_builtin1 (bq (ha pos pins s σ H _ I h) fun us s1 ⟨vs,H1,I1,r1,q1⟩=>hc pins s1 σ H1 vs us Q I1 r1 q1) he hpl
theorem jV(hc:gs X (.type T) r)(hg:Gl X x)(hm:X.mg x=none)(hv:eN x=some (.type T))(ha:PA X (e::es) t)(hn:x≠"__name__":=by decide)(hdb:(x==("__debug__":π))=false:=by decide)
  (he:ba (e::es) X.env=(false,eval e X.env)::ba es X.env:=by rfl) (hpl:(backTo pos (ba es X.env)).any (·.1)=false:=by rfl):PE X (.Call (.Name x p) (e::es) [] pos) (CN r t):=by
 intro pins s σ H Q I h;refine jZ (kO I hg hm hv ?_ hn hdb);exact cK (bq (ha pos pins s σ H _ I h) fun us s1 ⟨vs,H1,I1,r1,q1⟩=>hc pins s1 σ H1 vs us Q I1 r1 q1) he hpl
end
end L2
namespace HT
open PySem PyProof.Rows
def lexLt:List Int->List Int->Bool
 |[],[]=>false
 |[],_::_=>true
 |_::_,[]=>false
 |x::xs,y::ys=>if x=y then lexLt xs ys else decide (x<y)
theorem yv(x y:Int)(xs ys:List Int):lexLt (x::xs) (y::ys)=if x=y then lexLt xs ys else decide (x<y):=rfl
theorem t8:lexLt [] []=false:=rfl
theorem sN(y:Int)(ys:List Int):lexLt [] (y::ys)=true:=rfl
theorem sO(x:Int)(xs:List Int):lexLt (x::xs) []=false:=rfl
theorem Cb(A:bo)(s:η)(a:Int)(t:gv)(c:Int)(u:gv):∃e,SeqAt.EqAt A s (.int a t) (.int c u) e/\(e=true↔a=c):=
 ⟨(a==c),SeqAt.EqAt.int_int a t c u,by simp⟩
theorem Bv(A:bo)(s:η)(a:Int)(t:gv)(c:Int)(u:gv)(prog:ah)(w:ar)(E:δ->η->Prop)(Q:δ->η->Prop)(h:Q (.bool (decide (a<c))) s):
  ρ (model prog w) A (richCompare .Lt (.int a t) (.int c u)) Q E s:=
 (PyProof.Rows.lt_int h:ρ (model prog w) A (compareOp .Lt (.int a t) (.int c u)) Q E s)
section
open PySem.SeqAt
open PySem.AutoSeq1 (wpAny_loadPart')
open PySem.MeetsSeq PySem.MeetsSeq2 PySem.MeetsSeq3
theorem t4(l b:ε)(items items2:Array δ)(n n2:Nat)(dd dd2:Option ε)(sl sl2:Array (Option δ))(ns ms:List Int)(hi:eI items.toList ns)(hj:eI items2.toList ms):
  Meets (dC.«tuple.__lt__» ⟨[.ref l,.ref b],[]⟩)
   (fun _ R s=>s.heap.get? l=some { cls:=.type "tuple",dict:=dd,data:=.seq items n,slots:=sl }/\s.heap.get? b=some { cls:=.type "tuple",dict:=dd2,data:=.seq items2 n2,slots:=sl2 } ∧
    R (.ok (.ret (.bool (lexLt ns ms)))) s):=
 .of_wp fun prog w A R s h=>by
  obtain⟨hp,g,d,tk,os⟩:=s;obtain⟨hl,hb,h⟩:=h;have f2:=AutoSeq1.sub_tuple_tuple;have z1:items.size=ns.length:=by rw[←hi.length];simp
  have z2:items2.size=ms.length:=by rw[←hj.length];simp
  wp_walk using wpAny_loadPart' hl,wpAny_loadPart' hb,iF _ (fun rest b s'=>b.1=none/\s'=⟨hp,g,d,tk,os⟩/\∃(vs ws:List δ) (ns' ms':List Int),rest=vs.zip ws ∧
   eI vs ns'/\eI ws ms'/\ns'.length+items2.size=ms'.length+items.size/\R (.ok (.ret (.bool (lexLt ns' ms')))) ⟨hp,g,d,tk,os⟩) _
  case turn=>
   rintro⟨y,x⟩ rest b s' ⟨hb',rfl,vs,ws,ns',ms',hz,hvi,hwi,hlen,hR⟩;cases hvi with
   |nil=>rw[List.zip_nil_left] at hz;cases hz
   |cons a t hvi'=>
    cases hwi with
    |nil=>rw[List.zip_nil_right] at hz;cases hz
    |cons c u hwi'=>
     rw[gM] at hz;injection hz with hyx hrest;injection hyx with hy hx;subst hy hx;rw[yv] at hR;simp only[aj] at hlen;obtain⟨e,he,hiff⟩:=Cb A.in1 ⟨hp,g,d,tk,os⟩ a t c u;refine γ (he prog w _ _ ?_);cases e with
     |true=>
      rw[if_pos (hiff.mp rfl)] at hR;wp_walk;exact⟨rfl,rfl,_,_,_,_,hrest,hvi',hwi',by lia,hR⟩
     |false=>
      rw[if_neg (fun q=>absurd (hiff.mpr q) af)] at hR;have hri:=Bv A.in1 ⟨hp,g,d,tk,os⟩ a t c u prog w;wp_walk using hri;exact⟨_,rfl,by simpa using hR⟩
  case fin=>
   rintro⟨b1,b2⟩ s' ⟨hb',rfl,vs,ws,ns',ms',hz,hvi,hwi,hlen,hR⟩;simp only at hb';subst hb';have hv:lexLt ns' ms'=decide (items.size<items2.size):=by
    cases hvi with
    |nil=>
     cases hwi with
     |nil=>
      simp only[gw] at hlen;rw[t8];exact (decide_eq_false (by lia)).symm
     |cons c u hw=>
      simp only[gw,aj] at hlen;rw[sN];exact (decide_eq_true (by lia)).symm
    |cons a t hv=>
     cases hwi with
     |nil=>
      simp only[gw,aj] at hlen;rw[sO];exact (decide_eq_false (by lia)).symm
     |cons c u hw=>
      rw[gM] at hz;cases hz
   rw[hv] at hR;wp_walk;exact⟨_,rfl,by simpa [dC.Tuple.tupleCompareSizes] using hR⟩
  case h=>
   exact⟨rfl,rfl,items.toList,items2.toList,ns,ms,rfl,hi,hj,by lia,h⟩
end
section
variable {prog:ah} {w:ar} {A:bo} {E:δ->η->Prop} {s:η}
theorem yp{l b:ε}{items items2:Array δ}{ns ms:List Int}{Q:δ->η->Prop}(hl:kz s.heap l items)(hb:kz s.heap b items2)(hi:eI items.toList ns)(hj:eI items2.toList ms)
  (hu:A.units<cLine) (h:Q (.bool (lexLt ns ms)) s):ρ (model prog w) A (compareOp .Lt (.ref l) (.ref b)) Q E s:=by
 obtain⟨⟨cls,dd,data,sl⟩,ho,hc,n,hd⟩:=id hl;obtain⟨⟨cls2,dd2,data2,sl2⟩,ho2,hc2,n2,hd2⟩:=id hb;simp only at hc hd hc2 hd2;subst hc hd hc2 hd2;exact richCompare_meets_room (op:=.Lt) ⟨_,ho,rfl⟩ ⟨_,ho2,rfl⟩ PySem.F.slot_tuple_lt PySem.F.entry_tuple_lt (PySem.F.args_tuple_lt_2 _ _) (t4 l b items items2 n n2 dd dd2 sl sl2 ns ms hi hj)
  ⟨ho,ho2,show jc (lexLt ns ms)≠δ.notImplemented/\Q (.bool (lexLt ns ms)) s from⟨(fun x=>nomatch x),h⟩⟩ hu
theorem Fi{t b:ε}{vs ws:List δ}{Q:δ->η->Prop}(ht:kz s.heap t vs.toArray)(hb:kz s.heap b ws.toArray)(hv:vs≠[])
  (h1:ws=[]->Q (.ref t) s) (h2:ws≠[]->Q (.ref s.heap.objs.size) { s with heap:=s.heap.push { cls:=.type "tuple",data:=.seq (vs++ws).toArray }})
  (jo:vs.length+ws.length≤Φ):ρ (model prog w) A (binaryOp .Add (.ref t) (.ref b)) Q E s:=by
 obtain⟨⟨cls,dd,data,sl⟩,ho,hc,n,hd⟩:=id ht;obtain⟨⟨cls2,dd2,data2,sl2⟩,ho2,hc2,n2,hd2⟩:=id hb;simp only at hc hd hc2 hd2;subst hc hd hc2 hd2;have e:vs.toArray++ws.toArray=(vs++ws).toArray:=by simp
 by_cases hw:ws=[]
 ·exact concat_meets ⟨_,ho,rfl⟩ ⟨_,ho2,rfl⟩ kW oj ie g6 (gJ _ _)
   (tuple_addW1 t b vs.toArray ws.toArray n n2 dd dd2 sl sl2 (by simpa using hv) (by simp[hw])) ⟨ho,ho2,h1 hw⟩
 ·refine concat_meets ⟨_,ho,rfl⟩ ⟨_,ho2,rfl⟩ kW oj ie g6 (gJ _ _)
   (tuple_addW2 t b vs.toArray ws.toArray n n2 dd dd2 sl sl2 (by simpa using hv) (by simpa using hw) (by rw[χ,χ];exact jo)) ⟨ho,ho2,?_⟩
  rw[e];exact h2 hw
def bx(n d:Nat):Option Int->Nat
 |none=>d
 |some v=>if v<0 then (v+(n:Int)).toNat else min v.toNat n
theorem uO(n d:Nat):bx n d none=d:=rfl
theorem pW(n d k:Nat):bx n d (some (k:Int))=min k n:=by
 show (if (k:Int)<0 then ((k:Int)+(n:Int)).toNat else min (k:Int).toNat n)=min k n;rw[if_neg (by lia),km]
theorem FK(n d:Nat)(hd:d≤n)(o:Option Int):bx n d o≤n:=by
 cases o with
 |none=>exact hd
 |some v=>
  show (if v<0 then (v+(n:Int)).toNat else min v.toNat n)≤n;by_cases hv:v<0
  ·rw[if_pos hv];lia
  ·rw[if_neg hv];exact Nat.min_le_right _ _
theorem xt(v:Int)(n d:Nat):(if v<0 then max (v+(n:Int)) 0 else min v (n:Int))=((bx n d (some v):Nat):Int):=by
 show (if v<0 then max (v+(n:Int)) 0 else min v (n:Int))=(((if v<0 then (v+(n:Int)).toNat else min v.toNat n):Nat):Int);by_cases hv:v<0
 ·simp only[if_pos hv];lia
 ·simp only[if_neg hv];lia
theorem yZ(lo hi:Option Int)(n:Nat):gy lo hi 1 (n:Int)=(((bx n 0 lo:Nat):Int),((bx n n hi:Nat):Int)):=by
 have h1:¬((1:Int)<0):=by lia
 unfold gy;simp only[h1,if_false];refine Prod.ext ?_ ?_
 ·cases lo with
  |none=>rfl
  |some v=>exact xt v n 0
 ·cases hi with
  |none=>rfl
  |some v=>exact xt v n n
theorem yg(i j:Nat):eA (i:Int) (j:Int) 1=j-i:=by
 unfold eA;have h1:(1:Int) > 0:=by lia
 simp only[h1,if_true,Int.ediv_one];split<;>lia
theorem rD{v:δ}{o:Option Int}{Q:Option Int->η->Prop}(p:ji v o)(h:Q o s):ρ (model prog w) A (dC.Slice.slicePartIndex v) Q E s:=by
 cases p with
 |none=>exact slicePart_none h
 |int i t=>exact slicePart_int h
theorem kG{sl:ε}{vl vu:δ}{lo hi:Option Int}{n:Nat}{Q:Int×Int×Nat->η->Prop}(hs:s.heap.IsSliceOf sl vl vu .none)(pl:ji vl lo)(pu:ji vu hi)
  (h:Q (((bx n 0 lo:Nat):Int),1,bx n n hi-bx n 0 lo) s):ρ (model prog w) A (kg (.ref sl) (pure (n:Int))) Q E s:=by
 obtain⟨os,hos,hcs,hds⟩:=id hs;unfold kg dC.Slice.sliceFields;refine γ (γ (bY hos hds (x:=vl) rfl (γ (bY hos hds (x:=vu) rfl (γ (bY hos hds (x:=.none) rfl (μ ?_)))))));refine γ (slicePart_none ?_);show ρ _ _ (if ((1:Int)==0)=true then _ else _) _ _ s;rw[if_neg (by decide)];refine γ (rD pl (γ (rD pu (γ (μ ?_)))));show ρ _ _ (match gy lo hi 1 (n:Int) with|(lo,hi)=>pure (lo,(1:Int),eA lo hi 1)) _ _ s
 rw[yZ lo hi n];show ρ _ _ (pure (((bx n 0 lo:Nat):Int),(1:Int),eA ((bx n 0 lo:Nat):Int) ((bx n n hi:Nat):Int) 1)) _ _ s;rw[yg];exact μ h
theorem BF(xs:Array δ)(i k:Nat):((aq k).filterMap fun (m:Nat)=>xs[((i:Int)+(m:Int)*1).toNat]?).toArray=((xs.toList.drop i).take k).toArray:=by
 have e:(fun (m:Nat)=>xs[((i:Int)+(m:Int)*1).toNat]?)=fun m=>xs[i+m]?:=by
  funext m;have:((i:Int)+(m:Int)*1).toNat=i+m:=by lia
  rw[this]
 rw[e];have:=pick_run xs i k;rw[pR] at this;have e2:((fun x=>xs[x]?) ∘ fun x=>i+x)=fun m=>xs[i+m]?:=rfl;rw[e2] at this;rw[this]
theorem qr{t sl:ε}{items:Array δ}{vl vu:δ}{lo hi:Option Int}{Q:δ->η->Prop}(ht:kz s.heap t items)(hs:s.heap.IsSliceOf sl vl vu .none)(pl:ji vl lo)(pu:ji vu hi)
  (hw:¬(bx items.size 0 lo=0/\bx items.size items.size hi=items.size))
  (h:Q (.ref s.heap.objs.size) { s with heap:=s.heap.push { cls:=.type "tuple",data:=.seq ((items.toList.drop (bx items.size 0 lo)).take (bx items.size items.size hi-bx items.size 0 lo)).toArray }})
  (jo:items.size≤Φ):ρ (model prog w) A (getItem (.ref t) (.ref sl)) Q E s:=by
 have htake:sizeOk (.seq ((items.toList.drop (bx items.size 0 lo)).take (bx items.size items.size hi-bx items.size 0 lo)).toArray):=by
  show ((items.toList.drop (bx items.size 0 lo)).take (bx items.size items.size hi-bx items.size 0 lo)).toArray.size≤Φ;rw[χ,bC,fZ,dz];lia
 have hj:bx items.size items.size hi≤items.size:=FK _ _ (Γ _) hi;obtain⟨os,hos,hcs,hds⟩:=id hs;have hTs:s.TypeIs (.ref sl) "slice":=⟨os,hos,hcs⟩;unfold getItem
 try with_reducible refine cb ?_
 first|refine γ (μ ?_)|skip
 refine γ (wpAny_sequenceKey ht.typeIs (by decide) ?_);refine γ (bE (name:=aA "__getitem__") ht.typeIs bQ
  (bK bQ ht.typeIs entry_tuple_getitem ?_ (args_tuple_getitem _ _)))
 show ρ _ _ (kf (.ref t) >>= _) _ _ s;refine γ (tupleItemsOf_ ht ?_);refine γ (gI hTs ?_);rw[if_pos (by decide)];refine γ (kG hs pl pu ?_);have hno:¬((((bx items.size 0 lo:Nat):Int)==0&&(1:Int)==1&&(bx items.size items.size hi-bx items.size 0 lo)==items.size)=true):=by
  intro q;rw[cQ,cQ] at q;have q1:((bx items.size 0 lo:Nat):Int)=0:=eq_of_beq q.1.1;have q2:bx items.size items.size hi-bx items.size 0 lo=items.size:=eq_of_beq q.2;exact hw ⟨by lia,by lia⟩
 show ρ _ _ (if (((bx items.size 0 lo:Nat):Int)==0&&(1:Int)==1&&(bx items.size items.size hi-bx items.size 0 lo)==items.size)=true then _ else _) _ _ s;rw[if_neg hno,BF]
 first
  |exact γ (m:=eS _) (bN (μ ⟨_,rfl,μ h⟩) htake)
  |exact γ (m:=eS _) (bN (γ (μ (μ ⟨_,rfl,μ h⟩))) htake)
  |exact γ (γ (m:=eS _) (bN (μ (μ ⟨_,rfl,μ h⟩)) htake))
  |exact γ (γ (m:=eS _) (bN (μ ⟨_,rfl,μ h⟩) htake))
end
end HT
namespace L2
open PySem PySem.Spec PyProof.Rows
abbrev TO:=St->Hp->(Option Int->Hp->Prop)->Prop
def PO(X:Cx)(e:Option ν)(t:TO):Prop:=
 ∀(pins:List (ε×aJ)) (s:η) (σ:St) (H:Hp) (Q:Option Int->Hp->Prop),Inv X pins σ H s->t σ H Q ->
  ρ (model X.prog X.w) X.A (evalPart e X.env) (fun u s'=>∃o H',Inv X pins σ H' s'/\ji u o/\Q o H') X.xe s
def D4:TO:=fun _ H Q=>Q none H
def IZ(t:TE):TO:=fun σ H Q=>t σ H fun x H1=>∃i,x=.int i/\Q (some i) H1
theorem intsAre_of{ns:List Int}:∀{us:List δ},aH (ns.map V.int) us->eI us ns:=by
 induction ns with
 |nil=>intro us r;rw[List.map_nil] at r;cases r;exact .nil
 |cons n ns ih=>
  intro us r;rw[cn] at r;cases r with
  |cons r1 r2=>
   obtain⟨t,e⟩:=r1;subst e;exact .cons n t (ih r2)
section
variable {X:Cx} {e:ν} {te:TE} {lo hi:Option ν} {tl th:TO} {pos p2:aE}
theorem En:PO X none D4:=by
 intro pins s σ H Q I h;rw[evalPart_none];exact μ ⟨none,H,I,.none,h⟩
theorem Em(h:PE X e te):PO X (some e) (IZ te):=by
 intro pins s σ H Q I hw;rw[evalPart_some];refine bq (h pins s σ H _ I hw) fun u s1 ⟨x,H1,I1,r1,q1⟩=>?_;obtain⟨i,rfl,q⟩:=q1;obtain⟨t,rfl⟩:=r1;exact⟨some i,H1,I1,.int i t,q⟩
def tT(X:Cx)(r:V->Option Int->Option Int->Hp->VK->Prop):Prop:=
 ∀(pins:List (ε×aJ)) (s:η) (σ:St) (H:Hp) (x:V) (v vl vu:δ) (lo hi:Option Int) (sl:ε) (Q:VK),Inv X pins σ H s->RelV x v->s.heap.IsSliceOf sl vl vu .none->ji vl lo->ji vu hi->r x lo hi H Q ->
  ∃T id,typeLookup (.type T) "__getitem__" = pure (some (.builtin id))/\s.TypeIs v T/\ρ (model X.prog X.w) X.A (getItem v (.ref sl)) (EP X pins σ Q) X.xe s
theorem tT.or{r r':V->Option Int->Option Int->Hp->VK->Prop}(h:tT X r)(h':tT X r'):tT X (fun x lo hi H Q=>r x lo hi H Q∨r' x lo hi H Q):=by
 intro pins s σ H x v vl vu lo hi sl Q I rx hs pl pu q;rcases q with q|q
 ·exact h pins s σ H x v vl vu lo hi sl Q I rx hs pl pu q
 ·exact h' pins s σ H x v vl vu lo hi sl Q I rx hs pl pu q
def Mj(r:V->Option Int->Option Int->Hp->VK->Prop)(te:TE)(tl th:TO):TE:=fun σ H Q=>te σ H fun x H1=>tl σ H1 fun l H2=>th σ H2 fun u H3=>r x l u H3 Q
theorem BH{r:V->Option Int->Option Int->Hp->VK->Prop}(hr:tT X r)(he:PE X e te)(hl:PO X lo tl)(hu:PO X hi th):PE X (.Subscript e (.Slice lo hi none p2) pos) (Mj r te tl th):=by
 intro pins s σ H Q I h;refine Subscript_ (bq (he pins s σ H _ I h) fun v s1 ⟨x,H1,I1,r1,q1⟩=>?_);refine wpAny_Slice (bq (hl pins s1 σ H1 _ I1 q1) fun vl s2 ⟨l,H2,I2,pl,q2⟩=>bq (hu pins s2 σ H2 _ I2 q2) fun vu s3 ⟨u,H3,I3,pu,q3⟩=>?_);rw[evalPart_none];refine μ ?_;have I4:Inv X pins σ H3 { s3 with heap:=s3.heap.push { cls:=.type "slice",data:=.fields #[vl,vu,.none]}}:=I3.kept (t':=s3.toks) fun b ob q=>θ _ q;obtain⟨T,id,hT,ht,hg⟩:=hr pins { s3 with heap:=s3.heap.push { cls:=.type "slice",data:=.fields #[vl,vu,.none]}} σ H3 x v vl vu l u s3.heap.objs.size Q I4 r1 (ae.IsSliceOf.new ..) pl pu q3;show ρ (model X.prog X.w) X.A (subscriptTail e (.Slice lo hi none p2) v (.ref s3.heap.objs.size)) (EP X pins σ Q) X.xe { s3 with heap:=s3.heap.push { cls:=.type "slice",data:=.fields #[vl,vu,.none]}};exact tail_any (ops:=[.ref s3.heap.objs.size,v]) ht hT hg (by with_unfolding_all rfl)
def pG(xs:List V)(lo hi:Option Int):List V:=(xs.drop (HT.bx xs.length 0 lo)).take (HT.bx xs.length xs.length hi-HT.bx xs.length 0 lo)
theorem qA(xs:List V)(lo hi:Option Int):(pG xs lo hi).length≤xs.length:=by
 unfold pG;rw[bC,fZ];lia
def Lv(K:ζ):V->Option Int->Option Int->Hp->VK->Prop:=fun x lo hi H Q=>∃a xs,x=.ref a/\cJ K H a xs ∧
 ¬(HT.bx xs.length 0 lo=0/\HT.bx xs.length xs.length hi=xs.length)/\∀p,H p=none->Q (.ref p) (upd H p (.tup (pG xs lo hi)))
theorem FF:tT X (Lv X.K):=by
 intro pins s σ H x v vl vu lo hi sl Q I rx hs pl pu h;obtain⟨a,xs,rfl,hx,hw,q⟩:=h;cases rx;obtain⟨its,r,ht,hz⟩:=I.tuple hx;have hlen:its.toArray.size=xs.length:=by rw[χ];exact r.length.symm
 refine⟨"tuple",_,bQ.lookup,ht.typeIs,?_⟩;refine HT.qr ht hs pl pu (by rw[hlen];exact hw) ?_ (by rw[hlen];exact hz);rw[hlen];refine⟨.ref s.heap.objs.size,_,I.laid (t':=s.toks) (o:=.tup (pG xs lo hi)) (fun b ob q=>θ _ q) (Γ _) ?_,rfl,q _ (I.bD.fresh (Γ _))⟩;exact⟨bc (qA xs lo hi) hz,_,(r.drop (HT.bx xs.length 0 lo)).take (HT.bx xs.length xs.length hi-HT.bx xs.length 0 lo),ia.new _ _⟩
def FY(K:ζ):R2:=fun x y H Q=>∃a b ns ms,x=.ref a/\y=.ref b/\cJ K H a (ns.map V.int)/\cJ K H b (ms.map V.int)/\Q (.bl (HT.lexLt ns ms)) H
theorem GI(hu:X.A.units<cLine):cy X (compareOp .Lt) (FY X.K):=by
 intro pins s σ H x y v u Q I rx ry h;obtain⟨a,b,ns,ms,rfl,rfl,ha,hb,q⟩:=h;cases rx;cases ry;obtain⟨its,r1,p1,_⟩:=I.tuple ha;obtain⟨its2,r2,p2,_⟩:=I.tuple hb;have i1:eI its.toArray.toList ns:=intsAre_of r1;have i2:eI its2.toArray.toList ms:=intsAre_of r2;exact HT.yp p1 p2 i1 i2 hu ⟨.bl (HT.lexLt ns ms),H,I,rfl,q⟩
def C0(K:ζ):R2:=fun x y H Q=>∃a b xs ys,x=.ref a/\y=.ref b/\cJ K H a xs/\cJ K H b ys/\xs≠[]/\xs.length+ys.length≤Φ ∧
 (ys=[]->Q (.ref a) H)/\(ys≠[]->∀p,H p=none->Q (.ref p) (upd H p (.tup (xs++ys))))
theorem aH.sJ{xs:List V}{us:List δ}(r:aH xs us):us=[]↔xs=[]:=by
 cases r with
 |nil=>simp
 |cons _ _=>simp
theorem EB:cy X (binaryOp .Add) (C0 X.K):=by
 intro pins s σ H x y v u Q I rx ry h;obtain⟨a,b,xs,ys,rfl,rfl,ha,hb,hx,hz,q1,q2⟩:=h;cases rx;cases ry;obtain⟨its,r1,p1,_⟩:=I.tuple ha;obtain⟨its2,r2,p2,_⟩:=I.tuple hb;refine HT.Fi p1 p2 (fun z=>hx (r1.sJ.mp z)) (fun z=>⟨.ref a,H,I,rfl,q1 (r2.sJ.mp z)⟩) (fun z=>?_) (by rw[←r1.length,←r2.length];exact hz);refine⟨.ref s.heap.objs.size,_,I.laid (t':=s.toks) (o:=.tup (xs++ys)) (fun b ob q=>θ _ q) (Γ _) ?_,rfl,q2 (fun w=>z (r2.sJ.mpr w)) _ (I.bD.fresh (Γ _))⟩;exact⟨by rw[az];exact hz,_,r1.append r2,ia.new _ _⟩
end
end L2
namespace L2
open PySem PySem.Spec PyProof.Rows
def rV(n:Nat)(i:Int):Option Nat:=if 0≤i then (if i<n then some i.toNat else none) else if -(n:Int)≤i then some (i+n).toNat else none
def jX{α:Type}(xs:List α)(i:Int):Option α:=(rV xs.length i).bind fun j=>xs[j]?
theorem xj{n:Nat}{i:Int}{j:Nat}(h:rV n i=some j):seqIndex? i n=some j/\j<n/\-(n:Int)≤i/\i<n:=by
 unfold rV at h;by_cases h0:0≤i
 ·rw[if_pos h0] at h;by_cases h1:i<n
  ·rw[if_pos h1] at h;have e:i.toNat=j:=ai h;exact⟨by rw[seqIndex_of h0 h1,e],by lia,by lia,h1⟩
  ·rw[if_neg h1] at h;cases h
 ·rw[if_neg h0] at h;by_cases h1:-(n:Int)≤i
  ·rw[if_pos h1] at h;have e:(i+n).toNat=j:=ai h;exact⟨by rw[seqIndex_neg (by lia) h1,e],by lia,h1,by lia⟩
  ·rw[if_neg h1] at h;cases h
theorem sZ{α:Type}{xs:List α}{i:Int}{v:α}(h:jX xs i=some v):∃j,seqIndex? i xs.length=some j/\xs[j]?=some v/\j<xs.length/\-(xs.length:Int)≤i/\i<xs.length:=by
 unfold jX at h;cases e:rV xs.length i with
 |none=>rw[e] at h;cases h
 |some j=>
  rw[e] at h;obtain⟨h1,h2,h3,h4⟩:=xj e;exact⟨j,h1,h,h2,h3,h4⟩
theorem qm{α:Type}{xs:List α}{j:Nat}{v:α}(h:xs[j]?=some v):jX xs (j:Int)=some v:=by
 have hj:j<xs.length:=(aG.mp h).1;have e:rV xs.length (j:Int)=some j:=by
  unfold rV;rw[if_pos (by lia),if_pos (by lia)];simp
 unfold jX;rw[e];exact h
def mM(b:ν):Prop:=∀o i,subscripted b false o i=operate [o,i] (getItem o i)
def si(X:Cx)(r:R2):Prop:=
 ∀(value slice:ν) (pins:List (ε×aJ)) (s:η) (σ:St) (H:Hp) (x y:V) (v u:δ) (Q:VK),Inv X pins σ H s->RelV x v->RelV y u->r x y H Q ->
  subscripted slice false v u=operate [v,u] (getItem v u)->ρ (model X.prog X.w) X.A (subscriptTail value slice v u) (EP X pins σ Q) X.xe s
def wa(X:Cx)(id:String)(r:V->List V->Hp->VK->Prop):Prop:=
 ∀(pins:List (ε×aJ)) (s:η) (σ:St) (H:Hp) (x:V) (xs:List V) (v:δ) (us:List δ) (Q:VK),Inv X pins σ H s->RelV x v->aH xs us->r x xs H Q ->
  ρ (model X.prog X.w) X.A (call (.builtin id) (v::us)) (EP X pins σ Q) X.xe s
section
variable {X:Cx} {a b:ν} {ta tb:TE} {pos:aE}
theorem si.or{r r':R2}(h:si X r)(h':si X r'):si X (fun x y H Q=>r x y H Q∨r' x y H Q):=by
 intro value slice pins s σ H x y v u Q I rx ry q hs;rcases q with q|q
 ·exact h value slice pins s σ H x y v u Q I rx ry q hs
 ·exact h' value slice pins s σ H x y v u Q I rx ry q hs
theorem C4{r:R2}(hr:si X r)(ha:PE X a ta)(hb:PE X b tb)(hs:mM b):PE X (.Subscript a b pos) (zD r ta tb):=by
 intro pins s σ H Q I h;exact Subscript_ (Cy ha hb I h fun v u s2 x y H2 I2 rx ry q=>hr a b pins s2 σ H2 x y v u Q I2 rx ry q (hs _ _))
def Ge(K:ζ):R2:=fun x y H Q=>∃p xs i v,x=.ref p/\y=.int i/\du K H p xs/\jX xs i=some v/\Q v H
def Gc(K:ζ):R2:=fun x y H Q=>∃p xs i v,x=.ref p/\y=.int i/\cJ K H p xs/\jX xs i=some v/\Q v H
def Gd:R2:=fun x y H Q=>∃z i c,x=.str z/\y=.int i/\z.length≤Φ/\jX z.cps.toList i=some c/\Q (.str ⟨#[c]⟩) H
theorem EY:si X (Ge X.K):=by
 intro value slice pins s σ H x y v u Q I rx ry h hs;obtain⟨p,xs,i,z,rfl,rfl,hq,he,q⟩:=h;cases rx;obtain⟨t,rfl⟩:=ry;obtain⟨its,r,pl,hz⟩:=I.list hq;obtain⟨j,h1,h2,h3,h4,h5⟩:=sZ he;obtain⟨w,ew,rw'⟩:=r.get h2;have hl:=r.length;have hn:=kN;have fin:EP X pins σ Q w s:=⟨z,H,I,rw',q⟩;by_cases h0:0≤i
 ·have hj:i.toNat=j:=by
   rw[seqIndex_of h0 h5] at h1;exact ai h1
  exact item_listR pl.isList h0 (by lia) (by rw[hj];simpa using ew) fin hs
 ·have hj:(i+(its.toArray.size:Int)).toNat=j:=by
   rw[seqIndex_neg (by lia) h4] at h1;rw[χ,←hl];exact ai h1
  exact subscriptTail_builtinR (x:=w) pl.isList.typeIs slot_list_getitem.lookup
   (wpAny_getItem_list_neg (Q:=fun r s'=>r=w/\EP X pins σ Q r s') pl.isList (by lia) (by rw[χ]<;>lia) (by lia) (by rw[hj];simpa using ew) ⟨rfl,fin⟩) hs
theorem HS:si X (Gc X.K):=by
 intro value slice pins s σ H x y v u Q I rx ry h hs;obtain⟨p,xs,i,z,rfl,rfl,hq,he,q⟩:=h;cases rx;obtain⟨t,rfl⟩:=ry;obtain⟨its,r,pl,hz⟩:=I.tuple hq;obtain⟨j,h1,h2,h3,h4,h5⟩:=sZ he;obtain⟨w,ew,rw'⟩:=r.get h2;have hl:=r.length;have hn:=kN;have fin:EP X pins σ Q w s:=⟨z,H,I,rw',q⟩;exact subscriptTail_builtinR (x:=w) pl.typeIs slot_tuple_getitem.lookup
  (getItem_tuple (j:=j) (Q:=fun r s'=>r=w/\EP X pins σ Q r s') pl (by lia) (by lia) (by rw[χ,←hl];exact h1) (by simpa using ew) ⟨rfl,fin⟩) hs
theorem HU:si X Gd:=by
 intro value slice pins s σ H x y v u Q I rx ry h hs;obtain⟨z,i,c,rfl,rfl,hz,he,q⟩:=h;obtain⟨t,rfl⟩:=rx;obtain⟨t',rfl⟩:=ry;obtain⟨j,h1,h2,h3,h4,h5⟩:=sZ he;have hl:z.cps.toList.length=z.length:=by simp[π.length]
 rw[hl] at h1 h4 h5;have hn:=kN;exact tail_any (i9 s z t) slot_str_getitem.lookup (getItem_str (c:=c) (by
  have e1:decide (i < -(2^63:Int))=false:=decide_eq_false (by lia);have e2:decide (i≥2^63)=false:=decide_eq_false (by lia);rw[e1,e2,Bool.or_false]) (by rw[h1];simpa using h2) ⟨.str ⟨#[c]⟩,H,I.tok _,⟨_,rfl⟩,q⟩) hs
def K5(K:ζ):R2:=fun x y H Q=>Ge K x y H Q∨Gc K x y H Q∨Gd x y H Q
theorem AA:si X (K5 X.K):=EY.or (HS.or HU)
theorem yo(its:List δ)(n j:Nat)(u:δ):aL (·.setIfInBounds j u) { cls:=.type "list",data:=.seq its.toArray n }={ cls:=.type "list",data:=.seq (its.set j u).toArray n }:=by
 simp[aL]
theorem Inv.lst{pins:List (ε×aJ)}{σ:St}{H:Hp}{s:η}{p:ε}{xs:List V}(I:Inv X pins σ H s)(h:H p=some (.lst xs)):
  ∃(its:List δ) (n:Nat),aH xs its/\s.heap.get? p=some { cls:=.type "list",data:=.seq its.toArray n }/\xs.length≤Φ:=by
 obtain⟨z,its,n,r,e⟩:=I.bD p _ h;exact⟨its,n,r,e,z⟩
theorem Inv.Ho{pins:List (ε×aJ)}{σ:St}{H:Hp}{s:η}{p:ε}{xs ys:List V}{its its':List δ}{n n':Nat}{f:aJ->aJ}(I:Inv X pins σ H s)(h:H p=some (.lst xs))
  (ho:s.heap.get? p=some { cls:=.type "list",data:=.seq its.toArray n }) (hf:f { cls:=.type "list",data:=.seq its.toArray n }={ cls:=.type "list",data:=.seq its'.toArray n' }) (r:aH ys its') (hz:ys.length≤Φ) (t:Nat):
  Inv X pins σ (upd H p (.lst ys)) { s with heap:=s.heap.update p f,toks:=t }:=by
 have e:(s.heap.update p f).get? p=some { cls:=.type "list",data:=.seq its'.toArray n' }:=by
  rw[dP f ho (by rw[hf]<;>rfl),hf]
 refine I.write (x:=p) (e:=p) (by rw[h];trivial) (.inl rfl) (fun b u hb q=>(dG _ _ (eZ hb)).trans q) ⟨_,e⟩ ?_;exact⟨hz,its',n',r,e⟩
def CV:V->V->V->Hp->(Hp->Prop)->Prop:=fun o i v H Q=>∃p xs k j,o=.ref p/\i=.int k/\H p=some (.lst xs)/\rV xs.length k=some j/\Q (upd H p (.lst (xs.set j v)))
theorem set_list:II X CV:=by
 intro pins s σ H o i v ov iv u Q I ro ri rv h;obtain⟨p,xs,k,j,rfl,rfl,hp,hj,q⟩:=h;cases ro;obtain⟨t,rfl⟩:=ri;obtain⟨its,n,r,ho,hz⟩:=I.lst hp;obtain⟨h1,h2,h3,h4⟩:=xj hj;have hl:=r.length;have hn:=kN;have I':Inv X pins σ (upd H p (.lst (xs.set j v))) { s with heap:=s.heap.update p (aL (·.setIfInBounds j u))}:=
  I.Ho hp ho (yo its n j u) (r.set rv j) (by rw[List.length_set];exact hz) s.toks
 by_cases h0:0≤k
 ·have hk:k.toNat=j:=by
   rw[seqIndex_of h0 h4] at h1;exact ai h1
  exact PySem.W.ki_setAt ho h0 (by lia) (by rw[χ,←hl];exact h4) (by rw[hk];exact⟨_,I',q⟩)
 ·have hk:(k+(its.toArray.size:Int)).toNat=j:=by
   rw[seqIndex_neg (by lia) h3] at h1;rw[χ,←hl];exact ai h1
  exact PySem.W.ki_setBack ho (by lia) (by rw[χ,←hl];exact h3) (by lia) (by rw[hk];exact⟨_,I',q⟩)
theorem uL(lo hi:Option Int)(n:Nat):(sliceBounds lo hi none n).1=((HT.bx n 0 lo:Nat):Int)/\(sliceBounds lo hi none n).2.1=((HT.bx n n hi:Nat):Int)/\(sliceBounds lo hi none n).2.2=1:=by
 refine⟨?_,?_,rfl⟩
 ·cases lo with
  |none=>simp[sliceBounds,HT.bx]
  |some i=>
   simp only[sliceBounds,HT.bx,qY,show (1:Int) > 0 by decide,if_true];by_cases h:i<0
   ·simp only[h,if_true]<;>lia
   ·simp only[h,if_false]<;>lia
 ·cases hi with
  |none=>simp[sliceBounds,HT.bx]
  |some i=>
   simp only[sliceBounds,HT.bx,qY,show (1:Int) > 0 by decide,if_true];by_cases h:i<0
   ·simp only[h,if_true]<;>lia
   ·simp only[h,if_false]<;>lia
theorem t6(its:List δ)(lo hi:Option Int):slicePick its.toArray lo hi none=((its.drop (HT.bx its.length 0 lo)).take (HT.bx its.length its.length hi-HT.bx its.length 0 lo)).toArray:=by
 obtain⟨h1,h2,h3⟩:=uL lo hi its.toArray.size;unfold slicePick;rw[h1,h2,h3];simp only[sliceRange_one,pick_run,χ]<;>rfl
def Lw(K:ζ):V->Option Int->Option Int->Hp->VK->Prop:=fun x lo hi H Q=>∃a xs,x=.ref a/\du K H a xs/\∀p,H p=none->Q (.ref p) (upd H p (.lst (pG xs lo hi)))
theorem Ea:tT X (Lw X.K):=by
 intro pins s σ H x v vl vu lo hi sl Q I rx hs pl pu h;obtain⟨a,xs,rfl,hx,q⟩:=h;cases rx;obtain⟨its,r,ht,hz⟩:=I.list hx;have hlen:=r.length;refine⟨"list",_,slot_list_getitem.lookup,ht.isList.typeIs,?_⟩;refine wpAny_getItem_list_slice ht.isList hs pl pu .none (by simp) ?_ (by rw[χ]<;>lia)
 rw[t6,←hlen];refine⟨.ref s.heap.objs.size,_,I.laid (t':=s.toks) (o:=.lst (pG xs lo hi)) (fun b ob q=>θ _ q) (Γ _) ?_,rfl,q _ (I.bD.fresh (Γ _))⟩;exact⟨bc (qA xs lo hi) hz,_,0,(r.drop (HT.bx xs.length 0 lo)).take (HT.bx xs.length xs.length hi-HT.bx xs.length 0 lo),Ξ _ rfl⟩
theorem vV:gs X (.builtin "len") (fun xs H Q=>∃p ys,xs=[.ref p]/\(du X.K H p ys∨cJ X.K H p ys)/\Q (.int ys.length) H):=by
 intro pins s σ H xs us Q I r h;obtain⟨p,ys,rfl,hq,q⟩:=h;obtain⟨u,rfl,rx⟩:=vals1 r;cases rx;have hn:=kN;rcases hq with hq|hq
 ·obtain⟨its,r',pl,hz⟩:=I.list hq;have hlen:=r'.length;exact Calls.call_len_list pl.isList (by simp only[χ]<;>lia) ⟨.int ys.length,H,I.tok _,⟨s.toks+1,by rw[χ,hlen]⟩,q⟩
 ·obtain⟨its,r',pl,hz⟩:=I.tuple hq;have hlen:=r'.length;exact len_tuple pl (by simp only[χ]<;>lia) ⟨.int ys.length,H,I.tok _,⟨s.toks+1,by rw[χ,hlen]⟩,q⟩
theorem vU:gs X (.builtin "len") (fun xs H Q=>∃z,xs=[.str z]/\z.length≤Φ/\Q (.int z.length) H):=by
 intro pins s σ H xs us Q I r h;obtain⟨z,rfl,hz,q⟩:=h;obtain⟨u,rfl,t,rfl⟩:=vals1 r;have hn:=kN;exact len_str (by lia) ⟨.int z.length,H,I.tok _,⟨_,rfl⟩,q⟩
theorem t9:gs X (.type "tuple") (fun xs H Q=>∃p ys,xs=[.ref p]/\((du X.K H p ys/\∀l,H l=none->Q (.ref l) (upd H l (.tup ys)))∨(cJ X.K H p ys/\Q (.ref p) H))):=by
 intro pins s σ H xs us Q I r h;obtain⟨p,ys,rfl,h⟩:=h;obtain⟨u,rfl,rx⟩:=vals1 r;cases rx;rcases h with⟨hq,q⟩|⟨hq,q⟩
 ·obtain⟨its,r',pl,hz⟩:=I.list hq;have hlen:=r'.length;refine call_tuple_list pl.isList (fun h' kp=>?_) (by simp only[χ]<;>lia)
  have I1:Inv X pins σ H { s with heap:=h' }:=I.kept (t':=s.toks) kp;have I2:Inv X pins σ (upd H h'.objs.size (.tup ys)) { s with heap:=h'.push { cls:=.type "tuple",data:=.seq its.toArray }}:=
   I1.laid (t':=s.toks) (fun b o e=>θ _ e) (Γ _) (show eV X.prog X.w _ _ _ (.tup ys) from⟨hz,its,r',ia.new _ _⟩)
  exact⟨.ref h'.objs.size,_,I2,rfl,q _ (I1.bD.fresh (Γ _))⟩
 ·obtain⟨its,r',pl,hz⟩:=I.tuple hq;exact call_tuple_same pl ⟨.ref p,H,I,rfl,q⟩
def K3(K:ζ)(T:String)(x:V)(H:Hp):Prop:=match x with
 |.str _=>T="str"
 |.int _=>T="int"
 |.ref p=>(T="list"/\∃xs,du K H p xs)∨(T="tuple"/\∃o,K.lookup p=some o/\o.cls=.type "tuple"/\o.dict=none) ∨
   (T="dict"/\((∃kvs,H p=some (.dK kvs))∨∃kvs,H p=some (.dT kvs)))∨(T="set"/\∃S n,H p=some (.set S n))
 |_=>False
theorem Fu{pins:List (ε×aJ)}{σ:St}{H:Hp}{s:η}{T:String}{x:V}{v:δ}(I:Inv X pins σ H s)(r:RelV x v)(ty:K3 X.K T x H):
  s.TypeIs v T/\∀a,v=.ref a->∃ob,s.heap.get? a=some ob/\ob.dict=none:=by
 cases x with
 |str z=>
  obtain⟨t,rfl⟩:=r;cases (show T="str" from ty);exact⟨i9 s z t,fun _ e=>nomatch e⟩
 |int i=>
  obtain⟨t,rfl⟩:=r;cases (show T="int" from ty);exact⟨typeIs_int s i t,fun _ e=>nomatch e⟩
 |ref p=>
  cases r;rcases ty with⟨rfl,xs,hq⟩|⟨rfl,o,hk,hc,hd⟩|⟨rfl,hk⟩|⟨rfl,S,n,hk⟩
  ·obtain⟨its,_,pl,_⟩:=I.list hq;refine⟨pl.isList.typeIs,fun a e=>?_⟩;cases e;obtain⟨o,n,e,c,hd,_⟩:=pl;exact⟨o,e,hd⟩
  ·refine⟨⟨o,I.kh p o hk,hc⟩,fun a e=>?_⟩;cases e;exact⟨o,I.kh _ o hk,hd⟩
  ·have z:∃o,s.heap.get? p=some o/\o.ExactDict:=by
    rcases hk with⟨kvs,hk⟩|⟨kvs,hk⟩
    ·obtain⟨_,_,_,_,o,_,_,e,ex,_⟩:=I.bD p _ hk;exact⟨o,e,ex⟩
    ·obtain⟨_,_,_,_,o,_,_,e,ex,_⟩:=I.bD p _ hk;exact⟨o,e,ex⟩
   obtain⟨o,e,ex⟩:=z;refine⟨⟨o,e,ex.1⟩,fun a e2=>?_⟩;cases e2;exact⟨o,e,ex.2.1⟩
  ·obtain⟨o,_,_,_,e,ex,_⟩:=I.bD p _ hk;refine⟨⟨o,e,ex.1⟩,fun a e2=>?_⟩;cases e2;exact⟨o,e,ex.2.1⟩
 |_=>exact ey ty
def CO(K:ζ)(T:String)(r:V->List V->Hp->VK->Prop)(to:TE)(t:TA):TE:=fun σ H Q=>to σ H fun x H1=>K3 K T x H1/\t σ H1 fun xs H2=>r x xs H2 Q
variable {o e:ν} {es:List ν} {to:TE} {t:TA} {name:π} {apos cpos:aE} {T id:String} {r:V->List V->Hp->VK->Prop}
theorem C5(pa:PlainAttrs T)(slot:Slot T name id)(hty:typeOf (.builtin id)=pure (.type "method_descriptor"))(hm:wa X id r)(ho:PE X o to)(ha:PA X (e::es) t)
  (rZ:attributeBase o name X.env (eval o X.env)=eval o X.env:=by rfl)
  (vF:((backTo cpos (ba (e::es) X.env)).all (fun x=>!x.1)&&(backToKw cpos (keywordEach [] X.env)).all (fun x=>x.1.isSome)
   && decide ((e::es).length+([]:List mW).length+(if ([]:List mW).isEmpty then 0 else 1)<30))=true:=by rfl)
  (rY:(apos.endLine==cpos.line)=true:=by rfl) (hs:ba (e::es) X.env=(false,eval e X.env)::ba es X.env:=by rfl) (hplain:(backTo cpos (ba es X.env)).any (·.1)=false:=by rfl):
  PE X (.Call (.Attribute o name apos) (e::es) [] cpos) (CO X.K T r to t):=by
 intro pins s σ H Q I h;refine wpAny_Call_method_late rZ vF rY rfl (bq (ho pins s σ H _ I h) fun v s1 ⟨x,H1,I1,r1,ty,q1⟩=>?_);obtain⟨h1,h2⟩:=Fu I1 r1 ty;refine⟨T,id,pa,slot,hty,h1,h2,?_⟩;have hA:=ha cpos pins s1 σ H1 _ I1 q1;rw[hs] at hA ⊢;refine Calls.callWith_builtin (by show (false||(backTo cpos (ba es X.env)).any (·.1))=false;rw[hplain]<;>rfl) (Calls.evalArgs_plain ?_)
 exact bq hA fun us s2 ⟨vs,H2,I2,r2,q2⟩=>hm pins s2 σ H2 x vs v us Q I2 r1 r2 q2
/- xs.append(e),list.index on a module's tuple .. are wa facts of 06m -/
end
end L2
namespace L2
open PySem PySem.Spec PyProof.Rows
def IJ(X:Cx)(id:String)(r:V->List V->Hp->VK->Prop):Prop:=
 ∀(pins:List (ε×aJ)) (s:η) (σ:St) (H:Hp) (x:V) (xs:List V) (v:δ) (us:List δ) (Q:VK),Inv X pins σ H s->RelV x v->aH xs us->r x xs H Q ->
  ρ (model X.prog X.w) X.A (call (.builtin id) (v::us)) (EP X pins σ Q) X.xe s
theorem aH.one:∀{x:V} {us:List δ},aH [x] us->∃u,us=[u]/\RelV x u
 |_,_,.cons r .nil=>⟨_,rfl,r⟩
theorem aH.zero:∀{us:List δ},aH [] us->us=[]
 |_,.nil=>rfl
theorem aH.eraseIdx:∀{xs:List V} {us:List δ} (i:Nat),aH xs us->aH (xs.eraseIdx i) (us.eraseIdx i)
 |_,_,_,.nil=>.nil
 |_,_,0,.cons _ t=>t
 |_,_,i+1,.cons r t=>.cons r (aH.eraseIdx i t)
theorem aH.rep{xs:List V}{us:List δ}(h:aH xs us):∀k:Nat,aH (aV k xs).flatten (aV k us).flatten
 |0=>.nil
 |k+1=>by
  rw[dy,dy,fF,fF];exact aH.append h (aH.rep h k)
theorem pq{α:Type}:∀(l:List α) (i:Nat),(l.eraseIdx i).length≤l.length
 |[],_=>Γ _
 |_::_,0=>Nat.le_succ _
 |_::r,i+1=>Nat.succ_le_succ (pq r i)
theorem foldl_rep(its:List δ):∀(k:Nat) (acc:List δ),
  su (fun x1 x2=>x1++x2) acc.toArray (aV k its.toArray)=(acc++(aV k its).flatten).toArray
 |0,acc=>by simp
 |k+1,acc=>by
  have e:acc.toArray++its.toArray=(acc++its).toArray:=by simp
  have e2:(acc++its)++(aV k its).flatten=acc++(aV (k+1) its).flatten:=by
   rw[dy,fF,fG]
  rw[←e2,←foldl_rep its k (acc++its),←e,dy,List.foldl_cons]
section
variable {X:Cx} {pins:List (ε×aJ)} {σ:St} {H:Hp} {s:η} {l b:ε} {xs ys zs:List V}
theorem Inv.BN{its its':List δ}{n:Nat}{f:Array δ->Array δ}{t':Nat}(I:Inv X pins σ H s)(hH:H l=some (.lst xs))
  (e:s.heap.get? l=some { cls:=.type "list",data:=.seq its.toArray n }) (hf:f its.toArray=its'.toArray) (hv:aH ys its') (hz:ys.length≤Φ):
  Inv X pins σ (upd H l (.lst ys)) { s with heap:=s.heap.update l (aL f),toks:=t' }:=by
 have q:=PySem.IsL.update e f;rw[hf] at q;refine I.write (x:=l) (e:=l) (by rw[hH];exact trivial) (.inl rfl) (fun b' u hb hu=>(dG s.heap (aL f) (eZ hb)).trans hu) ⟨_,q⟩ ?_;exact⟨hz,its',_,hv,q⟩
theorem Inv.yu{its:List δ}{t':Nat}(I:Inv X pins σ H s)(hv:aH ys its)(hz:ys.length≤Φ):
  Inv X pins σ (upd H s.heap.objs.size (.lst ys)) { s with heap:=s.heap.push { cls:=.type "list",data:=.seq its.toArray },toks:=t' }:=
 I.laid (fun _ _ q=>θ _ q) (Γ _) ⟨hz,its,0,hv,Ξ _ rfl⟩
theorem Inv.fresh(I:Inv X pins σ H s):H s.heap.objs.size=none:=I.bD.fresh (Γ _)
theorem Inv.qQ(I:Inv X pins σ H s)(hH:H l=some (.lst xs)):xs.length≤Φ/\∃(its:List δ) (n:Nat),aH xs its/\xs.length=its.length/\s.heap.get? l=some { cls:=.type "list",data:=.seq its.toArray n }:=by
 obtain⟨z,its,n,r,e⟩:=I.bD l _ hH;exact⟨z,its,n,r,r.length,e⟩
theorem ve{n:Nat}(h:n≤Φ):eU n=false:=by
 unfold eU;exact decide_eq_false (by lia)
end
section
variable {X:Cx}
def wR:V->List V->Hp->VK->Prop:=fun x vs H Q=>∃l xs y,x=.ref l/\vs=[y]/\H l=some (.lst xs)/\xs.length<Φ/\Q .ao (upd H l (.lst (xs++[y])))
theorem pj:IJ X "list.append" wR:=by
 intro pins s σ H x vs v us Q I rx rv h;obtain⟨l,xs,y,rfl,rfl,hH,hz,q⟩:=h;cases rx;obtain⟨u,rfl,ru⟩:=rv.one;obtain⟨z,its,n,r,hl,e⟩:=I.qQ hH;refine fi F.slot_list_append ⟨_,e,rfl⟩ F.entry_list_append (F.args_list_append_2 _ _) (PySem.list_append l its.toArray n u (by rw[χ];lia)) ⟨e,?_⟩;refine⟨.ao,_,I.BN (its':=its++[u]) hH e (by simp) (r.append (.cons ru .nil)) ?_,rfl,q⟩;rw[az,fR];lia
def Ed:V->List V->Hp->VK->Prop:=fun x vs H Q=>∃l b xs zs,x=.ref l/\vs=[.ref b]/\H l=some (.lst xs)/\H b=some (.lst zs)/\xs.length+zs.length≤Φ/\Q .ao (upd H l (.lst (xs++zs)))
theorem K6:IJ X "list.extend" Ed:=by
 intro pins s σ H x vs v us Q I rx rv h;obtain⟨l,b,xs,zs,rfl,rfl,hH,hB,hz,q⟩:=h;cases rx;obtain⟨u,rfl,ru⟩:=rv.one;cases ru;obtain⟨z,its,n,r,hl,e⟩:=I.qQ hH;obtain⟨z2,its2,n2,r2,hl2,e2⟩:=I.qQ hB;have jo:its.toArray.size+its2.toArray.size≤Φ:=by rw[χ,χ];lia
 have hlong:¬(!its.toArray.isEmpty&&eU (its.toArray.size+its2.toArray.size))=true:=by
  rw[ve jo,fS];exact af
 refine fi F.slot_list_extend ⟨_,e,rfl⟩ F.entry_list_extend (F.args_list_extend_2 _ _)
  (AutoSeq1.list_extend_list_list_0 l its.toArray n b its2.toArray n2 hlong (by rw[χ];lia) (by lia)) ⟨e,e2,?_⟩
 refine⟨.ao,_,I.BN (its':=its++its2) hH e (by simp) (r.append r2) ?_,rfl,q⟩;rw[az];lia
def zT:V->List V->Hp->VK->Prop:=fun x vs H Q=>∃l xs i k y,x=.ref l/\vs=[.int i]/\H l=some (.lst xs)/\-(2^63)≤i/\i<2^63/\seqIndex? i xs.length=some k/\xs[k]?=some y/\Q y (upd H l (.lst (xs.eraseIdx k)))
theorem BL:IJ X "list.pop" zT:=by
 intro pins s σ H x vs v us Q I rx rv h;obtain⟨l,xs,i,k,y,rfl,rfl,hH,h1,h2,hk,hy,q⟩:=h;cases rx;obtain⟨u,rfl,ru⟩:=rv.one;obtain⟨t,rfl⟩:=ru;obtain⟨z,its,n,r,hl,e⟩:=I.qQ hH;obtain⟨w,hw,rw'⟩:=r.get hy;refine fi F.slot_list_pop ⟨_,e,rfl⟩ F.entry_list_pop (F.args_list_pop_2 _ _)
  (MeetsSeq.list_pop_at l its.toArray n i t k w (fitsIndex_both h1 h2) (by rw[χ,←hl];exact hk) (by rw[←ak];exact hw) (by rw[χ];lia)) ⟨e,?_⟩
 refine⟨y,_,I.BN (its':=its.eraseIdx k) hH e ?_ (r.eraseIdx k) ?_,rw',q⟩
 ·show its.toArray.eraseIdxIfInBounds k=(its.eraseIdx k).toArray;rw[List.eraseIdxIfInBounds_toArray]
 ·have:=pq xs k;lia
def Gg:R2:=fun x y H Q=>∃l b xs zs,x=.ref l/\y=.ref b/\H l=some (.lst xs)/\H b=some (.lst zs)/\xs.length+zs.length≤Φ/\∀p,H p=none->Q (.ref p) (upd H p (.lst (xs++zs)))
theorem GJ:cy X (binaryOp .Add) Gg:=by
 intro pins s σ H x y v u Q I rx ry h;obtain⟨l,b,xs,zs,rfl,rfl,hH,hB,hz,q⟩:=h;cases rx;cases ry;obtain⟨z,its,n,r,hl,e⟩:=I.qQ hH;obtain⟨z2,its2,n2,r2,hl2,e2⟩:=I.qQ hB;refine PySem.P.add_list e e2 ?_ (by rw[χ,χ];lia);have ea:its.toArray++its2.toArray=(its++its2).toArray:=by simp
 rw[ea];exact⟨.ref _,_,I.yu (t':=s.toks) (r.append r2) (by rw[az];lia),rfl,q _ I.fresh⟩
def FX:R2:=fun x y H Q=>∃l k xs,x=.ref l/\y=.int k/\H l=some (.lst xs)/\-(2^63)≤k/\k<2^63/\xs.length*k.toNat≤Φ ∧
 ∀p,H p=none->Q (.ref p) (upd H p (.lst (aV k.toNat xs).flatten))
theorem len_rep{α:Type}(xs:List α)(k:Nat):(aV k xs).flatten.length=k*xs.length:=by
 induction k with
 |zero=>simp
 |succ k ih=>rw[dy,fF,az,ih,Nat.succ_mul,Nat.add_comm]
theorem GG:cy X (binaryOp .Mult) FX:=by
 intro pins s σ H x y v u Q I rx ry h;obtain⟨l,k,xs,rfl,rfl,hH,h1,h2,hz,q⟩:=h;cases rx;obtain⟨t,rfl⟩:=ry;obtain⟨z,its,n,r,hl,e⟩:=I.qQ hH;have hlen:its.toArray.size*k.toNat≤Φ:=by rw[χ,←hl];exact hz
 have hcap:¬its.toArray.size*k.toNat > (2^63-1) / 8:=by
  have:(Φ:Nat)≤(2^63-1) / 8:=by decide
  lia
 have hfit:¬(!dC.List.listFitsIndex k)=true:=by
  rw[fitsIndex_both h1 h2];exact af
 have hlong:¬eU (its.toArray.size*k.toNat)=true:=by
  rw[ve hlen];exact af
 have hnew:su (fun x1 x2=>x1++x2) #[] (aV (if its.toArray.isEmpty=true then 0 else k.toNat) its.toArray)=(aV k.toNat its).flatten.toArray:=by
  have f0:∀m:Nat,su (fun x1 x2=>x1++x2) #[] (aV m its.toArray)=(aV m its).flatten.toArray:=fun m=>by
   have:=foldl_rep its m [];rw[de] at this;exact this
  rw[f0];cases its with
  |nil=>simp
  |cons a r'=>rw[if_neg (by simp)]
 refine wpAny_binaryOp_repeat_ref (T:="list") (U:="int") (by decide) ⟨_,e,rfl⟩ (fun s'=>typeIs_int s' k t) noFill_list_mul F.fills_int_mul F.slot_int_rmul repeat_list F.slot_int_index.lookup
  (fi F.slot_int_rmul (typeIs_int s k t) F.entry_int_rmul (F.args_int_rmul_2 _ _) (int___rmul___int_list k t l its.toArray n)
   ⟨e,rfl,⟨_,e,rfl⟩,fi F.slot_list_mul ⟨_,e,rfl⟩ F.entry_list_mul (F.args_list_mul_2 _ _) (AutoListH.list___mul___list_int_3 l its.toArray n k t hfit hcap hlong) ⟨e,?_⟩⟩)
 rw[hnew];exact⟨.ref _,_,I.yu (t':=s.toks) (r.rep k.toNat) (by rw[len_rep,Nat.mul_comm];exact hz),rfl,q _ I.fresh⟩
end
end L2
namespace Ld
open PySem PySem.W PySem.Calls PyProof.Rows
theorem rX{P:Params}{h:ae}:∀(ns:List Int) (vs:List δ),WellAll P h vs (ns.map WData.int)->eI vs ns:=by
 intro ns
 induction ns with
 |nil=>
  intro vs w;rw[List.map_nil] at w;cases w;exact .nil
 |cons n ns ih=>
  intro vs w;rw[cn] at w;cases w with
  |cons a b=>
   cases a;exact .cons _ _ (ih _ b)
theorem zI{l:OpenLaw}{n:Nat}(hn:l.most=some n){P:Params}{h:ae}{args:List WData}{vals:List δ}
  (yy:l.row.toRowW.claim.pre args=true) (hwl:WellAll P h vals args):
  ∃a vs ns,vals=[bh a]/\args=[WData.list (ns.map WData.int)]/\h.get? a=some { cls:=.type "list",data:=.seq vs.toArray }/\eI vs ns/\ns.length≤n:=by
 have hsh:WShape.hasAll [] args [.list .int]=true:=(pre_splitW yy).1;have hc:l.pre.holds [] { args:=args }=true:=(pre_splitW yy).2;obtain⟨d,r,rfl,h1,h2⟩:=hasAllW_cons hsh;obtain rfl:=hasAllW_nil h2;obtain⟨xs,rfl,h3⟩:=hasW_list h1;obtain⟨ns,rfl⟩:=items_int h3;have hlen:ns.length≤n:=by
  unfold OpenLaw.pre at hc;have h4:(WTm.not (.lt (.lit (.int (n:Int))) (.len (.arg 0)))).holds [] { args:=[.list (ns.map .int)]}=true:=by
   have h4:=(holds_andW hc).1;rw[hn] at h4;exact h4
  have h5:=condW_of h4 (w_not (w_lt w_lit (w_len_list (w_arg rfl))));rw[ξ] at h5;refine lh fun q=>?_;have q':(n:Int)<((ns.length:Nat):Int):=by lia
  first
   | (rw[decide_eq_true q'] at h5;exact absurd h5 (by decide))
   | (simp at h5;lia)
 cases hwl with
 |cons w1 w2=>
  cases w2;cases w1 with
  |list ho hall=>exact⟨_,_,ns,rfl,rfl,ho,rX ns _ hall,hlen⟩
theorem Ab(l:OpenLaw)(args:List WData):l.row.toRowW.claim.post args (.bool true) args=true:=
 postW_of (r:=l.row.toRowW) (X:=(true==true))
  (show WShape.has [] (.bool true) .bool=true by first|rfl|decide|simp[WShape.has,WShape.arms,WShape.armsAll])
  (show (WTm.eq .res (.lit (.bool true))).value [] { args:=args,res:=some (.bool true),after:=args }=some (.bool (true==true)) from w_eq_bool (w_res rfl) w_lit) rfl
theorem wC{l:OpenLaw}{n:Nat}{q:ah}{loose:List π}{XP:(π->Option δ)->ae->Prop}{YP:ar->ae->Prop}{d:DefRec}
  (hn:l.most=some n) (hdf:d.params.defaults=[])
  (call:∀(w:ar) (s₀ s₁:η) (mg mb:π->Option δ) (fa:ε) (o:aJ) (pm cd doc:δ) (a:ε) (vs:List δ) (ns:List Int),
   Ground q loose [] XP w s₀ mg mb s₁.heap->YP w s₁.heap ->
   s₁.heap.get? fa=some o->o.data=.func (docDef d.name d.params d.body d.scope pm cd doc)->s₁.heap.CodeRec cd d.name->mg d.name=some (.ref fa) ->
   s₁.heap.get? a=some { cls:=.type "list",data:=.seq vs.toArray }->eI vs ns->ns.length≤n->s₁.gens = #[] ->
   iL (model l.prog w) callerA (.call (.ref fa) ⟨[.ref a],[]⟩) (fun r s'=>r=.ok (.ret (.bool true))/\OldK s₁.heap s'.heap/\s'.os=s₁.os/\iO s'.gens) s₁):
  WalkO q loose XP YP l.row.toRowW d [] (fun f vs=>sk f vs):=by
 intro w s₀ s₁ mg mb G Y fa o pm cd doc dV kV ho hd pB hD hmg hg args vals as yy hlay Dp hwl hlo;obtain rfl:dV=.none:=Dflts.none hD hdf;obtain rfl:kV=.none:=Dflts.noKw hD;obtain⟨a,vs,ns,rfl,rfl,hobj,hints,hlen⟩:=zI hn yy hwl;refine enter_call (jb (call w s₀ s₁ mg mb fa o pm cd doc a vs ns G Y ho (fd_plain hd) pB hmg hobj hints hlen hg) fun r s' hq=>?_);obtain⟨rfl,h2,h3,h4⟩:=hq;exact⟨.inl ⟨.bool true,.bool true,[],rfl,fun _=>rfl,.bool true,Ab l _,fun _=>⟨kl,fun _ hm=>(nomatch hm)⟩⟩,h2,h3,h4⟩
end Ld
namespace L2
open PySem PySem.Spec PyProof.Rows
theorem tu:∀{vs:List δ} {ns:List Int},eI vs ns->aH (ns.map V.int) vs
 |_,_,.nil=>.nil
 |_,_,.cons n t h=>.cons ⟨t,rfl⟩ (tu h)
def y9(H:Hp):Prop:=∀b,H b=none∨∃o xs,H b=some (.fx o (.lst xs))
theorem BQ{P:ah}{w:ar}{K:ζ}{mg mb:π->Option δ}{CX:oh}{k:Nat}{fa a:ε}{fd:aM}{x:π}{sp:Sp}{s₁:η}{vs:List δ}{ns:List Int}
  (KX:K.In s₁.heap) (hns:s₁.heap.Ns aI mg) (hb:s₁.heap.Ns builtinsNs mb) (hbb:∀x:π,x≠"__name__"->mb x=eN x) (hlim:s₁.heap.NoLimit) (hg:s₁.gens = #[])
  (ha:s₁.heap.get? a=some { cls:=.type "list",data:=.seq vs.toArray }) (hi:eI vs ns) (hl:ns.length≤Φ) (hr:eL k callerA)
  (F:∀base:ae,K.In base->base.Ns aI mg->hJ P w K mg base CX k fa fd [x] sp) (hbind:∀(s:η) (u:δ),mX s fd ⟨[u],[]⟩ [(x,u)])
  (tL:∀H:Hp,y9 H->du K H a (ns.map V.int)->sp [.ref a] H (fun v _=>v=.bl true) fun _ _ _=>False)
  (HZ:∀H e s',CX [] H s₁ (fun _ _ _=>False) e s'->False):
  iL (model P w) callerA (.call (.ref fa) ⟨[.ref a],[]⟩) (fun r s'=>r=.ok (.ret (.bool true))/\OldK s₁.heap s'.heap/\s'.os=s₁.os/\iO s'.gens) s₁:=by
 have rv:=tu hi;have lenV:=hi.length
 -- from an abstract heap in which nothing but the script may be tracked
 have core:∀H:Hp,y9 H->du K H a (ns.map V.int)->gG P w H s₁.heap->(∀b,H b≠none->b=a)->(H a≠none->K.lookup a=none) ->
   iL (model P w) callerA (.call (.ref fa) ⟨[.ref a],[]⟩) (fun r s'=>r=.ok (.ret (.bool true))/\OldK s₁.heap s'.heap/\s'.os=s₁.os/\iO s'.gens) s₁:=by
  intro H hO hS bD hA hK;have base_of:∀{b:ε} {o:aJ},s₁.heap.get? b=some o->H b=none->(nB s₁.heap H).get? b=some o:=fun e n=>BY e n;have noA:∀{b:ε} {o:aJ} {es:Array DictEntry} {ep:Nat},s₁.heap.get? b=some o->o.data=.dict es ep->H b=none:=fun {b o es ep} e d=>by
   cases q:H b with
   |none=>rfl
   |some u=>
    have e':b=a:=hA b (by rw[q];simp);subst e';rw[ha] at e;cases e;have d':Data.seq vs.toArray _=Data.dict es ep:=d;cases d'
  have nsK:∀{b:ε} {m:π->Option δ},s₁.heap.Ns b m->(nB s₁.heap H).Ns b m:=fun {b m} ⟨o,es,ep,e,d,r⟩=>⟨o,es,ep,base_of e (noA e d),d,r⟩;have hKb:K.In (nB s₁.heap H):=fun b o e=>base_of (KX b o e) (by
   cases q:H b with
   |none=>rfl
   |some u=>
    have e':b=a:=hA b (by rw[q];simp);subst e';rw[hK (by rw[q];simp)] at e;cases e)
  have hM:Mod K mg (nB s₁.heap H):=⟨hKb,nsK hns,⟨mb,nsK hb,hbb⟩,let ⟨mc,h1,h2⟩:=hlim;⟨mc,nsK h1,h2⟩⟩
  have e0:zc P w K mg (nB s₁.heap H) callerA [] s₁ H:=⟨rfl,hM,fun b o e=>EC e,Nat.le_of_eq (AD _ _),trivial,fun b hb=>absurd (show b∈([]:List ε) from hb) (by simp),bD,.of_eq hg⟩;refine jb ((F _ hKb (nsK hns)).run callerA [] s₁ H ⟨[.ref a],[]⟩ [.ref a] [.ref a] _ _ hr e0 (hbind s₁ (.ref a)) (.cons rfl .nil) (tL H hO hS)) fun r s' h=>?_;cases r with
  |error e=>exact (HZ H e s' h).elim
  |ok fl=>
   cases fl with
   |next=>exact ey h
   |brk=>exact ey h
   |cont=>exact ey h
   |ret u=>
    obtain⟨v,H',os,bare,un,hok',r',q⟩:=h;have q':v=.bl true:=q;subst q';obtain rfl:u=jc true:=r';refine⟨rfl,OldK.of_keep fun b o e=>?_,os,bare⟩;cases q:H b with
    |none=>exact un.keep b o e q (by intro z;exact absurd (show b∈([]:List ε) from z) (by simp)) (by simp)
    |some u=>
     rcases hO b with z|⟨ob,xs,z⟩
     ·rw[q] at z;cases z
     ·have z2:=un.nE b ob _ z;obtain⟨e1,_⟩:=bD b _ z;obtain⟨e2,_⟩:=hok' b _ z2;rw[e] at e1;cases e1;exact e2
 cases hk:K.lookup a with
 |some o=>
  -- the script is one of the module's own objects
  have e:=KX a o hk;rw[ha] at e;cases e;refine core (fun _=>none) (fun _=>.inl rfl) (.inr ⟨_,vs.toArray,_,hk,rfl,rfl,rfl,by rw[χ,lenV];exact hl,by simpa using rv⟩) (fun b u z=>by have z':(none:Option HO)=some u:=z;cases z') (fun b z=>absurd rfl z) fun z=>absurd rfl z
 |none=>
  refine core (fun b=>if b=a then some (.fx { cls:=.type "list",data:=.seq vs.toArray } (.lst (ns.map V.int))) else none) (fun b=>?_) (.inl (.inr ⟨{ cls:=.type "list",data:=.seq vs.toArray },if_pos rfl⟩)) (fun b u z=>?_) (fun b z=>?_) fun _=>hk
  ·by_cases hb:b=a
   ·exact .inr ⟨_,_,if_pos hb⟩
   ·exact .inl (if_neg hb)
  ·by_cases hb:b=a
   ·have z':=(if_pos hb).symm.trans z;cases z';subst hb;exact⟨ha,by rw[ξ];exact hl,vs,_,rv,ha⟩
   ·have z':=(if_neg hb).symm.trans z;cases z'
  ·by_cases hb:b=a
   ·exact hb
   ·exact absurd (if_neg hb) z
end L2
namespace L2
open PySem PySem.Spec PyProof.Rows
theorem wF{l:sm}{n k:Nat}{q:ah}{loose:List π}{XP:(π->Option δ)->ae->Prop}{YP:ar->ae->Prop}{d:DefRec}{K:Params->ζ}{CX:ar->oh}{sp:ar->Sp}{x:π}
  (hn:l.most=some n) (hn2:n≤Φ) (hdf:d.params.defaults=[]) (hr:eL k callerA)
  (hY:∀(w:ar) (h:ae),YP w h->(K w.params).In h)
  (F:∀(w:ar) (mg:π->Option δ) (fa:ε) (h:ae),(K w.params).In h->h.Ns aI mg->mg d.name=some (.ref fa) ->
   ∃fd:aM,(∀(s:η) (u:δ),mX s fd ⟨[u],[]⟩ [(x,u)]) ∧
    ∀base:ae,(K w.params).In base->base.Ns aI mg->hJ l.prog w (K w.params) mg base (CX w) k fa fd [x] (sp w))
  (tL:∀(w:ar) (H:Hp) (a:ε) (ns:List Int),ns.length≤n->y9 H->du (K w.params) H a (ns.map V.int)->sp w [.ref a] H (fun v _=>v=.bl true) fun _ _ _=>False)
  (HZ:∀(w:ar) (H:Hp) (s:η) (e:δ) (s':η),CX w [] H s (fun _ _ _=>False) e s'->False):
  PySem.W.WalkO q loose XP YP l.row.toRowW d [] (fun f vs=>sk f vs):=by
 refine Ld.wC hn hdf fun w s₀ s₁ mg mb fa o pm cd doc a vs ns G Y ho hd pB hmg hobj hints hlen hg=>?_;have KX:=hY w _ Y;obtain⟨fd,hb,hF⟩:=F w mg fa _ KX G.T.g hmg;exact BQ KX G.T.g G.T.b G.T.builtins G.T.nolimit hg hobj hints (bc hlen hn2) hr hF hb (fun H hO hS=>tL w H a ns hlen hO hS) fun H e s'=>HZ w H s₁ e s'
end L2
/- THE LAST THEOREM (shape;LID,My.* are yours):
  My.DF: a structure of the addresses that your layer names (classes,functions);My.Txt K t: a structure (Prop) of the equations over K;
  My.uw:{K} {implicit addresses ..} (e1:nsIn K aI "law" = some (some (.ref f))) (e2:K.lookup f=some ⟨oc,od,.func (fnOf "law" "law" params body scope dV kV doc pm an cdv ct),sl⟩) (e3:codeIn K cdv "law" = true) ..:∃t,My.Txt K t
set_option maxRecDepth 100000 in
set_option maxHeartbeats 0 in
theorem PySem.Challenge.cw_LID_holds : PySem.Challenge.rw_LID.Holds := by
 w_on;o_law;k_head;(case hw=>w_witness2)
 k_fill
 refine L2.wF (l:=PySem.Challenge.rw_LID) (n:=63) (k:=40) (x:="script") (CX:=fun w=>..) (sp:=fun _=>My.jS) rfl (by decide) rfl ⟨rfl,by decide,by decide⟩ (fun w h Y=>PySem.W.kIn_of Y) ?F ?S ?C
 case F=>
  intro w mg fa h KX G hmg
  have T:∃t,My.Txt (L2.KOf KX) t:=by
   dsimp only[L2.KOf]                          -- K must stand as «<heap const> w.params» for k_is
   refine' My.uw ?e1 ?e2 ?e3 ..
   (case e1=>PySem.W.k_is)                    -- in the order: a name -> its address -> its object -> its parts
   (case e2=>PySem.W.k_is)
   ..
  obtain⟨t,T⟩:=T
  have e0:=hmg.symm.trans (aF KX G T.law)
  cases e0                                       -- fa is the law's own address
  exact⟨_,fun s u=>.of_eq rfl,fun base kb nb=>My.law_fn T kb nb⟩     -- if «.of_eq rfl» comes too early: refine' ⟨_,?b,fun base kb nb=>My.law_fn T kb nb⟩;exact fun s u=>.of_eq rfl
 case S=>exact fun w H a ns hl hO hS=>..
 case C=>exact ..
(the tactic k_is has no namespace: write k_is) -/
namespace L2
open PySem PySem.Spec PyProof.Rows
def mK(s:aU):Arguments:=match s with
 |.FunctionDef _ a _ _ _ _ _ _ _ _=>a
 |_=>{ posonlyargs:=[],args:=[],vararg:=none,kwonlyargs:=[],kw_defaults:=[],kwarg:=none,defaults:=[]}
def iJ(s:aU):List aU:=match s with
 |.FunctionDef _ _ b _ _ _ _ _ _ _=>b
 |_=>[]
def ax(s:aU):fD:=match s with
 |.FunctionDef _ _ _ _ _ _ sc _ _ _=>sc
 |_=>{ kind:=.function,names:=[],isGenerator:=false,isCoroutine:=false }
abbrev tZ:oh:=fun _ _ _ _ _ _=>False
abbrev E0:XK:=fun _ _ _=>False
theorem JH{X:Cx}:v7 tZ X E0:=fun _ _ _ _ _ _ _ h=>h.elim
structure fA(K:ζ)(x qual:π)(st:aU)(f:ε)(fd:aM):Prop where
 ex:∃(oc:δ) (od:Option ε) (kV doc pm:δ) (an:Option ε) (cdv ct:δ) (osl:Array (Option δ)),
  fd=fQ x qual (mK st) (iJ st) (ax st) .none kV doc pm an cdv ct/\K.lookup f=some ⟨oc,od,.func fd,osl⟩/\jG K cdv qual=true
 kp:fP K (.ref f)=true
section
variable {P:ah} {w:ar} {K:ζ} {mg:π->Option δ} {base:ae}
theorem fA.ok{x qual:π}{st:aU}{f:ε}{fd:aM}{N ps:List π}{k:Nat}{sp:Sp}(F:fA K x qual st f fd)(S:bR N ps (ax st))(len:∀vs H Q E,sp vs H Q E->vs.length=ps.length)
  (nC:∀(cdv:δ) (A:bo) (outer:List fV) (s:η) (H:Hp) (vs:List V) (Q:VK) (E:XK),eL k (A.deeper (envOfC qual (ax st) s.heap.objs.size f cdv))->sp vs H Q E ->
   ∃t,kS (pF tZ P w K mg base N qual (ax st) f cdv A outer s H E).w9 (iJ st) t/\t { nx:=fun _ H'=>Q .ao H',rt:=Q } (start N vs) H):hJ P w K mg base tZ (k+1) f fd ps sp:=by
 obtain⟨oc,od,kV,doc,pm,an,cdv,ct,osl,rfl,lk,pB⟩:=F.ex;refine Ks lk pB S len fun A outer s H vs Q E hr tL=>?_;obtain⟨t,h,q⟩:=nC cdv A outer s H vs Q E hr tL;exact⟨t,h.w9,q⟩
theorem fA.binds{x qual:π}{st:aU}{f:ε}{fd:aM}{ps:List π}(F:fA K x qual st f fd)
  (h:∀(kV doc pm:δ) (an:Option ε) (cdv ct:δ) (us:List δ),us.length=ps.length->bindArgs (fQ x qual (mK st) (iJ st) (ax st) .none kV doc pm an cdv ct) ⟨us,[]⟩=pure (ps.zip us)):Binds K fd ps []:=by
 obtain⟨oc,od,kV,doc,pm,an,cdv,ct,osl,rfl,lk,pB⟩:=F.ex;exact .all (h kV doc pm an cdv ct)
theorem Ia{x qual:π}{st:aU}{f:ε}{oc:δ}{od an:Option ε}{osl:Array (Option δ)}{kV doc pm cdv ct:δ}(l:K.lookup f=some ⟨oc,od,.func (fQ x qual (mK st) (iJ st) (ax st) .none kV doc pm an cdv ct),osl⟩)
  (c:jG K cdv qual=true) (k:fP K (.ref f)=true):fA K x qual st f (fQ x qual (mK st) (iJ st) (ax st) .none kV doc pm an cdv ct):=⟨⟨oc,od,kV,doc,pm,an,cdv,ct,osl,rfl,l,c⟩,k⟩
end
section
variable {X:Cx}
theorem pv(i:Nat){x:π}{pos:aE}(hN:X.N[i]?=some x:=by rfl)(hv:IE X.env.scope x:=by first|exact pN rfl|exact mU (pN rfl)|exact mU (mU rfl))(hd:(x==("__debug__":π))=false:=by decide)
  (pB:(x==("__classdict__":π))=false:=by decide):PE X (.Name x pos) (xK i):=Gw hN hv hd pB
end
end L2
namespace L3
open PySem PySem.Spec PyProof.Rows L2
inductive D where
 |ao|bl (b:Bool)|int (i:Int)|str (x:π)|tup (xs:List D)|eW (xs:List D)|obj (a:ε)|dc (a:ε)
def nZ(K:ζ)(H:Hp)(a:ε)(xs:List V):Prop:=
 (∃o,H a=some (.fx o (.lst xs))) ∨
  ∃(o:aJ) (its:Array δ) (n:Nat),K.lookup a=some o/\o.cls=.type "list"/\o.dict=none/\o.data=.seq its n/\its.size≤Φ/\aH xs its.toList
theorem nZ.l{K:ζ}{H:Hp}{a:ε}{xs:List V}(h:nZ K H a xs):du K H a xs:=by
 rcases h with h|h
 ·exact .inl (.inr h)
 ·exact .inr h
mutual
def Hv(K:ζ)(H:Hp):D->V->Prop
 |.ao,v=>v=.ao
 |.bl b,v=>v=.bl b
 |.int i,v=>v=.int i
 |.str x,v=>v=.str x
 |.tup ds,v=>∃a vs,v=.ref a/\cJ K H a vs/\aw K H ds vs
 |.eW ds,v=>∃a vs,v=.ref a/\nZ K H a vs/\aw K H ds vs
 |.obj a,v=>v=.ref a
 |.dc a,v=>v=.ref a/\∃ob φ,H a=some (.fx ob (.ext φ))/\ob.cls=.type "dict"
def aw(K:ζ)(H:Hp):List D->List V->Prop
 |[],vs=>vs=[]
 |d::ds,vs=>∃v r,vs=v::r/\Hv K H d v/\aw K H ds r
end
inductive GO where
 |lst (ds:List D)|lM|ff
 |gen (R:ζ->ε->Hp->Prop)
def GO.plain:GO->Prop
 |.gen _=>False
 |_=>True
abbrev Gp:=ε->Option GO
def dA(G:Gp)(a:ε)(o:GO):Gp:=fun b=>if b=a then some o else G b
theorem cR{G:Gp}{a:ε}{o:GO}:dA G a o a=some o:=by simp[dA]
theorem dM{G:Gp}{a b:ε}{o:GO}(h:b≠a):dA G a o b=G b:=by simp[dA,h]
theorem A3{G:Gp}{a b:ε}{o u:GO}(hn:G a=none)(h:G b=some u):dA G a o b=some u:=by
 rw[dM]
 ·exact h
 ·intro e;rw[e,hn] at h;cases h
theorem zl{G:Gp}{a:ε}{o u:GO}:dA (dA G a o) a u=dA G a u:=by
 funext b;unfold dA;by_cases h:b=a
 ·rw[if_pos h,if_pos h]
 ·rw[if_neg h,if_neg h,if_neg h]
def qp(a b c:Int):Prop:=0≤a/\0≤c/\c<2147483647
def tY(K:ζ)(H:Hp)(a:ε):GO->Prop
 |.lst ds=>∃vs,H a=some (.lst vs)/\aw K H ds vs
 |.lM=>∃i j k,H a=some (.lst [.int i,.int j,.int k])/\qp i j k
 |.ff=>H a=some (.ext fun h=>∃o,h.get? a=some o/\o.cls=.type "dict")
 |.gen R=>R K a H/\(∃o,H a=some o/\(∀xs,o≠.tup xs)/\∀ob u,o≠.fx ob u)/\∀H1 H2:Hp,(∀b xs,H1 b=some (.tup xs)->H2 b=some (.tup xs))->(∀b o u,H1 b=some (.fx o u)->H2 b=some (.fx o u))->H2 a=H1 a->R K a H1->R K a H2
def aK(K:ζ)(G:Gp)(H:Hp):Prop:=∀a o,G a=some o->tY K H a o
structure Ext(H H':Hp):Prop where
 tup:∀b xs,H b=some (.tup xs)->H' b=some (.tup xs)
 fx:∀b o u,H b=some (.fx o u)->H' b=some (.fx o u)
theorem Ext.refl(H:Hp):Ext H H:=⟨fun _ _ h=>h,fun _ _ _ h=>h⟩
theorem Ext.trans{H H1 H2:Hp}(a:Ext H H1)(b:Ext H1 H2):Ext H H2:=⟨fun c x h=>b.tup c x (a.tup c x h),fun c o u h=>b.fx c o u (a.fx c o u h)⟩
structure Step(H:Hp)(G:Gp)(H':Hp)(G':Gp):Prop where
 fr:∀a o,H a=some o->G a=none->H' a=some o
 lF:∀a,H a≠none->H' a≠none
 new:∀a,G a=none->G' a≠none->H a=none
theorem Step.refl(H:Hp)(G:Gp):Step H G H G:=⟨fun _ _ h _=>h,fun _ h=>h,fun _ h1 h2=>absurd h1 h2⟩
theorem Step.trans{H H1 H2:Hp}{G G1 G2:Gp}(a:Step H G H1 G1)(b:Step H1 G1 H2 G2):Step H G H2 G2 where
 fr:=fun c o h n=>b.fr c o (a.fr c o h n) (by
  refine ay fun q=>?_;rw[a.new c n q] at h;cases h)
 lF:=fun c h=>b.lF c (a.lF c h)
 new:=fun c n q=>by
  by_cases h1:G1 c=none
  ·have h2:=b.new c h1 q;refine ay fun z=>?_;exact a.lF c z h2
  ·exact a.new c n h1
def Sub(G' G:Gp):Prop:=∀a o,G' a=some o->G a=some o
theorem Sub.refl(G:Gp):Sub G G:=fun _ _ h=>h
theorem Sub.trans{A B C:Gp}(a:Sub A B)(b:Sub B C):Sub A C:=fun x o h=>b x o (a x o h)
theorem Sub.upd{G:Gp}{a:ε}{o:GO}(h:G a=none):Sub G (dA G a o):=fun _ _ e=>A3 h e
theorem Sub.of_none{G' G:Gp}(s:Sub G' G){a:ε}(h:G a=none):G' a=none:=by
 cases e:G' a with
 |none=>rfl
 |some o=>
  rw[s a o e] at h;cases h
structure dv(G:Gp)(p:ε)(o:GO)(G':Gp):Prop where
 ao:G p=none
 sub:Sub G G'
 at_:G' p=some o
theorem dv.mk'{G:Gp}{p:ε}{o:GO}(h:G p=none):dv G p o (dA G p o):=⟨h,Sub.upd h,cR⟩
theorem Step.sub{H:Hp}{G G':Gp}(s:Sub G' G):Step H G H G':=⟨fun _ _ h _=>h,fun _ h=>h,fun a n q=>by
 exact absurd (s.of_none n) q⟩
section
variable {K:ζ} {H H':Hp} {G G':Gp}
theorem aK.sub(R:aK K G H)(s:Sub G' G):aK K G' H:=fun a o e=>R a o (s a o e)
theorem tY.mut{a:ε}{o:GO}(h:tY K H a o):∃o,H a=some o/\(∀xs,o≠.tup xs)/\∀ob u,o≠.fx ob u:=by
 cases o with
 |lst ds=>obtain⟨vs,e,_⟩:=h;exact⟨_,e,fun _=>nofun,fun _ _=>nofun⟩
 |lM=>obtain⟨i,j,k,e,_⟩:=h;exact⟨_,e,fun _=>nofun,fun _ _=>nofun⟩
 |ff=>exact⟨_,h,fun _=>nofun,fun _ _=>nofun⟩
 |gen R=>exact h.2.1
theorem aK.Lx(R:aK K G H){a:ε}{xs:List V}(e:H a=some (.tup xs)):G a=none:=by
 cases q:G a with
 |none=>rfl
 |some u=>
  obtain⟨o,z,h1,_⟩:=(R a u q).mut;rw[e] at z;exact absurd (ai z).symm (h1 xs)
theorem aK.outF(R:aK K G H){a:ε}{ob:aJ}{u:HO}(e:H a=some (.fx ob u)):G a=none:=by
 cases q:G a with
 |none=>rfl
 |some g=>
  obtain⟨o,z,_,h1⟩:=(R a g q).mut;rw[e] at z;exact absurd (ai z).symm (h1 ob u)
theorem aK.free(R:aK K G H){a:ε}(e:H a=none):G a=none:=by
 cases q:G a with
 |none=>rfl
 |some u=>
  obtain⟨o,z,_⟩:=(R a u q).mut;rw[e] at z;cases z
theorem Step.ext(S:Step H G H' G')(R:aK K G H):Ext H H':=⟨fun b xs h=>S.fr b _ h (R.Lx h),fun b o u h=>S.fr b _ h (R.outF h)⟩
theorem cJ.ext{a:ε}{xs:List V}(E:Ext H H')(h:cJ K H a xs):cJ K H' a xs:=by
 rcases h with (h|⟨o,h⟩)|h
 ·exact .inl (.inl (E.tup _ _ h))
 ·exact .inl (.inr ⟨o,E.fx _ _ _ h⟩)
 ·exact .inr h
theorem nZ.ext{a:ε}{xs:List V}(E:Ext H H')(h:nZ K H a xs):nZ K H' a xs:=by
 rcases h with⟨o,h⟩|h
 ·exact .inl ⟨o,E.fx _ _ _ h⟩
 ·exact .inr h
mutual
theorem Hv.ext(E:Ext H H'):∀{d:D} {v:V},Hv K H d v->Hv K H' d v
 |.ao,_,h=>by simpa [Hv] using h
 |.bl _,_,h=>by simpa [Hv] using h
 |.int _,_,h=>by simpa [Hv] using h
 |.str _,_,h=>by simpa [Hv] using h
 |.obj _,_,h=>by simpa [Hv] using h
 |.dc a,v,h=>by
  unfold Hv at h ⊢;obtain⟨e,ob,φ,q,c⟩:=h;exact⟨e,ob,φ,E.fx _ _ _ q,c⟩
 |.tup ds,v,h=>by
  unfold Hv at h ⊢;obtain⟨a,vs,e,q,r⟩:=h;exact⟨a,vs,e,cJ.ext E q,aw.ext E r⟩
 |.eW ds,v,h=>by
  unfold Hv at h ⊢;obtain⟨a,vs,e,q,r⟩:=h;exact⟨a,vs,e,nZ.ext E q,aw.ext E r⟩
theorem aw.ext(E:Ext H H'):∀{ds:List D} {vs:List V},aw K H ds vs->aw K H' ds vs
 |[],_,h=>by simpa [aw] using h
 |d::ds,vs,h=>by
  unfold aw at h ⊢;obtain⟨v,r,e,q,z⟩:=h;exact⟨v,r,e,Hv.ext E q,aw.ext E z⟩
end
theorem aw.nil:aw K H [] []:=by simp[aw]
theorem aw.cons{d:D}{v:V}{ds:List D}{vs:List V}(h:Hv K H d v)(r:aw K H ds vs):aw K H (d::ds) (v::vs):=by
 unfold aw;exact⟨v,vs,rfl,h,r⟩
theorem aw.inv{d:D}{ds:List D}{vs:List V}(h:aw K H (d::ds) vs):∃v r,vs=v::r/\Hv K H d v/\aw K H ds r:=by
 unfold aw at h;exact h
theorem aw.gC{vs:List V}(h:aw K H [] vs):vs=[]:=by
 unfold aw at h;exact h
theorem aw.length:∀{ds:List D} {vs:List V},aw K H ds vs->ds.length=vs.length
 |[],_,h=>by rw[h.gC];rfl
 |d::ds,vs,h=>by
  obtain⟨v,r,rfl,_,q⟩:=h.inv;simp[q.length]
theorem aw.get:∀{ds:List D} {vs:List V} {i:Nat} {d:D},aw K H ds vs->ds[i]?=some d->∃v,vs[i]?=some v/\Hv K H d v
 |[],_,_,_,_,e=>by simp at e
 |x::ds,vs,0,d,h,e=>by
  obtain⟨v,r,rfl,q,_⟩:=h.inv;simp at e;subst e;exact⟨v,rfl,q⟩
 |x::ds,vs,i+1,d,h,e=>by
  obtain⟨v,r,rfl,_,q⟩:=h.inv;simp at e;obtain⟨u,e2,q2⟩:=q.get e;exact⟨u,by simpa using e2,q2⟩
theorem aw.append:∀{ds es:List D} {vs us:List V},aw K H ds vs->aw K H es us->aw K H (ds++es) (vs++us)
 |[],es,_,_,h,q=>by rw[h.gC];exact q
 |d::ds,es,vs,us,h,q=>by
  obtain⟨v,r,rfl,z,w⟩:=h.inv;exact .cons z (w.append q)
theorem aw.drop:∀{ds:List D} {vs:List V} (n:Nat),aw K H ds vs->aw K H (ds.drop n) (vs.drop n)
 |ds,vs,0,h=>h
 |[],_,n+1,h=>by rw[h.gC];exact .nil
 |d::ds,vs,n+1,h=>by
  obtain⟨v,r,rfl,_,q⟩:=h.inv;exact q.drop n
theorem aw.take:∀{ds:List D} {vs:List V} (n:Nat),aw K H ds vs->aw K H (ds.take n) (vs.take n)
 |ds,vs,0,h=>by simpa using aw.nil
 |[],_,n+1,h=>by rw[h.gC];exact .nil
 |d::ds,vs,n+1,h=>by
  obtain⟨v,r,rfl,q,z⟩:=h.inv;exact .cons q (z.take n)
theorem aw.set:∀{ds:List D} {vs:List V} (i:Nat) {d:D} {v:V},aw K H ds vs->Hv K H d v->aw K H (ds.set i d) (vs.set i v)
 |[],_,i,d,v,h,_=>by rw[h.gC];exact .nil
 |x::ds,vs,0,d,v,h,q=>by
  obtain⟨u,r,rfl,_,z⟩:=h.inv;exact .cons q z
 |x::ds,vs,i+1,d,v,h,q=>by
  obtain⟨u,r,rfl,y,z⟩:=h.inv;exact .cons y (z.set i q)
theorem aw.erase:∀{ds:List D} {vs:List V} (i:Nat),aw K H ds vs->aw K H (ds.eraseIdx i) (vs.eraseIdx i)
 |[],_,i,h=>by rw[h.gC];exact .nil
 |x::ds,vs,0,h=>by
  obtain⟨u,r,rfl,_,z⟩:=h.inv;exact z
 |x::ds,vs,i+1,h=>by
  obtain⟨u,r,rfl,y,z⟩:=h.inv;exact .cons y (z.erase i)
theorem aw.rep{ds:List D}{vs:List V}(h:aw K H ds vs):∀k:Nat,aw K H (aV k ds).flatten (aV k vs).flatten
 |0=>.nil
 |k+1=>by
  simp only[dy,fF];exact h.append (h.rep k)
theorem aw.ints:∀(ns:List Int),aw K H (ns.map D.int) (ns.map V.int)
 |[]=>.nil
 |n::ns=>.cons (by simp[Hv]) (aw.ints ns)
theorem Ext.laid{p:ε}{o:HO}(h:H p=none):Ext H (upd H p o):=⟨fun b xs e=>by rw[bp (cB e h)];exact e,fun b x u e=>by rw[bp (cB e h)];exact e⟩
theorem tY.ext{a:ε}{o:GO}(h:tY K H a o)(E:Ext H H')(e:H' a=H a):tY K H' a o:=by
 cases o with
 |lst ds=>
  obtain⟨vs,z,q⟩:=h;exact⟨vs,e.trans z,q.ext E⟩
 |lM=>
  obtain⟨i,j,k,z,q⟩:=h;exact⟨i,j,k,e.trans z,q⟩
 |ff=>exact e.trans h
 |gen R=>
  obtain⟨h1,h2,h3⟩:=h;exact⟨h3 H H' E.tup E.fx e h1,by rw[e];exact h2,h3⟩
theorem aK.laid{p:ε}{o:HO}(R:aK K G H)(h:H p=none):aK K G (upd H p o):=fun a u e=>by
 have hne:a≠p:=fun z=>by
  rw[z,R.free h] at e;cases e
 exact (R a u e).ext (Ext.laid h) (bp hne)
theorem aK.i0{p:ε}{o:HO}{g:GO}(R:aK K G H)(h:H p=none)(new:tY K (upd H p o) p g):aK K (dA G p g) (upd H p o):=fun a u e=>by
 by_cases z:a=p
 ·subst z;rw[cR] at e;cases e;exact new
 ·rw[dM z] at e;exact (R.laid h) a u e
theorem Step.laid{p:ε}{o:HO}(h:H p=none):Step H G (upd H p o) G:=⟨fun a u e _=>by rw[bp (cB e h)];exact e,fun a q=>by
 by_cases z:a=p
 ·rw[z,bX];simp
 ·rw[bp z];exact q,fun a n q=>absurd n q⟩
theorem Step.i0{p:ε}{o:HO}{g:GO}(h:H p=none):Step H G (upd H p o) (dA G p g):=⟨(Step.laid (G:=G) h).fr,(Step.laid (G:=G) h).lF,fun a n q=>by
 by_cases z:a=p
 ·rw[z];exact h
 ·rw[dM z] at q;exact absurd n q⟩
theorem yr{p b:ε}{xs ys:List V}(h:H p=some (.lst xs))(e:H b=some (.tup ys)):b≠p:=fun z=>by
 rw[z,h] at e;cases e
theorem yt{p b:ε}{xs:List V}{o:aJ}{u:HO}(h:H p=some (.lst xs))(e:H b=some (.fx o u)):b≠p:=fun z=>by
 rw[z,h] at e;cases e
theorem Ext.wrote{p:ε}{xs:List V}{o:HO}(h:H p=some (.lst xs)):Ext H (upd H p o):=
 ⟨fun b ys e=>by rw[bp (yr h e)];exact e,fun b x u e=>by rw[bp (yt h e)];exact e⟩
theorem aK.wrote{p:ε}{xs:List V}{o:HO}{g:GO}(R:aK K G H)(h:H p=some (.lst xs))(new:tY K (upd H p o) p g):aK K (dA G p g) (upd H p o):=fun a u e=>by
 by_cases z:a=p
 ·subst z;rw[cR] at e;cases e;exact new
 ·rw[dM z] at e;exact (R a u e).ext (Ext.wrote h) (bp z)
theorem aK.qO{p:ε}{xs:List V}{ds:List D}(R:aK K G H)(h:H p=none)(hv:aw K H ds xs):aK K (dA G p (.lst ds)) (upd H p (.lst xs)):=R.i0 h ⟨xs,bX,hv.ext (.laid h)⟩
theorem aK.zj{p:ε}{xs ys:List V}{ds:List D}(R:aK K G H)(e:H p=some (.lst xs))(hv:aw K H ds ys):aK K (dA G p (.lst ds)) (upd H p (.lst ys)):=R.wrote e ⟨ys,bX,hv.ext (.wrote e)⟩
theorem Step.wrote{p:ε}{o:HO}{g u:GO}(h:G p=some u):Step H G (upd H p o) (dA G p g):=⟨fun a x e n=>by
 have hne:a≠p:=fun z=>by
  rw[z,h] at n;cases n
 rw[bp hne];exact e,fun a q=>by
 by_cases z:a=p
 ·rw[z,bX];simp
 ·rw[bp z];exact q,fun a n q=>by
 have hne:a≠p:=fun z=>by
  rw[z,h] at n;cases n
 rw[dM hne] at q;exact absurd n q⟩
end
abbrev S3:=List (Option D)
def gd:S3->Nat->Option D
 |[],_=>none
 |x::_,0=>x
 |_::r,n+1=>gd r n
def j7:S3->Nat->D->S3
 |[],_,_=>[]
 |_::r,0,d=>some d::r
 |x::r,n+1,d=>x::j7 r n d
structure dq(K:ζ)(τ:S3)(σ:L2.St)(H:Hp):Prop where
 len:τ.length=σ.length
 at_:∀(i:Nat) d,gd τ i=some d->∃v,σ[i]?=some (some v)/\Hv K H d v
theorem qz:∀(τ:S3) (i:Nat) (d:D),(j7 τ i d).length=τ.length
 |[],_,_=>rfl
 |_::r,0,d=>rfl
 |x::r,n+1,d=>by simp[j7,qz r n d]
theorem vY:∀(τ:S3) (i j:Nat) (d:D),gd (j7 τ i d) j=if j=i/\i<τ.length then some d else gd τ j
 |[],i,j,d=>by simp[j7,gd]
 |x::r,0,0,d=>by simp[j7,gd]
 |x::r,0,j+1,d=>by simp[j7,gd]
 |x::r,i+1,0,d=>by simp[j7,gd]
 |x::r,i+1,j+1,d=>by
  simp only[j7,gd,vY r i j d,aj];by_cases h:j=i/\i<r.length
  ·rw[if_pos h,if_pos (by lia)]
  ·rw[if_neg h,if_neg (by lia)]
section
variable {K:ζ} {τ:S3} {σ:L2.St} {H H':Hp}
theorem dq.ext(R:dq K τ σ H)(E:Ext H H'):dq K τ σ H':=⟨R.len,fun i d h=>by
 obtain⟨v,e,q⟩:=R.at_ i d h;exact⟨v,e,q.ext E⟩⟩
theorem dq.set(R:dq K τ σ H){i:Nat}{d:D}{v:V}(h:Hv K H d v):dq K (j7 τ i d) (σ.set i (some v)) H:=⟨by rw[qz,List.length_set];exact R.len,fun j e q=>by
 rw[vY] at q;by_cases c:j=i/\i<τ.length
 ·rw[if_pos c] at q;cases q;refine⟨v,?_,h⟩;rw[c.1,ig (by rw[←R.len];exact c.2)]
 ·rw[if_neg c] at q;obtain⟨u,e1,e2⟩:=R.at_ j e q;refine⟨u,?_,e2⟩;by_cases hij:i=j
  ·subst hij;have:σ.length≤i:=by
    have:=R.len;have:¬i<τ.length:=fun z=>c ⟨rfl,z⟩;lia
   rw[bZ.mpr this] at e1;cases e1
  ·rw[jh hij];exact e1⟩
end
def bB:List π->List D->S3
 |[],_=>[]
 |_::N,[]=>none::bB N []
 |_::N,d::ds=>some d::bB N ds
theorem m4:∀(N:List π) (ds:List D),(bB N ds).length=N.length
 |[],_=>rfl
 |_::N,[]=>by simp[bB,m4 N []]
 |_::N,d::ds=>by simp[bB,m4 N ds]
theorem rg:∀(N:List π) (i:Nat),gd (bB N []) i=none
 |[],i=>rfl
 |_::N,0=>rfl
 |_::N,i+1=>rg N i
theorem tD:∀(N:List π) (ds:List D) (i:Nat) (d:D),gd (bB N ds) i=some d->ds[i]?=some d
 |[],_,_,_,h=>by cases h
 |_::N,[],i,d,h=>by
  rw[rg] at h;cases h
 |_::N,x::ds,0,d,h=>by
  simp only[bB,gd] at h;simpa using h
 |_::N,x::ds,i+1,d,h=>by
  simp only[bB,gd] at h;simpa using tD N ds i d h
theorem dq.start{K:ζ}{N:List π}{ds:List D}{vs:List V}{H:Hp}(h:aw K H ds vs)(hl:vs.length≤N.length):dq K (bB N ds) (L2.start N vs) H:=⟨by
 rw[m4];simp[L2.start];lia,fun i d e=>by
 obtain⟨v,e1,q⟩:=h.get (tD N ds i d e);refine⟨v,?_,q⟩;unfold L2.start;have hi:i<vs.length:=(aG.mp e1).1;rw[cW (by simpa using hi),av,e1];rfl⟩
abbrev V3:=D->Gp->Prop
abbrev ag:=S3->Gp->V3->Prop
abbrev cf:=S3->Gp->(Bool->Gp->Prop)->Prop
abbrev cq:=S3->Gp->(List D->Gp->Prop)->Prop
structure nO where
 nx:S3->Gp->Prop
 rt:V3
 bk:S3->Gp->Prop:=fun _ _=>False
 ct:S3->Gp->Prop:=fun _ _=>False
abbrev aN:=nO->S3->Gp->Prop
def low(K:ζ)(t:ag):TE:=fun σ H Q=>∃τ G Q3,dq K τ σ H/\aK K G H/\t τ G Q3/\∀v H' d G',Hv K H' d v->Step H G H' G'->aK K G' H'->Q3 d G'->Q v H'
def qS(K:ζ)(t:cf):TT:=fun σ H Q=>∃τ G Q3,dq K τ σ H/\aK K G H/\t τ G Q3/\∀b H' G',Step H G H' G'->aK K G' H'->Q3 b G'->Q b H'
def qT(K:ζ)(t:cq):TA:=fun σ H Q=>∃τ G Q3,dq K τ σ H/\aK K G H/\t τ G Q3/\∀vs H' ds G',aw K H' ds vs->Step H G H' G'->aK K G' H'->Q3 ds G'->Q vs H'
structure qq(K:ζ)(H:Hp)(G:Gp)(D3:nO)(D2:Ends):Prop where
 nx:∀τ σ G' H',dq K τ σ H'->Step H G H' G'->aK K G' H'->D3.nx τ G'->D2.nx σ H'
 bk:∀τ σ G' H',dq K τ σ H'->Step H G H' G'->aK K G' H'->D3.bk τ G'->D2.bk σ H'
 ct:∀τ σ G' H',dq K τ σ H'->Step H G H' G'->aK K G' H'->D3.ct τ G'->D2.ct σ H'
 rt:∀d v G' H',Hv K H' d v->Step H G H' G'->aK K G' H'->D3.rt d G'->D2.rt v H'
theorem qq.step{K:ζ}{H H1:Hp}{G G1:Gp}{D3:nO}{D2:Ends}(E:qq K H G D3 D2)(S:Step H G H1 G1):qq K H1 G1 D3 D2:=
 ⟨fun τ σ G' H' a b c q=>E.nx τ σ G' H' a (S.trans b) c q,fun τ σ G' H' a b c q=>E.bk τ σ G' H' a (S.trans b) c q,fun τ σ G' H' a b c q=>E.ct τ σ G' H' a (S.trans b) c q,fun d v G' H' a b c q=>E.rt d v G' H' a (S.trans b) c q⟩
def Hs(K:ζ)(t:aN):TS:=fun D2 σ H=>∃τ G D3,dq K τ σ H/\aK K G H/\t D3 τ G/\qq K H G D3 D2
abbrev bA(X:Cx)(e:ν)(t:ag):Prop:=PE X e (low X.K t)
abbrev og(X:Cx)(e:ν)(t:cf):Prop:=PT X e (qS X.K t)
abbrev tV(X:Cx)(e:ν)(t:cf):Prop:=PW X e (qS X.K t)
abbrev hZ(X:Cx)(es:List ν)(t:cq):Prop:=PA X es (qT X.K t)
abbrev qC(X:Cx)(st:aU)(t:aN):Prop:=PS X st (Hs X.K t)
abbrev nN(X:Cx)(st:List aU)(t:aN):Prop:=kS X st (Hs X.K t)
section
variable {X:Cx} {e:ν}
theorem dD{t t':TE}(h:PE X e t)(f:∀σ H Q,t' σ H Q->t σ H Q):PE X e t':=fun pins s σ H Q I q=>h pins s σ H Q I (f σ H Q q)
theorem ug{t t':TT}(h:PT X e t)(f:∀σ H Q,t' σ H Q->t σ H Q):PT X e t':=fun pins s σ H Q I q=>h pins s σ H Q I (f σ H Q q)
theorem pw_of{t t':TT}(h:PW X e t)(f:∀σ H Q,t' σ H Q->t σ H Q):PW X e t':=fun w pins s σ H Q I q=>h w pins s σ H Q I (f σ H Q q)
theorem C6{es:List ν}{t t':TA}(h:PA X es t)(f:∀σ H Q,t' σ H Q->t σ H Q):PA X es t':=fun p pins s σ H Q I q=>h p pins s σ H Q I (f σ H Q q)
theorem nt{st:aU}{t t':TS}(h:PS X st t)(f:∀D σ H,t' D σ H->t D σ H):PS X st t':=fun pins s σ H Q I q=>h pins s σ H Q I (f Q σ H q)
theorem Aa{st:List aU}{t t':TS}(h:kS X st t)(f:∀D σ H,t' D σ H->t D σ H):kS X st t':=fun pins s σ H Q I q=>h pins s σ H Q I (f Q σ H q)
end
def Br(b:Bool)(A B:Prop):Prop:=(b=true->A)/\(b=false->B)
theorem Br.ite{b:Bool}{A B A' B':Prop}(h:Br b A B)(f:A->A')(g:B->B'):if b=true then A' else B':=by
 cases b with
 |true=>rw[if_pos rfl];exact f (h.1 rfl)
 |false=>rw[if_neg af];exact g (h.2 rfl)
section
variable {X:Cx} {a b e c:ν} {ta tb te:ag} {tA tB:cf} {pos:aE} {es rest:List ν}
def eC(d:D):ag:=fun _ G Q=>Q d G
def ω(i:Nat):ag:=fun τ G Q=>match gd τ i with
 |some d=>Q d G
 |none=>False
theorem Kv{i:Nat}{x:π}(h:PE X (.Name x pos) (xK i)):bA X (.Name x pos) (ω i):=dD h fun σ H Q ⟨τ,G,Q3,RS,RG,h,k⟩=>by
 unfold ω at h;cases hd:gd τ i with
 |none=>rw[hd] at h;exact h.elim
 |some d=>
  rw[hd] at h;obtain⟨v,e1,e2⟩:=RS.at_ i d hd;exact⟨v,e1,k v H d G e2 (.refl H G) RG h⟩
theorem mI{v:V}{d:D}(h:PE X e (tC v))(r:∀H,Hv X.K H d v):bA X e (eC d):=dD h fun σ H Q ⟨τ,G,Q3,RS,RG,h,k⟩=>k v H d G (r H) (.refl H G) RG h
theorem KE{i:Int}{j}:bA X (.Constant (.int i) j pos) (eC (.int i)):=mI GB fun H=>by simp[Hv]
theorem L4{i:Bool}{j}:bA X (.Constant (.bool i) j pos) (eC (.bl i)):=mI JG fun H=>by simp[Hv]
theorem Kx{x:π}{j}:bA X (.Constant (.str x) j pos) (eC (.str x)):=mI Gy fun H=>by simp[Hv]
theorem Io{x:π}{i:Int}{u:gv}(hm:X.mg x=some (.int i u))(hg:Gl X x:=by rfl)(hd:(x==("__debug__":π))=false:=by decide):bA X (.Name x pos) (eC (.int i)):=mI (v:=.int i) (wZ hg hm ⟨u,rfl⟩ hd) fun H=>by simp[Hv]
abbrev R3:=D->D->Gp->V3->Prop
def aX(r:R3)(ta tb:ag):ag:=fun τ G Q=>ta τ G fun x G1=>tb τ G1 fun y G2=>r x y G2 Q
def cz(K:ζ)(r:R3)(r2:R2):Prop:=∀x y vx vy G H Q3 Q,Hv K H x vx->Hv K H y vy->aK K G H->r x y G Q3->(∀v H' d G',Hv K H' d v->Step H G H' G'->aK K G' H'->Q3 d G'->Q v H')->r2 vx vy H Q
theorem qd{K:ζ}{r:R3}{r2:R2}(L:cz K r r2){σ:L2.St}{H:Hp}{Q:VK}(h:low K (aX r ta tb) σ H Q):zD r2 (low K ta) (low K tb) σ H Q:=by
 obtain⟨τ,G,Q3,RS,RG,h,k⟩:=h;refine⟨τ,G,_,RS,RG,h,fun v1 H1 d1 G1 h1 S1 R1 q1=>?_⟩;refine⟨τ,G1,_,RS.ext (S1.ext RG),R1,q1,fun v2 H2 d2 G2 h2 S2 R2 q2=>?_⟩;exact L _ _ _ _ _ _ _ _ (h1.ext (S2.ext R1)) h2 R2 q2 fun v H' d G' z1 z2 z3 z4=>k v H' d G' z1 ((S1.trans S2).trans z2) z3 z4
theorem LZ{op:Operator}{r:R3}{r2:R2}(L:cz X.K r r2)(ho:cy X (binaryOp op) r2)(ha:bA X a ta)(hb:bA X b tb):bA X (.BinOp a op b pos) (aX r ta tb):=
 dD (JF ho ha hb) fun _ _ _ h=>qd L h
theorem KI{op:iw}{r:R3}{r2:R2}(L:cz X.K r r2)(ho:cy X (compareOp op) r2)(ha:bA X a ta)(hb:bA X b tb)(hm:behindInMarks op b=false):bA X (.Compare a [op] [b] pos) (aX r ta tb):=
 dD (Ew ho ha hb hm) fun _ _ _ h=>qd L h
def bL(t:ag):cf:=fun τ G Q=>t τ G fun x G1=>match x with
 |.bl k=>Q k G1
 |_=>False
theorem qR{K:ζ}{t:ag}{σ:L2.St}{H:Hp}{Q:Bool->Hp->Prop}(h:qS K (bL t) σ H Q):uc (low K t) σ H Q:=by
 obtain⟨τ,G,Q3,RS,RG,h,k⟩:=h;refine⟨τ,G,_,RS,RG,h,fun v H' d G' h1 h2 h3 h4=>?_⟩;cases d with
 |bl c=>
  unfold Hv at h1;exact⟨c,h1,k c H' G' h2 h3 h4⟩
 |_=>exact h4.elim
theorem Fx{op:iw}{r:R3}{r2:R2}(L:cz X.K r r2)(ho:cy X (compareOp op) r2)(ha:bA X a ta)(hb:bA X b tb)(hm:behindInMarks op b=false):og X (.Compare a [op] [b] pos) (bL (aX r ta tb)):=
 ug (Ei ho ha hb hm) fun σ H Q h=>by
  obtain⟨τ,G,Q3,RS,RG,h,k⟩:=qR h;exact qd L ⟨τ,G,Q3,RS,RG,h,k⟩
theorem Fv(h:bA X a ta)(he:∀whole,isTrue a X.env whole=(do let v ←whole;standAt a.pos;holding [v] (truthy v)):=by intro _;rfl):og X a (bL ta):=
 ug (BB h he) fun σ H Q h=>by
  obtain⟨τ,G,Q3,RS,RG,h,k⟩:=qR h;refine⟨τ,G,Q3,RS,RG,h,fun v H' d G' h1 h2 h3 h4=>?_⟩;obtain⟨c,rfl,q⟩:=k v H' d G' h1 h2 h3 h4;exact⟨c,rfl,q⟩
def jW(r r':R3)(ta tb tc:ag):ag:=fun τ G Q=>ta τ G fun x G1=>tb τ G1 fun y G2=>r x y G2 fun z G3=>match z with
 |.bl k=>Br k (tc τ G3 fun w G4=>r' y w G4 Q) (Q (.bl false) G3)
 |_=>False
theorem tJ{K:ζ}{r r':R3}{r2 r2':R2}(L:cz K r r2)(L':cz K r' r2'){tc:ag}{σ:L2.St}{H:Hp}{Q:VK}(h:low K (jW r r' ta tb tc) σ H Q):oM r2 r2' (low K ta) (low K tb) (low K tc) σ H Q:=by
 obtain⟨τ,G,Q3,RS,RG,h,k⟩:=h;refine⟨τ,G,_,RS,RG,h,fun v1 H1 d1 G1 h1 S1 R1 q1=>?_⟩;refine⟨τ,G1,_,RS.ext (S1.ext RG),R1,q1,fun v2 H2 d2 G2 h2 S2 R2 q2=>?_⟩;refine L _ _ _ _ _ _ _ _ (h1.ext (S2.ext R1)) h2 R2 q2 fun v H3 d G3 z1 S3 R3 z4=>?_;cases d with
 |bl c=>
  unfold Hv at z1;refine⟨c,z1,Br.ite z4 (fun q=>?_) fun q=>?_⟩
  ·refine⟨τ,G3,_,((RS.ext (S1.ext RG)).ext (S2.ext R1)).ext (S3.ext R2),R3,q,fun v4 H4 d4 G4 h4 S4 R4 q4=>?_⟩;exact L' _ _ _ _ _ _ _ _ ((h2.ext (S3.ext R2)).ext (S4.ext R3)) h4 R4 q4 fun v H' d G' y1 y2 y3 y4=>k v H' d G' y1 ((((S1.trans S2).trans S3).trans S4).trans y2) y3 y4
  ·exact k _ H3 (.bl false) G3 (by simp[Hv]) ((S1.trans S2).trans S3) R3 q
 |_=>exact z4.elim
theorem Fg{op op':iw}{r r':R3}{r2 r2':R2}{tc:ag}(L:cz X.K r r2)(L':cz X.K r' r2')(h:PE X e (oM r2 r2' (low X.K ta) (low X.K tb) (low X.K tc))):bA X e (jW r r' ta tb tc):=
 dD h fun _ _ _ h=>tJ L L' h
theorem A6{op op':iw}{r r':R3}{r2 r2':R2}{tc:ag}(L:cz X.K r r2)(L':cz X.K r' r2')(h:PT X e (uc (oM r2 r2' (low X.K ta) (low X.K tb) (low X.K tc)))):og X e (bL (jW r r' ta tb tc)):=
 ug h fun σ H Q h=>by
  obtain⟨τ,G,Q3,RS,RG,h,k⟩:=qR h;exact tJ L L' ⟨τ,G,Q3,RS,RG,h,k⟩
def AM(r:D->Gp->V3->Prop)(ta:ag):ag:=fun τ G Q=>ta τ G fun x G1=>r x G1 Q
def rJ:D->Gp->V3->Prop:=fun x G Q=>match x with
 |.int i=>Q (.int (-i)) G
 |_=>False
theorem KA(ha:bA X a ta):bA X (.UnaryOp .USub a pos) (AM rJ ta):=dD (JD Ft ha) fun σ H Q h=>by
 obtain⟨τ,G,Q3,RS,RG,h,k⟩:=h;refine⟨τ,G,_,RS,RG,h,fun v H' d G' h1 h2 h3 h4=>?_⟩;cases d with
 |int i=>
  unfold Hv at h1;exact⟨i,h1,k _ H' (.int (-i)) G' (by simp[Hv]) h2 h3 h4⟩
 |_=>exact h4.elim
def yK(t u:cf):cf:=fun τ G Q=>t τ G fun c G1=>Br c (u τ G1 Q) (Q false G1)
def mJ(t u:cf):cf:=fun τ G Q=>t τ G fun c G1=>Br c (Q true G1) (u τ G1 Q)
def g8(t:cf):cf:=fun τ G Q=>t τ G fun c G1=>Q (!c) G1
theorem tw_and1(ha:og X a tA):tV X (.BoolOp .And [a] pos) tA:=pw_and1 ha
theorem tw_or1(ha:og X a tA):tV X (.BoolOp .Or [a] pos) tA:=pw_or1 ha
theorem tw_and(ha:og X a tA)(hb:tV X (.BoolOp .And (b::rest) pos) tB):tV X (.BoolOp .And (a::b::rest) pos) (yK tA tB):=pw_of (pw_and ha hb) fun σ H Q h=>by
 obtain⟨τ,G,Q3,RS,RG,h,k⟩:=h;refine⟨τ,G,_,RS,RG,h,fun c H1 G1 S1 R1 q1=>?_⟩;exact Br.ite q1 (fun q=>⟨τ,G1,Q3,RS.ext (S1.ext RG),R1,q,fun b' H' G' y1 y2 y3=>k b' H' G' (S1.trans y1) y2 y3⟩) fun q=>k false H1 G1 S1 R1 q
theorem tw_or(ha:og X a tA)(hb:tV X (.BoolOp .Or (b::rest) pos) tB):tV X (.BoolOp .Or (a::b::rest) pos) (mJ tA tB):=pw_of (pw_or ha hb) fun σ H Q h=>by
 obtain⟨τ,G,Q3,RS,RG,h,k⟩:=h;refine⟨τ,G,_,RS,RG,h,fun c H1 G1 S1 R1 q1=>?_⟩;exact Br.ite q1 (fun q=>k true H1 G1 S1 R1 q) fun q=>⟨τ,G1,Q3,RS.ext (S1.ext RG),R1,q,fun b' H' G' y1 y2 y3=>k b' H' G' (S1.trans y1) y2 y3⟩
theorem Lf(h:tV X a tA):og X a tA:=h.pt
theorem Fw(ha:og X a tA):og X (.UnaryOp .Not a pos) (g8 tA):=ug (Gk ha) fun σ H Q h=>by
 obtain⟨τ,G,Q3,RS,RG,h,k⟩:=h;exact⟨τ,G,_,RS,RG,h,fun c H1 G1 S1 R1 q1=>k _ H1 G1 S1 R1 q1⟩
def qh(ta tb:ag):ag:=fun τ G Q=>ta τ G fun x G1=>match x with
 |.bl c=>Br c (tb τ G1 Q) (Q (.bl false) G1)
 |_=>False
def Cd(ta tb:ag):ag:=fun τ G Q=>ta τ G fun x G1=>match x with
 |.bl c=>Br c (Q (.bl true) G1) (tb τ G1 Q)
 |_=>False
def uk(ta:ag):ag:=fun τ G Q=>ta τ G fun x G1=>match x with
 |.bl c=>Q (.bl (!c)) G1
 |_=>False
theorem Ky{op}(h:bA X a ta):bA X (.BoolOp op [a] pos) ta:=Gz h
theorem KJ(ha:bA X a ta)(hb:bA X (.BoolOp .And (b::rest) pos) tb):bA X (.BoolOp .And (a::b::rest) pos) (qh ta tb):=dD (GC ha hb) fun σ H Q h=>by
 obtain⟨τ,G,Q3,RS,RG,h,k⟩:=h;refine⟨τ,G,_,RS,RG,h,fun v H1 d G1 h1 S1 R1 q1=>?_⟩;cases d with
 |bl c=>
  unfold Hv at h1;exact⟨c,h1,Br.ite q1 (fun q=>⟨τ,G1,Q3,RS.ext (S1.ext RG),R1,q,fun b' H' d' G' y0 y1 y2 y3=>k b' H' d' G' y0 (S1.trans y1) y2 y3⟩) fun q=>k _ H1 (.bl false) G1 (by simp[Hv]) S1 R1 q⟩
 |_=>exact q1.elim
theorem LY(ha:bA X a ta)(hb:bA X (.BoolOp .Or (b::rest) pos) tb):bA X (.BoolOp .Or (a::b::rest) pos) (Cd ta tb):=dD (JE ha hb) fun σ H Q h=>by
 obtain⟨τ,G,Q3,RS,RG,h,k⟩:=h;refine⟨τ,G,_,RS,RG,h,fun v H1 d G1 h1 S1 R1 q1=>?_⟩;cases d with
 |bl c=>
  unfold Hv at h1;exact⟨c,h1,Br.ite q1 (fun q=>k _ H1 (.bl true) G1 (by simp[Hv]) S1 R1 q) fun q=>⟨τ,G1,Q3,RS.ext (S1.ext RG),R1,q,fun b' H' d' G' y0 y1 y2 y3=>k b' H' d' G' y0 (S1.trans y1) y2 y3⟩⟩
 |_=>exact q1.elim
theorem Kz(ha:bA X a ta):bA X (.UnaryOp .Not a pos) (uk ta):=dD (GA ha) fun σ H Q h=>by
 obtain⟨τ,G,Q3,RS,RG,h,k⟩:=h;refine⟨τ,G,_,RS,RG,h,fun v H1 d G1 h1 S1 R1 q1=>?_⟩;cases d with
 |bl c=>
  unfold Hv at h1;exact⟨c,h1,k _ H1 (.bl (!c)) G1 (by simp[Hv]) S1 R1 q1⟩
 |_=>exact q1.elim
def notStar:ν->Bool
 |.Starred ..=>false
 |_=>true
theorem bt{e:ν}{es:List ν}{env:fV}(h:notStar e=true):ba (e::es) env=(false,eval e env)::ba es env:=by
 cases e<;>first|rfl|(simp[notStar] at h)
theorem cH{pos:aE}{env:fV}:∀{es:List ν},es.all notStar=true->(backTo pos (ba es env)).any (·.1)=false
 |[],_=>rfl
 |e::es,h=>by
  rw[ox,cQ] at h;rw[bt h.1];show (false||(backTo pos (ba es env)).any (·.1))=false;rw[cH h.2];rfl
def ab:cq:=fun _ G Q=>Q [] G
def υ(ta:ag)(tr:cq):cq:=fun τ G Q=>ta τ G fun x G1=>tr τ G1 fun xs G2=>Q (x::xs) G2
theorem KY:hZ X [] ab:=C6 rL fun σ H Q ⟨τ,G,Q3,RS,RG,h,k⟩=>k [] H [] G .nil (.refl H G) RG h
theorem ID{tr:cq}(ha:bA X a ta)(hr:hZ X es tr)(hs:notStar a=true:=by rfl):hZ X (a::es) (υ ta tr):=C6 (mD ha hr (bt hs)) fun σ H Q h=>by
 obtain⟨τ,G,Q3,RS,RG,h,k⟩:=h;refine⟨τ,G,_,RS,RG,h,fun v1 H1 d1 G1 h1 S1 R1 q1=>?_⟩;refine⟨τ,G1,_,RS.ext (S1.ext RG),R1,q1,fun vs H2 ds G2 h2 S2 R2 q2=>?_⟩;exact k _ H2 _ G2 (.cons (h1.ext (S2.ext R1)) h2) (S1.trans S2) R2 q2
def oV{α:Type}(P:Prop):List α->Nat->Prop
 |[],_=>P
 |_::_,0=>False
 |_::xs,n+1=>oV P xs n
theorem lH{α:Type}{P:Prop}:∀{xs:List α} {n:Nat},oV P xs n->xs.length≤n/\P
 |[],n,h=>⟨aQ _,h⟩
 |_::_,0,h=>h.elim
 |_::xs,n+1,h=>by
  obtain⟨h1,h2⟩:=lH (xs:=xs) (n:=n) h;exact⟨Nat.succ_le_succ h1,h2⟩
theorem vn{n:Nat}(h:n≤64):n≤Φ:=bc h (by decide)
def iB(t:cq):ag:=fun τ G Q=>t τ G fun ds G1=>oV (Q (.tup ds) G1) ds 64
def iC(t:cq):ag:=fun τ G Q=>t τ G fun ds G1=>oV (∀p G2,dv G1 p (.lst ds) G2->Q (.obj p) G2) ds 64
theorem Kw{t:cq}{x1}(h:hZ X es t):bA X (.Tuple es x1 pos) (iB t):=dD (Gx h) fun σ H Q h=>by
 obtain⟨τ,G,Q3,RS,RG,h,k⟩:=h;refine⟨τ,G,_,RS,RG,h,fun vs H1 ds G1 h1 S1 R1 q1=>?_⟩;obtain⟨z,q1⟩:=lH q1;refine⟨by rw[←h1.length];exact vn z,fun p hp=>?_⟩;refine k _ _ (.tup ds) G1 ?_ (S1.trans (.laid hp)) (R1.laid hp) q1;unfold Hv;exact⟨p,vs,rfl,.of bX,h1.ext (.laid hp)⟩
theorem KD{t:cq}(h:hZ X es t):bA X (.List es pos) (iC t):=dD (Ag h) fun σ H Q h=>by
 obtain⟨τ,G,Q3,RS,RG,h,k⟩:=h;refine⟨τ,G,_,RS,RG,h,fun vs H1 ds G1 h1 S1 R1 q1=>?_⟩;obtain⟨z,q1⟩:=lH q1;refine⟨by rw[←h1.length];exact vn z,fun p hp=>?_⟩;exact k _ _ (.obj p) (dA G1 p (.lst ds)) (by simp[Hv]) (S1.trans (.i0 hp)) (R1.i0 hp ⟨vs,bX,h1.ext (.laid hp)⟩) (q1 p _ (.mk' (R1.free hp)))
end
end L3
namespace L2
open PySem PySem.Spec PyProof.Rows
def jD(env:fV):List (π×dB)->List (π×ε)->List (π×ε)
 |[],acc=>acc
 | (n,k)::r,acc=>jD env r (if k=.free then (n,(env.cells.lookup n).getD 0)::acc else acc)
theorem sa{scope:fD}{env:fV}(h:∀y∈scope.names,y.2=.free->∃c,env.cells.lookup y.1=some c):closureFor scope env=pure (jD env scope.names []):=by
 have key:∀(l:List (π×dB)) (acc:List (π×ε)),(∀y∈l,y.2=.free->∃c,env.cells.lookup y.1=some c) ->
   (forIn l acc fun (x:π×dB) (r:List (π×ε))=>(do
    if (x.2==bT)=true then do
     let a ←cellOf env x.1
     pure (fo ((x.1,a)::r))
    else pure (fo r):Sem (ForInStep (List (π×ε)))))=pure (jD env l acc):=by
  intro l
  induction l with
  |nil=>intro acc _;rfl
  |cons y r ih=>
   intro acc hy;obtain⟨n,k⟩:=y;rw[lU];by_cases hk:k=.free
   ·obtain⟨c,hc⟩:=hy (n,k) Ψ hk;have e1:cellOf env n=pure c:=by unfold cellOf;rw[show env.cells.lookup n=some c from hc]
    subst hk;simp only[beq_self_eq_true,if_true,e1,pure_bind];rw[ih _ fun y hy'=>hy y (Ω _ hy')];show _=pure (jD env r (if bT=bT then (n,(env.cells.lookup n).getD 0)::acc else acc));rw[if_pos rfl,show env.cells.lookup n=some c from hc];rfl
   ·have hb:(k==bT)=false:=by simpa using hk
    simp only[hb,gQ,if_false,pure_bind];rw[ih _ fun y hy'=>hy y (Ω _ hy')];show _=pure (jD env r (if k=bT then (n,(env.cells.lookup n).getD 0)::acc else acc));rw[if_neg hk]
 have:=key scope.names [] h;unfold closureFor
 first
  |exact (by simpa using this)
  | (simp only[bind_pure];exact this)
theorem qB{env:fV}{x:π}{c:ε}:∀(l:List (π×dB)) (acc:List (π×ε)),(jD env l acc).lookup x=some c ->
  acc.lookup x=some c∨((x,bT)∈l/\c=(env.cells.lookup x).getD 0)
 |[],_,h=>.inl h
 | (n,k)::r,acc,h=>by
  rcases qB r _ h with q|⟨q1,q2⟩
  ·by_cases hk:k=.free
   ·rw[if_pos hk,eQ] at q;by_cases hx:(x==n)=true
    ·rw[hx] at q;have hx':x=n:=by simpa using hx
     subst hx' hk;exact .inr ⟨Ψ,(ai q).symm⟩
    ·have hx2:(x==n)=false:=by simpa using hx
     rw[hx2] at q;exact .inl q
   ·rw[if_neg hk] at q;exact .inl q
  ·exact .inr ⟨Ω _ q1,q2⟩
theorem tM{env:fV}{x:π}:∀(l:List (π×dB)) (acc:List (π×ε)),acc.lookup x=some ((env.cells.lookup x).getD 0)->(jD env l acc).lookup x=some ((env.cells.lookup x).getD 0)
 |[],_,h=>h
 | (n,k)::r,acc,h=>by
  refine tM r _ ?_;by_cases hk:k=.free
  ·rw[if_pos hk,eQ];by_cases hx:(x==n)=true
   ·rw[hx];have hx':x=n:=by simpa using hx
    rw[hx']
   ·have hx2:(x==n)=false:=by simpa using hx
    rw[hx2];exact h
  ·rw[if_neg hk];exact h
theorem vO{env:fV}{x:π}:∀(l:List (π×dB)) (acc:List (π×ε)),(x,bT)∈l->(jD env l acc).lookup x=some ((env.cells.lookup x).getD 0)
 |[],_,h=>by cases h
 | (n,k)::r,acc,h=>by
  rcases aa.mp h with e|e
  ·cases e;refine tM r _ ?_;rw[if_pos rfl,eQ,beq_self_eq_true]
  ·exact vO r _ e
structure dF(N:List π)(sc scope:fD)(own:List π)(js:List Nat):Prop where
 kind:scope.kind=.function
 An:∀y∈scope.names,y.2≠.cell
 names:∀y∈scope.names,y.2=.local->scope.names.lookup y.1=some .local
 free:∀y∈scope.names,y.2=.free->sc.names.lookup y.1=some .cell/\own.contains y.1=false
 only:∀y∈scope.names,y.2=.free->scope.names.lookup y.1=some .free
 js:∀j∈js,j<N.length/\(N.getD j eD,bT)∈scope.names
def L6(N own:List π)(js:List Nat):List π:=own++js.map fun j=>N.getD j eD
def qj(own:List π)(js:List Nat)(σ:St):St:=aV own.length none++js.map fun j=>(σ[j]?).getD none
def Cx.cmp(X:Cx)(scope:fD)(own:List π)(js:List Nat)(s:η)(H:Hp)(fp:List ε):Cx:=
 { X with N:=L6 X.N own js,s₀:=s,H₀:=H,env:=compEnvC scope (jD X.env scope.names []) s.heap.objs.size X.env,outer:=X.stack,ex:=fp,fn:=fun x=>own.contains x,pn:=[],xe:=fun _ _=>False }
theorem gY{sc:fD}{env:fV}{x:π}{k:dB}:∀(names:List (π×dB)),
  (names.map fun (n,k)=>if (k==bT&&env.scope.kind==.function&&env.kindOf n==some .cell) then (n,oo) else (n,k)).lookup x=some k ->
  (names.lookup x=some k/\(k≠.free∨k=.free))∨(k=.cell/\names.lookup x=some .free)
 |[],h=>by simp at h
 | (n,k')::r,h=>by
  have ih:=@gY sc env x k r;have h':List.lookup x ((if (k'==bT&&env.scope.kind==.function&&env.kindOf n==some .cell)=true then (n,oo) else (n,k'))::_)=some k:=h;rw[eQ];by_cases hc:(k'==bT&&env.scope.kind==.function&&env.kindOf n==some .cell)=true
  ·rw[if_pos hc,eQ] at h';cases hx:x==n with
   |true=>
    rw[hx] at h';have e:oo=k:=ai h';have hk':k'=.free:=by
     rw[cQ,cQ] at hc;simpa using hc.1.1
    exact .inr ⟨e.symm,by rw[hk']⟩
   |false=>
    rw[hx] at h';exact ih h'
  ·rw[if_neg hc,eQ] at h';cases hx:x==n with
   |true=>
    rw[hx] at h';have e:k'=k:=ai h';subst e;exact .inl ⟨rfl,by by_cases z:k'=.free;exact .inr z;exact .inl z⟩
   |false=>
    rw[hx] at h';exact ih h'
theorem lZ{x:π}{k:dB}{l:List (π×dB)}(h:l.lookup x=some k):(x,k)∈l:=dw h
section
variable {X:Cx} {pins:List (ε×aJ)} {σ:St} {H:Hp} {s:η} {scope:fD} {own:List π} {js:List Nat} {fp:List ε}
theorem dF.cells(C:dF X.N X.env.scope scope own js)(ok:X.Ok):∀y∈scope.names,y.2=.free->∃c,X.env.cells.lookup y.1=some c:=fun y hy e=>
 ok.has y.1 (.inl (C.free y hy e).1)
theorem dF.ql(C:dF X.N X.env.scope scope own js)(ok:X.Ok){x:π}{c:ε}(h:(jD X.env scope.names []).lookup x=some c):(x,bT)∈scope.names/\X.env.cells.lookup x=some c:=by
 rcases qB scope.names [] h with q|⟨q1,q2⟩
 ·cases q
 ·obtain⟨c',e⟩:=C.cells ok _ q1 rfl;refine⟨q1,?_⟩;rw[q2,show X.env.cells.lookup x=some c' from e];rfl
theorem dF.AQ(C:dF X.N X.env.scope scope own js)(ok:X.Ok){x:π}(h:(x,bT)∈scope.names):∃c,(jD X.env scope.names []).lookup x=some c/\X.env.cells.lookup x=some c:=by
 obtain⟨c,e⟩:=C.cells ok _ h rfl;refine⟨c,?_,e⟩;rw[vO scope.names [] h,show X.env.cells.lookup x=some c from e];rfl
theorem Inv.KL(I:Inv X pins σ H s)(C:dF X.N X.env.scope scope own js)(hf:∀b∈fp,gH X pins H b/\b<s.heap.objs.size):(X.cmp scope own js s H fp).Ok where
 mod:=I.ok.mod
 kind:=C.kind
 glob:=I.ok.glob
 blt:=I.ok.blt
 above:=Γ _
 inj:=fun x y c h1 h2=>I.ok.inj x y c (C.ql I.ok h1).2 (C.ql I.ok h2).2
 has:=fun x h=>by
  have hfree:(x,bT)∈scope.names:=by
   rcases h with h|h
   ·rcases gY (sc:=scope) (env:=X.env) scope.names h with⟨q,_⟩|⟨_,q⟩
    ·exact absurd rfl (C.An _ (lZ q))
    ·exact lZ q
   ·rcases gY (sc:=scope) (env:=X.env) scope.names h with⟨q,_⟩|⟨q,_⟩
    ·exact lZ q
    ·cases q
  obtain⟨c,e,_⟩:=C.AQ I.ok hfree;exact⟨c,e⟩
 xu:=fun x c h1 h2=>by
  have q:=(C.free _ (C.ql I.ok h2).1 rfl).2;have h1':own.contains x=true:=h1;rw[q] at h1';cases h1'
 hd:=I.ok.hd
 frames:=I.ok.frames
 zF:=.inl rfl
 AI:=fun b hb=>⟨aO (hf b hb).2,fun x c e=>(hf b hb).1.2.2.2.2.1 x c (C.ql I.ok e).2⟩
 bs:=I.bs
 se:=bc I.ok.se I.sz
 qN:=fun b o e hb=>by
  rcases (hf b hb).1.2.2.2.1 with z|z
  ·exact I.ok.qN b o e z
  ·exact absurd (aP (Δ e) (bc I.ok.se z)) (bS _)
 sR:=fun b hb z=>by
  rcases aa.mp (I.uz b z) with e|e
  ·exact (hf b hb).1.2.1 e
  ·exact (hf b hb).1.2.2.1 e
 j8:=I.stack
 vI:=I.wM
theorem vH{N:List π}{js:List Nat}{i:Nat}{x:π}(h:(js.map fun j=>N.getD j eD)[i]?=some x):∃j,js[i]?=some j/\x=N.getD j eD:=by
 rw[av] at h;cases e:js[i]? with
 |none=>rw[e] at h;cases h
 |some j=>rw[e] at h;exact⟨j,rfl,(ai h).symm⟩
theorem Inv.cmp(I:Inv X pins σ H s)(C:dF X.N X.env.scope scope own js)(hf:∀b∈fp,gH X pins H b/\b<s.heap.objs.size){h':ae}{tk:Nat}(hn:h'.Ns s.heap.objs.size fun _=>none)
  (kept:∀b o,s.heap.get? b=some o->h'.get? b=some o):Inv (X.cmp scope own js s H fp) [] (qj own js σ) H { s with heap:=h',toks:=tk }:=by
 have ok:=I.KL C hf;refine⟨ok,rfl,I.bare,Un.kept kept,⟨_,hn,fun i x v h1 h2 h3=>?_⟩,fun x c e=>?_,I.bD.fresh (Γ _),fun x c e=>I.jJ x c (C.ql I.ok e).2,fun p hp=>?_,I.bD.kept kept,?_⟩
 ·have h1':(own++js.map fun j=>X.N.getD j eD)[i]?=some x:=h1;have h2':(aV own.length none++js.map fun j=>(σ[j]?).getD none)[i]?=some (some v):=h2;by_cases hi:i<own.length
  ·rw[cW (by simpa using hi),lD,if_pos hi] at h2';cases h2'
  ·rw[cN (by lia)] at h1';rw[cN (by simp;lia),iM] at h2';obtain⟨j,hj,rfl⟩:=vH h1';rw[av,hj] at h2';have h2'':(σ[j]?).getD none=some v:=ai h2';have hσ:σ[j]?=some (some v):=by
    cases e:σ[j]? with
    |none=>rw[e] at h2'';cases h2''
    |some o=>
     rw[e] at h2'';have:o=some v:=h2'';rw[this]
   obtain⟨jl,jf⟩:=C.js j (bu hj);have hN:X.N[j]?=some (X.N.getD j eD):=by
    rw[List.getD_eq_getElem?_getD,bz jl];rfl
   have hcell:=(C.free _ jf rfl).1;obtain⟨m,hm,hl⟩:=I.loc;obtain⟨u,ru,lk⟩:=hl j _ v hN hσ (.inr (.inl hcell));refine⟨u,ru,?_⟩;obtain⟨c,e1,e2⟩:=C.AQ I.ok jf;rcases lk with⟨z,_⟩|⟨_,c',z1,z2⟩
   ·have z':X.env.scope.names.lookup (X.N.getD j eD)=some .local:=z;rw[show X.env.scope.names.lookup (X.N.getD j eD)=some .cell from hcell] at z';cases z'
   ·rw[e2] at z1;cases z1;have ic:h'.IsCell c (some u):=by
     obtain⟨o,q1,q2⟩:=z2;exact⟨o,kept _ _ q1,q2⟩
    rcases h3 with h3|h3|h3
    ·exfalso;rcases gY (sc:=scope) (env:=X.env) scope.names h3 with⟨q,_⟩|⟨q,_⟩
     ·have z:=C.only _ jf rfl;rw[q] at z;cases z
     ·cases q
    ·exact .inr ⟨.inl h3,c,e1,ic⟩
    ·exact .inr ⟨.inr h3,c,e1,ic⟩
 ·obtain⟨v,o,q1,q2⟩:=I.cell x c (C.ql I.ok e).2;exact⟨v,o,kept _ _ q1,q2⟩
 ·exact absurd (show p∈([]:List (ε×aJ)) from hp) (by simp)
 ·show (aV own.length none++js.map fun j=>(σ[j]?).getD none).length=(own++js.map fun j=>X.N.getD j eD).length;simp
theorem Inv.IY{σ':St}{H':Hp}{s':η}{pl:List (ε×aJ)}(I:Inv X pins σ H s)(hf:∀b∈fp,gH X pins H b/\b<s.heap.objs.size)(J:Inv (X.cmp scope own js s H fp) pl σ' H' s'):Inv X pins σ H' s':=by
 refine I.KN (ch:=fp) J.os J.base J.bD J.bare fun b hb=>?_;obtain⟨f0,f1,f2,f3,f4,f5⟩:=(hf b hb).1;exact⟨f3,f1,f4,f5⟩
theorem Inv.other{H':Hp}{s':η}{h':ae}{b:ε}(I0:Inv X pins σ H s)(I:Inv X pins σ H' s')(hb:s.heap.objs.size≤b)(hn:H' b=none)(sb:dh b s'.heap h'):Inv X pins σ H' { s' with heap:=h' }:=by
 obtain⟨f0,f1,f2,f3,f4,f5⟩:=I0.pD hb hn;exact I.turned (t':=s'.toks) (fun c o hc e=>(sb.2 c hc).trans e) f0 f1 f3 f4 f5
end
def xB(X:Cx)(ifs:List ν)(t:TT):Prop:=
 ∀(pins:List (ε×aJ)) (s:η) (σ:St) (H:Hp) (Q:Bool->Hp->Prop),Inv X pins σ H s->t σ H Q ->
  ρ (model X.prog X.w) X.A (forIn ifs true fun c r=>if r=true then do let ok ←isTrue c X.env (eval c X.env);pure (fo ok) else pure (fo r)) (TP X pins σ Q) X.xe s
def D1:TT:=fun _ H Q=>Q true H
theorem Ez{X:Cx}:xB X [] D1:=fun _ _ _ H _ I h=>wpAny_tests_nil ⟨H,I,h⟩
section
variable {prog:ah} {w:ar} {A:bo} {R:Result->η->Prop} {s:η}
theorem sW{elt target iter:ν}{ifs:List ν}{scope:fD}{pos:aE}{it acc:δ}{env:fV}(I:Nat->η->Prop)
  (turn:∀n s,I n s->ρ (model prog w) A (pyNext it) (fun r s₁=>match r with
   |none=>R (.ok .next) s₁
   | some v=>ρ (model prog w) A (letOwnedTupleGo target it v) (fun _ s₁'=>ρ (model prog w) A (assign target env v) (fun _ s₂=>
     ρ (model prog w) A (forIn ifs true fun c r=>if r=true then do let ok ←isTrue c env (eval c env);pure (fo ok) else pure (fo r)) (fun ok s₃=>
      if ok=true then ρ (model prog w) A (eval elt env) (fun x s₄=>
       ρ (model prog w) A (call (.builtin "list.append") [acc,x]) (fun _ s₅=>∃m,m<n/\I m s₅) (fun _ _=>False) s₄) (fun _ _=>False) s₃
      else ∃m,m<n/\I m s₃) (fun _ _=>False) s₂) (fun _ _=>False) s₁') (fun _ _=>False) s₁) (fun _ _=>False) s)
  (n:Nat) (h:I n s):
  iL (model prog w) A (.compLoop (.ListComp elt [⟨target,iter,ifs,0⟩] scope pos) 0 it acc env) R s:=by
 refine codeAny_loop rfl I (fun n s hI=>?_) n h;show ρ _ A ((compTurn (.ListComp elt [⟨target,iter,ifs,0⟩] scope pos) 0 it acc env).onRaise (fun x=>do noteFrame x env;theTreesLotGoes x)) _ _ s
 refine wpAny_noted ?_;rw[compTurn_list];refine γ (wpAny_standAt (γ (dZ (turn n s hI) (fun r s₁ h₁=>?_) fun _ _ h'=>h'.elim)));cases r with
 |none=>exact μ h₁
 |some v=>
  refine γ (dZ h₁ (fun _ s₁' h₁'=>?_) fun _ _ h'=>h'.elim);refine γ (dZ h₁' (fun _ s₂ h₂=>γ (dZ h₂ (fun ok s₃ h₃=>?_) fun _ _ h'=>h'.elim)) fun _ _ h'=>h'.elim);cases ok with
  |false=>exact μ ⟨rfl,h₃⟩
  |true=>
   exact γ (γ (dZ h₃ (fun x s₄ h₄=>γ (dZ h₄ (fun _ s₅ h₅=>μ (μ ⟨rfl,h₅⟩)) fun _ _ h'=>h'.elim)) fun _ _ h'=>h'.elim))
end
def IK(own:List π)(js:List Nat)(g:TG)(tc:TT)(te:TE)(J:It)(σ:St)(H:Hp)(Q:VK):Prop:=
 ∀D,H D=none->∃W:Nat->Nat->List V->St->Hp->Prop,(∃m,W 0 m [] (qj own js σ) (upd H D (.lst [])))/\∀i m ys σ' H',W i m ys σ' H'->H' D=some (.lst ys) ∧
  ((J.stop i H'/\Q (.ref D) H')∨(J.go i H'/\ys.length<Φ/\∀x H2,J.zi i H' x H2->g x σ' H2 fun σ2 H3=>tc σ2 H3 fun b H4=>
   if b=true then te σ2 H4 fun v H5=>H5 D=some (.lst ys)/\∃m',m' < m/\W (i+1) m' (ys++[v]) σ2 (upd H5 D (.lst (ys++[v]))) else ∃m',m' < m/\W (i+1) m' ys σ2 H4))
def K4(own:List π)(js:List Nat)(wi:TI)(g:TG)(tc:TT)(te:TE):TE:=fun σ H Q=>wi σ H fun J H1=>IK own js g tc te J σ H1 Q
section
variable {X:Cx} {tg iter elt:ν} {ifs:List ν} {scope:fD} {pos:aE} {own:List π} {js:List Nat} {g:TG} {tc:TT} {te:TE}
theorem yV{pins:List (ε×aJ)}{σ:St}{H:Hp}{s:η}{Q:VK}{it:ε}{fp:List ε}{tn:Nat->ae->Prop}{J:It}{E:δ->η->Prop}{RR:δ->ε->Result->η->Prop}
  (hc:X.calm=true) (C:dF X.N X.env.scope scope own js)
  (hb:∀s H fp,PG (X.cmp scope own js s H fp) tg g/\xB (X.cmp scope own js s H fp) ifs tc/\PE (X.cmp scope own js s H fp) elt te)
  (I:Inv X pins σ H s) (T:Turn X.prog X.w X.K tg J fp it tn) (st:tn 0 s.heap) (hf:∀b∈fp,gH X pins H b) (rd:IK own js g tc te J σ H Q)
  (Mo:∀D N s' H',Inv X pins σ H' s'->Q (.ref D) H'->s.heap.objs.size≤N->H' N=none->(∃m,s'.heap.Ns N m)->RR (.ref D) N (.ok .next) s'):
  ρ (model X.prog X.w) X.A (newList []) (fun acc s₃=>ρ (model X.prog X.w) X.A (newFunctionEnv scope X.env.globals (jD X.env scope.names []) [] X.env.qual none .none (some X.env)) (fun cenv s₄=>
   iL (model X.prog X.w) X.A (.compStart (.ListComp elt [⟨tg,iter,ifs,0⟩] scope pos) 0 (.ref it) acc { cenv with scope:=relabel scope X.env }) (RR acc cenv.locals) s₄) E s₃) E s:=by
 have hD:H s.heap.objs.size=none:=I.fresh;obtain⟨W,⟨m0,w0⟩,turn⟩:=rd s.heap.objs.size hD;refine bN ?_;have hI3:Inv X pins σ (upd H s.heap.objs.size (.lst [])) { s with heap:=s.heap.push { cls:=.type "list",data:=.seq ([]:List δ).toArray }}:=
  I.yu (t':=s.toks) (its:=[]) (ys:=[]) .nil (aQ _)
 have hlt:∀b∈fp,b<s.heap.objs.size:=fun b hb=>by
  obtain⟨o,e,_⟩:=T.obj 0 _ st b hb;exact Δ e
 have st3:tn 0 (s.heap.push { cls:=.type "list",data:=.seq ([]:List δ).toArray }):=T.keep 0 _ _ st fun b _ o e=>θ _ e;generalize hs3:({ s with heap:=s.heap.push { cls:=.type "list",data:=.seq ([]:List δ).toArray }}:η)=s3 at hI3 ⊢;have hsz3:s3.heap.objs.size=s.heap.objs.size+1:=by rw[←hs3];exact cU ..
 have st3':tn 0 s3.heap:=by rw[←hs3];exact st3
 have hf3:∀b∈fp,gH X pins (upd H s.heap.objs.size (.lst [])) b/\b<s3.heap.objs.size:=fun b hb=>by
  obtain⟨f0,f1⟩:=hf b hb;refine⟨⟨?_,f1⟩,by rw[hsz3];exact fE (hlt b hb)⟩;rw[bp (aO (hlt b hb))];exact f0
 refine wpAny_newFunctionEnv C.An (by intro y hy;simp at hy) (fun h₁ hns₁ hsb₁=>?_) C.kind;have kept1:∀b o,s3.heap.get? b=some o->h₁.get? b=some o:=fun b o e=>(hsb₁.2 b (aO (Δ e))).trans (θ _ e);have I4:Inv (X.cmp scope own js s3 (upd H s.heap.objs.size (.lst [])) fp) [] (qj own js σ) (upd H s.heap.objs.size (.lst [])) { s3 with heap:=h₁,toks:=s3.toks+([]:List (π×δ)).length }:=
  hI3.cmp C hf3 hns₁ kept1
 have st4:tn 0 h₁:=T.keep 0 _ _ st3' fun b _ o e=>kept1 b o e;obtain⟨hg,ht,he⟩:=hb s3 (upd H s.heap.objs.size (.lst [])) fp
 -- the iterator's objects in the block's context
 have stat:∀{H':Hp},(∀b∈fp,H' b=none)->∀b∈fp,gH (X.cmp scope own js s3 (upd H s.heap.objs.size (.lst [])) fp) [] H' b:=fun {H'} hn b hb=>by
  have q:=I4.ok;exact⟨hn b hb,(q.AI b hb).1,q.sR b hb,.inl hb,(q.AI b hb).2,fun p hp=>absurd (show p∈([]:List (ε×aJ)) from hp) (by simp)⟩
 have loop:iL (model X.prog X.w) X.A (.compLoop (.ListComp elt [⟨tg,iter,ifs,0⟩] scope pos) 0 (.ref it) (.ref s.heap.objs.size) (compEnvC scope (jD X.env scope.names []) s3.heap.objs.size X.env))
   (RR (.ref s.heap.objs.size) s3.heap.objs.size) { s3 with heap:=h₁,toks:=s3.toks+([]:List (π×δ)).length }:=by
  refine sW (fun n s'=>∃i ys σ' H',Inv (X.cmp scope own js s3 (upd H s.heap.objs.size (.lst [])) fp) [] σ' H' s'/\tn i s'.heap/\(∀b∈fp,H' b=none)/\W i n ys σ' H') ?_ m0
   ⟨0,[],_,_,I4,st4,fun b hb=>(hf3 b hb).1.1,w0⟩
  rintro n s5 ⟨i,ys,σ5,H5,I5,st5,fr5,w5⟩;obtain⟨hacc,hcase⟩:=turn i n ys σ5 H5 w5;rcases hcase with⟨stop,qn⟩|⟨go,hys,step⟩
  ·refine bq (T.done (X.cmp scope own js s3 (upd H s.heap.objs.size (.lst [])) fp) rfl rfl rfl hc i [] s5 σ5 H5 (fun _ _=>False) I5 (stat fr5) st5 stop) fun r s6 ⟨hr,I6⟩=>?_;subst hr;have I7:=hI3.IY hf3 I6;obtain⟨m,hm,_⟩:=I6.loc;exact Mo _ _ _ _ I7 qn (by rw[hsz3];exact Nat.le_succ _) I6.free ⟨m,hm⟩
  ·refine bq (T.item (X.cmp scope own js s3 (upd H s.heap.objs.size (.lst [])) fp) rfl rfl rfl hc i [] s5 σ5 H5 (fun _ _=>False) I5 (stat fr5) st5 go) fun r s6 ⟨u,hr,h6⟩=>?_;subst hr;refine bq h6 fun _ s7 ⟨x,H7,I7,r7,y7,st7,fr7⟩=>?_;have I7':=I7.pinned (stat fr7) (T.obj _ _ st7);refine bq (hg _ s7 σ5 H7 x u _ I7' r7 (step x H7 y7)) fun _ s8 ⟨σ8,H8,I8,q8⟩=>?_;refine bq (ht _ s8 σ8 H8 _ I8 q8) fun ok s9 ⟨H9,I9,q9⟩=>?_;have back:∀{σ':St} {H':Hp} {s':η} {ys':List V},Inv (X.cmp scope own js s3 (upd H s.heap.objs.size (.lst [])) fp) ([]++pd fp s7.heap) σ' H' s'->(∃m',m' < n/\W (i+1) m' ys' σ' H') ->
     ∃m',m' < n/\∃i ys σ' H',Inv (X.cmp scope own js s3 (upd H s.heap.objs.size (.lst [])) fp) [] σ' H' s'/\tn i s'.heap/\(∀b∈fp,H' b=none)/\W i m' ys σ' H':=fun {σ' H' s' ys'} I' ⟨m',hm,w'⟩=>by
    refine⟨m',hm,i+1,ys',σ',H',I'.mZ,T.keep _ _ _ st7 fun b hb o e=>(I'.pin (b,o) (aC _ (aC _ (kr hb e)))).1,fun b hb=>?_,w'⟩;obtain⟨o,e,d⟩:=T.obj _ _ st7 b hb;exact (I'.pin (b,o) (aC _ (aC _ (kr hb e)))).2.1
   cases ok with
   |false=>
    rw[if_neg af] at q9 ⊢;exact back I9 q9
   |true=>
    rw[if_pos rfl] at q9 ⊢;refine bq (he _ s9 σ8 H9 _ I9 q9) fun xv s10 ⟨v,H10,I10,r10,hD10,q10⟩=>?_;refine bq (pj (X:=X.cmp scope own js s3 (upd H s.heap.objs.size (.lst [])) fp) _ s10 σ8 H10 (.ref s.heap.objs.size) [v] (.ref s.heap.objs.size) [xv] (fun _ H'=>H'=upd H10 s.heap.objs.size (.lst (ys++[v]))) I10 rfl (.cons r10 .nil)
     ⟨_,ys,v,rfl,rfl,hD10,hys,rfl⟩) fun _ s11 ⟨_,H11,I11,_,e11⟩=>?_
    subst e11;exact back I11 q10
 exact codeAny_compStart_list loop (T.self _ 0 _ _ _ st4 loop)
theorem Eu{wi:TI}(hc:X.calm=true)(C:dF X.N X.env.scope scope own js)(hi:PI X tg iter wi)
  (hb:∀s H fp,PG (X.cmp scope own js s H fp) tg g/\xB (X.cmp scope own js s H fp) ifs tc/\PE (X.cmp scope own js s H fp) elt te)
  (hs:∀x,foldedSetIterable iter X.env x=pure x:=by intro _;rfl):PE X (.ListComp elt [⟨tg,iter,ifs,0⟩] scope pos) (K4 own js wi g tc te):=by
 intro pins s σ H Q I h;rw[eval_ListComp];refine wpAny_comprehension_free (use:=none) rfl hs (sa (C.cells I.ok)) C.kind C.names (bq (hi pins s σ H _ I h) fun xv s₁ h₁=>bq h₁ fun itv s₂ h₂=>?_);obtain⟨it,fp,tn,J,H2,e,I2,T,st2,f2,rd⟩:=h₂;subst e;refine yV (RR:=fun acc C'=>compPost (model X.prog X.w) X.A X.xe none (EP X pins σ Q) acc C') hc C hb I2 T st2 f2 rd fun D N s' H' I' q hN hHN ⟨m,hm⟩=>?_;exact⟨m,hm,fun h' sb=>⟨.ref D,H',I2.other I' hN hHN sb,rfl,q⟩⟩
end
end L2
namespace L3
open PySem PySem.Spec PyProof.Rows L2
section
variable {X:Cx} {st:aU} {rest:List aU} {t u:aN} {e c:ν} {te:ag} {tc:cf} {pos:aE}
def dX:aN:=fun D τ G=>D.nx τ G
def bI(t u:aN):aN:=fun D τ G=>t { D with nx:=u D } τ G
theorem Jn:nN X [] dX:=Aa Ek fun D σ H ⟨τ,G,D3,RS,RG,h,k⟩=>k.nx τ σ G H RS (.refl H G) RG h
theorem FJ(h1:qC X st t)(h2:nN X rest u):nN X (st::rest) (bI t u):=Aa (BD h1 h2) fun D σ H ⟨τ,G,D3,RS,RG,h,k⟩=>
 ⟨τ,G,{ D3 with nx:=u D3 },RS,RG,h,⟨fun τ' σ' G' H' a b c q=>⟨τ',G',D3,a,c,q,k.step b⟩,k.bk,k.ct,k.rt⟩⟩
theorem Jm(h1:qC X st t):nN X [st] t:=Ej h1
def rF(te:ag):aN:=fun D τ G=>te τ G fun _ G1=>D.nx τ G1
theorem FI(he:bA X e te)(hs:swapsWith e none pos.line X.env=pure false:=by rfl):qC X (.Expr e pos) (rF te):=nt (El he hs) fun D σ H ⟨τ,G,D3,RS,RG,h,k⟩=>
 ⟨τ,G,_,RS,RG,h,fun v H1 d G1 h1 S1 R1 q1=>k.nx τ σ G1 H1 (RS.ext (S1.ext RG)) S1 R1 q1⟩
def cO(te:ag):aN:=fun D τ G=>te τ G D.rt
theorem Jl(he:bA X e te):qC X (.Return (some e) pos) (cO te):=nt (Gn he) fun D σ H ⟨τ,G,D3,RS,RG,h,k⟩=>
 ⟨τ,G,D3.rt,RS,RG,h,fun v H1 d G1 h1 S1 R1 q1=>k.rt d v G1 H1 h1 S1 R1 q1⟩
def iS(c:cf)(t u:aN):aN:=fun D τ G=>c τ G fun b G1=>Br b (t D τ G1) (u D τ G1)
theorem Lq{a b:List aU}(hc:og X c tc)(ha:nN X a t)(hb:nN X b u):qC X (.If c a b pos) (iS tc t u):=nt (JC hc ha hb) fun D σ H ⟨τ,G,D3,RS,RG,h,k⟩=>
 ⟨τ,G,_,RS,RG,h,fun b H1 G1 S1 R1 q1=>Br.ite q1 (fun q=>⟨τ,G1,D3,RS.ext (S1.ext RG),R1,q,k.step S1⟩) fun q=>⟨τ,G1,D3,RS.ext (S1.ext RG),R1,q,k.step S1⟩⟩
def mv:aN:=fun _ _ _=>False
theorem Eb:qC X st mv:=nt BE fun D σ H ⟨τ,G,D3,RS,RG,h,k⟩=>h
end
abbrev gf:=D->S3->Gp->(S3->Gp->Prop)->Prop
abbrev kQ:=List D->S3->Gp->(S3->Gp->Prop)->Prop
def lowG(K:ζ)(t:gf):TG:=fun v σ H Q=>∃d τ G Q3,Hv K H d v/\dq K τ σ H/\aK K G H/\t d τ G Q3/\∀τ' σ' G' H',dq K τ' σ' H'->Step H G H' G'->aK K G' H'->Q3 τ' G'->Q σ' H'
def Kc(K:ζ)(t:kQ):sg:=fun vs σ H Q=>∃ds τ G Q3,aw K H ds vs/\dq K τ σ H/\aK K G H/\t ds τ G Q3/\∀τ' σ' G' H',dq K τ' σ' H'->Step H G H' G'->aK K G' H'->Q3 τ' G'->Q σ' H'
abbrev tW(X:Cx)(tg:ν)(t:gf):Prop:=PG X tg (lowG X.K t)
abbrev v8(X:Cx)(tgs:List ν)(t:kQ):Prop:=v9 X tgs (Kc X.K t)
section
variable {X:Cx} {pos:aE} {e:ν} {es:List ν}
theorem yi{t t':TG}(h:PG X e t)(f:∀v σ H Q,t' v σ H Q->t v σ H Q):PG X e t':=fun pins s σ H v u Q I r q=>h pins s σ H v u Q I r (f v σ H Q q)
theorem Ae{t t':sg}(h:v9 X es t)(f:∀v σ H Q,t' v σ H Q->t v σ H Q):v9 X es t':=fun pins s σ H v u Q I r q=>h pins s σ H v u Q I r (f v σ H Q q)
def hName(i:Nat):gf:=fun d τ G Q=>Q (j7 τ i d) G
theorem HY{i:Nat}{x:π}(hN:X.N.Nodup)(hi:X.N[i]?=some x:=by rfl)(hx:Loc X.env.scope x:=by first|exact pN rfl|exact mU rfl)(hf:X.fn x=true∨X.env.scope.names.lookup x=some .local:=by first|exact .inl rfl|exact .inr rfl|assumption):tW X (.Name x pos) (hName i):=
 yi (Es hN hi hx hf) fun v σ H Q ⟨d,τ,G,Q3,hd,RS,RG,h,k⟩=>k _ _ G H (RS.set hd) (.refl H G) RG h
def qV:kQ:=fun ds τ G Q=>match ds with
 |[]=>Q τ G
 |_::_=>False
def ik(t:gf)(u:kQ):kQ:=fun ds τ G Q=>match ds with
 |[]=>False
 |d::r=>t d τ G fun τ' G'=>u r τ' G' Q
theorem HX:v8 X [] qV:=Ae Er fun vs σ H Q ⟨ds,τ,G,Q3,hd,RS,RG,h,k⟩=>by
 cases ds with
 |nil=>exact⟨hd.gC,k _ _ G H RS (.refl H G) RG h⟩
 |cons d r=>exact h.elim
theorem E7{t:gf}{u:kQ}(h1:tW X e t)(h2:v8 X es u)(hs:(assignEach (e::es) X.env).map (·.2)=assign e X.env::(assignEach es X.env).map (·.2):=by rfl):v8 X (e::es) (ik t u):=
 Ae (BG h1 h2 hs) fun vs σ H Q ⟨ds,τ,G,Q3,hd,RS,RG,h,k⟩=>by
  cases ds with
  |nil=>exact h.elim
  |cons d r=>
   obtain⟨v,vr,rfl,q1,q2⟩:=hd.inv;refine⟨v,vr,rfl,d,τ,G,_,q1,RS,RG,h,fun τ' σ' G' H' a b c q=>?_⟩;exact⟨r,τ',G',Q3,q2.ext (b.ext RG),a,c,q,fun τ2 σ2 G2 H2 a2 b2 c2=>k τ2 σ2 G2 H2 a2 (b.trans b2) c2⟩
def qU(n:Nat)(t:kQ):gf:=fun d τ G Q=>match d with
 |.tup ds=>ds.length=n/\t ds τ G Q
 |_=>False
theorem Kp{k:Nat}{t:kQ}{n:Nat}(hc:X.calm=true)(h:v8 X es t)(hn:(assignEach es X.env).length=n:=by rfl)(hst:(assignEach es X.env).findIdx? (·.1)=none:=by rfl):tW X (.Tuple es k pos) (qU n t):=
 yi (Gu hc h hn hst) fun v σ H Q ⟨d,τ,G,Q3,hd,RS,RG,h,k⟩=>by
  cases d with
  |tup ds=>
   unfold Hv at hd;obtain⟨a,vs,e1,e2,e3⟩:=hd;exact⟨a,vs,e1,e2,by rw[←e3.length];exact h.1,ds,τ,G,Q3,e3,RS,RG,h.2,k⟩
  |_=>exact h.elim
def cI(te:ag)(g:gf):aN:=fun D τ G=>te τ G fun x G1=>g x τ G1 D.nx
theorem Jp{tg:ν}{te:ag}{g:gf}(he:bA X e te)(hg:tW X tg g)(hs:swapsWithSole [tg] e pos.line X.env=pure false:=by rfl)(hw:swappedStores [tg] e X.env=pure none:=by rfl)
  (h1:(assignEach [tg] X.env).map (·.2)=[assign tg X.env]:=by rfl):qC X (.Assign [tg] e pos) (cI te g):=nt (Gr he hg hs hw h1) fun D σ H ⟨τ,G,D3,RS,RG,h,k⟩=>
 ⟨τ,G,_,RS,RG,h,fun v H1 d G1 h1 S1 R1 q1=>⟨d,τ,G1,D3.nx,h1,RS.ext (S1.ext RG),R1,q1,fun τ' σ' G' H' a b c q=>k.nx τ' σ' G' H' a (S1.trans b) c q⟩⟩
theorem Jk{i:Nat}{x:π}{te:ag}{pos':aE}(hN:X.N.Nodup)(he:bA X e te)(hi:X.N[i]?=some x:=by rfl)(hx:Loc X.env.scope x:=by first|exact pN rfl|exact mU rfl)(hs:swapsWith e (some (.Name x pos')) pos.line X.env=pure false:=by rfl)
  (hf:X.fn x=true∨X.env.scope.names.lookup x=some .local:=by first|exact .inl rfl|exact .inr rfl|assumption):qC X (.Assign [.Name x pos'] e pos) (cI te (hName i)):=nt (Gm hN hi hx he hs hf) fun D σ H ⟨τ,G,D3,RS,RG,h,k⟩=>
 ⟨τ,G,_,RS,RG,h,fun v H1 d G1 h1 S1 R1 q1=>k.nx _ _ G1 H1 ((RS.ext (S1.ext RG)).set h1) S1 R1 q1⟩
def CW:D->D->D->Gp->(Gp->Prop)->Prop:=fun o i v G Q=>match o,i with
 |.obj p,.int k=>∃ds j,G p=some (.lst ds)/\rV ds.length k=some j/\Q (dA G p (.lst (ds.set j v)))
 |_,_=>False
def hSub(to ti:ag):gf:=fun v τ G Q=>to τ G fun o G1=>ti τ G1 fun i G2=>CW o i v G2 fun G3=>Q τ G3
theorem EI{K:ζ}{o i v:D}{vo vi vv:V}{G:Gp}{H:Hp}{Q3:Gp->Prop}{Q:Hp->Prop}(ho:Hv K H o vo)(hi:Hv K H i vi)(hv:Hv K H v vv)(RG:aK K G H)(h:CW o i v G Q3)
  (k:∀H' G',Step H G H' G'->aK K G' H'->Q3 G'->Q H'):CV vo vi vv H Q:=by
 match o,i,ho,hi,h with
 |.obj p,.int j,ho,hi,h=>
  unfold Hv at ho hi;obtain⟨ds,n,e1,e2,q⟩:=h;obtain⟨vs,e3,e4⟩:=RG p _ e1;refine⟨p,vs,j,n,ho,hi,e3,by rw[←e4.length];exact e2,k _ _ (Step.wrote (g:=.lst (ds.set n v)) e1) (RG.wrote e3 ⟨_,bX,?_⟩) q⟩;exact (e4.ext (Ext.wrote e3)).set n (hv.ext (Ext.wrote e3))
 |.obj _,.ao,_,_,h=>exact h.elim
 |.obj _,.bl _,_,_,h=>exact h.elim
 |.obj _,.str _,_,_,h=>exact h.elim
 |.obj _,.tup _,_,_,h=>exact h.elim
 |.obj _,.eW _,_,_,h=>exact h.elim
 |.obj _,.obj _,_,_,h=>exact h.elim
 |.obj _,.dc _,_,_,h=>exact h.elim
 |.dc _,_,_,_,h=>exact h.elim
 |.ao,_,_,_,h=>exact h.elim
 |.bl _,_,_,_,h=>exact h.elim
 |.int _,_,_,_,h=>exact h.elim
 |.str _,_,_,_,h=>exact h.elim
 |.tup _,_,_,_,h=>exact h.elim
 |.eW _,_,_,_,h=>exact h.elim
theorem Kq{o i:ν}{to ti:ag}(ho:bA X o to)(hi:bA X i ti)
  (ha:∀v,assign (.Subscript o i pos) X.env v=(do
   let ov ←holding [v] (eval o X.env)
   let iv ←holding [v,ov] (eval i X.env)
   standAt pos
   holding [v,ov,iv] (setItem ov iv v)
   release [v,ov,iv] []):=by intro _;rfl):tW X (.Subscript o i pos) (hSub to ti):=yi (Gv ho hi set_list ha) fun v σ H Q ⟨d,τ,G,Q3,hd,RS,RG,h,k⟩=>
 ⟨τ,G,_,RS,RG,h,fun v1 H1 d1 G1 h1 S1 R1 q1=>⟨τ,G1,_,RS.ext (S1.ext RG),R1,q1,fun v2 H2 d2 G2 h2 S2 R2 q2=>
  EI (h1.ext (S2.ext R1)) h2 ((hd.ext (S1.ext RG)).ext (S2.ext R1)) R2 q2 fun H' G' y1 y2 y3=>k _ _ G' H' (((RS.ext (S1.ext RG)).ext (S2.ext R1)).ext (y1.ext R2)) ((S1.trans S2).trans y1) y2 y3⟩⟩
end
abbrev fz:=List D->Gp->V3->Prop
def ku(K:ζ)(sp:fz):Sp:=fun vs H Q _=>∃ds G Q3,aw K H ds vs/\aK K G H/\sp ds G Q3/\∀v H' d G',Hv K H' d v->Step H G H' G'->aK K G' H'->Q3 d G'->Q v H'
abbrev cV(P:ah)(w:ar)(K:ζ)(mg:π->Option δ)(base:ae)(k:Nat)(f:ε)(fd:aM)(ps:List π)(sp:fz):Prop:=hJ P w K mg base tZ k f fd ps (ku K sp)
def bM(sp:fz)(t:cq):ag:=fun τ G Q=>t τ G fun ds G1=>sp ds G1 Q
section
variable {X:Cx} {k:Nat} {f:ε} {fd:aM} {ps:List π} {sp:fz} {x:π} {p pos:aE} {e:ν} {es:List ν} {t:cq}
theorem BP{K:ζ}{σ:L2.St}{H:Hp}{Q:VK}{E:XK}(h:low K (bM sp t) σ H Q):CM (ku K sp) [] E (qT K t) σ H Q:=by
 obtain⟨τ,G,Q3,RS,RG,h,k⟩:=h;refine⟨τ,G,_,RS,RG,h,fun vs H1 ds G1 h1 S1 R1 q1=>?_⟩;refine⟨ds,G1,Q3,by rw[dO];exact h1,R1,q1,fun v H' d G' z1 z2 z3 z4=>k v H' d G' z1 (S1.trans z2) z3 z4⟩
theorem Iq(F:cV X.prog X.w X.K X.mg X.base k f fd ps sp)(hr:eL k X.A)(hm:X.mg x=some (.ref f))(hk:fP X.K (.ref f)=true)(hb:Binds X.K fd ps [])(ha:hZ X (e::es) t)(hg:Gl X x:=by rfl)
  (hdb:(x==("__debug__":π))=false:=by decide) (he:notStar e=true:=by rfl) (hpl:es.all notStar=true:=by rfl):
  bA X (.Call (.Name x p) (e::es) [] pos) (bM sp t):=dD (Ex (E:=E0) F hr hg hm hk hb .nil JH ha hdb (bt he) (cH hpl)) fun σ H Q h=>BP h
end
section
variable {P:ah} {w:ar} {K:ζ} {mg:π->Option δ} {base:ae}
def bG(Q:V3):nO:={ nx:=fun _ G'=>∃G0,Sub G0 G'/\Q .ao G0,rt:=fun d G'=>∃G0,Sub G0 G'/\Q d G0 }
theorem MA{x qual:π}{st:aU}{f:ε}{fd:aM}{N ps:List π}{k:Nat}{sp:fz}(F:fA K x qual st f fd)(S:bR N ps (ax st))(hN:ps.length≤N.length)(len:∀ds G Q,sp ds G Q->ds.length=ps.length)(tb:aN)
  (nC:∀(cdv:δ) (A:bo) (outer:List fV) (s:η) (H:Hp) (E:XK),eL k (A.deeper (envOfC qual (ax st) s.heap.objs.size f cdv)) ->
   nN (pF tZ P w K mg base N qual (ax st) f cdv A outer s H E).w9 (iJ st) tb)
  (Dp:∀ds G Q,sp ds G Q->tb (bG Q) (bB N ds) G):cV P w K mg base (k+1) f fd ps sp:=by
 refine F.ok S (fun vs H Q E h=>?_) (fun cdv A outer s H vs Q E hr h=>?_)
 ·obtain⟨ds,G,Q3,h1,h2,h3,h4⟩:=h;rw[←h1.length];exact len _ _ _ h3
 ·obtain⟨ds,G,Q3,h1,h2,h3,h4⟩:=h;refine⟨_,nC cdv A outer s H E hr,bB N ds,G,bG Q3,.start h1 ?_,h2,Dp _ _ _ h3,⟨?_,?_,?_,?_⟩⟩
  ·rw[←h1.length,len _ _ _ h3];exact hN
  ·exact fun τ σ G' H' a b c ⟨G0,s0,q⟩=>h4 _ H' .ao G0 (by simp[Hv]) (b.trans (.sub s0)) (c.sub s0) q
  ·exact fun τ σ G' H' a b c q=>q.elim
  ·exact fun τ σ G' H' a b c q=>q.elim
  ·exact fun d v G' H' a b c ⟨G0,s0,q⟩=>h4 _ H' d G0 a (b.trans (.sub s0)) (c.sub s0) q
end
end L3
namespace L3
open PySem PySem.Spec PyProof.Rows L2
structure Src where
 items:List D
 guard:Gp->Prop
structure uo(K:ζ)(H0:Hp)(J:It)(S:Src):Prop where
 go:∀(i:Nat) d H G,Ext H0 H->aK K G H->S.guard G->S.items[i]?=some d->J.go i H/\∀x H',J.zi i H x H'->Hv K H' d x/\Step H G H' G/\aK K G H'
 stop:∀(i:Nat) H G,Ext H0 H->aK K G H->S.guard G->S.items.length≤i->J.stop i H
abbrev jY:=S3->Gp->(Src->Gp->Prop)->Prop
def Ht(K:ζ)(ti:jY):TI:=fun σ H R=>∃τ G R3,dq K τ σ H/\aK K G H/\ti τ G R3/\∀J H' S G',uo K H' J S->Step H G H' G'->aK K G' H'->R3 S G'->R J H'
abbrev sh(X:Cx)(tg iter:ν)(ti:jY):Prop:=PI X tg iter (Ht X.K ti)
section
variable {X:Cx} {tg iter:ν} {pos p:aE}
theorem uh{t t':TI}(h:PI X tg iter t)(f:∀σ H R,t' σ H R->t σ H R):PI X tg iter t':=fun pins s σ H R I q=>h pins s σ H R I (f σ H R q)
def ma(te:ag):jY:=fun τ G R=>te τ G fun x G1=>match x with
 |.obj p=>∃ds,G1 p=some (.lst ds)/\R ⟨ds,fun G=>G p=some (.lst ds)⟩ G1
 |.tup ds=>R ⟨ds,fun _=>True⟩ G1
 |.eW ds=>R ⟨ds,fun _=>True⟩ G1
 |_=>False
theorem Ko{l:ν}{te:ag}(hl:bA X l te):sh X tg l (ma te):=by
 intro pins s σ H R I h;obtain⟨τ,G,R3,RS,RG,h,k⟩:=h
 -- the state carries what a list of the heap is
 refine bq (hl pins s σ H (fun v H'=>∃d G',Hv X.K H' d v/\Step H G H' G'/\aK X.K G' H'/\(match d with
  |.obj p=>∃ds,G' p=some (.lst ds)/\R3 ⟨ds,fun G=>G p=some (.lst ds)⟩ G'
  |.tup ds=>R3 ⟨ds,fun _=>True⟩ G'
  |.eW ds=>R3 ⟨ds,fun _=>True⟩ G'
  | _=>False)) I ⟨τ,G,_,RS,RG,h,fun v H' d G' a b c q=>⟨d,G',a,b,c,q⟩⟩) fun v s1 ⟨x,H1,I1,r1,d,G1,hv,S1,R1,q⟩=>?_
 have hlist:∀(a:ε) (its:List δ) (xs:List V),aH xs its->PlainL s1.heap a its.toArray->R (Lc X.K a) H1->ρ (model X.prog X.w) X.A (pyIter (.ref a)) (Dw X pins σ tg R) X.xe s1:=by
  intro a its xs rv p q;refine dk p.isList ?_;refine⟨s1.heap.objs.size,[s1.heap.objs.size],_,_,H1,rfl,I1.kept (t':=s1.toks) fun b o e=>θ _ e,zo a _,⟨_,Ξ _ rfl,rfl,rfl⟩,fun b hb=>?_,q⟩;have e:b=s1.heap.objs.size:=by simpa using hb
  subst e;exact I1.pD (Γ _) (I1.bD.fresh (Γ _))
 cases d with
 |obj a=>
  unfold Hv at hv;subst hv;cases r1;obtain⟨ds,e1,q⟩:=q;obtain⟨vs,e2,e3⟩:=R1 a _ e1;obtain⟨its,rv,p,hz⟩:=I1.list (du.of e2);refine hlist a its vs rv p (k _ _ _ _ ⟨?_,?_⟩ S1 R1 q)
  ·intro i d H' G' E' RG' hg hi;obtain⟨vs',z1,z2⟩:=RG' a _ hg;obtain⟨v',y1,y2⟩:=z2.get hi;refine⟨⟨vs',v',.of z1,y1⟩,fun x H'' hy=>?_⟩;obtain⟨rfl,hy⟩:=hy;have:=hy vs' (.of z1);rw[y1] at this;cases this;exact⟨y2,.refl _ _,RG'⟩
  ·intro i H' G' E' RG' hg hi;obtain⟨vs',z1,z2⟩:=RG' a _ hg;exact⟨vs',.of z1,by rw[←z2.length];exact hi⟩
 |tup ds=>
  unfold Hv at hv;obtain⟨a,vs,rfl,e2,e3⟩:=hv;cases r1;obtain⟨its,rv,p,hz⟩:=I1.tuple e2;have hq:R (La X.K a) H1:=by
   refine k _ _ _ _ ⟨?_,?_⟩ S1 R1 q
   ·intro i d H' G' E' RG' hg hi;obtain⟨v',y1,y2⟩:=e3.get hi;refine⟨⟨vs,v',cJ.ext E' e2,y1⟩,fun x H'' hy=>?_⟩;obtain⟨rfl,hy⟩:=hy;have:=hy vs (cJ.ext E' e2);rw[y1] at this;cases this;exact⟨y2.ext E',.refl _ _,RG'⟩
   ·intro i H' G' E' RG' hg hi;exact⟨vs,cJ.ext E' e2,by rw[←e3.length];exact hi⟩
  refine cA (show s1.heap.IsTuple a its.toArray from p) ?_;refine⟨s1.heap.objs.size,[s1.heap.objs.size],_,_,H1,rfl,I1.kept (t':=s1.toks) fun b o e=>θ _ e,xF a _,⟨_,Ξ _ rfl,rfl,rfl⟩,fun b hb=>?_,hq⟩;have e:b=s1.heap.objs.size:=by simpa using hb
  subst e;exact I1.pD (Γ _) (I1.bD.fresh (Γ _))
 |eW ds=>
  unfold Hv at hv;obtain⟨a,vs,rfl,e2,e3⟩:=hv;cases r1;obtain⟨its,rv,p,hz⟩:=I1.list e2.l;refine hlist a its vs rv p (k _ _ _ _ ⟨?_,?_⟩ S1 R1 q)
  ·intro i d H' G' E' RG' hg hi;obtain⟨v',y1,y2⟩:=e3.get hi;refine⟨⟨vs,v',(nZ.ext E' e2).l,y1⟩,fun x H'' hy=>?_⟩;obtain⟨rfl,hy⟩:=hy;have:=hy vs (nZ.ext E' e2).l;rw[y1] at this;cases this;exact⟨y2.ext E',.refl _ _,RG'⟩
  ·intro i H' G' E' RG' hg hi;exact⟨vs,(nZ.ext E' e2).l,by rw[←e3.length];exact hi⟩
 |ao=>exact q.elim
 |bl _=>exact q.elim
 |int _=>exact q.elim
 |str _=>exact q.elim
 |dc _=>exact q.elim
def kH(lo:Int)(n:Nat):List D:=(aq n).map fun i:Nat=>.int (lo+(i:Int))
theorem uS{lo:Int}{n i:Nat}{d:D}(h:(kH lo n)[i]?=some d):i<n/\d=.int (lo+(i:Int)):=by
 unfold kH at h;rw[av] at h;by_cases hi:i<n
 ·rw[jv hi] at h;simp at h;exact⟨hi,h.symm⟩
 ·rw[bZ.mpr (by simpa using hi)] at h;cases h
theorem jH(lo:Int)(n:Nat):(kH lo n).length=n:=by simp[kH]
theorem D7{K:ζ}{H:Hp}(lo:Int)(n:Nat):uo K H (Dy lo n) ⟨kH lo n,fun _=>True⟩:=⟨by
 intro i d H' G' _ RG _ hi;obtain⟨h1,h2⟩:=uS hi;refine⟨h1,fun x H'' hy=>?_⟩;obtain⟨rfl,rfl⟩:=hy;exact⟨by rw[h2];simp[Hv],.refl _ _,RG⟩,by
 intro i H' G' _ RG _ hi;rw[jH] at hi;exact hi⟩
def nA(ta:cq):jY:=fun τ G R=>ta τ G fun ds G1=>match ds with
 |[.int j]=>(-(2^62)≤j/\j<2^62)/\R ⟨kH 0 j.toNat,fun _=>True⟩ G1
 |_=>False
theorem HV{a:ν}{ta:cq}(hm:X.mg "range" = none)(ha:hZ X [a] ta)(hg:Gl X "range":=by rfl)(hs:notStar a=true:=by rfl):sh X tg (.Call (.Name "range" p) [a] [] pos) (nA ta):=
 uh (Ad hg hm ha (bt hs)) fun σ H R ⟨τ,G,R3,RS,RG,h,k⟩=>⟨τ,G,_,RS,RG,h,fun vs H1 ds G1 h1 S1 R1 q1=>by
  rcases ds with _|⟨d,_|⟨d2,ds⟩⟩
  ·exact q1.elim
  ·cases d with
   |int j=>
    obtain⟨v,r,rfl,z1,z2⟩:=h1.inv;cases z2.gC;unfold Hv at z1;exact⟨j,by rw[z1],q1.1.1,q1.1.2,k _ _ _ _ (D7 0 _) S1 R1 q1.2⟩
   |_=>exact q1.elim
  ·cases d<;>exact q1.elim⟩
def nF(guard:Gp->Prop)(g:gf)(tb:aN)(D3:nO):List D->S3->Gp->Prop
 |[],τ,G=>guard G/\D3.nx τ G
 |d::ds,τ,G=>guard G/\g d τ G fun τ2 G2=>tb { D3 with nx:=nF guard g tb D3 ds,ct:=nF guard g tb D3 ds,bk:=D3.nx } τ2 G2
def oX(ti:jY)(g:gf)(tb:aN):aN:=fun D3 τ G=>ti τ G fun S G1=>nF S.guard g tb D3 S.items τ G1
theorem Jo{body:List aU}{ti:jY}{g:gf}{tb:aN}(hp:PassesOwn (model X.prog X.w) X.A X.env X.xe)(hc:X.calm=true)(hi:sh X tg iter ti)(hg:tW X tg g)(hb:nN X body tb)
  (hs:∀x,foldedSetIterable iter X.env x=pure x:=by intro _;rfl):qC X (.For tg iter body [] pos) (oX ti g tb):=nt (Gq hp hc hi hg hb hs) fun D2 σ H ⟨τ,G,D3,RS,RG,h,k⟩=>by
 refine⟨τ,G,_,RS,RG,h,fun J H1 S G1 ok S1 R1 q1=>?_⟩;refine⟨fun i m σ' H'=>∃τ' G',dq X.K τ' σ' H'/\aK X.K G' H'/\Step H G H' G'/\Ext H1 H'/\nF S.guard g tb D3 (S.items.drop i) τ' G'/\m+i=S.items.length,⟨S.items.length,τ,G1,RS.ext (S1.ext RG),R1,S1,.refl H1,by simpa using q1,by lia⟩,?_⟩;rintro i m σ' H' ⟨τ',G',RS',RG',S',E',q,hm⟩;by_cases hlt:i<S.items.length
 ·have hd:S.items.drop i=S.items[i]::S.items.drop (i+1):=eu hlt;have hget:S.items[i]?=some S.items[i]:=bz hlt;rw[hd] at q;obtain⟨hgd,q⟩:=q;obtain⟨z1,z2⟩:=ok.go i _ H' G' E' RG' hgd hget;refine .inr ⟨z1,fun σ2 H2=>∃τ2 G2,dq X.K τ2 σ2 H2/\aK X.K G2 H2/\Step H G H2 G2/\Ext H1 H2/\nF S.guard g tb D3 (S.items.drop (i+1)) τ2 G2,fun σ2 H2 ⟨τ2,G2,a1,a2,a3,a4,a5⟩=>⟨m-1,by lia,τ2,G2,a1,a2,a3,a4,a5,by lia⟩,fun x H2 hy=>?_⟩;obtain⟨y1,y2,y3⟩:=z2 x H2 hy;refine⟨S.items[i],τ',G',_,y1,RS'.ext (y2.ext RG'),y3,q,fun τ3 σ3 G3 H3 b1 b2 b3 b4=>?_⟩;refine⟨τ3,G3,_,b1,b3,b4,⟨?_,?_,?_,?_⟩⟩
  ·exact fun τ4 σ4 G4 H4 c1 c2 c3 c4=>⟨τ4,G4,c1,c3,((S'.trans y2).trans b2).trans c2,((E'.trans (y2.ext RG')).trans (b2.ext y3)).trans (c2.ext b3),c4⟩
  ·exact fun τ4 σ4 G4 H4 c1 c2 c3 c4=>k.nx τ4 σ4 G4 H4 c1 (((S'.trans y2).trans b2).trans c2) c3 c4
  ·exact fun τ4 σ4 G4 H4 c1 c2 c3 c4=>⟨τ4,G4,c1,c3,((S'.trans y2).trans b2).trans c2,((E'.trans (y2.ext RG')).trans (b2.ext y3)).trans (c2.ext b3),c4⟩
  ·exact fun d v G4 H4 c1 c2 c3 c4=>k.rt d v G4 H4 c1 (((S'.trans y2).trans b2).trans c2) c3 c4
 ·have hd:S.items.drop i=[]:=fw (by lia);rw[hd] at q;exact .inl ⟨ok.stop i H' G' E' RG' q.1 (by lia),k.nx τ' σ' G' H' RS' S' RG' q.2⟩
def fM(guard:Gp->Prop)(g:gf)(tc:cf)(te:ag)(Q:List D->Gp->Prop):List D->List D->S3->Gp->Prop
 |[],acc,τ,G=>guard G/\Q acc G
 |d::ds,acc,τ,G=>guard G/\g d τ G fun τ2 G2=>tc τ2 G2 fun b G3=>Br b (te τ2 G3 fun v G4=>fM guard g tc te Q ds (acc++[v]) τ2 G4) (fM guard g tc te Q ds acc τ2 G3)
def vN(own:List π)(js:List Nat)(τ:S3):S3:=(own.map fun _=>none)++js.map fun j=>gd τ j
def il(own:List π)(js:List Nat)(ti:jY)(g:gf)(tc:cf)(te:ag):ag:=fun τ G Q=>ti τ G fun S G1=>S.items.length≤Φ ∧
 fM S.guard g tc te (fun ds G2=>∀p G3,dv G2 p (.lst ds) G3->Q (.obj p) G3) S.items [] (vN own js τ) G1
theorem xx:∀(τ:S3) (i:Nat),gd τ i=(τ[i]?).getD none
 |[],i=>by simp[gd]
 |x::r,0=>by simp[gd]
 |x::r,i+1=>by simp[gd,xx r i]
theorem dq.cmp{K:ζ}{τ:S3}{σ:L2.St}{H:Hp}(own:List π)(js:List Nat)(R:dq K τ σ H):dq K (vN own js τ) (qj own js σ) H:=⟨by simp[vN,qj],fun i d h=>by
 rw[xx] at h;unfold vN at h;by_cases hi:i<own.length
 ·rw[cW (by simpa using hi)] at h;rw[av,bz hi] at h;cases h
 ·rw[cN (by simpa using hi),av] at h;simp only[ξ] at h;cases hj:js[i-own.length]? with
  |none=>rw[hj] at h;cases h
  |some j=>
   rw[hj] at h;have h':gd τ j=some d:=h;obtain⟨v,e1,e2⟩:=R.at_ j d h';refine⟨v,?_,e2⟩;unfold qj;rw[cN (by simpa using hi),av];simp only[iM,hj,Option.map_some,e1,Option.getD_some]⟩
def cY:cf:=fun _ G Q=>Q true G
theorem Iv:xB X [] (qS X.K cY):=fun pins s σ H Q I ⟨τ,G,Q3,RS,RG,h,k⟩=>Ez pins s σ H Q I (k true H G (.refl H G) RG h)
theorem BO{K:ζ}{own:List π}{js:List Nat}{ti:jY}{g:gf}{tc:cf}{te:ag}{σ:L2.St}{H:Hp}{Q:VK}(h:low K (il own js ti g tc te) σ H Q):K4 own js (Ht K ti) (lowG K g) (qS K tc) (low K te) σ H Q:=by
 obtain⟨τ,G,Q3,RS,RG,h,k⟩:=h;refine⟨τ,G,_,RS,RG,h,fun J H1 S G1 ok S1 R1 q1=>?_⟩;obtain⟨hz,q1⟩:=q1;intro p hp;have hGp:G1 p=none:=R1.free hp;refine⟨fun i m ys σ' H'=>∃τ' G' acc,dq K τ' σ' H'/\aK K G' H'/\Step H G H' G'/\Ext H1 H'/\H' p=some (.lst ys)/\G' p=none/\aw K H' acc ys ∧
  fM S.guard g tc te (fun ds G2=>∀p G3,dv G2 p (.lst ds) G3->Q3 (.obj p) G3) (S.items.drop i) acc τ' G'/\m+i=S.items.length/\ys.length≤i,?_,?_⟩
 ·have E1:Ext H1 (upd H1 p (.lst [])):=.laid hp;exact⟨S.items.length,vN own js τ,G1,[],((RS.ext (S1.ext RG)).cmp own js).ext E1,R1.laid hp,S1.trans (.laid hp),E1,bX,hGp,.nil,by simpa using q1,by lia,aQ _⟩
 rintro i m ys σ' H' ⟨τ',G',acc,RS',RG',S',E',hpl,hG',hacc,q,hm,hy⟩;refine⟨hpl,?_⟩;by_cases hlt:i<S.items.length
 ·have hd:S.items.drop i=S.items[i]::S.items.drop (i+1):=eu hlt;have hget:S.items[i]?=some S.items[i]:=bz hlt;rw[hd] at q;obtain⟨hgd,q⟩:=q;obtain⟨z1,z2⟩:=ok.go i _ H' G' E' RG' hgd hget;refine .inr ⟨z1,by lia,fun x H2 hyl=>?_⟩;obtain⟨y1,y2,y3⟩:=z2 x H2 hyl
  -- what is not in G stays
  have keep:∀{Ha Hb:Hp} {Ga Gb:Gp},Step Ha Ga Hb Gb->Ha p=some (.lst ys)->Ga p=none->Hb p=some (.lst ys)/\Gb p=none:=fun {Ha Hb Ga Gb} st e n=>by
   refine⟨st.fr p _ e n,?_⟩;refine ay fun z=>?_;rw[st.new p n z] at e;cases e
  obtain⟨p2,n2⟩:=keep y2 hpl hG';refine⟨S.items[i],τ',G',_,y1,RS'.ext (y2.ext RG'),y3,q,fun τ3 σ3 G3 H3 b1 b2 b3 b4=>?_⟩;obtain⟨p3,n3⟩:=keep b2 p2 n2;refine⟨τ3,G3,_,b1,b3,b4,fun bb H4 G4 c1 c2 c3=>?_⟩;obtain⟨p4,n4⟩:=keep c1 p3 n3;have E4:Ext H' H4:=((y2.ext RG').trans (b2.ext y3)).trans (c1.ext b3);have S4:Step H G H4 G4:=((S'.trans y2).trans b2).trans c1;have RS4:=b1.ext (c1.ext b3);refine Br.ite c3 (fun c3=>?_) fun c3=>?_
  ·refine⟨τ3,G4,_,RS4,c2,c3,fun v H5 d G5 e1 e2 e3 e4=>?_⟩;obtain⟨p5,n5⟩:=keep e2 p4 n4;refine⟨p5,m-1,by lia,τ3,G5,acc++[d],?_,?_,?_,?_,bX,n5,?_,e4,by lia,by rw[az];simp;lia⟩
   ·exact (RS4.ext (e2.ext c2)).ext (.wrote p5)
   ·intro a o e;have hne:a≠p:=fun z=>by
     rw[z,n5] at e;cases e
    exact (e3 a o e).ext (.wrote p5) (bp hne)
   ·refine⟨fun a o e n=>?_,fun a q=>?_,fun a n q=>((S4.trans e2).new a n q)⟩
    ·by_cases hne:a=p
     ·exfalso;rw[hne] at e n;have hh:=S1.fr p o e n;rw[hp] at hh;cases hh
     ·rw[bp hne];exact (S4.trans e2).fr a o e n
    ·by_cases hne:a=p
     ·rw[hne,bX];simp
     ·rw[bp hne];exact (S4.trans e2).lF a q
   ·exact ((E'.trans E4).trans (e2.ext c2)).trans (.wrote p5)
   ·have E5:Ext H' (upd H5 p (.lst (ys++[v]))):=(E4.trans (e2.ext c2)).trans (.wrote p5);exact (hacc.ext E5).append (.cons (e1.ext (.wrote p5)) .nil)
  ·exact⟨m-1,by lia,τ3,G4,acc,RS4,c2,S4,E'.trans E4,p4,n4,hacc.ext E4,c3,by lia,by lia⟩
 ·have hd:S.items.drop i=[]:=fw (by lia);rw[hd] at q;refine .inl ⟨ok.stop i H' G' E' RG' q.1 (by lia),?_⟩;refine k _ H' (.obj p) (dA G' p (.lst acc)) (by simp[Hv]) ?_ ?_ (q.2 p _ (.mk' hG'))
  ·refine⟨S'.fr,S'.lF,fun a n z=>?_⟩;by_cases hne:a=p
   ·rw[hne];cases hh:H p with
    |none=>rfl
    |some o=>
     exfalso;rw[hne] at n;have:=S1.fr p o hh n;rw[hp] at this;cases this
   ·rw[dM hne] at z;exact S'.new a n z
  ·intro a o e;by_cases hne:a=p
   ·rw[hne,cR] at e;cases e;rw[hne];exact⟨ys,hpl,hacc⟩
   ·rw[dM hne] at e;exact RG' a o e
theorem Ip{elt:ν}{ifs:List ν}{scope:fD}{own:List π}{js:List Nat}{ti:jY}{g:gf}{tc:cf}{te:ag}(hc:X.calm=true)(C:dF X.N X.env.scope scope own js)(hi:sh X tg iter ti)
  (hb:∀s H fp,tW (X.cmp scope own js s H fp) tg g/\xB (X.cmp scope own js s H fp) ifs (qS X.K tc)/\bA (X.cmp scope own js s H fp) elt te)
  (hs:∀x,foldedSetIterable iter X.env x=pure x:=by intro _;rfl):bA X (.ListComp elt [⟨tg,iter,ifs,0⟩] scope pos) (il own js ti g tc te):=
 dD (Eu hc C hi hb hs) fun σ H Q h=>BO h
theorem AF{guard:Gp->Prop}{g:gf}{tb:aN}{D3:nO}(I:List D->S3->Gp->Prop)(hg:∀ds τ G,I ds τ G->guard G)
  (step:∀d ds τ G,I (d::ds) τ G->g d τ G fun τ2 G2=>tb { D3 with nx:=I ds,ct:=I ds,bk:=D3.nx } τ2 G2) (jB:∀τ G,I [] τ G->D3.nx τ G)
  (mono:∀(N N':S3->Gp->Prop),(∀τ G,N τ G->N' τ G)->∀d τ G,(g d τ G fun τ2 G2=>tb { D3 with nx:=N,ct:=N,bk:=D3.nx } τ2 G2)->g d τ G fun τ2 G2=>tb { D3 with nx:=N',ct:=N',bk:=D3.nx } τ2 G2):
  ∀ds τ G,I ds τ G->nF guard g tb D3 ds τ G
 |[],τ,G,h=>⟨hg _ _ _ h,jB _ _ h⟩
 |d::ds,τ,G,h=>⟨hg _ _ _ h,mono (I ds) _ (fun τ G q=>AF I hg step jB mono ds τ G q) d τ G (step d ds τ G h)⟩
theorem iz{guard:Gp->Prop}{g:gf}{tb:aN}{D3:nO}(I:List D->S3->Gp->Prop)(hg:∀ds τ G,I ds τ G->guard G)
  (step:∀d ds τ G (N:S3->Gp->Prop),I (d::ds) τ G->(∀τ' G',I ds τ' G'->N τ' G')->g d τ G fun τ2 G2=>tb { D3 with nx:=N,ct:=N,bk:=D3.nx } τ2 G2) (jB:∀τ G,I [] τ G->D3.nx τ G):
  ∀ds τ G,I ds τ G->nF guard g tb D3 ds τ G
 |[],τ,G,h=>⟨hg _ _ _ h,jB _ _ h⟩
 |d::ds,τ,G,h=>⟨hg _ _ _ h,step d ds τ G _ h fun τ' G' q=>iz I hg step jB ds τ' G' q⟩
end
end L3
namespace Dat
open PySem PySem.SeqAt
inductive D where
 |ao|bl (b:Bool)|int (i:Int)|str (x:π)|tup (xs:List D)|lst (xs:List D)|ff
mutual
def D.dW:D->D->Bool
 |.ao,.ao=>true
 |.bl a,.bl b=>a==b
 |.bl a,.int b=>(if a then 1 else 0)==b
 |.int a,.bl b=>a==(if b then 1 else 0)
 |.int a,.int b=>a==b
 |.str a,.str b=>a==b
 |.tup xs,.tup ys=>iA xs ys
 |.lst xs,.lst ys=>iA xs ys
 |_,_=>false
def iA:List D->List D->Bool
 |[],[]=>true
 |x::xs,y::ys=>x.dW y&&iA xs ys
 |_,_=>false
end
mutual
def D.g0:D->Nat
 |.tup xs=>ft xs+1
 |.lst xs=>ft xs+1
 |_=>0
def ft:List D->Nat
 |[]=>0
 |x::xs=>max x.g0 (ft xs)
end
theorem jC{d:D}:∀{xs:List D},d∈xs->d.g0≤ft xs
 |x::xs,h=>by
  unfold ft;rcases aa.mp h with e|e
  ·rw[e];exact Nat.le_max_left _ _
  ·exact bc (jC e) (Nat.le_max_right _ _)
mutual
def Hv(h:ae):D->δ->Prop
 |.ao,u=>u=.none
 |.bl b,u=>u=.bool b
 |.int i,u=>∃t,u=.int i t
 |.str x,u=>∃t,u=.str x t
 |.tup ds,u=>∃(a:ε) (its:List δ),u=.ref a/\h.IsTuple a its.toArray/\aw h ds its
 |.lst ds,u=>∃(a:ε) (its:List δ),u=.ref a/\h.IsList a its.toArray/\aw h ds its
 |.ff,_=>False
def aw(h:ae):List D->List δ->Prop
 |[],us=>us=[]
 |d::ds,us=>∃u r,us=u::r/\Hv h d u/\aw h ds r
end
theorem aw.length{h:ae}:∀{ds:List D} {us:List δ},aw h ds us->us.length=ds.length
 |[],us,e=>by
  unfold aw at e;rw[e];rfl
 |d::ds,us,e=>by
  unfold aw at e;obtain⟨u,r,rfl,_,e2⟩:=e;rw[aj,aj,e2.length]
theorem aw.get{h:ae}:∀{ds:List D} {us:List δ} {j:Nat} {d:D} {u:δ},aw h ds us->ds[j]?=some d->us[j]?=some u->Hv h d u
 |[],_,_,_,_,_,e,_=>by simp at e
 |d::ds,us,0,_,_,q,e1,e2=>by
  unfold aw at q;obtain⟨u,r,rfl,q1,_⟩:=q;simp at e1 e2;rw[←e1,←e2];exact q1
 |d::ds,us,j+1,_,_,q,e1,e2=>by
  unfold aw at q;obtain⟨u,r,rfl,_,q2⟩:=q;exact q2.get (j:=j) (by simpa using e1) (by simpa using e2)
theorem xa{h:ae}{a:ε}{xs ys:Array δ}(hl:h.IsList a xs)(ht:h.IsTuple a ys):False:=by
 obtain⟨o,ho,hc,_⟩:=hl;obtain⟨o',ho',hc',_⟩:=ht;rw[ho] at ho';cases ho';rw[hc] at hc';exact absurd hc' (by decide)
mutual
theorem Hv.inj{h:ae}:∀{d e:D} {u:δ},Hv h d u->Hv h e u->d=e
 |d,e,u,p,q=>by
  cases d with
  |ao=>unfold Hv at p;subst p;cases e<;>unfold Hv at q<;>first|rfl|(simp at q)
  |bl b=>unfold Hv at p;subst p;cases e<;>unfold Hv at q<;>first|(simp at q;rw[q])|(simp at q)
  |int b=>unfold Hv at p;obtain⟨t,rfl⟩:=p;cases e<;>unfold Hv at q<;>first|(simp at q;rw[q])|(simp at q)
  |str b=>unfold Hv at p;obtain⟨t,rfl⟩:=p;cases e<;>unfold Hv at q<;>first|(simp at q;rw[q])|(simp at q)
  |ff=>unfold Hv at p;exact p.elim
  |tup ds=>
   unfold Hv at p;obtain⟨a,its,rfl,ha,p⟩:=p;cases e with
   |tup es=>
    unfold Hv at q;obtain⟨a',its',e1,ha',q⟩:=q;cases e1;have e2:its=its':=by
     obtain⟨o,ho,_,n,hd⟩:=ha;obtain⟨o',ho',_,n',hd'⟩:=ha';rw[ho] at ho';cases ho';rw[hd] at hd';injection hd' with e3 _
     simpa using congrArg lA e3
    subst e2;rw[aw.inj p q]
   |lst es=>
    unfold Hv at q;obtain⟨a',its',e1,ha',q⟩:=q;cases e1;exact (xa ha' ha).elim
   |_=>unfold Hv at q<;>simp at q
  |lst ds=>
   unfold Hv at p;obtain⟨a,its,rfl,ha,p⟩:=p;cases e with
   |lst es=>
    unfold Hv at q;obtain⟨a',its',e1,ha',q⟩:=q;cases e1;have e2:its=its':=by
     obtain⟨o,ho,_,n,hd⟩:=ha;obtain⟨o',ho',_,n',hd'⟩:=ha';rw[ho] at ho';cases ho';rw[hd] at hd';injection hd' with e3 _
     simpa using congrArg lA e3
    subst e2;rw[aw.inj p q]
   |tup es=>
    unfold Hv at q;obtain⟨a',its',e1,ha',q⟩:=q;cases e1;exact (xa ha ha').elim
   |_=>unfold Hv at q<;>simp at q
theorem aw.inj{h:ae}:∀{ds es:List D} {us:List δ},aw h ds us->aw h es us->ds=es
 |[],[],_,_,_=>rfl
 |[],e::es,us,p,q=>by
  unfold aw at p q;subst p;obtain⟨_,_,e1,_⟩:=q;cases e1
 |d::ds,[],us,p,q=>by
  unfold aw at p q;subst q;obtain⟨_,_,e1,_⟩:=p;cases e1
 |d::ds,e::es,us,p,q=>by
  unfold aw at p q;obtain⟨u,r,rfl,p1,p2⟩:=p;obtain⟨u',r',e1,q1,q2⟩:=q;cases e1;rw[Hv.inj p1 q1,aw.inj p2 q2]
end
theorem iD:∀(ds es:List D),((aq (min ds.length es.length)).all (fun j=>(ds.getD j .ao).dW (es.getD j .ao))&&ds.length==es.length)=iA ds es
 |[],[]=>by simp[iA]
 |[],e::es=>by simp[iA]
 |d::ds,[]=>by simp[iA]
 |d::ds,e::es=>by
  have ih:=iD ds es;unfold iA;rw[←ih];rw[aj,aj,show min (ds.length+1) (es.length+1)=min ds.length es.length+1 by lia,ml,ox,lu];have e1:((ds.length+1==es.length+1):Bool)=(ds.length==es.length):=by simp
  rw[e1,Bool.and_assoc];rfl
theorem nG:∀(ds es:List D),ds.length≠es.length->iA ds es=false
 |[],[],h=>absurd rfl h
 |[],e::es,_=>rfl
 |d::ds,[],_=>rfl
 |d::ds,e::es,h=>by
  unfold iA;rw[nG ds es (by simpa using h),fS]
mutual
theorem Hv.refl{h:ae}:∀{d:D} {u:δ},Hv h d u->d.dW d=true
 |.ao,_,_=>rfl
 |.bl b,_,_=>by unfold D.dW;simp
 |.int b,_,_=>by unfold D.dW;simp
 |.str b,_,_=>by unfold D.dW;simp
 |.ff,_,p=>by unfold Hv at p;exact p.elim
 |.tup ds,_,p=>by
  unfold Hv at p;obtain⟨_,_,_,_,p⟩:=p;unfold D.dW;exact aw.refl p
 |.lst ds,_,p=>by
  unfold Hv at p;obtain⟨_,_,_,_,p⟩:=p;unfold D.dW;exact aw.refl p
theorem aw.refl{h:ae}:∀{ds:List D} {us:List δ},aw h ds us->iA ds ds=true
 |[],_,_=>rfl
 |d::ds,us,p=>by
  unfold aw at p;obtain⟨u,r,_,p1,p2⟩:=p;unfold iA;rw[Hv.refl p1,aw.refl p2];rfl
end
theorem b6{h:ae}{ds:List D}{us:List δ}(p:aw h ds us){j:Nat}(hj:j<us.toArray.size):Hv h (ds.getD j .ao) (us.toArray[j])/\ds.getD j .ao∈ds:=by
 have hl:=p.length;have hj':j<ds.length:=by simp at hj;lia
 have e1:ds[j]?=some (ds.getD j .ao):=by simp[hj']
 exact⟨p.get e1 (by simp at hj;simp[hj]),bu e1⟩
theorem sS{s:η}:∀(d e:D) (u v:δ) (A:bo),Hv s.heap d u->Hv s.heap e v->A.units+d.g0+1<cLine->EqAt A s u v (d.dW e)
 |.ao,.ao,u,v,A,p1,p2,hu=>by
  unfold Hv at p1;subst p1;unfold Hv at p2;subst p2;exact EqAt.same _
 |.ao,.bl b2,u,v,A,p1,p2,hu=>by
  unfold Hv at p1;subst p1;unfold Hv at p2;subst p2;exact EqAt.none_bool  b2
 |.ao,.int b2,u,v,A,p1,p2,hu=>by
  unfold Hv at p1;subst p1;unfold Hv at p2;obtain⟨t2,rfl⟩:=p2;exact EqAt.none_int  b2 t2
 |.ao,.str b2,u,v,A,p1,p2,hu=>by
  unfold Hv at p1;subst p1;unfold Hv at p2;obtain⟨t2,rfl⟩:=p2;exact EqAt.none_str  b2 t2
 |.ao,.tup ds2,u,v,A,p1,p2,hu=>by
  unfold Hv at p1;subst p1;unfold Hv at p2;obtain⟨a2,its2,rfl,l2,p2⟩:=p2;exact EqAt.none_tuple  l2 (by lia)
 |.ao,.lst ds2,u,v,A,p1,p2,hu=>by
  unfold Hv at p1;subst p1;unfold Hv at p2;obtain⟨a2,its2,rfl,l2,p2⟩:=p2;exact EqAt.none_list  l2 (by lia)
 |.bl b1,.ao,u,v,A,p1,p2,hu=>by
  unfold Hv at p1;subst p1;unfold Hv at p2;subst p2;exact EqAt.bool_none b1
 |.bl b1,.bl b2,u,v,A,p1,p2,hu=>by
  unfold Hv at p1;subst p1;unfold Hv at p2;subst p2;exact EqAt.bool_bool b1 b2
 |.bl b1,.int b2,u,v,A,p1,p2,hu=>by
  unfold Hv at p1;subst p1;unfold Hv at p2;obtain⟨t2,rfl⟩:=p2;exact EqAt.bool_int b1 b2 t2
 |.bl b1,.str b2,u,v,A,p1,p2,hu=>by
  unfold Hv at p1;subst p1;unfold Hv at p2;obtain⟨t2,rfl⟩:=p2;exact EqAt.bool_str b1 b2 t2
 |.bl b1,.tup ds2,u,v,A,p1,p2,hu=>by
  unfold Hv at p1;subst p1;unfold Hv at p2;obtain⟨a2,its2,rfl,l2,p2⟩:=p2;exact EqAt.bool_tuple b1 l2 (by lia)
 |.bl b1,.lst ds2,u,v,A,p1,p2,hu=>by
  unfold Hv at p1;subst p1;unfold Hv at p2;obtain⟨a2,its2,rfl,l2,p2⟩:=p2;exact EqAt.bool_list b1 l2 (by lia)
 |.int b1,.ao,u,v,A,p1,p2,hu=>by
  unfold Hv at p1;obtain⟨t1,rfl⟩:=p1;unfold Hv at p2;subst p2;exact EqAt.int_none b1 t1
 |.int b1,.bl b2,u,v,A,p1,p2,hu=>by
  unfold Hv at p1;obtain⟨t1,rfl⟩:=p1;unfold Hv at p2;subst p2;exact EqAt.int_bool b1 t1 b2
 |.int b1,.int b2,u,v,A,p1,p2,hu=>by
  unfold Hv at p1;obtain⟨t1,rfl⟩:=p1;unfold Hv at p2;obtain⟨t2,rfl⟩:=p2;exact EqAt.int_int b1 t1 b2 t2
 |.int b1,.str b2,u,v,A,p1,p2,hu=>by
  unfold Hv at p1;obtain⟨t1,rfl⟩:=p1;unfold Hv at p2;obtain⟨t2,rfl⟩:=p2;exact EqAt.int_str b1 t1 b2 t2
 |.int b1,.tup ds2,u,v,A,p1,p2,hu=>by
  unfold Hv at p1;obtain⟨t1,rfl⟩:=p1;unfold Hv at p2;obtain⟨a2,its2,rfl,l2,p2⟩:=p2;exact EqAt.int_tuple b1 t1 l2 (by lia)
 |.int b1,.lst ds2,u,v,A,p1,p2,hu=>by
  unfold Hv at p1;obtain⟨t1,rfl⟩:=p1;unfold Hv at p2;obtain⟨a2,its2,rfl,l2,p2⟩:=p2;exact EqAt.int_list b1 t1 l2 (by lia)
 |.str b1,.ao,u,v,A,p1,p2,hu=>by
  unfold Hv at p1;obtain⟨t1,rfl⟩:=p1;unfold Hv at p2;subst p2;exact EqAt.str_none b1 t1
 |.str b1,.bl b2,u,v,A,p1,p2,hu=>by
  unfold Hv at p1;obtain⟨t1,rfl⟩:=p1;unfold Hv at p2;subst p2;exact EqAt.str_bool b1 t1 b2
 |.str b1,.int b2,u,v,A,p1,p2,hu=>by
  unfold Hv at p1;obtain⟨t1,rfl⟩:=p1;unfold Hv at p2;obtain⟨t2,rfl⟩:=p2;exact EqAt.str_int b1 t1 b2 t2
 |.str b1,.str b2,u,v,A,p1,p2,hu=>by
  unfold Hv at p1;obtain⟨t1,rfl⟩:=p1;unfold Hv at p2;obtain⟨t2,rfl⟩:=p2;exact EqAt.str_str b1 t1 b2 t2
 |.str b1,.tup ds2,u,v,A,p1,p2,hu=>by
  unfold Hv at p1;obtain⟨t1,rfl⟩:=p1;unfold Hv at p2;obtain⟨a2,its2,rfl,l2,p2⟩:=p2;exact EqAt.str_tuple b1 t1 l2 (by lia)
 |.str b1,.lst ds2,u,v,A,p1,p2,hu=>by
  unfold Hv at p1;obtain⟨t1,rfl⟩:=p1;unfold Hv at p2;obtain⟨a2,its2,rfl,l2,p2⟩:=p2;exact EqAt.str_list b1 t1 l2 (by lia)
 |.tup ds1,.ao,u,v,A,p1,p2,hu=>by
  unfold Hv at p1;obtain⟨a1,its1,rfl,l1,p1⟩:=p1;unfold Hv at p2;subst p2;exact EqAt.tuple_none  l1 (by lia)
 |.tup ds1,.bl b2,u,v,A,p1,p2,hu=>by
  unfold Hv at p1;obtain⟨a1,its1,rfl,l1,p1⟩:=p1;unfold Hv at p2;subst p2;exact EqAt.tuple_bool b2 l1 (by lia)
 |.tup ds1,.int b2,u,v,A,p1,p2,hu=>by
  unfold Hv at p1;obtain⟨a1,its1,rfl,l1,p1⟩:=p1;unfold Hv at p2;obtain⟨t2,rfl⟩:=p2;exact EqAt.tuple_int b2 t2 l1 (by lia)
 |.tup ds1,.str b2,u,v,A,p1,p2,hu=>by
  unfold Hv at p1;obtain⟨a1,its1,rfl,l1,p1⟩:=p1;unfold Hv at p2;obtain⟨t2,rfl⟩:=p2;exact EqAt.tuple_str b2 t2 l1 (by lia)
 |.tup ds1,.tup ds2,u,v,A,p1,p2,hu=>by
  unfold Hv at p1;obtain⟨a1,its1,rfl,l1,p1⟩:=p1;unfold Hv at p2;obtain⟨a2,its2,rfl,l2,p2⟩:=p2;unfold D.dW;by_cases ha:a1=a2
  ·subst ha;have e0:(.tup ds1:D)=.tup ds2:=Hv.inj (h:=s.heap) (u:=.ref a1) (by unfold Hv;exact⟨a1,its1,rfl,l1,p1⟩) (by unfold Hv;exact⟨a1,its2,rfl,l2,p2⟩);injection e0 with e0;subst e0;rw[p1.refl];exact EqAt.same _
  ·refine EqAt.of_refs ha ?_;have hdep:A.units+ft ds1+1+1<cLine:=by
    have e9:(.tup ds1:D).g0=ft ds1+1:=by first|rfl|(unfold D.g0;rfl)
    lia
   have q:=RcAt.tuples (e:=fun j=>(ds1.getD j .ao).dW (ds2.getD j .ao)) l1 l2 (by lia) fun j h1 h2=>
    have m:=(b6 p1 h1).2
    sS (ds1.getD j .ao) (ds2.getD j .ao) _ _ A.in1 (b6 p1 h1).1 (b6 p2 h2).1 (by
     have:=jC m;show A.units+1+_+1<cLine;lia)
   rw[χ,χ,p1.length,p2.length,iD] at q;exact q
 |.tup ds1,.lst ds2,u,v,A,p1,p2,hu=>by
  unfold Hv at p1;obtain⟨a1,its1,rfl,l1,p1⟩:=p1;unfold Hv at p2;obtain⟨a2,its2,rfl,l2,p2⟩:=p2;exact EqAt.tuple_list l1 l2 (by lia)
 |.lst ds1,.ao,u,v,A,p1,p2,hu=>by
  unfold Hv at p1;obtain⟨a1,its1,rfl,l1,p1⟩:=p1;unfold Hv at p2;subst p2;exact EqAt.list_none  l1 (by lia)
 |.lst ds1,.bl b2,u,v,A,p1,p2,hu=>by
  unfold Hv at p1;obtain⟨a1,its1,rfl,l1,p1⟩:=p1;unfold Hv at p2;subst p2;exact EqAt.list_bool b2 l1 (by lia)
 |.lst ds1,.int b2,u,v,A,p1,p2,hu=>by
  unfold Hv at p1;obtain⟨a1,its1,rfl,l1,p1⟩:=p1;unfold Hv at p2;obtain⟨t2,rfl⟩:=p2;exact EqAt.list_int b2 t2 l1 (by lia)
 |.lst ds1,.str b2,u,v,A,p1,p2,hu=>by
  unfold Hv at p1;obtain⟨a1,its1,rfl,l1,p1⟩:=p1;unfold Hv at p2;obtain⟨t2,rfl⟩:=p2;exact EqAt.list_str b2 t2 l1 (by lia)
 |.lst ds1,.tup ds2,u,v,A,p1,p2,hu=>by
  unfold Hv at p1;obtain⟨a1,its1,rfl,l1,p1⟩:=p1;unfold Hv at p2;obtain⟨a2,its2,rfl,l2,p2⟩:=p2;exact EqAt.list_tuple l1 l2 (by lia)
 |.lst ds1,.lst ds2,u,v,A,p1,p2,hu=>by
  unfold Hv at p1;obtain⟨a1,its1,rfl,l1,p1⟩:=p1;unfold Hv at p2;obtain⟨a2,its2,rfl,l2,p2⟩:=p2;unfold D.dW;by_cases ha:a1=a2
  ·subst ha;have e0:(.lst ds1:D)=.lst ds2:=Hv.inj (h:=s.heap) (u:=.ref a1) (by unfold Hv;exact⟨a1,its1,rfl,l1,p1⟩) (by unfold Hv;exact⟨a1,its2,rfl,l2,p2⟩);injection e0 with e0;subst e0;rw[p1.refl];exact EqAt.same _
  ·refine EqAt.of_refs ha ?_;have hdep:A.units+ft ds1+1+1<cLine:=by
    have e9:(.lst ds1:D).g0=ft ds1+1:=by first|rfl|(unfold D.g0;rfl)
    lia
   by_cases hn:ds1.length=ds2.length
   ·have q:=RcAt.lists (e:=fun j=>(ds1.getD j .ao).dW (ds2.getD j .ao)) l1 l2 (by simp[p1.length,p2.length,hn]) (by lia) fun j h1 h2=>
     have m:=(b6 p1 h1).2
     sS (ds1.getD j .ao) (ds2.getD j .ao) _ _ A.in1 (b6 p1 h1).1 (b6 p2 h2).1 (by
      have:=jC m;show A.units+1+_+1<cLine;lia)
    have q2:=iD ds1 ds2;rw[hn,jg,beq_self_eq_true,oA] at q2;rw[χ,p1.length,hn,q2] at q;exact q
   ·rw[nG _ _ hn];exact pM l1 l2 (by simp[p1.length,p2.length,hn]) (by lia)
 |.ao,.ff,u,v,A,p1,p2,hu=>by
  unfold Hv at p2;exact p2.elim
 |.bl b1,.ff,u,v,A,p1,p2,hu=>by
  unfold Hv at p2;exact p2.elim
 |.int b1,.ff,u,v,A,p1,p2,hu=>by
  unfold Hv at p2;exact p2.elim
 |.str b1,.ff,u,v,A,p1,p2,hu=>by
  unfold Hv at p2;exact p2.elim
 |.tup ds1,.ff,u,v,A,p1,p2,hu=>by
  unfold Hv at p2;exact p2.elim
 |.lst ds1,.ff,u,v,A,p1,p2,hu=>by
  unfold Hv at p2;exact p2.elim
 |.ff,e,u,v,A,p1,p2,hu=>by
  unfold Hv at p1;exact p1.elim
termination_by d=>sizeOf d
decreasing_by
 all_goals (have:=List.sizeOf_lt_of_mem m;first|(rw[D.tup.sizeOf_spec];lia)|(rw[D.lst.sizeOf_spec];lia))
theorem Lu{s:η}(d e:D)(u v:δ)(A:bo)(p1:Hv s.heap d u)(p2:Hv s.heap e v)(hu:A.units+d.g0+1<cLine):RcAt A s u v (d.dW e):=
 match d,e,p1,p2,hu with
 |.ao,.ao,p1,p2,hu=>by
  unfold Hv at p1;subst p1;unfold Hv at p2;subst p2;exact RcAt.none_none
 |.ao,.bl b2,p1,p2,hu=>by
  unfold Hv at p1;subst p1;unfold Hv at p2;subst p2;exact RcAt.none_bool  b2
 |.ao,.int b2,p1,p2,hu=>by
  unfold Hv at p1;subst p1;unfold Hv at p2;obtain⟨t2,rfl⟩:=p2;exact RcAt.none_int  b2 t2
 |.ao,.str b2,p1,p2,hu=>by
  unfold Hv at p1;subst p1;unfold Hv at p2;obtain⟨t2,rfl⟩:=p2;exact RcAt.none_str  b2 t2
 |.ao,.tup ds2,p1,p2,hu=>by
  unfold Hv at p1;subst p1;unfold Hv at p2;obtain⟨a2,its2,rfl,l2,p2⟩:=p2;exact RcAt.none_tuple  l2 (by lia)
 |.ao,.lst ds2,p1,p2,hu=>by
  unfold Hv at p1;subst p1;unfold Hv at p2;obtain⟨a2,its2,rfl,l2,p2⟩:=p2;exact RcAt.none_list  l2 (by lia)
 |.bl b1,.ao,p1,p2,hu=>by
  unfold Hv at p1;subst p1;unfold Hv at p2;subst p2;exact RcAt.bool_none b1
 |.bl b1,.bl b2,p1,p2,hu=>by
  unfold Hv at p1;subst p1;unfold Hv at p2;subst p2;exact RcAt.bool_bool b1 b2
 |.bl b1,.int b2,p1,p2,hu=>by
  unfold Hv at p1;subst p1;unfold Hv at p2;obtain⟨t2,rfl⟩:=p2;exact RcAt.bool_int b1 b2 t2
 |.bl b1,.str b2,p1,p2,hu=>by
  unfold Hv at p1;subst p1;unfold Hv at p2;obtain⟨t2,rfl⟩:=p2;exact RcAt.bool_str b1 b2 t2
 |.bl b1,.tup ds2,p1,p2,hu=>by
  unfold Hv at p1;subst p1;unfold Hv at p2;obtain⟨a2,its2,rfl,l2,p2⟩:=p2;exact RcAt.bool_tuple b1 l2 (by lia)
 |.bl b1,.lst ds2,p1,p2,hu=>by
  unfold Hv at p1;subst p1;unfold Hv at p2;obtain⟨a2,its2,rfl,l2,p2⟩:=p2;exact RcAt.bool_list b1 l2 (by lia)
 |.int b1,.ao,p1,p2,hu=>by
  unfold Hv at p1;obtain⟨t1,rfl⟩:=p1;unfold Hv at p2;subst p2;exact RcAt.int_none b1 t1
 |.int b1,.bl b2,p1,p2,hu=>by
  unfold Hv at p1;obtain⟨t1,rfl⟩:=p1;unfold Hv at p2;subst p2;exact RcAt.int_bool b1 t1 b2
 |.int b1,.int b2,p1,p2,hu=>by
  unfold Hv at p1;obtain⟨t1,rfl⟩:=p1;unfold Hv at p2;obtain⟨t2,rfl⟩:=p2;exact RcAt.int_int b1 t1 b2 t2
 |.int b1,.str b2,p1,p2,hu=>by
  unfold Hv at p1;obtain⟨t1,rfl⟩:=p1;unfold Hv at p2;obtain⟨t2,rfl⟩:=p2;exact RcAt.int_str b1 t1 b2 t2
 |.int b1,.tup ds2,p1,p2,hu=>by
  unfold Hv at p1;obtain⟨t1,rfl⟩:=p1;unfold Hv at p2;obtain⟨a2,its2,rfl,l2,p2⟩:=p2;exact RcAt.int_tuple b1 t1 l2 (by lia)
 |.int b1,.lst ds2,p1,p2,hu=>by
  unfold Hv at p1;obtain⟨t1,rfl⟩:=p1;unfold Hv at p2;obtain⟨a2,its2,rfl,l2,p2⟩:=p2;exact RcAt.int_list b1 t1 l2 (by lia)
 |.str b1,.ao,p1,p2,hu=>by
  unfold Hv at p1;obtain⟨t1,rfl⟩:=p1;unfold Hv at p2;subst p2;exact RcAt.str_none b1 t1
 |.str b1,.bl b2,p1,p2,hu=>by
  unfold Hv at p1;obtain⟨t1,rfl⟩:=p1;unfold Hv at p2;subst p2;exact RcAt.str_bool b1 t1 b2
 |.str b1,.int b2,p1,p2,hu=>by
  unfold Hv at p1;obtain⟨t1,rfl⟩:=p1;unfold Hv at p2;obtain⟨t2,rfl⟩:=p2;exact RcAt.str_int b1 t1 b2 t2
 |.str b1,.str b2,p1,p2,hu=>by
  unfold Hv at p1;obtain⟨t1,rfl⟩:=p1;unfold Hv at p2;obtain⟨t2,rfl⟩:=p2;exact RcAt.str_str b1 t1 b2 t2
 |.str b1,.tup ds2,p1,p2,hu=>by
  unfold Hv at p1;obtain⟨t1,rfl⟩:=p1;unfold Hv at p2;obtain⟨a2,its2,rfl,l2,p2⟩:=p2;exact RcAt.str_tuple b1 t1 l2 (by lia)
 |.str b1,.lst ds2,p1,p2,hu=>by
  unfold Hv at p1;obtain⟨t1,rfl⟩:=p1;unfold Hv at p2;obtain⟨a2,its2,rfl,l2,p2⟩:=p2;exact RcAt.str_list b1 t1 l2 (by lia)
 |.tup ds1,.ao,p1,p2,hu=>by
  unfold Hv at p1;obtain⟨a1,its1,rfl,l1,p1⟩:=p1;unfold Hv at p2;subst p2;exact RcAt.tuple_none  l1 (by lia)
 |.tup ds1,.bl b2,p1,p2,hu=>by
  unfold Hv at p1;obtain⟨a1,its1,rfl,l1,p1⟩:=p1;unfold Hv at p2;subst p2;exact RcAt.tuple_bool b2 l1 (by lia)
 |.tup ds1,.int b2,p1,p2,hu=>by
  unfold Hv at p1;obtain⟨a1,its1,rfl,l1,p1⟩:=p1;unfold Hv at p2;obtain⟨t2,rfl⟩:=p2;exact RcAt.tuple_int b2 t2 l1 (by lia)
 |.tup ds1,.str b2,p1,p2,hu=>by
  unfold Hv at p1;obtain⟨a1,its1,rfl,l1,p1⟩:=p1;unfold Hv at p2;obtain⟨t2,rfl⟩:=p2;exact RcAt.tuple_str b2 t2 l1 (by lia)
 |.tup ds1,.tup ds2,p1,p2,hu=>by
  unfold Hv at p1;obtain⟨a1,its1,rfl,l1,p1⟩:=p1;unfold Hv at p2;obtain⟨a2,its2,rfl,l2,p2⟩:=p2;unfold D.dW;have hdep:A.units+ft ds1+1+1<cLine:=by
   have e9:(.tup ds1:D).g0=ft ds1+1:=by first|rfl|(unfold D.g0;rfl)
   lia
  have q:=RcAt.tuples (e:=fun j=>(ds1.getD j .ao).dW (ds2.getD j .ao)) l1 l2 (by lia) fun j h1 h2=>
   sS (ds1.getD j .ao) (ds2.getD j .ao) _ _ A.in1 (b6 p1 h1).1 (b6 p2 h2).1 (by
    have:=jC (b6 p1 h1).2;show A.units+1+_+1<cLine;lia)
  rw[χ,χ,p1.length,p2.length,iD] at q;exact q
 |.tup ds1,.lst ds2,p1,p2,hu=>by
  unfold Hv at p1;obtain⟨a1,its1,rfl,l1,p1⟩:=p1;unfold Hv at p2;obtain⟨a2,its2,rfl,l2,p2⟩:=p2;exact RcAt.tuple_list l1 l2 (by lia)
 |.lst ds1,.ao,p1,p2,hu=>by
  unfold Hv at p1;obtain⟨a1,its1,rfl,l1,p1⟩:=p1;unfold Hv at p2;subst p2;exact RcAt.list_none  l1 (by lia)
 |.lst ds1,.bl b2,p1,p2,hu=>by
  unfold Hv at p1;obtain⟨a1,its1,rfl,l1,p1⟩:=p1;unfold Hv at p2;subst p2;exact RcAt.list_bool b2 l1 (by lia)
 |.lst ds1,.int b2,p1,p2,hu=>by
  unfold Hv at p1;obtain⟨a1,its1,rfl,l1,p1⟩:=p1;unfold Hv at p2;obtain⟨t2,rfl⟩:=p2;exact RcAt.list_int b2 t2 l1 (by lia)
 |.lst ds1,.str b2,p1,p2,hu=>by
  unfold Hv at p1;obtain⟨a1,its1,rfl,l1,p1⟩:=p1;unfold Hv at p2;obtain⟨t2,rfl⟩:=p2;exact RcAt.list_str b2 t2 l1 (by lia)
 |.lst ds1,.tup ds2,p1,p2,hu=>by
  unfold Hv at p1;obtain⟨a1,its1,rfl,l1,p1⟩:=p1;unfold Hv at p2;obtain⟨a2,its2,rfl,l2,p2⟩:=p2;exact RcAt.list_tuple l1 l2 (by lia)
 |.lst ds1,.lst ds2,p1,p2,hu=>by
  unfold Hv at p1;obtain⟨a1,its1,rfl,l1,p1⟩:=p1;unfold Hv at p2;obtain⟨a2,its2,rfl,l2,p2⟩:=p2;unfold D.dW;have hdep:A.units+ft ds1+1+1<cLine:=by
   have e9:(.lst ds1:D).g0=ft ds1+1:=by first|rfl|(unfold D.g0;rfl)
   lia
  by_cases hn:ds1.length=ds2.length
  ·have q:=RcAt.lists (e:=fun j=>(ds1.getD j .ao).dW (ds2.getD j .ao)) l1 l2 (by simp[p1.length,p2.length,hn]) (by lia) fun j h1 h2=>
    sS (ds1.getD j .ao) (ds2.getD j .ao) _ _ A.in1 (b6 p1 h1).1 (b6 p2 h2).1 (by
     have:=jC (b6 p1 h1).2;show A.units+1+_+1<cLine;lia)
   have q2:=iD ds1 ds2;rw[hn,jg,beq_self_eq_true,oA] at q2;rw[χ,p1.length,hn,q2] at q;exact q
  ·rw[nG _ _ hn];exact pM l1 l2 (by simp[p1.length,p2.length,hn]) (by lia)
 |d,.ff,p1,p2,hu=>by
  unfold Hv at p2;exact p2.elim
 |.ff,e,p1,p2,hu=>by
  unfold Hv at p1;exact p1.elim
theorem Ls{s:η}(d e:D)(u v:δ)(A:bo)(p1:Hv s.heap d u)(p2:Hv s.heap e v)(hu:A.units+d.g0+1<cLine):RcNeAt A s u v (!d.dW e):=
 match d,e,p1,p2,hu with
 |.ao,.ao,p1,p2,hu=>by
  unfold Hv at p1;subst p1;unfold Hv at p2;subst p2;exact RcNeAt.none_none
 |.ao,.bl b2,p1,p2,hu=>by
  unfold Hv at p1;subst p1;unfold Hv at p2;subst p2;exact RcNeAt.none_bool  b2
 |.ao,.int b2,p1,p2,hu=>by
  unfold Hv at p1;subst p1;unfold Hv at p2;obtain⟨t2,rfl⟩:=p2;exact RcNeAt.none_int  b2 t2
 |.ao,.str b2,p1,p2,hu=>by
  unfold Hv at p1;subst p1;unfold Hv at p2;obtain⟨t2,rfl⟩:=p2;exact RcNeAt.none_str  b2 t2
 |.ao,.tup ds2,p1,p2,hu=>by
  unfold Hv at p1;subst p1;unfold Hv at p2;obtain⟨a2,its2,rfl,l2,p2⟩:=p2;exact RcNeAt.none_tuple  l2 (by lia)
 |.ao,.lst ds2,p1,p2,hu=>by
  unfold Hv at p1;subst p1;unfold Hv at p2;obtain⟨a2,its2,rfl,l2,p2⟩:=p2;exact RcNeAt.none_list  l2 (by lia)
 |.bl b1,.ao,p1,p2,hu=>by
  unfold Hv at p1;subst p1;unfold Hv at p2;subst p2;exact RcNeAt.bool_none b1
 |.bl b1,.bl b2,p1,p2,hu=>by
  unfold Hv at p1;subst p1;unfold Hv at p2;subst p2;exact RcNeAt.bool_bool b1 b2
 |.bl b1,.int b2,p1,p2,hu=>by
  unfold Hv at p1;subst p1;unfold Hv at p2;obtain⟨t2,rfl⟩:=p2;exact RcNeAt.bool_int b1 b2 t2
 |.bl b1,.str b2,p1,p2,hu=>by
  unfold Hv at p1;subst p1;unfold Hv at p2;obtain⟨t2,rfl⟩:=p2;exact RcNeAt.bool_str b1 b2 t2
 |.bl b1,.tup ds2,p1,p2,hu=>by
  unfold Hv at p1;subst p1;unfold Hv at p2;obtain⟨a2,its2,rfl,l2,p2⟩:=p2;exact RcNeAt.bool_tuple b1 l2 (by lia)
 |.bl b1,.lst ds2,p1,p2,hu=>by
  unfold Hv at p1;subst p1;unfold Hv at p2;obtain⟨a2,its2,rfl,l2,p2⟩:=p2;exact RcNeAt.bool_list b1 l2 (by lia)
 |.int b1,.ao,p1,p2,hu=>by
  unfold Hv at p1;obtain⟨t1,rfl⟩:=p1;unfold Hv at p2;subst p2;exact RcNeAt.int_none b1 t1
 |.int b1,.bl b2,p1,p2,hu=>by
  unfold Hv at p1;obtain⟨t1,rfl⟩:=p1;unfold Hv at p2;subst p2;exact RcNeAt.int_bool b1 t1 b2
 |.int b1,.int b2,p1,p2,hu=>by
  unfold Hv at p1;obtain⟨t1,rfl⟩:=p1;unfold Hv at p2;obtain⟨t2,rfl⟩:=p2;exact RcNeAt.int_int b1 t1 b2 t2
 |.int b1,.str b2,p1,p2,hu=>by
  unfold Hv at p1;obtain⟨t1,rfl⟩:=p1;unfold Hv at p2;obtain⟨t2,rfl⟩:=p2;exact RcNeAt.int_str b1 t1 b2 t2
 |.int b1,.tup ds2,p1,p2,hu=>by
  unfold Hv at p1;obtain⟨t1,rfl⟩:=p1;unfold Hv at p2;obtain⟨a2,its2,rfl,l2,p2⟩:=p2;exact RcNeAt.int_tuple b1 t1 l2 (by lia)
 |.int b1,.lst ds2,p1,p2,hu=>by
  unfold Hv at p1;obtain⟨t1,rfl⟩:=p1;unfold Hv at p2;obtain⟨a2,its2,rfl,l2,p2⟩:=p2;exact RcNeAt.int_list b1 t1 l2 (by lia)
 |.str b1,.ao,p1,p2,hu=>by
  unfold Hv at p1;obtain⟨t1,rfl⟩:=p1;unfold Hv at p2;subst p2;exact RcNeAt.str_none b1 t1
 |.str b1,.bl b2,p1,p2,hu=>by
  unfold Hv at p1;obtain⟨t1,rfl⟩:=p1;unfold Hv at p2;subst p2;exact RcNeAt.str_bool b1 t1 b2
 |.str b1,.int b2,p1,p2,hu=>by
  unfold Hv at p1;obtain⟨t1,rfl⟩:=p1;unfold Hv at p2;obtain⟨t2,rfl⟩:=p2;exact RcNeAt.str_int b1 t1 b2 t2
 |.str b1,.str b2,p1,p2,hu=>by
  unfold Hv at p1;obtain⟨t1,rfl⟩:=p1;unfold Hv at p2;obtain⟨t2,rfl⟩:=p2;exact RcNeAt.str_str b1 t1 b2 t2
 |.str b1,.tup ds2,p1,p2,hu=>by
  unfold Hv at p1;obtain⟨t1,rfl⟩:=p1;unfold Hv at p2;obtain⟨a2,its2,rfl,l2,p2⟩:=p2;exact RcNeAt.str_tuple b1 t1 l2 (by lia)
 |.str b1,.lst ds2,p1,p2,hu=>by
  unfold Hv at p1;obtain⟨t1,rfl⟩:=p1;unfold Hv at p2;obtain⟨a2,its2,rfl,l2,p2⟩:=p2;exact RcNeAt.str_list b1 t1 l2 (by lia)
 |.tup ds1,.ao,p1,p2,hu=>by
  unfold Hv at p1;obtain⟨a1,its1,rfl,l1,p1⟩:=p1;unfold Hv at p2;subst p2;exact RcNeAt.tuple_none  l1 (by lia)
 |.tup ds1,.bl b2,p1,p2,hu=>by
  unfold Hv at p1;obtain⟨a1,its1,rfl,l1,p1⟩:=p1;unfold Hv at p2;subst p2;exact RcNeAt.tuple_bool b2 l1 (by lia)
 |.tup ds1,.int b2,p1,p2,hu=>by
  unfold Hv at p1;obtain⟨a1,its1,rfl,l1,p1⟩:=p1;unfold Hv at p2;obtain⟨t2,rfl⟩:=p2;exact RcNeAt.tuple_int b2 t2 l1 (by lia)
 |.tup ds1,.str b2,p1,p2,hu=>by
  unfold Hv at p1;obtain⟨a1,its1,rfl,l1,p1⟩:=p1;unfold Hv at p2;obtain⟨t2,rfl⟩:=p2;exact RcNeAt.tuple_str b2 t2 l1 (by lia)
 |.tup ds1,.tup ds2,p1,p2,hu=>by
  unfold Hv at p1;obtain⟨a1,its1,rfl,l1,p1⟩:=p1;unfold Hv at p2;obtain⟨a2,its2,rfl,l2,p2⟩:=p2;unfold D.dW;have hdep:A.units+ft ds1+1+1<cLine:=by
   have e9:(.tup ds1:D).g0=ft ds1+1:=by first|rfl|(unfold D.g0;rfl)
   lia
  have q:=RcNeAt.tuples (e:=fun j=>(ds1.getD j .ao).dW (ds2.getD j .ao)) l1 l2 (by lia) fun j h1 h2=>
   sS (ds1.getD j .ao) (ds2.getD j .ao) _ _ A.in1 (b6 p1 h1).1 (b6 p2 h2).1 (by
    have:=jC (b6 p1 h1).2;show A.units+1+_+1<cLine;lia)
  rw[χ,χ,p1.length,p2.length,iD] at q;exact q
 |.tup ds1,.lst ds2,p1,p2,hu=>by
  unfold Hv at p1;obtain⟨a1,its1,rfl,l1,p1⟩:=p1;unfold Hv at p2;obtain⟨a2,its2,rfl,l2,p2⟩:=p2;exact RcNeAt.tuple_list l1 l2 (by lia)
 |.lst ds1,.ao,p1,p2,hu=>by
  unfold Hv at p1;obtain⟨a1,its1,rfl,l1,p1⟩:=p1;unfold Hv at p2;subst p2;exact RcNeAt.list_none  l1 (by lia)
 |.lst ds1,.bl b2,p1,p2,hu=>by
  unfold Hv at p1;obtain⟨a1,its1,rfl,l1,p1⟩:=p1;unfold Hv at p2;subst p2;exact RcNeAt.list_bool b2 l1 (by lia)
 |.lst ds1,.int b2,p1,p2,hu=>by
  unfold Hv at p1;obtain⟨a1,its1,rfl,l1,p1⟩:=p1;unfold Hv at p2;obtain⟨t2,rfl⟩:=p2;exact RcNeAt.list_int b2 t2 l1 (by lia)
 |.lst ds1,.str b2,p1,p2,hu=>by
  unfold Hv at p1;obtain⟨a1,its1,rfl,l1,p1⟩:=p1;unfold Hv at p2;obtain⟨t2,rfl⟩:=p2;exact RcNeAt.list_str b2 t2 l1 (by lia)
 |.lst ds1,.tup ds2,p1,p2,hu=>by
  unfold Hv at p1;obtain⟨a1,its1,rfl,l1,p1⟩:=p1;unfold Hv at p2;obtain⟨a2,its2,rfl,l2,p2⟩:=p2;exact RcNeAt.list_tuple l1 l2 (by lia)
 |.lst ds1,.lst ds2,p1,p2,hu=>by
  unfold Hv at p1;obtain⟨a1,its1,rfl,l1,p1⟩:=p1;unfold Hv at p2;obtain⟨a2,its2,rfl,l2,p2⟩:=p2;unfold D.dW;have hdep:A.units+ft ds1+1+1<cLine:=by
   have e9:(.lst ds1:D).g0=ft ds1+1:=by first|rfl|(unfold D.g0;rfl)
   lia
  by_cases hn:ds1.length=ds2.length
  ·have q:=RcNeAt.lists (e:=fun j=>(ds1.getD j .ao).dW (ds2.getD j .ao)) l1 l2 (by simp[p1.length,p2.length,hn]) (by lia) fun j h1 h2=>
    sS (ds1.getD j .ao) (ds2.getD j .ao) _ _ A.in1 (b6 p1 h1).1 (b6 p2 h2).1 (by
     have:=jC (b6 p1 h1).2;show A.units+1+_+1<cLine;lia)
   have q2:=iD ds1 ds2;rw[hn,jg,beq_self_eq_true,oA] at q2;rw[χ,p1.length,hn,q2] at q;exact q
  ·rw[nG _ _ hn];exact RcNeAt.lists_lengths l1 l2 (by simp[p1.length,p2.length,hn]) (by lia)
 |d,.ff,p1,p2,hu=>by
  unfold Hv at p2;exact p2.elim
 |.ff,e,p1,p2,hu=>by
  unfold Hv at p1;exact p1.elim
end Dat
namespace L3
open PySem PySem.Spec PyProof.Rows L2
section
variable {X:Cx} {K:ζ}
def zV(f:Int->Int->D):R3:=fun x y G Q=>match x,y with
 |.int i,.int j=>Q (f i j) G
 |_,_=>False
theorem cG{H:Hp}{i:Int}{v:V}(h:Hv K H (.int i) v):v=.int i:=by unfold Hv at h;exact h
theorem uj{H:Hp}{i:Bool}{v:V}(h:Hv K H (.bl i) v):v=.bl i:=by unfold Hv at h;exact h
theorem dU{H:Hp}{a:ε}{v:V}(h:Hv K H (.obj a) v):v=.ref a:=by unfold Hv at h;exact h
theorem gD{H:Hp}{ds:List D}{v:V}(h:Hv K H (.tup ds) v):∃a vs,v=.ref a/\cJ K H a vs/\aw K H ds vs:=by unfold Hv at h;exact h
theorem kP{H:Hp}{ds:List D}{v:V}(h:Hv K H (.eW ds) v):∃a vs,v=.ref a/\nZ K H a vs/\aw K H ds vs:=by unfold Hv at h;exact h
theorem fc{H:Hp}{i:Int}:Hv K H (.int i) (.int i):=by simp[Hv]
theorem iX{H:Hp}{i:Bool}:Hv K H (.bl i) (.bl i):=by simp[Hv]
theorem kM{H:Hp}{a:ε}:Hv K H (.obj a) (.ref a):=by simp[Hv]
theorem iV{H:Hp}{ds:List D}{a:ε}{vs:List V}(h:cJ K H a vs)(q:aw K H ds vs):Hv K H (.tup ds) (.ref a):=by
 unfold Hv;exact⟨a,vs,rfl,h,q⟩
theorem low_ints{f:Int->Int->D}{g:Int->Int->V}(hf:∀i j H,Hv K H (f i j) (g i j)):cz K (zV f) (kK g):=fun x y vx vy G H Q3 Q hx hy RG h k=>by
 cases x with
 |int i=>
  cases y with
  |int j=>
   rw[cG hx,cG hy];exact⟨i,j,rfl,rfl,k _ H _ G (hf i j H) (.refl H G) RG h⟩
  |_=>exact h.elim
 |_=>exact h.elim
abbrev ya:R3:=zV fun i j=>.int (i-j)
theorem Di:cz K ya (kK fun i j=>.int (i-j)):=low_ints fun _ _ _=>fc
abbrev sG:R3:=zV fun i j=>.bl (decide (i≤j))
theorem vw:cz K sG (kK fun i j=>.bl (decide (i≤j))):=low_ints fun _ _ _=>iX
abbrev Bx:R3:=zV fun i j=>.bl (decide (j<i))
theorem HK:cz K Bx (kK fun i j=>.bl (decide (j<i))):=low_ints fun _ _ _=>iX
abbrev Gf:R3:=zV fun i j=>.bl (decide (j≤i))
theorem LO:cz K Gf (kK fun i j=>.bl (decide (j≤i))):=low_ints fun _ _ _=>iX
def jr(i:Int):Prop:=i.natAbs<2^4000
theorem xc{i:Int}(h:jr i):i.natAbs.log2<4000:=by
 by_cases h0:i.natAbs=0
 ·rw[h0];decide
 ·exact (Nat.log2_lt h0).mpr h
theorem vW{i:Int}(h:jr i):gr i≤4000:=by
 unfold gr;split
 ·exact aQ _
 ·exact xc h
theorem EG{i j:Int}(h1:jr i)(h2:jr j):IntMulOk i j:=by
 unfold IntMulOk dC.Int.intTooBig;have b1:=vW h1;have b2:=vW h2;have:¬((gr i:Int)+(gr j:Int) > (bitsLine:Int)):=by
  have:(bitsLine:Int)=134217728:=by decide
  lia
 rw[decide_eq_false this];simp
theorem vc:cy X (binaryOp .FloorDiv) (rI (fun _ j=>0<j/\jr j) fun i j=>.int (i / j)):=C9 fun i j _ _ _ _ _ hc q=>by
 have h1:(0:Int)<j:=hc.1;exact floordiv_int (by lia) (by rw[Int.fdiv_eq_ediv_of_nonneg i (by lia)];exact q) (.inl (PyProof.noPylong_of_log2 (lg (xc hc.2) (by decide))))
theorem EA:cy X (binaryOp .Mult) (rI (fun i j=>jr i/\jr j) fun i j=>.int (i*j)):=C9 fun _ _ _ _ _ _ _ hc q=>mul_int q (EG hc.1 hc.2)
def yc(C:Int->Int->Prop)(f:Int->Int->D):R3:=fun x y G Q=>match x,y with
 |.int i,.int j=>C i j/\Q (f i j) G
 |_,_=>False
theorem pk{C:Int->Int->Prop}{f:Int->Int->D}{g:Int->Int->V}(hf:∀i j H,Hv K H (f i j) (g i j)):cz K (yc C f) (rI C g):=fun x y vx vy G H Q3 Q hx hy RG h k=>by
 cases x with
 |int i=>
  cases y with
  |int j=>
   rw[cG hx,cG hy];exact⟨i,j,rfl,rfl,h.1,k _ H _ G (hf i j H) (.refl H G) RG h.2⟩
  |_=>exact h.elim
 |_=>exact h.elim
abbrev yd:R3:=yc (fun _ j=>0<j/\jr j) fun i j=>.int (i / j)
theorem Dj:cz K yd (rI (fun _ j=>0<j/\jr j) fun i j=>.int (i / j)):=pk fun _ _ _=>fc
abbrev p6:R3:=yc (fun _ j=>0<j) fun i j=>.int (i%j)
theorem rS:cz K p6 (rI (fun _ j=>0<j) fun i j=>.int (i%j)):=pk fun _ _ _=>fc
abbrev CY:R3:=yc CC fun i j=>.int (i^j.toNat)
theorem Kf:cz K CY (rI CC fun i j=>.int (i^j.toNat)):=pk fun _ _ _=>fc
theorem Cv{prog:ah}{w:ar}{A:bo}{E:δ->η->Prop}{s:η}{t b:ε}{ws:List δ}{Q:δ->η->Prop}(ht:kz s.heap t #[])(hb:kz s.heap b ws.toArray)(h1:Q (.ref b) s):
  ρ (model prog w) A (binaryOp .Add (.ref t) (.ref b)) Q E s:=by
 obtain⟨⟨cls,dd,data,sl⟩,ho,hc,n,hd⟩:=id ht;obtain⟨⟨cls2,dd2,data2,sl2⟩,ho2,hc2,n2,hd2⟩:=id hb;simp only at hc hd hc2 hd2;subst hc hd hc2 hd2;exact concat_meets ⟨_,ho,rfl⟩ ⟨_,ho2,rfl⟩ kW oj ie g6 (gJ _ _)
   (tuple_addW0 t b #[] ws.toArray n n2 dd dd2 sl sl2 rfl) ⟨ho,ho2,h1⟩
def zW(K:ζ):R2:=fun x y H Q=>∃a b ys,x=.ref a/\y=.ref b/\cJ K H a []/\cJ K H b ys/\Q (.ref b) H
theorem BJ:cy X (binaryOp .Add) (zW X.K):=by
 intro pins s σ H x y v u Q I rx ry h;obtain⟨a,b,ys,rfl,rfl,ha,hb,q⟩:=h;cases rx;cases ry;obtain⟨its,r1,p1,_⟩:=I.tuple ha;obtain⟨its2,r2,p2,_⟩:=I.tuple hb;cases r1;exact Cv p1 p2 ⟨.ref b,H,I,rfl,q⟩
def e7:R3:=fun x y G Q=>match x,y with
 |.int i,.int j=>Q (.int (i+j)) G
 |.obj a,.obj b=>∃ds es,G a=some (.lst ds)/\G b=some (.lst es)/\ds.length+es.length≤Φ/\∀p G',dv G p (.lst (ds++es)) G'->Q (.obj p) G'
 |.tup ds,.tup es=>ds.length+es.length≤Φ/\Q (.tup (ds++es)) G
 |_,_=>False
abbrev C1(K:ζ):R2:=fun x y H Q=>kK (fun i j=>.int (i+j)) x y H Q∨(Gg x y H Q∨(C0 K x y H Q∨zW K x y H Q))
theorem dj:cy X (binaryOp .Add) (C1 X.K):=GK.or (GJ.or (EB.or BJ))
theorem fB:cz K e7 (C1 K):=fun x y vx vy G H Q3 Q hx hy RG h k=>by
 cases x with
 |int i=>
  cases y with
  |int j=>
   rw[cG hx,cG hy];exact .inl ⟨i,j,rfl,rfl,k _ H _ G fc (.refl H G) RG h⟩
  |_=>exact h.elim
 |obj a=>
  cases y with
  |obj b=>
   rw[dU hx,dU hy];obtain⟨ds,es,e1,e2,hz,q⟩:=h;obtain⟨vs,z1,z2⟩:=RG a _ e1;obtain⟨us,y1,y2⟩:=RG b _ e2;refine .inr (.inl ⟨a,b,vs,us,rfl,rfl,z1,y1,by rw[←z2.length,←y2.length];exact hz,fun p hp=>?_⟩);exact k _ _ (.obj p) _ kM (.i0 hp) (RG.qO hp (z2.append y2)) (q p _ (.mk' (RG.free hp)))
  |_=>exact h.elim
 |tup ds=>
  cases y with
  |tup es=>
   obtain⟨a,vs,rfl,e1,e2⟩:=gD hx;obtain⟨b,us,rfl,y1,y2⟩:=gD hy;by_cases h0:vs=[]
   ·subst h0;have:ds=[]:=by
     have:=e2.length;exact jn (by simpa using this)
    subst this;exact .inr (.inr (.inr ⟨a,b,us,rfl,rfl,e1,y1,k _ H (.tup es) G (iV y1 y2) (.refl H G) RG h.2⟩))
   ·refine .inr (.inr (.inl ⟨a,b,vs,us,rfl,rfl,e1,y1,h0,by rw[←e2.length,←y2.length];exact h.1,fun z=>?_,fun z p hp=>?_⟩))
    ·subst z;have:es=[]:=jn (by simpa using y2.length);subst this;refine k _ H (.tup ds) G (iV e1 e2) (.refl H G) RG ?_;have:=h.2;rwa [dO] at this
    ·exact k _ _ (.tup (ds++es)) G (iV (.of bX) ((e2.append y2).ext (.laid hp))) (.laid hp) (RG.laid hp) h.2
  |_=>exact h.elim
 |_=>exact h.elim
def pZ:R3:=fun x y G Q=>match x,y with
 |.int i,.int j=>(jr i/\jr j)/\Q (.int (i*j)) G
 |.obj a,.int k=>∃ds,G a=some (.lst ds)/\(-(2^63)≤k/\k<2^63)/\ds.length*k.toNat≤Φ/\∀p G',dv G p (.lst (aV k.toNat ds).flatten) G'->Q (.obj p) G'
 |_,_=>False
abbrev CZ:R2:=fun x y H Q=>rI (fun i j=>jr i/\jr j) (fun i j=>.int (i*j)) x y H Q∨FX x y H Q
theorem mE:cy X (binaryOp .Mult) CZ:=EA.or GG
theorem rR:cz K pZ CZ:=fun x y vx vy G H Q3 Q hx hy RG h k=>by
 cases x with
 |int i=>
  cases y with
  |int j=>
   rw[cG hx,cG hy];exact .inl ⟨i,j,rfl,rfl,h.1,k _ H _ G fc (.refl H G) RG h.2⟩
  |_=>exact h.elim
 |obj a=>
  cases y with
  |int j=>
   rw[dU hx,cG hy];obtain⟨ds,e1,hk,hz,q⟩:=h;obtain⟨vs,z1,z2⟩:=RG a _ e1;refine .inr ⟨a,j,vs,rfl,rfl,z1,hk.1,hk.2,by rw[←z2.length];exact hz,fun p hp=>?_⟩;exact k _ _ (.obj p) _ kM (.i0 hp) (RG.qO hp (z2.rep _)) (q p _ (.mk' (RG.free hp)))
  |_=>exact h.elim
 |_=>exact h.elim
def intsOf:List D->Option (List Int)
 |[]=>some []
 |.int i::r=>(intsOf r).map (i::·)
 |_::_=>none
theorem gk{H:Hp}:∀{ds:List D} {vs:List V} {ns:List Int},aw K H ds vs->intsOf ds=some ns->vs=ns.map V.int
 |[],vs,ns,h,e=>by
  cases e;exact h.gC
 |d::ds,vs,ns,h,e=>by
  cases d with
  |int i=>
   obtain⟨v,r,rfl,z1,z2⟩:=h.inv;unfold intsOf at e;cases hm:intsOf ds with
   |none=>rw[hm] at e;cases e
   |some ms=>
    rw[hm] at e;cases e;rw[cG z1,gk z2 hm];rfl
  |_=>cases e
def lJ:R3:=fun x y G Q=>match x,y with
 |.int i,.int j=>Q (.bl (decide (i<j))) G
 |.tup ds,.tup es=>∃ns ms,intsOf ds=some ns/\intsOf es=some ms/\Q (.bl (HT.lexLt ns ms)) G
 |_,_=>False
abbrev FZ(K:ζ):R2:=fun x y H Q=>kK (fun i j=>.bl (decide (i<j))) x y H Q∨FY K x y H Q
theorem kL(hu:X.A.units<cLine):cy X (compareOp .Lt) (FZ X.K):=JJ.or (GI hu)
theorem ny:cz K lJ (FZ K):=fun x y vx vy G H Q3 Q hx hy RG h k=>by
 cases x with
 |int i=>
  cases y with
  |int j=>
   rw[cG hx,cG hy];exact .inl ⟨i,j,rfl,rfl,k _ H _ G iX (.refl H G) RG h⟩
  |_=>exact h.elim
 |tup ds=>
  cases y with
  |tup es=>
   obtain⟨a,vs,rfl,e1,e2⟩:=gD hx;obtain⟨b,us,rfl,y1,y2⟩:=gD hy;obtain⟨ns,ms,z1,z2,q⟩:=h;have q1:=gk e2 z1;have q2:=gk y2 z2;subst q1 q2;exact .inr ⟨a,b,ns,ms,rfl,rfl,e1,y1,k _ H _ G iX (.refl H G) RG q⟩
  |_=>exact h.elim
 |_=>exact h.elim
def eX:R3:=fun x y G Q=>match x,y with
 |.tup ds,.int i=>∃d,jX ds i=some d/\Q d G
 |.eW ds,.int i=>∃d,jX ds i=some d/\Q d G
 |.obj p,.int i=>∃ds d,G p=some (.lst ds)/\jX ds i=some d/\Q d G
 |_,_=>False
theorem qo{H:Hp}{ds:List D}{vs:List V}{i:Int}{d:D}(h:aw K H ds vs)(e:jX ds i=some d):∃v,jX vs i=some v/\Hv K H d v:=by
 unfold jX at e ⊢;rw[←h.length];cases hx:rV ds.length i with
 |none=>rw[hx] at e;cases e
 |some j=>
  rw[hx] at e;exact h.get e
theorem LN:cz K eX (K5 K):=fun x y vx vy G H Q3 Q hx hy RG h k=>by
 cases y with
 |int i=>
  rw[cG hy];cases x with
  |tup ds=>
   obtain⟨d,e,q⟩:=h;obtain⟨a,vs,rfl,e1,e2⟩:=gD hx;obtain⟨v,z1,z2⟩:=qo e2 e;exact .inr (.inl ⟨a,vs,i,v,rfl,rfl,e1,z1,k _ H d G z2 (.refl H G) RG q⟩)
  |eW ds=>
   obtain⟨d,e,q⟩:=h;obtain⟨a,vs,rfl,e1,e2⟩:=kP hx;obtain⟨v,z1,z2⟩:=qo e2 e;exact .inl ⟨a,vs,i,v,rfl,rfl,e1.l,z1,k _ H d G z2 (.refl H G) RG q⟩
  |obj p=>
   obtain⟨ds,d,e0,e,q⟩:=h;rw[dU hx];obtain⟨vs,e1,e2⟩:=RG p _ e0;obtain⟨v,z1,z2⟩:=qo e2 e;exact .inl ⟨p,vs,i,v,rfl,rfl,.of e1,z1,k _ H d G z2 (.refl H G) RG q⟩
  |_=>exact h.elim
 |_=>cases x<;>exact h.elim
theorem L0{a b:ν}{ta tb:ag}{pos:aE}(ha:bA X a ta)(hb:bA X b tb)(hs:mM b:=by intro _ _;rfl):bA X (.Subscript a b pos) (aX eX ta tb):=dD (C4 AA ha hb hs) fun _ _ _ h=>qd LN h
def r0(ta:cq)(tb:ag):ag:=fun τ G Q=>ta τ G fun ds G1=>oV (tb τ G1 fun y G2=>match y with
 |.int i=>∃d,jX ds i=some d/\Q d G2
 | _=>False) ds 64
theorem Ff{es:List ν}{b:ν}{ta:cq}{tb:ag}{pos pos':aE}(ha:hZ X es ta)(hb:bA X b tb)(hs:mM b:=by intro _ _;rfl):bA X (.Subscript (.List es pos') b pos) (r0 ta tb):=
 dD (C4 AA (Ag ha) hb hs) fun σ H Q ⟨τ,G,Q3,RS,RG,h,k⟩=>by
  refine⟨τ,G,_,RS,RG,h,fun vs H1 ds G1 h1 S1 R1 q1=>?_⟩;obtain⟨z,q1⟩:=lH q1;refine⟨by rw[←h1.length];exact vn z,fun p hp=>?_⟩;refine⟨τ,G1,_,(RS.ext (S1.ext RG)).ext (.laid hp),R1.laid hp,q1,fun v2 H2 d2 G2 h2 S2 R2 q2=>?_⟩;have e2:H2 p=some (.lst vs):=S2.fr p _ bX (R1.free hp);cases d2 with
  |int i=>
   obtain⟨d,e,q⟩:=q2;obtain⟨v,z1,z2⟩:=qo ((h1.ext (.laid hp)).ext (S2.ext (R1.laid hp))) e;rw[cG h2];exact .inl ⟨p,vs,i,v,rfl,rfl,.of e2,z1,k _ H2 d G2 z2 ((S1.trans (.laid hp)).trans S2) R2 q⟩
  |_=>exact q2.elim
end
end L3
namespace L3
open PySem PySem.Spec PyProof.Rows L2
mutual
def iQ:D->Option Dat.D
 |.ao=>some .ao
 |.bl b=>some (.bl b)
 |.int i=>some (.int i)
 |.str x=>some (.str x)
 |.tup ds=>match eF ds with
  |some xs=>some (.tup xs)
  |none=>none
 |.eW ds=>match eF ds with
  |some xs=>some (.lst xs)
  |none=>none
 |.obj _=>none
 |.dc _=>none
def eF:List D->Option (List Dat.D)
 |[]=>some []
 |d::ds=>match iQ d with
  |some x=>match eF ds with
   |some xs=>some (x::xs)
   |none=>none
  |none=>none
end
def m3(G:Gp):D->Option Dat.D
 |.obj a=>match G a with
  |some (.lst ds)=>match eF ds with
   |some xs=>some (.lst xs)
   |none=>none
  |_=>none
 |d=>iQ d
section
variable {X:Cx} {pins:List (ε×aJ)} {σ:L2.St} {H:Hp} {s:η}
mutual
theorem iK(I:Inv X pins σ H s):∀{d:D} {v:V} {u:δ} {x:Dat.D},Hv X.K H d v->RelV v u->iQ d=some x->Dat.Hv s.heap x u
 |.ao,v,u,x,h,r,e=>by
  unfold Hv at h;subst h;cases e;unfold Dat.Hv;exact r
 |.bl b,v,u,x,h,r,e=>by
  unfold Hv at h;subst h;cases e;unfold Dat.Hv;exact r
 |.int b,v,u,x,h,r,e=>by
  unfold Hv at h;subst h;cases e;unfold Dat.Hv;exact r
 |.str b,v,u,x,h,r,e=>by
  unfold Hv at h;subst h;cases e;unfold Dat.Hv;exact r
 |.obj a,v,u,x,h,r,e=>by cases e
 |.dc a,v,u,x,h,r,e=>by cases e
 |.tup ds,v,u,x,h,r,e=>by
  obtain⟨a,vs,rfl,q1,q2⟩:=gD h;cases r;unfold iQ at e;cases hd:eF ds with
  |none=>rw[hd] at e;cases e
  |some xs=>
   rw[hd] at e;cases e;obtain⟨its,rv,p,_⟩:=I.tuple q1;unfold Dat.Hv;exact⟨a,its,rfl,p,nI I q2 rv hd⟩
 |.eW ds,v,u,x,h,r,e=>by
  obtain⟨a,vs,rfl,q1,q2⟩:=kP h;cases r;unfold iQ at e;cases hd:eF ds with
  |none=>rw[hd] at e;cases e
  |some xs=>
   rw[hd] at e;cases e;obtain⟨its,rv,p,_⟩:=I.list q1.l;unfold Dat.Hv;exact⟨a,its,rfl,p.isList,nI I q2 rv hd⟩
theorem nI(I:Inv X pins σ H s):∀{ds:List D} {vs:List V} {us:List δ} {xs:List Dat.D},aw X.K H ds vs->aH vs us->eF ds=some xs->Dat.aw s.heap xs us
 |[],vs,us,xs,h,r,e=>by
  cases h.gC;cases r;cases e;unfold Dat.aw;rfl
 |d::ds,vs,us,xs,h,r,e=>by
  obtain⟨v,vr,rfl,q1,q2⟩:=h.inv;unfold eF at e;cases hd:iQ d with
  |none=>rw[hd] at e;cases e
  |some x=>
   rw[hd] at e;cases hr:eF ds with
   |none=>rw[hr] at e;cases e
   |some xr=>
    rw[hr] at e;cases e;cases r with
    |cons r1 r2=>
     unfold Dat.aw;exact⟨_,_,rfl,iK I q1 r1 hd,nI I q2 r2 hr⟩
end
theorem r8{G:Gp}(I:Inv X pins σ H s)(RG:aK X.K G H){d:D}{v:V}{u:δ}{x:Dat.D}(h:Hv X.K H d v)(r:RelV v u)(e:m3 G d=some x):Dat.Hv s.heap x u:=by
 cases d with
 |obj a=>
  rw[dU h] at r;cases r;unfold m3 at e;cases hG:G a with
  |none=>simp[hG] at e
  |some o=>
   cases o with
   |lst ds=>
    simp only[hG] at e;cases hr:eF ds with
    |none=>rw[hr] at e;cases e
    |some xs=>
     rw[hr] at e;cases e;obtain⟨vs,e1,e2⟩:=RG a _ hG;obtain⟨its,rv,p,_⟩:=I.list (du.of e1);unfold Dat.Hv;exact⟨a,its,rfl,p.isList,nI I e2 rv hr⟩
   |lM=>simp[hG] at e
   |ff=>simp[hG] at e
   |gen R=>simp[hG] at e
 |ao=>exact iK I h r e
 |bl _=>exact iK I h r e
 |int _=>exact iK I h r e
 |str _=>exact iK I h r e
 |tup _=>exact iK I h r e
 |eW _=>exact iK I h r e
 |dc _=>exact iK I h r e
end
section
variable {X:Cx} {a b e:ν} {ta tb:ag} {pos:aE}
def fX(neg:Bool):R3:=fun x y G Q=>∃u v,m3 G x=some u/\m3 G y=some v/\u.g0≤50/\Q (.bl (if neg then !u.dW v else u.dW v)) G
def zd(X:Cx)(f:δ->δ->Sem δ)(r:R3):Prop:=
 ∀(pins:List (ε×aJ)) (s:η) (σ:L2.St) (H:Hp) (G:Gp) (x y:D) (vx vy:V) (u v:δ) (Q3:V3),Inv X pins σ H s->aK X.K G H->Hv X.K H x vx->Hv X.K H y vy->RelV vx u->RelV vy v->r x y G Q3 ->
  ρ (model X.prog X.w) X.A (f u v) (EP X pins σ fun w H'=>∃d G',Hv X.K H' d w/\Step H G H' G'/\aK X.K G' H'/\Q3 d G') X.xe s
theorem MB(hu:X.A.units+64<cLine):zd X (compareOp .Eq) (fX false):=by
 intro pins s σ H G x y vx vy u v Q3 I RG hx hy rx ry ⟨p,q,e1,e2,hd,h⟩;have:=Dat.Lu p q u v X.A (r8 I RG hx rx e1) (r8 I RG hy ry e2) (by lia);exact this _ _ _ _ ⟨.bl (p.dW q),H,I,rfl,.bl (p.dW q),G,iX,.refl H G,RG,h⟩
theorem Mm(hu:X.A.units+64<cLine):zd X (compareOp .NotEq) (fX true):=by
 intro pins s σ H G x y vx vy u v Q3 I RG hx hy rx ry ⟨p,q,e1,e2,hd,h⟩;have:=Dat.Ls p q u v X.A (r8 I RG hx rx e1) (r8 I RG hy ry e2) (by lia);exact this _ _ _ _ ⟨.bl (!p.dW q),H,I,rfl,.bl (!p.dW q),G,iX,.refl H G,RG,h⟩
def qk(K:ζ)(r:R3):R2:=fun vx vy H Q=>∃x y G Q3,aK K G H/\Hv K H x vx/\Hv K H y vy/\r x y G Q3/\∀v H' d G',Hv K H' d v->Step H G H' G'->aK K G' H'->Q3 d G'->Q v H'
theorem zd.op{f:δ->δ->Sem δ}{r:R3}(h:zd X f r):cy X f (qk X.K r):=by
 intro pins s σ H vx vy u v Q I rx ry ⟨x,y,G,Q3,RG,hx,hy,q,k⟩;refine bq (h pins s σ H G x y vx vy u v Q3 I RG hx hy rx ry q) fun w s' ⟨v',H',I',r',d,G',z1,z2,z3,z4⟩=>⟨v',H',I',r',k v' H' d G' z1 z2 z3 z4⟩
theorem Dk{K:ζ}{r:R3}:cz K r (qk K r):=fun x y vx vy G H Q3 Q hx hy RG h k=>⟨x,y,G,Q3,RG,hx,hy,h,k⟩
theorem mF(hu:X.A.units+64<cLine):cy X (compareOp .Eq) (qk X.K (fX false)):=(MB hu).op
theorem pe(hu:X.A.units+64<cLine):cy X (compareOp .NotEq) (qk X.K (fX true)):=(Mm hu).op
theorem sP{K:ζ}:cz K (fX false) (qk K (fX false)):=Dk
theorem vq{K:ζ}:cz K (fX true) (qk K (fX true)):=Dk
abbrev tS:=S3->Gp->(Option Int->Gp->Prop)->Prop
def LL(K:ζ)(t:tS):TO:=fun σ H Q=>∃τ G Q3,dq K τ σ H/\aK K G H/\t τ G Q3/\∀o H' G',Step H G H' G'->aK K G' H'->Q3 o G'->Q o H'
abbrev AY(X:Cx)(e:Option ν)(t:tS):Prop:=PO X e (LL X.K t)
theorem C2{o:Option ν}{t t':TO}(h:PO X o t)(f:∀σ H Q,t' σ H Q->t σ H Q):PO X o t':=fun pins s σ H Q I q=>h pins s σ H Q I (f σ H Q q)
def iU:tS:=fun _ G Q=>Q none G
def gX(t:ag):tS:=fun τ G Q=>t τ G fun x G1=>match x with
 |.int i=>Q (some i) G1
 |_=>False
theorem GX:AY X none iU:=C2 En fun σ H Q ⟨τ,G,Q3,RS,RG,h,k⟩=>k none H G (.refl H G) RG h
theorem GW(h:bA X e ta):AY X (some e) (gX ta):=C2 (Em h) fun σ H Q ⟨τ,G,Q3,RS,RG,h,k⟩=>
 ⟨τ,G,_,RS,RG,h,fun v H1 d G1 h1 S1 R1 q1=>by
  cases d with
  |int i=>exact⟨i,cG h1,k (some i) H1 G1 S1 R1 q1⟩
  |_=>exact q1.elim⟩
def fu(ds:List D)(lo hi:Option Int):List D:=(ds.drop (HT.bx ds.length 0 lo)).take (HT.bx ds.length ds.length hi-HT.bx ds.length 0 lo)
def nX(ta:ag)(tl th:tS):ag:=fun τ G Q=>ta τ G fun x G1=>tl τ G1 fun lo G2=>th τ G2 fun hi G3=>match x with
 |.tup ds=>Q (.tup (fu ds lo hi)) G3
 |.eW ds=>∀p G4,dv G3 p (.lst (fu ds lo hi)) G4->Q (.obj p) G4
 |.obj a=>∃ds,G3 a=some (.lst ds)/\∀p G4,dv G3 p (.lst (fu ds lo hi)) G4->Q (.obj p) G4
 |_=>False
theorem sU{K:ζ}{H:Hp}{ds:List D}{vs:List V}(h:aw K H ds vs)(lo hi:Option Int):aw K H (fu ds lo hi) (pG vs lo hi):=by
 unfold fu pG;rw[h.length];exact (h.drop _).take _
theorem oB{prog:ah}{w:ar}{A:bo}{E:δ->η->Prop}{s:η}{t sl:ε}{items:Array δ}{vl vu:δ}{lo hi:Option Int}{Q:δ->η->Prop}(ht:kz s.heap t items)(hs:s.heap.IsSliceOf sl vl vu .none)(pl:ji vl lo)(pu:ji vu hi)
  (hw:HT.bx items.size 0 lo=0/\HT.bx items.size items.size hi=items.size) (h:Q (.ref t) s):ρ (model prog w) A (getItem (.ref t) (.ref sl)) Q E s:=by
 obtain⟨os,hos,hcs,hds⟩:=id hs;have hTs:s.TypeIs (.ref sl) "slice":=⟨os,hos,hcs⟩;unfold getItem
 try with_reducible refine cb ?_
 first|refine γ (μ ?_)|skip
 refine γ (wpAny_sequenceKey ht.typeIs (by decide) ?_);refine γ (bE (name:=aA "__getitem__") ht.typeIs bQ
  (bK bQ ht.typeIs entry_tuple_getitem ?_ (args_tuple_getitem _ _)))
 show ρ _ _ (kf (.ref t) >>= _) _ _ s;refine γ (tupleItemsOf_ ht ?_);refine γ (gI hTs ?_);rw[if_pos (by decide)];refine γ (HT.kG hs pl pu ?_);have hyes:(((HT.bx items.size 0 lo:Nat):Int)==0&&(1:Int)==1&&(HT.bx items.size items.size hi-HT.bx items.size 0 lo)==items.size)=true:=by
  rw[hw.1,hw.2];simp
 show ρ _ _ (if (((HT.bx items.size 0 lo:Nat):Int)==0&&(1:Int)==1&&(HT.bx items.size items.size hi-HT.bx items.size 0 lo)==items.size)=true then _ else _) _ _ s;rw[if_pos hyes];unfold dC.Tuple.tupleIsExact;refine γ (γ (gI ht.typeIs (μ ?_)));rw[if_pos (by decide)];exact γ (kv (μ ⟨_,rfl,μ h⟩))
def JA(K:ζ):V->Option Int->Option Int->Hp->VK->Prop:=fun x lo hi H Q=>∃a xs,x=.ref a/\cJ K H a xs ∧
 (HT.bx xs.length 0 lo=0/\HT.bx xs.length xs.length hi=xs.length)/\Q (.ref a) H
theorem D9:tT X (JA X.K):=by
 intro pins s σ H x v vl vu lo hi sl Q I rx hs pl pu h;obtain⟨a,xs,rfl,hx,hw,q⟩:=h;cases rx;obtain⟨its,r,ht,hz⟩:=I.tuple hx;have hlen:its.toArray.size=xs.length:=by rw[χ];exact r.length.symm
 refine⟨"tuple",_,bQ.lookup,ht.typeIs,?_⟩;exact oB ht hs pl pu (by rw[hlen];exact hw) ⟨.ref a,H,I,rfl,q⟩
theorem LX{lo hi:Option ν}{tl th:tS}{p2:aE}(ha:bA X a ta)(hl:AY X lo tl)(hh:AY X hi th):bA X (.Subscript a (.Slice lo hi none p2) pos) (nX ta tl th):=
 dD (BH (FF.or (D9.or Ea)) ha hl hh) fun σ H Q ⟨τ,G,Q3,RS,RG,h,k⟩=>by
  refine⟨τ,G,_,RS,RG,h,fun v1 H1 d1 G1 h1 S1 R1 q1=>?_⟩;have RS1:=RS.ext (S1.ext RG);refine⟨τ,G1,_,RS1,R1,q1,fun l H2 G2 S2 R2 q2=>?_⟩;have RS2:=RS1.ext (S2.ext R1);refine⟨τ,G2,_,RS2,R2,q2,fun u H3 G3 S3 R3 q3=>?_⟩;have S13:Step H G H3 G3:=(S1.trans S2).trans S3;have hv:=(h1.ext (S2.ext R1)).ext (S3.ext R2);cases d1 with
  |tup ds=>
   obtain⟨a',vs,rfl,e1,e2⟩:=gD hv;by_cases hw:HT.bx vs.length 0 l=0/\HT.bx vs.length vs.length u=vs.length
   ·refine .inr (.inl ⟨a',vs,rfl,e1,hw,k _ H3 (.tup (fu ds l u)) G3 (iV e1 ?_) S13 R3 q3⟩);have:fu ds l u=ds:=by
     unfold fu;rw[e2.length,hw.1,hw.2];simp[←e2.length]
    rw[this];exact e2
   ·refine .inl ⟨a',vs,rfl,e1,hw,fun p hp=>?_⟩;exact k _ _ (.tup (fu ds l u)) G3 (iV (.of bX) ((sU e2 l u).ext (.laid hp))) (S13.trans (.laid hp)) (R3.laid hp) q3
  |eW ds=>
   obtain⟨a',vs,rfl,e1,e2⟩:=kP hv;refine .inr (.inr ⟨a',vs,rfl,e1.l,fun p hp=>?_⟩);exact k _ _ (.obj p) _ kM (S13.trans (.i0 hp)) (R3.qO hp (sU e2 l u)) (q3 p _ (.mk' (R3.free hp)))
  |obj a'=>
   rw[dU hv];obtain⟨ds,e0,q3⟩:=q3;obtain⟨vs,e1,e2⟩:=R3 a' _ e0;refine .inr (.inr ⟨a',vs,rfl,.of e1,fun p hp=>?_⟩);exact k _ _ (.obj p) _ kM (S13.trans (.i0 hp)) (R3.qO hp (sU e2 l u)) (q3 p _ (.mk' (R3.free hp)))
  |_=>exact q3.elim
end
end L3
namespace L3
open PySem PySem.Spec PyProof.Rows L2
abbrev C3:=List D->Gp->V3->Prop
def cx(r:C3)(t:cq):ag:=fun τ G Q=>t τ G fun ds G1=>r ds G1 Q
def kT(K:ζ)(r:C3)(r2:List V->Hp->VK->Prop):Prop:=∀ds vs G H Q3 Q,aw K H ds vs->aK K G H->r ds G Q3->(∀v H' d G',Hv K H' d v->Step H G H' G'->aK K G' H'->Q3 d G'->Q v H')->r2 vs H Q
section
variable {X:Cx} {K:ζ} {e:ν} {es:List ν} {t:cq} {ta:ag} {pos p:aE}
theorem Hr{r:C3}{r2:List V->Hp->VK->Prop}(L:kT K r r2){σ:L2.St}{H:Hp}{Q:VK}(h:low K (cx r t) σ H Q):CN r2 (qT K t) σ H Q:=by
 obtain⟨τ,G,Q3,RS,RG,h,k⟩:=h;refine⟨τ,G,_,RS,RG,h,fun vs H1 ds G1 h1 S1 R1 q1=>?_⟩;exact L _ _ _ _ _ _ h1 R1 q1 fun v H' d G' z1 z2 z3 z4=>k v H' d G' z1 (S1.trans z2) z3 z4
theorem nH{r:C3}{r2:List V->Hp->VK->Prop}(L:kT X.K r r2)(h:PE X e (CN r2 (qT X.K t))):bA X e (cx r t):=dD h fun _ _ _ h=>Hr L h
theorem i3{H:Hp}{d:D}{vs:List V}(h:aw K H [d] vs):∃v,vs=[v]/\Hv K H d v:=by
 obtain⟨v,r,rfl,z1,z2⟩:=h.inv;cases z2.gC;exact⟨v,rfl,z1⟩
theorem LR{H:Hp}{d d':D}{vs:List V}(h:aw K H [d,d'] vs):∃v v',vs=[v,v']/\Hv K H d v/\Hv K H d' v':=by
 obtain⟨v,r,rfl,z1,z2⟩:=h.inv;obtain⟨v',rfl,z3⟩:=i3 z2;exact⟨v,v',rfl,z1,z3⟩
def gS:C3:=fun ds G Q=>match ds with
 |[.obj a]=>∃xs,G a=some (.lst xs)/\Q (.int xs.length) G
 |[.tup xs]=>Q (.int xs.length) G
 |[.eW xs]=>Q (.int xs.length) G
 |_=>False
theorem Kg:kT K gS (fun xs H Q=>∃p ys,xs=[.ref p]/\(du K H p ys∨cJ K H p ys)/\Q (.int ys.length) H):=fun ds vs G H Q3 Q h RG q k=>by
 rcases ds with _|⟨d,_|⟨d2,ds⟩⟩
 ·exact q.elim
 ·obtain⟨v,rfl,hv⟩:=i3 h;cases d with
  |obj a=>
   obtain⟨xs,e,q⟩:=q;obtain⟨us,e1,e2⟩:=RG a _ e;rw[dU hv];exact⟨a,us,rfl,.inl (.of e1),by rw[←e2.length];exact k _ H _ G fc (.refl H G) RG q⟩
  |tup xs=>
   obtain⟨a,us,rfl,e1,e2⟩:=gD hv;exact⟨a,us,rfl,.inr e1,by rw[←e2.length];exact k _ H _ G fc (.refl H G) RG q⟩
  |eW xs=>
   obtain⟨a,us,rfl,e1,e2⟩:=kP hv;exact⟨a,us,rfl,.inl e1.l,by rw[←e2.length];exact k _ H _ G fc (.refl H G) RG q⟩
  |_=>exact q.elim
 ·cases d<;>exact q.elim
theorem Ii(hu:X.A.units+64<cLine)(hm:X.mg "len" = none)(ha:hZ X (e::es) t)(hg:Gl X "len":=by rfl)(he:notStar e=true:=by rfl)(hpl:es.all notStar=true:=by rfl):
  bA X (.Call (.Name "len" p) (e::es) [] pos) (cx gS t):=nH Kg (iy vV hg hm PySem.boot_len ha (he:=bt he) (hpl:=cH hpl))
def uf:C3:=fun ds G Q=>match ds with
 |[.bl b]=>Q (.int (if b then 1 else 0)) G
 |[.int i]=>Q (.int i) G
 |_=>False
theorem Kh:kT K uf (fun xs H Q=>(∃i,xs=[.int i]/\Q (.int i) H)∨∃k,xs=[.bl k]/\Q (.int (if k then 1 else 0)) H):=fun ds vs G H Q3 Q h RG q k=>by
 rcases ds with _|⟨d,_|⟨d2,ds⟩⟩
 ·exact q.elim
 ·obtain⟨v,rfl,hv⟩:=i3 h;cases d with
  |bl b=>
   rw[uj hv];exact .inr ⟨b,rfl,k _ H _ G fc (.refl H G) RG q⟩
  |int b=>
   rw[cG hv];exact .inl ⟨b,rfl,k _ H _ G fc (.refl H G) RG q⟩
  |_=>exact q.elim
 ·cases d<;>exact q.elim
theorem Ij(hu:X.A.units+64<cLine)(hm:X.mg "int" = none)(ha:hZ X (e::es) t)(hg:Gl X "int":=by rfl)(he:notStar e=true:=by rfl)(hpl:es.all notStar=true:=by rfl):
  bA X (.Call (.Name "int" p) (e::es) [] pos) (cx uf t):=nH Kh (jV AU hg hm rfl ha (he:=bt he) (hpl:=cH hpl))
def x9:C3:=fun ds G Q=>match ds with
 |[.int i,.int j]=>Q (.int (if j > i then j else i)) G
 |_=>False
theorem EH{f:Int->Int->Int}:kT K (fun ds G Q=>match ds with
 |[.int i,.int j]=>Q (.int (f i j)) G
 | _=>False) (fun xs H Q=>∃i j,xs=[.int i,.int j]/\Q (.int (f i j)) H):=fun ds vs G H Q3 Q h RG q k=>by
 rcases ds with _|⟨d,_|⟨d2,_|⟨d3,ds⟩⟩⟩
 ·exact q.elim
 ·cases d<;>exact q.elim
 ·obtain⟨v,v',rfl,h1,h2⟩:=LR h;cases d with
  |int i=>
   cases d2 with
   |int j=>
    rw[cG h1,cG h2];exact⟨i,j,rfl,k _ H _ G fc (.refl H G) RG q⟩
   |_=>exact q.elim
  |_=>exact q.elim
 ·cases d with
  |int i=>cases d2<;>exact q.elim
  |_=>exact q.elim
theorem Ih(hu:X.A.units+64<cLine)(hm:X.mg "max" = none)(ha:hZ X (e::es) t)(hc:X.calm=true:=by rfl)(hg:Gl X "max":=by rfl)(he:notStar e=true:=by rfl)(hpl:es.all notStar=true:=by rfl):
  bA X (.Call (.Name "max" p) (e::es) [] pos) (cx x9 t):=nH (EH (f:=fun i j=>if j > i then j else i)) (iy (AS hc) hg hm rfl ha (he:=bt he) (hpl:=cH hpl))
def jy:C3:=fun ds G Q=>match ds with
 |[.obj a]=>∃xs,G a=some (.lst xs)/\Q (.tup xs) G
 |[.tup xs]=>Q (.tup xs) G
 |[.eW xs]=>Q (.tup xs) G
 |_=>False
theorem EW:kT K jy (fun xs H Q=>∃p ys,xs=[.ref p]/\((du K H p ys/\∀l,H l=none->Q (.ref l) (upd H l (.tup ys)))∨(cJ K H p ys/\Q (.ref p) H))):=fun ds vs G H Q3 Q h RG q k=>by
 rcases ds with _|⟨d,_|⟨d2,ds⟩⟩
 ·exact q.elim
 ·obtain⟨v,rfl,hv⟩:=i3 h;cases d with
  |obj a=>
   obtain⟨xs,e,q⟩:=q;obtain⟨us,e1,e2⟩:=RG a _ e;rw[dU hv];exact⟨a,us,rfl,.inl ⟨.of e1,fun l hl=>k _ _ (.tup xs) G (iV (.of bX) (e2.ext (.laid hl))) (.laid hl) (RG.laid hl) q⟩⟩
  |tup xs=>
   obtain⟨a,us,rfl,e1,e2⟩:=gD hv;exact⟨a,us,rfl,.inr ⟨e1,k _ H _ G (iV e1 e2) (.refl H G) RG q⟩⟩
  |eW xs=>
   obtain⟨a,us,rfl,e1,e2⟩:=kP hv;exact⟨a,us,rfl,.inl ⟨e1.l,fun l hl=>k _ _ (.tup xs) G (iV (.of bX) (e2.ext (.laid hl))) (.laid hl) (RG.laid hl) q⟩⟩
  |_=>exact q.elim
 ·cases d<;>exact q.elim
theorem Cc(hu:X.A.units+64<cLine)(hm:X.mg "tuple" = none)(ha:hZ X (e::es) t)(hg:Gl X "tuple":=by rfl)(he:notStar e=true:=by rfl)(hpl:es.all notStar=true:=by rfl):
  bA X (.Call (.Name "tuple" p) (e::es) [] pos) (cx jy t):=nH EW (jV t9 hg hm rfl ha (he:=bt he) (hpl:=cH hpl))
def eM(r:D->List D->Gp->V3->Prop)(to:ag)(t:cq):ag:=fun τ G Q=>to τ G fun x G1=>(∃a xs,x=.obj a/\G1 a=some (.lst xs))/\t τ G1 fun ds G2=>r x ds G2 Q
def md(K:ζ)(r:D->List D->Gp->V3->Prop)(r2:V->List V->Hp->VK->Prop):Prop:=∀x vx ds vs G H Q3 Q,Hv K H x vx->aw K H ds vs->aK K G H->r x ds G Q3->(∀v H' d G',Hv K H' d v->Step H G H' G'->aK K G' H'->Q3 d G'->Q v H')->r2 vx vs H Q
theorem Kb{r:D->List D->Gp->V3->Prop}{r2:V->List V->Hp->VK->Prop}{to:ag}(L:md K r r2){σ:L2.St}{H:Hp}{Q:VK}(h:low K (eM r to t) σ H Q):CO K "list" r2 (low K to) (qT K t) σ H Q:=by
 obtain⟨τ,G,Q3,RS,RG,h,k⟩:=h;refine⟨τ,G,_,RS,RG,h,fun v1 H1 d1 G1 h1 S1 R1 q1=>?_⟩;obtain⟨⟨a,xs,rfl,e1⟩,q1⟩:=q1;obtain⟨us,e2,e3⟩:=R1 a _ e1;refine⟨?_,τ,G1,_,RS.ext (S1.ext RG),R1,q1,fun vs H2 ds G2 h2 S2 R2 q2=>?_⟩
 ·rw[dU h1];exact .inl ⟨rfl,us,.of e2⟩
 ·exact L _ _ _ _ _ _ _ _ (h1.ext (S2.ext R1)) h2 R2 q2 fun v H' d G' z1 z2 z3 z4=>k v H' d G' z1 ((S1.trans S2).trans z2) z3 z4
def oZ:D->List D->Gp->V3->Prop:=fun x ds G Q=>match x,ds with
 |.obj a,[d]=>∃xs,G a=some (.lst xs)/\xs.length<Φ/\Q .ao (dA G a (.lst (xs++[d])))
 |_,_=>False
theorem tK:md K oZ wR:=fun x vx ds vs G H Q3 Q hx hs RG q k=>by
 rcases ds with _|⟨d,_|⟨d2,ds⟩⟩
 ·cases x<;>exact q.elim
 ·cases x with
  |obj a=>
   obtain⟨xs,e1,hz,q⟩:=q;obtain⟨us,e2,e3⟩:=RG a _ e1;obtain⟨v,rfl,hv⟩:=i3 hs;rw[dU hx];refine⟨a,us,v,rfl,rfl,e2,by rw[←e3.length];exact hz,?_⟩;exact k _ _ .ao _ (by simp[Hv]) (.wrote e1) (RG.zj e2 (e3.append (.cons hv .nil))) q
  |_=>exact q.elim
 ·cases x<;>exact q.elim
theorem KC{r:D->List D->Gp->V3->Prop}{r2:V->List V->Hp->VK->Prop}{to:ag}(L:md X.K r r2)(h:PE X e (CO X.K "list" r2 (low X.K to) (qT X.K t))):bA X e (eM r to t):=dD h fun _ _ _ z=>Kb L z
def zS:D->List D->Gp->V3->Prop:=fun x ds G Q=>match x,ds with
 |.obj a,[.int i]=>∃xs k d,G a=some (.lst xs)/\(-(2^63)≤i/\i<2^63)/\seqIndex? i xs.length=some k/\xs[k]?=some d/\Q d (dA G a (.lst (xs.eraseIdx k)))
 |_,_=>False
theorem HH:md K zS zT:=fun x vx ds vs G H Q3 Q hx hs RG q k=>by
 rcases ds with _|⟨d,_|⟨d2,ds⟩⟩
 ·cases x<;>exact q.elim
 ·cases x with
  |obj a=>
   cases d with
   |int i=>
    obtain⟨xs,j,y,e1,hb,hk,hy,q⟩:=q;obtain⟨us,e2,e3⟩:=RG a _ e1;obtain⟨v,rfl,hv⟩:=i3 hs;obtain⟨w,e4,e5⟩:=e3.get hy;rw[dU hx,cG hv];refine⟨a,us,i,j,w,rfl,rfl,e2,hb.1,hb.2,by rw[←e3.length];exact hk,e4,?_⟩;exact k _ _ y _ (e5.ext (.wrote e2)) (.wrote e1) (RG.zj e2 (e3.erase j)) q
   |_=>exact q.elim
  |_=>exact q.elim
 ·cases x with
  |obj a=>cases d<;>exact q.elim
  |_=>exact q.elim
def ij(T:String)(G:Gp):D->Option Bool
 |.ao=>some false
 |.bl _=>some (T=="bool" || T=="int")
 |.int _=>some (T=="int")
 |.str _=>some (T=="str")
 |.tup _=>some (T=="tuple")
 |.eW _=>some (T=="list")
 |.dc _=>some (T=="dict")
 |.obj a=>match G a with
  |some (.lst _)=>some (T=="list")
  |some .lM=>some (T=="list")
  |some .ff=>some (T=="dict")
  |some (.gen _)=>none
  |none=>none
def jK(T:String)(ta:ag):ag:=fun τ G Q=>ta τ G fun x G1=>match ij T G1 x with
 |some b=>Q (.bl b) G1
 |none=>False
end
end L3
namespace IL
open PySem PySem.W PyProof.Rows
structure Ord(n:Nat)(lt:Nat->Nat->Bool):Prop where
 xy:∀a b,a<n->b<n->lt a b=true->lt b a=false
 qy:∀a b c,a<n->b<n->c<n->lt b a=false->lt c b=false->lt c a=false
abbrev g(p:Array Nat)(i:Nat):Nat:=p.getD i 0
structure Va(n:Nat)(p:Array Nat):Prop where
 perm:p.toList.Perm (aq n)
section
variable {n:Nat} {lt:Nat->Nat->Bool} {cmp:Nat->Nat->(Bool->η->Prop)->η->Prop} {s:η}
theorem Va.size{p:Array Nat}(v:Va n p):p.size=n:=by
 have:=v.perm.length_eq;simpa using this
theorem Va.get{p:Array Nat}(v:Va n p){i:Nat}(hi:i<n):p[i]?=some (g p i):=by
 have h:=v.size;simp[g,jm,h,hi]
theorem Va.inr{p:Array Nat}(v:Va n p){i:Nat}(hi:i<n):g p i<n:=by
 have h:=v.get hi;have hm:g p i∈p.toList:=bu (by rw[ak];exact h);have:=v.perm.mem_iff.mp hm;simpa using this
theorem Ord.refl(O:Ord n lt){a:Nat}(ha:a<n):lt a a=false:=by
 cases h:lt a a with
 |false=>rfl
 |true=>
  have:=O.xy a a ha ha h;rw[h] at this;exact this
def So(lt:Nat->Nat->Bool)(p:Array Nat)(k:Nat):Prop:=∀i j,i≤j->j<k->lt (g p j) (g p i)=false
def Ni(lt:Nat->Nat->Bool)(p:Array Nat)(k:Nat):Prop:=∀i j,i≤j->j<k->lt (g p i) (g p j)=false
def A0(lt:Nat->Nat->Bool)(p:Array Nat)(lo hi:Nat):Prop:=∀i j,lo≤i->i<hi->lo≤j->j<hi->lt (g p i) (g p j)=false
theorem So.one(O:Ord n lt){p:Array Nat}(v:Va n p)(hn:1≤n):So lt p 1:=fun i j h1 h2=>by
 have e1:i=0:=by lia
 have e2:j=0:=by lia
 rw[e1,e2];exact O.refl (v.inr (by lia))
theorem So.next(O:Ord n lt){p:Array Nat}(v:Va n p){a:Nat}(h1:1≤a)(ha:a<n)(S:So lt p a)(h:lt (g p a) (g p (a-1))=false):So lt p (a+1):=fun i j hij hj=>by
 by_cases hja:j<a
 ·exact S i j hij hja
 ·have e:j=a:=by lia
  subst e;by_cases hij':i=j
  ·rw[hij'];exact O.refl (v.inr ha)
  ·exact O.qy (g p i) (g p (j-1)) (g p j) (v.inr (by lia)) (v.inr (by lia)) (v.inr ha) (S i (j-1) (by lia) (by lia)) h
theorem Ni.next(O:Ord n lt){p:Array Nat}(v:Va n p){a:Nat}(h1:1≤a)(ha:a<n)(S:Ni lt p a)(h:lt (g p (a-1)) (g p a)=false):Ni lt p (a+1):=fun i j hij hj=>by
 by_cases hja:j<a
 ·exact S i j hij hja
 ·have e:j=a:=by lia
  subst e;by_cases hij':i=j
  ·rw[hij'];exact O.refl (v.inr ha)
  ·exact O.qy (g p j) (g p (j-1)) (g p i) (v.inr ha) (v.inr (by lia)) (v.inr (by lia)) h (S i (j-1) (by lia) (by lia))
theorem kI{p:Array Nat}(v:Va n p)(i j:Nat):Va n (kas_rev p i j):=⟨(mirror_perm p i j _).toList.trans v.perm⟩
theorem pX{p:Array Nat}(v:Va n p){lo hi k:Nat}(hh:hi≤n)(hk:k<n):g (kas_rev p lo hi) k=if lo≤k/\k<hi then g p (lo+hi-1-k) else g p k:=by
 have h1:=getElem?_mirror_all (xs:=p) (i:=lo) (j:=hi) (by rw[v.size];exact hh) k;have h2:=(kI v lo hi).get hk;have h3:(kas_rev p lo hi)[k]?=_:=h1;rw[h2] at h3;by_cases hc:lo≤k/\k<hi
 ·rw[if_pos hc] at h3 ⊢;rw[v.get (by lia)] at h3;exact ai h3
 ·rw[if_neg hc] at h3 ⊢;rw[v.get hk] at h3;exact ai h3
theorem uT{p:Array Nat}(v:Va n p){lo hi k:Nat}(hh:hi≤k)(hk:k≤n)(S:Ni lt p k)(e:A0 lt p lo hi):Ni lt (kas_rev p lo hi) k:=fun i j hij hj=>by
 rw[pX v (by lia) (show i<n by lia),pX v (by lia) (show j<n by lia)];by_cases hi':lo≤i/\i<hi
 ·rw[if_pos hi'];by_cases hj':lo≤j/\j<hi
  ·rw[if_pos hj'];exact e _ _ (by lia) (by lia) (by lia) (by lia)
  ·rw[if_neg hj'];exact S _ _ (by lia) hj
 ·rw[if_neg hi'];by_cases hj':lo≤j/\j<hi
  ·rw[if_pos hj'];exact S _ _ (by lia) (by lia)
  ·rw[if_neg hj'];exact S _ _ hij hj
theorem FN{p:Array Nat}(v:Va n p){k:Nat}(hk:k≤n)(S:Ni lt p k):So lt (kas_rev p 0 k) k:=fun i j hij hj=>by
 rw[pX v hk (show i<n by lia),pX v hk (show j<n by lia),if_pos (by lia),if_pos (by lia)];exact S _ _ (by lia) (by lia)
variable (O:Ord n lt) (hc:∀i j,i<n->j<n->∀(C:Bool->η->Prop) (s:η),C (lt i j) s->cmp i j C s)
include O hc
theorem vZ{p:Array Nat}(v:Va n p){G:Nat->η->Prop}:∀(f a:Nat),1≤a->a+f≤n->So lt p a->(∀m,a≤m->m≤a+f->So lt p m->(m=a+f∨lt (g p m) (g p (m-1))=true)->G m s)->(kas_asc p f a).kasWp cmp G s
 |0,a,_,_,S,h=>h a (Γ _) (by lia) S (.inl (by lia))
 |f+1,a,h1,h2,S,h=>by
  show cmp _ _ _ s;refine hc _ _ (v.inr (by lia)) (v.inr (by lia)) _ s ?_;cases hb:lt (g p a) (g p (a-1)) with
  |true=>
   ((try dsimp only);rw[if_pos rfl])
   exact h a (Γ _) (by lia) S (.inr hb)
  |false=>
   ((try dsimp only);rw[if_neg af])
   exact vZ v f (a+1) (by lia) (by lia) (S.next O v h1 (by lia) hb) fun m q1 q2 q3 q4=>h m (by lia) (by lia) q3 (by
    rcases q4 with q4|q4
    ·exact .inl (by lia)
    ·exact .inr q4)
theorem qi{G:Array Nat×Nat×Nat->η->Prop}:∀(f:Nat) (p:Array Nat) (a q:Nat),Va n p->q+1≤a->a+f≤n->Ni lt p a->A0 lt p (a-(q+1)) a ->
  (∀p' m q',Va n p'->a≤m->m≤a+f->q'+1≤m->Ni lt p' m->A0 lt p' (m-(q'+1)) m->G (p',m,q') s)->(kas_desc f p a q).kasWp cmp G s
 |0,p,a,q,v,h1,h2,S,e,h=>h p a q v (Γ _) (by lia) h1 S e
 |f+1,p,a,q,v,h1,h2,S,e,h=>by
  show cmp _ _ _ s;refine hc _ _ (v.inr (by lia)) (v.inr (by lia)) _ s ?_;have one:∀{p':Array Nat},Va n p'->A0 lt p' (a+1-(0+1)) (a+1):=fun {p'} v' i j i1 i2 j1 j2=>by
   have e1:i=a:=by lia
   have e2:j=a:=by lia
   rw[e1,e2];exact O.refl (v'.inr (by lia))
  cases hb:lt (g p a) (g p (a-1)) with
  |true=>
   ((try dsimp only);rw[if_pos rfl])
   have S':=S.next O v (by lia) (by lia) (O.xy _ _ (v.inr (by lia)) (v.inr (by lia)) hb)
   by_cases hq:q > 0
   ·rw[if_pos hq];exact qi f _ (a+1) 0 (kI v _ _) (by lia) (by lia) (uT v (by lia) (by lia) S' e) (one (kI v _ _)) fun p' m q' r1 r2 r3 r4 r5 r6=>h p' m q' r1 (by lia) (by lia) r4 r5 r6
   ·rw[if_neg hq];exact qi f _ (a+1) 0 v (by lia) (by lia) S' (one v) fun p' m q' r1 r2 r3 r4 r5 r6=>h p' m q' r1 (by lia) (by lia) r4 r5 r6
  |false=>
   ((try dsimp only);rw[if_neg af])
   show cmp _ _ _ s;refine hc _ _ (v.inr (by lia)) (v.inr (by lia)) _ s ?_;cases hd:lt (g p (a-1)) (g p a) with
   |true=>
    ((try dsimp only);rw[if_pos rfl])
    exact h p a q v (Γ _) (by lia) h1 S e
   |false=>
    ((try dsimp only);rw[if_neg af])
    refine qi f _ (a+1) (q+1) v (by lia) (by lia) (S.next O v (by lia) (by lia) hd) (fun i j i1 i2 j1 j2=>?_) fun p' m q' r1 r2 r3 r4 r5 r6=>h p' m q' r1 (by lia) (by lia) r4 r5 r6
    have L:∀k,k<n->g p k<n:=fun k hk=>v.inr hk;by_cases hi:i=a
    ·by_cases hj:j=a
     ·rw[hi,hj];exact O.refl (L _ (by lia))
     ·rw[hi];exact O.qy (g p j) (g p (a-1)) (g p a) (L _ (by lia)) (L _ (by lia)) (L _ (by lia)) (e (a-1) j (by lia) (by lia) (by lia) (by lia)) hb
    ·by_cases hj:j=a
     ·rw[hj];exact O.qy (g p a) (g p (a-1)) (g p i) (L _ (by lia)) (L _ (by lia)) (L _ (by lia)) hd (e i (a-1) (by lia) (by lia) (by lia) (by lia))
     ·exact e i j (by lia) (by lia) (by lia) (by lia)
theorem wL{p:Array Nat}(v:Va n p){a:Nat}{G:Nat×Array Nat->η->Prop}(h1:1≤a)(h2:a≤n)(S:Ni lt p a)(h:∀m p',Va n p'->1≤m->m≤n->So lt p' m->G (m,p') s):(kas_tail3 a n p).kasWp cmp G s:=by
 unfold kas_tail3;rw[gx];exact vZ O hc (kI v 0 a) (n-a) a h1 (by lia) (FN v h2 S) fun m q1 q2 q3 _=>h m _ (kI v 0 a) (by lia) (by lia) q3
theorem w6{p:Array Nat}(v:Va n p){a:Nat}{G:Nat×Array Nat->η->Prop}(h1:1≤a)(h2:a+1≤n)(S:Ni lt p (a+1))(h:∀m p',Va n p'->1≤m->m≤n->So lt p' m->G (m,p') s):(kas_descPart a n p).kasWp cmp G s:=by
 unfold kas_descPart;rw[gx];refine qi O hc (n-(a+1)) p (a+1) 0 v (by lia) (by lia) S (fun i j i1 i2 j1 j2=>?_) fun p' m q' r1 r2 r3 r4 r5 r6=>?_
 ·have e1:i=a:=by lia
  have e2:j=a:=by lia
  rw[e1,e2];exact O.refl (v.inr (by lia))
 ·dsimp only;by_cases hq:q' > 0
  ·rw[if_pos hq];exact wL O hc (kI r1 _ _) (by lia) (by lia) (uT r1 (Γ _) (by lia) r5 r6) h
  ·rw[if_neg hq];exact wL O hc r1 (by lia) (by lia) r5 h
theorem Cs{p:Array Nat}(v:Va n p){G:Nat×Array Nat->η->Prop}(hn:1≤n)(h:∀m p',Va n p'->1≤m->m≤n->So lt p' m->G (m,p') s):(kas_count n p).kasWp cmp G s:=by
 unfold kas_count;rw[gx];refine vZ O hc v (n-1) 1 (Γ _) (by lia) (So.one O v hn) fun a q1 q2 q3 q4=>?_;have L:∀k,k<n->g p k<n:=fun k hk=>v.inr hk;by_cases e1:(a==n)=true
 ·rw[if_pos e1];exact h a p v q1 (by lia) q3
 ·rw[if_neg e1];have hne:a≠n:=fun z=>e1 (by rw[z];exact beq_self_eq_true _);have hlt:lt (g p a) (g p (a-1))=true:=by
   rcases q4 with q4|q4
   ·lia
   ·exact q4
  have hle:=O.xy _ _ (L a (by lia)) (L (a-1) (by lia)) hlt;by_cases e2:a > 1
  ·rw[if_pos e2];show cmp _ _ _ s;refine hc _ _ (v.inr (by lia)) (v.inr (by lia)) _ s ?_;cases hb:lt (g p 0) (g p (a-1)) with
   |true=>
    ((try dsimp only);rw[if_pos rfl])
    exact h a p v q1 (by lia) q3
   |false=>
    ((try dsimp only);rw[if_neg af])
    -- all of the run are alike
    have eqv:A0 lt p 0 a:=fun i j i1 i2 j1 j2=>by
     have h1:lt (g p i) (g p 0)=false:=q3 0 i (by lia) i2;have h2:lt (g p (a-1)) (g p j)=false:=q3 j (a-1) (by lia) (by lia);have h3:lt (g p 0) (g p j)=false:=O.qy _ _ _ (L j (by lia)) (L (a-1) (by lia)) (L 0 (by lia)) h2 hb;have h4:lt (g p (a-1)) (g p i)=false:=q3 i (a-1) (by lia) (by lia);exact O.qy _ _ _ (L j (by lia)) (L 0 (by lia)) (L i (by lia)) h3 h1
    have ni:Ni lt p (a+1):=Ni.next O v (by lia) (by lia) (fun i j hij hj=>eqv i j (by lia) (by lia) (by lia) hj) hle
    exact w6 O hc (kI v _ _) (by lia) (by lia) (uT v (by lia) (by lia) ni eqv) h
  ·rw[if_neg e2];have ea:a=1:=by lia
   subst ea;refine w6 O hc v (Γ _) (by lia) (Ni.next O v (by lia) (by lia) (fun i j hij hj=>?_) hle) h
   have e3:i=0:=by lia
   have e4:j=0:=by lia
   rw[e3,e4];exact O.refl (L 0 (by lia))
theorem qL{p:Array Nat}(v:Va n p){k:Nat}(hk:k<n)(S:So lt p k){G:Nat->η->Prop}:∀(f l r:Nat),l≤r->r≤k->r-l≤f->(∀i,i<l->lt (g p k) (g p i)=false)->(∀i,r≤i->i<k->lt (g p k) (g p i)=true) ->
  (∀l,l≤k->(∀i,i<l->lt (g p k) (g p i)=false)->(∀i,l≤i->i<k->lt (g p k) (g p i)=true)->G l s)->(kas_place p k f l r).kasWp cmp G s
 |0,l,r,h1,h2,h3,h4,h5,h=>by
  have e:l=r:=by lia
  subst e;exact h l h2 h4 h5
 |f+1,l,r,h1,h2,h3,h4,h5,h=>by
  unfold kas_place;by_cases hlr:l≥r
  ·rw[if_pos hlr];have e:l=r:=by lia
   subst e;exact h l h2 h4 h5
  ·rw[if_neg hlr];show cmp _ _ _ s;refine hc _ _ (v.inr hk) (v.inr (by lia)) _ s ?_;have L:∀k,k<n->g p k<n:=fun k hk=>v.inr hk;cases hb:lt (g p k) (g p ((l+r) / 2)) with
   |true=>
    ((try dsimp only);rw[if_pos rfl])
    refine qL v hk S f l ((l+r) / 2) (by lia) (by lia) (by lia) h4 (fun i i1 i2=>?_) h;by_cases hri:r≤i
    ·exact h5 i hri i2
    ·cases hx:lt (g p k) (g p i) with
     |true=>rfl
     |false=>
      have h6:lt (g p i) (g p ((l+r) / 2))=false:=S _ _ i1 i2;have:=O.qy _ _ _ (L ((l+r) / 2) (by lia)) (L i (by lia)) (L k hk) h6 hx;rw[hb] at this;exact this.symm
   |false=>
    ((try dsimp only);rw[if_neg af])
    refine qL v hk S f ((l+r) / 2+1) r (by lia) h2 (by lia) (fun i hi=>?_) h5 h;exact O.qy _ _ _ (L i (by lia)) (L ((l+r) / 2) (by lia)) (L k hk) (S i ((l+r) / 2) (by lia) (by lia)) hb
theorem AX{G:Array Nat->η->Prop}:∀(f:Nat) (p:Array Nat) (k:Nat),Va n p->k+f=n->So lt p k->(∀p',Va n p'->So lt p' n->G p' s)->(kas_bin f p k).kasWp cmp G s
 | 0,p,k,v,hk,S,h=>h p v (by
  have e:k=n:=by lia
  rw[←e];exact S)
 |f+1,p,k,v,hk,S,h=>by
  show ((kas_place p k k 0 k).bind fun l=>kas_bin f (bubble p k (k-l)) (k+1)).kasWp cmp G s;rw[gx];refine qL O hc v (by lia) S k 0 k (by lia) (Γ _) (by lia) (fun i hi=>by lia) (fun i i1 i2=>by lia) fun l hl q1 q2=>?_;have v':Va n (bubble p k (k-l)):=⟨(bubble_perm p k (k-l)).toList.trans v.perm⟩;have L:∀k,k<n->g p k<n:=fun k hk=>v.inr hk;have bg:∀i,i<n->g (bubble p k (k-l)) i=if i=l then g p k else if l<i/\i≤k then g p (i-1) else g p i:=fun i hi=>by
   have h1:=getElem?_bubble (xs:=p) (src:=k) (by rw[v.size];lia) (k-l) (by lia) i;rw[v'.get hi,show k-(k-l)=l by lia] at h1;by_cases c1:i=l
   ·rw[if_pos c1] at h1 ⊢;rw[v.get (by lia)] at h1;exact ai h1
   ·rw[if_neg c1] at h1 ⊢;by_cases c2:l<i/\i≤k
    ·rw[if_pos c2] at h1 ⊢;rw[v.get (by lia)] at h1;exact ai h1
    ·rw[if_neg c2] at h1 ⊢;rw[v.get hi] at h1;exact ai h1
  refine AX f _ (k+1) v' (by lia) (fun i j hij hj=>?_) h;rw[bg i (by lia),bg j (by lia)];by_cases ci:i=l
  ·rw[if_pos ci];by_cases cj:j=l
   ·rw[if_pos cj];exact O.refl (L k (by lia))
   ·rw[if_neg cj,if_pos (by lia)];exact O.xy _ _ (L k (by lia)) (L _ (by lia)) (q2 (j-1) (by lia) (by lia))
  ·rw[if_neg ci];by_cases cj:j=l
   ·rw[if_pos cj,if_neg (by lia)];exact q1 i (by lia)
   ·rw[if_neg cj];by_cases c3:l<i/\i≤k
    ·rw[if_pos c3,if_pos (by lia)];exact S (i-1) (j-1) (by lia) (by lia)
    ·rw[if_neg c3];by_cases c4:l<j/\j≤k
     ·rw[if_pos c4];exact S i (j-1) (by lia) (by lia)
     ·rw[if_neg c4];exact S i j hij (by lia)
theorem D8{G:Array Nat->η->Prop}(hn:1≤n)(h:∀p,Va n p->So lt p n->G p s):(kas_sort n).kasWp cmp G s:=by
 unfold kas_sort;rw[gx];have v0:Va n (gN (aq n)):=⟨by simp⟩;refine Cs O hc v0 hn fun m p' v m1 m2 S=>?_;dsimp only;by_cases hm:m<n
 ·rw[if_pos hm];have e:max m 1=m:=by lia
  rw[e];exact AX O hc (n-m) p' m v (by lia) S h
 ·rw[if_neg hm];have e:m=n:=by lia
  subst e;exact h p' v S
end
end IL
namespace kR
open PySem PySem.SetTable
def gZ(m:Nat):Prop:=m=7∨m=31∨m=127
def pI(m:Nat)(p:Probe):Probe:=
 if p.more > 0 then { p with j:=p.j+1,more:=p.more-1 } else
 { p with j:=(leap m p.i p.perturb).1,more:=runEnd m (leap m p.i p.perturb).1-(leap m p.i p.perturb).1,i:=(leap m p.i p.perturb).1,perturb:=(leap m p.i p.perturb).2 }
def rs(m:Nat)(q:Nat×Nat):Probe:={ j:=q.1,more:=runEnd m q.1-q.1,i:=q.1,perturb:=q.2,dummy:=none }
def Ml(m:Nat)(h:Int):Probe:=rs m (bits h%(m+1),bits h)
def sq(m:Nat)(h:Int):Nat->Probe
 |0=>Ml m h
 |k+1=>pI m (sq m h k)
def rn(m:Nat)(h:Int):Nat->Nat×Nat
 |0=>(bits h%(m+1),bits h)
 |r+1=>leap m (rn m h r).1 (rn m h r).2
theorem uI(m:Nat)(h:Int):∀k,(sq m h k).dummy=none
 |0=>rfl
 |k+1=>by
  show (pI m (sq m h k)).dummy=none;have ih:=uI m h k;unfold pI;split<;>simpa using ih
theorem xX(m i:Nat):runEnd m i-i≤9:=by
 unfold runEnd;split<;>lia
theorem uQ(m:Nat)(h:Int)(n:Nat)(q:Nat×Nat)(e:sq m h n=rs m q):∀d,d≤runEnd m q.1-q.1->sq m h (n+d)={ j:=q.1+d,more:=runEnd m q.1-q.1-d,i:=q.1,perturb:=q.2,dummy:=none }
 |0,_=>by rw[Nat.add_zero,e];rfl
 |d+1,hd=>by
  have ih:=uQ m h n q e d (by lia);show pI m (sq m h (n+d))=_;rw[ih];unfold pI;rw[if_pos (show runEnd m q.1-q.1-d > 0 by lia)];simp only[Probe.mk.injEq,and_true,true_and];lia
theorem uP(m:Nat)(h:Int)(n:Nat)(q:Nat×Nat)(e:sq m h n=rs m q):sq m h (n+(runEnd m q.1-q.1)+1)=rs m (leap m q.1 q.2):=by
 show pI m (sq m h (n+(runEnd m q.1-q.1)))=_;rw[uQ m h n q e _ (Γ _)];unfold pI;rw[if_neg (by simp)];rfl
theorem rG(m:Nat)(h:Int):∀r,∃n,n≤10*r/\sq m h n=rs m (rn m h r)
 |0=>⟨0,by lia,rfl⟩
 |r+1=>by
  obtain⟨n,hn,e⟩:=rG m h r;have:=xX m (rn m h r).1;exact⟨n+(runEnd m (rn m h r).1-(rn m h r).1)+1,by lia,uP m h n _ e⟩
theorem Fj(h:Int):bits h<2^64:=by
 unfold bits;have h1:h%(2^64:Int)<2^64:=dJ _ (by decide);have h2:0≤h%(2^64:Int):=fm _ (by decide);lia
theorem rH(m:Nat)(h:Int):∀r,(rn m h r).2=bits h / 32^r
 |0=>by simp[rn]
 |r+1=>by
  show (rn m h r).2 / 32=_;rw[rH m h r,Nat.div_div_eq_div_mul,Nat.pow_succ]
theorem Ec(m:Nat)(h:Int)(r:Nat)(hr:13≤r):(rn m h r).2=0:=by
 rw[rH];have h1:=Fj h;have h2:(32:Nat)^13≤32^r:=Nat.pow_le_pow_right (by decide) hr;have h3:(2:Nat)^64<32^13:=by decide
 exact Nat.div_eq_of_lt (by lia)
def fl(m x:Nat):Nat:=(x*5+1)%(m+1)
def it(m:Nat):Nat->Nat->Nat
 |0,x=>x
 |n+1,x=>fl m (it m n x)
theorem px(m:Nat)(a:Nat):∀b x,it m (b+a) x=it m b (it m a x)
 |0,x=>by rw[Nat.zero_add];rfl
 |b+1,x=>by
  rw[show b+1+a=(b+a)+1 by lia];show fl m (it m (b+a) x)=fl m (it m b (it m a x));rw[px m a b x]
theorem xZ(m:Nat)(h:Int):∀n,(rn m h (13+n)).1=it m n (rn m h 13).1
 |0=>rfl
 |n+1=>by
  show ((rn m h (13+n)).1*5+1+(rn m h (13+n)).2 / 32)%(m+1)=fl m (it m n (rn m h 13).1);rw[Ec m h (13+n) (by lia),xZ m h n];rfl
theorem xY(m:Nat)(h:Int):∀r,(rn m h r).1<m+1
 |0=>je _ (lb _)
 |r+1=>je _ (lb _)
def Ah(m:Nat):Nat->Nat->List Nat
 |0,_=>[]
 |n+1,x=>x::Ah m n (fl m x)
theorem rM(m:Nat):∀(n x y:Nat),y∈Ah m n x->∃k,k<n/\y=it m k x
 |0,_,_,h=>by cases h
 |n+1,x,y,h=>by
  rcases aa.mp h with e|e
  ·exact⟨0,by lia,e⟩
  ·obtain⟨k,hk,e⟩:=rM m n (fl m x) y e;refine⟨k+1,by lia,?_⟩;rw[px m 1 k x];exact e
theorem Lz:((aq 8).all fun x=>(Ah 7 8 0).contains x)=true:=by decide +kernel
theorem JI:((aq 32).all fun x=>(Ah 31 32 0).contains x)=true:=by decide +kernel
theorem GF:((aq 128).all fun x=>(Ah 127 128 0).contains x)=true:=by decide +kernel
theorem KO:it 7 8 0=0:=by decide +kernel
theorem Iz:it 31 32 0=0:=by decide +kernel
theorem Fk:it 127 128 0=0:=by decide +kernel
theorem C7{m:Nat}(hm:gZ m){x:Nat}(hx:x<m+1):∃k,k<m+1/\x=it m k 0:=by
 rcases hm with rfl|rfl|rfl
 ·have:=cP.mp Lz x (bJ.mpr hx);exact rM 7 8 0 x (by simpa using this)
 ·have:=cP.mp JI x (bJ.mpr hx);exact rM 31 32 0 x (by simpa using this)
 ·have:=cP.mp GF x (bJ.mpr hx);exact rM 127 128 0 x (by simpa using this)
theorem back{m:Nat}(hm:gZ m):it m (m+1) 0=0:=by
 rcases hm with rfl|rfl|rfl
 ·exact KO
 ·exact Iz
 ·exact Fk
theorem Af{m:Nat}(hm:gZ m){x y:Nat}(hx:x<m+1)(hy:y<m+1):∃n,n≤m/\it m n x=y:=by
 obtain⟨a,ha,ea⟩:=C7 hm hx;obtain⟨b,hb,eb⟩:=C7 hm hy;by_cases hab:a≤b
 ·refine⟨b-a,by lia,?_⟩;rw[ea,←px,eb];congr 1;lia
 ·refine⟨m+1-a+b,by lia,?_⟩;rw[ea,←px,eb,show m+1-a+b+a=b+(m+1) by lia,px,back hm]
theorem comes{m:Nat}(hm:gZ m)(h:Int){e:Nat}(he:e≤m):∃k,k≤10*m+130/\(sq m h k).j=e:=by
 obtain⟨n,hn,en⟩:=Af hm (xY m h 13) (show e<m+1 by lia);obtain⟨k,hk,ek⟩:=rG m h (13+n);refine⟨k,by lia,?_⟩;rw[ek];show (rn m h (13+n)).1=e;rw[xZ,en]
theorem qW{xs:Array Nat}{j:Nat}(hr:xs.toList.Pairwise (· < ·)):∀(fuel lo hi:Nat),hi-lo≤fuel->lo≤hi->hi≤xs.size->(∀i x,i<lo->xs[i]?=some x->x<j)->(∀i x,hi≤i->xs[i]?=some x->j≤x) ->
  below.go xs j fuel lo hi≤xs.size/\(∀i x,i<below.go xs j fuel lo hi->xs[i]?=some x->x<j)/\(∀i x,below.go xs j fuel lo hi≤i->xs[i]?=some x->j≤x)
 |0,lo,hi,hf,hl,hs,h1,h2=>by
  have e:lo=hi:=by lia
  subst e;exact⟨hs,h1,h2⟩
 |fuel+1,lo,hi,hf,hl,hs,h1,h2=>by
  unfold below.go;by_cases hlt:lo<hi
  ·rw[if_pos hlt];dsimp only;have hmid:(lo+hi) / 2<xs.size:=by lia
   have hg:xs.getD ((lo+hi) / 2) j=xs[(lo+hi) / 2]:=by simp[jm,hmid]
   rw[hg];have pw:∀a b x y,a<b->xs[a]?=some x->xs[b]?=some y->x<y:=fun a b x y hab ea eb=>by
    have ha':a<xs.toList.length:=by
     have:=(aR.mp ea).1;simpa using this
    have hb':b<xs.toList.length:=by
     have:=(aR.mp eb).1;simpa using this
    have:=ei.mp hr a b ha' hb' hab;obtain⟨_,e1⟩:=aR.mp ea;obtain⟨_,e2⟩:=aR.mp eb;simpa [e1,e2] using this
   have em:xs[(lo+hi) / 2]?=some xs[(lo+hi) / 2]:=by simp[hmid]
   by_cases hc:xs[(lo+hi) / 2]<j
   ·rw[if_pos hc];refine qW hr fuel _ hi (by lia) (by lia) hs (fun i x hi' e=>?_) h2;by_cases hi2:i=(lo+hi) / 2
    ·subst hi2;rw[em] at e;cases e;exact hc
    ·exact lg (pw i _ x _ (by lia) e em) hc
   ·rw[if_neg hc];refine qW hr fuel lo _ (by lia) (by lia) (by lia) h1 (fun i x hi' e=>?_);by_cases hi2:i=(lo+hi) / 2
    ·subst hi2;rw[em] at e;cases e;lia
    ·have:=pw _ i _ x (by lia) em e;lia
  ·rw[if_neg hlt];have e:lo=hi:=by lia
   subst e;exact⟨hs,h1,h2⟩
theorem nL{xs:Array Nat}{j:Nat}(hr:xs.toList.Pairwise (· < ·)):below xs j≤xs.size/\(∀i x,i<below xs j->xs[i]?=some x->x<j)/\(∀i x,below xs j≤i->xs[i]?=some x->j≤x):=
 qW hr xs.size 0 xs.size (by lia) (by lia) (by lia) (fun i _ h=>by lia) fun i x h e=>by
  have:=(aR.mp e).1;lia
theorem below_at{xs:Array Nat}{j i:Nat}(hr:xs.toList.Pairwise (· < ·))(e:xs[i]?=some j):below xs j=i:=by
 obtain⟨h0,h1,h2⟩:=nL (j:=j) hr;have hi:=(aR.mp e).1;by_cases hlt:i<below xs j
 ·exact absurd (h1 i j hlt e) (bS _)
 ·by_cases hgt:below xs j<i
  ·have hb:below xs j<xs.size:=by lia
   have eb:xs[below xs j]?=some xs[below xs j]:=by simp[hb]
   have q1:=h2 _ _ (Γ _) eb;have pw:=ei.mp hr (below xs j) i (by simpa using hb) (by simpa using hi) hgt;obtain⟨_,e1⟩:=aR.mp e;simp[e1] at pw;lia
  ·lia
end kR
namespace kR
open PySem PySem.SetTable
structure Tab(t:aS)(hs:List Int):Prop where
 mask:gZ t.mask
 size:t.place.size=hs.length
 rise:t.place.toList.Pairwise (· < ·)
 bound:∀j∈t.place.toList,j≤t.mask
 kq:t.dummies = #[]
 room:hs.length*5<t.mask*3
 reach:∀j h,(j,h)∈t.place.toList.zip hs->∃k,(sq t.mask h k).j=j/\∀k',k' < k->(sq t.mask h k').j∈t.place.toList
theorem tF{t:aS}{j i:Nat}(hr:t.place.toList.Pairwise (· < ·))(e:t.place[i]?=some j):t.slot j=.live i:=by
 unfold slot;dsimp only;rw[below_at hr e,e];simp
theorem xW{t:aS}{j:Nat}(hd:t.dummies = #[])(e:j∉t.place.toList):t.slot j=.empty:=by
 unfold slot;dsimp only;have h1:¬(t.place[below t.place j]?==some j)=true:=by
  intro h;have h':t.place[below t.place j]?=some j:=by simpa using h
  exact e (by
   rw[←ak] at h';exact bu h')
 rw[if_neg h1];have h2:has t.dummies j=false:=by
  rw[hd];rfl
 rw[h2];rfl
theorem td:∀(n:Nat) (L:List Nat),(∀e,e<n->e∈L)->n≤L.length
 |0,_,_=>aQ _
 |n+1,L,h=>by
  have h1:=h n (iG n);have h2:=td n (L.erase n) fun e he=>(List.mem_erase_of_ne (by lia)).mpr (h e (by lia));have h3:=List.length_erase_of_mem h1;have h4:=List.length_pos_of_mem h1;lia
theorem wA{t:aS}{hs:List Int}(T:Tab t hs)(h:Int):∃ke,ke≤10*t.mask+130/\(sq t.mask h ke).j∉t.place.toList/\∀k,k<ke->(sq t.mask h k).j∈t.place.toList:=by
 -- some slot is empty
 have hex:∃e,e≤t.mask/\e∉t.place.toList:=by
  refine ay fun hn=>?_;have hall:∀e,e≤t.mask->e∈t.place.toList:=fun e he=>ay fun q=>hn ⟨e,he,q⟩;have hl:=td (t.mask+1) t.place.toList fun e he=>hall e (by lia);have e1:t.place.toList.length=t.place.size:=by simp
  have:=T.size;have:=T.room;lia
 obtain⟨e,he,ne⟩:=hex;obtain⟨k,hk,ek⟩:=comes T.mask h he;have hP:∃k,(sq t.mask h k).j∉t.place.toList:=⟨k,by rw[ek];exact ne⟩
 -- the least one
 have least:∀n,(∃k,k≤n/\(sq t.mask h k).j∉t.place.toList)->∃ke,ke≤n/\(sq t.mask h ke).j∉t.place.toList/\∀k,k<ke->(sq t.mask h k).j∈t.place.toList:=by
  intro n
  induction n with
  |zero=>
   rintro⟨k,hk,q⟩;have:k=0:=by lia
   subst this;exact⟨0,Γ _,q,fun k hk=>by lia⟩
  |succ n ih=>
   rintro⟨k,hk,q⟩;by_cases hp:∃k,k≤n/\(sq t.mask h k).j∉t.place.toList
   ·obtain⟨ke,h1,h2,h3⟩:=ih hp;exact⟨ke,by lia,h2,h3⟩
   ·have hk':k=n+1:=by
     refine ay fun z=>hp ⟨k,by lia,q⟩
    subst hk';exact⟨n+1,Γ _,q,fun k' hk'=>ay fun z=>hp ⟨k',by lia,z⟩⟩
 obtain⟨ke,h1,h2,h3⟩:=least k ⟨k,Γ _,by rw[ek];exact ne⟩;exact⟨ke,by lia,h2,h3⟩
inductive Meets(t:aS)(hashAt:Nat->Int)(h:Int)(n ke:Nat):Met->Prop where
 |yX {k i:Nat} (h1:n≤k) (h2:k<ke) (h3:t.place[i]?=some (sq t.mask h k).j) (h4:hashAt i=h) (h5:∀k' i',n≤k'->k' < k->t.place[i']?=some (sq t.mask h k').j->hashAt i'≠h):
   Meets t hashAt h n ke (.candidate (sq t.mask h k).j i (sq t.mask h (k+1)))
 |free (h1:n≤ke) (h5:∀k' i',n≤k'->k' < ke->t.place[i']?=some (sq t.mask h k').j->hashAt i'≠h):Meets t hashAt h n ke (.empty (sq t.mask h ke).j none)
theorem vG{t:aS}{hashAt:Nat->Int}{h:Int}{ke:Nat}(hr:t.place.toList.Pairwise (· < ·))(hd:t.dummies = #[])(he:(sq t.mask h ke).j∉t.place.toList)(hl:∀k,k<ke->(sq t.mask h k).j∈t.place.toList):
  ∀(fuel n:Nat),n≤ke->ke-n<fuel->∃met,probe.go t hashAt h fuel (sq t.mask h n)=some met/\Meets t hashAt h n ke met
 |0,n,_,hf=>by lia
 |fuel+1,n,hn,hf=>by
  unfold probe.go;by_cases hlast:n=ke
  ·subst hlast;rw[xW hd he,uI];exact⟨_,rfl,.free (Γ _) fun k' i' h1 h2=>by lia⟩
  ·have hmem:=hl n (by lia);obtain⟨i,hi⟩:=eo hmem;have hi':t.place[i]?=some (sq t.mask h n).j:=by rw[←ak];exact hi
   rw[tF hr hi'];dsimp only;by_cases hh:hashAt i=h
   ·rw[if_pos (by simpa using hh)];exact⟨_,rfl,.yX (Γ _) (by lia) hi' hh fun k' i' h1 h2=>by lia⟩
   ·rw[if_neg (by simpa using hh)];obtain⟨met,e,m⟩:=vG (hashAt:=hashAt) hr hd he hl fuel (n+1) (by lia) (by lia);refine⟨met,e,?_⟩;have one:∀i',t.place[i']?=some (sq t.mask h n).j->hashAt i'≠h:=fun i' e'=>by
     have e1:=below_at hr hi';have e2:=below_at hr e';have:i'=i:=by lia
     rw[this];exact hh
    cases m with
    |yX h1 h2 h3 h4 h5=>
     refine .yX (by lia) h2 h3 h4 fun k' i' q1 q2 q3=>?_;by_cases hk:k'=n
     ·subst hk;exact one i' q3
     ·exact h5 k' i' (by lia) q2 q3
    |free h1 h5=>
     refine .free (by lia) fun k' i' q1 q2 q3=>?_;by_cases hk:k'=n
     ·subst hk;exact one i' q3
     ·exact h5 k' i' (by lia) q2 q3
theorem wq{t:aS}{hs:List Int}(T:Tab t hs){hashAt:Nat->Int}{h:Int}{ke n:Nat}(hk:ke≤10*t.mask+130)(he:(sq t.mask h ke).j∉t.place.toList)(hl:∀k,k<ke->(sq t.mask h k).j∈t.place.toList)(hn:n≤ke):
  ∃met,t.probe hashAt h (sq t.mask h n)=some met/\Meets t hashAt h n ke met:=by
 unfold probe;exact vG T.rise T.kq he hl _ n hn (by unfold turns;lia)
theorem cZ{α:Type}(xs:Array α)(p:Nat)(x:α):(insertAt xs p x).toList=xs.toList.take p++x::xs.toList.drop p:=by
 unfold insertAt;have e:(xs.extract p xs.size).toList=xs.toList.drop p:=by
  rw[nS];simp[List.extract];exact fv (by simp)
 simp[nS,List.extract];exact fv (by simp)
theorem ra{α β:Type}:∀(p:Nat) (xs:List α) (ys:List β) (x:α) (y:β),xs.length=ys.length->((xs.take p++x::xs.drop p).zip (ys.take p++y::ys.drop p)).Perm ((x,y)::xs.zip ys)
 |0,xs,ys,x,y,_=>by simp
 |p+1,[],ys,x,y,h=>by
  have:ys=[]:=lC.mp (by simpa using h.symm);subst this;simp
 |p+1,a::xs,[],x,y,h=>by simp at h
 |p+1,a::xs,b::ys,x,y,h=>by
  have ih:=ra p xs ys x y (by simpa using h);simp only[List.take_succ_cons,List.drop_succ_cons,List.cons_append,gM];exact (List.Perm.cons (a,b) ih).trans (List.Perm.swap _ _ _)
theorem gm{α:Type}(p:Nat)(xs:List α)(x:α):(xs.take p++x::xs.drop p).Perm (x::xs):=by
 have:=List.perm_middle (a:=x) (l₁:=xs.take p) (l₂:=xs.drop p);rw[mV] at this;exact this
theorem Gj{t:aS}{j:Nat}(hd:t.dummies = #[]):t.put j=({ t with place:=insertAt t.place (below t.place j) j,dummies:=#[]},below t.place j):=by
 unfold put;dsimp only;have h2:has t.dummies j=false:=by
  rw[hd];rfl
 rw[h2];simp[hd]
structure pJ(t:aS)(hs:List Int):Prop where
 mask:gZ t.mask
 size:t.place.size=hs.length
 rise:t.place.toList.Pairwise (· < ·)
 bound:∀j∈t.place.toList,j≤t.mask
 kq:t.dummies = #[]
 Ic:hs.length≤t.mask
 reach:∀j h,(j,h)∈t.place.toList.zip hs->∃k,(sq t.mask h k).j=j/\∀k',k' < k->(sq t.mask h k').j∈t.place.toList
theorem CP{m:Nat}(hm:gZ m)(h:Int):∀k,(sq m h k).j≤m/\(sq m h k).j+(sq m h k).more≤m:=by
 have hrun:∀i,i≤m->runEnd m i≤m:=fun i hi=>by
  unfold runEnd;split<;>lia
 have hrs:∀q:Nat×Nat,q.1≤m->(rs m q).j≤m/\(rs m q).j+(rs m q).more≤m:=fun q hq=>by
  have:=hrun q.1 hq;have h2:q.1≤runEnd m q.1:=by unfold runEnd;split<;>lia
  show q.1≤m/\q.1+(runEnd m q.1-q.1)≤m;lia
 intro k
 induction k with
 |zero=>exact hrs _ (by show bits h%(m+1)≤m;have:bits h%(m+1)<m+1:=je (bits h) (lb m);lia)
 |succ k ih=>
  show (pI m (sq m h k)).j≤m/\(pI m (sq m h k)).j+(pI m (sq m h k)).more≤m;unfold pI;by_cases hc:(sq m h k).more > 0
  ·rw[if_pos hc];show (sq m h k).j+1≤m/\(sq m h k).j+1+((sq m h k).more-1)≤m;lia
  ·rw[if_neg hc];have hlt:(leap m (sq m h k).i (sq m h k).perturb).1≤m:=by
    show ((sq m h k).i*5+1+(sq m h k).perturb / 32)%(m+1)≤m;have:((sq m h k).i*5+1+(sq m h k).perturb / 32)%(m+1)<m+1:=je _ (lb m);lia
   exact hrs (leap m (sq m h k).i (sq m h k).perturb) hlt
theorem Tab.put{t:aS}{hs:List Int}(T:Tab t hs){h:Int}{ke:Nat}(he:(sq t.mask h ke).j∉t.place.toList)(hl:∀k,k<ke->(sq t.mask h k).j∈t.place.toList):
  pJ { t with place:=insertAt t.place (below t.place (sq t.mask h ke).j) (sq t.mask h ke).j,dummies:=#[]} (hs.take (below t.place (sq t.mask h ke).j)++h::hs.drop (below t.place (sq t.mask h ke).j)):=by
 obtain⟨b0,b1,b2⟩:=nL (j:=(sq t.mask h ke).j) T.rise;have hlen:t.place.toList.length=hs.length:=by simpa using T.size
 have hmem:∀x,x∈(insertAt t.place (below t.place (sq t.mask h ke).j) (sq t.mask h ke).j).toList↔x=(sq t.mask h ke).j∨x∈t.place.toList:=fun x=>by
  rw[cZ,(gm _ t.place.toList _).mem_iff,aa]
 refine⟨T.mask,?_,?_,fun j hj=>?_,rfl,?_,fun j h' hj=>?_⟩
 ·show (insertAt t.place (below t.place (sq t.mask h ke).j) (sq t.mask h ke).j).size=_;have e1:(insertAt t.place (below t.place (sq t.mask h ke).j) (sq t.mask h ke).j).size=(insertAt t.place (below t.place (sq t.mask h ke).j) (sq t.mask h ke).j).toList.length:=by simp
  rw[e1,cZ,(gm _ t.place.toList _).length_eq,(gm _ hs _).length_eq];simp only[aj];lia
 ·show (insertAt t.place (below t.place (sq t.mask h ke).j) (sq t.mask h ke).j).toList.Pairwise (· < ·);rw[cZ];refine List.pairwise_append.mpr ⟨T.rise.sublist (hU _ _),pO.mpr ⟨fun x hx=>?_,T.rise.sublist (List.drop_sublist _ _)⟩,fun a ha b hb=>?_⟩
  ·obtain⟨i,hi⟩:=eo hx;rw[pQ] at hi;have q:=b2 (below t.place (sq t.mask h ke).j+i) x (by lia) (by rw[←ak];exact hi);have ne:x≠(sq t.mask h ke).j:=fun e=>he (e▸bu hi);lia
  ·obtain⟨i,hi⟩:=eo ha;have hil:i<below t.place (sq t.mask h ke).j:=by
    have:=(aG.mp hi).1;rw[bC] at this;lia
   rw[lq hil] at hi;have qa:=b1 i a hil (by rw[←ak];exact hi);rcases aa.mp hb with e|hb
   ·rw[e];exact qa
   ·obtain⟨i2,hi2⟩:=eo hb;rw[pQ] at hi2;have q:=b2 (below t.place (sq t.mask h ke).j+i2) b (by lia) (by rw[←ak];exact hi2);lia
 ·rcases (hmem j).mp hj with e|e
  ·rw[e];exact (CP T.mask h ke).1
  ·exact T.bound j e
 ·rw[(gm _ hs _).length_eq];have:=T.room;rcases T.mask with e|e|e<;>(simp only[aj];show _≤t.mask;lia)
 ·have hp:(j,h')∈(t.place.toList.take (below t.place (sq t.mask h ke).j)++(sq t.mask h ke).j::t.place.toList.drop (below t.place (sq t.mask h ke).j)).zip
    (hs.take (below t.place (sq t.mask h ke).j)++h::hs.drop (below t.place (sq t.mask h ke).j)):=by
   rw[←cZ];exact hj
  rw[(ra _ _ _ _ _ hlen).mem_iff] at hp;rcases aa.mp hp with e|e
  ·cases e;exact⟨ke,rfl,fun k' hk'=>(hmem _).mpr (.inr (hl k' hk'))⟩
  ·obtain⟨k,e1,e2⟩:=T.reach j h' e;exact⟨k,e1,fun k' hk'=>(hmem _).mpr (.inr (e2 k' hk'))⟩
theorem pJ.tab{t:aS}{hs:List Int}(T:pJ t hs)(h:t.tooFull=false):Tab t hs:=by
 refine⟨T.mask,T.size,T.rise,T.bound,T.kq,?_,T.reach⟩;have h':¬(t.fill*5≥t.mask*3):=by simpa [tooFull] using h
 have e:t.fill=hs.length:=by
  unfold fill;rw[T.size,T.kq];rfl
 rw[e] at h';lia
end kR
namespace kR
open PySem PySem.SetTable
def Taken(ow:Array (Option Nat))(j:Nat):Prop:=∃k,ow[j]?=some (some k)
theorem nz{ow:Array (Option Nat)}{j:Nat}(hj:j<ow.size):(ow.getD j (some 0)).isNone=true↔¬Taken ow j:=by
 have e:ow.getD j (some 0)=ow[j]:=by simp[jm,hj]
 rw[e];unfold Taken;rw[kA hj];cases ow[j] with
 |none=>simp
 |some k=>simp
theorem xl{m:Nat}(hm:gZ m){h:Int}{ow:Array (Option Nat)}(hs:ow.size=m+1):∀(fuel r n:Nat),sq m h n=rs m (rn m h r)->(∀k,k<n->Taken ow (sq m h k).j) ->
  (∃r',r≤r'/\r' < r+fuel/\¬Taken ow (rn m h r').1)->∃ke,layClean.free m ow fuel (rn m h r).1 (rn m h r).2=some (sq m h ke).j/\¬Taken ow (sq m h ke).j/\∀k,k<ke->Taken ow (sq m h k).j
 |0,r,n,_,_,hx=>by
  obtain⟨r',h1,h2,_⟩:=hx;lia
 |fuel+1,r,n,hn,hk,hx=>by
  have hi:=xY m h r;have hre:runEnd m (rn m h r).1≤m:=by unfold runEnd;split<;>lia
  have hre2:(rn m h r).1≤runEnd m (rn m h r).1:=by unfold runEnd;split<;>lia
  have at_d:∀d,d≤runEnd m (rn m h r).1-(rn m h r).1->(sq m h (n+d)).j=(rn m h r).1+d:=fun d hd=>by
   rw[uQ m h n _ hn d hd]
  unfold layClean.free;cases hf:(aq (runEnd m (rn m h r).1+1-(rn m h r).1)).find? (fun k=>(ow.getD ((rn m h r).1+k) (some 0)).isNone) with
  |some k=>
   obtain⟨p1,p2,p3⟩:=List.find?_range_eq_some.mp hf;have hkr:=bJ.mp p2;refine⟨n+k,?_,?_,fun k' hk'=>?_⟩
   ·rw[at_d k (by lia)]
   ·rw[at_d k (by lia)];exact (nz (by lia)).mp p1
   ·by_cases hlt:k' < n
    ·exact hk k' hlt
    ·obtain⟨d,rfl⟩:∃d,k'=n+d:=⟨k' - n,by lia⟩;rw[at_d d (by lia)];have q:=p3 d (by lia);refine ay fun z=>?_;rw[(nz (by lia)).mpr z] at q;cases q
  |none=>
   have hnone:=List.find?_eq_none.mp hf;have occ:∀d,d≤runEnd m (rn m h r).1-(rn m h r).1->Taken ow ((rn m h r).1+d):=fun d hd=>
    ay fun z=>hnone d (bJ.mpr (by lia)) ((nz (by lia)).mpr z)
   refine xl hm hs fuel (r+1) (n+(runEnd m (rn m h r).1-(rn m h r).1)+1) (uP m h n _ hn) (fun k hk'=>?_) ?_
   ·by_cases hlt:k<n
    ·exact hk k hlt
    ·obtain⟨d,rfl⟩:∃d,k=n+d:=⟨k-n,by lia⟩;rw[at_d d (by lia)];exact occ d (by lia)
   ·obtain⟨r',h1,h2,h3⟩:=hx;refine⟨r',?_,by lia,h3⟩;have:r'≠r:=fun e=>h3 (by
     rw[e];have:=occ 0 (aQ _);simpa using this)
    lia
structure qD(m:Nat)(ow:Array (Option Nat))(l:List Int):Prop where
 size:ow.size=m+1
 all:∀(k:Nat),k<l.length->∃j:Nat,ow[j]?=some (some k)
 one:∀(j j' k:Nat),ow[j]?=some (some k)->ow[j']?=some (some k)->j=j'
 reach:∀(j k:Nat),ow[j]?=some (some k)->∃h,l[k]?=some h/\∃n,(sq m h n).j=j/\∀n',n' < n->Taken ow (sq m h n').j
theorem qD.nil(m:Nat):qD m (Array.replicate (m+1) none) []:=by
 have hno:∀(j k:Nat),¬(Array.replicate (m+1) (none:Option Nat))[j]?=some (some k):=fun j k e=>by
  rw[Array.getElem?_replicate] at e;split at e<;>simp at e
 exact⟨by simp,fun k hk=>by simp at hk,fun j j' k e=>absurd e (hno j k),fun j k e=>absurd e (hno j k)⟩
theorem qD.room{m:Nat}{ow:Array (Option Nat)}{l:List Int}(O:qD m ow l)(hl:l.length≤m):∃e,e≤m/\¬Taken ow e:=by
 refine ay fun hn=>?_;have hall:∀e,e≤m->Taken ow e:=fun e he=>ay fun q=>hn ⟨e,he,q⟩;obtain⟨g,hg⟩:∃g:Nat->Nat,∀k,k<l.length->ow[g k]?=some (some k):=by
  refine⟨fun k=>if q:k<l.length then (O.all k q).choose else 0,fun k hk=>?_⟩;dsimp only;rw[dif_pos hk];exact (O.all k hk).choose_spec
 have hlen:=td (m+1) ((aq l.length).map g) fun e he=>by
  obtain⟨k,hk⟩:=hall e (by lia);obtain⟨h,e1,_⟩:=O.reach e k hk;have hkl:=(aG.mp e1).1;exact aB.mpr ⟨k,bJ.mpr hkl,O.one _ _ k (hg k hkl) hk⟩
 simp at hlen;lia
theorem qD.add{m:Nat}(hm:gZ m){ow:Array (Option Nat)}{l:List Int}{h:Int}(O:qD m ow l)(hl:l.length≤m):
  ∃j,layClean.free m ow (turns m) (bits h%(m+1)) (bits h)=some j/\qD m (ow.setIfInBounds j (some l.length)) (l++[h]):=by
 obtain⟨e,he,ne⟩:=O.room hl;obtain⟨n0,hn0,en0⟩:=Af hm (xY m h 13) (show e<m+1 by lia);obtain⟨ke,h1,h2,h3⟩:=xl hm (h:=h) O.size (turns m) 0 0 rfl (fun k hk=>by lia) ⟨13+n0,by lia,by unfold turns;lia,by rw[xZ,en0];exact ne⟩;refine⟨(sq m h ke).j,h1,?_⟩;have hj:(sq m h ke).j<ow.size:=by
  have:=(CP hm h ke).1;rw[O.size];lia
 have hget:∀j:Nat,(ow.setIfInBounds (sq m h ke).j (some l.length))[j]?=if (sq m h ke).j=j then some (some l.length) else ow[j]?:=fun j=>by
  rw[Array.getElem?_setIfInBounds];by_cases e:(sq m h ke).j=j
  ·rw[if_pos e,if_pos e,if_pos (by lia)]
  ·rw[if_neg e,if_neg e]
 have tk:∀j,Taken ow j->Taken (ow.setIfInBounds (sq m h ke).j (some l.length)) j:=fun j ⟨k,hk⟩=>by
  unfold Taken;rw[hget];by_cases e:(sq m h ke).j=j
  ·exact⟨_,if_pos e⟩
  ·exact⟨k,by rw[if_neg e];exact hk⟩
 have lt_of:∀j k:Nat,ow[j]?=some (some k)->k<l.length:=fun j k e=>by
  obtain⟨h',e1,_⟩:=O.reach j k e;exact (aG.mp e1).1
 refine⟨by rw[Array.size_setIfInBounds];exact O.size,fun k hk=>?_,fun j j' k q q'=>?_,fun j k q=>?_⟩
 ·rw[az,fR] at hk;by_cases hkl:k<l.length
  ·obtain⟨j,hj'⟩:=O.all k hkl;refine⟨j,?_⟩;rw[hget,if_neg (fun e=>h2 ⟨k,by rw[e];exact hj'⟩)];exact hj'
  ·have:k=l.length:=by lia
   exact⟨(sq m h ke).j,by rw[hget,if_pos rfl,this]⟩
 ·rw[hget] at q q';by_cases e:(sq m h ke).j=j
  ·rw[if_pos e] at q;by_cases e':(sq m h ke).j=j'
   ·lia
   ·rw[if_neg e'] at q';cases q;exact absurd (lt_of _ _ q') (bS _)
  ·rw[if_neg e] at q;by_cases e':(sq m h ke).j=j'
   ·rw[if_pos e'] at q';cases q';exact absurd (lt_of _ _ q) (bS _)
   ·rw[if_neg e'] at q';exact O.one j j' k q q'
 ·rw[hget] at q;by_cases e:(sq m h ke).j=j
  ·rw[if_pos e] at q;cases q;exact⟨h,by simp,ke,e,fun n' hn'=>tk _ (h3 n' hn')⟩
  ·rw[if_neg e] at q;obtain⟨h',e1,n,e2,e3⟩:=O.reach j k q;exact⟨h',by rw[cW (lt_of j k q)];exact e1,n,e2,fun n' hn'=>tk _ (e3 n' hn')⟩
theorem Ax{m:Nat}(hm:gZ m):∀(l' l:List Int) (ow:Array (Option Nat)),qD m ow l->l.length+l'.length≤m+1 ->
  ∃ow',(l'.foldl (fun (acc:Option (Array (Option Nat)×Nat)) h=>do
   let (owner,k) ←acc
   let j ←layClean.free m owner (turns m) (bits h%(m+1)) (bits h)
   pure (owner.setIfInBounds j (some k),k+1)) (some (ow,l.length)))=some (ow',(l++l').length)/\qD m ow' (l++l')
 |[],l,ow,O,_=>⟨ow,by simp,by simpa using O⟩
 |h::l',l,ow,O,hl=>by
  rw[aj] at hl
  obtain⟨j,e,O'⟩:=O.add hm (h:=h) (by lia)
  obtain⟨ow',e2,O2⟩:=Ax hm l' (l++[h]) _ O' (by simp;lia)
  refine⟨ow',?_,by simpa using O2⟩
  rw[List.foldl_cons]
  have hs:(do
   let (owner,k) ←(some (ow,l.length):Option (Array (Option Nat)×Nat))
   let j ←layClean.free m owner (turns m) (bits h%(m+1)) (bits h)
   pure (owner.setIfInBounds j (some k),k+1))=some (ow.setIfInBounds j (some l.length),(l++[h]).length):=by
   show (do
    let j ←layClean.free m ow (turns m) (bits h%(m+1)) (bits h)
    pure (ow.setIfInBounds j (some l.length),l.length+1))=_
   rw[e]
   simp
  rw[hs,e2]
  simp
theorem nj{α:Type}:∀l:List α,((aq l.length).filterMap fun k=>l[k]?)=l
 |[]=>rfl
 |a::l=>by
  rw[aj,ml,ls (b:=a) (by simp),pR];have ih:=nj l;congr 1
theorem zR{α:Type}(xs:Array α):((aq xs.size).filterMap fun k=>xs[k]?)=xs.toList:=by
 have:=nj xs.toList;simpa using this
theorem EV{m finger moves:Nat}{led plain:Bool}(hm:gZ m)(hs:Array Int)(hl:hs.size*5<m*3):
  ∃t order,laid m finger moves led plain hs=some (t,order)/\t.mask=m/\t.led=led/\t.plain=plain/\t.finger=finger/\order.toList.Perm (aq hs.size)/\Tab t (order.toList.filterMap fun k=>hs[k]?):=by
 obtain⟨ow,e,O⟩:=Ax hm hs.toList [] _ (qD.nil m) (by simp;lia);rw[de] at e O;have hlc:layClean m hs=some ow:=by
  unfold layClean;rw[←Array.foldl_toList];have e':=congrArg (sr fun x:Array (Option Nat)×Nat=>x.1) e;exact e'
 have hmem:∀j k,(j,k)∈((aq (m+1)).filterMap fun j=>(ow.getD j none).map (j,·))↔ow[j]?=some (some k):=fun j k=>by
  rw[j4];constructor
  ·rintro⟨a,ha,q⟩;have ha':=bJ.mp ha;cases ho:ow.getD a none with
   |none=>rw[ho] at q;cases q
   |some k'=>
    rw[ho] at q;cases q;have:ow.getD j none=ow[j]'(by rw[O.size];exact ha'):=by simp[jm,O.size,ha']
    rw[this] at ho;rw[kA (by rw[O.size];exact ha'),ho]
  ·intro q;have hj:=(aR.mp q).1;rw[O.size] at hj;refine⟨j,bJ.mpr hj,?_⟩;have:ow.getD j none=some k:=by
    rw[Array.getD_eq_getD_getElem?,q];rfl
   rw[this];rfl
 generalize hL:((aq (m+1)).filterMap fun j=>(ow.getD j none).map (j,·))=L at hmem;have rise:L.Pairwise fun a b=>a.1<b.1:=by
  rw[←hL];refine List.Pairwise.filterMap _ (fun a a' hlt b hb b' hb'=>?_) (mm (n:=m+1));cases ho:ow.getD a none with
  |none=>rw[ho] at hb;cases hb
  |some k=>
   rw[ho] at hb;cases hb;cases ho':ow.getD a' none with
   |none=>rw[ho'] at hb';cases hb'
   |some k'=>
    rw[ho'] at hb';cases hb';exact hlt
 have nd:(L.map (·.2)).Nodup:=by
  refine qw _ (R:=fun a b=>a.2≠b.2) (fun _ _ z=>z) ?_;refine List.Pairwise.imp_of_mem (fun {a b} ha hb hab=>?_) rise;intro q;obtain⟨j,k⟩:=a;obtain⟨j',k'⟩:=b;have ea:=(hmem j k).mp ha;have eb:=(hmem j' k').mp hb;have hab':j<j':=hab;have q':k=k':=q;subst q';have:=O.one j j' k ea eb;lia
 have hperm:(L.map (·.2)).Perm (aq hs.size):=by
  refine (List.perm_ext_iff_of_nodup nd List.nodup_range).mpr fun k=>?_;rw[aB,bJ];constructor
  ·rintro⟨⟨j,k'⟩,hjk,rfl⟩;obtain⟨h,e1,_⟩:=O.reach j k' ((hmem j k').mp hjk);have:=(aG.mp e1).1;simpa using this
  ·intro hk;obtain⟨j,ej⟩:=O.all k (by simpa using hk);exact⟨(j,k),(hmem j k).mpr ej,rfl⟩
 -- the hashes in the slots' order
 have hzip:∀j h,(j,h)∈(L.map (·.1)).zip ((L.map (·.2)).filterMap fun k=>hs[k]?)->∃k,(j,k)∈L/\hs[k]?=some h:=by
  have hall:∀p∈L,∃h,hs[p.2]?=some h:=fun p hp=>by
   obtain⟨h,e1,_⟩:=O.reach p.1 p.2 ((hmem p.1 p.2).mp hp);exact⟨h,by rw[←ak];exact e1⟩
  clear hmem rise nd hperm hL
  induction L with
  |nil=>intro j h q;cases q
  |cons p L ih=>
   intro j h q;obtain⟨h0,e0⟩:=hall p Ψ;rw[cn,cn,ls e0,gM] at q;rcases aa.mp q with q|q
   ·cases q;exact⟨p.2,Ψ,e0⟩
   ·obtain⟨k,q1,q2⟩:=ih (fun p hp=>hall p (Ω _ hp)) j h q;exact⟨k,Ω _ q1,q2⟩
 have hlenL:((L.map (·.2)).filterMap fun k=>hs[k]?).length=L.length:=by
  have h1:=(hperm.filterMap fun k=>hs[k]?).length_eq;rw[zR] at h1;have h3:=hperm.length_eq;rw[ξ,hV] at h3;rw[h1,h3];simp
 refine⟨_,_,by unfold laid;rw[hlc];rfl,rfl,rfl,rfl,rfl,?_,?_⟩
 ·rw[hL];exact hperm
 ·rw[hL];have hlen:L.length=hs.size:=by
   have:=hperm.length_eq;simpa using this
  refine⟨hm,?_,?_,fun j hj=>?_,rfl,?_,fun j h hj=>?_⟩
  ·rw[hlenL];simp
  ·exact qw _ (fun _ _ z=>z) rise
  ·obtain⟨⟨j',k⟩,hp,rfl⟩:=aB.mp hj;have:=(aR.mp ((hmem j' k).mp hp)).1;rw[O.size] at this;show j'≤m;lia
  ·rw[hlenL,hlen];exact hl
  ·obtain⟨k,q1,q2⟩:=hzip j h hj;obtain⟨h',e1,n,e2,e3⟩:=O.reach j k ((hmem j k).mp q1);have eh:h'=h:=by
    rw[ak,q2] at e1;exact (ai e1).symm
   subst eh;refine⟨n,e2,fun n' hn'=>?_⟩;obtain⟨k',hk'⟩:=e3 n' hn';exact aB.mpr ⟨(_,k'),(hmem _ k').mpr hk',rfl⟩
end kR
namespace gF
open PySem kR
section
variable {prog:ah} {w:ar} {A:bo} {E:δ->η->Prop} {s:η}
abbrev hk(prog:ah)(w:ar)(ks:List Int):Int:=tupleKeyHash (intKind prog w) ks
abbrev gg(prog:ah)(w:ar)(h:ae)(ks:List Int)(a:ε):Prop:=IsTupleKey (intKind prog w) h ks a
def ent(prog:ah)(w:ar)(p:List Int×ε):Int×δ:=(hk prog w p.1,.ref p.2)
structure jN(prog:ah)(w:ar)(h:ae)(a:ε)(o:aJ)(es:Array (Int×δ))(ep:Nat)(t:aS)(xs:List (List Int×ε)):Prop where
 at_:h.get? a=some o
 ex:o.ExactSet
 dat:o.data=.set es ep t
 ents:es.toList=xs.map (ent prog w)
 keys:∀p∈xs,gg prog w h p.1 p.2
 nd:(xs.map (·.1)).Nodup
 plain:t.plain=true
 led:t.led = !(w.params.followText "set-order")
structure i6(w:ar)(h:ae)(a:ε)(o:aJ)(es:Array (Int×δ))(ep:Nat)(t:aS):Prop where
 at_:h.get? a=some o
 ex:o.ExactSet
 dat:o.data=.set es ep t
 plain:t.plain=true
 led:t.led = !(w.params.followText "set-order")
theorem jN.wk{prog:ah}{w:ar}{h:ae}{a:ε}{o:aJ}{es:Array (Int×δ)}{ep:Nat}{t:aS}{xs:List (List Int×ε)}(S:jN prog w h a o es ep t xs):i6 w h a o es ep t:=⟨S.at_,S.ex,S.dat,S.plain,S.led⟩
theorem pA{es:Array (Int×δ)}:(es.toList.map (·.1)).length=es.size:=by simp
theorem ix{es:Array (Int×δ)}{t:aS}(T:pJ t (es.toList.map (·.1))):t.fits es.size=true:=by
 unfold aS.fits;have h1:=T.size;rw[pA] at h1;have h2:=T.Ic;rw[pA] at h2;have h3:t.fill=es.size:=by
  unfold aS.fill;rw[h1,T.kq];rfl
 rw[h3,h1];simp;exact h2
theorem Tab.r{t:aS}{hs:List Int}(T:Tab t hs):pJ t hs:=by
 refine⟨T.mask,T.size,T.rise,T.bound,T.kq,?_,T.reach⟩;have:=T.room;lia
theorem E8{t:aS}(h:gZ t.mask):t.gaveWay=false:=by
 unfold aS.gaveWay;rcases h with e|e|e<;>rw[e]<;>rfl
theorem AO(n:Nat){v:δ}(h:carriedByValue v=true):ofAClassStatement n v=pure false:=by
 cases v with
 |ref a=>simp[carriedByValue] at h
 |_=>first|rfl|(cases n<;>rfl)
theorem uu{ks:List Int}{a:ε}{Q:Bool->η->Prop}(hx:gg prog w s.heap ks a)(h:Q false s):ρ (model prog w) A (ofAClassStatement 8 (.ref a)) Q E s:=by
 have hT:=hx.typeIs;obtain⟨o,items,n,ho,hc,hd,hi⟩:=hx;unfold ofAClassStatement;refine γ (gI hT ?_);dsimp only;rw[if_pos (by decide)];refine γ (μ ?_);rw[if_neg (by decide)];refine γ (cC ho hd ?_);dsimp only;refine γ ?_;rw[←pS];refine iF _ (fun rest r s'=>r.1=none/\s'=s/\∀v∈rest,carriedByValue v=true) _ ?_ ?_ _ _ ⟨rfl,rfl,hi.byValue⟩
 ·rintro v rest r s' ⟨hr,rfl,hall⟩;rw[AO _ (hall v Ψ)];refine γ (μ ?_);rw[if_neg af];exact μ ⟨rfl,rfl,fun u hu'=>hall u (Ω _ hu')⟩
 ·rintro⟨r1,r2⟩ s' ⟨hr,rfl,_⟩;simp only at hr;subst hr;exact μ h
theorem DG{ks:List Int}{a:ε}{Q:Bool->η->Prop}(hx:gg prog w s.heap ks a)(l:List δ)(hl:∀v∈l,∃k y,v=.ref y/\gg prog w s.heap k y)(h:Q false s):
  ρ (model prog w) A (searchCouldBeSeen (.ref a) l) Q E s:=by
 unfold searchCouldBeSeen;refine γ ?_;refine iF _ (fun rest r s'=>r.1=none/\s'=s/\∀v∈rest,∃k y,v=.ref y/\gg prog w s.heap k y) _ ?_ ?_ _ _ ⟨rfl,rfl,hl⟩
 ·rintro v rest r s' ⟨hr,rfl,hall⟩;obtain⟨k,y,rfl,hy⟩:=hall v Ψ;have hrest:∀v∈rest,∃k y,v=bh y/\gg prog w s'.heap k y:=fun v hv=>hall v (Ω _ hv);dsimp only;by_cases hc:((a==y)||(carriedByValue (.ref a)&&carriedByValue (.ref y)))=true
  ·rw[if_pos hc];exact μ ⟨rfl,rfl,hrest⟩
  ·rw[if_neg hc];refine γ (wpAny_eqIsQuiet_tuple hx ?_);rw[if_neg (by decide)];refine γ (wpAny_eqIsQuiet_tuple hy ?_);rw[if_neg (by decide)];refine γ (uu hx ?_);rw[if_neg af];refine γ (uu hy ?_);rw[if_neg af];exact μ ⟨rfl,rfl,hrest⟩
 ·rintro⟨r1,r2⟩ s' ⟨hr,rfl,_⟩;simp only at hr;subst hr;exact μ h
theorem xD{ks:List Int}{a:ε}{Q:Bool->η->Prop}(hx:gg prog w s.heap ks a)(h:Q true s):ρ (model prog w) A (hashByValue 8 (.ref a)) Q E s:=by
 have hT:=hx.typeIs;obtain⟨o,items,n,ho,hc,hd,hi⟩:=hx;unfold hashByValue;refine γ (wpAny_specialOf hT F.slot_tuple_hash.lookup ?_);dsimp only;refine γ (cC ho hd ?_);refine γ ?_;show ρ _ _ (forIn items _ _) _ _ s;rw[←pS];refine iF _ (fun rest r s'=>r.1=none/\s'=s/\∃l,ItemsAre (intKind prog w) l rest) _ ?_ ?_ _ _ ⟨rfl,rfl,ks,hi⟩
 ·rintro v rest r s' ⟨hr,rfl,l,hl⟩;cases hl with
  |@cons k v' _ _ h1 h2=>
   obtain⟨tk,rfl⟩:=fC (k:=k) h1;have e:hashByValue 7 (.int k tk)=pure true:=by rfl
   rw[e];refine γ (μ ?_);rw[if_neg (by decide)];exact μ ⟨rfl,rfl,_,h2⟩
 ·rintro⟨r1,r2⟩ s' ⟨hr,rfl,_⟩;simp only at hr;subst hr;exact μ h
theorem Kt{es:Array (Int×δ)}{xs:List (List Int×ε)}(he:es.toList=xs.map (ent prog w)){i:Nat}(hi:i<es.size):∃p,xs[i]?=some p/\es[i]?=some (ent prog w p):=by
 have hl:xs.length=es.size:=by
  have:=congrArg gn he;simpa using this.symm
 obtain⟨p,hp⟩:∃p,xs[i]?=some p:=⟨xs[i]'(by lia),bz (by lia)⟩;refine⟨p,hp,?_⟩;rw[←ak,he,av,hp];rfl
theorem tm{a:ε}{o:aJ}{es:Array (Int×δ)}{ep:Nat}{t:aS}{xs:List (List Int×ε)}(S:jN prog w s.heap a o es ep t xs)(T:Tab t (es.toList.map (·.1)))(hu:A.units<cLine)
  {ks:List Int} {x:ε} (hx:gg prog w s.heap ks x) {ke:Nat} (hke:ke≤10*t.mask+130) (hemp:(sq t.mask (hk prog w ks) ke).j∉t.place.toList) (hliv:∀k,k<ke->(sq t.mask (hk prog w ks) k).j∈t.place.toList)
  {Q:SetFound->η->Prop} (hin:ks∈xs.map (·.1)->Q (.there none) s) (hout:ks∉xs.map (·.1)->Q (.free (sq t.mask (hk prog w ks) ke).j false) s):
  ∀(fuel n:Nat) (stand:Option aS.Probe),stand.getD (t.probeStart (hk prog w ks))=sq t.mask (hk prog w ks) n->n≤ke->ke-n<fuel ->
   (∀(k' i':Nat) p,k' < n->t.place[i']?=some (sq t.mask (hk prog w ks) k').j->xs[i']?=some p->p.1≠ks) ->
   ρ (model prog w) A (setSearchFrom a (.ref x) (hk prog w ks) true fuel stand) Q E s
 |0,n,stand,_,_,hf,_=>by lia
 |fuel+1,n,stand,hst,hn,hf,hprev=>by
  have jo:t.place.size=es.size:=by
   have:=T.size
   rw[pA] at this
   exact this
  have hfit:=ix (Tab.r T)
  have hal:∀(i:Nat) (p:List Int×ε),xs[i]?=some p->((es[i]?).map fun z:Int×δ=>z.1).getD 0=hk prog w p.1:=fun i p hp=>by
   rw[←ak,S.ents,av,hp]
   rfl
  unfold setSearchFrom
  refine γ (b9 S.at_ S.dat hfit ?_)
  dsimp only
  rw[E8 T.mask,if_neg af,hst]
  obtain⟨met,e,m⟩:=wq T (hashAt:=fun i=>((es[i]?).map fun z:Int×δ=>z.1).getD 0) hke hemp hliv hn
  erw [e]
  dsimp only
  cases m with
  |free h1 h5=>
   dsimp only
   refine μ (hout fun hmem=>?_)
   obtain⟨p,hp,rfl⟩:=aB.mp hmem
   obtain⟨i,hi⟩:=eo hp
   have hil:i<es.size:=by
    have h1:=(aG.mp hi).1
    have h2:=congrArg gn S.ents
    simp at h2
    lia
   have hj:∃j,t.place[i]?=some j:=⟨t.place[i]'(by lia),by simp⟩
   obtain⟨j,hj⟩:=hj
   have hz:(j,hk prog w p.1)∈t.place.toList.zip (es.toList.map (·.1)):=by
    refine bu (i:=i) ?_
    rw[List.getElem?_zip_eq_some]
    refine⟨by rw[ak];exact hj,?_⟩
    rw[S.ents,dg,av,hi]
    rfl
   obtain⟨k,hk1,hk2⟩:=T.reach _ _ hz
   have hkke:k<ke:=by
    refine ay fun z=>hemp ?_
    by_cases q:k=ke
    ·rw[←q,hk1]
     exact bu (by rw[ak];exact hj)
    ·exact hk2 ke (by lia)
   rw[←hk1] at hj
   by_cases hkn:k<n
   ·exact hprev k i p hkn hj hi rfl
   ·exact h5 k i (by lia) hkke hj (hal i p hi)
  |@yX k i h1 h2 h3 h4 h5=>
   dsimp only
   have hil:i<es.size:=by
    have:=(aR.mp h3).1
    lia
   obtain⟨p,hp,hesi⟩:=Kt S.ents hil
   have hyk:=S.keys p (bu hp)
   have hpk:p∈xs:=bu hp
   have go:ρ (model prog w) A (do
     let some (_,y):=es[i]? | unsupported "internal:set-entry"
     let equal ←holding [y] (eqBool y (.ref x))
     let (es',_,t') ←setState a
     if true&&equal then return .there none
     let some same:=t'.sameMemory t.moves t.mask|unsupported "set.changed-during-lookup:is-the-new-block-at-the-old-address"
     let still ←match (if same then t'.slot (sq t.mask (hk prog w ks) k).j else .empty) with
      |.live i'=>match es'[i']? with
       |some (_,y')=>do pure (if ←isSame y' y then some i' else none)
       |none=>pure none
      |_=>pure none
     match still with
     |none=>rule "set.search.anew";setSearchFrom a (.ref x) (hk prog w ks) true fuel none
     | some i'=>if equal then return .there (some i') else setSearchFrom a (.ref x) (hk prog w ks) true fuel (some (sq t.mask (hk prog w ks) (k+1)))) Q E s:=by
    rw[hesi]
    dsimp only[ent]
    refine γ (cb (wpAny_eqBool_tuple hu hyk hx ?_))
    refine γ (b9 S.at_ S.dat hfit ?_)
    dsimp only
    by_cases heq:p.1=ks
    ·rw[decide_eq_true heq,if_pos (by decide)]
     exact μ (hin (aB.mpr ⟨p,hpk,heq⟩))
    ·rw[decide_eq_false heq,if_neg (by decide)]
     have hsm:t.sameMemory t.moves t.mask=some true:=by unfold aS.sameMemory;simp
     rw[hsm]
     dsimp only
     rw[if_pos rfl,tF T.rise h3]
     dsimp only
     rw[hesi]
     dsimp only[ent]
     refine γ (wpAny_isSame_ref_self ?_)
     rw[if_pos rfl]
     refine γ (μ ?_)
     dsimp only
     rw[if_neg af]
     refine tm S T hu hx hke hemp hliv hin hout fuel (k+1) _ rfl (by lia) (by lia) fun k' i' p' hk' hpl hp'=>?_
     by_cases hkn:k' < n
     ·exact hprev k' i' p' hkn hpl hp'
     ·by_cases hkk:k'=k
      ·subst hkk
       have e1:=below_at T.rise h3
       have e2:=below_at T.rise hpl
       have:i'=i:=by lia
       subst this
       rw[hp] at hp'
       cases hp'
       exact heq
      ·intro he
       exact h5 k' i' (by lia) (by lia) hpl (by rw[hal i' p' hp',he])
   by_cases hled:t.led=true
   ·rw[hled]
    rw[if_neg (by decide)]
    exact go
   ·have hled':t.led=false:=by simpa using hled
    rw[hled']
    rw[if_pos (by decide)]
    refine γ (DG hx _ (fun v hv=>?_) ?_)
    ·obtain⟨e0,he0,rfl⟩:=aB.mp hv
     have he1:e0∈es.toList:=by
      have:=nT.mp he0
      exact nT.mpr (Array.mem_filter.mp this).1
     rw[S.ents] at he1
     obtain⟨p0,hp0,rfl⟩:=aB.mp he1
     exact⟨p0.1,p0.2,rfl,S.keys p0 hp0⟩
    ·rw[if_neg af]
     exact go
end
end gF
namespace gF
open PySem kR
section
variable {prog:ah} {w:ar} {A:bo} {E:δ->η->Prop} {s:η}
def jM(prog:ah)(w:ar)(h:ae)(a:ε)(xs:List (List Int×ε)):Prop:=
 ∃o es ep t,jN prog w h a o es ep t xs/\Tab t (es.toList.map (·.1))
theorem qe{h h':ae}{a y:ε}{ks:List Int}{o:aJ}{es:Array (Int×δ)}{ep:Nat}{t:aS}(ho:h.get? a=some o)(hd:o.data=.set es ep t)(sb:dh a h h')(hy:gg prog w h ks y):gg prog w h' ks y:=by
 obtain⟨oy,items,n,hoy,hc,hdy,hi⟩:=hy;have ne:y≠a:=by
  intro e;subst e;rw[ho] at hoy;cases hoy;rw[hd] at hdy;cases hdy
 exact⟨oy,items,n,(sb.2 y ne).trans hoy,hc,hdy,hi⟩
theorem wW{h:ae}{a:ε}{o:aJ}{es es':Array (Int×δ)}{ep:Nat}{t t':aS}(ho:h.get? a=some o)(hd:o.data=.set es ep t):
  (h.update a (ky es' t')).get? a=some { o with data:=.set es' (ep+1) t' }:=by
 have q:=dP (ky es' t') ho (by rw[putSet_of es' t' hd];rfl);rw[putSet_of es' t' hd] at q;exact q
theorem wm:∀n,n<8->5≤n->j0 (fN n)=32:=by decide +kernel
theorem uK:∀n,n<32->19≤n->j0 (fN n)=128:=by decide +kernel
theorem x8{t:aS}{hs:List Int}(T:pJ t hs)(hf:t.tooFull=true)(h64:hs.length≤64):∃m,j0 (fN hs.length)=m+1/\gZ m/\hs.length*5<m*3/\m+1≤128:=by
 have hfill:t.fill=hs.length:=by
  unfold aS.fill;rw[T.size,T.kq];rfl
 have h':hs.length*5≥t.mask*3:=by
  unfold aS.tooFull at hf;rw[hfill] at hf;simpa using hf
 have hfit:=T.Ic;rcases T.mask with e|e|e
 ·rw[e] at h' hfit;exact⟨31,wm _ (by lia) (by lia),.inr (.inl rfl),by lia,by lia⟩
 ·rw[e] at h' hfit;exact⟨127,uK _ (by lia) (by lia),.inr (.inr rfl),by lia,by lia⟩
 ·rw[e] at h';lia
theorem qt{α β:Type}(f:α->β)(l:List α)(o:List Nat):(o.filterMap fun k=>(l.map f)[k]?)=(o.filterMap fun k=>l[k]?).map f:=by
 rw[pP];congr 1;funext k;rw[av]
theorem A2{a:ε}{o:aJ}{es:Array (Int×δ)}{ep:Nat}{t:aS}{xs:List (List Int×ε)}(S:jN prog w s.heap a o es ep t xs)(T:pJ t (es.toList.map (·.1)))(hf:t.tooFull=true)(h64:es.size≤64)
  {Q:Unit->η->Prop} (h:∀h' xs',dh a s.heap h'->jM prog w h' a xs'->xs'.Perm xs->Q () { s with heap:=h' }):
  ρ (model prog w) A (setRelay a (fN es.size)) Q E s:=by
 have jo:(es.toList.map (·.1)).length=es.size:=pA
 obtain⟨m,hm1,hm2,hm3,hm4⟩:=x8 T hf (by rw[jo];exact h64)
 rw[jo] at hm1 hm3
 unfold setRelay
 refine γ (b9 S.at_ S.dat (ix T) ?_)
 dsimp only
 rw[hm1,if_neg (by rw[cg];lia)]
 obtain⟨t2,order,e2,em,el,ep2,ef,hperm,T2⟩:=EV (finger:=t.finger) (moves:=t.movedTo m) (led:=t.led) (plain:=t.plain) hm2 (es.map (·.1)) (by simpa using hm3)
 have erel:t.relaid (es.map (·.1)) (fN es.size)=some (t2,order):=by
  unfold aS.relaid
  rw[hm1,Nat.add_sub_cancel]
  exact e2
 have hosz:(es.map (·.1)).size=es.size:=by simp
 rw[hosz] at hperm
 have hes2:(order.filterMap (es[·]?)).toList=(order.toList.filterMap fun k=>xs[k]?).map (ent prog w):=by
  rw[mq,←qt,←S.ents]
  congr 1
  funext k
  rw[ak]
 have hxl:xs.length=es.size:=by
  have:=congrArg gn S.ents
  simpa using this.symm
 have hxp:(order.toList.filterMap fun k=>xs[k]?).Perm xs:=by
  have:=hperm.filterMap fun k=>xs[k]?
  rw[←hxl,nj] at this
  exact this
 have hsz2:(order.filterMap (es[·]?)).size=es.size:=by
  have:=congrArg gn hes2
  simp only[ξ] at this
  rw[hxp.length_eq,hxl] at this
  rw[←dz]
  exact this
 refine γ ?_
 show ρ _ _ (do
  let some (t,order):=t.relaid (es.map (·.1)) (fN es.size)|unsupported "internal:set-table-without-room"
  let es':=order.filterMap (es[·]?)
  if es'.size != es.size then unsupported "internal:set-table-lost-an-element"
  pure (es',t)) _ _ _
 rw[erel]
 dsimp only
 rw[hsz2,if_neg (by simp)]
 refine μ ?_
 dsimp only
 refine wpAny_storeSet_of S.at_ S.dat ?_ (by rw[hsz2,cg];lia)
 have sb:=cv s.heap a (ky (order.filterMap (es[·]?)) t2)
 refine h _ _ sb ⟨_,_,_,_,⟨wW S.at_ S.dat,⟨S.ex.1,S.ex.2.1,S.ex.2.2⟩,rfl,hes2,fun p hp=>qe S.at_ S.dat sb (S.keys p (hxp.mem_iff.mp hp)),?_,ep2.trans S.plain,el.trans S.led⟩,?_⟩ hxp
 ·exact (hxp.map _).nodup_iff.mpr S.nd
 ·have eT:(order.filterMap (es[·]?)).toList.map (·.1)=order.toList.filterMap fun k=>(es.map (·.1))[k]?:=by
   rw[mq,pP]
   congr 1
   funext k
   simp
  rw[eT]
  exact T2
theorem Fp{a:ε}{xs:List (List Int×ε)}(S:jM prog w s.heap a xs)(h64:xs.length<64)(hu:A.units<cLine){ks:List Int}{x:ε}(hx:gg prog w s.heap ks x)
  {Q:Bool->η->Prop} (h:∀b h' tk xs',s.toks≤tk->dh a s.heap h'->jM prog w h' a xs'->(ks∈xs.map (·.1)->xs'.Perm xs)->(ks∉xs.map (·.1)->xs'.Perm ((ks,x)::xs))->Q b { s with heap:=h',toks:=tk }):
  ρ (model prog w) A (setAdd a (.ref x)) Q E s:=by
 obtain⟨o,es,ep,t,S,T⟩:=S;have hxl:xs.length=es.size:=by
  have:=congrArg gn S.ents;simpa using this.symm
 unfold setAdd;refine cb (γ (wpAny_pyHash_tuple hu hx ?_));unfold setAddHashed;refine cb ?_;have jB:∀b h' xs',dh a s.heap h'->jM prog w h' a xs'->(ks∈xs.map (·.1)->xs'.Perm xs)->(ks∉xs.map (·.1)->xs'.Perm ((ks,x)::xs))->Q b { s with heap:=h',toks:=s.toks+(ks.length+1)}:=
  fun b h' xs' q1 q2 q3 q4=>h b h' _ xs' (eP _ _) q1 q2 q3 q4
 obtain⟨ke,hke,hemp,hliv⟩:=wA T (hk prog w ks);unfold setAddHashedIn;refine γ (b9 (s:={ s with toks:=s.toks+(ks.length+1)}) S.at_ S.dat (ix (Tab.r T)) ?_);dsimp only;rw[show byScan (.ref x) es=false from rfl,if_neg af];refine γ ?_;unfold setSearch;refine tm (s:={ s with toks:=s.toks+(ks.length+1)}) S T hu hx hke hemp hliv (fun hin=>?_) (fun hout=>?_) 100000 0 none rfl (aQ _) (by rcases T.mask with e|e|e<;>rw[e] at hke<;>lia) fun k' i' p hk'=>absurd hk' (Nat.not_lt_zero _)
 ·dsimp only;exact μ (jB false s.heap xs (.refl _ _) ⟨o,es,ep,t,S,T⟩ (fun _=>.refl _) fun z=>absurd hin z)
 ·dsimp only;refine γ (b9 (s:={ s with toks:=s.toks+(ks.length+1)}) S.at_ S.dat (ix (Tab.r T)) ?_);dsimp only;rw[Gj T.kq];dsimp only;rw[S.plain,if_pos rfl];refine γ (xD (s:={ s with toks:=s.toks+(ks.length+1)}) hx ?_);rw[if_pos rfl];have TR:=T.put hemp hliv;generalize hp:fO t.place (sq t.mask (hk prog w ks) ke).j=p at TR ⊢;have hes1:(aY es p (hk prog w ks,bh x)).toList=(xs.take p++(ks,x)::xs.drop p).map (ent prog w):=by
   rw[cZ,S.ents,bW,cn,oq,ou];rfl
  have hhs:(aY es p (hk prog w ks,bh x)).toList.map (·.1)=(es.toList.map (·.1)).take p++hk prog w ks::(es.toList.map (·.1)).drop p:=by
   rw[cZ,bW,cn,oq,ou]
  have hsz1:(aY es p (hk prog w ks,bh x)).size=es.size+1:=by
   rw[←dz,cZ,(gm p es.toList _).length_eq,aj,dz]
  rw[←hhs] at TR;refine γ (wpAny_storeSet_of (s:={ s with toks:=s.toks+(ks.length+1)}) S.at_ S.dat ?_ (by rw[hsz1,cg];lia));have sb:=cv s.heap a (ky (aY es p (hk prog w ks,bh x)) { t with place:=aY t.place p (sq t.mask (hk prog w ks) ke).j,dummies:=#[],plain:=true });have hpx:(xs.take p++(ks,x)::xs.drop p).Perm ((ks,x)::xs):=gm p xs _;have S1:jN prog w (s.heap.update a (ky (aY es p (hk prog w ks,bh x)) { t with place:=aY t.place p (sq t.mask (hk prog w ks) ke).j,dummies:=#[],plain:=true })) a { o with data:=.set (aY es p (hk prog w ks,bh x)) (ep+1) { t with place:=aY t.place p (sq t.mask (hk prog w ks) ke).j,dummies:=#[],plain:=true }} (aY es p (hk prog w ks,bh x)) (ep+1)
    { t with place:=aY t.place p (sq t.mask (hk prog w ks) ke).j,dummies:=#[],plain:=true } (xs.take p++(ks,x)::xs.drop p):=by
   refine⟨wW S.at_ S.dat,⟨S.ex.1,S.ex.2.1,S.ex.2.2⟩,rfl,hes1,fun q hq=>?_,?_,rfl,S.led⟩
   ·rcases aa.mp (hpx.mem_iff.mp hq) with e|e
    ·rw[e];exact qe S.at_ S.dat sb hx
    ·exact qe S.at_ S.dat sb (S.keys q e)
   ·refine (hpx.map _).nodup_iff.mpr ?_;rw[cn,fk];exact⟨hout,S.nd⟩
  have TR':pJ { t with place:=aY t.place p (sq t.mask (hk prog w ks) ke).j,dummies:=#[],plain:=true } ((aY es p (hk prog w ks,bh x)).toList.map (·.1)):=
   ⟨TR.mask,TR.size,TR.rise,TR.bound,TR.kq,TR.Ic,TR.reach⟩
  by_cases hfull:({ t with place:=aY t.place p (sq t.mask (hk prog w ks) ke).j,dummies:=#[],plain:=true }:aS).tooFull=true
  ·rw[hfull,if_pos (by decide)];refine γ ?_;rw[←hsz1];refine A2 (s:={ s with heap:=s.heap.update a _,toks:=s.toks+(ks.length+1)}) S1 TR' hfull (by rw[hsz1];lia) fun h' xs' sb' S2 pm=>?_;exact μ (jB true h' xs' (sb.trans sb') S2 (fun z=>absurd z hout) fun _=>pm.trans hpx)
  ·have hfull':({ t with place:=aY t.place p (sq t.mask (hk prog w ks) ke).j,dummies:=#[],plain:=true }:aS).tooFull=false:=by simpa using hfull
   rw[hfull',if_neg (by decide)];exact μ (jB true _ _ sb ⟨_,_,_,_,S1,TR'.tab hfull'⟩ (fun z=>absurd z hout) fun _=>hpx)
end
end gF
namespace gF
open PySem kR
theorem eY:Slot "set_iterator" "__next__" "set_iterator.__next__":=
 .of (owner:="set_iterator") (n:="__next__")
  (by rw[typeLookup_type,builtinLookup_eq_fast];kernel_rfl)
  (by decide +kernel) (by decide +kernel) (by decide +kernel)
  (by first|exact .inl (by decide +kernel)|exact .inr (by decide +kernel))
  (by rw[mO];kernel_rfl)
theorem nU:Slot "set_iterator" "__iter__" "set_iterator.__iter__":=
 .of (owner:="set_iterator") (n:="__iter__")
  (by rw[typeLookup_type,builtinLookup_eq_fast];kernel_rfl)
  (by decide +kernel) (by decide +kernel) (by decide +kernel)
  (by first|exact .inl (by decide +kernel)|exact .inr (by decide +kernel))
  (by rw[mO];kernel_rfl)
theorem mH:entryFor table "set_iterator.__next__" = some dC.«set_iterator.__next__»:=entryFor_of_tree (by kernel_rfl)
theorem vJ:entryFor table "set.__iter__" = some dC.«frozenset.__iter__»:=
 entryFor_alias (id':="frozenset.__iter__") (by rw[fastTable_eq_tree];kernel_rfl) (by decide +kernel) (by decide +kernel) (by rw[fastTable_eq_tree];kernel_rfl)
theorem tG:Manifest.owners.lookup (String.ofList ['r','o','t','a','r','e','t','i','_','t','e','s'].reverse)=some Manifest.sig_set_iterator:=by kernel_rfl
theorem nY(a:δ):argsOk "set_iterator.__next__" ⟨[a],[]⟩:=by
 unfold argsOk;rw[signature?_of (id:="set_iterator.__next__") (n:=['_','_','t','x','e','n','_','_']) (o:=['r','o','t','a','r','e','t','i','_','t','e','s']) (by kernel_rfl) tG]
 kernel_rfl
theorem wY{α:Type}(next:Nat->Nat):∀(fuel k:Nat) (left:List α) (out:Array α),left.length≤fuel->(pickOrder.go next fuel k left out).toList.Perm (out.toList++left)
 |0,k,left,out,h=>by
  have:left=[]:=lC.mp (by lia);subst this;show out.toList.Perm (out.toList++[]);rw[dO]
 |fuel+1,k,left,out,h=>by
  unfold pickOrder.go;cases hl:left[next k%left.length]? with
  |none=>
   have:left=[]:=by
    cases left with
    |nil=>rfl
    |cons a l=>
     have:=je (next k) (show 0<(a::l).length by simp)
     rw[bz this] at hl;cases hl
   subst this;show out.toList.Perm (out.toList++[]);rw[dO]
  |some x=>
   have hlt:=(aG.mp hl).1;have ih:=wY next fuel (k+1) (left.eraseIdx (next k%left.length)) (out.push x) (by rw[List.length_eraseIdx];split<;>lia)
   refine ih.trans ?_;rw[Array.toList_push,fG];refine List.Perm.append_left _ ?_;obtain⟨_,e⟩:=aG.mp hl;rw[←e,List.eraseIdx_eq_take_drop_succ];have q:=List.perm_middle (a:=left[next k%left.length]) (l₁:=left.take (next k%left.length)) (l₂:=left.drop (next k%left.length+1))
   rw[List.getElem_cons_drop,mV] at q;exact q.symm
theorem Ac{α:Type}(next:Nat->Nat)(xs:Array α):(pickOrder next xs).toList.Perm xs.toList:=by
 have:=wY next xs.size 0 xs.toList #[] (by simp)
 unfold pickOrder;simpa using this
def hX(w:ar):Bool:=w.params.followText "set-order"
def fW(w:ar)(a:ε)(ep:Nat)(es:Array (Int×δ)):List (Int×δ):=if hX w then (pickOrder (w.params.setOrder a ep) es).toList else es.toList
theorem kn(w:ar)(a:ε)(ep:Nat)(es:Array (Int×δ)):(fW w a ep es).Perm es.toList:=by
 unfold fW;split
 ·exact Ac _ _
 ·exact .refl _
def jO(h:ae)(it a:ε)(slot i n ep:Nat):Prop:=h.get? it=some { cls:=.type "set_iterator",data:=.fields #[rawInt slot,rawInt i,.ref a,rawInt n,rawInt ep]}
def mL(w:ar)(t:aS)(slot i:Nat):Prop:=hX w=true∨fO t.place slot=i
section
variable {prog:ah} {w:ar} {A:bo} {E:δ->η->Prop} {s:η}
theorem oH{Q:Bool->η->Prop}(h:Q (hX w) s):ρ (model prog w) A setsByText Q E s:=by
 unfold setsByText;exact γ (kU (μ h))
theorem xC{a:ε}{o:aJ}{es:Array (Int×δ)}{ep:Nat}{t:aS}(S:i6 w s.heap a o es ep t)(T:Tab t (es.toList.map (·.1)))
  {Q:δ->η->Prop} (h:Q (.ref s.heap.objs.size) { s with heap:=s.heap.push { cls:=.type "set_iterator",data:=.fields #[rawInt (0:Nat),rawInt (0:Nat),.ref a,rawInt es.size,rawInt ep]}}):
  ρ (model prog w) A (pyIter (.ref a)) Q E s:=by
 have hT:s.TypeIs (.ref a) "set":=⟨o,S.at_,S.ex.1⟩;have hfit:=ix (Tab.r T);refine wpAny_pyIter_slot hT F.slot_set_iter (bK F.slot_set_iter hT vJ ?_ (F.args_set_iter_1 _));unfold dC.«frozenset.__iter__»;show ρ _ _ (lE "__iter__" ⟨[.ref a],[]⟩ >>= _) _ _ s;refine γ (m:=lE "__iter__" ⟨[.ref a],[]⟩) (jP (a:=a) rfl ?_);unfold dC.Frozenset.sizeOf setEntries;refine γ (γ (γ (b9 S.at_ S.dat hfit (μ (μ ?_)))));unfold setDrawn;refine γ (γ (b9 S.at_ S.dat hfit ?_));refine γ (oH (μ ?_));have hnd:(!hX w&&(!t.plain&&decide (es.size > 1)))=false:=by rw[S.plain];simp
 show ρ _ _ (if (!hX w&&(!t.plain&&decide (es.size > 1)))=true then _ else _) _ _ s;rw[hnd,if_neg af];refine γ (μ ?_);refine γ (wpAny_setEpoch_of S.at_ S.dat hfit ?_);refine γ ?_;unfold newFields;refine bN ?_;refine μ ⟨_,rfl,"set_iterator",_,⟨_,Ξ _ rfl,rfl⟩,eY.lookup,h⟩
theorem rb{a:ε}{o:aJ}{es:Array (Int×δ)}{ep:Nat}{t:aS}(S:i6 w s.heap a o es ep t)(T:Tab t (es.toList.map (·.1))){slot i:Nat}(hsl:mL w t slot i)
  {Q:Option (δ×Nat)->η->Prop} (h1:∀p slot',(fW w a ep es)[i]?=some p->mL w t slot' (i+1)->Q (some (p.2,slot')) s) (h2:(fW w a ep es)[i]?=none->Q none s):
  ρ (model prog w) A (setNext a slot i ep) Q E s:=by
 have hfit:=ix (Tab.r T);have jo:t.place.size=es.size:=by
  have:=T.size;rw[pA] at this;exact this
 unfold setNext;refine γ (b9 S.at_ S.dat hfit ?_);dsimp only;refine γ (oH ?_);unfold fW at h1 h2;cases hbt:hX w with
 |true=>
  rw[hbt] at h1 h2;rw[if_pos rfl];simp only[if_true,ak] at h1 h2;rw[if_neg (by simp)];unfold setWalk;refine γ (γ (b9 S.at_ S.dat hfit ?_));dsimp only;refine γ (oH ?_);rw[hbt,if_pos rfl];refine γ (kU (μ ?_));refine μ ?_;show Q (sr (fun e=>(e.snd,slot)) (pickOrder (w.params.setOrder a ep) es)[i]?) s;cases hp:(pickOrder (w.params.setOrder a ep) es)[i]? with
  |none=>exact h2 hp
  |some p=>exact h1 p slot hp (.inl hbt)
 |false=>
  rw[hbt] at h1 h2;rw[if_neg af];simp only[gQ,if_false,ak] at h1 h2;have hled:t.led=true:=by
   rw[S.led];show (!hX w)=true;rw[hbt];rfl
  have hb:fO t.place slot=i:=by
   rcases hsl with z|z
   ·rw[hbt] at z;cases z
   ·exact z
  have hnd:(!t.plain&&decide (es.size > 1))=false:=by rw[S.plain];simp
  show ρ _ _ (if (!t.plain&&decide (es.size > 1))=true then _ else _) _ _ s;rw[hnd,if_neg af];refine γ ?_;show ρ _ _ (if (!t.led && !es.isEmpty)=true then _ else _) _ _ s;rw[hled,if_neg (by simp)];refine μ ?_;rw[hb];cases hp:es[i]? with
  |none=>
   refine μ ?_;have hpl:t.place[i]?=none:=by
    have:=gh.mp hp;exact gh.mpr (by lia)
   exact h2 hp
  |some p=>
   have hil:=(aR.mp hp).1;have hj:t.place[i]?=some (t.place[i]'(by lia)):=by simp[jo,hil]
   rw[hj];obtain⟨ph,pv⟩:=p;refine μ (h1 (ph,pv) _ hp (.inr ?_))
   -- the next place
   obtain⟨b0,b1,b2⟩:=nL (j:=t.place[i]'(by lia)+1) T.rise;refine ay fun hne=>?_;by_cases hlt:fO t.place (t.place[i]'(by lia)+1)≤i
   ·have:=b2 i _ hlt hj;lia
   ·have hgt:i+1<fO t.place (t.place[i]'(by lia)+1):=by lia
    have hi1:i+1<t.place.size:=by lia
    have e1:t.place[i+1]?=some (t.place[i+1]):=by simp[hi1]
    have q:=b1 (i+1) _ hgt e1;have pw:=ei.mp T.rise i (i+1) (by simp;lia) (by simpa using hi1) (iG i);simp at pw;lia
theorem qI{it a:ε}{slot i n ep:Nat}(hit:jO s.heap it a slot i n ep):s.TypeIs (.ref it) "set_iterator":=⟨_,hit,rfl⟩
theorem oG{a it:ε}{o:aJ}{es:Array (Int×δ)}{ep:Nat}{t:aS}(S:i6 w s.heap a o es ep t)(T:Tab t (es.toList.map (·.1))){slot i:Nat}(hit:jO s.heap it a slot i es.size ep)
  {P:PySem.Fin->η->Prop} (h:ρ (model prog w) A (do
   match ←setNext a slot i ep with
   |some (x,next)=>
    setField (.ref it) 0 (rawInt next)
    setField (.ref it) 1 (rawInt ((i:Int)+1))
    ret x
   | none=>setField (.ref it) 2 .none;raiseNew (←newExc (.type "StopIteration") [])) P E s):
  ρ (model prog w) A (dC.«set_iterator.__next__» ⟨[.ref it],[]⟩) P E s:=by
 have hfit:=ix (Tab.r T);unfold dC.«set_iterator.__next__»;refine γ (m:=slotArgs "__next__" 0 ⟨[.ref it],[]⟩) (jP (a:=(.ref it,[])) rfl ?_);refine γ (wpAny_fieldsOf hit rfl ?_);dsimp only[rawInt];unfold setEntries;refine γ (γ (b9 S.at_ S.dat hfit (μ ?_)));rw[if_neg (by simp)];exact h
theorem ur{a it:ε}{o:aJ}{es:Array (Int×δ)}{ep:Nat}{t:aS}(S:i6 w s.heap a o es ep t)(T:Tab t (es.toList.map (·.1))){slot i:Nat}(hsl:mL w t slot i)(hit:jO s.heap it a slot i es.size ep)
  {p:Int×δ} (hp:(fW w a ep es)[i]?=some p) {Q:Option δ->η->Prop}
  (h:∀h' slot',jO h' it a slot' (i+1) es.size ep->mL w t slot' (i+1)->dh it s.heap h'->Q (some p.2) { s with heap:=h' }):ρ (model prog w) A (pyNext (.ref it)) Q E s:=by
 have hT:=qI hit;unfold pyNext;refine γ (iq (bE (name:=aA "__next__") hT eY
  (bK eY hT mH (oG S T hit (γ (rb S T hsl (fun q slot' hq hs'=>?_) fun hn=>?_))) (nY _))))
 ·rw[hp] at hq;cases hq;dsimp only;refine γ (cm hit (by simp) fun h1 e1 sb1=>?_);refine γ (cm (s:={ s with heap:=h1 }) e1 (by simp) fun h2 e2 sb2=>?_)
  refine μ ⟨_,rfl,μ (h h2 slot' ?_ hs' (sb1.trans sb2))⟩;unfold jO;rw[e2];rfl
 ·rw[hp] at hn;cases hn
theorem wd{a it:ε}{o:aJ}{es:Array (Int×δ)}{ep:Nat}{t:aS}(hh:A.handled=none)(S:i6 w s.heap a o es ep t)(T:Tab t (es.toList.map (·.1))){slot i:Nat}(hsl:mL w t slot i)(hit:jO s.heap it a slot i es.size ep)
  (hp:(fW w a ep es)[i]?=none) {Q:Option δ->η->Prop}
  (h:∀h',qG it s.heap h'->Q none { s with heap:=h' }):ρ (model prog w) A (pyNext (.ref it)) Q E s:=by
 have hT:=qI hit;unfold pyNext;refine γ (iq (bE (name:=aA "__next__") hT eY
  (bK eY hT mH (oG S T hit (γ (rb S T hsl (fun q slot' hq hs'=>?_) fun hn=>?_))) (nY _))))
 ·rw[hp] at hq;cases hq
 ·dsimp only;refine γ (cm hit (by simp) fun h1 e1 sb1=>?_);refine γ ?_;simp only[newExc,newTuple];refine γ (bN ?_ (by size_fits));refine γ (m:=firstArgMember _ _) (jP (a:=bV) (by first|rfl|(simp only[firstArgMember];rfl)) ?_)
  refine bN ?_ (by size_fits);simp only[raiseNew];refine γ (wpAny_handled ?_);rw[show A.in1.handled=none from hh];refine γ (μ (wpAny_throw ?_));refine γ (iE (T:="StopIteration") (b:=true) ⟨_,Ξ _ rfl,rfl⟩ mP ?_);refine μ (h _ fun b ob hb e=>?_);exact θ _ (θ _ ((sb1.2 b hb).trans e))
end
end gF
namespace gF
open PySem kR
section
variable {prog:ah} {w:ar} {A:bo} {E:δ->η->Prop} {s:η}
theorem jN.kept{h h':ae}{a:ε}{o:aJ}{es:Array (Int×δ)}{ep:Nat}{t:aS}{xs:List (List Int×ε)}(S:jN prog w h a o es ep t xs)
  (k:∀b∈a::xs.map (·.2),∀ob,h.get? b=some ob->h'.get? b=some ob):jN prog w h' a o es ep t xs:=by
 refine⟨k a Ψ _ S.at_,S.ex,S.dat,S.ents,fun p hp=>?_,S.nd,S.plain,S.led⟩;obtain⟨oy,items,n,ho,r⟩:=S.keys p hp;exact⟨oy,items,n,k _ (Ω _ (aB.mpr ⟨p,hp,rfl⟩)) _ ho,r⟩
theorem i6.kept{h h':ae}{a:ε}{o:aJ}{es:Array (Int×δ)}{ep:Nat}{t:aS}(S:i6 w h a o es ep t)
  (k:∀b∈[a],∀ob,h.get? b=some ob->h'.get? b=some ob):i6 w h' a o es ep t:=⟨k a Ψ _ S.at_,S.ex,S.dat,S.plain,S.led⟩
theorem i6.Hj{h:ae}{a it:ε}{o:aJ}{es:Array (Int×δ)}{ep ep':Nat}{t:aS}{slot i n:Nat}{b:ε}(S:i6 w h a o es ep t)(hit:jO h it b slot i n ep'):
  ∀c∈[a],c≠it:=fun c hc e=>by
 subst e;unfold jO at hit;rw[j3.mp hc,S.at_] at hit;cases hit;have:=S.dat;cases this
theorem zk(hh:A.handled=none){a it:ε}{o:aJ}{es:Array (Int×δ)}{ep:Nat}{t:aS}(T:Tab t (es.toList.map (·.1))):
  Walks prog w A it ([it,a]) [it] es.size (fun i v=>∃p,(fW w a ep es)[i]?=some p/\v=p.2)
   (fun i h=>∃slot,jO h it a slot i es.size ep/\mL w t slot i/\i6 w h a o es ep t) where
 sub:=fun b hb=>by
  have:b=it:=by simpa using hb
  simp[this]
 frame:=fun i h h' ⟨slot,h1,h2,h3⟩ k=>⟨slot,k it Ψ _ h1,h2,h3.kept fun b hb ob e=>k b (Ω _ hb) ob e⟩
 item:=fun i s Q E hi ⟨slot,h1,h2,h3⟩ hQ=>by
  have hlen:(fW w a ep es).length=es.size:=by rw[(kn w a ep es).length_eq];simp
  have hp:(fW w a ep es)[i]?=some ((fW w a ep es)[i]'(by lia)):=bz (by lia);refine ur h3 T h2 h1 hp fun h' slot' q1 q2 sb=>?_;refine hQ _ h' s.toks ⟨_,hp,rfl⟩ ⟨slot',q1,q2,h3.kept fun b hb ob e=>(sb.2 b (h3.Hj h1 b hb)).trans e⟩ fun b ob hb e=>?_;exact (sb.2 b (by simpa using hb)).trans e
 done:=fun s Q E ⟨slot,h1,h2,h3⟩ hQ=>by
  have hlen:(fW w a ep es).length=es.size:=by rw[(kn w a ep es).length_eq];simp
  refine wd hh h3 T h2 h1 (bZ.mpr (by lia)) fun h' q=>?_;exact hQ h' s.toks fun b ob hb e=>q b ob (by simpa using hb) e
 self:=fun i s Q E ⟨slot,h1,h2,h3⟩ h=>by
  have hT:=qI h1;refine wpAny_pyIter_slot hT nU (bK nU hT (b:=dC.«dict_keyiterator.__iter__») ?_ ?_ ?_)
  ·exact entryFor_alias (id':="dict_keyiterator.__iter__") (by kernel_rfl) (by decide +kernel) (by decide +kernel) (by kernel_rfl)
  ·show ρ _ _ (ret (.ref it)) _ _ s;exact μ ⟨_,rfl,"set_iterator",_,hT,eY.lookup,h⟩
  ·unfold argsOk;rw[signature?_of (id:="set_iterator.__iter__") (n:=['_','_','r','e','t','i','_','_']) (o:=['r','o','t','a','r','e','t','i','_','t','e','s']) (by kernel_rfl) tG]
   kernel_rfl
theorem sy(hh:A.handled=none){a:ε}{o:aJ}{es:Array (Int×δ)}{ep:Nat}{t:aS}(S:i6 w s.heap a o es ep t)(T:Tab t (es.toList.map (·.1)))(h64:es.size≤64)
  {Q:List δ->η->Prop} (h:∀s',Moved [] (fun x y=>y=x) s s'->Q ((fW w a ep es).map (·.2)) s'):ρ (model prog w) A (collect (.ref a)) Q E s:=by
 have hT:s.TypeIs (.ref a) "set":=⟨o,S.at_,S.ex.1⟩;have hal:a<s.heap.objs.size:=Δ S.at_;unfold collect;refine γ (wpAny_runValue (fh F.entry_proto_collect ?_));rw[eB F.plain_proto_collect _];show ρ _ A.in1 (newList [] >>= fun q=>again (.builtin "list.__iadd__" ⟨[q,.ref a],[]⟩)) _ _ s;refine γ (bN ?_);refine μ ⟨ka F.plain_list_iadd _,fh F.entry_list_iadd ?_⟩;rw[eB F.plain_list_iadd _];show ρ _ A.in1 (j6 (.ref s.heap.objs.size) (.ref a) (.ref s.heap.objs.size)) _ _ _;unfold j6;have S1:i6 w (s.heap.push { cls:=.type "list",data:=.seq ([]:List δ).toArray }) a o es ep t:=S.kept fun b _ ob e=>θ _ e;have hT1:om { s with heap:=s.heap.push { cls:=.type "list",data:=.seq ([]:List δ).toArray }} (.ref a) "set":=⟨o,S1.at_,S.ex.1⟩;refine γ (gI hT1 ?_);have ne:s.heap.objs.size≠a:=gL hal;have e1:ly (.ref s.heap.objs.size) (.ref a)=false:=by simp[ly,ne]
 rw[if_neg (by rw[e1];decide)];refine γ (xC (s:={ s with heap:=s.heap.push { cls:=.type "list",data:=.seq ([]:List δ).toArray }}) S1 T ?_);have S2:=S1.kept (h':=(s.heap.push { cls:=.type "list",data:=.seq ([]:List δ).toArray }).push { cls:=.type "set_iterator",data:=.fields #[rawInt (0:Nat),rawInt (0:Nat),.ref a,rawInt es.size,rawInt ep]}) fun b _ ob e=>θ _ e;have hit:jO ((s.heap.push { cls:=.type "list",data:=.seq ([]:List δ).toArray }).push { cls:=.type "set_iterator",data:=.fields #[rawInt (0:Nat),rawInt (0:Nat),.ref a,rawInt es.size,rawInt ep]})
   (s.heap.push { cls:=.type "list",data:=.seq ([]:List δ).toArray }).objs.size a 0 0 es.size ep:=Ξ _ rfl
 have hS0:((s.heap.push { cls:=.type "list",data:=.seq ([]:List δ).toArray }).push { cls:=.type "set_iterator",data:=.fields #[rawInt (0:Nat),rawInt (0:Nat),.ref a,rawInt es.size,rawInt ep]}).get? s.heap.objs.size
   = some { cls:=.type "list",data:=.seq ([]:List δ).toArray }:=θ _ (Ξ _ rfl)
 have keep0:∀b ob,s.heap.get? b=some ob->((s.heap.push { cls:=.type "list",data:=.seq ([]:List δ).toArray }).push { cls:=.type "set_iterator",data:=.fields #[rawInt (0:Nat),rawInt (0:Nat),.ref a,rawInt es.size,rawInt ep]}).get? b=some ob:=
  fun b ob e=>θ _ (θ _ e)
 have hI:(s.heap.push { cls:=.type "list",data:=.seq ([]:List δ).toArray }).objs.size=s.heap.objs.size+1:=cU ..;generalize (s.heap.push { cls:=.type "list",data:=.seq ([]:List δ).toArray }).objs.size=it at hI hit ⊢;generalize ((s.heap.push { cls:=.type "list",data:=.seq ([]:List δ).toArray }).push { cls:=.type "set_iterator",data:=.fields #[rawInt (0:Nat),rawInt (0:Nat),.ref a,rawInt es.size,rawInt ep]})=hp at S2 hit hS0 keep0 ⊢;refine γ (cb ?_);have hT2:om { s with heap:=hp } (.ref a) "set":=⟨o,S2.at_,S.ex.1⟩;unfold dC.List.listLengthHint;refine γ (wpAny_specialOf hT2 F.slot_set_len.lookup ?_);generalize hid:("set.__len__":String)=id0;dsimp only;rw[show splitId id0=some ("set","__len__") from by subst hid;decide +kernel];subst hid;dsimp only;refine γ (iE (b:=true) hT2 (by rw[mO];kernel_rfl) ?_)
 rw[if_neg (by decide)];show ρ _ A.in1 (typeOf (.ref a) >>= _) _ _ _;refine γ (gI hT2 (μ ?_));show ρ _ A.in1 (rule "list.extend.makes-room" >>= fun _=>dC.List.listTouch (.ref s.heap.objs.size) >>= fun _=>again (.builtin "list.extend.loop" ⟨[.ref s.heap.objs.size,.ref it,.ref s.heap.objs.size],[]⟩)) _ _ _;refine γ (kv (γ ?_));show ρ _ A.in1 (updateSeq s.heap.objs.size (·.push .none) >>= fun _=>updateSeq s.heap.objs.size (·.pop)) _ _ _;refine γ (wpAny_updateSeq (s:={ s with heap:=hp }) hS0 rfl ?_);have q1:=dP (aL (·.push bV)) hS0 rfl;refine wpAny_updateSeq (s:={ s with heap:=hp.update s.heap.objs.size (aL (·.push bV))}) q1 rfl ?_;have q2:=dP (aL (·.pop)) q1 rfl;have oth:∀b ob,b≠s.heap.objs.size->hp.get? b=some ob->((hp.update s.heap.objs.size (aL (·.push bV))).update s.heap.objs.size (aL (·.pop))).get? b=some ob:=
  fun b ob hb e=>(dG _ _ (eZ hb)).trans ((dG _ _ (eZ hb)).trans e)
 have q3:∃c,((hp.update s.heap.objs.size (aL (·.push bV))).update s.heap.objs.size (aL (·.pop))).get? s.heap.objs.size=some { cls:=.type "list",dict:=none,data:=.seq #[] c,slots:=#[]}:=⟨_,q2⟩;clear q2;generalize (hp.update s.heap.objs.size (aL (·.push bV))).update s.heap.objs.size (aL (·.pop))=hp2 at q3 oth ⊢;obtain⟨c0,q2⟩:=q3;have hfp:∀b∈[it,a],b≠s.heap.objs.size:=fun b hb e=>by
  rcases aa.mp hb with z|z
  ·lia
  ·have hlt:b<s.heap.objs.size:=by
    rw[j3.mp z];exact hal
   lia
 have W:=(zk (prog:=prog) (w:=w) (A:=A.in1) (by simpa using hh) (it:=it) (a:=a) (o:=o) (ep:=ep) T).toS;refine μ ⟨ka F.plain_extend_loop _,codeAny_extend_loopS W (by rw[cg];lia) _ (fun hm=>hfp _ hm rfl) _ es.size 0 _ _ _ rfl (aQ _) ?_ q2 (ItemsOf.nil _) fun s' acc' c' hm hS' hacc=>?_⟩
 ·refine⟨0,oth _ _ (hfp _ Ψ) hit,?_,S2.kept fun b hb ob e=>oth b ob (hfp b (Ω _ hb)) e⟩;by_cases hb:hX w=true
  ·exact .inl hb
  ·refine .inr ?_;obtain⟨b0,b1,b2⟩:=nL (j:=0) T.rise;refine ay fun hne=>?_;have hpos:0<fO t.place 0:=by lia
   have h0:0<t.place.size:=by lia
   have:=b1 0 (t.place[0]) hpos (by simp[h0]);lia
 ·show ρ _ A (load s.heap.objs.size >>= _) _ _ s';refine γ (wpAny_load hS' ?_);refine μ ?_;have hlen:(fW w a ep es).length=es.size:=by rw[(kn w a ep es).length_eq];simp
  have eacc:acc'.toList=(fW w a ep es).map (·.2):=by
   refine List.ext_getElem? fun i=>?_;rw[av,ak];cases ha:acc'[i]? with
   |none=>
    have h1:=gh.mp ha;rw[hacc.1] at h1;rw[bZ.mpr (by lia)];rfl
   |some v=>
    obtain⟨p,e1,e2⟩:=hacc.2 i v ha;rw[e1,e2];rfl
  show Q acc'.toList s';rw[eacc];refine h s' ⟨fun b ob _ e=>?_,hm.gens,hm.drawn,hm.os,?_⟩
  ·have hlt:=Δ e;refine hm.heap b ob ?_ (oth b ob (aO hlt) (keep0 b ob e));intro z;rcases aa.mp z with z|z
   ·rw[z] at hlt;exact bS _ hlt
   ·have:b=it:=by simpa using z
    rw[this,hI] at hlt;exact bS _ (Nat.lt_of_succ_lt hlt)
  ·exact hm.toks
end
end gF
namespace gF
open PySem kR
section
variable {prog:ah} {w:ar} {A:bo} {E:δ->η->Prop} {s:η}
def eK(w:ar):aJ:={ cls:=.type "set",dict:=none,data:=.set #[] 0 (.fresh 0 0 (!(hX w)))}
theorem Cu(a:δ){Q₁:δ->η->Prop}(h:Q₁ (.ref s.heap.objs.size) { s with heap:=s.heap.push (eK w)}):
  iL (model prog w) A (.call (.builtin "set.__new__") ⟨[.type "set",a],[]⟩) (wants Q₁ E) s:=by
 refine codeAny_of_tree ?_;show ρ _ A.in1 (checkBuiltinCall "set.__new__" ⟨[.type "set",a],[]⟩ >>= fun _=>again (.builtin "set.__new__" ⟨[.type "set",a],[]⟩)) _ _ s;refine γ (jP (F.newCall_set_1 a) (μ ⟨ka F.plain_set_new _,fh F.entry_set_new ?_⟩));rw[eB F.plain_set_new _];unfold dC.«set.__new__» dC.Frozenset.newClass;have hsub:=sub_set_self;obtain⟨hp,g,d,tk,os⟩:=s;dsimp only;wp_walk;refine kU (μ ?_);dsimp only;simp only[newObj];refine γ (wpAny_alloc (μ ?_));exact μ h
theorem AE(led:Bool):Tab (aS.fresh 0 0 led) []:=
 ⟨.inl rfl,rfl,kl,(fun j hj=>(nomatch hj)),rfl,(by show 0*5<7*3;decide),(fun j h hj=>(nomatch hj))⟩
structure sj(ps xs:List (List Int×ε)):Prop where
 sub:∀p∈xs,p∈ps
 all:∀p∈ps,p.1∈xs.map (·.1)
 len:xs.length≤ps.length
theorem sj.add{ps xs xs':List (List Int×ε)}{p:List Int×ε}(d:sj ps xs)(h1:p.1∈xs.map (·.1)->xs'.Perm xs)(h2:p.1∉xs.map (·.1)->xs'.Perm (p::xs)):sj (ps++[p]) xs':=by
 by_cases hm:p.1∈xs.map (·.1)
 ·have pm:=h1 hm;refine⟨fun q hq=>fY _ (d.sub q (pm.mem_iff.mp hq)),fun q hq=>?_,?_⟩
  ·rw[(pm.map _).mem_iff];rcases cL.mp hq with hq|hq
   ·exact d.all q hq
   ·have:q=p:=by simpa using hq
    rw[this];exact hm
  ·rw[pm.length_eq,az];have:=d.len;lia
 ·have pm:=h2 hm;refine⟨fun q hq=>?_,fun q hq=>?_,?_⟩
  ·rcases aa.mp (pm.mem_iff.mp hq) with e|e
   ·exact aC _ (by simp[e])
   ·exact fY _ (d.sub q e)
  ·rw[(pm.map _).mem_iff,cn];rcases cL.mp hq with hq|hq
   ·exact Ω _ (d.all q hq)
   ·have:q=p:=by simpa using hq
    rw[this];exact Ψ
  ·rw[pm.length_eq,az,aj,fR];have:=d.len;lia
theorem sx{I:ε}{fp:List ε}{n:Nat}{P:Nat->δ->Prop}{St:Nat->ae->Prop}(W:Walks prog w A.in1 I fp [I] n P St)(S:ε)(hSf:S∉fp)(ps:List (List Int×ε))(hps:ps.length=n)(hn:n≤60)
  (hu:A.in1.units<cLine) (hval:∀(i:Nat) v,P i v->∃p,ps[i]?=some p/\v=.ref p.2) (hpf:∀p∈ps,p.2≠I/\p.2≠S) {R:Result->η->Prop}:
  ∀(k i:Nat) (s:η) (xs:List (List Int×ε)),n-i=k->i≤n->St i s.heap->jM prog w s.heap S xs->sj (ps.take i) xs->(∀p∈ps,gg prog w s.heap p.1 p.2) ->
   (∀h' tk xs',(∀b ob,b≠S->b≠I->s.heap.get? b=some ob->h'.get? b=some ob)->jM prog w h' S xs'->sj ps xs'->R (.ok (.ret .none)) { s with heap:=h',toks:=tk }) ->
   iL (model prog w) A (.builtin "set.update.loop" ⟨[.ref S,.ref I],[]⟩) R s:=by
 have hSI:S≠I:=fun e=>hSf (W.sub _ (by rw[e];simp));have on_kept:∀{h h':ae} {xs:List (List Int×ε)},jM prog w h S xs->(∀p∈xs,p∈ps)->(∀b ob,b≠I->h.get? b=some ob->h'.get? b=some ob)->jM prog w h' S xs:=fun {h h' xs} ⟨o,es,ep,t,q,T⟩ sub kp=>
  ⟨o,es,ep,t,q.kept fun b hb ob e=>kp b ob (by
   rcases aa.mp hb with z|z
   ·rw[z];exact hSI
   ·obtain⟨p,hp,rfl⟩:=aB.mp z;exact (hpf p (sub p hp)).1) e,T⟩
 intro k
 induction k with
 |zero=>
  intro i s xs hk hi hst hS hd hkeys hR;have hin:i=n:=by lia
  subst hin;refine fh gK ?_;rw[eB dI _];show ρ _ A.in1 (pyNext (.ref I) >>= _) _ _ s;refine γ (W.done s _ _ hst fun h' tk kp=>?_);show ρ _ A.in1 (ret bV) _ _ _;have hd':sj ps xs:=by
   rw[←hps,ll] at hd;exact hd
  exact μ (hR h' tk xs (fun b ob _ hb e=>kp b ob (by simpa using hb) e) (on_kept hS hd'.sub fun b ob hb e=>kp b ob (by simpa using hb) e) hd')
 |succ k ih=>
  intro i s xs hk hi hst hS hd hkeys hR;have hlt:i<n:=by lia
  refine fh gK ?_;rw[eB dI _];show ρ _ A.in1 (pyNext (.ref I) >>= _) _ _ s;refine γ (W.item i s _ _ hlt hst fun v h1 tk1 hP hst1 kp1=>?_);obtain⟨p,hp,rfl⟩:=hval i v hP;have hpm:p∈ps:=bu hp;have kp1':∀b ob,b≠I->s.heap.get? b=some ob->h1.get? b=some ob:=fun b ob hb e=>kp1 b ob (by simpa using hb) e;have key1:∀q∈ps,gg prog w h1 q.1 q.2:=fun q hq=>by
   obtain⟨oy,items,m,ho,r⟩:=hkeys q hq;exact⟨oy,items,m,kp1' _ _ (hpf q hq).1 ho,r⟩
  have sub0:∀q∈xs,q∈ps:=fun q hq=>df (hd.sub q hq);have hS1:=on_kept hS sub0 kp1';show ρ _ A.in1 (holding [bh p.2] (setAdd S (.ref p.2)) >>= _) _ _ _;have hlen:xs.length<64:=by
   have h1:=hd.len;rw[bC] at h1;lia
  refine γ (cb (Fp (s:={ s with heap:=h1,toks:=tk1 }) hS1 hlen hu (key1 p hpm) fun b h2 tk2 xs2 _ sb hS2 q1 q2=>?_));have hd2:sj (ps.take (i+1)) xs2:=by
   rw[List.take_add_one,hp];exact hd.add q1 q2
  obtain⟨oS,_,_,_,SS,_⟩:=hS1;refine μ ⟨ka dI _,ih (i+1) _ xs2 (by lia) hlt (W.frame _ _ _ hst1 fun c hc ob e=>(sb.2 c (fun z=>hSf (z▸hc))).trans e) hS2 hd2 (fun q hq=>qe SS.at_ SS.dat sb (key1 q hq)) fun h' tk xs' kp' a1 a2=>?_⟩;exact hR h' tk xs' (fun c ob c1 c2 e=>kp' c ob c1 c2 ((sb.2 c c1).trans (kp1' c ob c2 e))) a1 a2
set_option maxHeartbeats 6400000 in
theorem ua{l:ε}{vs:List δ}{ps:List (List Int×ε)}{Q:δ->η->Prop}(hh:A.handled=none)(hl:s.heap.IsList l vs.toArray)(hv:vs=ps.map fun p=>bh p.2)(hk:∀p∈ps,gg prog w s.heap p.1 p.2)(hn:ps.length≤60)
  (hu:A.units+4<cLine)
  (h:∀h' tk xs,(∀b ob,s.heap.get? b=some ob->h'.get? b=some ob)->jM prog w h' s.heap.objs.size xs->sj ps xs->Q (.ref s.heap.objs.size) { s with heap:=h',toks:=tk }):
  ρ (model prog w) A (call (.type "set") [.ref l]) Q E s:=by
 obtain⟨c,tl,hmro⟩:=F.called_set.mro;have hmade:=F.called_set.made;have hsub:=F.called_set.sub;refine wpAny_call (codeAny_of_tree ?_);show ρ _ _ (callAny (.type "set") _) _ _ _;refine μ ⟨Code.quiet_builtin _ (by decide +kernel),fh F.entry_type_call ?_⟩;rw[bo.under_plain (weight_type_call_type "set" [.ref l] []) rfl];have h1:=F.called_set.notType;have h2:=F.called_set.canCreate;have hct:=F.typeCall_set_1 (.ref l)
 repeat (any_goals (first|assumption|wp_step))
 refine jb (Cu (.ref l) (E:=E) (Q₁:=fun obj s₁=>obj=.ref s.heap.objs.size/\s₁={ s with heap:=s.heap.push (eK w)}) ⟨rfl,rfl⟩) fun r s₁ hr=>?_;cases r with
 |error e=>exact hr
 |ok fl=>
  cases fl with
  |ret obj=>
   obtain⟨rfl,rfl⟩:=hr;have hS:(s.heap.push (eK w)).get? s.heap.objs.size=some (eK w):=Ξ _ rfl;have hT:om { s with heap:=s.heap.push (eK w)} (.ref s.heap.objs.size) "set":=⟨_,hS,rfl⟩;have hli:=F.called_set.init.lookup;have hbi:=F.called_set.init.bind (.ref s.heap.objs.size)
   repeat (any_goals (first|assumption|wp_step))
   refine jb (codeAny_call_builtin (R:=wants (fun r s₂=>r=.none/\∃h' tk xs,s₂={ s with heap:=h',toks:=tk }/\(∀b ob,s.heap.get? b=some ob->h'.get? b=some ob)/\jM prog w h' s.heap.objs.size xs/\sj ps xs) E)
    F.called_set.init.plain F.entry_set_init (check_set_init_1 hT ?_)) fun r₂ s₂ hr₂=>?_
   ·obtain⟨ol,hol,hcl,nl,hdl⟩:=hl;obtain⟨ocls,odict,odata,oslots⟩:=ol;simp only at hcl hdl;subst hcl;subst hdl;have hol':(s.heap.push (eK w)).get? l=some { cls:=.type "list",dict:=odict,data:=.seq vs.toArray nl,slots:=oslots }:=θ _ hol;have hsls:=F.sub_list_set;have hslf:=F.sub_list_frozenset;have hne:(kx "list" == kx "dict")=false:=by decide
    have hl1:(s.heap.push (eK w)).IsList l vs.toArray:=⟨_,hol',rfl,nl,rfl⟩;have hS2:(s.heap.push (eK w)).get? s.heap.objs.size=some { cls:=.type "set",dict:=none,data:=.set #[] 0 (.fresh 0 0 (!(hX w)))}:=hS;unfold dC.«set.__init__» noKeywords dC.Frozenset.updateFrom;generalize hPI:pyIter=PI;wp_walk;subst hPI;refine dk hl1 ?_;refine γ (wpAny_runValue ?_);have hlS:l<s.heap.objs.size:=Δ hol;have hh3:A.in1.in1.in1.handled=none:=by simp[hh]
    have hu3:A.in1.in1.in1.units<cLine:=by
     show A.units+1+1+1<cLine;lia
    have jo:(s.heap.push (eK w)).objs.size=s.heap.objs.size+1:=cU ..;have hneI:l≠(s.heap.push (eK w)).objs.size:=by
     rw[jo];exact aO (fE hlS)
    have hSf:s.heap.objs.size∉[(s.heap.push (eK w)).objs.size,l]:=by
     rw[jo];intro z;rcases aa.mp z with z|z
     ·exact absurd z (aO (iG _))
     ·have:s.heap.objs.size=l:=by simpa using z
      exact absurd this (gL hlS)
    have hlen:vs.toArray.size=ps.length:=by rw[hv];simp
    refine sx (Walks.list hh3 _ l hneI vs.toArray) s.heap.objs.size hSf ps hlen.symm (by rw[hlen];exact hn) hu3 (fun i v e=>?_) (fun p hp=>?_) (vs.toArray.size-0) 0 _ [] rfl (aQ _)
     ⟨⟨_,Ξ _ rfl,rfl,rfl⟩,hl1.push _⟩ ?hS0 ⟨(fun p hp=>(nomatch hp)),(fun p hp=>by rw[List.take_zero] at hp;cases hp),aQ _⟩ (fun p hp=>?_) ?hR
    case hS0=>
     refine⟨_,#[],0,_,⟨θ _ hS2,⟨rfl,rfl,rfl⟩,rfl,rfl,(fun p hp=>(nomatch hp)),List.nodup_nil,rfl,rfl⟩,AE _⟩
    case hR=>
     intro h' tk xs q1 q2 q3;refine μ ?_;show ρ _ _ (ret bV) _ _ _;refine μ ⟨rfl,h',tk,xs,rfl,fun b ob e=>?_,q2,q3⟩;have hb:=Δ e;refine q1 b ob (aO hb) ?_ (θ _ (θ _ e));rw[jo];exact aO (fE hb)
    ·rw[hv,List.getElem?_toArray,av] at e;cases hp:ps[i]? with
     |none=>rw[hp] at e;cases e
     |some p=>rw[hp] at e;exact⟨p,rfl,(ai e).symm⟩
    ·obtain⟨oy,_,_,ho,_⟩:=hk p hp;have hb:=Δ ho;rw[jo];exact⟨aO (fE hb),aO hb⟩
    ·obtain⟨oy,items,m,ho,r⟩:=hk p hp;exact⟨oy,items,m,θ _ (θ _ ho),r⟩
   ·cases r₂ with
    |error e=>exact hr₂
    |ok fl₂=>
     cases fl₂ with
     |ret r=>
      obtain⟨rfl,h',tk,xs,rfl,q1,q2,q3⟩:=hr₂
      repeat (any_goals (first|assumption|wp_step))
      exact h _ _ _ q1 q2 q3
     |_=>exact hr₂.elim
  |_=>exact hr.elim
end
end gF
namespace nM
open PySem PySem.W PyProof.Rows gF IL
def lx:List Int->List Int->Bool
 |[],[]=>false
 |[],_::_=>true
 |_::_,[]=>false
 |x::xs,y::ys=>if x=y then lx xs ys else decide (x<y)
theorem Av:∀{x y:List Int},lx x y=true->lx y x=false
 |[],[],h=>by cases h
 |[],_::_,_=>rfl
 |_::_,[],h=>by cases h
 |x::xs,y::ys,h=>by
  unfold lx at h ⊢;by_cases e:x=y
  ·rw[if_pos e] at h;rw[if_pos e.symm];exact Av h
  ·rw[if_neg e] at h;rw[if_neg (eZ e)];have:=of_decide_eq_true h;exact decide_eq_false (by lia)
theorem Au:∀{a b c:List Int},lx b a=false->lx c b=false->lx c a=false
 |[],b,[],_,_=>rfl
 |[],[],c::cs,_,h=>h
 |[],b::bs,c::cs,h,_=>rfl
 |a::as,[],c,h,_=>by cases h
 |a::as,b::bs,[],_,h=>by cases h
 |a::as,b::bs,c::cs,h1,h2=>by
  unfold lx at h1 h2 ⊢;by_cases e1:b=a
  ·rw[if_pos e1] at h1;by_cases e2:c=b
   ·rw[if_pos e2] at h2;rw[if_pos (e2.trans e1)];exact Au h1 h2
   ·rw[if_neg e2] at h2;have:=of_decide_eq_false h2;by_cases e3:c=a
    ·lia
    ·rw[if_neg e3];exact decide_eq_false (by lia)
  ·rw[if_neg e1] at h1;have:=of_decide_eq_false h1;by_cases e2:c=b
   ·rw[if_neg (by lia)];exact decide_eq_false (by lia)
   ·rw[if_neg e2] at h2;have:=of_decide_eq_false h2;by_cases e3:c=a
    ·lia
    ·rw[if_neg e3];exact decide_eq_false (by lia)
section
variable {prog:ah} {w:ar} {A:bo} {E:δ->η->Prop} {s:η}
theorem Hu{Q:Bool->η->Prop}:∀(xs ys:List Int) (us vs:List δ) (i:Nat) (fin:Bool),ItemsAre (intKind prog w) xs us->ItemsAre (intKind prog w) ys vs ->
  (fin=decide (us.length<vs.length)∨∃n m,fin=decide (n+us.length<n+vs.length)/\m=n)->Q (lx xs ys) s->KatLex prog w A true fin Q (us.zip vs) i s:=by
 intro xs
 induction xs with
 |nil=>
  intro ys us vs i fin h1 h2 hf h;cases h1;cases h2 with
  |nil=>
   have:fin=false:=by
    rcases hf with hf|⟨n,m,hf,_⟩<;>simp at hf<;>exact hf
   rw[this];exact kat_nil h
  |cons h3 h4=>
   have:fin=true:=by
    rcases hf with hf|⟨n,m,hf,_⟩<;>rw[hf]<;>simp
   rw[this];exact kat_nil h
 |cons x xs ih=>
  intro ys us vs i fin h1 h2 hf h;cases h1 with
  |cons h1 h1'=>
  cases h2 with
  |nil=>
   have:fin=false:=by
    rcases hf with hf|⟨n,m,hf,_⟩<;>rw[hf]<;>simp
   rw[this];exact kat_nil h
  |cons h3 h4=>
   obtain⟨t,rfl⟩:=fC h1;obtain⟨t',rfl⟩:=fC h3;refine kat_cons (wpAny_eqBool_int ?_);unfold lx at h;rename_i _ y ys _;by_cases e:x=y
   ·rw[if_pos e] at h;have:(x==y)=true:=by simpa using e
    rw[this];refine kat_yes (ih ys _ _ (i+1) fin h1' h4 (.inr ?_) h);rcases hf with hf|⟨n,m,hf,_⟩
    ·exact⟨1,1,by rw[hf];simp[Nat.add_comm],rfl⟩
    ·exact⟨n+1,n+1,by rw[hf];congr 1;simp only[aj];apply propext;lia,rfl⟩
   ·rw[if_neg e] at h;have:(x==y)=false:=by simpa using e
    rw[this];refine kat_no ?_;by_cases hi:i=0
    ·subst hi;exact oneLt_int h
    ·have hb:(true&&i==0)=false:=by simp[hi]
     rw[hb];exact kat_one _ _ (lt_int h)
theorem BU{Q:Bool->η->Prop}{x y:List Int}{a b:ε}(hx:gg prog w s.heap x a)(hy:gg prog w s.heap y b)(h:Q (lx x y) s):ρ (model prog w) A (keyLt' (tuples' true) (.ref a) (.ref b)) Q E s:=by
 obtain⟨o,its,n,ho,_,hd,hi⟩:=hx;obtain⟨o',its',n',ho',_,hd',hi'⟩:=hy;exact kat_lt ho hd ho' hd' (Hu x y its.toList its'.toList 0 _ hi hi' (.inl (by simp)) h)
def rK{α:Type}(lt:α->α->Bool)(d:α)(ps:List α)(i j:Nat):Bool:=lt (ps.getD i d) (ps.getD j d)
structure y8{α:Type}(lt:α->α->Bool):Prop where
 xy:∀x y,lt x y=true->lt y x=false
 qy:∀x y z,lt y x=false->lt z y=false->lt z x=false
theorem Eo{α:Type}{lt:α->α->Bool}(O:y8 lt)(d:α)(ps:List α)(n:Nat):Ord n (rK lt d ps):=⟨fun a b _ _ h=>O.xy _ _ h,fun a b c _ _ _ h1 h2=>O.qy _ _ _ h1 h2⟩
abbrev Hn(x y:List Int×ε):Bool:=lx x.1 y.1
abbrev fT(p:List Int×ε):δ:=.ref p.2
theorem Ly:y8 Hn:=⟨fun _ _ h=>Av h,fun _ _ _ h1 h2=>Au h1 h2⟩
def L5(n:Nat)(lt:Nat->Nat->Bool)(i j:Nat)(C:Bool->η->Prop)(s:η):Prop:=i<n/\j<n/\C (lt i j) s
theorem conv{α:Type}{n:Nat}{lt:Nat->Nat->Bool}{κ:kY}{vs:List δ}{Q:α->η->Prop}(ha:∀i j,i<n->j<n->∀C:Bool->η->Prop,C (lt i j) s->jF prog w A κ vs i j C s):
  ∀t:KasT α,t.kasWp (L5 n lt) Q s->t.kasWp (jF prog w A κ vs) Q s
 |.ret a,h=>h
 |.ask i j k,h=>by
  obtain⟨h1,h2,h3⟩:=h;exact ha i j h1 h2 _ (conv ha (k (lt i j)) h3)
theorem getD_map{α:Type}{f:α->δ}{d:α}{ps:List α}{i:Nat}(hi:i<ps.length):(ps.map f).getD i bV=f (ps.getD i d):=by
 simp[j5,hi]
theorem getD_mem{ps:List (List Int×ε)}{i:Nat}(hi:i<ps.length):ps.getD i ([],0)∈ps:=by
 simp[j5,hi]
theorem IC{ps:List (List Int×ε)}(hk:∀p∈ps,gg prog w s.heap p.1 p.2):∀i j,i<ps.length->j<ps.length->∀C:Bool->η->Prop,C (rK Hn ([],0) ps i j) s->jF prog w A (tuples' true) (ps.map fT) i j C s:=fun i j hi hj C h=>by
 unfold jF;rw[getD_map (d:=([],0)) hi,getD_map (d:=([],0)) hj];exact BU (hk _ (getD_mem hi)) (hk _ (getD_mem hj)) h
theorem wG{h:ae}:∀{ps:List (List Int×ε)},(∀p∈ps,gg prog w h p.1 p.2/\p.1≠[])->∃fs,KatTups h (ps.map fun p=>bh p.2) fs/\fs.length=ps.length/\∀v∈fs,∃i t,v=.int i t
 |[],_=>⟨[],.nil,rfl,fun v hv=>nomatch hv⟩
 |p::ps,hk=>by
  obtain⟨fs,h1,h2,h3⟩:=wG (ps:=ps) fun q hq=>hk q (Ω _ hq);obtain⟨⟨o,its,n,ho,hc,hd,hi⟩,hne⟩:=hk p Ψ;obtain⟨ks,a⟩:=p;cases ks with
  |nil=>exact absurd rfl hne
  |cons k ks=>
   obtain⟨its⟩:=its;cases hi with
   |cons h4 h5=>
    rename_i v vs;obtain⟨t,e⟩:=fC h4;refine⟨v::fs,KatTups.cons ho hc hd (by simp) h1,by simp[h2],fun u hu=>?_⟩;rcases aa.mp hu with q|q
    ·exact⟨k,t,q.trans e⟩
    ·exact h3 u q
theorem EX{ps:List (List Int×ε)}(hne:ps≠[])(hk:∀p∈ps,gg prog w s.heap p.1 p.2/\p.1≠[]){Q:kY->η->Prop}(h:Q (tuples' true) s):ρ (model prog w) A (keyKind' (ps.map fT).toArray) Q E s:=by
 obtain⟨fs,h1,h2,h3⟩:=wG hk;have hl:0<fs.length:=by
  rw[h2];exact List.length_pos_iff.mpr hne
 refine kat_kind (T:=.type "int") h1 hl (fun v hv=>?_) rfl h;obtain⟨i,t,rfl⟩:=h3 v hv;exact .now
structure tf{α:Type}(lt:α->α->Bool)(ps qs:List α):Prop where
 perm:qs.Perm ps
 rise:qs.Pairwise fun x y=>lt y x=false
abbrev K8(ps qs:List (List Int×ε)):Prop:=tf Hn ps qs
theorem FD{α:Type}{lt:α->α->Bool}{d:α}{ps:List α}{p:Array Nat}(v:Va ps.length p)(S:So (rK lt d ps) p ps.length):tf lt ps (p.toList.map fun i=>ps.getD i d):=by
 refine⟨?_,?_⟩
 ·refine (v.perm.map _).trans ?_;have:(aq ps.length).map (fun i=>ps.getD i d)=ps:=by
   refine List.ext_getElem? fun i=>?_;by_cases hi:i<ps.length
   ·simp[av,jv hi,j5,hi]
   ·rw[bZ.mpr (by simpa using hi),bZ.mpr (by lia)]
  rw[this]
 ·rw[dm,ei];intro i j hi hj hij;have hs:=v.size;have h1:i<ps.length:=by rw[←hs];simpa using hi
  have h2:j<ps.length:=by rw[←hs];simpa using hj
  have e1:p.toList[i]=g p i:=by
   have:=v.get h1;simp[g,jm,hs,h1]
  have e2:p.toList[j]=g p j:=by simp[g,jm,hs,h2]
  rw[e1,e2];exact S i j (lj hij) h2
theorem GD{α:Type}{f:α->δ}{d:α}{ps:List α}{p:Array Nat}(v:Va ps.length p):(p.toList.map fun i=>(ps.map f).getD i bV)=(p.toList.map fun i=>ps.getD i d).map f:=by
 rw[dg];refine ju fun i hi=>?_;have:i<ps.length:=by
  have:=v.perm.mem_iff.mp hi;simpa using this
 exact getD_map this
theorem vk{α:Type}{lt:α->α->Bool}{f:α->δ}{d:α}{κ:kY}(O:y8 lt){a:ε}{n:Nat}{ps:List α}{P:PySem.Fin->η->Prop}(ho:s.heap.get? a=some (seqObj "list" (ps.map f).toArray n))
  (hk:∀h',(∀b o,b≠a->s.heap.get? b=some o->h'.get? b=some o)->(∀(Q:kY->η->Prop) (E':δ->η->Prop),Q κ { s with heap:=h' }->ρ (model prog w) A (keyKind' (ps.map f).toArray) Q E' { s with heap:=h' }) ∧
   ∀i j,i<ps.length->j<ps.length->∀C:Bool->η->Prop,C (rK lt d ps i j) { s with heap:=h' }->jF prog w A κ (ps.map f) i j C { s with heap:=h' }) (h2:2≤ps.length) (h64:ps.length<64)
  (h:∀qs h' c,tf lt ps qs->h'.get? a=some (seqObj "list" (qs.map f).toArray c)->(∀b o,b≠a->s.heap.get? b=some o->h'.get? b=some o)->P (.done (.ret .none)) { s with heap:=h' }):
  ρ (model prog w) A (dC.«list.sort» ⟨[.ref a],[]⟩) P E s:=by
 have ha:a<s.heap.objs.size:=Δ ho;have s1:=cv s.heap a (aL fun _=>(#[]:Array δ));obtain⟨e1,ho1⟩:∃e1,(s.heap.update a (aL fun _=>(#[]:Array δ))).get? a=some (seqObj "list" #[] e1):=⟨_,ja ho fun _=>#[]⟩;generalize hvs:(ps.map f)=vs at ho;have hlen:vs.length=ps.length:=by rw[←hvs,ξ]
 have hu3:∀b o,b≠a->s.heap.get? b=some o->(((s.heap.update a (aL fun _=>(#[]:Array δ))).push (seqObj "tuple" vs.toArray 0)).push (seqObj "list" #[] 0)).get? b=some o:=fun b o hb e=>
  θ _ (θ _ ((s1.2 b hb).trans e))
 have ho3:(((s.heap.update a (aL fun _=>(#[]:Array δ))).push (seqObj "tuple" vs.toArray 0)).push (seqObj "list" #[] 0)).get? a=some (seqObj "list" #[] e1):=θ _ (θ _ ho1);rw[list_sort_plain];refine γ (listItems_at ho rfl ?_);refine γ (kc ho rfl ?_ (by rw[χ,cg];lia) (aQ _));refine γ (me ho1 rfl ?_);refine γ (mN ?_ (by show vs.length≤_;rw[cg];lia));refine γ (oi ?_ (aQ _));refine cb ?_;show ρ (model prog w) A _ P E { s with heap:=((s.heap.update a (aL fun _=>(#[]:Array δ))).push (seqObj "tuple" vs.toArray 0)).push (seqObj "list" #[] 0)};generalize ((s.heap.update a (aL fun _=>(#[]:Array δ))).push (seqObj "tuple" vs.toArray 0)).push (seqObj "list" #[] 0)=h3 at hu3 ho3 ⊢;obtain⟨hk1,hk2⟩:=hk h3 hu3;dsimp only;have hn2:¬vs.toArray.size<2:=by rw[χ];lia
 rw[if_neg hn2,if_neg hn2];refine γ ?_;rw[←hvs];refine hk1 _ _ ?_;have hsort:(kas_sort vs.length).kasWp (jF prog w A κ (ps.map f)) (fun p s'=>s'={ s with heap:=h3 }/\Va ps.length p/\So (rK lt d ps) p ps.length) { s with heap:=h3 }:=by
  refine conv (lt:=rK lt d ps) (n:=ps.length) hk2 _ ?_
  rw[hlen];exact D8 (Eo O d ps ps.length) (fun i j hi hj C s' hC=>⟨hi,hj,hC⟩) (by lia) fun p v S=>⟨rfl,v,S⟩
 have hsort:(kas_sort (ps.map f).length).kasWp (jF prog w A κ (ps.map f)) (fun p s'=>s'={ s with heap:=h3 }/\Va ps.length p/\So (rK lt d ps) p ps.length) { s with heap:=h3 }:=by
  rw[hlen] at hsort;rw[ξ];exact hsort
 refine γ (dZ (kat_run (Q:=fun st' s'=>∃p:Array Nat,p.size=(ps.map f).length/\arrOf st'=p.map (kas_item ((ps.map f).toArray.zip (ps.map f).toArray))/\failedOf st'=none/\s'={ s with heap:=h3 }/\Va ps.length p/\So (rK lt d ps) p ps.length)
  rfl (by rw[ξ];exact h2) (by rw[ξ];exact h64) (fun p' st' s' a1 a2 a3 a4=>⟨p',a1,a2,a3,a4⟩) hsort) ?_ fun _ _ e=>e)
 rintro⟨⟨⟩,st'⟩ s' ⟨p,hp,har,hf,rfl,va,so⟩;dsimp only;have hout:=kat_snds rfl har;rw[GD va] at hout;have hS:=FD va so;generalize (p.toList.map fun i=>ps.getD i d)=qs at hout hS;have jo:(gN (qs.map f)).size=ps.length:=by rw[χ,ξ,hS.perm.length_eq]
 rw[hout];have s2:=cv h3 a (aL fun _=>gN (qs.map f));obtain⟨c2,hc2⟩:∃c2,(h3.update a (aL fun _=>gN (qs.map f))).get? a=some (seqObj "list" (gN (qs.map f)) c2):=⟨_,ja ho3 fun _=>gN (qs.map f)⟩;refine γ (me ho3 rfl ?_);refine γ (kc ho3 rfl ?_ (aQ _) (bc (Nat.le_of_eq jo) (by rw[cg];lia)));rw[hf];simp only[bne_self_eq_false,gQ,if_false];exact μ (h qs _ c2 hS hc2 fun b o hb e=>(s2.2 b hb).trans (hu3 b o hb e))
theorem t7{a:ε}{n:Nat}{vs:List δ}{P:PySem.Fin->η->Prop}(ho:s.heap.get? a=some (seqObj "list" vs.toArray n))(h2:vs.length<2)
  (h:∀h' c,h'.get? a=some (seqObj "list" vs.toArray c)->(∀b o,b≠a->s.heap.get? b=some o->h'.get? b=some o)->P (.done (.ret .none)) { s with heap:=h' }):
  ρ (model prog w) A (dC.«list.sort» ⟨[.ref a],[]⟩) P E s:=by
 have s1:=cv s.heap a (aL fun _=>(#[]:Array δ));obtain⟨e1,ho1⟩:∃e1,(s.heap.update a (aL fun _=>(#[]:Array δ))).get? a=some (seqObj "list" #[] e1):=⟨_,ja ho fun _=>#[]⟩;have hu3:∀b o,b≠a->s.heap.get? b=some o->(((s.heap.update a (aL fun _=>(#[]:Array δ))).push (seqObj "tuple" vs.toArray 0)).push (seqObj "list" #[] 0)).get? b=some o:=fun b o hb e=>
  θ _ (θ _ ((s1.2 b hb).trans e))
 have ho3:(((s.heap.update a (aL fun _=>(#[]:Array δ))).push (seqObj "tuple" vs.toArray 0)).push (seqObj "list" #[] 0)).get? a=some (seqObj "list" #[] e1):=θ _ (θ _ ho1);rw[list_sort_plain];refine γ (listItems_at ho rfl ?_);refine γ (kc ho rfl ?_ (by rw[χ,cg];lia) (aQ _));refine γ (me ho1 rfl ?_);refine γ (mN ?_ (by show vs.length≤_;rw[cg];lia));refine γ (oi ?_ (aQ _));refine cb ?_;show ρ (model prog w) A _ P E { s with heap:=((s.heap.update a (aL fun _=>(#[]:Array δ))).push (seqObj "tuple" vs.toArray 0)).push (seqObj "list" #[] 0)};generalize ((s.heap.update a (aL fun _=>(#[]:Array δ))).push (seqObj "tuple" vs.toArray 0)).push (seqObj "list" #[] 0)=h3 at hu3 ho3 ⊢;dsimp only;have hn2:vs.toArray.size<2:=by rw[χ];lia
 rw[if_pos hn2,if_pos hn2];refine γ (μ ?_);rw[StateT.run_pure];refine γ (μ ?_);dsimp only;have hout:(arrOf (SortSt.mk' general' (vs.toArray.zip vs.toArray) #[] 7 none)).map (·.2)=vs.toArray:=by
  show (vs.toArray.zip vs.toArray).map (·.2)=vs.toArray;refine Array.ext (by simp) fun i h1 h2=>?_;simp
 rw[hout];have s2:=cv h3 a (aL fun _=>vs.toArray);obtain⟨c2,hc2⟩:∃c2,(h3.update a (aL fun _=>vs.toArray)).get? a=some (seqObj "list" vs.toArray c2):=⟨_,ja ho3 fun _=>vs.toArray⟩;refine γ (me ho3 rfl ?_);refine γ (kc ho3 rfl ?_ (aQ _) (by rw[χ,cg];lia));simp only[bne_self_eq_false,gQ,if_false];exact μ (h _ c2 hc2 fun b o hb e=>(s2.2 b hb).trans (hu3 b o hb e))
theorem BV{h h':ae}{ks:List Int}{a:ε}(keep:∀c o,h.get? c=some o->h'.get? c=some o)(hk:gg prog w h ks a):gg prog w h' ks a:=by
 obtain⟨o,it,m,ho,r⟩:=hk;exact⟨o,it,m,keep a o ho,r⟩
theorem xU{α:Type}{lt:α->α->Bool}{f:α->δ}{d:α}{κ:kY}(O:y8 lt){l:ε}{ps:List α}{Q:δ->η->Prop}
  (hk:∀s':η,2≤ps.length->(∀b o,s.heap.get? b=some o->s'.heap.get? b=some o)->(∀(Q:kY->η->Prop) (E':δ->η->Prop),Q κ s'->ρ (model prog w) A.in1.in1 (keyKind' (ps.map f).toArray) Q E' s') ∧
   ∀i j,i<ps.length->j<ps.length->∀C:Bool->η->Prop,C (rK lt d ps i j) s'->jF prog w A.in1.in1 κ (ps.map f) i j C s') (h64:ps.length<64)
  (BZ:∀(R:List δ->η->Prop),(∀s',Moved [] (fun x y=>y=x) s s'->R (ps.map f) s')->ρ (model prog w) A.in1 (collect (.ref l)) R E s)
  (h:∀qs s' c D,tf lt ps qs->s.heap.get? D=none->s'.heap.get? D=some (seqObj "list" (qs.map f).toArray c)->Moved [] (fun x y=>y=x) s s'->Q (.ref D) s'):
  ρ (model prog w) A (call (.builtin "sorted") [.ref l]) Q E s:=by
 refine Calls.call_function_entry kind_sorted plain_sorted entry_sorted (args_sorted1 _) ?_;unfold dC.«sorted»;refine γ (m:=checkCount "sorted" 1 1 _) (μ ?_);refine γ (BZ _ fun s1 hm=>?_);refine γ (oi ?_ (by rw[ξ,cg];lia));have hoL:(s1.heap.push (seqObj "list" (ps.map f).toArray 0)).get? s1.heap.objs.size=some (seqObj "list" (ps.map f).toArray 0):=Ξ _ rfl;have keep0:∀b o,s.heap.get? b=some o->s1.heap.get? b=some o:=fun b o e=>hm.heap b o (fun z=>nomatch z) e;have hfr:s.heap.get? s1.heap.objs.size=none:=by
  cases hz:s.heap.get? s1.heap.objs.size with
  |none=>rfl
  |some o=>exact absurd (Δ (keep0 _ _ hz)) (bS _)
 have keep:∀b o,s.heap.get? b=some o->(s1.heap.push (seqObj "list" (ps.map f).toArray 0)).get? b=some o:=fun b o e=>θ _ (keep0 b o e);show ρ _ _ _ _ _ { s1 with heap:=s1.heap.push (seqObj "list" (ps.map f).toArray 0)};refine γ (cb (bK slot_list_sort ⟨_,hoL,rfl⟩ entry_list_sort ?body (args_list_sort _)));have fin:∀qs h' c,tf lt ps qs->h'.get? s1.heap.objs.size=some (seqObj "list" (qs.map f).toArray c)->(∀b o,b≠s1.heap.objs.size->(s1.heap.push (seqObj "list" (ps.map f).toArray 0)).get? b=some o->h'.get? b=some o)->Q (.ref s1.heap.objs.size) { s1 with heap:=h' }:=fun qs h' c hS e kk=>
  h qs _ c _ hS hfr e ⟨fun b o _ e1=>kk b o (aO (Δ (keep0 b o e1))) (keep b o e1),hm.gens,hm.drawn,hm.os,hm.toks⟩
 case body=>
  by_cases h2:2≤ps.length
  ·refine vk O (s:={ s1 with heap:=s1.heap.push (seqObj "list" (ps.map f).toArray 0)}) hoL (fun h' kk=>hk { s1 with heap:=h' } h2 fun b o e=>kk b o (aO (Δ (keep0 b o e))) (keep b o e)) h2 h64 fun qs h' c hS e kk=>?_;exact⟨_,rfl,μ ⟨_,rfl,fin qs h' c hS e kk⟩⟩
  ·refine t7 (s:={ s1 with heap:=s1.heap.push (seqObj "list" (ps.map f).toArray 0)}) hoL (by rw[ξ];lia) fun h' c e kk=>?_;have hS:tf lt ps ps:=⟨.refl _,by
    rcases ps with _|⟨x,_|⟨y,r⟩⟩
    ·exact .nil
    ·exact lB _ _
    ·simp at h2⟩
   exact⟨_,rfl,μ ⟨_,rfl,fin ps h' c hS e kk⟩⟩
theorem tE{l:ε}{ps:List (List Int×ε)}{Q:δ->η->Prop}(hk:∀p∈ps,gg prog w s.heap p.1 p.2/\p.1≠[])(h64:ps.length<64)
  (BZ:∀(R:List δ->η->Prop),(∀s',Moved [] (fun x y=>y=x) s s'->R (ps.map fT) s')->ρ (model prog w) A.in1 (collect (.ref l)) R E s)
  (h:∀qs s' c D,K8 ps qs->s.heap.get? D=none->s'.heap.get? D=some (seqObj "list" (qs.map fT).toArray c)->Moved [] (fun x y=>y=x) s s'->Q (.ref D) s'):
  ρ (model prog w) A (call (.builtin "sorted") [.ref l]) Q E s:=by
 refine xU (κ:=tuples' true) (d:=([],0)) Ly (fun s' h2 kk=>?_) h64 BZ h;have hk':∀p∈ps,gg prog w s'.heap p.1 p.2/\p.1≠[]:=fun p hp=>⟨BV kk (hk p hp).1,(hk p hp).2⟩;exact⟨fun Q E q=>EX (fun z=>by rw[z] at h2;simp at h2) hk' q,IC fun p hp=>(hk' p hp).1⟩
end
end nM
namespace L3
open PySem PySem.Spec PyProof.Rows L2
structure wb(T:String):Prop where
 ao:∀K,eH K (.type "NoneType") (.type T)=some false
 bl:∀K,eH K (.type "bool") (.type T)=some (T=="bool" || T=="int")
 int:∀K,eH K (.type "int") (.type T)=some (T=="int")
 str:∀K,eH K (.type "str") (.type T)=some (T=="str")
 tup:∀K,eH K (.type "tuple") (.type T)=some (T=="tuple")
 lst:∀K,eH K (.type "list") (.type T)=some (T=="list")
 ff:∀K,eH K (.type "dict") (.type T)=some (T=="dict")
theorem xi:wb "int":=⟨fun _=>rfl,fun _=>rfl,fun _=>rfl,fun _=>rfl,fun _=>rfl,fun _=>rfl,fun _=>rfl⟩
theorem vz:wb "bool":=⟨fun _=>rfl,fun _=>rfl,fun _=>rfl,fun _=>rfl,fun _=>rfl,fun _=>rfl,fun _=>rfl⟩
theorem kit_tuple:wb "tuple":=⟨fun _=>rfl,fun _=>rfl,fun _=>rfl,fun _=>rfl,fun _=>rfl,fun _=>rfl,fun _=>rfl⟩
theorem xh:wb "str":=⟨fun _=>rfl,fun _=>rfl,fun _=>rfl,fun _=>rfl,fun _=>rfl,fun _=>rfl,fun _=>rfl⟩
section
variable {X:Cx} {a e:ν} {es:List ν} {ta:ag} {t:cq} {pos p p2:aE}
theorem wB{T:String}(k:wb T):gs X (.builtin "isinstance") (fun vs H Q=>∃d v G b,vs=[v,.ty T]/\Hv X.K H d v/\aK X.K G H/\ij T G d=some b/\Q (.bl b) H):=by
 intro pins s σ H vs us Q I r h;obtain⟨d,v,G,b,rfl,hd,RG,hb,q⟩:=h;obtain⟨u,c,rfl,ru,rc⟩:=vals2 r;cases (show c=kx T from rc);have fin:∀tk,EP X pins σ Q (.bool b) { s with toks:=tk }:=fun tk=>⟨.bl b,H,I.tok tk,rfl,q⟩
 cases d with
 |ao=>
  unfold Hv at hd;subst hd;cases (show u=bV from ru);cases hb;exact cw PySem.W.kitx_none I.kh nP (k.ao _) (fun z=>nomatch z) fin
 |bl y=>
  rw[uj hd] at ru;cases (show u=jc y from ru);cases hb;exact cw PySem.W.kitx_bool I.kh nP (k.bl _) (fun z=>nomatch z) fin
 |int y=>
  rw[cG hd] at ru;obtain⟨t,rfl⟩:=(show ∃t,u=pL y t from ru);cases hb;exact cw PySem.W.kitx_int I.kh nP (k.int _) (fun z=>nomatch z) fin
 |str y=>
  unfold Hv at hd;subst hd;obtain⟨t,rfl⟩:=(show ∃t,u=pK y t from ru);cases hb;exact cw PySem.W.kitx_str I.kh nP (k.str _) (fun z=>nomatch z) fin
 |tup ds=>
  obtain⟨x,xs,rfl,e1,_⟩:=gD hd;cases (show u=bh x from ru);cases hb;obtain⟨its,_,⟨o,h1,h2,_⟩,_⟩:=I.tuple e1;exact cw PySem.W.kitx_tuple I.kh ⟨o,h1,h2⟩ (k.tup _) (fun z=>nomatch z) fin
 |eW ds=>
  obtain⟨x,xs,rfl,e1,_⟩:=kP hd;cases (show u=bh x from ru);cases hb;obtain⟨its,_,p1,_⟩:=I.list e1.l;obtain⟨o,h1,h2,_⟩:=p1.isList;exact cw kj I.kh ⟨o,h1,h2⟩ (k.lst _) (fun z=>nomatch z) fin
 |dc x=>
  unfold Hv at hd;obtain⟨rfl,ob,φ,e1,c⟩:=hd;cases (show u=bh x from ru);cases hb;obtain⟨h1,_⟩:=I.bD x _ e1;exact cw qv I.kh ⟨ob,h1,c⟩ (k.ff _) (fun z=>nomatch z) fin
 |obj x=>
  rw[dU hd] at ru;cases (show u=bh x from ru);unfold ij at hb;cases hG:G x with
  |none=>simp[hG] at hb
  |some o=>
   have hl:∀xs,H x=some (.lst xs)->∃o,s.heap.get? x=some o/\o.cls=.type "list":=fun xs e=>by
    obtain⟨_,_,n,_,h1⟩:=(show eV X.prog X.w H s.heap x (.lst xs) from I.bD x _ e);exact⟨_,h1,rfl⟩
   cases o with
   |lst ds=>
    simp only[hG] at hb;cases hb;obtain⟨vs,e1,_⟩:=RG x _ hG;obtain⟨o,h1,h2⟩:=hl _ e1;exact cw kj I.kh ⟨o,h1,h2⟩ (k.lst _) (fun z=>nomatch z) fin
   |lM=>
    simp only[hG] at hb;cases hb;obtain⟨_,_,_,e1,_⟩:=RG x _ hG;obtain⟨o,h1,h2⟩:=hl _ e1;exact cw kj I.kh ⟨o,h1,h2⟩ (k.lst _) (fun z=>nomatch z) fin
   |gen R=>simp[hG] at hb
   |ff=>
    simp only[hG] at hb;cases hb;have e1:H x=some (.ext fun h=>∃o,h.get? x=some o/\o.cls=.type "dict"):=RG x _ hG;obtain⟨⟨o,h1,h2⟩,_⟩:=(show eV X.prog X.w H s.heap x _ from I.bD x _ e1);exact cw qv I.kh ⟨o,h1,h2⟩ (k.ff _) (fun z=>nomatch z) fin
theorem Im{T:String}{TS:π}(k:wb T)(hv:eN TS=some (.type T))(ha:bA X a ta)(hm:X.mg "isinstance" = none)(hm2:X.mg TS=none)(hgT:Gl X TS)(hnT:TS≠"__name__")(hdT:(TS==("__debug__":π))=false)(hg:Gl X "isinstance":=by rfl)
  (he:notStar a=true:=by rfl):
  bA X (.Call (.Name "isinstance" p) [a,.Name TS p2] [] pos) (jK T ta):=
 dD (iy (wB k) hg hm rfl (mD ha (mD (Ey (v:=.ty T) hgT hm2 hv rfl hnT hdT) rL (bt rfl)) (bt he)) (he:=bt he) (hpl:=cH rfl)) fun σ H Q ⟨τ,G,Q3,RS,RG,h,k⟩=>by
  refine⟨τ,G,_,RS,RG,h,fun v H1 d G1 h1 S1 R1 q1=>?_⟩;cases hb:ij T G1 d with
  |none=>rw[hb] at q1;exact q1.elim
  |some b=>
   rw[hb] at q1;exact⟨d,v,G1,b,rfl,h1,R1,hb,k _ H1 (.bl b) G1 iX S1 R1 q1⟩
end
def tupI(ns:List Int):D:=.tup (ns.map D.int)
section
variable {P:ah} {w:ar} {H:Hp} {h:ae} {a:ε} {o:HO}
theorem wu(x:eV P w H h a o):∃o,h.get? a=some o:=by
 cases o with
 |lst xs=>obtain⟨_,_,_,_,e⟩:=x;exact⟨_,e⟩
 |tup xs=>obtain⟨_,_,_,o,e,_⟩:=x;exact⟨_,e⟩
 |dK kvs=>obtain⟨_,_,_,_,o,_,_,e,_⟩:=x;exact⟨_,e⟩
 |dT kvs=>obtain⟨_,_,_,_,o,_,_,e,_⟩:=x;exact⟨_,e⟩
 |set S n=>obtain⟨o,_,_,_,e,_⟩:=x;exact⟨_,e⟩
 |ins C dx fs=>obtain⟨_,_,_,e,_⟩:=x;exact⟨_,e⟩
 |own y=>obtain⟨_,e⟩:=x;exact⟨_,e⟩
 |xd fs=>obtain⟨_,⟨_,_,_,e,_⟩,_⟩:=x;exact⟨_,e⟩
 |CU lo hi=>obtain⟨_,_,_,e⟩:=x;exact⟨_,e⟩
 |fx ob u=>obtain⟨e,_⟩:=x;exact⟨_,e⟩
 |tx ps=>exact⟨_,(show h.get? a=some _ from x)⟩
 |met f y=>exact⟨_,(show h.get? a=some _ from x)⟩
 |ext φ=>obtain⟨_,⟨_,e⟩,_⟩:=x;exact⟨_,e⟩
end
section
variable {X:Cx} {pins:List (ε×aJ)} {σ:L2.St} {H:Hp} {s:η}
theorem Inv.Dr(I:Inv X pins σ H s){a:ε}(hn:s.heap.get? a=none):H a=none:=by
 cases e:H a with
 |none=>rfl
 |some o=>
  obtain⟨ob,h⟩:=wu (I.bD a o e);rw[hn] at h;cases h
theorem Inv.Ke{a:ε}{o:HO}{t':Nat}{h':ae}(I:Inv X pins σ H s)(k:∀b u,s.heap.get? b=some u->h'.get? b=some u)(hn:s.heap.get? a=none)(new:eV X.prog X.w (upd H a o) h' a o):
  Inv X pins σ (upd H a o) { s with heap:=h',toks:=t' }:=by
 have hH:=Inv.Dr I hn;have ne:∀b u,s.heap.get? b=some u->b≠a:=fun b u e z=>by rw[z,hn] at e;cases e
 refine I.un ⟨fun b u q _ _ _=>k b u q,fun b u q _ _ _=>⟨u.slots,k b u q⟩,fun b u q n _=>by rw[bp (ne b u q)];exact n,fun b u q _=>⟨u,k b u q⟩,fun b xs q=>by rw[bp (cB q hH)];exact q,
  fun b u xs q=>by rw[bp (cB q hH)];exact q,fun b ps q=>⟨#[],by rw[bp (cB q hH),q];simp⟩⟩ fun b u e=>?_
 by_cases hb:b=a
 ·subst hb;rw[bX] at e;cases e;exact new
 ·rw[bp hb] at e;exact (I.bD b u e).qH (fun c v _ q=>k c v q) (fun c q=>by rw[bp (cB q hH)];exact q) fun c xs q=>by rw[bp (cB q hH)];exact q
theorem vA{ns:List Int}:∀{us:List δ},aH (ns.map V.int) us->ItemsAre (intKind X.prog X.w) ns us:=by
 induction ns with
 |nil=>intro us r;cases r;exact .nil
 |cons n ns ih=>
  intro us r;cases r with
  |cons r1 r2=>
   obtain⟨t,rfl⟩:=(show ∃t,_=pL n t from r1);exact .cons (by show qE n (.int n t)=true;simp[qE]) (ih r2)
theorem qM(I:Inv X pins σ H s):∀{nss:List (List Int)} {vs:List V} {us:List δ},aw X.K H (nss.map tupI) vs->aH vs us ->
  ∃ps:List (List Int×ε),ps.map (·.1)=nss/\vs=ps.map (fun p=>.ref p.2)/\us=ps.map (fun p=>bh p.2)/\∀p∈ps,cJ X.K H p.2 (p.1.map V.int)/\gF.gg X.prog X.w s.heap p.1 p.2
 |[],vs,us,h,r=>by
  cases h.gC;cases r;exact⟨[],rfl,rfl,rfl,fun p hp=>nomatch hp⟩
 |ns::nss,vs,us,h,r=>by
  obtain⟨v,vr,rfl,q1,q2⟩:=h.inv;cases r with
  |cons r1 r2=>
   obtain⟨ps,e1,e2,e3,e4⟩:=qM I q2 r2;obtain⟨a,ws,rfl,z1,z2⟩:=gD q1;have hw:ws=ns.map V.int:=by
    refine gk z2 ?_;clear z2 z1 q1 h e1 e2 e3 e4 q2 r2 r1
    induction ns with
    |nil=>rfl
    |cons n ns ih=>simp[intsOf,ih]
   subst hw;cases (show _=bh a from r1);obtain⟨its,rv,⟨o,h1,h2,n,h3⟩,_⟩:=I.tuple z1;refine⟨(ns,a)::ps,by simp[e1],by simp[e2],by simp[e3],fun p hp=>?_⟩;rcases aa.mp hp with rfl|hp
   ·exact⟨z1,o,its.toArray,n,h1,h2,h3,vA rv⟩
   ·exact e4 p hp
theorem pz{K:ζ}{H:Hp}:∀{qs:List (List Int×ε)},(∀p∈qs,cJ K H p.2 (p.1.map V.int))->aw K H ((qs.map (·.1)).map tupI) (qs.map fun p=>.ref p.2)
 |[],_=>.nil
 |q::qs,h=>.cons (iV (h q Ψ) (aw.ints _)) (pz fun p hp=>h p (Ω _ hp))
theorem tq:∀(qs:List (List Int×ε)),aH (qs.map fun p=>V.ref p.2) (qs.map fun p=>bh p.2)
 |[]=>.nil
 |q::qs=>.cons rfl (tq qs)
def lP(nss:List (List Int)):Prop:=nss.Pairwise fun x y=>nM.lx y x=false
theorem rC{Q:VK}(I:Inv X pins σ H s){ps qs:List (List Int×ε)}{s':η}{c:Nat}{D':ε}(hz:ps.length<64)(hS:nM.K8 ps qs)(hn:s.heap.get? D'=none)(hD:s'.heap.get? D'=some (seqObj "list" (qs.map fun p=>bh p.2).toArray c))
  (hm:Moved [] (fun x y=>y=x) s s') (q:H D'=none->Q (.ref D') (upd H D' (.lst (qs.map fun p=>.ref p.2)))):EP X pins σ Q (.ref D') s':=by
 have e:s'={ s with heap:=s'.heap,toks:=s'.toks }:=by
  cases s';cases s;have h1:=hm.gens;have h2:=hm.drawn;have h3:=hm.os;simp only at h1 h2 h3;subst h1 h2 h3;rfl
 rw[e];refine⟨.ref D',_,Inv.Ke I (o:=.lst (qs.map fun p=>.ref p.2)) (fun b u z=>hm.heap b u (fun y=>nomatch y) z) hn ?_,rfl,q (Inv.Dr I hn)⟩;refine⟨?_,_,c,tq qs,hD⟩;rw[ξ,hS.perm.length_eq,cg];lia
theorem vT(hc:X.calm=true)(hu:X.A.units+64<cLine):gs X (.builtin "sorted") (fun vs H Q=>∃(a:ε) (xs:List V) (nss:List (List Int)),vs=[.ref a]/\du X.K H a xs/\aw X.K H (nss.map tupI) xs/\nss.length<64/\(∀ns∈nss,ns≠[]) ∧
  ∀(p:ε) (mss:List (List Int)) (ys:List V),H p=none->mss.Perm nss->lP mss->aw X.K H (mss.map tupI) ys->Q (.ref p) (upd H p (.lst ys))):=by
 intro pins s σ H vs us Q I r h;obtain⟨a,xs,nss,rfl,hl,hv,hz,hne,q⟩:=h;obtain⟨u,rfl,ru⟩:=vals1 r;cases ru;obtain⟨its,rv,pl,_⟩:=I.list hl;obtain⟨ps,e1,e2,e3,e4⟩:=qM I hv rv;subst e3;have hlen:ps.length=nss.length:=by rw[←e1,ξ]
 refine nM.tE (ps:=ps) (fun p hp=>⟨(e4 p hp).2,hne _ (by rw[←e1];exact aB.mpr ⟨p,hp,rfl⟩)⟩) (by lia) (fun R hR=>?_) fun qs s' c D' hS hn hD hm=>?_
 ·refine collect_list pl.isList (hR _ ⟨fun b o _ e=>?_,rfl,rfl,rfl,Γ _⟩) (by rw[ξ,cg];lia);have hlt:=Δ e;show ((s.heap.push (seqObj "list" #[] 0)).update s.heap.objs.size _).get? b=some o;rw[dG _ _ (gL hlt)];exact θ _ e
 ·refine rC I (by lia) hS hn hD hm fun hf=>?_;refine q _ (qs.map (·.1)) _ hf (by rw[←e1];exact hS.perm.map _) ?_ (pz fun p hp=>(e4 p (hS.perm.mem_iff.mp hp)).1);exact dm.mpr hS.rise
end
end L3
namespace L3
open PySem PySem.Spec PyProof.Rows L2
def uM(P:ah)(w:ar)(b:ε)(zs:List (List Int×ε)):ae->Prop:=fun h=>∃o es ep t,h.get? b=some o/\o.ExactSet/\o.data=.set es ep t/\es.toList=zs.map (gF.ent P w)/\(zs.map (·.1)).Nodup/\t.plain=true ∧
 t.led=(!(w.params.followText "set-order"))/\kR.Tab t (es.toList.map (·.1))
theorem wt{α β:Type}{f:α->β}{l l':List β}(h:l.Perm l'):∀{zs:List α},l'=zs.map f->∃zs':List α,zs'.Perm zs/\l=zs'.map f:=by
 induction h with
 |nil=>
  intro zs e;have:zs=[]:=by simpa using e.symm
  subst this;exact⟨[],.nil,rfl⟩
 |cons x _ ih=>
  intro zs e;cases zs with
  |nil=>cases e
  |cons z zs=>
   simp only[cn,sv] at e;obtain⟨zs',h1,h2⟩:=ih e.2;exact⟨z::zs',h1.cons z,by simp[e.1,h2]⟩
 |swap x y l=>
  intro zs e;rcases zs with _|⟨z,_|⟨z2,zs⟩⟩
  ·cases e
  ·simp at e
  ·simp only[cn,sv] at e;exact⟨z2::z::zs,.swap _ _ _,by simp[e.1,e.2.1,e.2.2]⟩
 |trans _ _ ih1 ih2=>
  intro zs e;obtain⟨z2,h1,h2⟩:=ih2 e;obtain⟨z1,h3,h4⟩:=ih1 h2;exact⟨z1,h3.trans h1,h4⟩
section
variable {X:Cx}
theorem AR(hc:X.calm=true)(hu:X.A.units+64<cLine):gs X (.type "set") (fun vs H Q=>∃(a:ε) (xs:List V) (nss:List (List Int)),vs=[.ref a]/\du X.K H a xs/\aw X.K H (nss.map tupI) xs/\nss.length≤60 ∧
  ∀(b:ε) (zs:List (List Int×ε)),H b=none->(∀p∈zs,cJ X.K H p.2 (p.1.map V.int))->(∀ns,ns∈zs.map (·.1)↔ns∈nss)->(zs.map (·.1)).Nodup->zs.length≤nss.length->Q (.ref b) (upd H b (.ext (uM X.prog X.w b zs)))):=by
 intro pins s σ H vs us Q I r h;obtain⟨a,xs,nss,rfl,hl,hv,hz,q⟩:=h;obtain⟨u,rfl,ru⟩:=vals1 r;cases ru;obtain⟨its,rv,pl,_⟩:=I.list hl;obtain⟨ps,e1,e2,e3,e4⟩:=qM I hv rv;subst e3;have hlen:ps.length=nss.length:=by rw[←e1,ξ]
 refine gF.ua (ps:=ps) (I.ok.hd hc) pl.isList rfl (fun p hp=>(e4 p hp).2) (by lia) (by lia) fun h' tk zs kk hS hD=>?_;obtain⟨o,es,ep,t,S,T⟩:=hS;refine⟨.ref s.heap.objs.size,_,I.laid (o:=.ext (uM X.prog X.w s.heap.objs.size zs)) kk (Γ _) ?_,rfl,q _ zs (I.bD.fresh (Γ _)) (fun p hp=>(e4 p (hD.sub p hp)).1) (fun ns=>?_) S.nd ?_⟩
 ·refine⟨⟨o,es,ep,t,S.at_,S.ex,S.dat,S.ents,S.nd,S.plain,S.led,T⟩,⟨o,S.at_⟩,fun h1 h2 ⟨o',es',ep',t',y1,y⟩ kk2=>⟨o',es',ep',t',kk2 _ y1,y⟩⟩
 ·rw[←e1];constructor
  ·intro hm;obtain⟨p,hp,rfl⟩:=aB.mp hm;exact aB.mpr ⟨p,hD.sub p hp,rfl⟩
  ·intro hm;obtain⟨p,hp,rfl⟩:=aB.mp hm;exact hD.all p hp
 ·rw[←hlen];exact hD.len
theorem vS(hc:X.calm=true)(hu:X.A.units+64<cLine):gs X (.builtin "sorted") (fun vs H Q=>∃(b:ε) (zs:List (List Int×ε)),vs=[.ref b]/\H b=some (.ext (uM X.prog X.w b zs))/\(∀p∈zs,cJ X.K H p.2 (p.1.map V.int))/\zs.length≤60/\(∀p∈zs,p.1≠[]) ∧
  ∀(p:ε) (mss:List (List Int)) (ys:List V),H p=none->mss.Perm (zs.map (·.1))->lP mss->aw X.K H (mss.map tupI) ys->Q (.ref p) (upd H p (.lst ys))):=by
 intro pins s σ H vs us Q I r h;obtain⟨b,zs,rfl,hb,hk,hz,hne,q⟩:=h;obtain⟨u,rfl,ru⟩:=vals1 r;cases ru;obtain⟨⟨o,es,ep,t,y1,y2,y3,y4,y5,y6,y7,T⟩,_⟩:=(show eV X.prog X.w H s.heap b _ from I.bD b _ hb);have hK:∀p∈zs,gF.gg X.prog X.w s.heap p.1 p.2:=fun p hp=>by
  obtain⟨its,rv,⟨o,h1,h2,n,h3⟩,_⟩:=I.tuple (hk p hp);exact⟨o,its.toArray,n,h1,h2,h3,vA rv⟩
 have S:gF.jN X.prog X.w s.heap b o es ep t zs:=⟨y1,y2,y3,y4,hK,y5,y6,y7⟩;obtain⟨zs',p1,p2⟩:=wt (gF.kn X.w b ep es) y4;have jo:es.size=zs.length:=by
  have:es.toList.length=zs.length:=by rw[y4,ξ]
  simpa using this
 refine nM.tE (ps:=zs') (fun p hp=>⟨hK p (p1.mem_iff.mp hp),hne p (p1.mem_iff.mp hp)⟩) (by rw[p1.length_eq];lia) (fun R hR=>?_) fun qs s' c D' hS hn hD hm=>?_
 ·refine gF.sy (by have:=I.ok.hd hc;simpa using this) S.wk T (by lia) fun s' hm=>?_;have:=hR s' hm;rw[p2,dg];exact this
 ·refine rC I (by rw[p1.length_eq];lia) hS hn hD hm fun hf=>?_;refine q _ (qs.map (·.1)) _ hf ((hS.perm.map _).trans (p1.map _)) ?_ (pz fun p hp=>hk p (p1.mem_iff.mp (hS.perm.mem_iff.mp hp)));exact dm.mpr hS.rise
end
section
variable {X:Cx} {K:ζ} {e:ν} {es:List ν} {t:cq} {ta:ag} {pos p p' pos':aE}
def nk:C3:=fun ds G Q=>match ds with
 |[.obj a]=>∃nss:List (List Int),G a=some (.lst (nss.map tupI))/\nss.length<64/\(∀ns∈nss,ns≠[])/\∀(p:ε) (mss:List (List Int)) (G':Gp),dv G p (.lst (mss.map tupI)) G'->mss.Perm nss->lP mss->Q (.obj p) G'
 |_=>False
theorem BR:kT K nk (fun vs H Q=>∃(a:ε) (xs:List V) (nss:List (List Int)),vs=[.ref a]/\du K H a xs/\aw K H (nss.map tupI) xs/\nss.length<64/\(∀ns∈nss,ns≠[]) ∧
  ∀(p:ε) (mss:List (List Int)) (ys:List V),H p=none->mss.Perm nss->lP mss->aw K H (mss.map tupI) ys->Q (.ref p) (upd H p (.lst ys))):=fun ds vs G H Q3 Q h RG q k=>by
 rcases ds with _|⟨d,_|⟨d2,ds⟩⟩
 ·exact q.elim
 ·obtain⟨v,rfl,hv⟩:=i3 h;cases d with
  |obj a=>
   obtain⟨nss,e1,hz,hne,q⟩:=q;obtain⟨xs,e2,e3⟩:=RG a _ e1;rw[dU hv];exact⟨a,xs,nss,rfl,.of e2,e3,hz,hne,fun p mss ys hp h1 h2 h3=>k _ _ (.obj p) _ kM (.i0 hp) (RG.qO hp h3) (q p mss _ (.mk' (RG.free hp)) h1 h2)⟩
  |_=>exact q.elim
 ·cases d<;>exact q.elim
theorem AK(hu:X.A.units+64<cLine)(hm:X.mg "sorted" = none)(ha:hZ X (e::es) t)(hc:X.calm=true:=by rfl)(hg:Gl X "sorted":=by rfl)(he:notStar e=true:=by rfl)(hpl:es.all notStar=true:=by rfl):
  bA X (.Call (.Name "sorted" p) (e::es) [] pos) (cx nk t):=nH BR (iy (vT hc hu) hg hm rfl ha (he:=bt he) (hpl:=cH hpl))
def qX(ta:ag):ag:=fun τ G Q=>ta τ G fun x G1=>match x with
 |.obj a=>∃nss:List (List Int),G1 a=some (.lst (nss.map tupI))/\nss.length≤60/\(∀ns∈nss,ns≠[])/\∀(p:ε) (mss:List (List Int)) (G':Gp),dv G1 p (.lst (mss.map tupI)) G'->(∀ns,ns∈mss↔ns∈nss)->mss.Nodup->lP mss->mss.length≤nss.length->Q (.obj p) G'
 |_=>False
theorem AL(hu:X.A.units+64<cLine)(ha:bA X e ta)(hm:X.mg "sorted" = none)(hm2:X.mg "set" = none)(hc:X.calm=true:=by rfl)(hg:Gl X "sorted":=by rfl)(hg2:Gl X "set":=by rfl)(he2:notStar e=true:=by rfl):
  bA X (.Call (.Name "sorted" p) [.Call (.Name "set" p') [e] [] pos'] [] pos) (qX ta):=
 dD (iy (vS hc hu) hg hm rfl (mD (jV (AR hc hu) hg2 hm2 rfl (mD ha rL (bt he2)) (he:=bt he2) (hpl:=cH rfl)) rL (bt rfl)) (he:=bt rfl) (hpl:=cH rfl)) fun σ H Q ⟨τ,G,Q3,RS,RG,h,k⟩=>by
  refine⟨τ,G,_,RS,RG,h,fun v H1 d G1 h1 S1 R1 q1=>?_⟩;cases d with
  |obj a=>
   obtain⟨nss,e1,hz,hne,q⟩:=q1;obtain⟨xs,e2,e3⟩:=R1 a _ e1;rw[dU h1];refine⟨a,xs,nss,rfl,.of e2,e3,hz,fun b zs hb hk hmem hnd hlen=>?_⟩;have E2:Ext H1 (upd H1 b (.ext (uM X.prog X.w b zs))):=.laid hb;refine⟨b,zs,rfl,bX,fun p hp=>cJ.ext E2 (hk p hp),by lia,fun p hp=>hne _ ((hmem _).mp (aB.mpr ⟨p,hp,rfl⟩)),fun p mss ys hp hpm hr hv=>?_⟩;have R2:aK X.K G1 (upd H1 b (.ext (uM X.prog X.w b zs))):=R1.laid hb;refine k _ _ (.obj p) _ kM ((S1.trans (.laid hb)).trans (.i0 hp)) (R2.qO hp hv) (q p mss _ (.mk' (R2.free hp)) (fun ns=>?_) ?_ hr ?_)
   ·rw[hpm.mem_iff];exact hmem ns
   ·exact hpm.nodup_iff.mpr hnd
   ·rw[hpm.length_eq,ξ];exact hlen
  |_=>exact q1.elim
def nK:List D->Option (List Bool)
 |[]=>some []
 |.bl b::r=>(nK r).map (b::·)
 |_::_=>none
theorem sf{H:Hp}:∀{ds:List D} {vs:List V} {bs:List Bool},aw K H ds vs->nK ds=some bs->vs=bs.map V.bl
 |[],vs,ns,h,e=>by
  cases e;exact h.gC
 |d::ds,vs,ns,h,e=>by
  cases d with
  |bl i=>
   obtain⟨v,r,rfl,z1,z2⟩:=h.inv;unfold nK at e;cases hm:nK ds with
   |none=>rw[hm] at e;cases e
   |some ms=>
    rw[hm] at e;cases e;rw[uj z1,sf z2 hm];rfl
  |_=>cases e
theorem uv:∀{bs:List Bool} {us:List δ},aH (bs.map V.bl) us->us=bs.map jc
 |[],_,.nil=>rfl
 |b::bs,_,.cons r rr=>by
  rw[(show _=jc b from r),uv rr];rfl
theorem range_all(bs:List Bool):(aq bs.length).all (fun i=>bs.getD i false)=bs.all id:=by
 rw[jk];simp only[cP,bJ,id_eq];constructor
 ·intro h b hb;obtain⟨i,hi,rfl⟩:=List.mem_iff_getElem.mp hb;have:=h i hi;simpa [j5,hi] using this
 ·intro h i hi;have:=h bs[i] (lp hi);simpa [j5,hi] using this
theorem Fs(hc:X.calm=true){pins:List (ε×aJ)}{s:η}{σ:L2.St}{H:Hp}{a:ε}{xs:List V}{E:δ->η->Prop}(I:Inv X pins σ H s)(hl:du X.K H a xs){Q:δ->η->Prop}
  (q:∀(its:List δ) (I':ε),aH xs its->WalksS X.prog X.w X.A.in1 I' [I',a] [I'] (fun x y=>y=x) its.length (fun i v=>its[i]?=some v) (fun i s=>s.heap.IsListIter I' a i/\s.heap.IsList a its.toArray) ->
   (s.heap.push { cls:=.type "list_iterator",data:=.fields #[.ref a,.int 0 0]}).IsListIter I' a 0->(s.heap.push { cls:=.type "list_iterator",data:=.fields #[.ref a,.int 0 0]}).IsList a its.toArray ->
   (∀b∈[I',a],b<(s.heap.push { cls:=.type "list_iterator",data:=.fields #[.ref a,.int 0 0]}).objs.size) ->
   (∀s',Moved [I'] (fun x y=>y=x) { s with heap:=s.heap.push { cls:=.type "list_iterator",data:=.fields #[.ref a,.int 0 0]}} s'->Inv X pins σ H s')->Q (.ref I') { s with heap:=s.heap.push { cls:=.type "list_iterator",data:=.fields #[.ref a,.int 0 0]}}):
  ρ (model X.prog X.w) X.A.in1 (pyIter (.ref a)) Q E s:=by
 obtain⟨its,rv,pl,_⟩:=I.list hl;have hla:a<s.heap.objs.size:=by
  obtain⟨o,h1,_⟩:=pl.isList;exact Δ h1
 refine dk pl.isList ?_;have hW:=(Walks.list (prog:=X.prog) (w:=X.w) (A:=X.A.in1) (by have:=I.ok.hd hc;simpa using this) s.heap.objs.size a (aO hla) its.toArray).toS;refine q its s.heap.objs.size rv (by simpa using hW) ⟨_,Ξ _ rfl,rfl,rfl⟩ ?_ ?_ fun s' hm=>?_
 ·obtain⟨o,h1,h2⟩:=pl.isList;exact⟨o,θ _ h1,h2⟩
 ·intro b hb;rw[size_push'];rcases aa.mp hb with e|e
  ·rw[e];exact iG _
  ·have:b=a:=by simpa using e
   rw[this];exact fE hla
 ·have e:s'={ s with heap:=s'.heap,toks:=s'.toks }:=by
   cases s';cases s;have h1:=hm.gens;have h2:=hm.drawn;have h3:=hm.os;simp only at h1 h2 h3;subst h1 h2 h3;rfl
  rw[e];exact I.kept fun b u z=>hm.heap b u (fun y=>by
   have:b=s.heap.objs.size:=by simpa using y
   exact absurd (this▸Δ z) (bS _)) (θ _ z)
theorem AV(hc:X.calm=true):gs X (.builtin "all") (fun vs H Q=>∃(a:ε) (bs:List Bool),vs=[.ref a]/\du X.K H a (bs.map V.bl)/\Q (.bl (bs.all id)) H):=by
 intro pins s σ H vs us Q I r h;obtain⟨a,bs,rfl,hl,q⟩:=h;obtain⟨u,rfl,ru⟩:=vals1 r;cases ru;refine call_all_walkS (Fs hc I hl fun its I' rv W h1 h2 h3 back=>⟨I',_,_,_,_,_,_,fun i=>bs.getD i false,rfl,W,⟨h1,h2⟩,?_,fun s' hm=>?_⟩)
 ·intro i v s' Q' E' hv hq;have hx:=uv rv;subst hx;rw[av] at hv;cases hb:bs[i]? with
  |none=>rw[hb] at hv;cases hv
  |some b=>
   rw[hb] at hv;cases hv;have:bs.getD i false=b:=by simp[j5,hb]
   dsimp only at hq;rw[this] at hq;exact cu hq
 ·have:its.length=bs.length:=by rw[←rv.length,ξ]
  rw[this,range_all];exact⟨.bl (bs.all id),H,back s' hm,rfl,q⟩
def lI:C3:=fun ds G Q=>match ds with
 |[.obj a]=>∃xs bs,G a=some (.lst xs)/\nK xs=some bs/\Q (.bl (bs.all id)) G
 |_=>False
theorem Kj:kT K lI (fun vs H Q=>∃(a:ε) (bs:List Bool),vs=[.ref a]/\du K H a (bs.map V.bl)/\Q (.bl (bs.all id)) H):=fun ds vs G H Q3 Q h RG q k=>by
 rcases ds with _|⟨d,_|⟨d2,ds⟩⟩
 ·exact q.elim
 ·obtain⟨v,rfl,hv⟩:=i3 h;cases d with
  |obj a=>
   obtain⟨xs,bs,e1,e2,q⟩:=q;obtain⟨ys,e3,e4⟩:=RG a _ e1;rw[dU hv];rw[sf e4 e2] at e3;exact⟨a,bs,rfl,.of e3,k _ H _ G iX (.refl H G) RG q⟩
  |_=>exact q.elim
 ·cases d<;>exact q.elim
theorem Il(hu:X.A.units+64<cLine)(hm:X.mg "all" = none)(ha:hZ X (e::es) t)(hc:X.calm=true:=by rfl)(hg:Gl X "all":=by rfl)(he:notStar e=true:=by rfl)(hpl:es.all notStar=true:=by rfl):
  bA X (.Call (.Name "all" p) (e::es) [] pos) (cx lI t):=nH Kj (iy (AV hc) hg hm rfl ha (he:=bt he) (hpl:=cH hpl))
end
end L3
namespace L3
open PySem PySem.Spec PyProof.Rows L2
open Sem (wp)
def Ik(k:Bool)(h:ae)(jt a:ε)(i:Nat):Prop:=match k with
 |true=>h.IsListIter jt a i
 |false=>h.IsTupleIter jt a i
def Sk(k:Bool)(h:ae)(a:ε)(xs:Array δ):Prop:=match k with
 |true=>h.IsList a xs
 |false=>h.IsTuple a xs
theorem Ik.of{k:Bool}{h h':ae}{jt a:ε}{i:Nat}(x:Ik k h jt a i)(f:∀o,h.get? jt=some o->h'.get? jt=some o):Ik k h' jt a i:=by
 cases k<;>(obtain⟨o,e,r⟩:=x;exact⟨o,f o e,r⟩)
theorem Sk.of{k:Bool}{h h':ae}{a:ε}{xs:Array δ}(x:Sk k h a xs)(f:∀o,h.get? a=some o->h'.get? a=some o):Sk k h' a xs:=by
 cases k<;>(obtain⟨o,e,r⟩:=x;exact⟨o,f o e,r⟩)
theorem Ik.obj{k:Bool}{h:ae}{jt a:ε}{i:Nat}(x:Ik k h jt a i):∃o,h.get? jt=some o/\∀v,o.data≠.cell v:=by
 cases k<;>(obtain⟨o,e,c,d⟩:=x;exact⟨o,e,fun v z=>by rw[d] at z;cases z⟩)
section
variable {P:ah} {w:ar} {A:bo} {E:δ->η->Prop} {s:η}
theorem nextK{k:Bool}{jt a:ε}{i:Nat}{xs:Array δ}{u:δ}{Q:δ->η->Prop}(hi:Ik k s.heap jt a i)(ha:Sk k s.heap a xs)(hx:xs[i]?=some u)
  (q:∀h',Ik k h' jt a (i+1)->dh jt s.heap h'->Q u { s with heap:=h' }):ρ (model P w) A (bH (.ref jt)) Q E s:=by
 cases k with
 |true=>exact wpAny_nextOf_list_item hi ha hx q
 |false=>
  have hi:s.heap.IsTupleIter jt a i:=hi;obtain⟨o,e1,c1,d1⟩:=id hi;obtain⟨oa,e2,c2,n2,d2⟩:=(show s.heap.IsTuple a xs from ha);unfold bH;refine γ (bE (name:=aA "__next__") hi.typeIs F.slot_tuple_iterator_next (bK F.slot_tuple_iterator_next hi.typeIs F.entry_tuple_iterator_next ?_ (F.args_tuple_iterator_next_1 _)));show ρ _ _ (field (.ref jt) 0 >>= _) _ _ s;refine γ (bY e1 d1 (x:=.ref a) rfl ?_);show ρ _ _ (if (bh a==bV)=true then _ else _) _ _ s;rw[if_neg (show ¬((bh a==bV)=true) from af)];show ρ _ _ (field (.ref jt) 1 >>= _) _ _ s;refine γ (bY e1 d1 (x:=.int i 0) rfl ?_);show ρ _ _ (seqItems? (.ref a) >>= _) _ _ s;refine γ (cC e2 d2 ?_);simp only[hx,km];refine γ (wpAny_setField e1 d1 (by simp) (μ ⟨u,rfl,μ (q _ ?_ (cv ..))⟩));exact⟨_,dP _ e1 (aJ.isFreed_of_fields (aJ.data_mapFields d1 _)),(aJ.cls_mapFields ..).trans c1,by rw[aJ.data_mapFields d1];simp[rawInt]⟩
theorem lN{k:Bool}{jt a:ε}{i:Nat}{xs:Array δ}{Q:δ->η->Prop}(hh:A.handled=none)(hi:Ik k s.heap jt a i)(ha:Sk k s.heap a xs)(hx:xs[i]?=none)
  (q:∀h' e,qG jt s.heap h'->(∃o,h'.get? e=some o/\o.cls=.type "StopIteration")->E (.ref e) { s with heap:=h' }):ρ (model P w) A (bH (.ref jt)) Q E s:=by
 cases k with
 |true=>exact wpAny_nextOf_list_end hh hi ha hx q
 |false=>
  have hi:s.heap.IsTupleIter jt a i:=hi;obtain⟨o,e1,c1,d1⟩:=id hi;obtain⟨oa,e2,c2,n2,d2⟩:=(show s.heap.IsTuple a xs from ha);unfold bH;refine γ (bE (name:=aA "__next__") hi.typeIs F.slot_tuple_iterator_next (bK F.slot_tuple_iterator_next hi.typeIs F.entry_tuple_iterator_next ?_ (F.args_tuple_iterator_next_1 _)));show ρ _ _ (field (.ref jt) 0 >>= _) _ _ s;refine γ (bY e1 d1 (x:=.ref a) rfl ?_);show ρ _ _ (if (bh a==bV)=true then _ else _) _ _ s;rw[if_neg (show ¬((bh a==bV)=true) from af)];show ρ _ _ (field (.ref jt) 1 >>= _) _ _ s;refine γ (bY e1 d1 (x:=.int i 0) rfl ?_);show ρ _ _ (seqItems? (.ref a) >>= _) _ _ s;refine γ (cC e2 d2 ?_);simp only[hx,km];refine γ (kv (γ (wpAny_setField e1 d1 (by simp) ?_)));show ρ _ _ (newExc (.type "StopIteration") [] >>= _) _ _ ({ s with heap:=_ }:η);refine γ ?_;simp only[newTuple,newExc];refine γ (bN ?_ (by size_fits));refine γ (m:=firstArgMember _ _) (jP (a:=bV) (by first|(simp only[firstArgMember];rfl)|rfl) ?_)
  refine bN ?_ (by size_fits);simp only[raiseNew];refine γ (wpAny_handled ?_)
  first|rw[hh]|rw[show A.in1.handled=none from hh]
  refine γ (μ (wpAny_throw ?_));exact q _ _ (((cv ..).extBut.push _).push _) ⟨_,Ξ _ rfl,rfl⟩
theorem Le{k1 k2:Bool}{zz ti ot j1 j2 a1 a2:ε}{m n:Nat}{xs ys:Array δ}{u v c d:δ}{Q:δ->η->Prop}(D:ZipApart zz ti ot j1 j2 a1 a2)
  (Z:iu s.heap zz ti ot .none) (Ti:eR s.heap ti (.ref j1) (.ref j2)) (To:eR s.heap ot c d) (g1:Ik k1 s.heap j1 a1 m) (g2:Ik k2 s.heap j2 a2 n) (s1:Sk k1 s.heap a1 xs) (s2:Sk k2 s.heap a2 ys) (hu:xs[m]?=some u) (hv:ys[n]?=some v)
  (q:∀h',iu h' zz ti ot (rawInt s.heap.objs.size)->eR h' ot u v->Ik k1 h' j1 a1 (m+1)->Ik k2 h' j2 a2 (n+1)->eR h' s.heap.objs.size u v ->
   (∀b o,b≠zz->b≠ot->b≠j1->b≠j2->s.heap.get? b=some o->h'.get? b=some o)->Q (.ref s.heap.objs.size) { s with heap:=h' }):
  ρ (model P w) A (dC.«zip.__next__» ⟨[.ref zz],[]⟩) (fun fin s'=>∃r,fin=.done (.ret r)/\Q r s') E s:=by
 show ρ _ _ (field (.ref zz) 2 >>= _) _ _ _;refine γ (bY Z rfl (x:=.bool false) rfl ?_);show ρ _ _ (field (.ref zz) 3 >>= _) _ _ _;refine γ (bY Z rfl (x:=.ref ti) rfl ?_);refine γ (cC Ti rfl ?_);show ρ _ _ (cE (.ref zz) >>= _) _ _ _;refine γ ?_;unfold cE;refine γ (bY Z rfl (x:=.none) rfl (μ ?_));simp only[if_true];refine γ (kv ?_);refine γ (bY Z rfl (x:=.ref ot) rfl ?_);refine γ (cm Z (by simp) fun w1 Z1 b1=>?_)
 replace Z1:iu w1 zz ti ot .ellipsis:=Z1
 refine γ ?_
 (simp only[List.zipIdx_nil,List.zipIdx_cons,List.forIn_nil,lU])
 have k1_:∀b o,b≠zz->s.heap.get? b=some o->w1.get? b=some o:=fun b o h e=>b1.extBut b o h e;refine γ (γ (j9 ?_));show ρ _ _ (bH (.ref j1) >>= _) _ _ _;refine γ (nextK (g1.of fun o e=>k1_ _ o D.i1z e) (s1.of fun o e=>k1_ _ o D.l1z e) hu fun w2 J1 b2=>μ ?_);have k2_:∀b o,b≠zz->b≠j1->s.heap.get? b=some o->w2.get? b=some o:=fun b o h h2 e=>b2.extBut b o h2 (k1_ b o h e);have To2:eR w2 ot c d:=k2_ _ _ D.TOz D.TOi1 To;refine γ (cC To2 rfl ?_);refine γ (i8 To2 fun w3 To3 b3=>?_)
 replace To3:eR w3 ot u d:=To3
 have k3_:∀b o,b≠zz->b≠j1->b≠ot->s.heap.get? b=some o->w3.get? b=some o:=fun b o h h2 h3 e=>b3.extBut b o h3 (k2_ b o h h2 e);refine γ (wpAny_letGo (μ ?_));refine γ (γ (j9 ?_));show ρ _ _ (bH (.ref j2) >>= _) _ _ _;refine γ (nextK (g2.of fun o e=>k3_ _ o D.i2z D.i12.symm D.TOi2.symm e) (s2.of fun o e=>k3_ _ o D.l2z D.l2i1 D.l2TO e) hv fun w4 J2 b4=>μ ?_);have To4:eR w4 ot u d:=b4.extBut _ _ D.TOi2 To3;refine γ (cC To4 rfl ?_);refine γ (i8 To4 fun w5 To5 b5=>?_)
 replace To5:eR w5 ot u v:=To5
 refine γ (wpAny_letGo (μ (μ ?_)));refine γ (cC To5 rfl ?_);refine γ (mN ?_);have sz:w5.objs.size=s.heap.objs.size:=by rw[b5.1,b4.1,b3.1,b2.1,b1.1]
 have Z5:iu w5 zz ti ot .ellipsis:=b5.extBut _ _ D.TOz.symm (b4.extBut _ _ D.i2z.symm (b3.extBut _ _ D.TOz.symm (b2.extBut _ _ D.i1z.symm Z1)));have k5_:∀b o,b≠zz->b≠ot->b≠j1->b≠j2->s.heap.get? b=some o->w5.get? b=some o:=fun b o c1 c2 c3 c4 e=>b5.extBut _ _ c2 (b4.extBut _ _ c4 (k3_ b o c1 c3 c2 e));have L1:Ik k1 w5 j1 a1 (m+1):=J1.of fun o e=>b5.extBut _ _ D.TOi1.symm (b4.extBut _ _ D.i12 (b3.extBut _ _ D.TOi1.symm e));have L2:Ik k2 w5 j2 a2 (n+1):=J2.of fun o e=>b5.extBut _ _ D.TOi2.symm e;have lz:zz<w5.objs.size:=Δ Z5;show ρ _ _ (gP (.ref zz) (.ref w5.objs.size) >>= _) _ _ _;refine γ ?_;unfold gP;have Z6:iu (w5.push { cls:=.type "tuple",data:=.seq #[u,v]}) zz ti ot .ellipsis:=θ _ Z5;refine γ (cm Z6 (by simp) fun w7 Z7 b7=>?_)
 replace Z7:iu w7 zz ti ot (rawInt w5.objs.size):=Z7
 refine cm Z7 (by simp) fun w8 Z8 b8=>?_
 replace Z8:iu w8 zz ti ot (rawInt w5.objs.size):=Z8
 have up:∀b o,b≠zz->w5.get? b=some o->w8.get? b=some o:=fun b o c1 e=>b8.extBut _ _ c1 (b7.extBut _ _ c1 (θ _ e));have T8:eR w8 w5.objs.size u v:=b8.extBut _ _ (gL lz) (b7.extBut _ _ (gL lz) (Ξ _ rfl));rw[sz] at Z8 T8;refine μ ⟨_,rfl,?_⟩;show Q (.ref w5.objs.size) _;rw[sz];exact q w8 Z8 (up _ _ D.TOz To5) (L1.of fun o e=>up _ o D.i1z e) (L2.of fun o e=>up _ o D.i2z e) T8 fun b o c1 c2 c3 c4 e=>up b o c1 (k5_ b o c1 c2 c3 c4 e)
theorem A1{k1 k2:Bool}{zz ti ot j1 j2 a1 a2:ε}{m n:Nat}{xs ys:Array δ}{c d:δ}{Q:Fin->η->Prop}(hh:A.handled=none)(D:ZipApart zz ti ot j1 j2 a1 a2)
  (Z:iu s.heap zz ti ot .none) (Ti:eR s.heap ti (.ref j1) (.ref j2)) (To:eR s.heap ot c d) (g1:Ik k1 s.heap j1 a1 m) (g2:Ik k2 s.heap j2 a2 n) (s1:Sk k1 s.heap a1 xs) (s2:Sk k2 s.heap a2 ys) (he:xs[m]?=none∨ys[n]?=none)
  (q:∀h' e,(∀b o,b≠zz->b≠ot->b≠j1->b≠j2->s.heap.get? b=some o->h'.get? b=some o)->(∃o,h'.get? e=some o/\o.cls=.type "StopIteration")->E (.ref e) { s with heap:=h' }):
  ρ (model P w) A (dC.«zip.__next__» ⟨[.ref zz],[]⟩) Q E s:=by
 show ρ _ _ (field (.ref zz) 2 >>= _) _ _ _;refine γ (bY Z rfl (x:=.bool false) rfl ?_);show ρ _ _ (field (.ref zz) 3 >>= _) _ _ _;refine γ (bY Z rfl (x:=.ref ti) rfl ?_);refine γ (cC Ti rfl ?_);show ρ _ _ (cE (.ref zz) >>= _) _ _ _;refine γ ?_;unfold cE;refine γ (bY Z rfl (x:=.none) rfl (μ ?_));simp only[if_true];refine γ (kv ?_);refine γ (bY Z rfl (x:=.ref ot) rfl ?_);refine γ (cm Z (by simp) fun w1 Z1 b1=>?_)
 replace Z1:iu w1 zz ti ot .ellipsis:=Z1
 refine γ ?_
 (simp only[List.zipIdx_nil,List.zipIdx_cons,List.forIn_nil,lU])
 have k1_:∀b o,b≠zz->s.heap.get? b=some o->w1.get? b=some o:=fun b o h e=>b1.extBut b o h e;refine γ (γ (j9 ?_));show ρ _ _ (bH (.ref j1) >>= _) _ _ _;cases hx:xs[m]? with
 |none=>
  refine γ (lN hh (g1.of fun o e=>k1_ _ o D.i1z e) (s1.of fun o e=>k1_ _ o D.l1z e) hx fun w2 e b2 hs=>?_);obtain⟨oe,e1,e2⟩:=hs;have Z2:iu w2 zz ti ot .ellipsis:=b2 _ _ D.i1z.symm Z1;have ez:e≠zz:=fun x=>by
   subst x;rw[Z2] at e1;cases e1;simp at e2
  exact cm Z2 (by simp) fun w3 _ b3=>q w3 e (fun b o c1 _ c3 _ x=>b3.extBut _ _ c1 (b2 _ _ c3 (k1_ b o c1 x))) ⟨oe,b3.extBut _ _ ez e1,e2⟩
 |some u=>
  have hy:ys[n]?=none:=by
   rcases he with h|h
   ·rw[hx] at h;cases h
   ·exact h
  refine γ (nextK (g1.of fun o e=>k1_ _ o D.i1z e) (s1.of fun o e=>k1_ _ o D.l1z e) hx fun w2 J1 b2=>μ ?_);have k2_:∀b o,b≠zz->b≠j1->s.heap.get? b=some o->w2.get? b=some o:=fun b o h h2 e=>b2.extBut b o h2 (k1_ b o h e);have To2:eR w2 ot c d:=k2_ _ _ D.TOz D.TOi1 To;refine γ (cC To2 rfl ?_);refine γ (i8 To2 fun w3 To3 b3=>?_);have k3_:∀b o,b≠zz->b≠j1->b≠ot->s.heap.get? b=some o->w3.get? b=some o:=fun b o h h2 h3 e=>b3.extBut b o h3 (k2_ b o h h2 e);refine γ (wpAny_letGo (μ ?_));refine γ (γ (j9 ?_));show ρ _ _ (bH (.ref j2) >>= _) _ _ _;refine γ (lN hh (g2.of fun o e=>k3_ _ o D.i2z D.i12.symm D.TOi2.symm e) (s2.of fun o e=>k3_ _ o D.l2z D.l2i1 D.l2TO e) hy fun w4 e b4 hs=>?_);obtain⟨oe,e1,e2⟩:=hs;have Z4:iu w4 zz ti ot .ellipsis:=b4 _ _ D.i2z.symm (b3.extBut _ _ D.TOz.symm (b2.extBut _ _ D.i1z.symm Z1));have ez:e≠zz:=fun x=>by
   subst x;rw[Z4] at e1;cases e1;simp at e2
  exact cm Z4 (by simp) fun w5 _ b5=>q w5 e (fun b o c1 c2 c3 c4 x=>b5.extBut _ _ c1 (b4 _ _ c4 (k3_ b o c1 c3 c2 x))) ⟨oe,b5.extBut _ _ ez e1,e2⟩
end
end L3
namespace L3
open PySem PySem.Spec PyProof.Rows L2
open Sem (wp)
section
variable {X:Cx} {pins:List (ε×aJ)} {σ:L2.St} {H:Hp} {s:η}
theorem pT{h':ae}{t':Nat}{fp:List ε}(I:L2.Inv X pins σ H s)(k:∀b o,b∉fp->s.heap.get? b=some o->h'.get? b=some o)(hf:∀b∈fp,gH X pins H b):L2.Inv X pins σ H { s with heap:=h',toks:=t' }:=by
 have nit:∀b u,H b=some u->b∉fp:=fun b u e z=>by rw[(hf b z).1] at e;cases e
 refine I.step (g':=s.gens) (d':=s.drawn) (ch:=fp) (fun b hb=>?_) (fun b o _ _ hc e _=>k b o hc e) (fun b o _ _ hc e _=>⟨o.slots,k b o hc e⟩) (fun _ _ _ _ n=>n) (fun b o hc e=>⟨o,k b o hc e⟩) (fun _ _ e=>e) (fun _ _ _ e=>e) (fun b ps e=>⟨#[],by rw[e];simp⟩) (fun m hm=>?_) (fun b u e=>?_) I.bare
 ·obtain⟨f0,f1,f2,f3,f4,f5⟩:=hf b hb;exact⟨f3,f1,f4,f5⟩
 ·obtain⟨o,es,ep,ho,r⟩:=hm;exact⟨o,es,ep,k _ o (fun z=>(hf _ z).2.1 rfl) ho,r⟩
 ·refine (I.bD b u e).qH (fun c v hc q=>k c v ?_ q) (fun _ q=>q) fun _ _ q=>q;rcases hc with z|z
  ·rw[z];exact nit b u e
  ·exact nit c _ z
def fU(K:ζ)(k:Bool)(H:Hp)(a:ε)(xs:List V):Prop:=match k with
 |true=>du K H a xs
 |false=>cJ K H a xs
theorem fU.heap{k:Bool}{a:ε}{xs:List V}(I:L2.Inv X pins σ H s)(h:fU X.K k H a xs):∃its,aH xs its/\Sk k s.heap a its.toArray:=by
 cases k with
 |true=>
  obtain⟨its,rv,p,hz⟩:=I.list (show du X.K H a xs from h);exact⟨its,rv,p.isList⟩
 |false=>
  obtain⟨its,rv,p,hz⟩:=I.tuple (show cJ X.K H a xs from h);exact⟨its,rv,p⟩
theorem fU.inj{k:Bool}{a:ε}{xs ys:List V}(I:L2.Inv X pins σ H s)(h:fU X.K k H a xs)(h':fU X.K k H a ys):xs=ys:=by
 cases k with
 |true=>exact I.vm (show du X.K H a xs from h) (show du X.K H a ys from h')
 |false=>exact I.tv (show cJ X.K H a xs from h) (show cJ X.K H a ys from h')
theorem fU.apart{k:Bool}{a b:ε}{xs:List V}(I:L2.Inv X pins σ H s)(h:fU X.K k H a xs)(f:gH X pins H b):a≠b:=by
 intro z;subst z;have hb:(∃u,H a=some u)∨∃o,X.K.lookup a=some o:=by
  cases k <;>
  ·rcases h with (h|⟨o,h⟩)|⟨o,_,_,h,_⟩
   ·exact .inl ⟨_,h⟩
   ·exact .inl ⟨_,h⟩
   ·exact .inr ⟨_,h⟩
 rcases hb with⟨u,e⟩|⟨o,e⟩
 ·rw[f.1] at e;cases e
 ·have e2:=I.mod.Dl a o e;rcases f.2.2.2.1 with q|q
  ·exact I.ok.qN a o e2 q
  ·exact absurd (aP (Δ (I.ok.bs a o e2).1) q) (bS _)
end
def K9(K:ζ)(k1 k2:Bool)(a1 a2:ε):It:=
 ⟨fun i H=>∃xs ys x y,(fU K k1 H a1 xs/\xs[i]?=some x)/\fU K k2 H a2 ys/\ys[i]?=some y,
  fun i H x H'=>∃T u v,x=.ref T/\H T=none/\H'=upd H T (.tup [u,v])/\(∀xs,fU K k1 H a1 xs->xs[i]?=some u)/\∀ys,fU K k2 H a2 ys->ys[i]?=some v,
  fun i H=>∃xs ys,fU K k1 H a1 xs/\fU K k2 H a2 ys/\(xs.length≤i∨ys.length≤i)⟩
theorem K0{zz ti ot j1 j2 a1 a2:ε}(h:[zz,ti,ot,j1,j2].Nodup)(h1:∀b∈[zz,ti,ot,j1,j2],a1≠b)(h2:∀b∈[zz,ti,ot,j1,j2],a2≠b):ZipApart zz ti ot j1 j2 a1 a2:=by
 simp only[fk,aa,not_or,aT,not_false_eq_true,List.nodup_nil,and_true] at h;obtain⟨⟨n1,n2,n3,n4⟩,⟨n5,n6,n7⟩,⟨n8,n9⟩,n10⟩:=h;exact⟨eZ n1,eZ n2,eZ n3,eZ n4,n5,n6,n7,n8,n9,n10,h1 _ (by simp),h1 _ (by simp),h1 _ (by simp),h1 _ (by simp),h2 _ (by simp),h2 _ (by simp),h2 _ (by simp),h2 _ (by simp)⟩
theorem A4{P:ah}{w:ar}{K:ζ}{es:List ν}{n0:Nat}{ps:aE}(k1 k2:Bool)(a1 a2 zz ti ot j1 j2:ε)(hd:[zz,ti,ot,j1,j2].Nodup):
  Turn P w K (.Tuple es n0 ps) (K9 K k1 k2 a1 a2) [zz,ti,ot,j1,j2] zz (fun i h=>iu h zz ti ot .none/\eR h ti (.ref j1) (.ref j2)/\(∃c d,eR h ot c d)/\Ik k1 h j1 a1 i/\Ik k2 h j2 a2 i) where
 mem:=by simp
 obj:=fun i h st b hb=>by
  obtain⟨Z,Ti,⟨c,d,To⟩,g1,g2⟩:=st;simp only[aa,aT,or_false] at hb;rcases hb with rfl|rfl|rfl|rfl|rfl
  ·exact⟨_,Z,fun v z=>by cases (show jQ _=iN v from z)⟩
  ·exact⟨_,Ti,fun v z=>by cases (show Data.seq _ _=iN v from z)⟩
  ·exact⟨_,To,fun v z=>by cases (show Data.seq _ _=iN v from z)⟩
  ·exact g1.obj
  ·exact g2.obj
 keep:=fun i h h' st k=>by
  obtain⟨Z,Ti,⟨c,d,To⟩,g1,g2⟩:=st;exact⟨k _ (by simp) _ Z,k _ (by simp) _ Ti,⟨c,d,k _ (by simp) _ To⟩,g1.of fun o e=>k _ (by simp) _ e,g2.of fun o e=>k _ (by simp) _ e⟩
 item:=by
  intro X hP hw hK hc i pins s σ H E I hf st hg;subst hP hw hK;obtain⟨Z,Ti,⟨c,d,To⟩,g1,g2⟩:=st;obtain⟨xs,ys,x,y,⟨q1,hx⟩,q2,hy⟩:=hg;obtain⟨its1,rv1,p1⟩:=q1.heap I;obtain⟨its2,rv2,p2⟩:=q2.heap I;obtain⟨u,hu,ru⟩:=rv1.get hx;obtain⟨v,hv,rv⟩:=rv2.get hy;have D:=K0 hd (fun b hb=>q1.apart I (hf b hb)) (fun b hb=>q2.apart I (hf b hb));have hT:s.TypeIs (.ref zz) "zip":=⟨_,Z,rfl⟩;unfold pyNext;refine γ (iq (bE (name:=aA "__next__") hT F.slot_zip_next (bK F.slot_zip_next hT F.entry_zip_next (Le D Z Ti To g1 g2 p1 p2 (u:=u) (v:=v) (by simpa using hu) (by simpa using hv) fun h' Z' To' g1' g2' T' kp=>?_) (F.args_zip_next_1 _))));refine μ ⟨_,rfl,?_⟩;refine wpAny_letOwnedTupleGo_zip Z' fun h2 Z2 b2=>?_;have hn:H s.heap.objs.size=none:=I.bD.fresh (Γ _);have I1:L2.Inv X pins σ (upd H s.heap.objs.size (.tup [x,y])) { s with heap:=s.heap.push { cls:=.type "tuple",data:=.seq #[u,v]}}:=I.laid (t':=s.toks) (fun b o e=>θ _ e) (Γ _) ⟨by show 2≤Φ;decide,[u,v],.cons ru (.cons rv .nil),⟨_,Ξ _ rfl,rfl,⟨_,rfl⟩,rfl⟩⟩;have lt:∀b∈[zz,ti,ot,j1,j2],b<s.heap.objs.size:=fun b hb=>by
   simp only[aa,aT,or_false] at hb;rcases hb with rfl|rfl|rfl|rfl|rfl
   ·exact Δ Z
   ·exact Δ Ti
   ·exact Δ To
   ·obtain⟨o,e,_⟩:=g1.obj;exact Δ e
   ·obtain⟨o,e,_⟩:=g2.obj;exact Δ e
  have hf':∀b∈[zz,ti,ot,j1,j2],gH X pins (upd H s.heap.objs.size (.tup [x,y])) b:=fun b hb=>⟨by rw[bp (aO (lt b hb))];exact (hf b hb).1,(hf b hb).2⟩;have I2:L2.Inv X pins σ (upd H s.heap.objs.size (.tup [x,y])) { s with heap:=h2 }:=pT (s:={ s with heap:=s.heap.push { cls:=.type "tuple",data:=.seq #[u,v]}}) (t':=s.toks) I1 (fun b o hb e=>by
   simp only[aa,aT,or_false,not_or] at hb;refine b2.extBut b o hb.1 ?_;rcases nR e with⟨rfl,rfl⟩|e
   ·exact T'
   ·exact kp b o hb.1 hb.2.2.1 hb.2.2.2.1 hb.2.2.2.2 e) hf'
  refine⟨.ref s.heap.objs.size,_,I2,rfl,⟨_,x,y,rfl,hn,rfl,fun zs hz=>by rw[hz.inj I q1];exact hx,fun zs hz=>by rw[hz.inj I q2];exact hy⟩,⟨Z2,?_,⟨u,v,?_⟩,g1'.of fun o e=>b2.extBut _ _ D.i1z e,g2'.of fun o e=>b2.extBut _ _ D.i2z e⟩,fun b hb=>(hf' b hb).1⟩
  ·exact b2.extBut _ _ D.TIz (kp _ _ D.TIz D.TITO D.TIi1 D.TIi2 Ti)
  ·exact b2.extBut _ _ D.TOz To'
 done:=by
  intro X hP hw hK hc i pins s σ H E I hf st hg;subst hP hw hK;obtain⟨Z,Ti,⟨c,d,To⟩,g1,g2⟩:=st;obtain⟨xs,ys,q1,q2,hl⟩:=hg;obtain⟨its1,rv1,p1⟩:=q1.heap I;obtain⟨its2,rv2,p2⟩:=q2.heap I;have D:=K0 hd (fun b hb=>q1.apart I (hf b hb)) (fun b hb=>q2.apart I (hf b hb));have hT:s.TypeIs (.ref zz) "zip":=⟨_,Z,rfl⟩;have l1:=rv1.length;have l2:=rv2.length;unfold pyNext;refine γ (iq (bE (name:=aA "__next__") hT F.slot_zip_next (bK F.slot_zip_next hT F.entry_zip_next (A1 (I.ok.hd hc) D Z Ti To g1 g2 p1 p2 (by
   rcases hl with h|h
   ·exact .inl (by simp;lia)
   ·exact .inr (by simp;lia)) fun h' e kp hs=>?_) (F.args_zip_next_1 _))))
  obtain⟨o,ho,hcl⟩:=hs;refine γ (iE (T:="StopIteration") (b:=true) ⟨o,ho,hcl⟩ mP ?_);refine μ ⟨rfl,pT (t':=s.toks) I (fun b o hb e=>?_) hf⟩;simp only[aa,aT,or_false,not_or] at hb;exact kp b o hb.1 hb.2.2.1 hb.2.2.2.1 hb.2.2.2.2 e
 self:=fun _ _ _ _ _ st h=>wpAny_pyIter_zip st.1 h
def xk(k:Bool)(a:ε):aJ:=match k with
 |true=>{ cls:=.type "list_iterator",data:=.fields #[.ref a,.int 0 0]}
 |false=>{ cls:=.type "tuple_iterator",data:=.fields #[.ref a,.int 0 0]}
def zg(k1:Bool)(h:ae)(a1:ε):ae:=h.push (xk k1 a1)
def zf(k1 k2:Bool)(h:ae)(a1 a2:ε):ae:=(zg k1 h a1).push (xk k2 a2)
def ze(k1 k2:Bool)(h:ae)(a1 a2:ε):ae:=(zf k1 k2 h a1 a2).push { cls:=.type "tuple",data:=.seq #[.ref h.objs.size,.ref (zg k1 h a1).objs.size]}
def wD(k1 k2:Bool)(h:ae)(a1 a2:ε):ae:=(ze k1 k2 h a1 a2).push { cls:=.type "tuple",data:=.seq #[.none,.none]}
def iP(k1 k2:Bool)(h:ae)(a1 a2:ε):ae:=(wD k1 k2 h a1 a2).push { cls:=.type "zip",data:=.fields #[.none,.bool false,.bool false,.ref (zf k1 k2 h a1 a2).objs.size,.ref (ze k1 k2 h a1 a2).objs.size]}
theorem K7{k:Bool}{h:ae}{jt a:ε}(e:h.get? jt=some (xk k a)):Ik k h jt a 0:=by
 cases k<;>exact⟨_,e,rfl,rfl⟩
theorem vB{k:Bool}{a:ε}:(xk k a).isFreed=false:=by cases k<;>rfl
theorem ED(k1 k2:Bool)(a1 a2:ε)(xs ys:Array δ):Meets (dC.«zip.__new__» ⟨[.type "zip",.ref a1,.ref a2],[]⟩) (fun _ R s=>Sk k1 s.heap a1 xs/\Sk k2 s.heap a2 ys ∧
   R (.ok (.ret (.ref (wD k1 k2 s.heap a1 a2).objs.size))) { s with heap:=iP k1 k2 s.heap a1 a2 }):=
 .of_wp fun prog w A R s h=>by
  obtain⟨hp,g,d,tk,os⟩:=s;obtain⟨h1,h2,h⟩:=h;have hsub:=sub_zip;cases k1<;>cases k2
  ·have q1:jj (eE ⟨hp,g,d,tk,os⟩) a1 xs:=h1;have q2:jj (eE ⟨hp.push { cls:=.type "tuple_iterator",data:=.fields #[.ref a1,.int 0 0]},g,d,tk,os⟩) a2 ys:=qx h2 _;wp_walk using cA q1,cA q2;exact⟨_,rfl,h⟩
  ·have q1:jj (eE ⟨hp,g,d,tk,os⟩) a1 xs:=h1;have q2:mo (eE ⟨hp.push { cls:=.type "tuple_iterator",data:=.fields #[.ref a1,.int 0 0]},g,d,tk,os⟩) a2 ys:=qZ h2 _;wp_walk using cA q1,dk q2;exact⟨_,rfl,h⟩
  ·have q1:mo (eE ⟨hp,g,d,tk,os⟩) a1 xs:=h1;have q2:jj (eE ⟨hp.push { cls:=.type "list_iterator",data:=.fields #[.ref a1,.int 0 0]},g,d,tk,os⟩) a2 ys:=qx h2 _;wp_walk using dk q1,cA q2;exact⟨_,rfl,h⟩
  ·have q1:mo (eE ⟨hp,g,d,tk,os⟩) a1 xs:=h1;have q2:mo (eE ⟨hp.push { cls:=.type "list_iterator",data:=.fields #[.ref a1,.int 0 0]},g,d,tk,os⟩) a2 ys:=qZ h2 _;wp_walk using dk q1,dk q2;exact⟨_,rfl,h⟩
theorem CD{k1 k2:Bool}{h:ae}{a1 a2:ε}:iu (iP k1 k2 h a1 a2) (h.objs.size+4) (h.objs.size+2) (h.objs.size+3) .none/\eR (iP k1 k2 h a1 a2) (h.objs.size+2) (.ref h.objs.size) (.ref (h.objs.size+1))/\eR (iP k1 k2 h a1 a2) (h.objs.size+3) .none .none ∧
  Ik k1 (iP k1 k2 h a1 a2) h.objs.size a1 0/\Ik k2 (iP k1 k2 h a1 a2) (h.objs.size+1) a2 0/\(wD k1 k2 h a1 a2).objs.size=h.objs.size+4/\∀c o,h.get? c=some o->(iP k1 k2 h a1 a2).get? c=some o:=by
 have e1:(zg k1 h a1).objs.size=h.objs.size+1:=cU ..;have e2:(zf k1 k2 h a1 a2).objs.size=h.objs.size+2:=(cU ..).trans (by rw[e1]);have e3:(ze k1 k2 h a1 a2).objs.size=h.objs.size+3:=(cU ..).trans (by rw[e2]);have e4:(wD k1 k2 h a1 a2).objs.size=h.objs.size+4:=(cU ..).trans (by rw[e3]);have u5:∀c o,(wD k1 k2 h a1 a2).get? c=some o->(iP k1 k2 h a1 a2).get? c=some o:=fun c o e=>θ _ e;have u4:∀c o,(ze k1 k2 h a1 a2).get? c=some o->(iP k1 k2 h a1 a2).get? c=some o:=fun c o e=>u5 c o (θ _ e);have u3:∀c o,(zf k1 k2 h a1 a2).get? c=some o->(iP k1 k2 h a1 a2).get? c=some o:=fun c o e=>u4 c o (θ _ e);have u2:∀c o,(zg k1 h a1).get? c=some o->(iP k1 k2 h a1 a2).get? c=some o:=fun c o e=>u3 c o (θ _ e);have u1:∀c o,h.get? c=some o->(iP k1 k2 h a1 a2).get? c=some o:=fun c o e=>u2 c o (θ _ e);have g5:(iP k1 k2 h a1 a2).get? (wD k1 k2 h a1 a2).objs.size=some _:=Ξ _ rfl;have g4:(iP k1 k2 h a1 a2).get? (ze k1 k2 h a1 a2).objs.size=some _:=u5 _ _ (Ξ _ rfl);have g3:(iP k1 k2 h a1 a2).get? (zf k1 k2 h a1 a2).objs.size=some _:=u4 _ _ (Ξ _ rfl);have g2:(iP k1 k2 h a1 a2).get? (zg k1 h a1).objs.size=some (xk k2 a2):=u3 _ _ (Ξ _ vB);have g1:(iP k1 k2 h a1 a2).get? h.objs.size=some (xk k1 a1):=u2 _ _ (Ξ _ vB);rw[e2,e3,e4] at g5;rw[e1,e2] at g3;rw[e3] at g4;rw[e1] at g2;exact⟨g5,g3,g4,K7 g1,K7 g2,e4,u1⟩
theorem Cw{P:ah}{w:ar}{A:bo}{E:δ->η->Prop}{s:η}{k1 k2:Bool}{a1 a2:ε}{xs ys:Array δ}{Q:δ->η->Prop}(h1:Sk k1 s.heap a1 xs)(h2:Sk k2 s.heap a2 ys)
  (q:Q (.ref (s.heap.objs.size+4)) { s with heap:=iP k1 k2 s.heap a1 a2 }):ρ (model P w) A (call (.type "zip") [.ref a1,.ref a2]) Q E s:=by
 refine callType_new F.called_zip (by decide) (F.typeCall_zip_2 _ _) (F.newCall_zip_2 _ _) (fun obj=>F.args_object_init_3 obj _ _) F.entry_zip_new (ED k1 k2 a1 a2 xs ys) ⟨h1,h2,?_⟩;obtain⟨z1,_,_,_,_,z2,_⟩:=CD (k1:=k1) (k2:=k2) (h:=s.heap) (a1:=a1) (a2:=a2);show _/\_;rw[z2];exact⟨⟨_,z1,rfl⟩,q⟩
section
variable {X:Cx} {es:List ν} {n0:Nat} {ps p pos:aE}
def LQ(K:ζ)(ta:TA):TI:=fun σ H R=>ta σ H fun vs H1=>∃k1 k2 a1 a2,vs=[.ref a1,.ref a2]/\(∃xs,fU K k1 H1 a1 xs)/\(∃ys,fU K k2 H1 a2 ys)/\R (K9 K k1 k2 a1 a2) H1
theorem Gs{a b:ν}{ta:TA}(hg:Gl X "zip")(hm:X.mg "zip" = none)(ha:PA X [a,b] ta)(hs:ba [a,b] X.env=[(false,eval a X.env),(false,eval b X.env)]:=by rfl)(hs2:ba [b] X.env=[(false,eval b X.env)]:=by rfl):
  PI X (.Tuple es n0 ps) (.Call (.Name "zip" p) [a,b] [] pos) (LQ X.K ta):=by
 intro pins s σ H R I h;refine Call_ (kO I hg hm boot_zip (cK (bq (ha pos pins s σ H _ I h) fun us s1 ⟨vs,H1,I1,r1,q1⟩=>?_) (by rw[hs,hs2]) (by rw[hs2];rfl)));obtain⟨k1,k2,a1,a2,e,⟨xs,q1⟩,⟨ys,q2⟩,q⟩:=q1;subst e;cases r1 with
 |cons r rr=>
  cases rr with
  |cons r' rr=>
   cases rr;cases r;cases r';obtain⟨its1,rv1,p1⟩:=q1.heap I1;obtain⟨its2,rv2,p2⟩:=q2.heap I1;refine Cw p1 p2 ?_;obtain⟨z1,z2,z3,z4,z5,z6,z7⟩:=CD (k1:=k1) (k2:=k2) (h:=s1.heap) (a1:=a1) (a2:=a2);refine wpAny_pyIter_zip (s:={ s1 with heap:=iP k1 k2 s1.heap a1 a2 }) z1 ?_
   refine⟨s1.heap.objs.size+4,[s1.heap.objs.size+4,s1.heap.objs.size+2,s1.heap.objs.size+3,s1.heap.objs.size,s1.heap.objs.size+1],_,_,H1,rfl,I1.kept (t':=s1.toks) z7,A4 k1 k2 a1 a2 _ _ _ _ _ (by simp),⟨z1,z2,⟨_,_,z3⟩,z4,z5⟩,fun b hb=>?_,q⟩;have hb:s1.heap.objs.size≤b:=by
    simp only[aa,aT,or_false] at hb;rcases hb with rfl|rfl|rfl|rfl|rfl
    ·exact eP _ _
    ·exact eP _ _
    ·exact eP _ _
    ·exact Γ _
    ·exact eP _ _
   exact I1.pD hb (I1.bD.fresh hb)
def qJ(G:Gp):D->List D->Prop
 |.obj p,ds=>G p=some (.lst ds)
 |.tup es,ds=>ds=es
 |.eW es,ds=>ds=es
 |_,_=>False
def kE(xs ys:List D):List D:=List.zipWith (fun x y=>.tup [x,y]) xs ys
def BW(ta:cq):jY:=fun τ G R=>ta τ G fun ds G1=>match ds with
 |[x,y]=>∃xs ys,qJ G1 x xs/\qJ G1 y ys/\R ⟨kE xs ys,fun G=>qJ G x xs/\qJ G y ys⟩ G1
 |_=>False
theorem sE{K:ζ}{H:Hp}{x:D}{v:V}(hv:Hv K H x v):∃k,∀H' G' xs,Ext H H'->aK K G' H'->qJ G' x xs->∃a vs,v=.ref a/\fU K k H' a vs/\aw K H' xs vs:=by
 cases x with
 |obj p=>
  unfold Hv at hv;subst hv;refine⟨true,fun H' G' xs E RG h=>?_⟩;obtain⟨vs,e2,e3⟩:=RG p _ h;exact⟨p,vs,rfl,du.of e2,e3⟩
 |tup es=>
  unfold Hv at hv;obtain⟨a,vs,rfl,e2,e3⟩:=hv;refine⟨false,fun H' G' xs E RG h=>?_⟩;cases (show xs=es from h);exact⟨a,vs,rfl,cJ.ext E e2,e3.ext E⟩
 |eW es=>
  unfold Hv at hv;obtain⟨a,vs,rfl,e2,e3⟩:=hv;refine⟨true,fun H' G' xs E RG h=>?_⟩;cases (show xs=es from h);exact⟨a,vs,rfl,(nZ.ext E e2).l,e3.ext E⟩
 |ao=>exact⟨true,fun _ _ _ _ _ h=>h.elim⟩
 |bl _=>exact⟨true,fun _ _ _ _ _ h=>h.elim⟩
 |int _=>exact⟨true,fun _ _ _ _ _ h=>h.elim⟩
 |str _=>exact⟨true,fun _ _ _ _ _ h=>h.elim⟩
 |dc _=>exact⟨true,fun _ _ _ _ _ h=>h.elim⟩
theorem uq{xs ys:List D}{i:Nat}{d:D}(h:(kE xs ys)[i]?=some d):∃x y,xs[i]?=some x/\ys[i]?=some y/\d=.tup [x,y]:=by
 unfold kE at h;rw[List.getElem?_zipWith] at h;cases hx:xs[i]? with
 |none=>rw[hx] at h;cases h
 |some x=>
  cases hy:ys[i]? with
  |none=>rw[hx,hy] at h;cases h
  |some y=>
   rw[hx,hy] at h;cases h;exact⟨x,y,rfl,rfl,rfl⟩
theorem Kl{a b:ν}{ta:cq}(hm:X.mg "zip" = none)(ha:hZ X [a,b] ta)(hg:Gl X "zip":=by rfl)(hs:notStar a=true:=by rfl)(hs2:notStar b=true:=by rfl):
  sh X (.Tuple es n0 ps) (.Call (.Name "zip" p) [a,b] [] pos) (BW ta):=
 uh (Gs hg hm ha (by rw[bt hs,bt hs2];rfl) (bt hs2)) fun σ H R ⟨τ,G,R3,RS,RG,h,k⟩=>⟨τ,G,_,RS,RG,h,fun vs H1 ds G1 h1 S1 R1 q1=>by
  rcases ds with _|⟨d,_|⟨d2,_|⟨d3,ds⟩⟩⟩
  ·exact q1.elim
  ·exact q1.elim
  ·obtain⟨xs,ys,s1,s2,q⟩:=q1;obtain⟨v,r,rfl,z1,z2⟩:=h1.inv;obtain⟨v',r',rfl,z3,z4⟩:=z2.inv;cases z4.gC;obtain⟨k1,f1⟩:=sE z1;obtain⟨k2,f2⟩:=sE z3;obtain⟨a1,vs1,rfl,y1,w1⟩:=f1 _ _ _ (Ext.refl _) R1 s1;obtain⟨a2,vs2,rfl,y2,w2⟩:=f2 _ _ _ (Ext.refl _) R1 s2;refine⟨k1,k2,a1,a2,rfl,⟨_,y1⟩,⟨_,y2⟩,k _ _ _ _ ⟨?_,?_⟩ S1 R1 q⟩
   ·intro i d H' G' E' RG' hg hi;obtain⟨x,y,e1,e2,rfl⟩:=uq hi;obtain⟨b1,us1,c1,m1,n1⟩:=f1 _ _ _ E' RG' hg.1;obtain⟨b2,us2,c2,m2,n2⟩:=f2 _ _ _ E' RG' hg.2;cases c1;cases c2;obtain⟨u1,o1,o2⟩:=n1.get e1;obtain⟨u2,o3,o4⟩:=n2.get e2;refine⟨⟨_,_,_,_,⟨m1,o1⟩,m2,o3⟩,fun x' H'' hy=>?_⟩;obtain⟨T,u,v,rfl,hn,rfl,t1,t2⟩:=hy;have:=t1 _ m1;rw[o1] at this;cases this;have:=t2 _ m2;rw[o3] at this;cases this;refine⟨?_,.laid hn,RG'.laid hn⟩;unfold Hv;exact⟨T,_,rfl,.of bX,.cons (o2.ext (.laid hn)) (.cons (o4.ext (.laid hn)) .nil)⟩
   ·intro i H' G' E' RG' hg hi;obtain⟨b1,us1,c1,m1,n1⟩:=f1 _ _ _ E' RG' hg.1;obtain⟨b2,us2,c2,m2,n2⟩:=f2 _ _ _ E' RG' hg.2;cases c1;cases c2;refine⟨_,_,m1,m2,?_⟩;have hi:(kE xs ys).length≤i:=hi;unfold kE at hi;rw[oC] at hi;rw[←n1.length,←n2.length];lia
  ·exact q1.elim⟩
end
end L3
namespace L3
open PySem PySem.Spec PyProof.Rows L2
open Sem (wp)
theorem Ir{P:ah}{w:ar}{A:bo}{k:Bool}(hh:A.handled=none)(it a:ε)(hne:a≠it)(xs:Array δ):
  Draws P w A it [it,a] xs.size (fun i v=>xs[i]?=some v) (fun i h=>Ik k h it a i/\Sk k h a xs) where
 live:=fun _ _ st=>let ⟨o,ho,_⟩:=st.1.obj;⟨o,ho⟩
 frame:=fun _ _ _ st hk=>⟨st.1.of fun o e=>hk it (by simp) o e,st.2.of fun o e=>hk a (by simp) o e⟩
 item:=fun i s Q E hi st hQ=>by
  refine nextK st.1 st.2 (u:=xs[i]) (by simp[hi]) fun h' hit' hs'=>?_;exact hQ _ h' s.toks (by simp[hi]) ⟨hit',st.2.of fun o e=>hs'.extBut a o hne e⟩ hs'
 done:=fun s Q E st hE=>lN hh st.1 st.2 (by simp) hE
section
variable {P:ah} {w:ar} {A:bo} {E:δ->η->Prop} {s:η}
theorem AJ{k:Bool}{e it a:ε}{i:Int}{j:Nat}{xs:Array δ}{old:δ}{Q:Option δ->η->Prop}(hh:A.handled=none)(he:IsEnum s.heap e it i old)(hi:Ik k s.heap it a j)(ha:Sk k s.heap a xs)(hx:xs[j]?=none)
  (hQ:∀h',qG it s.heap h'->Q none { s with heap:=h' }):ρ (model P w) A (pyNext (.ref e)) Q E s:=by
 have hT:s.TypeIs (.ref e) "enumerate":=⟨_,he,rfl⟩;unfold pyNext;refine γ (iq (bE (name:=aA "__next__") hT F.slot_enumerate_next
  (bK F.slot_enumerate_next hT F.entry_enumerate_next ?_ (F.args_enumerate_next_1 _))))
 show ρ _ _ (field (.ref e) 2 >>= _) _ _ _;refine γ (bY he rfl (x:=.ref it) rfl ?_);refine γ (lN (by simpa using hh) hi ha hx fun h' x he' hx'=>?_);obtain⟨o,ho,hc⟩:=hx';refine γ (iE (T:="StopIteration") (b:=true) ⟨o,ho,hc⟩ mP ?_);exact μ (hQ _ he')
open AutoSeq1 (wpAny_loadPart') in
theorem nv(l:ε)(items:Array δ)(n:Nat)(ff:Option ε)(sl:Array (Option δ)):
  Meets (dC.«enumerate.__new__» ⟨[.type "enumerate",.ref l],[]⟩) (fun _ R s=>s.heap.get? l=some { cls:=.type "tuple",dict:=ff,data:=.seq items n,slots:=sl } ∧
   R (.ok (.ret (.ref (s.heap.push { cls:=.type "tuple_iterator",data:=.fields #[.ref l,.int 0 0]}).objs.size)))
    { s with heap:=(s.heap.push { cls:=.type "tuple_iterator",data:=.fields #[.ref l,.int 0 0]}).push { cls:=.type "enumerate",data:=.fields #[.none,.bool false,.ref s.heap.objs.size,rawInt 0,.none,.none]}}):=
 .of_wp fun prog w A R s h=>by
  obtain⟨hp,g,d,tk,os⟩:=s;obtain⟨hl,h⟩:=h;have hsub:=sub_enumerate;have hL:jj (eE ⟨hp,g,d,tk,os⟩) l items:=⟨_,hl,rfl,n,rfl⟩;wp_walk using wpAny_loadPart' hl;refine wpAny_stack_any fun st=>μ ?_;split
  ·rename_i c _ _ _ _ _;cases (c==kx "enumerate")
   ·wp_walk using wpAny_loadPart' hl,cA hL;exact⟨_,rfl,h⟩
   ·wp_walk using wpAny_loadPart' hl,cA hL;exact⟨_,rfl,h⟩
  ·wp_walk using wpAny_loadPart' hl,cA hL;exact⟨_,rfl,h⟩
theorem nJ{l:ε}{items:Array δ}{Q:δ->η->Prop}(hL:s.heap.IsTuple l items)
  (h:∀h',IsEnum h' (s.heap.objs.size+1) s.heap.objs.size 0 .none->h'.IsTupleIter s.heap.objs.size l 0->h'.objs.size=s.heap.objs.size+2 ->
   (∀b o,s.heap.get? b=some o->h'.get? b=some o)->Q (.ref (s.heap.objs.size+1)) { s with heap:=h' }):
  ρ (model P w) A (call (.type "enumerate") [.ref l]) Q E s:=by
 obtain⟨⟨c,ff,dt,sl⟩,hl,hc,n,hd⟩:=hL
 replace hc:c=.type "tuple":=hc
 replace hd:dt=.seq items n:=hd
 subst hc hd;refine callType_new F.called_enumerate (by decide) (F.typeCall_enumerate_1 _) (F.newCall_enumerate_1 _) (fun obj=>F.args_object_init_2 obj _) F.entry_enumerate_new
  (nv l items n ff sl) ⟨hl,?_⟩
 have hz:(s.heap.push { cls:=.type "tuple_iterator",data:=.fields #[.ref l,.int 0 0]}).objs.size=s.heap.objs.size+1:=cU ..;show _/\_;rw[hz];have he:IsEnum ((s.heap.push { cls:=.type "tuple_iterator",data:=.fields #[.ref l,.int 0 0]}).push
   { cls:=.type "enumerate",data:=.fields #[.none,.bool false,.ref s.heap.objs.size,rawInt 0,.none,.none]}) (s.heap.objs.size+1) s.heap.objs.size 0 .none:=by
  have:=Ξ (s.heap.push { cls:=.type "tuple_iterator",data:=.fields #[.ref l,.int 0 0]})
   (o:={ cls:=.type "enumerate",data:=.fields #[.none,.bool false,.ref s.heap.objs.size,rawInt 0,.none,.none]}) rfl
  rw[hz] at this;exact this
 refine⟨⟨_,he,rfl⟩,h _ he ⟨_,θ _ (Ξ _ rfl),rfl,rfl⟩ (by rw[cU,hz]) fun b o x=>θ _ (θ _ x)⟩
theorem yY{k:Bool}{l:ε}{items:Array δ}{Q:δ->η->Prop}(hL:Sk k s.heap l items)
  (h:∀h',IsEnum h' (s.heap.objs.size+1) s.heap.objs.size 0 .none->Ik k h' s.heap.objs.size l 0->h'.objs.size=s.heap.objs.size+2 ->
   (∀b o,s.heap.get? b=some o->h'.get? b=some o)->Q (.ref (s.heap.objs.size+1)) { s with heap:=h' }):
  ρ (model P w) A (call (.type "enumerate") [.ref l]) Q E s:=by
 cases k with
 |true=>exact call_enumerate_list hL h
 |false=>exact nJ hL h
end
def Lb(K:ζ)(k:Bool)(a:ε):It:=
 ⟨fun i H=>∃xs x,fU K k H a xs/\xs[i]?=some x,
  fun i H x H'=>∃T u,x=.ref T/\H T=none/\H'=upd H T (.tup [.int i,u])/\∀xs,fU K k H a xs->xs[i]?=some u,
  fun i H=>∃xs,fU K k H a xs/\xs.length≤i⟩
theorem zp{P:ah}{w:ar}{K:ζ}{es:List ν}{n0:Nat}{ps:aE}(k:Bool)(a en jt:ε)(hne:en≠jt):
  Turn P w K (.Tuple es n0 ps) (Lb K k a) [en,jt] en (fun i h=>(∃old,IsEnum h en jt i old)/\Ik k h jt a i) where
 mem:=by simp
 obj:=fun i h st b hb=>by
  obtain⟨⟨old,Z⟩,g⟩:=st;simp only[aa,aT,or_false] at hb;rcases hb with rfl|rfl
  ·exact⟨_,Z,fun v z=>by cases (show jQ _=iN v from z)⟩
  ·exact g.obj
 keep:=fun i h h' st k=>⟨let ⟨old,Z⟩:=st.1;⟨old,k _ (by simp) _ Z⟩,st.2.of fun o e=>k _ (by simp) _ e⟩
 item:=by
  intro X hP hw hK hc i pins s σ H E I hf st hg;subst hP hw hK;obtain⟨⟨old,Z⟩,g⟩:=st;obtain⟨xs,x,q1,hx⟩:=hg;obtain⟨its,rv,p⟩:=fU.heap I q1;obtain⟨u,hu,ru⟩:=rv.get hx;have hi:i<its.toArray.size:=by
   have:=(aG.mp hu).1;simpa using this
  have hja:a≠jt:=fU.apart I q1 (hf jt (by simp));have hea:a≠en:=fU.apart I q1 (hf en (by simp));refine wpAny_pyNext_enum_itemD (Ir (k:=k) (by have:=I.ok.hd hc;simpa using this) jt a hja its.toArray) Z ⟨g,p⟩ hi hne (by simp[hne,hea.symm]) fun x2 h' tk hx2 Z' g' T' sz kp=>⟨_,rfl,?_⟩;have ex:x2=u:=by
   have:its.toArray[i]?=some u:=by simpa using hu
   rw[hx2] at this;exact ai this
  subst ex;refine wpAny_letOwnedTupleGo_enum (s:={ s with heap:=h',toks:=tk+1 }) Z' fun h2 Z2 b2=>?_;have hn:H s.heap.objs.size=none:=I.bD.fresh (Γ _);have I1:L2.Inv X pins σ (upd H s.heap.objs.size (.tup [.int i,x])) { s with heap:=s.heap.push { cls:=.type "tuple",data:=.seq #[.int i tk,x2]}}:=I.laid (t':=s.toks) (fun b o e=>θ _ e) (Γ _) ⟨by show 2≤Φ;decide,[.int i tk,x2],.cons ⟨_,rfl⟩ (.cons ru .nil),⟨_,Ξ _ rfl,rfl,⟨_,rfl⟩,rfl⟩⟩;have lt:∀b∈[en,jt],b<s.heap.objs.size:=fun b hb=>by
   simp only[aa,aT,or_false] at hb;rcases hb with rfl|rfl
   ·exact Δ Z
   ·obtain⟨o,e,_⟩:=g.obj;exact Δ e
  have hf':∀b∈[en,jt],gH X pins (upd H s.heap.objs.size (.tup [.int i,x])) b:=fun b hb=>⟨by rw[bp (aO (lt b hb))];exact (hf b hb).1,(hf b hb).2⟩;have I2:L2.Inv X pins σ (upd H s.heap.objs.size (.tup [.int i,x])) { s with heap:=h2,toks:=tk+1 }:=pT (s:={ s with heap:=s.heap.push { cls:=.type "tuple",data:=.seq #[.int i tk,x2]}}) (t':=tk+1) I1 (fun b o hb e=>by
   simp only[aa,aT,or_false,not_or] at hb;refine b2.extBut b o hb.1 ?_;rcases nR e with⟨rfl,rfl⟩|e
   ·exact T'
   ·exact kp b o hb.1 hb.2 e) hf'
  exact⟨.ref s.heap.objs.size,_,I2,rfl,⟨_,x,rfl,hn,rfl,fun zs hz=>by rw[fU.inj I hz q1];exact hx⟩,⟨⟨_,Z2⟩,g'.1.of fun o e=>b2.extBut jt o hne.symm e⟩,fun b hb=>(hf' b hb).1⟩
 done:=by
  intro X hP hw hK hc i pins s σ H E I hf st hg;subst hP hw hK;obtain⟨⟨old,Z⟩,g⟩:=st;obtain⟨xs,q1,hl⟩:=hg;obtain⟨its,rv,p⟩:=fU.heap I q1;have l1:=rv.length;exact AJ (I.ok.hd hc) Z g p (by simp;lia) fun h' kp=>⟨rfl,pT (t':=s.toks) I (fun b o hb e=>by
   simp only[aa,aT,or_false,not_or] at hb;exact kp b o hb.2 e) hf⟩
 self:=fun _ _ _ _ _ st h=>let ⟨⟨_,Z⟩,_⟩:=st;wpAny_pyIter_enum Z h
section
variable {X:Cx} {es:List ν} {n0:Nat} {ps p pos:aE}
def Kk(K:ζ)(ta:TA):TI:=fun σ H R=>ta σ H fun vs H1=>∃k a,vs=[.ref a]/\(∃xs,fU K k H1 a xs)/\R (Lb K k a) H1
theorem Ep{a:ν}{ta:TA}(hg:Gl X "enumerate")(hm:X.mg "enumerate" = none)(ha:PA X [a] ta)(hs:ba [a] X.env=[(false,eval a X.env)]:=by rfl):PI X (.Tuple es n0 ps) (.Call (.Name "enumerate" p) [a] [] pos) (Kk X.K ta):=by
 intro pins s σ H R I h;refine Call_ (kO I hg hm boot_enumerate (cK (bq (ha pos pins s σ H _ I h) fun us s1 ⟨vs,H1,I1,r1,q1⟩=>?_) hs rfl));obtain⟨k,a1,e,⟨xs,q1⟩,q⟩:=q1;subst e;cases r1 with
 |cons r rr=>
  cases rr;cases r;obtain⟨its,rv,p⟩:=fU.heap I1 q1;refine yY p fun h' z1 z2 z3 z4=>?_;refine wpAny_pyIter_enum (s:={ s1 with heap:=h' }) z1 ?_
  refine⟨s1.heap.objs.size+1,[s1.heap.objs.size+1,s1.heap.objs.size],_,_,H1,rfl,I1.kept (t':=s1.toks) z4,zp k a1 _ _ (by simp),⟨⟨_,z1⟩,z2⟩,fun b hb=>?_,q⟩;have hb:s1.heap.objs.size≤b:=by
   simp only[aa,aT,or_false] at hb;rcases hb with rfl|rfl
   ·exact eP _ _
   ·exact Γ _
  exact I1.pD hb (I1.bD.fresh hb)
def qg(xs:List D):List D:=kE (kH 0 xs.length) xs
def yx(ta:cq):jY:=fun τ G R=>ta τ G fun ds G1=>match ds with
 |[x]=>∃xs,qJ G1 x xs/\R ⟨qg xs,fun G=>qJ G x xs⟩ G1
 |_=>False
theorem HW{a:ν}{ta:cq}(hm:X.mg "enumerate" = none)(ha:hZ X [a] ta)(hg:Gl X "enumerate":=by rfl)(hs:notStar a=true:=by rfl):
  sh X (.Tuple es n0 ps) (.Call (.Name "enumerate" p) [a] [] pos) (yx ta):=
 uh (Ep hg hm ha (bt hs)) fun σ H R ⟨τ,G,R3,RS,RG,h,k⟩=>⟨τ,G,_,RS,RG,h,fun vs H1 ds G1 h1 S1 R1 q1=>by
  rcases ds with _|⟨d,_|⟨d2,ds⟩⟩
  ·exact q1.elim
  ·obtain⟨xs,s1,q⟩:=q1;obtain⟨v,r,rfl,z1,z2⟩:=h1.inv;cases z2.gC;obtain⟨kk,hsq⟩:=sE z1;obtain⟨a1,vs1,rfl,y1,w1⟩:=hsq _ _ _ (Ext.refl _) R1 s1;refine⟨kk,a1,rfl,⟨_,y1⟩,k _ _ _ _ ⟨?_,?_⟩ S1 R1 q⟩
   ·intro i d H' G' E' RG' hg hi;obtain⟨x,y,e1,e2,rfl⟩:=uq hi;obtain⟨b1,us1,c1,m1,n1⟩:=hsq _ _ _ E' RG' hg;cases c1;obtain⟨u1,o1,o2⟩:=n1.get e2;obtain⟨_,rfl⟩:=uS e1;refine⟨⟨_,_,m1,o1⟩,fun x' H'' hy=>?_⟩;obtain⟨T,u,rfl,hn,rfl,t1⟩:=hy;have:=t1 _ m1;rw[o1] at this;cases this;refine⟨?_,.laid hn,RG'.laid hn⟩;unfold Hv;exact⟨T,_,rfl,.of bX,.cons (by simp[Hv]) (.cons (o2.ext (.laid hn)) .nil)⟩
   ·intro i H' G' E' RG' hg hi;obtain⟨b1,us1,c1,m1,n1⟩:=hsq _ _ _ E' RG' hg;cases c1;refine⟨_,m1,?_⟩;have hi:(qg xs).length≤i:=hi;unfold qg kE at hi;rw[oC,jH] at hi;rw[←n1.length];lia
  ·exact q1.elim⟩
end
end L3
namespace L2
open PySem PySem.Spec PyProof.Rows
def wc(lo c:Int)(n:Nat):It:=⟨fun i _=>i<n,fun i H x H'=>H'=H/\x=.int (lo+i*c),fun i _=>n≤i⟩
theorem we{P:ah}{w:ar}{K:ζ}{tg:ν}(it:ε)(lo c:Int)(n:Nat):Turn P w K tg (wc lo c n) [it] it (fun i h=>mn h it (lo+(i:Nat)*c) ((n:Int)-(i:Nat)) c) where
 mem:=by simp
 obj:=fun i h st b hb=>by
  have e:b=it:=by simpa using hb
  subst e;exact⟨_,st,fun v z=>by
   have z':jQ _=iN v:=z;cases z'⟩
 keep:=fun i h h' st k=>k it (by simp) _ st
 item:=by
  intro X hP hw hK hc i pins s σ H E I hf st hg;subst hP hw hK;obtain⟨f0,f1,f2,f3,f4,f5⟩:=hf it (by simp);have W:=Walks.range (prog:=X.prog) (w:=X.w) (I.ok.hd hc) it lo c n;refine W.item i s _ _ hg st fun v h' tk hv st' kk=>?_;obtain⟨t,rfl⟩:=hv;have I1:Inv X pins σ H { s with heap:=h',toks:=tk }:=I.turned (fun b o hb e=>kk b o (by simpa using hb) e) f0 f1 f3 f4 f5;refine⟨_,rfl,qf (s:={ s with heap:=h',toks:=tk }) (n:="range_iterator") st' rfl rfl (by decide) ⟨.int (lo+i*c),H,I1,⟨t,rfl⟩,⟨rfl,rfl⟩,st',fun b hb=>(hf b hb).1⟩⟩
 done:=by
  intro X hP hw hK hc i pins s σ H E I hf st hg;subst hP hw hK;obtain⟨f0,f1,f2,f3,f4,f5⟩:=hf it (by simp);exact wpAny_pyNext_range_end (I.ok.hd hc) st (by have:n≤i:=hg;lia) fun h' eb=>⟨rfl,I.turned (t':=s.toks) (fun b o hb e=>eb b o hb e) f0 f1 f3 f4 f5⟩
 self:=fun _ _ _ _ _ st h=>wpAny_pyIter_rangeiter st h
end L2
namespace L3
open PySem PySem.Spec PyProof.Rows L2
section
variable {X:Cx} {tg:ν} {p pos:aE}
def lY(lo c:Int)(n:Nat):List D:=(aq n).map fun i:Nat=>.int (lo+(i:Int)*c)
theorem Bu{lo c:Int}{n i:Nat}{d:D}(h:(lY lo c n)[i]?=some d):i<n/\d=.int (lo+(i:Int)*c):=by
 unfold lY at h;rw[av] at h;by_cases hi:i<n
 ·rw[jv hi] at h;simp at h;exact⟨hi,h.symm⟩
 ·rw[bZ.mpr (by simpa using hi)] at h;cases h
theorem wo(lo c:Int)(n:Nat):(lY lo c n).length=n:=by simp[lY]
theorem Bt{K:ζ}{H:Hp}(lo c:Int)(n:Nat):uo K H (wc lo c n) ⟨lY lo c n,fun _=>True⟩:=⟨by
 intro i d H' G' _ RG _ hi;obtain⟨h1,h2⟩:=Bu hi;refine⟨h1,fun x H'' hy=>?_⟩;obtain⟨rfl,rfl⟩:=hy;exact⟨by rw[h2];simp[Hv],.refl _ _,RG⟩,by
 intro i H' G' _ RG _ hi;rw[wo] at hi;exact hi⟩
end
end L3
namespace L3
open PySem PySem.Spec PyProof.Rows L2
structure QE(X:Cx)(e:ν)(t:ag):Prop where
 of:bA X e t
structure QT(X:Cx)(e:ν)(t:cf):Prop where
 of:og X e t
structure QW(X:Cx)(e:ν)(t:cf):Prop where
 of:tV X e t
structure QA(X:Cx)(es:List ν)(t:cq):Prop where
 of:hZ X es t
structure QS(X:Cx)(st:aU)(t:aN):Prop where
 of:qC X st t
structure tU(X:Cx)(st:List aU)(t:aN):Prop where
 of:nN X st t
structure QG(X:Cx)(tg:ν)(t:gf):Prop where
 of:tW X tg t
structure Du(X:Cx)(tgs:List ν)(t:kQ):Prop where
 of:v8 X tgs t
structure QI(X:Cx)(tg iter:ν)(t:jY):Prop where
 of:sh X tg iter t
structure QO(X:Cx)(e:Option ν)(t:tS):Prop where
 of:AY X e t
structure QC(X:Cx)(ifs:List ν)(t:cf):Prop where
 of:xB X ifs (qS X.K t)
section
variable {X:Cx} {a b e c:ν} {ta tb te:ag} {tA tB:cf} {pos:aE} {es rest:List ν}
theorem ο{i:Nat}{x:π}(h:PE X (.Name x pos) (xK i)):QE X (.Name x pos) (ω i):=⟨Kv (h:=h)⟩
end
section
variable {X:Cx} {a b e c:ν} {ta tb te:ag} {tA tB:cf} {pos:aE} {es rest:List ν}
theorem Θ{i:Int}{j}:QE X (.Constant (.int i) j pos) (eC (.int i)):=⟨KE ⟩
end
section
variable {X:Cx} {a b e c:ν} {ta tb te:ag} {tA tB:cf} {pos:aE} {es rest:List ν}
theorem lL{i:Bool}{j}:QE X (.Constant (.bool i) j pos) (eC (.bl i)):=⟨L4 ⟩
end
section
variable {X:Cx} {a b e c:ν} {ta tb te:ag} {tA tB:cf} {pos:aE} {es rest:List ν}
theorem fb{x:π}{j}:QE X (.Constant (.str x) j pos) (eC (.str x)):=⟨Kx ⟩
end
section
variable {X:Cx} {a b e c:ν} {ta tb te:ag} {tA tB:cf} {pos:aE} {es rest:List ν}
theorem p9{x:π}{i:Int}{u:gv}(hm:X.mg x=some (.int i u))(hg:Gl X x:=by rfl)(hd:(x==("__debug__":π))=false:=by decide):QE X (.Name x pos) (eC (.int i)):=⟨Io (hm:=hm) (hg:=hg) (hd:=hd)⟩
end
section
variable {X:Cx} {a b e c:ν} {ta tb te:ag} {tA tB:cf} {pos:aE} {es rest:List ν}
theorem bU{op:Operator}{r:R3}{r2:R2}(L:cz X.K r r2)(ho:cy X (binaryOp op) r2)(ha:QE X a ta)(hb:QE X b tb):QE X (.BinOp a op b pos) (aX r ta tb):=⟨LZ (L:=L) (ho:=ho) (ha:=ha.of) (hb:=hb.of)⟩
end
section
variable {X:Cx} {a b e c:ν} {ta tb te:ag} {tA tB:cf} {pos:aE} {es rest:List ν}
theorem o9{op:iw}{r:R3}{r2:R2}(L:cz X.K r r2)(ho:cy X (compareOp op) r2)(ha:QE X a ta)(hb:QE X b tb)(hm:behindInMarks op b=false):QE X (.Compare a [op] [b] pos) (aX r ta tb):=⟨KI (L:=L) (ho:=ho) (ha:=ha.of) (hb:=hb.of) (hm:=hm)⟩
end
section
variable {X:Cx} {a b e c:ν} {ta tb te:ag} {tA tB:cf} {pos:aE} {es rest:List ν}
theorem di{op:iw}{r:R3}{r2:R2}(L:cz X.K r r2)(ho:cy X (compareOp op) r2)(ha:QE X a ta)(hb:QE X b tb)(hm:behindInMarks op b=false):QT X (.Compare a [op] [b] pos) (bL (aX r ta tb)):=⟨Fx (L:=L) (ho:=ho) (ha:=ha.of) (hb:=hb.of) (hm:=hm)⟩
end
section
variable {X:Cx} {a b e c:ν} {ta tb te:ag} {tA tB:cf} {pos:aE} {es rest:List ν}
theorem eG(h:QE X a ta)(he:∀whole,isTrue a X.env whole=(do let v ←whole;standAt a.pos;holding [v] (truthy v)):=by intro _;rfl):QT X a (bL ta):=⟨Fv (h:=h.of) (he:=he)⟩
end
section
variable {X:Cx} {a b e c:ν} {ta tb te:ag} {tA tB:cf} {pos:aE} {es rest:List ν}
theorem u0(ha:QE X a ta):QE X (.UnaryOp .USub a pos) (AM rJ ta):=⟨KA (ha:=ha.of)⟩
end
section
variable {X:Cx} {a b e c:ν} {ta tb te:ag} {tA tB:cf} {pos:aE} {es rest:List ν}
theorem uX(ha:QT X a tA):QW X (.BoolOp .And [a] pos) tA:=⟨tw_and1 (ha:=ha.of)⟩
end
section
variable {X:Cx} {a b e c:ν} {ta tb te:ag} {tA tB:cf} {pos:aE} {es rest:List ν}
theorem gT(ha:QT X a tA):QW X (.BoolOp .Or [a] pos) tA:=⟨tw_or1 (ha:=ha.of)⟩
end
section
variable {X:Cx} {a b e c:ν} {ta tb te:ag} {tA tB:cf} {pos:aE} {es rest:List ν}
theorem wU(ha:QT X a tA)(hb:QW X (.BoolOp .And (b::rest) pos) tB):QW X (.BoolOp .And (a::b::rest) pos) (yK tA tB):=⟨tw_and (ha:=ha.of) (hb:=hb.of)⟩
end
section
variable {X:Cx} {a b e c:ν} {ta tb te:ag} {tA tB:cf} {pos:aE} {es rest:List ν}
theorem gA(ha:QT X a tA)(hb:QW X (.BoolOp .Or (b::rest) pos) tB):QW X (.BoolOp .Or (a::b::rest) pos) (mJ tA tB):=⟨tw_or (ha:=ha.of) (hb:=hb.of)⟩
end
section
variable {X:Cx} {a b e c:ν} {ta tb te:ag} {tA tB:cf} {pos:aE} {es rest:List ν}
theorem iT(h:QW X a tA):QT X a tA:=⟨Lf (h:=h.of)⟩
end
section
variable {X:Cx} {a b e c:ν} {ta tb te:ag} {tA tB:cf} {pos:aE} {es rest:List ν}
theorem dN(ha:QT X a tA):QT X (.UnaryOp .Not a pos) (g8 tA):=⟨Fw (ha:=ha.of)⟩
end
section
variable {X:Cx} {a b e c:ν} {ta tb te:ag} {tA tB:cf} {pos:aE} {es rest:List ν}
theorem o8{op}(h:QE X a ta):QE X (.BoolOp op [a] pos) ta:=⟨Ky (h:=h.of)⟩
end
section
variable {X:Cx} {a b e c:ν} {ta tb te:ag} {tA tB:cf} {pos:aE} {es rest:List ν}
theorem pb(ha:QE X a ta)(hb:QE X (.BoolOp .And (b::rest) pos) tb):QE X (.BoolOp .And (a::b::rest) pos) (qh ta tb):=⟨KJ (ha:=ha.of) (hb:=hb.of)⟩
end
section
variable {X:Cx} {a b e c:ν} {ta tb te:ag} {tA tB:cf} {pos:aE} {es rest:List ν}
theorem JB(ha:QE X a ta)(hb:QE X (.BoolOp .Or (b::rest) pos) tb):QE X (.BoolOp .Or (a::b::rest) pos) (Cd ta tb):=⟨LY (ha:=ha.of) (hb:=hb.of)⟩
end
section
variable {X:Cx} {a b e c:ν} {ta tb te:ag} {tA tB:cf} {pos:aE} {es rest:List ν}
theorem uZ(ha:QE X a ta):QE X (.UnaryOp .Not a pos) (uk ta):=⟨Kz (ha:=ha.of)⟩
end
section
variable {X:Cx} {a b e c:ν} {ta tb te:ag} {tA tB:cf} {pos:aE} {es rest:List ν}
theorem ψ  : QA X [] ab:=⟨KY ⟩
end
section
variable {X:Cx} {a b e c:ν} {ta tb te:ag} {tA tB:cf} {pos:aE} {es rest:List ν}
theorem ι{tr:cq}(ha:QE X a ta)(hr:QA X es tr)(hs:notStar a=true:=by rfl):QA X (a::es) (υ ta tr):=⟨ID (ha:=ha.of) (hr:=hr.of) (hs:=hs)⟩
end
section
variable {X:Cx} {a b e c:ν} {ta tb te:ag} {tA tB:cf} {pos:aE} {es rest:List ν}
theorem fK{t:cq}{x1}(h:QA X es t):QE X (.Tuple es x1 pos) (iB t):=⟨Kw (h:=h.of)⟩
end
section
variable {X:Cx} {a b e c:ν} {ta tb te:ag} {tA tB:cf} {pos:aE} {es rest:List ν}
theorem fL{t:cq}(h:QA X es t):QE X (.List es pos) (iC t):=⟨KD (h:=h.of)⟩
end
section
variable {X:Cx} {st:aU} {rest:List aU} {t u:aN} {e c:ν} {te:ag} {tc:cf} {pos:aE}
theorem dH  : tU X [] dX:=⟨Jn ⟩
end
section
variable {X:Cx} {st:aU} {rest:List aU} {t u:aN} {e c:ν} {te:ag} {tc:cf} {pos:aE}
theorem aD(h1:QS X st t)(h2:tU X rest u):tU X (st::rest) (bI t u):=⟨FJ (h1:=h1.of) (h2:=h2.of)⟩
end
section
variable {X:Cx} {st:aU} {rest:List aU} {t u:aN} {e c:ν} {te:ag} {tc:cf} {pos:aE}
theorem aW(h1:QS X st t):tU X [st] t:=⟨Jm (h1:=h1.of)⟩
end
section
variable {X:Cx} {st:aU} {rest:List aU} {t u:aN} {e c:ν} {te:ag} {tc:cf} {pos:aE}
theorem sH(he:QE X e te)(hs:swapsWith e none pos.line X.env=pure false:=by rfl):QS X (.Expr e pos) (rF te):=⟨FI (he:=he.of) (hs:=hs)⟩
end
section
variable {X:Cx} {st:aU} {rest:List aU} {t u:aN} {e c:ν} {te:ag} {tc:cf} {pos:aE}
theorem bP(he:QE X e te):QS X (.Return (some e) pos) (cO te):=⟨Jl (he:=he.of)⟩
end
section
variable {X:Cx} {st:aU} {rest:List aU} {t u:aN} {e c:ν} {te:ag} {tc:cf} {pos:aE}
theorem e8{a b:List aU}(hc:QT X c tc)(ha:tU X a t)(hb:tU X b u):QS X (.If c a b pos) (iS tc t u):=⟨Lq (hc:=hc.of) (ha:=ha.of) (hb:=hb.of)⟩
end
section
variable {X:Cx} {st:aU} {rest:List aU} {t u:aN} {e c:ν} {te:ag} {tc:cf} {pos:aE}
theorem nr  : QS X st mv:=⟨Eb ⟩
end
section
variable {X:Cx} {pos:aE} {e:ν} {es:List ν}
theorem cp{i:Nat}{x:π}(hN:X.N.Nodup)(hi:X.N[i]?=some x:=by rfl)(hx:Loc X.env.scope x:=by first|exact pN rfl|exact mU rfl)(hf:X.fn x=true∨X.env.scope.names.lookup x=some .local:=by first|exact .inl rfl|exact .inr rfl|assumption):QG X (.Name x pos) (hName i):=⟨HY (hN:=hN) (hi:=hi) (hx:=hx) (hf:=hf)⟩
end
section
variable {X:Cx} {pos:aE} {e:ν} {es:List ν}
theorem mz  : Du X [] qV:=⟨HX ⟩
end
section
variable {X:Cx} {pos:aE} {e:ν} {es:List ν}
theorem fq{t:gf}{u:kQ}(h1:QG X e t)(h2:Du X es u)(hs:(assignEach (e::es) X.env).map (·.2)=assign e X.env::(assignEach es X.env).map (·.2):=by rfl):Du X (e::es) (ik t u):=⟨E7 (h1:=h1.of) (h2:=h2.of) (hs:=hs)⟩
end
section
variable {X:Cx} {pos:aE} {e:ν} {es:List ν}
theorem o7{k:Nat}{t:kQ}{n:Nat}(hc:X.calm=true)(h:Du X es t)(hn:(assignEach es X.env).length=n:=by rfl)(hst:(assignEach es X.env).findIdx? (·.1)=none:=by rfl):QG X (.Tuple es k pos) (qU n t):=⟨Kp (hc:=hc) (h:=h.of) (hn:=hn) (hst:=hst)⟩
end
section
variable {X:Cx} {pos:aE} {e:ν} {es:List ν}
theorem uY{tg:ν}{te:ag}{g:gf}(he:QE X e te)(hg:QG X tg g)(hs:swapsWithSole [tg] e pos.line X.env=pure false:=by rfl)(hw:swappedStores [tg] e X.env=pure none:=by rfl)(h1:(assignEach [tg] X.env).map (·.2)=[assign tg X.env]:=by rfl):QS X (.Assign [tg] e pos) (cI te g):=⟨Jp (he:=he.of) (hg:=hg.of) (hs:=hs) (hw:=hw) (h1:=h1)⟩
end
section
variable {X:Cx} {pos:aE} {e:ν} {es:List ν}
theorem ck{i:Nat}{x:π}{te:ag}{pos':aE}(hN:X.N.Nodup)(he:QE X e te)(hi:X.N[i]?=some x:=by rfl)(hx:Loc X.env.scope x:=by first|exact pN rfl|exact mU rfl)(hs:swapsWith e (some (.Name x pos')) pos.line X.env=pure false:=by rfl)(hf:X.fn x=true∨X.env.scope.names.lookup x=some .local:=by first|exact .inl rfl|exact .inr rfl|assumption):QS X (.Assign [.Name x pos'] e pos) (cI te (hName i)):=⟨Jk (hN:=hN) (he:=he.of) (hi:=hi) (hx:=hx) (hs:=hs) (hf:=hf)⟩
end
section
variable {X:Cx} {pos:aE} {e:ν} {es:List ν}
theorem zY{o i:ν}{to ti:ag}(ho:QE X o to)(hi:QE X i ti) (ha:∀v,assign (.Subscript o i pos) X.env v=(do
   let ov ←holding [v] (eval o X.env)
   let iv ←holding [v,ov] (eval i X.env)
   standAt pos
   holding [v,ov,iv] (setItem ov iv v)
   release [v,ov,iv] []):=by intro _;rfl):QG X (.Subscript o i pos) (hSub to ti):=⟨Kq (ho:=ho.of) (hi:=hi.of) (ha:=ha)⟩
end
section
variable {X:Cx} {k:Nat} {f:ε} {fd:aM} {ps:List π} {sp:fz} {x:π} {p pos:aE} {e:ν} {es:List ν} {t:cq}
theorem bf(F:cV X.prog X.w X.K X.mg X.base k f fd ps sp)(hr:eL k X.A)(hm:X.mg x=some (.ref f))(hk:fP X.K (.ref f)=true)(hb:Binds X.K fd ps [])(ha:QA X (e::es) t)(hg:Gl X x:=by rfl)(hdb:(x==("__debug__":π))=false:=by decide)(he:notStar e=true:=by rfl)(hpl:es.all notStar=true:=by rfl):QE X (.Call (.Name x p) (e::es) [] pos) (bM sp t):=⟨Iq (F:=F) (hr:=hr) (hm:=hm) (hk:=hk) (hb:=hb) (ha:=ha.of) (hg:=hg) (hdb:=hdb) (he:=he) (hpl:=hpl)⟩
end
section
variable {X:Cx} {tg iter:ν} {pos p:aE}
theorem jU{l:ν}{te:ag}(hl:QE X l te):QI X tg l (ma te):=⟨Ko (hl:=hl.of)⟩
end
section
variable {X:Cx} {tg iter:ν} {pos p:aE}
theorem sI{a:ν}{ta:cq}(hm:X.mg "range" = none)(ha:QA X [a] ta)(hg:Gl X "range":=by rfl)(hs:notStar a=true:=by rfl):QI X tg (.Call (.Name "range" p) [a] [] pos) (nA ta):=⟨HV (hm:=hm) (ha:=ha.of) (hg:=hg) (hs:=hs)⟩
end
section
variable {X:Cx} {tg iter:ν} {pos p:aE}
theorem my{body:List aU}{ti:jY}{g:gf}{tb:aN}(hp:PassesOwn (model X.prog X.w) X.A X.env X.xe)(hc:X.calm=true)(hi:QI X tg iter ti)(hg:QG X tg g)(hb:tU X body tb)(hs:∀x,foldedSetIterable iter X.env x=pure x:=by intro _;rfl):QS X (.For tg iter body [] pos) (oX ti g tb):=⟨Jo (hp:=hp) (hc:=hc) (hi:=hi.of) (hg:=hg.of) (hb:=hb.of) (hs:=hs)⟩
end
section
variable {X:Cx} {tg iter:ν} {pos p:aE}
theorem gW  : QC X [] (cY):=⟨Iv ⟩
end
section
variable {X:Cx} {K:ζ}
theorem dY{a b:ν}{ta tb:ag}{pos:aE}(ha:QE X a ta)(hb:QE X b tb)(hs:mM b:=by intro _ _;rfl):QE X (.Subscript a b pos) (aX eX ta tb):=⟨L0 (ha:=ha.of) (hb:=hb.of) (hs:=hs)⟩
end
section
variable {X:Cx} {K:ζ}
theorem u7{es:List ν}{b:ν}{ta:cq}{tb:ag}{pos pos':aE}(ha:QA X es ta)(hb:QE X b tb)(hs:mM b:=by intro _ _;rfl):QE X (.Subscript (.List es pos') b pos) (r0 ta tb):=⟨Ff (ha:=ha.of) (hb:=hb.of) (hs:=hs)⟩
end
section
variable {X:Cx} {a b e:ν} {ta tb:ag} {pos:aE}
theorem gU  : QO X none iU:=⟨GX ⟩
end
section
variable {X:Cx} {a b e:ν} {ta tb:ag} {pos:aE}
theorem fI(h:QE X e ta):QO X (some e) (gX ta):=⟨GW (h:=h.of)⟩
end
section
variable {X:Cx} {a b e:ν} {ta tb:ag} {pos:aE}
theorem jI{lo hi:Option ν}{tl th:tS}{p2:aE}(ha:QE X a ta)(hl:QO X lo tl)(hh:QO X hi th):QE X (.Subscript a (.Slice lo hi none p2) pos) (nX ta tl th):=⟨LX (ha:=ha.of) (hl:=hl.of) (hh:=hh.of)⟩
end
section
variable {X:Cx} {K:ζ} {e:ν} {es:List ν} {t:cq} {ta:ag} {pos p:aE}
theorem gi(hu:X.A.units+64<cLine)(hm:X.mg "len" = none)(ha:QA X (e::es) t)(hg:Gl X "len":=by rfl)(he:notStar e=true:=by rfl)(hpl:es.all notStar=true:=by rfl):QE X (.Call (.Name "len" p) (e::es) [] pos) (cx gS t):=⟨Ii (hu:=hu) (hm:=hm) (ha:=ha.of) (hg:=hg) (he:=he) (hpl:=hpl)⟩
end
section
variable {X:Cx} {K:ζ} {e:ν} {es:List ν} {t:cq} {ta:ag} {pos p:aE}
theorem Eg(hu:X.A.units+64<cLine)(hm:X.mg "int" = none)(ha:QA X (e::es) t)(hg:Gl X "int":=by rfl)(he:notStar e=true:=by rfl)(hpl:es.all notStar=true:=by rfl):QE X (.Call (.Name "int" p) (e::es) [] pos) (cx uf t):=⟨Ij (hu:=hu) (hm:=hm) (ha:=ha.of) (hg:=hg) (he:=he) (hpl:=hpl)⟩
end
section
variable {X:Cx} {K:ζ} {e:ν} {es:List ν} {t:cq} {ta:ag} {pos p:aE}
theorem Ef(hu:X.A.units+64<cLine)(hm:X.mg "max" = none)(ha:QA X (e::es) t)(hc:X.calm=true:=by rfl)(hg:Gl X "max":=by rfl)(he:notStar e=true:=by rfl)(hpl:es.all notStar=true:=by rfl):QE X (.Call (.Name "max" p) (e::es) [] pos) (cx x9 t):=⟨Ih (hu:=hu) (hm:=hm) (ha:=ha.of) (hc:=hc) (hg:=hg) (he:=he) (hpl:=hpl)⟩
end
section
variable {X:Cx} {K:ζ} {e:ν} {es:List ν} {t:cq} {ta:ag} {pos p:aE}
theorem lK(hu:X.A.units+64<cLine)(hm:X.mg "tuple" = none)(ha:QA X (e::es) t)(hg:Gl X "tuple":=by rfl)(he:notStar e=true:=by rfl)(hpl:es.all notStar=true:=by rfl):QE X (.Call (.Name "tuple" p) (e::es) [] pos) (cx jy t):=⟨Cc (hu:=hu) (hm:=hm) (ha:=ha.of) (hg:=hg) (he:=he) (hpl:=hpl)⟩
end
section
variable {X:Cx} {a e:ν} {es:List ν} {ta:ag} {t:cq} {pos p p2:aE}
theorem gj{T:String}{TS:π}(k:wb T)(hv:eN TS=some (.type T))(ha:QE X a ta)(hm:X.mg "isinstance" = none)(hm2:X.mg TS=none)(hgT:Gl X TS)(hnT:TS≠"__name__")(hdT:(TS==("__debug__":π))=false)(hg:Gl X "isinstance":=by rfl)(he:notStar a=true:=by rfl):QE X (.Call (.Name "isinstance" p) [a,.Name TS p2] [] pos) (jK T ta):=⟨Im (k:=k) (hv:=hv) (ha:=ha.of) (hm:=hm) (hm2:=hm2) (hgT:=hgT) (hnT:=hnT) (hdT:=hdT) (hg:=hg) (he:=he)⟩
end
section
variable {X:Cx} {K:ζ} {e:ν} {es:List ν} {t:cq} {ta:ag} {pos p p' pos':aE}
theorem ye(hu:X.A.units+64<cLine)(hm:X.mg "sorted" = none)(ha:QA X (e::es) t)(hc:X.calm=true:=by rfl)(hg:Gl X "sorted":=by rfl)(he:notStar e=true:=by rfl)(hpl:es.all notStar=true:=by rfl):QE X (.Call (.Name "sorted" p) (e::es) [] pos) (cx nk t):=⟨AK (hu:=hu) (hm:=hm) (ha:=ha.of) (hc:=hc) (hg:=hg) (he:=he) (hpl:=hpl)⟩
end
section
variable {X:Cx} {K:ζ} {e:ν} {es:List ν} {t:cq} {ta:ag} {pos p p' pos':aE}
theorem yf(hu:X.A.units+64<cLine)(ha:QE X e ta)(hm:X.mg "sorted" = none)(hm2:X.mg "set" = none)(hc:X.calm=true:=by rfl)(hg:Gl X "sorted":=by rfl)(hg2:Gl X "set":=by rfl)(he2:notStar e=true:=by rfl):QE X (.Call (.Name "sorted" p) [.Call (.Name "set" p') [e] [] pos'] [] pos) (qX ta):=⟨AL (hu:=hu) (ha:=ha.of) (hm:=hm) (hm2:=hm2) (hc:=hc) (hg:=hg) (hg2:=hg2) (he2:=he2)⟩
end
section
variable {X:Cx} {K:ζ} {e:ν} {es:List ν} {t:cq} {ta:ag} {pos p p' pos':aE}
theorem mB(hu:X.A.units+64<cLine)(hm:X.mg "all" = none)(ha:QA X (e::es) t)(hc:X.calm=true:=by rfl)(hg:Gl X "all":=by rfl)(he:notStar e=true:=by rfl)(hpl:es.all notStar=true:=by rfl):QE X (.Call (.Name "all" p) (e::es) [] pos) (cx lI t):=⟨Il (hu:=hu) (hm:=hm) (ha:=ha.of) (hc:=hc) (hg:=hg) (he:=he) (hpl:=hpl)⟩
end
section
variable {X:Cx} {es:List ν} {n0:Nat} {ps p pos:aE}
theorem Gh{a b:ν}{ta:cq}(hm:X.mg "zip" = none)(ha:QA X [a,b] ta)(hg:Gl X "zip":=by rfl)(hs:notStar a=true:=by rfl)(hs2:notStar b=true:=by rfl):QI X (.Tuple es n0 ps) (.Call (.Name "zip" p) [a,b] [] pos) (BW ta):=⟨Kl (hm:=hm) (ha:=ha.of) (hg:=hg) (hs:=hs) (hs2:=hs2)⟩
end
section
variable {X:Cx} {es:List ν} {n0:Nat} {ps p pos:aE}
theorem Ee{a:ν}{ta:cq}(hm:X.mg "enumerate" = none)(ha:QA X [a] ta)(hg:Gl X "enumerate":=by rfl)(hs:notStar a=true:=by rfl):QI X (.Tuple es n0 ps) (.Call (.Name "enumerate" p) [a] [] pos) (yx ta):=⟨HW (hm:=hm) (ha:=ha.of) (hg:=hg) (hs:=hs)⟩
end
section
variable {X:Cx} {a b c e o:ν} {es:List ν} {ta tb tc te to:ag} {t:cq} {pos apos cpos p:aE}
theorem vb{op op':iw}{r r':R3}{r2 r2':R2}(L:cz X.K r r2)(L':cz X.K r' r2')(ho:cy X (compareOp op) r2)(ho':cy X (compareOp op') r2')(ha:QE X a ta)(hb:QE X b tb)(hc:QE X c tc)(hm:lastMarks [op,op'] [b,c]=false:=by with_unfolding_all rfl):
  QE X (.Compare a [op,op'] [b,c] pos) (jW r r' ta tb tc):=⟨Fg (op:=op) (op':=op') L L' (BI ho ho' ha.of hb.of hc.of hm)⟩
theorem zX{op op':iw}{r r':R3}{r2 r2':R2}(L:cz X.K r r2)(L':cz X.K r' r2')(ho:cy X (compareOp op) r2)(ho':cy X (compareOp op') r2')(ha:QE X a ta)(hb:QE X b tb)(hc:QE X c tc)(hm:lastMarks [op,op'] [b,c]=false:=by with_unfolding_all rfl):
  QT X (.Compare a [op,op'] [b,c] pos) (bL (jW r r' ta tb tc)):=⟨A6 (op:=op) (op':=op') L L' (BC ho ho' ha.of hb.of hc.of hm)⟩
theorem u6{name:π}{id:String}{r:D->List D->Gp->V3->Prop}{r2:V->List V->Hp->VK->Prop}(L:md X.K r r2)(slot:Slot "list" name id)(hty:typeOf (.builtin id)=pure (.type "method_descriptor"))(hm:wa X id r2)(ho:QE X o to)(ha:QA X (e::es) t)
  (rZ:attributeBase o name X.env (eval o X.env)=eval o X.env:=by rfl)
  (vF:((backTo cpos (ba (e::es) X.env)).all (fun x=>!x.1)&&(backToKw cpos (keywordEach [] X.env)).all (fun x=>x.1.isSome)
   && decide ((e::es).length+([]:List mW).length+(if ([]:List mW).isEmpty then 0 else 1)<30))=true:=by rfl)
  (rY:(apos.endLine==cpos.line)=true:=by rfl) (he:notStar e=true:=by rfl) (hpl:es.all notStar=true:=by rfl):
  QE X (.Call (.Attribute o name apos) (e::es) [] cpos) (eM r to t):=⟨KC L (C5 PySem.F.plainAttrs_list slot hty hm ho.of ha.of rZ vF rY (bt he) (cH hpl))⟩
end
section
variable {X:Cx} {tg iter elt:ν} {ifs:List ν} {scope:fD} {own:List π} {js:List Nat} {ti:jY} {g:gf} {tc:cf} {te:ag} {pos:aE}
theorem gV(hc:X.calm=true)(C:dF X.N X.env.scope scope own js)(hi:QI X tg iter ti)
  (hb:∀s H fp,QG (X.cmp scope own js s H fp) tg g/\QC (X.cmp scope own js s H fp) ifs tc/\QE (X.cmp scope own js s H fp) elt te)
  (hs:∀x,foldedSetIterable iter X.env x=pure x:=by intro _;rfl):QE X (.ListComp elt [⟨tg,iter,ifs,0⟩] scope pos) (il own js ti g tc te):=
 ⟨Ip hc C hi.of (fun s H fp=>⟨(hb s H fp).1.of,(hb s H fp).2.1.of,(hb s H fp).2.2.of⟩) hs⟩
end
theorem fJ{P:ah}{w:ar}{K:ζ}{mg:π->Option δ}{base:ae}{x qual:π}{st:aU}{f:ε}{fd:aM}{N ps:List π}{k:Nat}{sp:fz}(F:fA K x qual st f fd)(S:bR N ps (ax st))(hN:ps.length≤N.length)(len:∀ds G Q,sp ds G Q->ds.length=ps.length)(tb:aN)
  (nC:∀(cdv:δ) (A:bo) (outer:List fV) (s:η) (H:Hp) (E:XK),eL k (A.deeper (envOfC qual (ax st) s.heap.objs.size f cdv)) ->
   tU (pF tZ P w K mg base N qual (ax st) f cdv A outer s H E).w9 (iJ st) tb)
  (Dp:∀ds G Q,sp ds G Q->tb (bG Q) (bB N ds) G):cV P w K mg base (k+1) f fd ps sp:=MA F S hN len tb (fun cdv A outer s H E hr=>(nC cdv A outer s H E hr).of) Dp
end L3
namespace L3
open PySem PySem.Spec PyProof.Rows L2
section
variable {X:Cx} {K:ζ}
theorem eJ{H:Hp}{x:π}{v:V}(h:Hv K H (.str x) v):v=.str x:=by
 unfold Hv at h;exact h
theorem iW{H:Hp}{x:π}:Hv K H (.str x) (.str x):=by
 unfold Hv;rfl
def mx:R3:=fun x y G Q=>match x,y with
 |.str i,.str j=>i.length+j.length≤Φ/\Q (.str (i++j)) G
 |_,_=>False
theorem rT:cz K mx (fun x y H Q=>∃i j,x=.str i/\y=.str j/\i.length+j.length≤Φ/\Q (.str (i++j)) H):=fun x y vx vy G H Q3 Q hx hy RG h k=>by
 unfold mx at h;split at h
 ·rename_i i j;exact⟨i,j,eJ hx,eJ hy,h.1,k _ H (.str (i++j)) G iW (.refl H G) RG h.2⟩
 ·exact h.elim
def yb:R3:=fun x y G Q=>match x,y with
 |.str i,.str j=>Q (.bl (!(bF j i 0 j.length 1).isEmpty)) G
 |_,_=>False
theorem Ki:cz K yb (fun x y H Q=>∃i j,x=.str i/\y=.str j/\Q (.bl (!(bF j i 0 j.length 1).isEmpty)) H):=fun x y vx vy G H Q3 Q hx hy RG h k=>by
 unfold yb at h;split at h
 ·rename_i i j;exact⟨i,j,eJ hx,eJ hy,k _ H (.bl _) G iX (.refl H G) RG h⟩
 ·exact h.elim
variable {e:ν} {es:List ν} {t:cq} {ta:ag} {pos p:aE}
def o5:C3:=fun ds G Q=>match ds with
 |[.str z]=>z.length≤Φ/\Q (.int z.length) G
 |_=>False
theorem HI:kT K o5 (fun xs H Q=>∃z,xs=[.str z]/\z.length≤Φ/\Q (.int z.length) H):=fun ds vs G H Q3 Q h RG q k=>by
 unfold o5 at q;split at q
 ·rename_i z;obtain⟨v,rfl,hv⟩:=i3 h;rw[eJ hv];exact⟨z,rfl,q.1,k _ H (.int _) G fc (.refl H G) RG q.2⟩
 ·exact q.elim
theorem Fd(hu:X.A.units+64<cLine)(hm:X.mg "len" = none)(ha:hZ X (e::es) t)(hg:Gl X "len":=by rfl)(he:notStar e=true:=by rfl)(hpl:es.all notStar=true:=by rfl):
  bA X (.Call (.Name "len" p) (e::es) [] pos) (cx o5 t):=nH HI (iy vU hg hm PySem.boot_len ha (he:=bt he) (hpl:=cH hpl))
def kJ:C3:=fun ds G Q=>match ds with
 |[.int i]=>i.natAbs.log2<1920/\Q (.str (toString i)) G
 |_=>False
theorem HG:kT K kJ (fun xs H Q=>∃i,xs=[.int i]/\i.natAbs.log2<1920/\Q (.str (toString i)) H):=fun ds vs G H Q3 Q h RG q k=>by
 unfold kJ at q;split at q
 ·rename_i i;obtain⟨v,rfl,hv⟩:=i3 h;rw[cG hv];exact⟨i,rfl,q.1,k _ H (.str _) G iW (.refl H G) RG q.2⟩
 ·exact q.elim
theorem Fc(hu:X.A.units+64<cLine)(hm:X.mg "str" = none)(ha:hZ X (e::es) t)(hg:Gl X "str":=by rfl)(he:notStar e=true:=by rfl)(hpl:es.all notStar=true:=by rfl):
  bA X (.Call (.Name "str" p) (e::es) [] pos) (cx kJ t):=nH HG (jV vR hg hm rfl ha (he:=bt he) (hpl:=cH hpl))
theorem ub:gs X (.type "int") (fun xs H Q=>∃x n,xs=[.str x]/\x.length≤640/\mQ x=some n/\Q (.int n) H):=by
 intro pins s σ H xs us Q I r h;obtain⟨x,n,rfl,hl,hn,q⟩:=h;obtain⟨u,rfl,t,rfl⟩:=vals1 r;exact PySem.W.KIN.call_text hn hl ⟨.int n,H,I.tok _,⟨_,rfl⟩,q⟩
def o6:C3:=fun ds G Q=>match ds with
 |[.str x]=>x.length≤640/\∃n,mQ x=some n/\Q (.int n) G
 |_=>False
theorem HJ:kT K o6 (fun xs H Q=>∃x n,xs=[.str x]/\x.length≤640/\mQ x=some n/\Q (.int n) H):=fun ds vs G H Q3 Q h RG q k=>by
 unfold o6 at q;split at q
 ·rename_i x;obtain⟨v,rfl,hv⟩:=i3 h;obtain⟨hl,n,hn,q⟩:=q;rw[eJ hv];exact⟨x,n,rfl,hl,hn,k _ H (.int _) G fc (.refl H G) RG q⟩
 ·exact q.elim
theorem Fe(hu:X.A.units+64<cLine)(hm:X.mg "int" = none)(ha:hZ X (e::es) t)(hg:Gl X "int":=by rfl)(he:notStar e=true:=by rfl)(hpl:es.all notStar=true:=by rfl):
  bA X (.Call (.Name "int" p) (e::es) [] pos) (cx o6 t):=nH HJ (jV ub hg hm rfl ha (he:=bt he) (hpl:=cH hpl))
end
def vK(r:D->List D->Gp->V3->Prop)(to:ag)(t:cq):ag:=fun τ G Q=>to τ G fun x G1=>(∃z,x=.str z)/\t τ G1 fun ds G2=>r x ds G2 Q
section
variable {X:Cx} {K:ζ} {t:cq}
theorem Hq{r:D->List D->Gp->V3->Prop}{r2:V->List V->Hp->VK->Prop}{to:ag}(L:md K r r2){σ:L2.St}{H:Hp}{Q:VK}(h:low K (vK r to t) σ H Q):CO K "str" r2 (low K to) (qT K t) σ H Q:=by
 obtain⟨τ,G,Q3,RS,RG,h,k⟩:=h;refine⟨τ,G,_,RS,RG,h,fun v1 H1 d1 G1 h1 S1 R1 q1=>?_⟩;obtain⟨⟨z,rfl⟩,q1⟩:=q1;refine⟨?_,τ,G1,_,RS.ext (S1.ext RG),R1,q1,fun vs H2 ds G2 h2 S2 R2 q2=>?_⟩
 ·rw[eJ h1];exact rfl
 ·exact L _ _ _ _ _ _ _ _ (h1.ext (S2.ext R1)) h2 R2 q2 fun v H' d G' z1 z2 z3 z4=>k v H' d G' z1 ((S1.trans S2).trans z2) z3 z4
theorem tz:∀l:List (π×gv),aH ((l.map (·.1)).map V.str) (strValues l)
 |[]=>.nil
 | (x,t)::l=>.cons ⟨t,rfl⟩ (tz l)
theorem tp:∀{xs:List π} {its:List δ},aH (xs.map V.str) its->∃l:List (π×gv),its=strValues l/\l.map (·.1)=xs
 |[],_,h=>⟨[],h.zero,rfl⟩
 |x::xs,_,h=>by
  cases h with
  |cons r1 r2=>
   obtain⟨t,e⟩:=r1;obtain⟨l,e1,e2⟩:=tp r2;exact⟨(x,t)::l,by rw[e,e1];rfl,by rw[cn,e2]⟩
theorem vE{H:Hp}:∀(xs:List π),aw K H (xs.map D.str) (xs.map V.str)
 |[]=>.nil
 |x::xs=>.cons iW (vE xs)
def strsOf:List D->Option (List π)
 |[]=>some []
 |.str x::ds=>(strsOf ds).map (x::·)
 |_=>none
theorem lX{H:Hp}:∀{ds:List D} {vs:List V} {xs:List π},aw K H ds vs->strsOf ds=some xs->vs=xs.map V.str
 |[],_,xs,h,e=>by
  cases e;exact h.gC
 |d::ds,vs,xs,h,e=>by
  obtain⟨v,r,rfl,q,z⟩:=h.inv;cases d with
  |str x=>
   unfold strsOf at e;cases e1:strsOf ds with
   |none=>rw[e1] at e;cases e
   |some ys=>
    rw[e1] at e;cases e;rw[lX z e1,eJ q];rfl
  |_=>cases e
def wQ:V->List V->Hp->VK->Prop:=fun x vs H Q=>∃z y,x=.str z/\vs=[.str y]/\(y.length==0)=false/\z.length+2≤Φ/\∀l,H l=none->Q (.ref l) (upd H l (.lst ((Txt.split z y).map V.str)))
theorem vh:wa X "str.split" wQ:=by
 intro pins s σ H x vs v us Q I rx rv h;obtain⟨z,y,rfl,rfl,hy,hz,q⟩:=h;obtain⟨t,rfl⟩:=rx;obtain⟨u',rfl,ru⟩:=rv.one;obtain⟨u,rfl⟩:=ru;have fin:∀(l:List (π×gv)) (tk:Nat),l.map (·.1)=Txt.split z y->EP X pins σ Q (.ref s.heap.objs.size) { s with heap:=s.heap.push { cls:=.type "list",data:=.seq (strValues l).toArray },toks:=tk }:=fun l tk e=>by
  have hv:=tz l;rw[e] at hv;refine⟨.ref _,_,I.yu (t':=tk) hv ?_,rfl,q _ I.fresh⟩;have:=split_le z y;rw[ξ];lia
 have hx:z.length≤Φ:=by lia
 cases h1:(decide (z.length<y.length)||decide (oF z<oF y))
 ·cases hf:(bF z y 0 z.length (z.length+1)).isEmpty
  ·have es:Txt.split z y=gO z (bF z y 0 z.length (z.length+1)) y.length:=by
    unfold Txt.split;rw[if_neg (ne_true_of_eq_false h1),if_neg (ne_true_of_eq_false hf)]
   have hn:(gO z (bF z y 0 z.length (z.length+1)) y.length).length≤Φ:=by
    rw[←es];have:=split_le z y;lia
   refine fi F.slot_str_split (i9 _ _ _) F.entry_str_split (F.args_str_split_2 _ _) (meets_str_split_sep z y t u h1 hy hf hx hn) ?_;show EP X pins σ Q _ { s with toks:=_,heap:=s.heap.push { cls:=.type "list",data:=.seq (strsFrom s.toks (gO z (bF z y 0 z.length (z.length+1)) y.length)).toArray }};rw[strsFrom_eq];exact fin (numbered s.toks _) _ ((numbered_texts _ _).trans es.symm)
  ·refine fi F.slot_str_split (i9 _ _ _) F.entry_str_split (F.args_str_split_2 _ _) (meets_str_split_not_found z y t u h1 hy hf) ?_;exact fin [(z,t)] s.toks (by unfold Txt.split;rw[if_neg (ne_true_of_eq_false h1),if_pos hf];rfl)
 ·refine fi F.slot_str_split (i9 _ _ _) F.entry_str_split (F.args_str_split_2 _ _) (meets_str_split_cannot_occur z y t u h1) ?_;exact fin [(z,t)] s.toks (by unfold Txt.split;rw[if_pos h1];rfl)
def nq:D->List D->Gp->V3->Prop:=fun x ds G Q=>match x,ds with
 |.str z,[.str y]=>(y.length==0)=false/\z.length+2≤Φ/\∀p G',dv G p (.lst ((Txt.split z y).map D.str)) G'->Q (.obj p) G'
 |_,_=>False
theorem vt:md K nq wQ:=fun x vx ds vs G H Q3 Q hx hs RG q k=>by
 unfold nq at q;split at q
 ·rename_i z y;obtain⟨h1,h2,q⟩:=q;obtain⟨v,rfl,hv⟩:=i3 hs;rw[eJ hx,eJ hv];exact⟨z,y,rfl,rfl,h1,h2,fun l hl=>k _ _ (.obj l) _ kM (.i0 hl) (RG.qO hl (vE _)) (q l _ (.mk' (RG.free hl)))⟩
 ·exact q.elim
def zU(K:ζ):V->List V->Hp->VK->Prop:=fun x vs H Q=>∃z a xs,x=.str z/\vs=[.ref a]/\du K H a (xs.map V.str)/\JoinOk z xs=true/\Q (.str (Txt.join z xs)) H
theorem xb:wa X "str.join" (zU X.K):=by
 intro pins s σ H x vs v us Q I rx rv h;obtain⟨z,a,xs,rfl,rfl,hq,bD,q⟩:=h;obtain⟨t,rfl⟩:=rx;obtain⟨u',rfl,ru⟩:=rv.one;cases ru;obtain⟨its,rvs,pl,_⟩:=I.list hq;obtain⟨l,rfl,e⟩:=tp rvs;have hok':oE ((l.map (·.1)).toArray.foldl (· + ·.length+z.length) 0)=false:=by
  rw[e];unfold JoinOk at bD;rw[Bool.not_eq_true'] at bD;exact bD
 refine fi F.slot_str_join (i9 _ _ _) F.entry_str_join (F.args_str_join_2 _ _) (meets_str_join_list z t a l hok') ⟨pl.isList,post_join l ⟨joinFit_length hok',fun t' k=>?_⟩⟩;rw[e];exact⟨.str _,H,I.tok _,⟨_,rfl⟩,q⟩
def pY:D->List D->Gp->V3->Prop:=fun x ds G Q=>match x,ds with
 | .str z,[d]=>∃es xs,(match d with
  |.obj p=>G p=some (.lst es)
  |.eW us=>es=us
  | _=>False)/\strsOf es=some xs/\JoinOk z xs=true/\Q (.str (Txt.join z xs)) G
 |_,_=>False
theorem xg:md K pY (zU K):=fun x vx ds vs G H Q3 Q hx hs RG q k=>by
 unfold pY at q;split at q
 ·rename_i z d;obtain⟨es,xs,h1,h2,h3,q⟩:=q;obtain⟨v,rfl,hv⟩:=i3 hs;rw[eJ hx];cases d with
  |obj p=>
   obtain⟨us,e1,e2⟩:=RG p _ h1;rw[dU hv];exact⟨z,p,xs,rfl,rfl,du.of (by rw[e1,lX e2 h2]),h3,k _ H (.str _) G iW (.refl H G) RG q⟩
  |eW us=>
   cases h1;obtain⟨a,ws,rfl,e1,e2⟩:=kP hv;refine⟨z,a,xs,rfl,rfl,?_,h3,k _ H (.str _) G iW (.refl H G) RG q⟩;rw[←lX e2 h2];exact e1.l
  |_=>exact h1.elim
 ·exact q.elim
def uW:V->List V->Hp->VK->Prop:=fun x vs H Q=>∃z y,x=.str z/\vs=[.str y]/\Q (.bl (Txt.startswith z y)) H
theorem Aq:wa X "str.startswith" uW:=by
 intro pins s σ H x vs v us Q I rx rv h;obtain⟨z,y,rfl,rfl,q⟩:=h;obtain⟨t,rfl⟩:=rx;obtain⟨u',rfl,ru⟩:=rv.one;obtain⟨u,rfl⟩:=ru;exact SC.startswith ⟨.bl _,H,I,rfl,q⟩
def oY:D->List D->Gp->V3->Prop:=fun x ds G Q=>match x,ds with
 |.str z,[.str y]=>Q (.bl (Txt.startswith z y)) G
 |_,_=>False
theorem Ay:md K oY uW:=fun x vx ds vs G H Q3 Q hx hs RG q k=>by
 unfold oY at q;split at q
 ·rename_i z y;obtain⟨v,rfl,hv⟩:=i3 hs;rw[eJ hx,eJ hv];exact⟨z,y,rfl,rfl,k _ H (.bl _) G iX (.refl H G) RG q⟩
 ·exact q.elim
end
end L3
namespace L3
open PySem PySem.Spec PyProof.Rows L2
def Dn:List ag->π->S3->Gp->V3->Prop
 |[],acc,_,G,Q=>acc.length≤Φ/\Q (.str acc) G
 |t::ts,acc,τ,G,Q=>t τ G fun x G1=>match x with
  |.str y=>(acc++y).length≤Φ/\Dn ts (acc++y) τ G1 Q
  |_=>False
def yJ(ts:List ag):ag:=fun τ G Q=>Dn ts eD τ G Q
def vL(ta:ag):ag:=fun τ G Q=>ta τ G fun x G1=>match x with
 |.int i=>i.natAbs.log2<1920/\Q (.str (toString i)) G1
 |_=>False
section
variable {X:Cx} {e a b:ν} {rest:List ν} {ta tb:ag} {ts:List ag} {pos:aE}
inductive tj(X:Cx):List ν->List ag->Prop
 |nil:tj X [] []
 |cons {e t es ts}:bA X e t->tj X es ts->tj X (e::es) (t::ts)
theorem KH(ha:bA X a ta):bA X (.FormattedValue a (-1) none pos) (vL ta):=by
 intro pins s σ H Q I ⟨τ,G,Q3,RS,RG,h,kk⟩;refine wpAny_FormattedValue_plain (bq (ha pins s σ H (fun v H1=>∃d G1,Hv X.K H1 d v/\Step H G H1 G1/\aK X.K G1 H1/\(match d with
  |.int i=>i.natAbs.log2<1920/\Q3 (.str (toString i)) G1
  | _=>False)) I ⟨τ,G,_,RS,RG,h,fun v H1 d G1 a b c q=>⟨d,G1,a,b,c,q⟩⟩) fun u s1 ⟨v,H1,I1,r1,d,G1,hd,S1,R1,q⟩=>?_)
 cases d with
 |int i=>
  rw[cG hd] at r1;obtain⟨t,rfl⟩:=r1;exact wpAny_formatField_int q.1 ⟨.str _,H1,I1.tok _,⟨_,rfl⟩,kk _ H1 (.str _) G1 iW S1 R1 q.2⟩
 |_=>exact q.elim
theorem HQ:∀{es:List ν} {ts:List ag},tj X es ts->∀{pins:List (ε×aJ)} {s:η} {σ:L2.St} {H:Hp} {acc:π} {τ:S3} {G:Gp} {Q3:V3} {R:π->η->Prop},Inv X pins σ H s->dq X.K τ σ H->aK X.K G H->Dn ts acc τ G Q3 ->
  (∀out s' H' G',Inv X pins σ H' s'->Step H G H' G'->aK X.K G' H'->out.length≤Φ->Q3 (.str out) G'->R out s')->Joins (model X.prog X.w) X.A X.xe (evalEach es X.env) acc R s:=by
 intro es ts hp
 induction hp with
 |nil=>
  intro pins s σ H acc τ G Q3 R I RS RG h k;exact Joins_nil (k acc s H G I (.refl H G) RG h.1 h.2)
 |@cons e t es ts he _ ih=>
  intro pins s σ H acc τ G Q3 R I RS RG h k;refine Joins_cons (bq (he pins s σ H (fun v H1=>∃d G1,Hv X.K H1 d v/\Step H G H1 G1/\aK X.K G1 H1/\(match d with
   |.str y=>(acc++y).length≤Φ/\Dn ts (acc++y) τ G1 Q3
   | _=>False)) I ⟨τ,G,_,RS,RG,h,fun v H1 d G1 a b c q=>⟨d,G1,a,b,c,q⟩⟩) fun u s1 ⟨v,H1,I1,r1,d,G1,hd,S1,R1,q⟩=>?_)
  cases d with
  |str y=>
   rw[eJ hd] at r1;obtain⟨t',rfl⟩:=r1;exact⟨y,t',rfl,q.1,ih I1 (RS.ext (S1.ext RG)) R1 q.2 fun out s' H' G' z1 z2 z3 z4 z5=>k out s' H' G' z1 (S1.trans z2) z3 z4 z5⟩
  |_=>exact q.elim
theorem KG(h:tj X (a::b::rest) ts):bA X (.JoinedStr (a::b::rest) pos) (yJ ts):=by
 intro pins s σ H Q I ⟨τ,G,Q3,RS,RG,hj,kk⟩;refine wpAny_JoinedStr (HQ h I RS RG hj fun out s' H' G' z1 z2 z3 z4 z5=>⟨z4,?_⟩);exact⟨.str out,H',z1.tok _,⟨_,rfl⟩,kk _ H' (.str out) G' iW z2 z3 z5⟩
end
def IM(z:π):It:=⟨fun i _=>i<z.cps.size,fun i H x H'=>H'=H/\∃c,z.cps[i]?=some c/\x=.str ⟨#[c]⟩,fun i _=>z.cps.size≤i⟩
theorem A5{P:ah}{w:ar}{K:ζ}{tg:ν}(it:ε)(z:π)(t:gv):Turn P w K tg (IM z) [it] it (fun i h=>h.IsStrIter it (strIterType z) z t i) where
 mem:=by simp
 obj:=fun i h st b hb=>by
  have e:b=it:=by simpa using hb
  subst e;obtain⟨o,e,c,d⟩:=st;exact⟨o,e,fun v z=>by rw[d] at z;cases z⟩
 keep:=fun i h h' st k=>by
  obtain⟨o,e,r⟩:=st;exact⟨o,k it (by simp) o e,r⟩
 item:=by
  intro X hP hw hK hc i pins s σ H E I hf st hg;subst hP hw hK;obtain⟨f0,f1,f2,f3,f4,f5⟩:=hf it (by simp);have hg':i<z.cps.size:=hg;have hx:z.cps[i]?=some z.cps[i]:=by simp[hg']
  have fin:∀h',h'.IsStrIter it (strIterType z) z t (i+1)->dh it s.heap h'->∃u,some (pK ⟨#[z.cps[i]]⟩ s.toks)=some u ∧
    ρ (model X.prog X.w) X.A (letOwnedTupleGo tg (.ref it) u) (fun _ s2=>∃x H',Inv X pins σ H' s2/\RelV x u/\(IM z).zi i H x H'/\s2.heap.IsStrIter it (strIterType z) z t (i+1)/\∀b∈[it],H' b=none) E { s with heap:=h',toks:=s.toks+1 }:=fun h' st' sb=>by
   have I1:Inv X pins σ H { s with heap:=h',toks:=s.toks+1 }:=I.turned (fun b o hb e=>(sb.2 b hb).trans e) f0 f1 f3 f4 f5;obtain⟨o,e,c,d⟩:=id st';refine⟨_,rfl,qf (s:={ s with heap:=h',toks:=s.toks+1 }) e c d ?_ ⟨.str ⟨#[z.cps[i]]⟩,H,I1,⟨_,rfl⟩,⟨rfl,_,hx,rfl⟩,st',fun b hb=>(hf b hb).1⟩⟩;unfold strIterType;split<;>decide
  cases ha:z.cps.all (· < 128)
  ·have et:strIterType z="str_iterator":=by simp[strIterType,ha]
   rw[et] at st;exact wpAny_pyNext_wide_item st hx fun h' hit' hs'=>fin h' (by rw[et];exact hit') hs'
  ·have et:strIterType z="str_ascii_iterator":=by simp[strIterType,ha]
   rw[et] at st;exact wpAny_pyNext_ascii_item st hx fun h' hit' hs'=>fin h' (by rw[et];exact hit') hs'
 done:=by
  intro X hP hw hK hc i pins s σ H E I hf st hg;subst hP hw hK;obtain⟨f0,f1,f2,f3,f4,f5⟩:=hf it (by simp);have hg':z.cps.size≤i:=hg;have hx:z.cps[i]?=none:=by simp;lia
  cases ha:z.cps.all (· < 128)
  ·have et:strIterType z="str_iterator":=by simp[strIterType,ha]
   rw[et] at st;exact wpAny_pyNext_wide_end (I.ok.hd hc) st hx fun h' eb=>⟨rfl,I.turned (t':=s.toks) (fun b o hb e=>eb b o hb e) f0 f1 f3 f4 f5⟩
  ·have et:strIterType z="str_ascii_iterator":=by simp[strIterType,ha]
   rw[et] at st;exact wpAny_pyNext_ascii_end (I.ok.hd hc) st hx fun h' eb=>⟨rfl,I.turned (t':=s.toks) (fun b o hb e=>eb b o hb e) f0 f1 f3 f4 f5⟩
 self:=fun A i s Q E st h=>by
  cases ha:z.cps.all (· < 128)
  ·have et:strIterType z="str_iterator":=by simp[strIterType,ha]
   rw[et] at st;exact wpAny_pyIter_striter_wide st h
  ·have et:strIterType z="str_ascii_iterator":=by simp[strIterType,ha]
   rw[et] at st;exact wpAny_pyIter_striter_ascii st h
def m8(c:Nat):D:=.str ⟨#[c]⟩
def BX(te:ag):jY:=fun τ G R=>te τ G fun x G1=>match x with
 |.str z=>R ⟨z.cps.toList.map m8,fun _=>True⟩ G1
 |_=>False
theorem D6{K:ζ}{H:Hp}(z:π):uo K H (IM z) ⟨z.cps.toList.map m8,fun _=>True⟩:=⟨by
 intro i d H' G' _ RG _ hi;have hi':(z.cps.toList.map m8)[i]?=some d:=hi;rw[av] at hi';have hz:i<z.cps.size:=by
  refine Nat.lt_of_not_le fun h=>?_;rw[List.getElem?_eq_none (by simpa using h)] at hi';cases hi'
 refine⟨hz,fun x H'' hy=>?_⟩;obtain⟨rfl,c,hc,rfl⟩:=hy;have hc':z.cps.toList[i]?=some c:=by rw[ak];exact hc
 rw[hc'] at hi';cases hi';exact⟨iW,.refl _ _,RG⟩,by
 intro i H' G' _ RG _ hi;have hi':(z.cps.toList.map m8).length≤i:=hi;rw[ξ] at hi';show z.cps.size≤i;simpa using hi'⟩
section
variable {X:Cx} {tg l:ν} {tl:ag}
theorem Km(hl:bA X l tl):sh X tg l (BX tl):=by
 intro pins s σ H R I ⟨τ,G,R3,RS,RG,h,k⟩;refine bq (hl pins s σ H (fun v H1=>∃d G1,Hv X.K H1 d v/\Step H G H1 G1/\aK X.K G1 H1/\(match d with
  |.str z=>R3 ⟨z.cps.toList.map m8,fun _=>True⟩ G1
  | _=>False)) I ⟨τ,G,_,RS,RG,h,fun v H1 d G1 a b c q=>⟨d,G1,a,b,c,q⟩⟩) fun u s1 ⟨v,H1,I1,r1,d,G1,hd,S1,R1,q⟩=>?_
 cases d with
 |str z=>
  rw[eJ hd] at r1;obtain⟨t,rfl⟩:=r1;refine wpAny_pyIter_strU ?_;refine⟨s1.heap.objs.size,[s1.heap.objs.size],_,_,H1,rfl,I1.kept (t':=s1.toks) fun b o e=>θ _ e,A5 _ z t,⟨_,Ξ _ rfl,rfl,rfl⟩,fun b hb=>?_,k _ _ _ _ (D6 z) S1 R1 q⟩;have e:b=s1.heap.objs.size:=by simpa using hb
  subst e;exact I1.pD (Γ _) (I1.bD.fresh (Γ _))
 |_=>exact q.elim
end
end L3
namespace L3
open PySem PySem.Spec PyProof.Rows L2
structure Dv(X:Cx)(es:List ν)(ts:List ag):Prop where
 of:tj X es ts
section
variable {X:Cx} {e a b o l tg:ν} {es rest:List ν} {ta te to:ag} {ts:List ag} {t:cq} {pos p apos cpos:aE}
theorem Eh{x y:π}{u:gv}(hm:X.mg x=some (.str y u))(hg:Gl X x:=by rfl)(hd:(x==("__debug__":π))=false:=by decide):QE X (.Name x pos) (eC (.str y)):=⟨mI (v:=.str y) (wZ hg hm ⟨u,rfl⟩ hd) fun H=>iW⟩
theorem wV:Dv X [] []:=⟨.nil⟩
theorem jz(h:QE X e te)(hr:Dv X es ts):Dv X (e::es) (te::ts):=⟨.cons h.of hr.of⟩
theorem zZ(h:Dv X (a::b::rest) ts):QE X (.JoinedStr (a::b::rest) pos) (yJ ts):=⟨KG h.of⟩
theorem u9(h:QE X a ta):QE X (.FormattedValue a (-1) none pos) (vL ta):=⟨KH h.of⟩
theorem Bz(hu:X.A.units+64<cLine)(hm:X.mg "len" = none)(ha:QA X (e::es) t)(hg:Gl X "len":=by rfl)(he:notStar e=true:=by rfl)(hpl:es.all notStar=true:=by rfl):QE X (.Call (.Name "len" p) (e::es) [] pos) (cx o5 t):=⟨Fd (hu:=hu) (hm:=hm) (ha:=ha.of) (hg:=hg) (he:=he) (hpl:=hpl)⟩
theorem qK(hu:X.A.units+64<cLine)(hm:X.mg "str" = none)(ha:QA X (e::es) t)(hg:Gl X "str":=by rfl)(he:notStar e=true:=by rfl)(hpl:es.all notStar=true:=by rfl):QE X (.Call (.Name "str" p) (e::es) [] pos) (cx kJ t):=⟨Fc (hu:=hu) (hm:=hm) (ha:=ha.of) (hg:=hg) (he:=he) (hpl:=hpl)⟩
theorem BA(hu:X.A.units+64<cLine)(hm:X.mg "int" = none)(ha:QA X (e::es) t)(hg:Gl X "int":=by rfl)(he:notStar e=true:=by rfl)(hpl:es.all notStar=true:=by rfl):QE X (.Call (.Name "int" p) (e::es) [] pos) (cx o6 t):=⟨Fe (hu:=hu) (hm:=hm) (ha:=ha.of) (hg:=hg) (he:=he) (hpl:=hpl)⟩
theorem Gi(hl:QE X l te):QI X tg l (BX te):=⟨Km hl.of⟩
theorem mC{name:π}{id:String}{r:D->List D->Gp->V3->Prop}{r2:V->List V->Hp->VK->Prop}(L:md X.K r r2)(slot:Slot "str" name id)(hty:typeOf (.builtin id)=pure (.type "method_descriptor"))(hm:wa X id r2)(ho:QE X o to)(ha:QA X (e::es) t)
  (rZ:attributeBase o name X.env (eval o X.env)=eval o X.env:=by rfl)
  (vF:((backTo cpos (ba (e::es) X.env)).all (fun x=>!x.1)&&(backToKw cpos (keywordEach [] X.env)).all (fun x=>x.1.isSome)
   && decide ((e::es).length+([]:List mW).length+(if ([]:List mW).isEmpty then 0 else 1)<30))=true:=by rfl)
  (rY:(apos.endLine==cpos.line)=true:=by rfl) (he:notStar e=true:=by rfl) (hpl:es.all notStar=true:=by rfl):
  QE X (.Call (.Attribute o name apos) (e::es) [] cpos) (vK r to t):=⟨dD (C5 PySem.F.plainAttrs_str slot hty hm ho.of ha.of rZ vF rY (bt he) (cH hpl)) fun _ _ _ z=>Hq L z⟩
end
end L3
namespace Tx
open PySem PySem.NumText PyProof.Rows
theorem xA{c:Nat}:∀{x y u v:List Nat},c∉x->c∉y->x++c::u=y++c::v->x=y/\u=v
 |[],[],u,v,_,_,e=>⟨rfl,(ir e).2⟩
 |[],b::y,u,v,_,hy,e=>absurd (ir e).1 fun z=>hy (by rw[z];exact Ψ)
 |a::x,[],u,v,hx,_,e=>absurd (ir e).1 fun z=>hx (by rw[z];exact Ψ)
 |a::x,b::y,u,v,hx,hy,e=>by
  obtain⟨e1,e2⟩:=ir e;obtain⟨e3,e4⟩:=xA (fun z=>hx (Ω _ z)) (fun z=>hy (Ω _ z)) e2;exact⟨by rw[e1,e3],e4⟩
def fl(c:Nat):List (List Nat)->List Nat
 |[]=>[]
 |x::xs=>c::(x++fl c xs)
theorem AG{c:Nat}:∀{xs ys:List (List Nat)} {x y:List Nat},c∉x->c∉y->(∀z∈xs,c∉z)->(∀z∈ys,c∉z)->x++fl c xs=y++fl c ys->x=y/\xs=ys
 |[],[],x,y,_,_,_,_,e=>⟨by simpa [fl] using e,rfl⟩
 |[],b::ys,x,y,hx,_,_,_,e=>by
  refine absurd ?_ hx;have e:x=y++c::(b++fl c ys):=by simpa [fl] using e
  rw[e];exact aC _ Ψ
 |a::xs,[],x,y,_,hy,_,_,e=>by
  refine absurd ?_ hy;have e:x++c::(a++fl c xs)=y:=by simpa [fl] using e
  rw[←e];exact aC _ Ψ
 |a::xs,b::ys,x,y,hx,hy,hxs,hys,e=>by
  obtain⟨e1,e2⟩:=xA hx hy e;obtain⟨e3,e4⟩:=AG (hxs a Ψ) (hys b Ψ) (fun z hz=>hxs z (Ω _ hz)) (fun z hz=>hys z (Ω _ hz)) e2;exact⟨e1,by rw[e3,e4]⟩
theorem rf(a b:π):(a++b).cps.toList=a.cps.toList++b.cps.toList:=by
 rw[π.cps_append];simp
theorem join_list(c:Nat):∀(x:π) (xs:List π),(dS ⟨#[c]⟩ (x::xs)).cps.toList=x.cps.toList++fl c (xs.map fun y=>y.cps.toList)
 |x,[]=>by
  show x.cps.toList=_;simp[fl]
 |x,y::xs=>by
  show (x++⟨#[c]⟩++dS ⟨#[c]⟩ (y::xs)).cps.toList=_;rw[rf,rf,join_list c y xs];simp[fl]
theorem xp:∀{xs ys:List π},(xs.map fun y=>y.cps.toList)=(ys.map fun y=>y.cps.toList)->xs=ys
 |[],[],_=>rfl
 |[],_::_,h=>by cases h
 |_::_,[],h=>by cases h
 |x::xs,y::ys,h=>by
  obtain⟨h1,h2⟩:=ir h;rw[xp h2,π.ext' (Array.toList_inj.mp h1)]
theorem m5{c:Nat}{x:π}{xs:List π}(h:∀y∈x::xs,c∉y.cps.toList):Txt.split (dS ⟨#[c]⟩ (x::xs)) ⟨#[c]⟩=x::xs:=by
 have e:=StrLaws.join_split (dS ⟨#[c]⟩ (x::xs)) ⟨#[c]⟩;have hf:=StrLaws.split_free (dS ⟨#[c]⟩ (x::xs)) c;have hp:=mj (dS ⟨#[c]⟩ (x::xs)) ⟨#[c]⟩;generalize Txt.split (dS ⟨#[c]⟩ (x::xs)) ⟨#[c]⟩=ys at e hf hp;cases ys with
 |nil=>exact absurd hp (by decide)
 |cons y ys=>
  have e':=congrArg (fun z:π=>z.cps.toList) e;have e':(dS ⟨#[c]⟩ (y::ys)).cps.toList=(dS ⟨#[c]⟩ (x::xs)).cps.toList:=e';rw[join_list,join_list] at e';have fr:∀{zs:List π},(∀z∈zs,c∉z.cps.toList)->∀z∈zs.map (fun y=>y.cps.toList),c∉z:=fun h z hz=>by
   obtain⟨w,hw,rfl⟩:=aB.mp hz;exact h w hw
  obtain⟨e1,e2⟩:=AG (hf y Ψ) (h x Ψ) (fr fun z hz=>hf z (Ω _ hz)) (fr fun z hz=>h z (Ω _ hz)) e';rw[xp e2,π.ext' (Array.toList_inj.mp e1)]
theorem HR{sep:π}{xs:List π}(B:Nat)(h:∀y∈xs,y.length≤B)(hs:sep.length≤B)(hz:xs.length*(B+B)≤Φ):JoinOk sep xs=true:=by
 unfold JoinOk;rw[StrLaws.joinTotal];have h1:=qu xs h;have h2:xs.length*sep.length≤xs.length*B:=Nat.mul_le_mul_left _ hs;rw[Nat.mul_add] at hz;have:oE ((xs.map (·.length)).sum+xs.length*sep.length)=false:=decide_eq_false (by lia);rw[this];rfl
def num(n:Nat):π:=aA (toString ((n:Nat):Int))
theorem nu(n:Nat):(num n).cps.toList=(jd 10 n).map Char.toNat:=PySem.W.KIN.signs_num n
theorem rO(n:Nat):AllDigits (num n).cps.toList:=by
 intro c hc;rw[nu] at hc;obtain⟨ch,nW,e⟩:=aB.mp hc;have r:=digit_range (Nat.isDigit_of_mem_toDigits (by decide) (by decide) nW);rw[←e];exact r
theorem GY(n:Nat):(num n).cps.toList≠[]:=by
 rw[nu];intro e;have h:=toDigits_len_ge 10 n;rw[List.map_eq_nil_iff.mp e] at h;exact absurd h (by decide)
theorem iH{n:Nat}(h:n<10^10):(num n).length≤10:=PySem.W.KT.len_num (n:=((n:Nat):Int)) (by lia) (by lia)
theorem wz:∀n:Nat,0<n->∃c r,(jd 10 n).map Char.toNat=c::r/\c≠48:=by
 intro n
 induction n using Nat.strongRecOn with
 |_ m ih=>
  intro hm;by_cases h:m<10
  ·rw[Nat.toDigits_of_lt_base h];refine⟨_,[],rfl,?_⟩;have:m=1∨m=2∨m=3∨m=4∨m=5∨m=6∨m=7∨m=8∨m=9:=by lia
   rcases this with rfl|rfl|rfl|rfl|rfl|rfl|rfl|rfl|rfl<;>decide
  ·have hm2:m%10<10:=je m (by decide);have t:jd 10 (m / 10)++jd 10 (m%10)=jd 10 (10*(m / 10)+m%10):=Nat.toDigits_append_toDigits (by decide) (by lia) hm2;rw[Nat.div_add_mod] at t;obtain⟨c,r,e,hc⟩:=ih (m / 10) (by lia) (by lia);rw[←t,bW,e];exact⟨c,_,rfl,hc⟩
theorem BK:num 0="0":=by decide
def dR(w:π):Bool:=decide (1≤w.length)&&decide (w.length≤60)&&w.cps.toList.all (fun c=>decide (48≤c/\c≤57))&&(w=="0" || !(w.cps.toList.head?==some 48))
def mY(w:π):Int:=((digitsVal w.cps.toList:Nat):Int)
theorem len_list(w:π):w.length=w.cps.toList.length:=by simp[π.length]
theorem sQ{n:Nat}(h:n<10^10):dR (num n)=true:=by
 have h1:=iH h;have h2:1≤(num n).length:=by
  rw[len_list];have:=GY n;cases e:(num n).cps.toList with
  |nil=>exact absurd e this
  |cons a r=>simp
 have h3:(num n).cps.toList.all (fun c=>decide (48≤c/\c≤57))=true:=by
  rw[cP];intro c hc;exact decide_eq_true (rO n c hc)
 unfold dR;rw[decide_eq_true h2,decide_eq_true (show (num n).length≤60 by lia),h3];by_cases hz:n=0
 ·subst hz;rw[BK];decide
 ·obtain⟨c,r,e,hc⟩:=wz n (by lia);rw[nu,e];have:(List.head? (c::r)==some 48)=false:=by
   rw[lT];exact beq_eq_false_iff_ne.mpr fun z=>hc (ai z)
  rw[this];simp
theorem sA(n:Nat):mY (num n)=(n:Int):=by
 unfold mY;rw[nu,PySem.W.KIN.val_back]
theorem xm{w:π}(h:dR w=true):AllDigits w.cps.toList/\w.cps.toList≠[]/\w.length≤60:=by
 unfold dR at h;simp only[cQ,decide_eq_true_eq,cP] at h;obtain⟨⟨⟨h1,h2⟩,h3⟩,_⟩:=h;refine⟨fun c hc=>h3 c hc,fun e=>?_,h2⟩;rw[len_list,e] at h1;exact absurd h1 (by decide)
theorem AH{w:π}(h:dR w=true):intText? w=some (mY w):=by
 obtain⟨h1,h2,h3⟩:=xm h;exact intText_digits h1 h2 (bc h3 (by decide))
theorem D5(w:π):Txt.startswith w "0" = (w.cps.toList.head?==some 48):=by
 have e:=StrLaws.subAt_one w 48 0;have hs:Txt.startswith w "0" = (decide (0+(⟨#[48]⟩:π).length≤w.length)&&dC.Str.subAt w ⟨#[48]⟩ 0):=rfl;rw[hs,jk,cQ,decide_eq_true_eq,e,beq_iff_eq,List.head?_eq_getElem?]
theorem EZ(c:Nat):(!(bF (aA "0123456789") ⟨#[c]⟩ 0 (aA "0123456789").length 1).isEmpty)=decide (48≤c/\c≤57):=by
 rw[StrLaws.found_one];have e:(aA "0123456789").cps.toList=[48,49,50,51,52,53,54,55,56,57]:=by decide
 rw[e];refine decide_eq_decide.mpr ?_;simp only[aa,aT,or_false];omega
theorem B0{w:π}(h:AllDigits w.cps.toList){c:Nat}(hc:c<48):c∉w.cps.toList:=fun z=>by
 have:=h c z;lia
end Tx
namespace My
open PySem L2 L3
def Known(G:Gp):D->Prop
 |.obj a=>∃o,G a=some o/\o.plain
 |_=>True
def Fq:D->Bool
 |.int _=>true
 |_=>false
theorem aZ{Q:V3}{d:D}{G:Gp}(h:Q d G):(bG Q).rt d G:=⟨G,Sub.refl G,h⟩
theorem mw{Q:V3}{d:D}{G G':Gp}(s:Sub G G')(h:Q d G):(bG Q).rt d G':=⟨G,s,h⟩
theorem da{i:Int}(h1:-(10^80)<i)(h2:i<10^80):jr i:=by
 have:i.natAbs<10^80:=by lia
 exact lg this (by decide)
theorem Sub.xE{G G':Gp}{a:ε}{o:GO}(s:Sub G G')(h:G a=none):Sub G (dA G' a o):=fun b u e=>by
 rw[dM (fun z=>by rw[z,h] at e;cases e)];exact s b u e
def m6:fz:=fun ds G Q=>match ds with
 |[d]=>Known G d/\Q (.bl (Fq d)) G
 |_=>False
def xI:aN:=cO (qh (jK "int" (ω 0)) (uk (jK "bool" (ω 0))))
theorem uU{nm:π}:∀ds G Q,m6 ds G Q->xI (bG Q) (bB [nm] ds) G:=by
 intro ds G Q h;rcases ds with _|⟨d,_|⟨d2,ds⟩⟩
 ·exact h.elim
 ·cases d with
  |int i=>exact⟨fun _=>aZ h.2,nofun⟩
  |bl b=>exact⟨fun _=>aZ h.2,nofun⟩
  |ao=>exact⟨nofun,fun _=>aZ h.2⟩
  |str _=>exact⟨nofun,fun _=>aZ h.2⟩
  |tup _=>exact⟨nofun,fun _=>aZ h.2⟩
  |eW _=>exact⟨nofun,fun _=>aZ h.2⟩
  |dc _=>exact⟨nofun,fun _=>aZ h.2⟩
  |obj a=>
   obtain⟨o1,h1,hp⟩:∃o,G a=some o/\o.plain:=h.1;show match ij "int" G (.obj a) with
    |some b=>_
    |none=>_
   cases hG:G a with
   |none=>rw[h1] at hG;cases hG
   |some o=>
    cases o with
    |lst _=>simp only[ij,hG];exact⟨nofun,fun _=>aZ h.2⟩
    |lM=>simp only[ij,hG];exact⟨nofun,fun _=>aZ h.2⟩
    |ff=>simp only[ij,hG];exact⟨nofun,fun _=>aZ h.2⟩
    |gen R=>
     rw[h1] at hG;cases hG;exact hp.elim
 ·exact h.elim
abbrev Jr:=@uU "thing"
abbrev oU:=m6
abbrev Fz:=xI
abbrev FV:=@uU "found"
def rm:fz:=fun ds G Q=>∃(ns:List Int) (k:Nat),ds=[.eW (ns.map .int),.int k]/\∀i:Int,Q (.int i) G
def CF:aN:=bI (iS (bL (aX lJ (ω 1) (cx gS (υ (ω 0) (ab))))) (cO (aX eX (ω 0) (ω 1))) (dX)) (cO (eC (.int 0)))
theorem Js:∀ds G Q,rm ds G Q->CF (bG Q) (bB ["script","k"] ds) G:=by
 rintro ds G Q ⟨ns,k,rfl,q⟩;refine⟨fun h=>?_,fun h=>aZ (q 0)⟩;have h':(k:Int)<((ns.map D.int).length:Nat):=of_decide_eq_true h;rw[ξ] at h';have hk:k<ns.length:=by lia
 exact⟨.int ns[k],qm (by rw[av,bz hk];rfl),aZ (q _)⟩
def mr:fz:=fun ds G Q=>∃n:Int,ds=[.int n]/\0≤n/\∀r:Int,0≤r->r<2147483629->Q (.int r) G
def zu:aN:=bI (cI (aX p6 (aX e7 (ω 0) (eC (.int 7919))) (eC (.int 2147483647))) (hName 0)) (cO (aX p6 (aX e7 (aX e7 (aX pZ (ω 0) (ω 0)) (aX pZ (eC (.int 48271)) (ω 0))) (eC (.int 12345))) (eC (.int 2147483629))))
theorem FP:∀ds G Q,mr ds G Q->zu (bG Q) (bB ["seed"] ds) G:=by
 rintro ds G Q ⟨n,rfl,hn,q⟩;have h1:=fm (n+7919) (show (2147483647:Int)≠0 by decide);have h2:=dJ (n+7919) (show (0:Int)<2147483647 by decide);have hb:jr ((n+7919)%2147483647):=da (by lia) (by lia);refine⟨(by decide:(0:Int)<2147483647),⟨hb,hb⟩,⟨da (by decide) (by decide),hb⟩,(by decide:(0:Int)<2147483629),aZ (q _ ?_ ?_)⟩
 ·exact fm _ (by decide)
 ·exact dJ _ (by decide)
def iR:fz:=fun ds G Q=>∃(p:ε) (m i j k:Int),ds=[.obj p,.int m]/\G p=some (.lst [.int i,.int j,.int k])/\qp i j k/\0<m/\jr m ∧
 ∀r i' j' k':Int,qp i' j' k'->0≤r->r<m->Q (.int r) (dA G p (.lst [.int i',.int j',.int k']))
def fH:fz:=fun ds G Q=>∃(p:ε) (m:Int),ds=[.obj p,.int m]/\G p=some .lM/\(0<m/\jr m)/\∀r:Int,0≤r->r<m->Q (.int r) G
def zt:aN:=bI (iS (bL (aX (fX false) (aX eX (ω 0) (eC (.int 1))) (eC (.int 1)))) (bI (cI (aX p6 (aX eX (ω 0) (eC (.int 0))) (ω 1)) (hName 2)) (bI (cI (aX yd (aX eX (ω 0) (eC (.int 0))) (ω 1)) (hSub (ω 0) (eC (.int 0)))) (cO (ω 2)))) (dX)) (bI (cI (bM mr (υ (aX e7 (bM mr (υ (aX eX (ω 0) (eC (.int 2))) (ab))) (eC (.int 7))) (ab))) (hSub (ω 0) (eC (.int 2)))) (cO (aX p6 (aX yd (aX eX (ω 0) (eC (.int 2))) (eC (.int 64))) (ω 1))))
theorem uV:∀ds G Q,iR ds G Q->zt (bG Q) (bB ["pen","many","found"] ds) G:=by
 rintro ds G Q ⟨p,m,i,j,k,rfl,hp,ok,hm,hb,q⟩;obtain⟨o1,o2,o3⟩:=ok;refine⟨_,_,hp,rfl,_,_,rfl,rfl,aQ _,fun _=>?_,fun _=>?_⟩
 ·refine⟨_,_,hp,rfl,hm,_,_,hp,rfl,⟨hm,hb⟩,_,0,hp,rfl,?_⟩;refine aZ (q (i%m) (i / m) j k ⟨?_,o2,o3⟩ ?_ ?_)
  ·exact lV o1 (by lia)
  ·exact fm _ (by lia)
  ·exact dJ _ hm
 ·refine⟨_,_,hp,rfl,_,rfl,o2,fun r h1 h2=>⟨_,rfl,(by lia),fun r' h3 h4=>?_⟩⟩;refine⟨_,2,hp,rfl,_,_,cR,rfl,⟨by decide,da (by decide) (by decide)⟩,hm,?_⟩;refine aZ (q _ i j r' ⟨o1,h3,by lia⟩ ?_ ?_)
  ·exact fm _ (by lia)
  ·exact dJ _ hm
theorem Ce{K:ζ}:∀vs H Q E,ku K fH vs H Q E->ku K iR vs H Q E:=by
 rintro vs H Q E ⟨ds,G,Q3,hd,RG,⟨p,m,rfl,hp,hm,q⟩,k⟩;obtain⟨i,j,l,e,ok⟩:=RG p _ hp;refine⟨_,dA G p (.lst [.int i,.int j,.int l]),fun d G'=>∃i' j' l',qp i' j' l'/\G'=dA G p (.lst [.int i',.int j',.int l'])/\Q3 d G,hd,?_,⟨p,m,i,j,l,rfl,cR,ok,hm.1,hm.2,fun r i' j' k' ok' h1 h2=>⟨i',j',k',ok',zl,q r h1 h2⟩⟩,?_⟩
 ·intro a o ea;by_cases z:a=p
  ·subst z;rw[cR] at ea;cases ea;exact⟨_,e,.cons (by simp[Hv]) (.cons (by simp[Hv]) (.cons (by simp[Hv]) .nil))⟩
  ·rw[dM z] at ea;exact RG a o ea
 ·rintro v H' d G' hv S R ⟨i',j',l',ok',rfl,h3⟩;refine k v H' d G hv ⟨fun a o ea n=>S.fr a o ea ?_,S.lF,fun a n z=>absurd n z⟩ (fun a o ea=>?_) h3
  ·have:a≠p:=fun z=>by rw[z,hp] at n;cases n
   rw[dM this];exact n
  ·by_cases z:a=p
   ·subst z;rw[hp] at ea;cases ea;obtain⟨ws,e1,e2⟩:=R a _ cR;have:=gk e2 (ns:=[i',j',l']) rfl;subst this;exact⟨i',j',l',e1,ok'⟩
   ·exact R a o (by rw[dM z];exact ea)
def gR:fz:=fun ds G Q=>∃c:Int,ds=[.int c]/\∀p i j k G',dv G p (.lst [.int i,.int j,.int k]) G'->qp i j k->Q (.obj p) G'
def uJ:fz:=fun ds G Q=>∃c:Int,ds=[.int c]/\∀p G',dv G p .lM G'->Q (.obj p) G'
def zA:aN:=bI (cI (cx x9 (υ (ω 0) (υ (aX ya (eC (.int 0)) (ω 0)) (ab)))) (hName 1)) (cO (iC (υ (ω 1) (υ (cx uf (υ (aX Gf (ω 1) (aX CY (eC (.int 10)) (eC (.int 18)))) (ab))) (υ (aX p6 (ω 1) (eC (.int 1000003))) (ab))))))
theorem sF:∀ds G Q,gR ds G Q->zA (bG Q) (bB ["cell","left"] ds) G:=by
 rintro ds G Q ⟨c,rfl,q⟩;refine⟨⟨by decide,by decide,by decide⟩,(by decide:(0:Int)<1000003),fun p G' hp=>aZ (q p _ _ _ _ hp ⟨?_,?_,?_⟩)⟩
 ·split<;>lia
 ·exact fm _ (by decide)
 ·exact Int.lt_trans (dJ _ (by decide)) (by decide)
theorem Et{K:ζ}:∀vs H Q E,ku K uJ vs H Q E->ku K gR vs H Q E:=by
 rintro vs H Q E ⟨ds,G,Q3,hd,RG,⟨c,rfl,q⟩,k⟩;refine⟨_,G,fun d G'=>∃p i j l,qp i j l/\dv G p (.lst [.int i,.int j,.int l]) G'/\d=.obj p,hd,RG,⟨c,rfl,fun p i j l G' hp ok=>⟨p,i,j,l,ok,hp,rfl⟩⟩,?_⟩;rintro v H' d G' hv S R ⟨p,i,j,l,ok,hp,rfl⟩;refine k v H' _ (dA G' p .lM) hv ⟨S.fr,S.lF,fun a n z=>S.new a n ?_⟩ (fun a o ea=>?_) (q p _ ⟨hp.ao,Sub.xE hp.sub hp.ao,cR⟩)
 ·by_cases y:a=p
  ·rw[y,hp.at_];simp
  ·rw[dM y] at z;exact z
 ·by_cases z:a=p
  ·subst z;rw[cR] at ea;cases ea;obtain⟨ws,e1,e2⟩:=R a _ hp.at_;have:=gk e2 (ns:=[i,j,l]) rfl;subst this;exact⟨i,j,l,e1,ok⟩
  ·rw[dM z] at ea;exact R a o ea
abbrev bw:=Int×Int
def cD(c:bw):D:=.tup [.int c.1,.int c.2]
def fy(cs:List bw):D:=.tup (cs.map cD)
def Valid(c:bw):Prop:=0<c.1/\0≤c.2/\c.2<c.1
theorem dQ{n:Nat}(h:n≤1000):n≤Φ:=bc h (by decide)
theorem fg{α:Type}{guard:Gp->Prop}{g:gf}{tc:cf}{te:ag}{Q:List D->Gp->Prop}(I:S3->Prop)(h:α->D)(pr:α->Bool)(f:α->D){G:Gp}(hg:guard G):∀(xs:List α) (acc:List D) (τ:S3),I τ ->
  (∀x∈xs,∀τ (K1:S3->Gp->Prop) (K2:S3->D->Gp->Prop),I τ->(pr x=true->∀τ2,I τ2->K2 τ2 (f x) G)->(pr x=false->∀τ2,I τ2->K1 τ2 G)->g (h x) τ G fun τ2 G2=>tc τ2 G2 fun b G3=>Br b (te τ2 G3 fun v G4=>K2 τ2 v G4) (K1 τ2 G3)) ->
  Q (acc++(xs.filter pr).map f) G->fM guard g tc te Q (xs.map h) acc τ G
 |[],acc,τ,_,_,q=>⟨hg,by simpa using q⟩
 |d::ds,acc,τ,hI,hs,q=>by
  refine⟨hg,hs d Ψ τ (fun τ2 G3=>fM guard g tc te Q (ds.map h) acc τ2 G3) (fun τ2 v G4=>fM guard g tc te Q (ds.map h) (acc++[v]) τ2 G4) hI (fun hp τ2 h2=>?_) fun hp τ2 h2=>?_⟩
  ·refine fg I h pr f hg ds _ τ2 h2 (fun d' hd=>hs d' (Ω _ hd)) ?_;rw[List.filter_cons_of_pos hp] at q;simpa using q
  ·refine fg I h pr f hg ds _ τ2 h2 (fun d' hd=>hs d' (Ω _ hd)) ?_;rw[List.filter_cons_of_neg (by rw[hp];simp)] at q;exact q
end My
namespace My
open PySem L2 L3
def cX(c:bw):Dat.D:=.tup [.int c.1,.int c.2]
theorem oJ:∀cs:List bw,eF (cs.map cD)=some (cs.map cX)
 |[]=>rfl
 |c::cs=>by
  show (match iQ (cD c) with
   |some x=>match eF (cs.map cD) with
    |some xs=>some (x::xs)
    |none=>none
   | none=>none)=_
  rw[oJ cs];rfl
theorem lG{G:Gp}{a:ε}{ds:List D}{xs:List Dat.D}(h:G a=some (.lst ds))(e:eF ds=some xs):m3 G (.obj a)=some (.lst xs):=by
 unfold m3;simp only[h,e]
theorem sT:∀cs:List bw,Dat.ft (cs.map cX)≤1
 |[]=>aQ _
 |c::cs=>by
  show max (cX c).g0 (Dat.ft (cs.map cX))≤1;have h1:(cX c).g0=1:=rfl;have:=sT cs;lia
theorem Iu(cs:List bw):(Dat.D.lst (cs.map cX)).g0≤50:=by
 show Dat.ft (cs.map cX)+1≤50;have:=sT cs;lia
theorem Ku(a b:bw):(cX a).dW (cX b)=decide (a=b):=by
 obtain⟨s,r⟩:=a;obtain⟨s',r'⟩:=b;show ((s==s')&&((r==r')&&true))=decide ((s,r)=(s',r'));rw[jk];simp
theorem xn:∀as bs:List bw,Dat.iA (as.map cX) (bs.map cX)=decide (as=bs)
 |[],[]=>rfl
 |[],b::bs=>rfl
 |a::as,[]=>rfl
 |a::as,b::bs=>by
  show ((cX a).dW (cX b)&&Dat.iA (as.map cX) (bs.map cX))=_;rw[Ku,xn as bs,jk];simp
end My
namespace My
open PySem L2 L3
def gp{α:Type}(xs:List α)(lo hi:Option Int):List α:=(xs.drop (HT.bx xs.length 0 lo)).take (HT.bx xs.length xs.length hi-HT.bx xs.length 0 lo)
theorem gE{α:Type}(f:α->D)(xs:List α)(lo hi:Option Int):fu (xs.map f) lo hi=(gp xs lo hi).map f:=by
 unfold fu gp;rw[ξ,oq,ou]
theorem Cr{α:Type}{xs:List α}{lo hi:Option Int}{x:α}(h:x∈gp xs lo hi):x∈xs:=nQ (df h)
theorem xo{α:Type}(xs:List α)(lo hi:Option Int):(gp xs lo hi).length≤xs.length:=by
 unfold gp;rw[bC,fZ];lia
theorem sV{α:Type}(xs:List α)(k:Nat):gp xs none (some (k:Int))=xs.take k:=by
 unfold gp;rw[HT.uO,HT.pW];simp only[List.drop_zero,Nat.sub_zero];by_cases h:k≤xs.length
 ·rw[Nat.min_eq_left h]
 ·rw[Nat.min_eq_right (by lia),ll,fv (by lia)]
theorem pH{α:Type}(xs:List α)(k:Nat):gp xs (some (k:Int)) none=xs.drop k:=by
 unfold gp;rw[HT.uO,HT.pW];by_cases h:k≤xs.length
 ·rw[Nat.min_eq_left h];exact fv (by rw[fZ];lia)
 ·rw[Nat.min_eq_right (by lia),List.drop_length,fw (by lia)];simp
def i7(M:Int)(cs:List bw):Prop:=∀c∈cs,Valid c/\c.1≤M
theorem yk{s r k i:Int}(h:Valid (s,r))(h1:0≤i)(h2:i<k):Valid (s*k,r+s*i):=by
 obtain⟨a,b,c⟩:=h;simp only at a b c;have q:=Int.mul_le_mul_of_nonneg_left (show i≤k-1 by lia) (show 0≤s by lia);rw[Int.mul_sub,Int.mul_one] at q;have q2:=Int.mul_nonneg (show 0≤s by lia) h1;refine⟨?_,?_,?_⟩
 ·exact Int.mul_pos a (by lia)
 ·show 0≤r+s*i;lia
 ·show r+s*i<s*k;lia
def oQ:fz:=fun ds G Q=>∃(p:ε) (t:Int),ds=[.obj p,.int t]/\G p=some .lM/\(0≤t/\t≤1000)/\∀q cs G',i7 24 cs->1≤cs.length->cs.length≤12->dv G q (.lst (cs.map cD)) G'->Q (.obj q) G'
def Bg:aN:=iS (yK (bL (aX lJ (aX e7 (cx gS (υ (ω 2) (ab))) (ω 5)) (eC (.int 13)))) (bL (aX lJ (aX pZ (ω 6) (ω 5)) (eC (.int 25))))) (cI (aX e7 (aX e7 (nX (ω 2) (iU) (gX (ω 4))) (il ["part"] [6,5,7] (nA (υ (ω 5) (ab))) (hName 0) (cY) (iB (υ (aX pZ (ω 1) (ω 2)) (υ (aX e7 (ω 3) (aX pZ (ω 1) (ω 0))) (ab)))))) (nX (ω 2) (gX (aX e7 (ω 4) (eC (.int 1)))) (iU))) (hName 2)) (dX)
def Bh:aN:=bI (cI (aX eX (ω 2) (ω 4)) (qU 2 (ik (hName 6) (ik (hName 7) (qV))))) Bg
def Bi:aN:=bI (cI (r0 (υ (eC (.int 2)) (υ (eC (.int 2)) (υ (eC (.int 3)) (ab)))) (bM fH (υ (ω 0) (υ (eC (.int 3)) (ab))))) (hName 5)) Bh
def Bj:aN:=bI (cI (bM fH (υ (ω 0) (υ (cx gS (υ (ω 2) (ab))) (ab)))) (hName 4)) Bi
def Bf:aN:=cO (ω 2)
def Bk:aN:=bI (oX (nA (υ (ω 1) (ab))) (hName 3) (Bj)) Bf
def zw:aN:=bI (cI (iC (υ (iB (υ (eC (.int 1)) (υ (eC (.int 0)) (ab)))) (ab))) (hName 2)) Bk
theorem vX{α:Type}(f:α->D){xs:List α}{r:Int}(h1:0≤r)(h2:r<(xs.length:Nat)):∃x,xs[r.toNat]?=some x/\x∈xs/\jX (xs.map f) r=some (f x):=by
 have hk:r.toNat<xs.length:=by lia
 refine⟨xs[r.toNat],bz hk,lp hk,?_⟩;have e:r=((r.toNat:Nat):Int):=by lia
 have q:jX (xs.map f) ((r.toNat:Nat):Int)=some (f xs[r.toNat]):=qm (by rw[av];simp[hk]);rw[←e] at q;exact q
theorem sY{ns:List Int}{r:Int}(h1:0≤r)(h2:r<(ns.length:Nat)):∃n,n∈ns/\jX (ns.map D.int) r=some (.int n):=by
 obtain⟨x,_,h3,h4⟩:=vX D.int h1 h2;exact⟨x,h3,h4⟩
theorem FR:∀ds G Q,oQ ds G Q->zw (bG Q) (bB ["pen","times","found","turn","spot","k","step","rest"] ds) G:=by
 rintro ds G Q ⟨p,t,rfl,hp,ht,q⟩;intro q0 G0 hq0;refine⟨⟨by lia,by lia⟩,?_⟩;refine iz (fun _ τ G'=>∃q cs x3 x4 x5 x6 x7,τ=[some (.obj p),some (.int t),some (.obj q),x3,x4,x5,x6,x7]/\dv G q (.lst (cs.map cD)) G'/\i7 24 cs/\1≤cs.length/\cs.length≤12) (fun _ _ _ _=>trivial) ?_ ?_ _ _ _ ?_
 ·rintro d ds τ G1 N ⟨q1,cs,x3,x4,x5,x6,x7,rfl,n1,ok,l1,l2⟩ hN;have e1:=n1.at_;have hp1:=n1.sub p _ hp;refine⟨_,e1,p,_,rfl,hp1,⟨?_,?_⟩,fun spot h1 h2=>?_⟩
  ·rw[ξ];lia
  ·exact da (by rw[ξ];lia) (by rw[ξ];lia)
  rw[ξ] at h2;refine⟨p,3,rfl,hp1,⟨by decide,da (by decide) (by decide)⟩,fun r h3 h4=>?_⟩;obtain⟨k,hk,ek⟩:=sY (ns:=[2,2,3]) h3 h4;refine⟨.int k,ek,?_⟩;obtain⟨c,ec1,hc,ec⟩:=vX cD h1 h2;obtain⟨s,r'⟩:=c;refine⟨_,cD (s,r'),e1,ec,rfl,?_⟩;have hv:=(ok _ hc).1;have hs24:=(ok _ hc).2;have hk':k=2∨k=3:=by simp at hk;lia
  have again:N [some (.obj p),some (.int t),some (.obj q1),some d,some (.int spot),some (.int k),some (.int s),some (.int r')] G1:=
   hN _ _ ⟨q1,cs,_,_,_,_,_,rfl,n1,ok,l1,l2⟩
  refine⟨_,e1,fun h5=>⟨⟨da ?_ ?_,da ?_ ?_⟩,fun h6=>?_,fun h6=>again⟩,fun h5=>⟨nofun,fun _=>again⟩⟩
  ·have:=hv.1;simp only at this;lia
  ·simp only at hs24;lia
  ·lia
  ·lia
  have h5':((cs.map cD).length:Int)+k<13:=of_decide_eq_true h5;have h6':s*k<25:=of_decide_eq_true h6;rw[ξ] at h5';refine⟨_,e1,fun p1 G2 a1=>⟨⟨by lia,by lia⟩,?_,?_⟩⟩
  ·show (kH 0 k.toNat).length≤Φ;rw[jH];exact dQ (by lia)
  refine fg (fun τ=>∃x,τ=[x,some (.int s),some (.int k),some (.int r')]) (fun i:Nat=>D.int (0+(i:Int))) (fun _=>true) (fun i:Nat=>cD (s*k,r'+s*(0+(i:Int)))) trivial (aq k.toNat) [] _ ⟨none,rfl⟩ ?_ ?_
  ·rintro i hi τ K1 K2 ⟨x,rfl⟩ g1 g2;have hi':(i:Int)<k:=by have:=bJ.mp hi;lia
   have b1:jr s:=da (by have:=hv.1;simp only at this;lia) (by simp only at hs24;lia);refine⟨fun _=>⟨⟨b1,da (by lia) (by lia)⟩,⟨b1,da (by lia) (by lia)⟩,?_⟩,nofun⟩;exact g1 rfl _ ⟨_,rfl⟩
  ·intro p2 G3 a2;obtain⟨j,rfl⟩:∃j:Nat,spot=(j:Int):=⟨spot.toNat,by lia⟩;have hj:j<cs.length:=by lia
   have el:(fu (cs.map cD) none (some (j:Int))++([]++((aq k.toNat).filter fun _=>true).map fun i:Nat=>cD (s*k,r'+s*(0+(i:Int))))++fu (cs.map cD) (some ((j:Int)+1)) none) =
     (cs.take j++((aq k.toNat).map fun i:Nat=>(s*k,r'+s*(0+(i:Int))))++cs.drop (j+1)).map cD:=by
    rw[gE,gE,sV,show ((j:Int)+1)=((j+1:Nat):Int) by lia,pH,oD.mpr (fun _ _=>rfl)];simp[bW,dg]
   have hlen:(cs.take j++((aq k.toNat).map fun i:Nat=>(s*k,r'+s*(0+(i:Int))))++cs.drop (j+1)).length=cs.length-1+k.toNat:=by
    rw[az,az,bC,fZ,ξ,hV];lia
   have hle:(fu (cs.map cD) none (some (j:Int))++([]++((aq k.toNat).filter fun _=>true).map fun i:Nat=>cD (s*k,r'+s*(0+(i:Int))))++fu (cs.map cD) (some ((j:Int)+1)) none).length≤12:=by
    rw[el,ξ,hlen];lia
   refine⟨_,_,a2.sub _ _ a1.at_,a2.at_,?_,fun p3 G4 a3=>?_⟩
   ·rw[az,az] at hle;exact dQ (by lia)
   refine⟨_,a3.sub _ _ (a2.sub _ _ (a1.sub _ _ e1)),fun p4 G5 a4=>?_⟩;refine⟨_,_,a4.sub _ _ a3.at_,a4.at_,?_,fun p5 G6 a5=>?_⟩
   ·rw[←az];exact dQ (by lia)
   ·rw[el] at a5;have s4:=((n1.sub.trans a1.sub).trans a2.sub).trans (a3.sub.trans a4.sub);refine hN _ _ ⟨p5,_,_,_,_,_,_,rfl,⟨s4.of_none a5.ao,s4.trans a5.sub,a5.at_⟩,fun c hc=>?_,by lia,by lia⟩;rcases cL.mp hc with hc|hc
    ·rcases cL.mp hc with hc|hc
     ·exact ok c (df hc)
     ·obtain⟨i,hi,rfl⟩:=aB.mp hc;have:=bJ.mp hi;exact⟨yk hv (by lia) (by lia),by show s*k≤24;lia⟩
    ·exact ok c (nQ hc)
 ·rintro τ G1 ⟨q1,cs,x3,x4,x5,x6,x7,rfl,n1,ok,l1,l2⟩;exact aZ (q q1 cs _ ok l1 l2 n1)
 ·exact⟨q0,[(1,0)],_,_,_,_,_,rfl,hq0,by intro c hc;simp at hc;subst hc;exact⟨⟨by decide,by decide,by decide⟩,by decide⟩,by decide,by decide⟩
end My
namespace My
open PySem L2 L3
def gb(c:bw):List Int:=[c.1,c.2]
theorem qP(cs:List bw):(cs.map gb).map tupI=cs.map cD:=by
 rw[dg];rfl
theorem vd{cs:List bw}:∀{mss:List (List Int)},(∀ns∈mss,ns∈cs.map gb)->∃cs':List bw,mss=cs'.map gb/\∀c∈cs',c∈cs
 |[],_=>⟨[],rfl,fun c hc=>nomatch hc⟩
 |ns::mss,h=>by
  obtain⟨cs',e,hc⟩:=vd (mss:=mss) fun n hn=>h n (Ω _ hn);obtain⟨c,h1,rfl⟩:=aB.mp (h ns Ψ);refine⟨c::cs',by simp[e],fun d hd=>?_⟩;rcases aa.mp hd with rfl|hd
  ·exact h1
  ·exact hc d hd
def Iy(a b:bw):Prop:=a.1<b.1∨(a.1=b.1/\a.2<b.2)
def jE(cs:List bw):Prop:=cs.Pairwise Iy
theorem sC{a b:bw}(h:gb a=gb b):a=b:=by
 obtain⟨s,r⟩:=a;obtain⟨s',r'⟩:=b;simp[gb] at h;simp[h]
theorem BM{a b:bw}(h:nM.lx (gb b) (gb a)=false)(hne:a≠b):Iy a b:=by
 obtain⟨s,r⟩:=a;obtain⟨s',r'⟩:=b;unfold gb at h;simp only[nM.lx] at h;by_cases e:s'=s
 ·rw[if_pos e] at h;by_cases e2:r'=r
  ·exact absurd (by rw[e,e2]) hne
  ·rw[if_neg e2] at h;have:=of_decide_eq_false h;exact .inr ⟨e.symm,by simp only;lia⟩
 ·rw[if_neg e] at h;have:=of_decide_eq_false h;exact .inl (by simp only;lia)
theorem wO{cs:List bw}(h:lP (cs.map gb))(nd:(cs.map gb).Nodup):jE cs:=by
 have h1:=dm.mp h;have h2:=dm.mp nd;exact (h1.and h2).imp fun {a b} q=>BM q.1 fun z=>q.2 (by rw[z])
theorem jE.take{cs:List bw}(h:jE cs)(n:Nat):jE (cs.take n):=List.Pairwise.sublist (hU n cs) h
theorem xV{cs:List bw}{mss:List (List Int)}(hmem:∀ns,ns∈mss↔ns∈cs.map gb)(nd:mss.Nodup)(hr:lP mss)(hl:mss.length≤(cs.map gb).length):
  ∃cs':List bw,mss=cs'.map gb/\(∀c,c∈cs'↔c∈cs)/\jE cs'/\cs'.length≤cs.length:=by
 obtain⟨cs',rfl,hc⟩:=vd fun ns hn=>(hmem ns).mp hn;refine⟨cs',rfl,fun c=>⟨fun h=>hc c h,fun h=>?_⟩,wO hr nd,by simpa using hl⟩;obtain⟨c',h1,h2⟩:=aB.mp ((hmem (gb c)).mpr (aB.mpr ⟨c,h,rfl⟩));rw[←sC h2];exact h1
theorem zq{cs:List bw}:∀ns∈cs.map gb,ns≠[]:=fun ns hn=>by
 obtain⟨c,_,rfl⟩:=aB.mp hn;simp[gb]
theorem xw{G:Gp}{a:ε}{cs:List bw}(e:G a=some (.lst (cs.map cD))):G a=some (.lst ((cs.map gb).map tupI)):=by rw[qP];exact e
theorem FG{r:Int}{n:Nat}(h1:0≤r)(h2:r<(n:Int)):seqIndex? r n=some r.toNat:=by
 unfold seqIndex?;simp only[if_neg (show ¬r<0 by lia)];rw[if_pos (by simp;lia)]
theorem pE{α β:Type}(f:α->β):∀(xs:List α) (i:Nat),(xs.map f).eraseIdx i=(xs.eraseIdx i).map f
 |[],_=>rfl
 |_::_,0=>rfl
 |x::xs,i+1=>by simp[pE f xs i]
def rA:fz:=fun ds G Q=>∃p:ε,ds=[.obj p]/\G p=some .lM/\∀cs,i7 24 cs->cs.length≤12->jE cs->Q (fy cs) G
def DU:aN:=iS (yK (bL (aX (fX false) (ω 1) (eC (.int 1)))) (bL (aX (fX true) (ω 2) (iC (ab))))) (rF (eM zS (ω 2) (υ (bM fH (υ (ω 0) (υ (cx gS (υ (ω 2) (ab))) (ab)))) (ab)))) (dX)
def Ba:aN:=rF (eM oZ (ω 2) (υ (iB (υ (ω 5) (υ (bM fH (υ (ω 0) (υ (ω 5) (ab)))) (ab)))) (ab)))
def DS:aN:=bI (cI (aX eX (ω 3) (bM fH (υ (ω 0) (υ (eC (.int 10)) (ab))))) (hName 5)) Ba
def A9:aN:=cO (cx jy (υ (nX (qX (ω 2)) (iU) (gX (eC (.int 12)))) (ab)))
def DT:aN:=bI (oX (nA (υ (r0 (υ (eC (.int 0)) (υ (eC (.int 1)) (υ (eC (.int 2)) (υ (eC (.int 3)) (υ (eC (.int 5)) (υ (eC (.int 9)) (ab))))))) (ω 1)) (ab))) (hName 4) (DS)) A9
def wJ:aN:=bI (cI (iC (υ (eC (.int 2)) (υ (eC (.int 3)) (υ (eC (.int 4)) (υ (eC (.int 5)) (υ (eC (.int 6)) (υ (eC (.int 8)) (υ (eC (.int 9)) (υ (eC (.int 12)) (υ (eC (.int 18)) (υ (eC (.int 24)) (ab)))))))))))) (hName 3)) DT
def DV:aN:=bI (iS (bL (aX lJ (ω 1) (eC (.int 4)))) (bI (cI (bM oQ (υ (ω 0) (υ (bM fH (υ (ω 0) (υ (eC (.int 6)) (ab)))) (ab)))) (hName 2)) DU) (dX)) wJ
def DW:aN:=bI (cI (iC (ab)) (hName 2)) DV
def CJ:aN:=bI (cI (bM fH (υ (ω 0) (υ (eC (.int 6)) (ab)))) (hName 1)) DW
theorem jL{G:Gp}{Q:V3}{p:ε}(hp:G p=some .lM)(q:∀cs,i7 24 cs->cs.length≤12->jE cs->Q (fy cs) G){G1:Gp}{q1:ε}{cs:List bw}{way:Int}{x3 x4 x5:Option D}(hw:0≤way/\way<6)
  (n1:dv G q1 (.lst (cs.map cD)) G1) (ok:i7 24 cs) (hl:cs.length≤12):wJ (bG Q) [some (.obj p),some (.int way),some (.obj q1),x3,x4,x5] G1:=by
 intro st G0 hst;obtain⟨n,hn,en⟩:=sY (ns:=[0,1,2,3,5,9]) hw.1 hw.2;refine⟨.int n,en,?_⟩;have hn':0≤n/\n≤9:=by simp at hn;lia
 refine⟨⟨by lia,by lia⟩,?_⟩;refine iz (fun ds τ G'=>∃cs x4 x5,τ=[some (.obj p),some (.int way),some (.obj q1),some (.obj st),x4,x5]/\dv G q1 (.lst (cs.map cD)) G'/\G' st=some (.lst (([2,3,4,5,6,8,9,12,18,24]:List Int).map D.int))/\i7 24 cs/\cs.length+ds.length≤21) (fun _ _ _ _=>trivial) ?_ ?_ _ _ _ ?_
 ·rintro d ds τ G2 N ⟨cs,x4,x5,rfl,n2,e3,ok,hl⟩ hN;have hp2:=n2.sub p _ hp;have e2:=n2.at_;refine⟨p,10,rfl,hp2,⟨by decide,da (by decide) (by decide)⟩,fun r h1 h2=>?_⟩;obtain⟨stp,hm,es⟩:=sY (ns:=[2,3,4,5,6,8,9,12,18,24]) h1 h2;have hs:2≤stp/\stp≤24:=by simp at hm;omega
  refine⟨_,.int stp,e3,es,⟨q1,_,rfl,e2⟩,p,stp,rfl,hp2,⟨by lia,da (by lia) (by lia)⟩,fun r2 h3 h4=>?_⟩;refine⟨_,e2,by rw[ξ];exact Nat.lt_of_le_of_lt (show cs.length≤21 by lia) (by decide),?_⟩;have hne:st≠q1:=fun z=>by
   rw[z,e2] at e3;cases cs with
   |nil=>simp at e3
   |cons c cs=>simp[cD] at e3
  refine hN _ _ ⟨cs++[(stp,r2)],_,_,rfl,⟨n2.ao,Sub.xE n2.sub n2.ao,?_⟩,?_,fun c hc=>?_,?_⟩
  ·rw[cR,bW];rfl
  ·rw[dM hne];exact e3
  ·rcases cL.mp hc with hc|hc
   ·exact ok c hc
   ·have:c=(stp,r2):=by simpa using hc
    subst this;exact⟨⟨by show 0<stp;lia,h3,h4⟩,hs.2⟩
  ·rw[az,fR];simp only[aj] at hl;lia
 ·rintro τ G2 ⟨cs,x4,x5,rfl,n2,e3,ok,hl⟩;refine⟨_,xw n2.at_,by rw[ξ];lia,zq,fun p1 mss G3 hp1 hmem nd hr hlen=>?_⟩;obtain⟨cs',rfl,hmem,hr,hlen⟩:=xV hmem nd hr hlen;rw[qP] at hp1;refine⟨_,hp1.at_,fun p2 G4 hp2=>⟨_,hp2.at_,?_⟩⟩;rw[gE,show (some (12:Int))=some ((12:Nat):Int) from rfl,sV];refine mw ((n2.sub.trans hp1.sub).trans hp2.sub) (q _ (fun c hc=>ok c ((hmem c).mp (df hc))) ?_ (hr.take 12));rw[bC];lia
 ·refine⟨cs,_,_,rfl,⟨n1.ao,n1.sub.trans hst.sub,hst.sub _ _ n1.at_⟩,hst.at_,ok,?_⟩;show cs.length+(kH 0 n.toNat).length≤21;rw[jH];lia
theorem Jx:∀ds G Q,rA ds G Q->CJ (bG Q) (bB ["pen","way","found","steps","turn","step"] ds) G:=by
 rintro ds G Q ⟨p,rfl,hp,q⟩;refine⟨p,6,rfl,hp,⟨by decide,da (by decide) (by decide)⟩,fun way h1 h2 q0 G0 n0=>⟨fun hw=>?_,fun hw=>?_⟩⟩
 ·have hp0:=n0.sub p _ hp;refine⟨p,6,rfl,hp0,⟨by decide,da (by decide) (by decide)⟩,fun t h3 h4=>⟨p,t,rfl,hp0,⟨by lia,by lia⟩,fun q1 cs G1 ok l1 l2 n1=>?_⟩⟩;have m1:dv G q1 (.lst (cs.map cD)) G1:=⟨n0.sub.of_none n1.ao,n0.sub.trans n1.sub,n1.at_⟩;refine⟨_,_,rfl,rfl,aQ _,fun hw1=>?_,fun hw1=>⟨nofun,fun _=>?_⟩⟩
  ·intro q2 G2 n2;have e2:=n2.sub _ _ m1.at_;have m2:dv G q1 (.lst (cs.map cD)) G2:=⟨m1.ao,m1.sub.trans n2.sub,e2⟩;refine⟨_,_,lG e2 (oJ cs),lG n2.at_ rfl,Iu cs,fun hne=>?_,fun hne=>?_⟩
   ·refine⟨⟨q1,_,rfl,e2⟩,_,e2,p,_,rfl,m2.sub p _ hp,⟨by rw[ξ];lia,da (by rw[ξ];lia) (by rw[ξ];lia)⟩,fun r h5 h6=>?_⟩;rw[ξ] at h6;obtain⟨c,ec,hc,_⟩:=vX cD h5 h6;refine⟨_,r.toNat,cD c,e2,⟨by lia,by lia⟩,?_,by rw[av,ec];rfl,?_⟩
    ·rw[ξ];exact FG h5 h6
    ·refine jL (cs:=cs.eraseIdx r.toNat) hp q ⟨h1,h2⟩ ⟨m2.ao,Sub.xE m2.sub m2.ao,?_⟩ (fun c hc=>ok c (List.mem_of_mem_eraseIdx hc)) ?_
     ·rw[cR,pE]
     ·exact bc (pq cs _) l2
   ·exact jL hp q ⟨h1,h2⟩ m2 ok l2
  ·exact jL hp q ⟨h1,h2⟩ m1 ok l2
 ·exact jL (cs:=[]) hp q ⟨h1,h2⟩ n0 (fun c hc=>nomatch hc) (by decide)
end My
namespace My
open PySem L2 L3
theorem lO{guard:Gp->Prop}{g:gf}{tc:cf}{te:ag}{Q:List D->Gp->Prop}(I:List D->List D->S3->Gp->Prop)(hg:∀ds acc τ G,I ds acc τ G->guard G)
  (step:∀d ds acc τ G (K1:S3->Gp->Prop) (K2:S3->D->Gp->Prop),I (d::ds) acc τ G->(∀τ' v G',I ds (acc++[v]) τ' G'->K2 τ' v G')->(∀τ' G',I ds acc τ' G'->K1 τ' G')->g d τ G fun τ2 G2=>tc τ2 G2 fun b G3=>Br b (te τ2 G3 fun v G4=>K2 τ2 v G4) (K1 τ2 G3))
  (jB:∀acc τ G,I [] acc τ G->Q acc G):∀ds acc τ G,I ds acc τ G->fM guard g tc te Q ds acc τ G
 |[],acc,τ,G,h=>⟨hg _ _ _ _ h,jB _ _ _ h⟩
 |d::ds,acc,τ,G,h=>⟨hg _ _ _ _ h,step d ds acc τ G (fun τ2 G3=>fM guard g tc te Q ds acc τ2 G3) (fun τ2 v G4=>fM guard g tc te Q ds (acc++[v]) τ2 G4) h
   (fun τ' v G' q=>lO I hg step jB ds _ τ' G' q) fun τ' G' q=>lO I hg step jB ds _ τ' G' q⟩
end My
namespace My
open PySem L2 L3
def nD(n:Nat):D:=.int (n:Nat)
theorem filter_all{α:Type}(xs:List α):xs.filter (fun _=>true)=xs:=oD.mpr fun _ _=>rfl
end My
namespace My
open PySem L2 L3
theorem Lr(n:Nat):kH 0 n=(aq n).map nD:=by
 unfold kH;refine ju fun i _=>?_;show D.int (0+(i:Int))=D.int (i:Int);rw[Int.zero_add]
end My
namespace My
open PySem L2 L3
def AZ(G:Gp):D->Prop
 |.tup ds=>∀d∈ds,Known G d
 |.obj a=>∃o,G a=some o/\o.plain
 |_=>True
theorem vC{G:Gp}{d:D}(h:AZ G d)(hn:∀ds,d≠.tup ds):ij "tuple" G d=some false:=by
 cases d with
 |obj a=>
  obtain⟨o,hG,hp⟩:∃o,G a=some o/\o.plain:=h;cases o with
  |gen R=>exact hp.elim
  |_=>simp[ij,hG]
 |tup ds=>exact absurd rfl (hn ds)
 |_=>rfl
end My
namespace My
open PySem L2 L3
def oO:fz:=fun ds G Q=>∃p:ε,ds=[.obj p]/\G p=some .lM/\∀cs,i7 997 cs->2≤cs.length->cs.length≤4->jE cs->Q (fy cs) G
def Bb:aN:=cO (cx jy (υ (cx nk (υ (nX (ω 1) (iU) (gX (aX e7 (eC (.int 2)) (bM fH (υ (ω 0) (υ (eC (.int 3)) (ab))))))) (ab))) (ab)))
def zr:aN:=bI (cI (iC (υ (iB (υ (eC (.int 101)) (υ (bM fH (υ (ω 0) (υ (eC (.int 101)) (ab)))) (ab)))) (υ (iB (υ (eC (.int 103)) (υ (bM fH (υ (ω 0) (υ (eC (.int 103)) (ab)))) (ab)))) (υ (iB (υ (eC (.int 997)) (υ (bM fH (υ (ω 0) (υ (eC (.int 997)) (ab)))) (ab)))) (υ (iB (υ (eC (.int 2)) (υ (eC (.int 1)) (ab)))) (ab)))))) (hName 1)) Bb
theorem yj{cs:List bw}{mss:List (List Int)}(hp:mss.Perm (cs.map gb))(nd:cs.Nodup)(hr:lP mss):∃cs':List bw,mss=cs'.map gb/\(∀c,c∈cs'↔c∈cs)/\jE cs'/\cs'.length=cs.length:=by
 obtain⟨cs',rfl,hc⟩:=vd fun ns hn=>hp.mem_iff.mp hn;have hnd:(cs.map gb).Nodup:=by
  refine dm.mpr (nd.imp fun {a b} h z=>h (sC z))
 refine⟨cs',rfl,fun c=>⟨fun h=>hc c h,fun h=>?_⟩,wO hr (hp.nodup_iff.mpr hnd),by simpa using hp.length_eq⟩;obtain⟨c',h1,h2⟩:=aB.mp (hp.mem_iff.mpr (aB.mpr ⟨c,h,rfl⟩));rw[←sC h2];exact h1
theorem FO:∀ds G Q,oO ds G Q->zr (bG Q) (bB ["pen","some"] ds) G:=by
 rintro ds G Q ⟨p,rfl,hp,q⟩;refine⟨p,101,rfl,hp,⟨by decide,da (by decide) (by decide)⟩,fun r1 a1 b1=>⟨p,103,rfl,hp,⟨by decide,da (by decide) (by decide)⟩,fun r2 a2 b2=>⟨p,997,rfl,hp,⟨by decide,da (by decide) (by decide)⟩,fun r3 a3 b3=>?_⟩⟩⟩;intro q0 G0 hq0;refine⟨p,3,rfl,hq0.sub _ _ hp,⟨by decide,da (by decide) (by decide)⟩,fun r a b=>⟨_,hq0.at_,fun p1 G1 hp1=>?_⟩⟩;have ec:fu [.tup [.int 101,.int r1],.tup [.int 103,.int r2],.tup [.int 997,.int r3],.tup [.int 2,.int 1]] none (some (2+r))=(gp [(101,r1),(103,r2),(997,r3),(2,1)] none (some (2+r))).map cD:=gE cD [(101,r1),(103,r2),(997,r3),(2,1)] _ _;rw[ec] at hp1;obtain⟨k,hk⟩:∃k:Nat,2+r=(k:Int):=⟨(2+r).toNat,by lia⟩;rw[hk,sV] at hp1;have hk2:2≤k/\k≤4:=by lia
 have hl:([(101,r1),(103,r2),(997,r3),(2,1)]:List bw).length=4:=rfl;refine⟨_,xw hp1.at_,by rw[ξ,bC];lia,zq,fun p2 mss G2 hp2 hpm hr=>?_⟩;have nd:([(101,r1),(103,r2),(997,r3),(2,1)]:List bw).Nodup:=by simp
 obtain⟨cs',rfl,hmem,hr,hlen⟩:=yj hpm (List.Nodup.sublist (hU k _) nd) hr;rw[bC] at hlen;rw[qP] at hp2;refine⟨_,hp2.at_,mw ((hq0.sub.trans hp1.sub).trans hp2.sub) (q cs' (fun c hc=>?_) (by lia) (by lia) hr)⟩;have:=df ((hmem c).mp hc);simp at this;rcases this with rfl|rfl|rfl|rfl
 ·exact⟨⟨(by decide:(0:Int)<101),a1,b1⟩,(by decide:(101:Int)≤997)⟩
 ·exact⟨⟨(by decide:(0:Int)<103),a2,b2⟩,(by decide:(103:Int)≤997)⟩
 ·exact⟨⟨(by decide:(0:Int)<997),a3,b3⟩,(by decide:(997:Int)≤997)⟩
 ·exact⟨⟨by decide,by decide,by decide⟩,by decide⟩
theorem kB{α:Type}(f:α->Bool):∀xs:List α,nK (xs.map fun x=>D.bl (f x))=some (xs.map f)
 |[]=>rfl
 |x::xs=>by
  show sr _ (nK (xs.map fun x=>D.bl (f x)))=_;rw[kB f xs];rfl
theorem all_map{α:Type}(f:α->Bool)(xs:List α):(xs.map f).all id=xs.all f:=by
 induction xs with
 |nil=>rfl
 |cons x xs ih=>simp
end My
namespace My
open PySem L2 L3
def Kn(G:Gp):Nat->D->Prop
 |0,d=>Known G d
 |n+1,.tup ds=>∀d∈ds,Kn G n d
 |_+1,d=>Known G d
def jq(G:Gp)(d:D):Prop:=∀n,Kn G n d
section
variable {G G':Gp}
theorem jq.tup{ds:List D}(h:∀d∈ds,jq G d):jq G (.tup ds):=fun n=>match n with
 |0=>trivial
 |n+1=>fun d hd=>h d hd n
theorem jq.int(i:Int):jq G (.int i):=fun n=>by cases n<;>trivial
theorem jq.el{ds:List D}{d:D}(h:jq G (.tup ds))(hd:d∈ds):jq G d:=fun n=>h (n+1) d hd
theorem jq.known{d:D}(h:jq G d):Known G d:=h 0
theorem jq.Az{d:D}(h:jq G d):AZ G d:=by
 cases d with
 |tup ds=>exact fun d hd=>(h.el hd).known
 |obj a=>exact h 0
 |_=>trivial
end
def sX(s r:Int):Bool:=(decide (1≤s)&&decide (s≤1000))&&(decide (0≤r)&&decide (r<s))
def g9:D->Bool
 |.tup [.int s,.int r]=>sX s r
 |_=>false
def rl:fz:=fun ds G Q=>∃d:D,ds=[d]/\jq G d/\Q (.bl (g9 d)) G
def DI:aN:=cO (qh (jW sG sG (eC (.int 1)) (aX eX (ω 0) (eC (.int 0))) (eC (.int 1000))) (jW sG lJ (eC (.int 0)) (aX eX (ω 0) (eC (.int 1))) (aX eX (ω 0) (eC (.int 0)))))
def DJ:aN:=bI (iS (mJ (g8 (bL (bM m6 (υ (aX eX (ω 0) (eC (.int 0))) (ab))))) (g8 (bL (bM m6 (υ (aX eX (ω 0) (eC (.int 1))) (ab)))))) (cO (eC (.bl false))) (dX)) DI
def xH:aN:=bI (iS (mJ (g8 (bL (jK "tuple" (ω 0)))) (bL (aX (fX true) (cx gS (υ (ω 0) (ab))) (eC (.int 2))))) (cO (eC (.bl false))) (dX)) DJ
theorem vP{ds:List D}(h:ds.length≠2):g9 (.tup ds)=false:=by
 unfold g9;split
 ·rename_i h2;cases h2;exact absurd rfl h
 ·rfl
theorem Jq:∀ds G Q,rl ds G Q->xH (bG Q) (bB ["thing"] ds) G:=by
 rintro ds G Q ⟨d,rfl,hk,q⟩;have not_tup:(∀ds,d≠.tup ds)->xH (bG Q) (bB ["thing"] [d]) G:=by
  intro hn;have e:g9 d=false:=by
   cases d with
   |tup ds=>exact absurd rfl (hn ds)
   |_=>rfl
  rw[e] at q;show match ij "tuple" G d with
   |some b=>_
   |none=>False
  rw[vC hk.Az hn];exact⟨fun _=>⟨fun _=>aZ q,nofun⟩,nofun⟩
 cases d with
 |tup ds=>
  refine⟨nofun,fun _=>⟨_,_,rfl,rfl,aQ _,?_⟩⟩;rcases ds with _|⟨a,_|⟨b,_|⟨c,ds⟩⟩⟩
  ·exact⟨fun _=>aZ q,nofun⟩
  ·rw[vP (by simp)] at q;exact⟨fun _=>aZ q,nofun⟩
  ·refine⟨nofun,fun _=>⟨a,rfl,(hk.el (by simp)).known,?_⟩⟩;have hb:Known G b:=(hk.el (by simp)).known;cases a with
   |int s=>
    refine⟨nofun,fun _=>⟨b,rfl,hb,?_⟩⟩;cases b with
    |int r=>
     have fin:∀v,sX s r=v->(bG Q).rt (.bl v) G:=fun v e=>by
      rw[←e];exact aZ q
     refine⟨nofun,fun _=>⟨_,rfl,⟨fun h1=>⟨fun h2=>⟨_,rfl,fun h3=>⟨_,rfl,fin _ ?_⟩,fun h3=>fin _ ?_⟩,fun h2=>fin _ ?_⟩,fun h1=>⟨nofun,fun _=>fin _ ?_⟩⟩⟩⟩
     ·unfold sX;rw[h1,h2,h3];rfl
     ·unfold sX;rw[h1,h2,h3];rfl
     ·unfold sX;rw[h1,h2];rfl
     ·unfold sX;rw[h1];rfl
    |_=>exact⟨fun _=>aZ q,nofun⟩
   |_=>exact⟨fun _=>⟨fun _=>aZ q,nofun⟩,nofun⟩
  ·refine⟨fun _=>?_,fun h=>?_⟩
   ·rw[vP (by simp)] at q;exact aZ q
   have h':(!(((ds.length+1+1+1:Nat):Int)==2))=false:=h;simp at h';omega
 |_=>exact not_tup nofun
def Aw(p:bw×bw):Bool:=HT.lexLt (gb p.1) (gb p.2)
def v5(cs:List bw):Bool:=(cs.zip (cs.drop 1)).all Aw
def um:D->bw
 |.tup [.int s,.int r]=>(s,r)
 |_=>(0,0)
def sd:D->Bool
 |.tup ds=>decide (ds.length≤12)&&(ds.all g9&&v5 (ds.map um))
 |_=>false
theorem Iw{d:D}(h:g9 d=true):∃c:bw,d=cD c:=by
 unfold g9 at h;split at h
 ·rename_i s r;exact⟨(s,r),rfl⟩
 ·cases h
theorem xq:∀{ds:List D},ds.all g9=true->∃cs:List bw,ds=cs.map cD
 |[],_=>⟨[],rfl⟩
 |d::ds,h=>by
  rw[ox,cQ] at h;obtain⟨c,rfl⟩:=Iw h.1;obtain⟨cs,rfl⟩:=xq h.2;exact⟨c::cs,rfl⟩
theorem tI(cs:List bw):(cs.map cD).map um=cs:=by
 rw[dg];exact (ju fun c _=>rfl).trans (List.map_id cs)
theorem Fl(cs es:List bw):kE (cs.map cD) (es.map cD)=(cs.zip es).map fun p=>D.tup [cD p.1,cD p.2]:=by
 unfold kE
 induction cs generalizing es with
 |nil=>rfl
 |cons c cs ih=>
  cases es with
  |nil=>rfl
  |cons e es=>
   show D.tup [cD c,cD e]::List.zipWith _ (cs.map cD) (es.map cD)=_::(cs.zip es).map _;rw[ih]
def rq:fz:=fun ds G Q=>∃d:D,ds=[d]/\jq G d/\Q (.bl (sd d)) G
def DP:aN:=cO (cx lI (υ (il ["ahead","clock"] [] (BW (υ (ω 0) (υ (nX (ω 0) (gX (eC (.int 1))) (iU)) (ab)))) (qU 2 (ik (hName 0) (ik (hName 1) (qV)))) (cY) (aX lJ (ω 0) (ω 1))) (ab)))
def DQ:aN:=bI (iS (g8 (bL (cx lI (υ (il ["clock"] [] (ma (ω 0)) (hName 0) (cY) (bM rl (υ (ω 0) (ab)))) (ab))))) (cO (eC (.bl false))) (dX)) DP
def xJ:aN:=bI (iS (mJ (g8 (bL (jK "tuple" (ω 0)))) (bL (aX Bx (cx gS (υ (ω 0) (ab))) (eC (.int 12))))) (cO (eC (.bl false))) (dX)) DQ
theorem Ct{G:Gp}{te:ag}{Q:List D->Gp->Prop}{ds:List D}{f:D->Bool}{js:List Nat}{τ:S3}(hl:ds.length≤1000)
  (hs:∀x∈ds,∀y:Option D,∀K:V3,K (.bl (f x)) G->te (j7 (y::js.map fun j=>gd τ j) 0 x) G K) (q:Q (ds.map fun x=>.bl (f x)) G):fM (fun _=>True) (hName 0) cY te Q ds [] (none::js.map fun j=>gd τ j) G:=by
 have:=fg (α:=D) (guard:=fun _=>True) (g:=hName 0) (tc:=cY) (te:=te) (Q:=Q) (fun τ'=>∃x,τ'=x::js.map fun j=>gd τ j) (fun x=>x) (fun _=>true) (fun x=>.bl (f x)) (G:=G) trivial ds [] (none::js.map fun j=>gd τ j) ⟨none,rfl⟩ ?_ ?_
 ·rw[List.map_id'] at this;exact this
 ·rintro x hx τ' K1 K2 ⟨y,rfl⟩ h1 h2;exact⟨fun _=>hs x hx y _ (h1 rfl _ ⟨_,rfl⟩),nofun⟩
 ·rw[filter_all,de];exact q
theorem Ju:∀ds G Q,rq ds G Q->xJ (bG Q) (bB ["thing"] ds) G:=by
 rintro ds G Q ⟨d,rfl,hk,q⟩;have not_tup:(∀ds,d≠.tup ds)->xJ (bG Q) (bB ["thing"] [d]) G:=by
  intro hn;have e:sd d=false:=by
   cases d with
   |tup ds=>exact absurd rfl (hn ds)
   |_=>rfl
  rw[e] at q;show match ij "tuple" G d with
   |some b=>_
   |none=>False
  rw[vC hk.Az hn];exact⟨fun _=>⟨fun _=>aZ q,nofun⟩,nofun⟩
 cases d with
 |tup ds=>
  refine⟨nofun,fun _=>⟨fun h=>?_,fun h=>?_⟩⟩
  ·have h':(12:Int)<((ds.length:Nat):Int):=of_decide_eq_true h;have e:sd (.tup ds)=false:=by
    show (decide (ds.length≤12)&&_)=false;rw[decide_eq_false (by omega)];rfl
   rw[e] at q;exact aZ q
  ·have h':¬((12:Int)<((ds.length:Nat):Int)):=of_decide_eq_false h;have e:sd (.tup ds)=(ds.all g9&&v5 (ds.map um)):=by
    show (decide (ds.length≤12)&&_)=_;rw[decide_eq_true (by omega)];rfl
   rw[e] at q;refine⟨dQ (by show ds.length≤1000;omega),Ct (js:=[]) (τ:=[]) (f:=g9) (by show ds.length≤1000;omega) (fun x hx y K k=>⟨x,rfl,hk.el hx,k⟩) fun p G1 n1=>⟨_,_,n1.at_,kB g9 ds,?_⟩⟩;rw[all_map];refine⟨fun hw=>?_,fun hw=>?_⟩
   ·have hw':ds.all g9=false:=by simpa using hw
    rw[hw'] at q;exact mw n1.sub q
   ·have hw':ds.all g9=true:=by simpa using hw
    rw[hw'] at q;obtain⟨cs,rfl⟩:=xq hw';rw[tI] at q;rw[ξ] at h';have hcut:fu (cs.map cD) (some 1) none=(cs.drop 1).map cD:=by
     rw[gE,show (some (1:Int))=some ((1:Nat):Int) from rfl,pH]
    refine⟨_,_,rfl,rfl,?_⟩;rw[hcut,Fl];refine⟨?_,?_⟩
    ·show ((cs.zip (cs.drop 1)).map _).length≤Φ;rw[ξ,lS];exact dQ (by omega)
    refine fg (fun τ=>∃x y,τ=[x,y]) (fun p:bw×bw=>D.tup [cD p.1,cD p.2]) (fun _=>true) (fun p=>.bl (Aw p)) (G:=G1) ⟨rfl,rfl⟩ (cs.zip (cs.drop 1)) [] _ ⟨none,none,rfl⟩ ?_ ?_
    ·rintro⟨a,b⟩ hm τ K1 K2 ⟨x,y,rfl⟩ h1 h2;exact⟨rfl,fun _=>⟨gb a,gb b,rfl,rfl,h1 rfl _ ⟨_,_,rfl⟩⟩,nofun⟩
    ·intro p2 G2 n2;rw[filter_all,de] at n2;refine⟨_,_,n2.at_,kB Aw _,?_⟩;rw[all_map];exact mw (n1.sub.trans n2.sub) q
 |_=>exact not_tup nofun
end My
namespace My
open PySem L2 L3
theorem zh{α β:Type}(f:α->D)(g:β->D):∀(as:List α) (bs:List β),kE (as.map f) (bs.map g)=(as.zip bs).map fun p=>D.tup [f p.1,g p.2]
 |[],_=>rfl
 |a::as,[]=>rfl
 |a::as,b::bs=>by
  show D.tup [f a,g b]::kE (as.map f) (bs.map g)=D.tup [f a,g b]::(as.zip bs).map _;rw[zh f g as bs]
theorem Ig{β:Type}(g:β->D)(bs:List β):qg (bs.map g)=((aq bs.length).zip bs).map fun p=>D.tup [nD p.1,g p.2]:=by
 unfold qg;rw[ξ,Lr];exact zh nD g _ _
end My
namespace My
open PySem L2 L3
theorem tw{G:Gp}(cs:List bw):m3 G (fy cs)=some (.tup (cs.map cX)):=by
 show iQ (.tup (cs.map cD))=_;rw[iQ,oJ]
theorem Fh(cs:List bw):(Dat.D.tup (cs.map cX)).g0≤50:=by
 show Dat.ft (cs.map cX)+1≤50;have:=sT cs;lia
def rB:fz:=fun ds G Q=>∃(cs:List bw),ds=[fy cs,fy cs]/\Q (.bl true) G
def DZ:aN:=iS (mJ (g8 (bL (jK "tuple" (ω 2)))) (mJ (g8 (bL (bM oU (υ (aX eX (ω 2) (eC (.int 0))) (ab))))) (g8 (bL (bM oU (υ (aX eX (ω 2) (eC (.int 1))) (ab))))))) (cO (eC (.bl false))) (dX)
def DY:aN:=cO (eC (.bl true))
def D0:aN:=bI (oX (ma (ω 0)) (hName 2) (DZ)) DY
def CL:aN:=bI (iS (mJ (g8 (bL (jK "tuple" (ω 0)))) (bL (aX (fX true) (ω 0) (ω 1)))) (cO (eC (.bl false))) (dX)) D0
theorem Fb(cs:List bw):(Dat.D.tup (cs.map cX)).dW (.tup (cs.map cX))=true:=by
 show Dat.iA (cs.map cX) (cs.map cX)=true;rw[xn];simp
theorem Jz:∀ds G Q,rB ds G Q->CL (bG Q) (bB ["found","due","clock"] ds) G:=by
 rintro ds G Q ⟨cs,rfl,q⟩;refine⟨fun h=>(nomatch h),fun _=>⟨_,_,tw cs,tw cs,Fh cs,fun h=>?_,fun _=>?_⟩⟩
 ·have h':(!((Dat.D.tup (cs.map cX)).dW (.tup (cs.map cX))))=true:=h;rw[Fb] at h';cases h'
 refine iz (fun ds τ G'=>G'=G/\∃(zs:List bw) (x:Option D),ds=zs.map cD/\τ=[some (fy cs),some (fy cs),x]) (fun _ _ _ h=>trivial) ?_ ?_ _ _ _ ⟨rfl,cs,none,rfl,rfl⟩
 ·rintro d ds τ G' N ⟨rfl,zs,x,e1,rfl⟩ hN;cases zs with
  |nil=>cases e1
  |cons z zs=>
   cases e1;exact⟨fun h=>(nomatch h),fun _=>⟨_,rfl,trivial,fun h=>(nomatch h),fun _=>⟨_,rfl,trivial,fun h=>(nomatch h),fun _=>hN _ _ ⟨rfl,zs,_,rfl,rfl⟩⟩⟩⟩
 ·rintro τ G' ⟨rfl,zs,x,e1,rfl⟩;exact aZ q
end My
namespace My
open PySem L2 L3 Tx
def pU:fz:=fun ds G Q=>∃w:π,ds=[.str w]/\w.length≤1000000/\∀G',Sub G G'->Q (.bl (dR w)) G'
def wI:aN:=cO (Cd (aX (fX false) (ω 0) (eC (.str "0"))) (uk (vK oY (ω 0) (υ (eC (.str "0")) (ab)))))
def CH:aN:=bI (iS (mJ (g8 (bL (jW sG sG (eC (.int 1)) (cx o5 (υ (ω 0) (ab))) (eC (.int 60))))) (g8 (bL (cx lI (υ (il ["sign"] [] (BX (ω 0)) (hName 0) (cY) (aX yb (ω 0) (eC (.str "0123456789")))) (ab)))))) (cO (eC (.bl false))) (dX)) wI
theorem fe{n:Nat}(h:n≤1000000):n≤Φ:=bc h (by decide)
theorem Jv:∀ds G Q,pU ds G Q->CH (bG Q) (bB ["word"] ds) G:=by
 rintro ds G Q ⟨w,rfl,hl,q⟩;have e0:dR w=(decide (1≤w.length)&&decide (w.length≤60)&&w.cps.toList.all (fun c=>decide (48≤c/\c≤57))&&(w=="0" || !(w.cps.toList.head?==some 48))):=rfl;have rest:∀G1,Sub G G1->1≤w.length->w.length≤60->w.cps.toList.all (fun c=>decide (48≤c/\c≤57))=true->wI (bG Q) [some (.str w)] G1:=fun G1 s1 h1 h2 h3=>by
  rw[decide_eq_true h1,decide_eq_true h2,h3,oz,oz,oz] at e0;refine⟨_,_,rfl,rfl,aQ _,fun g=>?_,fun g=>?_⟩
  ·have g':(w=="0")=true:=g;rw[g',Bool.true_or] at e0;have:=q G1 s1;rw[e0] at this;exact aZ this
  ·have g':(w=="0")=false:=g;rw[g',Bool.false_or] at e0;refine⟨⟨w,rfl⟩,?_⟩;show (bG Q).rt (.bl (!(Txt.startswith w "0"))) G1;rw[D5,←e0];exact aZ (q G1 s1)
 refine⟨fe hl,fun h1=>?_,fun h1=>?_⟩
 ·have h1':(1:Int)≤(w.length:Int):=of_decide_eq_true h1;refine⟨fun h2=>?_,fun h2=>?_⟩
  ·have h2':(!decide ((w.length:Int)≤60))=true:=h2;have h3:¬w.length≤60:=by
    intro z;rw[decide_eq_true (show (w.length:Int)≤60 by lia)] at h2';cases h2'
   have:dR w=false:=by rw[e0,decide_eq_false h3,fS,cF,cF]
   have q':=q G (Sub.refl _);rw[this] at q';exact⟨fun _=>aZ q',nofun⟩
  ·have h2':(!decide ((w.length:Int)≤60))=false:=h2;have h3:w.length≤60:=by
    refine lh fun z=>?_;rw[decide_eq_false (show ¬(w.length:Int)≤60 by lia)] at h2';cases h2'
   refine⟨?_,?_⟩
   ·show (w.cps.toList.map m8).length≤Φ;rw[ξ,←len_list];exact fe hl
   refine fg (fun τ=>∃x,τ=[x]) m8 (fun _=>true) (fun c=>D.bl (decide (48≤c/\c≤57))) (G:=G) trivial w.cps.toList [] _ ⟨none,rfl⟩ ?_ ?_
   ·rintro c hm τ K1 K2 ⟨_,rfl⟩ g1 g2;refine⟨fun _=>?_,nofun⟩;show K2 _ (D.bl (!(bF (aA "0123456789") ⟨#[c]⟩ 0 (aA "0123456789").length 1).isEmpty)) G;rw[EZ];exact g1 rfl _ ⟨_,rfl⟩
   ·intro p1 G1 n1;rw[filter_all,de] at n1;refine⟨_,_,n1.at_,kB (fun c=>decide (48≤c/\c≤57)) _,?_⟩;have ea:((w.cps.toList.map fun c=>decide (48≤c/\c≤57)).all id)=w.cps.toList.all (fun c=>decide (48≤c/\c≤57)):=by
     rw[lu];rfl
    rw[ea];refine⟨fun g=>?_,fun g=>?_⟩
    ·have g':(!(w.cps.toList.all fun c=>decide (48≤c/\c≤57)))=true:=g;have g2:w.cps.toList.all (fun c=>decide (48≤c/\c≤57))=false:=by simpa using g'
     have:dR w=false:=by rw[e0,g2,fS,cF]
     have q':=q G1 n1.sub;rw[this] at q';exact aZ q'
    ·have g':(!(w.cps.toList.all fun c=>decide (48≤c/\c≤57)))=false:=g;have g2:w.cps.toList.all (fun c=>decide (48≤c/\c≤57))=true:=by simpa using g'
     exact rest G1 n1.sub (by lia) h3 g2
 ·have h1':¬(1:Int)≤(w.length:Int):=of_decide_eq_false h1;refine⟨fun _=>?_,nofun⟩;have:dR w=false:=by rw[e0,decide_eq_false (show ¬1≤w.length by lia),cF,cF,cF]
  have q':=q G (Sub.refl _);rw[this] at q';exact⟨fun _=>aZ q',nofun⟩
def pg(name:π)(many:Nat)(ws:List π):Bool:=decide (ws.head?=some name)&&decide (ws.length=many+1)&&(ws.drop 1).all dR
def tH(name:π)(many:Nat)(ws:List π):List Int:=if pg name many ws then (ws.drop 1).map mY else []
def Ap(name:π)(many:Nat)(row:π):List Int:=tH name many (Txt.split row " ")
theorem wj{x y a:π}(h:a∈Txt.split x y):a.length≤x.length:=PyProof.Rows.part_short h
def pV:fz:=fun ds G Q=>∃(name row:π) (many:Nat),ds=[.str name,.int many,.str row]/\row.length≤900000/\∀p G',dv G p (.lst ((Ap name many row).map D.int)) G'->Q (.obj p) G'
def DX:aN:=cO (il ["word"] [] (ma (nX (ω 3) (gX (eC (.int 1))) (iU))) (hName 0) (cY) (cx o6 (υ (ω 0) (ab))))
def wK:aN:=bI (iS (mJ (bL (aX (fX true) (aX eX (ω 3) (eC (.int 0))) (ω 0))) (mJ (bL (aX (fX true) (cx gS (υ (ω 3) (ab))) (aX e7 (ω 1) (eC (.int 1))))) (g8 (bL (cx lI (υ (il ["word"] [] (ma (nX (ω 3) (gX (eC (.int 1))) (iU))) (hName 0) (cY) (bM pU (υ (ω 0) (ab)))) (ab))))))) (cO (iC (ab))) (dX)) DX
def CK:aN:=bI (cI (vK nq (ω 2) (υ (eC (.str " ")) (ab))) (hName 3)) wK
theorem yL(ws:List π):fu (ws.map D.str) (some ((1:Nat):Int)) none=(ws.drop 1).map D.str:=by
 rw[gE,pH]
theorem E9{G:Gp}{p2:ε}{ws:List π}{K:ε->Gp->Prop}(hw:∀w∈ws,w.length≤1000000)(hl:ws.length≤1000000)(e2:G p2=some (.lst (ws.map D.str)))(q:∀G' p3 G3,Sub G G'->dv G' p3 (.lst (ws.map fun w=>D.bl (dR w))) G3->K p3 G3):
  (ws.map D.str).length≤Φ/\fM (fun G'=>G' p2=some (.lst (ws.map D.str))) (hName 0) cY (bM pU (υ (ω 0) ab)) (fun ds G2=>∀p G3,dv G2 p (.lst ds) G3->K p G3) (ws.map D.str) [] [none] G:=by
 refine⟨by rw[ξ];exact fe hl,?_⟩;refine lO (fun ds acc τ G'=>∃(dn rs:List π) (x:Option D),dn++rs=ws/\ds=rs.map D.str/\acc=dn.map (fun w=>D.bl (dR w))/\Sub G G'/\τ=[x]) (fun _ _ _ _ h=>?_) ?_ ?_ _ _ _ _ ⟨[],ws,none,rfl,rfl,rfl,Sub.refl _,rfl⟩
 ·obtain⟨_,_,_,_,_,_,s,_⟩:=h;exact s _ _ e2
 ·rintro d ds acc τ G1 K1 K2 ⟨dn,rs,x,e1,e3,rfl,s1,rfl⟩ g1 g2;cases rs with
  |nil=>cases e3
  |cons w rs=>
   cases e3;refine⟨fun _=>⟨w,rfl,hw w (by rw[←e1];exact aC _ Ψ),fun G2 s2=>?_⟩,nofun⟩;exact g1 _ _ _ ⟨dn++[w],rs,_,by rw[fG];exact e1,rfl,by rw[bW];rfl,s1.trans s2,rfl⟩
 ·rintro acc τ G1 ⟨dn,rs,x,e1,e3,rfl,s1,rfl⟩;have e0:rs=[]:=by
   cases rs with
   |nil=>rfl
   |cons z zs=>cases e3
  subst e0;rw[dO] at e1;subst e1;exact fun p3 G3 n3=>q _ _ _ s1 n3
theorem Jy:∀ds G Q,pV ds G Q->CK (bG Q) (bB ["name","many","row","words"] ds) G:=by
 rintro ds G Q ⟨name,row,many,rfl,hl,q⟩;refine⟨⟨row,rfl⟩,by decide,fe (by lia),fun p1 G1 n1=>?_⟩;have hp:=mj row " ";have hsl:=PyProof.Rows.split_le row " ";have hsh:∀w∈Txt.split row " ",w.length≤1000000:=fun w hw=>by have:=wj hw;lia
 have q0:∀p G',dv G p (.lst ((tH name many (Txt.split row " ")).map D.int)) G'->Q (.obj p) G':=q;show wK (bG Q) [some (.str name),some (.int many),some (.str row),some (.obj p1)] G1;have n1':dv G p1 (.lst ((Txt.split row " ").map D.str)) G1:=n1;generalize Txt.split row " " = ws at hp hsl hsh q0 n1';have no:pg name many ws=false->∀G2,Sub G1 G2->∀p G',dv G2 p (.lst []) G'->Q (.obj p) G':=fun h G2 s2 p G' n=>by
  refine q0 p G' ?_;have:tH name many ws=[]:=by unfold tH;rw[h];rfl
  rw[this];exact⟨(n1'.sub.trans s2).of_none n.ao,(n1'.sub.trans s2).trans n.sub,n.at_⟩
 cases ws with
 |nil=>exact absurd hp (by decide)
 |cons w ws=>
  refine⟨_,.str w,n1'.at_,qm (j:=0) rfl,.str w,.str name,rfl,rfl,aQ _,fun g=>?_,fun g=>?_⟩
  ·have g':(!(w==name))=true:=g;refine⟨fun _ p G' n=>aZ (no ?_ G1 (Sub.refl _) p G' n),nofun⟩;have:¬(some w=some name):=fun z=>by rw[ai z,beq_self_eq_true] at g';cases g'
   unfold pg;rw[lT,decide_eq_false this,cF,cF]
  ·have g':(!(w==name))=false:=g;have hw:w=name:=by simpa using g'
   refine⟨_,n1'.at_,_,_,rfl,rfl,aQ _,fun g2=>?_,fun g2=>?_⟩
   ·have g2':(!((((w::ws).map D.str).length:Nat):Int)==((many:Int)+1))=true:=g2;refine⟨fun _ p G' n=>aZ (no ?_ G1 (Sub.refl _) p G' n),nofun⟩;have:¬((w::ws).length=many+1):=fun z=>by
     rw[ξ,z,show ((many+1:Nat):Int)=(many:Int)+1 by lia,beq_self_eq_true] at g2';cases g2'
    unfold pg;rw[decide_eq_false this,fS,cF]
   ·have g2':(!((((w::ws).map D.str).length:Nat):Int)==((many:Int)+1))=false:=g2;have hlen:(w::ws).length=many+1:=by
     rw[ξ] at g2';simp only[Bool.not_eq_false',beq_iff_eq] at g2';lia
    refine⟨_,n1'.at_,fun p2 G2 n2=>?_⟩;have n2':dv G1 p2 (.lst (ws.map D.str)) G2:=by
     have e:fu ((w::ws).map D.str) (some ((1:Nat):Int)) none=ws.map D.str:=yL (w::ws);rw[←e];exact n2
    refine⟨_,n2'.at_,?_⟩;refine E9 (ws:=ws) (fun z hz=>hsh z (Ω _ hz)) (by simp only[aj] at hsl;lia) n2'.at_ fun G' p3 G3 s' n3=>?_;have s3:=s'.trans n3.sub;refine⟨_,_,n3.at_,kB dR _,?_⟩;rw[show (ws.map dR).all id=ws.all dR by rw[lu];rfl];refine⟨fun g3 p G' n=>aZ (no ?_ G3 (n2'.sub.trans s3) p G' n),fun g3=>?_⟩
    ·have g3':(!(ws.all dR))=true:=g3;have:ws.all dR=false:=by simpa using g3'
     unfold pg;rw[show (w::ws).drop 1=ws from rfl,this,fS]
    ·have g3':(!(ws.all dR))=false:=g3;have hall:ws.all dR=true:=by simpa using g3'
     have ok:tH name many (w::ws)=ws.map mY:=by
      unfold tH pg;rw[hw,lT,decide_eq_true rfl,←hw,decide_eq_true hlen,show (w::ws).drop 1=ws from rfl,hall];rfl
     have hp3:=(n2'.sub.trans s3) _ _ n1'.at_;refine⟨_,hp3,fun p4 G4 n4=>?_⟩;have n4':dv G3 p4 (.lst (ws.map D.str)) G4:=by
      have e:fu ((w::ws).map D.str) (some ((1:Nat):Int)) none=ws.map D.str:=yL (w::ws);rw[←e];exact n4
     refine⟨_,n4'.at_,by rw[ξ];exact fe (by simp only[aj] at hsl;lia),?_⟩;refine fg (guard:=fun G'=>G' p4=some (.lst (ws.map D.str))) (fun τ=>∃x,τ=[x]) D.str (fun _=>true) (fun z=>D.int (mY z)) (G:=G4) n4'.at_ ws [] _ ⟨none,rfl⟩ ?_ ?_
     ·rintro z hm τ K1 K2 ⟨_,rfl⟩ k1 k2;have hz:=cP.mp hall z hm;exact⟨fun _=>⟨bc (xm hz).2.2 (by decide),_,AH hz,k1 rfl _ ⟨_,rfl⟩⟩,nofun⟩
     ·intro p5 G5 n5;rw[filter_all,de] at n5;have s5:=(n1'.sub.trans (n2'.sub.trans s3)).trans (n4'.sub);refine aZ (q0 p5 G5 ⟨s5.of_none n5.ao,s5.trans n5.sub,?_⟩);rw[n5.at_,ok,dg];rfl
end My
namespace My
open PySem L2 L3 Tx
def jx(n:Nat):π:="clocks " ++ num n
def gz(c:bw):π:="clock " ++ num c.1.toNat++" " ++ num c.2.toNat
def e6(cs:List bw):List π:=jx cs.length::cs.map gz
def txt(cs:List bw):π:=dS "\n" (e6 cs)
theorem zP(n:Nat):jx n=dS ⟨#[32]⟩ ["clocks",num n]:=by
 show ("clocks ":π)++num n=("clocks":π)++⟨#[32]⟩++num n;rw[show ("clocks":π)++⟨#[32]⟩="clocks " by decide]
theorem zO(c:bw):gz c=dS ⟨#[32]⟩ ["clock",num c.1.toNat,num c.2.toNat]:=by
 show ("clock ":π)++num c.1.toNat++" " ++ num c.2.toNat=("clock":π)++⟨#[32]⟩++(num c.1.toNat++⟨#[32]⟩++num c.2.toNat);rw[show ("clock":π)++⟨#[32]⟩="clock " by decide,kX,kX,kX];rfl
theorem jA(n:Nat){c:Nat}(hc:c<48):c∉(num n).cps.toList:=B0 (rO n) hc
theorem xT(n:Nat):Txt.split (jx n) " " = [aA "clocks",num n]:=by
 rw[zP];refine m5 (c:=32) fun y hy=>?_;simp only[aa,aT,or_false] at hy;rcases hy with rfl|rfl
 ·decide
 ·exact jA n (by decide)
theorem xS(c:bw):Txt.split (gz c) " " = [aA "clock",num c.1.toNat,num c.2.toNat]:=by
 rw[zO];refine m5 (c:=32) fun y hy=>?_;simp only[aa,aT,or_false] at hy;rcases hy with rfl|rfl|rfl
 ·decide
 ·exact jA _ (by decide)
 ·exact jA _ (by decide)
theorem qb{a b:π}{c:Nat}:c∈(a++b).cps.toList↔c∈a.cps.toList∨c∈b.cps.toList:=PyProof.Rows.mem_cps_append
theorem zG(cs:List bw):Txt.split (txt cs) "\n" = e6 cs:=by
 unfold txt;rw[show ("\n":π)=⟨#[10]⟩ from rfl];refine m5 (c:=10) fun y hy=>?_;rcases aa.mp hy with rfl|hy
 ·unfold jx;rw[qb];rintro (z|z)
  ·exact absurd z (by decide)
  ·exact jA _ (by decide) z
 ·obtain⟨c,_,rfl⟩:=aB.mp hy;unfold gz;rw[qb,qb,qb];rintro (((z|z)|z)|z)
  ·exact absurd z (by decide)
  ·exact jA _ (by decide) z
  ·exact absurd z (by decide)
  ·exact jA _ (by decide) z
theorem EF{n:Nat}(h:n<10^10):Ap "clocks" 1 (jx n)=[(n:Int)]:=by
 unfold Ap tH pg;rw[xT];have:((["clocks",num n]:List π).drop 1).all dR=true:=by
  show (dR (num n)&&true)=true;rw[sQ h];rfl
 rw[this];show (if (decide (some (aA "clocks")=some (aA "clocks"))&&decide (2=1+1)&&true)=true then [mY (num n)] else [])=_;rw[decide_eq_true rfl,decide_eq_true rfl,sA];rfl
theorem EE{c:bw}(hc:Valid c/\c.1≤1000):Ap "clock" 2 (gz c)=[c.1,c.2]:=by
 have h1:=hc.1.1;have h2:=hc.1.2.1;have h3:=hc.1.2.2;have h4:=hc.2;unfold Ap tH pg;rw[xS];have:((["clock",num c.1.toNat,num c.2.toNat]:List π).drop 1).all dR=true:=by
  show (dR (num c.1.toNat)&&(dR (num c.2.toNat)&&true))=true;rw[sQ (by lia),sQ (by lia)];rfl
 rw[this];show (if (decide (some (aA "clock")=some (aA "clock"))&&decide (3=2+1)&&true)=true then [mY (num c.1.toNat),mY (num c.2.toNat)] else [])=_;rw[decide_eq_true rfl,decide_eq_true rfl,sA,sA,gq (by lia),gq h2];rfl
theorem nh{n:Nat}(h:n<10^10):(jx n).length≤17:=by
 have:=iH h;unfold jx;rw[bO];have e:("clocks ":π).length=7:=rfl;lia
theorem ng{c:bw}(hc:Valid c/\c.1≤1000):(gz c).length≤27:=by
 have h1:=hc.1.1;have h2:=hc.1.2.1;have h3:=hc.1.2.2;have h4:=hc.2;have l1:=iH (n:=c.1.toNat) (by lia);have l2:=iH (n:=c.2.toNat) (by lia);unfold gz;rw[bO,bO,bO];have e:("clock ":π).length=6:=rfl;have e2:(" ":π).length=1:=rfl;lia
theorem uR{cs:List bw}(ok:i7 1000 cs)(hl:cs.length≤12):∀y∈e6 cs,y.length≤27:=fun y hy=>by
 rcases aa.mp hy with rfl|hy
 ·have:=nh (n:=cs.length) (by lia);lia
 ·obtain⟨c,hc,rfl⟩:=aB.mp hy;exact ng (ok c hc)
theorem wN{cs:List bw}(ok:i7 1000 cs)(hl:cs.length≤12):JoinOk "\n" (e6 cs)=true:=by
 refine Tx.HR 27 (uR ok hl) (by decide) ?_;have:(e6 cs).length=cs.length+1:=by
  unfold e6;rw[aj,ξ]
 rw[this];exact fe (by lia)
theorem DH{cs:List bw}(ok:i7 1000 cs)(hl:cs.length≤12):(txt cs).length≤1000:=by
 have h1:=StrLaws.join_length_le "\n" (e6 cs);have h2:=qu (e6 cs) (uR ok hl);have h3:(e6 cs).length=cs.length+1:=by
  unfold e6;rw[aj,ξ]
 have h4:("\n":π).length=1:=rfl;rw[h4,h3] at h1;rw[h3] at h2;unfold txt;lia
theorem mG{n:Nat}(h:n<10^30):n.log2<1920:=by
 by_cases hz:n=0
 ·rw[hz];decide
 ·exact (Nat.log2_lt hz).mpr (lg h (by decide))
theorem strs_map(xs:List π):strsOf (xs.map D.str)=some xs:=by
 induction xs with
 |nil=>rfl
 |cons x xs ih=>
  show (strsOf (xs.map D.str)).map (x::·)=_;rw[ih];rfl
theorem join_eq(z:π)(xs:List π):Txt.join z xs=dS z xs:=StrLaws.glued_eq_join z xs
theorem toS{i:Int}(h:0≤i):(aA (toString i))=num i.toNat:=by
 unfold num;rw[gq h]
def rz:fz:=fun ds G Q=>∃cs:List bw,ds=[fy cs]/\i7 1000 cs/\cs.length≤12/\∀G',Sub G G'->Q (.str (txt cs)) G'
def DR:aN:=cO (vK pY (eC (.str "\n")) (υ (aX e7 (iC (υ (yJ [eC (.str "clocks "),vL (ω 1)]) (ab))) (il ["step","rest"] [] (ma (ω 0)) (qU 2 (ik (hName 0) (ik (hName 1) (qV)))) (cY) (yJ [eC (.str "clock "),vL (ω 0),eC (.str " "),vL (ω 1)]))) (ab)))
def CI:aN:=bI (cI (cx gS (υ (ω 0) (ab))) (hName 1)) DR
theorem Jw:∀ds G Q,rz ds G Q->CI (bG Q) (bB ["clocks","many"] ds) G:=by
 rintro ds G Q ⟨cs,rfl,ok,hl,q⟩;have hlm:(cs.map cD).length=cs.length:=ξ ..;have e0:eD++"clocks " ++ aA (toString (((cs.map cD).length:Nat):Int))=jx cs.length:=by
  rw[eO,hlm];rfl
 have l0:=nh (n:=cs.length) (by lia);refine⟨⟨_,rfl⟩,by decide,mG (by rw[Int.natAbs_natCast,hlm];lia),?_,?_,?_⟩
 ·rw[e0];exact fe (by lia)
 ·rw[e0];exact fe (by lia)
 rw[e0];intro p1 G1 n1;refine⟨?_,?_⟩
 ·show (cs.map cD).length≤Φ;rw[hlm];exact dQ (by lia)
 refine fg (fun τ=>∃x y,τ=[x,y]) cD (fun _=>true) (fun c=>D.str (gz c)) (G:=G1) trivial cs [] _ ⟨none,none,rfl⟩ ?_ ?_
 ·rintro c hm τ K1 K2 ⟨_,_,rfl⟩ g1 g2;have hc:=ok c hm;have h1:=hc.1.1;have h2:=hc.1.2.1;have h3:=hc.1.2.2;have h4:=hc.2;have l1:=iH (n:=c.1.toNat) (by lia);have l2:=iH (n:=c.2.toNat) (by lia);have lr:=ng hc;have e1:("clock ":π).length=6:=rfl;have e2:(" ":π).length=1:=rfl;have s1:aA (toString c.1)=num c.1.toNat:=toS (by lia);have s2:aA (toString c.2)=num c.2.toNat:=toS h2;refine⟨rfl,fun _=>⟨by decide,mG (by lia),?_,?_,mG (by lia),?_,?_,?_⟩,nofun⟩
  ·rw[s1,eO,bO];exact fe (by lia)
  ·rw[s1,eO,bO,bO];exact fe (by lia)
  ·rw[s1,s2,eO];exact fe (bc lr (by decide))
  ·rw[s1,s2,eO];exact fe (bc lr (by decide))
  ·rw[s1,s2,eO];exact g1 rfl _ ⟨_,_,rfl⟩
 ·intro p2 G2 n2;rw[filter_all,de] at n2;refine⟨_,_,n2.sub _ _ n1.at_,n2.at_,?_,fun p3 G3 n3=>?_⟩
  ·rw[ξ];exact dQ (by show 1+cs.length≤1000;lia)
  have e3:G3 p3=some (.lst ((e6 cs).map D.str)):=by
   rw[n3.at_];unfold e6;rw[cn,dg];rfl
  refine⟨_,e6 cs,e3,strs_map _,wN ok hl,?_⟩;rw[join_eq];exact aZ (q _ ((n1.sub.trans n2.sub).trans n3.sub))
def oP:fz:=fun ds G Q=>∃cs:List bw,ds=[fy cs]/\i7 1000 cs/\cs.length≤12/\∀G',Sub G G'->Q (.str (txt cs)) G'
def Bd:aN:=rF (eM oZ (ω 1) (υ (aX mx (aX mx (aX mx (eC (.str "clock ")) (cx kJ (υ (ω 2) (ab)))) (eC (.str " "))) (cx kJ (υ (ω 3) (ab)))) (ab)))
def Bc:aN:=cO (vK pY (eC (.str "\n")) (υ (ω 1) (ab)))
def Be:aN:=bI (oX (ma (ω 0)) (qU 2 (ik (hName 2) (ik (hName 3) (qV)))) (Bd)) Bc
def zv:aN:=bI (cI (iC (υ (aX mx (eC (.str "clocks ")) (cx kJ (υ (cx gS (υ (ω 0) (ab))) (ab)))) (ab))) (hName 1)) Be
theorem FQ:∀ds G Q,oP ds G Q->zv (bG Q) (bB ["clocks","rows","step","rest"] ds) G:=by
 rintro ds G Q ⟨cs,rfl,ok,hl,q⟩;have hlm:(cs.map cD).length=cs.length:=ξ ..;have e0:("clocks ":π)++aA (toString (((cs.map cD).length:Nat):Int))=jx cs.length:=by
  rw[hlm];rfl
 have l0:=nh (n:=cs.length) (by lia);refine⟨mG (by rw[Int.natAbs_natCast,hlm];lia),?_,?_⟩
 ·rw[←bO,e0];exact fe (by lia)
 rw[e0];intro p1 G1 n1;refine iz (fun ds τ G'=>∃(dn rs:List bw) (x2 x3:Option D),dn++rs=cs/\ds=rs.map cD/\τ=[some (fy cs),some (.obj p1),x2,x3]/\dv G p1 (.lst ((jx cs.length::dn.map gz).map D.str)) G') (fun _ _ _ _=>trivial) ?_ ?_ _ _ _ ⟨[],cs,none,none,rfl,rfl,rfl,n1⟩
 ·rintro d ds τ G' N ⟨dn,rs,x2,x3,e1,e2,rfl,m⟩ hN;cases rs with
  |nil=>cases e2
  |cons c rs=>
   cases e2;have hc:=ok c (by rw[←e1];exact aC _ Ψ);have hdl:dn.length≤12:=by
    have:=congrArg gn e1;rw[az] at this;lia
   have h1:=hc.1.1;have h2:=hc.1.2.1;have h3:=hc.1.2.2;have h4:=hc.2;have l1:=iH (n:=c.1.toNat) (by lia);have l2:=iH (n:=c.2.toNat) (by lia);have lr:=ng hc;have f1:("clock ":π).length=6:=rfl;have f2:(" ":π).length=1:=rfl;have s1:aA (toString c.1)=num c.1.toNat:=toS (by lia);have s2:aA (toString c.2)=num c.2.toNat:=toS h2;refine⟨rfl,⟨p1,_,rfl,m.at_⟩,mG (by lia),?_,?_,mG (by lia),?_,?_⟩
   ·rw[s1];exact fe (by lia)
   ·rw[s1,bO];exact fe (by lia)
   ·rw[s1,s2,bO,bO];exact fe (by lia)
   ·rw[s1,s2];refine⟨_,m.at_,?_,hN _ _ ⟨dn++[c],rs,_,_,by rw[fG];exact e1,rfl,rfl,⟨m.ao,Sub.xE m.sub m.ao,?_⟩⟩⟩
    ·rw[ξ,aj,ξ];exact Nat.lt_of_le_of_lt (show dn.length+1≤13 by lia) (by decide)
    ·rw[cR,bW,←List.cons_append,bW];rfl
 ·rintro τ G' ⟨dn,rs,x2,x3,e1,e2,rfl,m⟩;have e0:rs=[]:=by
   cases rs with
   |nil=>rfl
   |cons z zs=>cases e2
  subst e0;rw[dO] at e1;subst e1;refine⟨⟨_,rfl⟩,_,e6 dn,m.at_,strs_map _,wN ok hl,?_⟩;rw[join_eq];exact aZ (q _ m.sub)
end My
namespace L2
open PySem PySem.Spec PyProof.Rows
theorem zm{P:ah}{w:ar}{K:ζ}{tg:ν}(it:ε)(lo c:Int)(n:Nat):Turn P w K tg (wc lo c n) [it] it (fun i h=>IsLongIter h it (lo+(i:Nat)*c) ((n:Int)-(i:Nat)) c) where
 mem:=by simp
 obj:=fun i h st b hb=>by
  have e:b=it:=by simpa using hb
  subst e;exact⟨_,st,fun v z=>by
   have z':jQ _=iN v:=z;cases z'⟩
 keep:=fun i h h' st k=>k it (by simp) _ st
 item:=by
  intro X hP hw hK hc i pins s σ H E I hf st hg;subst hP hw hK;obtain⟨f0,f1,f2,f3,f4,f5⟩:=hf it (by simp);have W:=Walks.longrange (prog:=X.prog) (w:=X.w) (I.ok.hd hc) it lo c n;refine W.item i s _ _ hg st fun v h' tk hv st' kk=>?_;obtain⟨t,rfl⟩:=hv;have I1:Inv X pins σ H { s with heap:=h',toks:=tk }:=I.turned (fun b o hb e=>kk b o (by simpa using hb) e) f0 f1 f3 f4 f5;refine⟨_,rfl,qf (s:={ s with heap:=h',toks:=tk }) (n:="longrange_iterator") st' rfl rfl (by decide) ⟨.int (lo+i*c),H,I1,⟨t,rfl⟩,⟨rfl,rfl⟩,st',fun b hb=>(hf b hb).1⟩⟩
 done:=by
  intro X hP hw hK hc i pins s σ H E I hf st hg;subst hP hw hK;obtain⟨f0,f1,f2,f3,f4,f5⟩:=hf it (by simp);exact wpAny_pyNext_long_end (I.ok.hd hc) st (by have:n≤i:=hg;lia) fun h' eb=>⟨rfl,I.turned (t':=s.toks) (fun b o hb e=>eb b o hb e) f0 f1 f3 f4 f5⟩
 self:=fun _ _ _ _ _ st h=>wpAny_pyIter_longiter st h
def i4(i j c:Int):Nat:=(dr i j c).toNat
theorem zH(i j c:Int):dr i j c=(i4 i j c:Int):=by
 unfold i4;refine (gq ?_).symm;unfold dr;split
 ·split
  ·have:0≤(j-i-1) / c:=lV (by lia) (by lia);lia
  ·lia
 ·split
  ·have:0≤(i-j-1) / (-c):=lV (by lia) (by lia);lia
  ·lia
section
variable {X:Cx} {tg:ν}
theorem zQ{pins:List (ε×aJ)}{σ:St}{H:Hp}{s:η}{R:It->Hp->Prop}{E:δ->η->Prop}{lo hi c:Int}{t u v:gv}{tk:Nat}(I:Inv X pins σ H s)
  (q:R (wc lo c (i4 lo hi c)) H):ρ (model X.prog X.w) X.A (pyIter (.ref s.heap.objs.size)) (Dw X pins σ tg R) E { s with heap:=s.heap.push { cls:=.type "range",data:=.fields #[.int lo t,.int hi u,.int c v]},toks:=tk }:=by
 have I1:Inv X pins σ H { s with heap:=s.heap.push { cls:=.type "range",data:=.fields #[.int lo t,.int hi u,.int c v]},toks:=tk }:=I.kept fun b o e=>θ _ e;have e1:lo+((0:Nat):Int)*c=lo:=by simp
 have e2:(((i4 lo hi c):Nat):Int)-((0:Nat):Int)=dr lo hi c:=by rw[zH];simp
 have fp:∀b∈[(s.heap.push { cls:=.type "range",data:=.fields #[.int lo t,.int hi u,.int c v]}).objs.size],gH X pins H b:=fun b hb=>by
  have e:b=(s.heap.push { cls:=.type "range",data:=.fields #[.int lo t,.int hi u,.int c v]}).objs.size:=by simpa using hb
  subst e;exact I1.pD (Γ _) (I1.bD.fresh (Γ _))
 cases hs:dC.Range.small lo hi c with
 |true=>
  refine wpAny_pyIter_range (qF ..) hs ?_;refine⟨(s.heap.push { cls:=.type "range",data:=.fields #[.int lo t,.int hi u,.int c v]}).objs.size,_,_,_,H,rfl,I1.kept (t':=tk) fun b o e=>θ _ e,we _ lo c (i4 lo hi c),?_,fp,q⟩;show mn _ _ (lo+((0:Nat):Int)*c) ((((i4 lo hi c):Nat):Int)-((0:Nat):Int)) c;rw[e1,e2];exact Ξ _ rfl
 |false=>
  refine wpAny_pyIter_longrange (qF ..) hs ?_;refine⟨(s.heap.push { cls:=.type "range",data:=.fields #[.int lo t,.int hi u,.int c v]}).objs.size,_,_,_,H,rfl,I1.kept (t':=tk) fun b o e=>θ _ e,zm _ lo c (i4 lo hi c),?_,fp,q⟩;show IsLongIter _ _ (lo+((0:Nat):Int)*c) ((((i4 lo hi c):Nat):Int)-((0:Nat):Int)) c;rw[e1,e2];exact Ξ _ rfl
def E6(ta:TA):TI:=fun σ H R=>ta σ H fun vs H1=>∃i j c:Int,vs=[.int i,.int j,.int c]/\(c≠0/\c.natAbs<1073741824)/\R (wc i c (i4 i j c)) H1
theorem yh{a b d:ν}{ta:TA}{p pos:aE}(hg:Gl X "range")(hm:X.mg "range" = none)(ha:PA X [a,b,d] ta)(hs:ba [a,b,d] X.env=[(false,eval a X.env),(false,eval b X.env),(false,eval d X.env)])(hs2:ba [b,d] X.env=[(false,eval b X.env),(false,eval d X.env)]):
  PI X tg (.Call (.Name "range" p) [a,b,d] [] pos) (E6 ta):=by
 intro pins s σ H R I h;refine Call_ (kO I hg hm boot_range (cK (bq (ha pos pins s σ H _ I h) fun us s1 ⟨vs,H1,I1,r1,q1⟩=>?_) (by rw[hs,hs2]) (by rw[hs2];rfl)));obtain⟨i,j,c,e,⟨q1,q2⟩,q⟩:=q1;subst e;cases r1 with
 |cons r rr=>
  cases rr with
  |cons r' rr=>
   cases rr with
   |cons r'' rr=>
    cases rr;obtain⟨t,rfl⟩:=r;obtain⟨t',rfl⟩:=r';obtain⟨t'',rfl⟩:=r'';exact call_range_3 q1 (zQ I1 q) (.inl (PyProof.noPylong_small q2))
end
end L2
namespace L3
open PySem PySem.Spec PyProof.Rows L2
section
variable {X:Cx} {tg:ν} {p pos:aE} {a b d:ν} {ta:cq}
def Mn(ta:cq):jY:=fun τ G R=>ta τ G fun ds G1=>match ds with
 |[.int i,.int j]=>R ⟨lY i 1 (i4 i j 1),fun _=>True⟩ G1
 |_=>False
def vD(ta:cq):jY:=fun τ G R=>ta τ G fun ds G1=>match ds with
 |[.int i,.int j,.int c]=>(c≠0/\c.natAbs<1073741824)/\R ⟨lY i c (i4 i j c),fun _=>True⟩ G1
 |_=>False
theorem E3(hm:X.mg "range" = none)(ha:hZ X [a,b,d] ta)(hg:Gl X "range":=by rfl)(hs:notStar a=true:=by rfl)(hs2:notStar b=true:=by rfl)(hs3:notStar d=true:=by rfl):sh X tg (.Call (.Name "range" p) [a,b,d] [] pos) (vD ta):=
 uh (yh hg hm ha (by rw[bt hs,bt hs2,bt hs3];rfl) (by rw[bt hs2,bt hs3];rfl)) fun σ H R ⟨τ,G,R3,RS,RG,h,k⟩=>⟨τ,G,_,RS,RG,h,fun vs H1 ds G1 h1 S1 R1 q1=>by
  rcases ds with _|⟨d,_|⟨d2,_|⟨d3,_|⟨d4,ds⟩⟩⟩⟩
  ·exact q1.elim
  ·cases d<;>exact q1.elim
  ·cases d<;>(try exact q1.elim)<;>cases d2<;>exact q1.elim
  ·cases d with
   |int i=>
    cases d2 with
    |int j=>
     cases d3 with
     |int c=>
      obtain⟨v,r,rfl,z1,z2⟩:=h1.inv;obtain⟨v2,r2,rfl,z3,z4⟩:=z2.inv;obtain⟨v3,r3,rfl,z5,z6⟩:=z4.inv;cases z6.gC;unfold Hv at z1 z3 z5;exact⟨i,j,c,by rw[z1,z3,z5],q1.1,k _ _ _ _ (Bt i c _) S1 R1 q1.2⟩
     |_=>exact q1.elim
    |_=>cases d3<;>exact q1.elim
   |_=>cases d2<;>(try exact q1.elim)<;>cases d3<;>exact q1.elim
  ·cases d<;>(try exact q1.elim)<;>cases d2<;>(try exact q1.elim)<;>cases d3<;>exact q1.elim⟩
theorem By(hm:X.mg "range" = none)(ha:QA X [a,b,d] ta)(hg:Gl X "range":=by rfl)(hs:notStar a=true:=by rfl)(hs2:notStar b=true:=by rfl)(hs3:notStar d=true:=by rfl):QI X tg (.Call (.Name "range" p) [a,b,d] [] pos) (vD ta):=⟨E3 hm ha.of hg hs hs2 hs3⟩
end
end L3
namespace L3
open PySem PySem.Spec PyProof.Rows L2
theorem g7{us:List δ}(h:us.length=1):∃a,us=[a]:=List.length_eq_one_iff.mp h
theorem vp{us:List δ}(h:us.length=2):∃a b,us=[a,b]:=by
 rcases us with _|⟨a,us⟩
 ·cases h
 ·obtain⟨b,rfl⟩:=g7 (us:=us) (Nat.succ.inj h);exact⟨a,b,rfl⟩
theorem LM{us:List δ}(h:us.length=3):∃a b c,us=[a,b,c]:=by
 rcases us with _|⟨a,us⟩
 ·cases h
 ·obtain⟨b,c,rfl⟩:=vp (us:=us) (Nat.succ.inj h);exact⟨a,b,c,rfl⟩
end L3
namespace My
open PySem L2 L3 Tx
def oR:fz:=fun ds G Q=>∃n:Nat,ds=[.str (jx n)]/\n≤12/\∀G',Sub G G'->Q (.int n) G'
def Bl:aN:=cO (aX eX (ω 1) (eC (.int 0)))
def Bm:aN:=bI (iS (mJ (bL (aX (fX false) (ω 1) (iC (ab)))) (bL (aX Bx (aX eX (ω 1) (eC (.int 0))) (eC (.int 12))))) (mv) (dX)) Bl
def zx:aN:=bI (cI (bM pV (υ (eC (.str "clocks")) (υ (eC (.int 1)) (υ (ω 0) (ab))))) (hName 1)) Bm
theorem FT:∀ds G Q,oR ds G Q->zx (bG Q) (bB ["row","numbers"] ds) G:=by
 rintro ds G Q ⟨n,rfl,hn,q⟩;have hl:=nh (n:=n) (by lia);refine⟨"clocks",jx n,1,rfl,by lia,fun p1 G1 n1=>?_⟩;rw[EF (by lia)] at n1;have e1:G1 p1=some (.lst [D.int (n:Int)]):=n1.at_;intro p2 G2 n2;have e2:=n2.sub _ _ e1;refine⟨_,_,lG e2 (xs:=[.int (n:Int)]) rfl,lG n2.at_ (xs:=[]) rfl,by show max 0 0+1≤50;decide,nofun,fun _=>?_⟩;refine⟨_,.int (n:Int),e2,rfl,fun g=>?_,fun _=>?_⟩
 ·have g':(n:Int) > 12:=of_decide_eq_true g;lia
 ·exact⟨_,.int (n:Int),e2,rfl,aZ (q _ (n1.sub.trans n2.sub))⟩
structure tX(cs:List bw):Prop where
 ok:i7 1000 cs
 len:cs.length≤12
 rise:jE cs
theorem AN{c:bw}(hv:Valid c)(h:c.1≤1000):g9 (cD c)=true:=by
 obtain⟨h1,h2,h3⟩:=hv;show ((decide (1≤c.1)&&decide (c.1≤1000))&&(decide (0≤c.2)&&decide (c.2<c.1)))=true;rw[decide_eq_true (show 1≤c.1 by lia),decide_eq_true h,decide_eq_true h2,decide_eq_true h3];rfl
theorem yq{a b:bw}(h:Iy a b):Aw (a,b)=true:=by
 obtain⟨s,r⟩:=a;obtain⟨s',r'⟩:=b;show (if s=s' then (if r=r' then false else decide (r<r')) else decide (s<s'))=true;rcases h with h|⟨h1,h2⟩
 ·have h:s<s':=h;rw[if_neg (by lia),decide_eq_true h]
 ·have h1:s=s':=h1;have h2:r<r':=h2;rw[if_pos h1,if_neg (by lia),decide_eq_true h2]
theorem tR:∀{cs:List bw},jE cs->v5 cs=true
 |[],_=>rfl
 |[c],_=>rfl
 |a::b::cs,h=>by
  show (Aw (a,b)&&v5 (b::cs))=true;have h':=pO.mp h;rw[yq (h'.1 b Ψ),tR (cs:=b::cs) h'.2];rfl
theorem yW{cs:List bw}(ok:i7 1000 cs)(hl:cs.length≤12)(hr:jE cs):sd (fy cs)=true:=by
 show (decide ((cs.map cD).length≤12)&&((cs.map cD).all g9&&v5 ((cs.map cD).map um)))=true;rw[tI,tR hr,ξ,decide_eq_true hl,lu];have:cs.all (g9 ∘ cD)=true:=cP.mpr fun c hc=>AN (ok c hc).1 (ok c hc).2;rw[this];rfl
def rp:fz:=fun ds G Q=>∃cs:List bw,ds=[.str (txt cs)]/\tX cs/\∀G',Sub G G'->Q (fy cs) G'
def wH:aN:=iS (mJ (bL (aX (fX false) (ω 4) (ω 2))) (g8 (bL (bM rq (υ (ω 3) (ab)))))) (mv) (dX)
def DK:aN:=bI (cI (aX e7 (ω 3) (iB (υ (cx jy (υ (bM pV (υ (eC (.str "clock")) (υ (eC (.int 2)) (υ (ω 5) (ab))))) (ab))) (ab)))) (hName 3)) wH
def A7:aN:=cO (ω 3)
def A8:aN:=bI (iS (bL (aX lJ (cx gS (υ (ω 3) (ab))) (ω 2))) (mv) (dX)) A7
def DL:aN:=bI (oX (yx (υ (nX (ω 1) (gX (eC (.int 1))) (iU)) (ab))) (qU 2 (ik (hName 4) (ik (hName 5) (qV)))) (DK)) A8
def DM:aN:=bI (cI (iB (ab)) (hName 3)) DL
def DN:aN:=bI (cI (bM oR (υ (aX eX (ω 1) (eC (.int 0))) (ab))) (hName 2)) DM
def DO:aN:=bI (cI (vK nq (ω 0) (υ (eC (.str "\n")) (ab))) (hName 1)) DN
def CG:aN:=bI (iS (g8 (bL (jK "str" (ω 0)))) (mv) (dX)) DO
theorem BS{G:Gp}(cs:List bw):jq G (fy cs):=jq.tup fun d hd=>by
 obtain⟨c,_,rfl⟩:=aB.mp hd;refine jq.tup fun z hz=>?_;simp only[aa,aT,or_false] at hz;rcases hz with rfl|rfl<;>exact jq.int _
theorem Jt:∀ds G Q,rp ds G Q->CG (bG Q) (bB ["text","rows","many","clocks","ahead","row"] ds) G:=by
 rintro ds G Q ⟨cs,rfl,h,q⟩;have hl:=h.len;have ht:=DH h.ok hl;refine⟨nofun,fun _=>⟨⟨_,rfl⟩,by decide,fe (by lia),fun p1 G1 n1=>?_⟩⟩;have n1':dv G p1 (.lst ((e6 cs).map D.str)) G1:=by
  rw[←zG];exact n1
 refine⟨_,.str (jx cs.length),n1'.at_,qm (j:=0) rfl,cs.length,rfl,hl,fun G2 s2=>?_⟩;have e2:=s2 _ _ n1'.at_;refine⟨_,e2,fun p3 G3 n3=>?_⟩;have n3':dv G2 p3 (.lst ((cs.map gz).map D.str)) G3:=by
  have e:fu ((e6 cs).map D.str) (some ((1:Nat):Int)) none=(cs.map gz).map D.str:=yL (e6 cs);rw[←e];exact n3
 refine⟨_,n3'.at_,?_⟩;have hs3:=(n1'.sub.trans s2).trans n3'.sub;have ee:qg ((cs.map gz).map D.str)=((aq cs.length).zip cs).map fun p=>D.tup [nD p.1,D.str (gz p.2)]:=by
  rw[dg,Ig (D.str ∘ gz) cs];rfl
 rw[ee];refine iz (fun ds τ G'=>∃(k:Nat) (x4 x5:Option D),k≤cs.length/\ds=(((aq cs.length).zip cs).drop k).map (fun p=>D.tup [nD p.1,D.str (gz p.2)])/\τ=[some (.str (txt cs)),some (.obj p1),some (.int (cs.length:Nat)),some (fy (cs.take k)),x4,x5]/\Sub G3 G') (fun _ _ _ h=>?_) ?_ ?_ _ _ _ ⟨0,none,none,aQ _,by rw[List.drop_zero],rfl,Sub.refl _⟩
 ·obtain⟨_,_,_,_,_,_,s⟩:=h;exact s _ _ n3'.at_
 ·rintro d ds τ G' N ⟨k,x4,x5,hk,e,rfl,s⟩ hN;have hzl:((aq cs.length).zip cs).length=cs.length:=by rw[lS,hV,jg]
  have hkb:k<cs.length:=by
   refine Nat.lt_of_le_of_ne hk fun z=>?_;rw[z,fw (by rw[hzl];exact Γ _)] at e;cases e
  have ed:((aq cs.length).zip cs).drop k=(k,cs[k])::((aq cs.length).zip cs).drop (k+1):=by
   rw[eu (by rw[hzl];exact hkb),List.getElem_zip,List.getElem_range]
  rw[ed] at e;cases e;have hc:=h.ok cs[k] (lp hkb);have hrl:=ng hc;refine⟨rfl,"clock",gz cs[k],2,rfl,by lia,fun p4 G4 n4=>?_⟩;rw[EE hc] at n4;refine⟨_,n4.at_,?_,?_⟩
  ·show ((cs.take k).map cD).length+1≤Φ;rw[ξ,bC];exact dQ (by lia)
  have et:D.tup ((cs.take k).map cD++[D.tup [D.int cs[k].1,D.int cs[k].2]])=fy (cs.take (k+1)):=by
   show D.tup _=D.tup _;congr 1;rw[List.take_succ_eq_append_getElem hkb,bW];rfl
  show wH _ [some (D.str (txt cs)),some (D.obj p1),some (D.int (cs.length:Nat)),some (D.tup ((cs.take k).map cD++[D.tup [D.int cs[k].1,D.int cs[k].2]])),some (nD k),some (D.str (gz cs[k]))] G4;rw[et];have hT:tX (cs.take (k+1)):=⟨fun c hc=>h.ok c (df hc),by rw[bC];lia,h.rise.take _⟩;refine⟨_,_,rfl,rfl,aQ _,fun g=>?_,fun g=>?_⟩
  ·have g':(((k:Nat):Int)==((cs.length:Nat):Int))=true:=g;rw[beq_iff_eq] at g';lia
  ·refine⟨_,rfl,BS _,?_⟩;rw[yW hT.ok hT.len hT.rise];exact⟨nofun,fun _=>hN _ _ ⟨k+1,_,_,hkb,rfl,rfl,s.trans n4.sub⟩⟩
 ·rintro τ G' ⟨k,x4,x5,hk,e,rfl,s⟩;have hzl:((aq cs.length).zip cs).length=cs.length:=by rw[lS,hV,jg]
  have hkb:k=cs.length:=by
   refine Nat.le_antisymm hk (lh fun z=>?_);rw[eu (by rw[hzl];exact z)] at e;cases e
  subst hkb;rw[ll];refine⟨fun g=>?_,fun _=>aZ (q _ (hs3.trans s))⟩;have g':(((cs.map cD).length:Nat):Int)<((cs.length:Nat):Int):=of_decide_eq_true g;rw[ξ] at g';lia
def oT:fz:=fun ds G Q=>∃cs:List bw,ds=[fy cs]/\tX cs/\∀G',Sub G G'->Q (.bl true) G'
def Bn:aN:=cO (qh (jK "str" (ω 2)) (qh (aX (fX false) (ω 2) (ω 1)) (bM rB (υ (bM rp (υ (ω 1) (ab))) (υ (ω 0) (ab))))))
def Bo:aN:=bI (cI (bM rz (υ (ω 0) (ab))) (hName 2)) Bn
def zy:aN:=bI (cI (bM oP (υ (ω 0) (ab))) (hName 1)) Bo
theorem FU:∀ds G Q,oT ds G Q->zy (bG Q) (bB ["clocks","due","found"] ds) G:=by
 rintro ds G Q ⟨cs,rfl,h,q⟩;refine⟨cs,rfl,h.ok,h.len,fun G1 s1=>⟨cs,rfl,h.ok,h.len,fun G2 s2=>?_⟩⟩;refine⟨fun _=>⟨_,_,rfl,rfl,aQ _,fun _=>⟨cs,rfl,h,fun G3 s3=>⟨cs,rfl,aZ (q _ ((s1.trans s2).trans s3))⟩⟩,fun g=>?_⟩,nofun⟩;have g':(txt cs==txt cs)=false:=g;rw[beq_self_eq_true] at g';cases g'
def jS:fz:=fun ds G Q=>∃ns:List Int,ds=[.eW (ns.map .int)]/\ns.length≤63/\Q (.bl true) G
def Bp:aN:=cI (aX e7 (ω 1) (iC (υ (bM rA (υ (ω 3) (ab))) (υ (bM oO (υ (ω 3) (ab))) (ab))))) (hName 1)
def Bq:aN:=bI (cI (bM uJ (υ (ω 2) (ab))) (hName 3)) Bp
def ux:aN:=cO (cx lI (υ (il ["clocks"] [] (ma (aX e7 (ω 1) (nX (ω 1) (gX (AM rJ (eC (.int 2)))) (iU)))) (hName 0) (cY) (bM oT (υ (ω 0) (ab)))) (ab)))
def Bs:aN:=bI (oX (ma (aX e7 (iC (υ (bM rm (υ (ω 0) (υ (eC (.int 0)) (ab)))) (ab))) (nX (ω 0) (gX (eC (.int 1))) (gX (eC (.int 8)))))) (hName 2) (Bq)) ux
def zB:aN:=bI (cI (iC (υ (iB (ab)) (υ (iB (υ (iB (υ (eC (.int 1)) (υ (eC (.int 0)) (ab)))) (ab))) (υ (cx jy (υ (il ["k"] [] (vD (υ (eC (.int 11)) (υ (AM rJ (eC (.int 1))) (υ (AM rJ (eC (.int 1))) (ab))))) (hName 0) (cY) (iB (υ (eC (.int 1000)) (υ (aX ya (eC (.int 999)) (ω 0)) (ab))))) (ab))) (ab))))) (hName 1)) Bs
def twC:List bw:=(aq 12).map fun k:Nat=>((1000:Int),(988:Int)+(k:Int))
theorem tw_ok:tX twC:=by
 refine⟨fun c hc=>?_,by decide,?_⟩
 ·obtain⟨k,hk,rfl⟩:=aB.mp hc;have:=bJ.mp hk;exact⟨⟨by show (0:Int)<1000;decide,by show (0:Int)≤988+(k:Int);lia,by show (988:Int)+(k:Int)<1000;lia⟩,by show (1000:Int)≤1000;decide⟩
 ·unfold twC jE;rw[dm];refine List.Pairwise.imp ?_ (mm (n:=12));intro a b h;exact .inr ⟨rfl,by show (988:Int)+(a:Int)<988+(b:Int);lia⟩
theorem Kd{Q:V3}{G:Gp}{p:ε}{css:List (List bw)}{x0 x2 x3:Option D}(e:G p=some (.lst (css.map fy)))(hl:css.length≤40)(h:∀cs∈css,tX cs)(q:∀G',Sub G G'->(bG Q).rt (.bl true) G'):ux (bG Q) [x0,some (.obj p),x2,x3] G:=by
 refine⟨_,e,fun p1 G1 n1=>?_⟩;rw[gE] at n1;have hcl:=xo css (some (-2)) none;refine⟨_,_,n1.sub _ _ e,n1.at_,?_,fun p2 G2 n2=>?_⟩
 ·rw[ξ,ξ];exact dQ (by show css.length+(gp css (some (-2)) none).length≤1000;lia)
 have n2':dv G1 p2 (.lst ((css++gp css (some (-2)) none).map fy)) G2:=by
  rw[bW];exact n2
 have hm:∀cs∈css++gp css (some (-2)) none,tX cs:=fun cs hc=>by
  rcases cL.mp hc with z|z
  ·exact h cs z
  ·exact h cs (Cr z)
 have hln:(css++gp css (some (-2)) none).length≤80:=by rw[az];lia
 generalize css++gp css (some (-2)) none=ds at n2' hm hln;refine⟨_,n2'.at_,by rw[ξ];exact dQ (by lia),?_⟩;refine lO (fun es acc τ G'=>∃(dn rs:List (List bw)) (x:Option D),dn++rs=ds/\es=rs.map fy/\acc=dn.map (fun _=>D.bl true)/\Sub G2 G'/\τ=[x]) (fun _ _ _ _ h=>?_) ?_ ?_ _ _ _ _ ⟨[],ds,none,rfl,rfl,rfl,Sub.refl _,rfl⟩
 ·obtain⟨_,_,_,_,_,_,s,_⟩:=h;exact s _ _ n2'.at_
 ·rintro d es acc τ G3 K1 K2 ⟨dn,rs,x,e1,e3,rfl,s1,rfl⟩ g1 g2;cases rs with
  |nil=>cases e3
  |cons w rs=>
   cases e3;refine⟨fun _=>⟨w,rfl,hm w (by rw[←e1];exact aC _ Ψ),fun G4 s4=>?_⟩,nofun⟩;exact g1 _ _ _ ⟨dn++[w],rs,_,by rw[fG];exact e1,rfl,by rw[bW];rfl,s1.trans s4,rfl⟩
 ·rintro acc τ G3 ⟨dn,rs,x,e1,e3,rfl,s1,rfl⟩;intro p4 G4 n4;refine⟨_,_,n4.at_,kB (fun _=>true) _,?_⟩;have ea:(dn.map fun _=>true).all id=true:=by simp
  rw[ea];exact q _ (((n1.sub.trans n2'.sub).trans s1).trans n4.sub)
theorem FW:∀ds G Q,jS ds G Q->zB (bG Q) (bB ["script","some","cell","pen"] ds) G:=by
 rintro ds G Q ⟨ns,rfl,hl,q⟩;refine⟨⟨by decide,by decide⟩,?_,?_⟩
 ·show (lY 11 (-1) (i4 11 (-1) (-1))).length≤Φ;decide
 have er:lY 11 (-1) (i4 11 (-1) (-1))=(aq 12).map fun k:Nat=>D.int (11-(k:Int)):=by rfl
 show fM _ _ _ _ _ (lY 11 (-1) (i4 11 (-1) (-1))) _ _ _;rw[er];refine fg (fun τ=>∃x,τ=[x]) (fun k:Nat=>D.int (11-(k:Int))) (fun _=>true) (fun k:Nat=>cD ((1000:Int),(988:Int)+(k:Int))) (G:=G) trivial (aq 12) [] _ ⟨none,rfl⟩ ?_ ?_
 ·rintro k hm τ K1 K2 ⟨_,rfl⟩ g1 g2;refine⟨fun _=>?_,nofun⟩;have e:(999:Int)-(11-(k:Int))=988+(k:Int):=by lia
  show K2 _ (D.tup [D.int 1000,D.int ((999:Int)-(11-(k:Int)))]) G;rw[e];exact g1 rfl _ ⟨_,rfl⟩
 ·intro p0 G0 n0;rw[filter_all,de] at n0;refine⟨_,n0.at_,fun p1 G1 n1=>?_⟩;have e1:dv G0 p1 (.lst (([[],[(1,0)],twC]:List (List bw)).map fy)) G1:=by
   have:fy twC=.tup ((aq 12).map fun k:Nat=>cD ((1000:Int),(988:Int)+(k:Int))):=by
    unfold twC fy;rw[dg];rfl
   show dv G0 p1 (.lst [fy [],fy [(1,0)],fy twC]) G1;rw[this];exact n1
  have h3:∀cs∈([[],[(1,0)],twC]:List (List bw)),tX cs:=fun cs hc=>by
   simp only[aa,aT,or_false] at hc;rcases hc with rfl|rfl|rfl
   ·exact⟨nofun,by decide,kl⟩
   ·refine⟨fun c hc=>?_,by decide,lB _ _⟩;rw[j3.mp hc];exact⟨⟨by decide,by decide,by decide⟩,by decide⟩
   ·exact tw_ok
  refine⟨ns,0,rfl,fun i=>?_⟩;intro q0 G2 n2 q1 G3 n3;rw[gE] at n3;have hcl:=xo ns (some 1) (some 8);have hc8:(gp ns (some 1) (some 8)).length≤7:=by
   unfold gp;rw[show (some 1:Option Int)=some ((1:Nat):Int) from rfl,show (some 8:Option Int)=some ((8:Nat):Int) from rfl,HT.pW,HT.pW,bC];lia
  refine⟨_,_,n3.sub _ _ n2.at_,n3.at_,?_,fun q2 G4 n4=>?_⟩
  ·rw[ξ];exact dQ (by simp;lia)
  have s4:=(n2.sub.trans n3.sub).trans n4.sub;refine⟨_,n4.at_,?_⟩;refine iz (fun ds τ G'=>∃(is:List Int) (p:ε) (css:List (List bw)) (x2 x3:Option D),ds=is.map D.int/\css.length+2*is.length≤40/\(∀cs∈css,tX cs)/\τ=[some (.eW (ns.map .int)),some (.obj p),x2,x3]/\dv G p (.lst (css.map fy)) G'/\Sub G4 G') (fun _ _ _ h=>?_) ?_ ?_ _ _ _ ⟨i::gp ns (some 1) (some 8),p1,_,none,none,rfl,?_,h3,rfl,?_,Sub.refl _⟩
  ·obtain⟨_,_,_,_,_,_,_,_,_,_,s⟩:=h;exact s _ _ n4.at_
  ·rintro d ds τ G5 N ⟨is,p,css,x2,x3,e,hn,hc,rfl,m,s⟩ hN;cases is with
   |nil=>cases e
   |cons cc is=>
    cases e;refine⟨cc,rfl,fun pp G6 n6=>?_⟩;refine⟨pp,rfl,n6.at_,fun cs ok hl hr=>⟨pp,rfl,n6.at_,fun cs2 ok2 h2 h4 hr2=>?_⟩⟩;intro p7 G7 n7;have m7:dv G p (.lst (css.map fy)) G7:=⟨m.ao,(m.sub.trans n6.sub).trans n7.sub,n7.sub _ _ (n6.sub _ _ m.at_)⟩;refine⟨_,_,m7.at_,n7.at_,?_,fun p8 G8 n8=>?_⟩
    ·rw[ξ];exact dQ (by show css.length+2≤1000;simp only[aj] at hn;lia)
    refine hN _ _ ⟨is,p8,css++[cs,cs2],_,_,rfl,?_,fun z hz=>?_,rfl,⟨m7.sub.of_none n8.ao,m7.sub.trans n8.sub,?_⟩,((s.trans n6.sub).trans n7.sub).trans n8.sub⟩
    ·rw[az];simp only[aj,gw] at hn ⊢;lia
    ·rcases cL.mp hz with z1|z1
     ·exact hc z z1
     ·simp only[aa,aT,or_false] at z1;rcases z1 with rfl|rfl
      ·exact⟨fun c hc=>⟨(ok c hc).1,by have:=(ok c hc).2;lia⟩,hl,hr⟩
      ·exact⟨fun c hc=>⟨(ok2 c hc).1,by have:=(ok2 c hc).2;lia⟩,by lia,hr2⟩
    ·rw[n8.at_,bW];rfl
  ·rintro τ G5 ⟨is,p,css,x2,x3,e,hn,hc,rfl,m,s⟩;exact Kd m.at_ (by lia) hc fun G' s'=>mw (m.sub.trans s') q
  ·simp only[aj,gw];lia
  ·exact⟨n0.sub.of_none e1.ao,(n0.sub.trans e1.sub).trans s4,s4 _ _ e1.at_⟩
end My
namespace My
open PySem L2 L3
def top(i:Nat):aU:=PySem.Challenge.pw_coverclocks_k70_clocks_written_and_read.main.body.getD i (.Pass ⟨0,0,0,0⟩)
abbrev xN:aU:=top 4
abbrev JU:List π:=["thing"]
theorem Jg:bR JU ["thing"] (ax xN):=⟨rfl,rfl,rfl,by decide +kernel,rfl,by decide +kernel,by decide +kernel⟩
abbrev xM:aU:=top 8
abbrev JT:List π:=["thing"]
theorem Jf:bR JT ["thing"] (ax xM):=⟨rfl,rfl,rfl,by decide +kernel,rfl,by decide +kernel,by decide +kernel⟩
abbrev rh:aU:=top 9
abbrev ym:List π:=["thing"]
theorem Ji:bR ym ["thing"] (ax rh):=⟨rfl,rfl,rfl,by decide +kernel,rfl,by decide +kernel,by decide +kernel⟩
abbrev ue:aU:=top 13
abbrev Df:List π:=["clocks","many"]
theorem CQ:bR Df ["clocks"] (ax ue):=⟨rfl,rfl,rfl,by decide +kernel,rfl,by decide +kernel,by decide +kernel⟩
abbrev xP:aU:=top 14
abbrev JW:List π:=["text","rows","many","clocks","ahead","row"]
theorem m9:bR JW ["text"] (ax xP):=⟨rfl,rfl,rfl,by decide +kernel,rfl,by decide +kernel,by decide +kernel⟩
abbrev uE:aU:=top 15
abbrev Hf:List π:=["row","numbers"]
theorem zM:bR Hf ["row"] (ax uE):=⟨rfl,rfl,rfl,by decide +kernel,rfl,by decide +kernel,by decide +kernel⟩
abbrev rk:aU:=top 16
abbrev yn:List π:=["name","many","row","words"]
theorem CS:bR yn ["name","many","row"] (ax rk):=⟨rfl,rfl,rfl,by decide +kernel,rfl,by decide +kernel,by decide +kernel⟩
abbrev ud:aU:=top 17
abbrev De:List π:=["word"]
theorem Jj:bR De ["word"] (ax ud):=⟨rfl,rfl,rfl,by decide +kernel,rfl,by decide +kernel,by decide +kernel⟩
abbrev xO:aU:=top 19
abbrev JV:List π:=["script","k"]
theorem Jh:bR JV ["script","k"] (ax xO):=⟨rfl,rfl,rfl,by decide +kernel,rfl,by decide +kernel,by decide +kernel⟩
abbrev uC:aU:=top 20
abbrev Hd:List π:=["seed"]
theorem zL:bR Hd ["seed"] (ax uC):=⟨rfl,rfl,rfl,by decide +kernel,rfl,by decide +kernel,by decide +kernel⟩
abbrev uH:aU:=top 21
abbrev Hi:List π:=["cell","left"]
theorem zN:bR Hi ["cell"] (ax uH):=⟨rfl,rfl,rfl,by decide +kernel,rfl,by decide +kernel,by decide +kernel⟩
abbrev uB:aU:=top 22
abbrev Hc:List π:=["pen","many","found"]
theorem zK:bR Hc ["pen","many"] (ax uB):=⟨rfl,rfl,rfl,by decide +kernel,rfl,by decide +kernel,by decide +kernel⟩
abbrev uG:aU:=top 23
abbrev Hh:List π:=["found"]
theorem FH:bR Hh ["found"] (ax uG):=⟨rfl,rfl,rfl,by decide +kernel,rfl,by decide +kernel,by decide +kernel⟩
abbrev rj:aU:=top 24
abbrev Ao:List π:=["pen","times","found","turn","spot","k","step","rest"]
theorem jT:bR Ao ["pen","times"] (ax rj):=⟨rfl,rfl,rfl,by decide +kernel,rfl,by decide +kernel,by decide +kernel⟩
abbrev xQ:aU:=top 25
abbrev JX:List π:=["pen","way","found","steps","turn","step"]
theorem nc:bR JX ["pen"] (ax xQ):=⟨rfl,rfl,rfl,by decide +kernel,rfl,by decide +kernel,by decide +kernel⟩
abbrev xR:aU:=top 26
abbrev JY:List π:=["found","due","clock"]
theorem CT:bR JY ["found","due"] (ax xR):=⟨rfl,rfl,rfl,by decide +kernel,rfl,by decide +kernel,by decide +kernel⟩
abbrev uA:aU:=top 27
abbrev G9:List π:=["pen","some"]
theorem zJ:bR G9 ["pen"] (ax uA):=⟨rfl,rfl,rfl,by decide +kernel,rfl,by decide +kernel,by decide +kernel⟩
abbrev uD:aU:=top 28
abbrev He:List π:=["clocks","rows","step","rest"]
theorem rE:bR He ["clocks"] (ax uD):=⟨rfl,rfl,rfl,by decide +kernel,rfl,by decide +kernel,by decide +kernel⟩
abbrev uF:aU:=top 29
abbrev Hg:List π:=["clocks","due","found"]
theorem uN:bR Hg ["clocks"] (ax uF):=⟨rfl,rfl,rfl,by decide +kernel,rfl,by decide +kernel,by decide +kernel⟩
abbrev oN:aU:=top 30
abbrev vg:List π:=["script","some","cell","pen"]
theorem oW:bR vg ["script"] (ax oN):=⟨rfl,rfl,rfl,by decide +kernel,rfl,by decide +kernel,by decide +kernel⟩
set_option genInjectivity false in
structure DF where
 B2:ε
 Cg:aM
 B1:ε
 Cf:aM
 B5:ε
 Ck:aM
 B7:ε
 Cn:aM
 B4:ε
 Cj:aM
 yE:ε
 yR:aM
 B9:ε
 Cp:aM
 B6:ε
 Cm:aM
 B3:ε
 Ci:aM
 yB:ε
 yO:aM
 yH:ε
 yU:aM
 yA:ε
 yN:aM
 yG:ε
 yT:aM
 yD:ε
 yQ:aM
 B8:ε
 Co:aM
 Ca:ε
 Cq:aM
 yz:ε
 yM:aM
 yC:ε
 yP:aM
 yF:ε
 yS:aM
 yI:ε
 r9:aM
 zC:gv
 t5:gv
 sD:gv
 wg:gv
structure Txt(K:ζ)(mg:π->Option δ)(t:DF):Prop where
 CA:fA K "whole_good" "whole_good" xN t.B2 t.Cg
 Hl:mg "whole_good" = some (.ref t.B2)
 IA:Binds K t.Cg ["thing"] []
 IP:fA K "clock_good" "clock_good" xM t.B1 t.Cf
 LC:mg "clock_good" = some (.ref t.B1)
 L7:Binds K t.Cf ["thing"] []
 IT:fA K "clocks_good" "clocks_good" rh t.B5 t.Ck
 LG:mg "clocks_good" = some (.ref t.B5)
 Ma:Binds K t.Ck ["thing"] []
 IV:fA K "clocks_shown" "clocks_shown" ue t.B7 t.Cn
 LI:mg "clocks_shown" = some (.ref t.B7)
 Mc:Binds K t.Cn ["clocks"] []
 IS:fA K "clocks_read" "clocks_read" xP t.B4 t.Cj
 LF:mg "clocks_read" = some (.ref t.B4)
 L9:Binds K t.Cj ["text"] []
 DC:fA K "many_read" "many_read" uE t.yE t.yR
 J5:mg "many_read" = some (.ref t.yE)
 KS:Binds K t.yR ["row"] []
 CB:fA K "numbers_behind" "numbers_behind" rk t.B9 t.Cp
 Hm:mg "numbers_behind" = some (.ref t.B9)
 IB:Binds K t.Cp ["name","many","row"] []
 IU:fA K "figures_good" "figures_good" ud t.B6 t.Cm
 LH:mg "figures_good" = some (.ref t.B6)
 Mb:Binds K t.Cm ["word"] []
 IQ:fA K "_law_cell_at" "_law_cell_at" xO t.B3 t.Ci
 LD:mg "_law_cell_at" = some (.ref t.B3)
 L8:Binds K t.Ci ["script","k"] []
 za:fA K "_law_next" "_law_next" uC t.yB t.yO
 Dg:mg "_law_next" = some (.ref t.yB)
 Ds:Binds K t.yO ["seed"] []
 DE:fA K "_law_pen_of" "_law_pen_of" uH t.yH t.yU
 J7:mg "_law_pen_of" = some (.ref t.yH)
 KW:Binds K t.yU ["cell"] []
 ip:fA K "_law_draw" "_law_draw" uB t.yA t.yN
 iY:mg "_law_draw" = some (.ref t.yA)
 i5:Binds K t.yN ["pen","many"] []
 zb:fA K "_law_whole" "_law_whole" uG t.yG t.yT
 Dh:mg "_law_whole" = some (.ref t.yG)
 Dt:Binds K t.yT ["found"] []
 DB:fA K "_law_split" "_law_split" rj t.yD t.yQ
 J4:mg "_law_split" = some (.ref t.yD)
 KR:Binds K t.yQ ["pen","times"] []
 IW:fA K "_law_clocks_of" "_law_clocks_of" xQ t.B8 t.Co
 LJ:mg "_law_clocks_of" = some (.ref t.B8)
 Md:Binds K t.Co ["pen"] []
 IX:fA K "_law_clocks_are" "_law_clocks_are" xR t.Ca t.Cq
 LK:mg "_law_clocks_are" = some (.ref t.Ca)
 Me:Binds K t.Cq ["found","due"] []
 Dz:fA K "_law_wide" "_law_wide" uA t.yz t.yM
 J0:mg "_law_wide" = some (.ref t.yz)
 KP:Binds K t.yM ["pen"] []
 DA:fA K "_law_text" "_law_text" uD t.yC t.yP
 J3:mg "_law_text" = some (.ref t.yC)
 KQ:Binds K t.yP ["clocks"] []
 DD:fA K "_law_right" "_law_right" uF t.yF t.yS
 J6:mg "_law_right" = some (.ref t.yF)
 KU:Binds K t.yS ["clocks"] []
 KZ:fA K "law" "law" oN t.yI t.r9
 Ka:mg "law" = some (.ref t.yI)
 MC:Binds K t.r9 ["script"] []
 As:mg "FIGURES" = some (.str "0123456789" t.zC)
 nV:mg "MOST_CLOCKS" = some (.int 12 t.t5)
 sM:mg "MOST_FIGURES" = some (.int 60 t.sD)
 wy:mg "MOST_STEP" = some (.int 1000 t.wg)
 rQ:mg "all" = none
 Ar:mg "bool" = none
 wx:mg "enumerate" = none
 ui:mg "int" = none
 cM:mg "isinstance" = none
 iZ:mg "len" = none
 J9:mg "max" = none
 qc:mg "range" = none
 J8:mg "set" = none
 vj:mg "sorted" = none
 rP:mg "str" = none
 iI:mg "tuple" = none
 JZ:mg "zip" = none
section
variable {P:ah} {w:ar} {K:ζ} {mg:π->Option δ} {base:ae} {t:DF}
theorem Hx:∀ds G Q,m6 ds G Q->ds.length=1:=by
 intro ds G Q h
 first
  | (rcases ds with _|⟨_,_|⟨_,_|⟨_,_|⟨_,_⟩⟩⟩⟩<;>first|rfl|exact h.elim)
  | (obtain⟨rfl,_⟩:=h;rfl)
  | (obtain⟨_,rfl,_⟩:=h;rfl)
  | (obtain⟨_,_,rfl,_⟩:=h;rfl)
  | (obtain⟨_,_,_,rfl,_⟩:=h;rfl)
  | (obtain⟨_,_,_,_,rfl,_⟩:=h;rfl)
  | (obtain⟨_,_,_,_,_,rfl,_⟩:=h;rfl)
  | (obtain⟨_,_,_,_,_,_,rfl,_⟩:=h;rfl)
  | (obtain⟨_,_,_,_,_,_,_,rfl,_⟩:=h;rfl)
  | (obtain⟨_,_,_,_,_,_,_,_,rfl,_⟩:=h;rfl)
theorem Dc(T:Txt K mg t):cV P w K mg base 1 t.B2 t.Cg ["thing"] m6:=by
 refine fJ (k:=0) (sp:=m6) T.CA Jg (by decide) Hx xI (fun cdv A outer s H E hr=>?_) Jr;refine aW (bP ?_);refine pb (gj xi rfl (ο (pv 0)) T.cM T.ui rfl (by decide) (by decide)) ?_;refine o8 (uZ (gj vz rfl (ο (pv 0)) T.cM T.Ar rfl (by decide) (by decide)))
theorem Hw:∀ds G Q,rl ds G Q->ds.length=1:=by
 intro ds G Q h;obtain⟨_,rfl,_⟩:=h;rfl
theorem JL(T:Txt K mg t):cV P w K mg base 2 t.B1 t.Cf ["thing"] rl:=by
 refine fJ (k:=1) (sp:=rl) T.IP Jf (by decide) Hw xH (fun cdv A outer s H E hr=>?_) Jq;refine aD (e8 (iT ?_) (aW (bP lL)) dH) ?_;refine gA (dN (eG (gj kit_tuple rfl (ο (pv 0)) T.cM T.iI rfl (by decide) (by decide)))) ?_;refine gT (di vq (pe hr.units) (gi hr.units T.iZ (ι (ο (pv 0)) ψ)) Θ (cS _));refine aD (e8 (iT ?_) (aW (bP lL)) dH) (aW (bP ?_));refine gA (dN ?_) (gT (dN ?_));refine eG (bf ((Dc T).mono (by decide)) hr T.Hl T.CA.kp T.IA (ι (dY (ο (pv 0)) Θ) ψ));refine eG (bf ((Dc T).mono (by decide)) hr T.Hl T.CA.kp T.IA (ι (dY (ο (pv 0)) Θ) ψ));refine pb (vb vw vw rN rN Θ (dY (ο (pv 0)) Θ) (p9 T.wy)) ?_;refine o8 (vb vw ny rN (kL hr.kF) Θ (dY (ο (pv 0)) Θ) (dY (ο (pv 0)) Θ))
theorem HA:∀ds G Q,rq ds G Q->ds.length=1:=by
 intro ds G Q h;obtain⟨_,rfl,_⟩:=h;rfl
theorem JO(T:Txt K mg t):cV P w K mg base 3 t.B5 t.Ck ["thing"] rq:=by
 refine fJ (k:=2) (sp:=rq) T.IT Ji (by decide) HA xJ (fun cdv A outer s H E hr=>?_) Ju;refine aD (e8 (iT ?_) (aW (bP lL)) dH) ?_;refine gA (dN (eG (gj kit_tuple rfl (ο (pv 0)) T.cM T.iI rfl (by decide) (by decide)))) ?_;refine gT (di HK C8 (gi hr.units T.iZ (ι (ο (pv 0)) ψ)) (p9 T.nV) (cS _));refine aD ?_ (aW (bP (mB hr.units T.rQ (ι ?_ ψ))));refine e8 (dN (eG (mB hr.units T.rQ (ι ?_ ψ)))) (aW (bP lL)) dH;refine gV rfl (show dF ym (ax rh) _ ["clock"] [] from⟨rfl,by decide +kernel,by decide +kernel,by decide +kernel,by decide +kernel,by decide +kernel⟩) ?_ ?_;refine jU (ο (pv 0));intro s0 H0 fp0;refine⟨(cp (i:=0) (show (["clock"]:List π).Nodup by decide +kernel)),gW,?_⟩;refine bf ((JL T).mono (by decide)) hr T.LC T.IP.kp T.L7 (ι (ο (pv 0)) ψ);refine gV rfl (show dF ym (ax rh) _ ["ahead","clock"] [] from⟨rfl,by decide +kernel,by decide +kernel,by decide +kernel,by decide +kernel,by decide +kernel⟩) ?_ ?_;refine Gh T.JZ (ι (ο (pv 0)) (ι (jI (ο (pv 0)) (fI Θ) gU) ψ));intro s0 H0 fp0;refine⟨(o7 rfl ?_),gW,(o9 ny (kL hr.kF) (ο (pv 0)) (ο (pv 1)) (cS _))⟩;refine fq (cp (i:=0) (show (["ahead","clock"]:List π).Nodup by decide +kernel)) ?_;refine fq (cp (i:=1) (show (["ahead","clock"]:List π).Nodup by decide +kernel)) mz
theorem HC:∀ds G Q,rz ds G Q->ds.length=1:=by
 intro ds G Q h;obtain⟨_,rfl,_⟩:=h;rfl
theorem JQ(T:Txt K mg t):cV P w K mg base 1 t.B7 t.Cn ["clocks"] rz:=by
 refine fJ (k:=0) (sp:=rz) T.IV CQ (by decide) HC CI (fun cdv A outer s H E hr=>?_) Jw;refine aD (ck (i:=1) CQ.nd (gi hr.units T.iZ (ι (ο (pv 0)) ψ))) (aW (bP ?_));refine mC xg mT mS xb fb (ι ?_ ψ);refine bU fB dj (fL (ι (zZ (jz fb (jz (u9 (ο (pv 1))) wV))) ψ)) ?_;refine gV rfl (show dF Df (ax ue) _ ["step","rest"] [] from⟨rfl,by decide +kernel,by decide +kernel,by decide +kernel,by decide +kernel,by decide +kernel⟩) ?_ ?_;refine jU (ο (pv 0));intro s0 H0 fp0;refine⟨(o7 rfl ?_),gW,(zZ (jz fb (jz (u9 (ο (pv 0))) (jz fb (jz (u9 (ο (pv 1))) wV)))))⟩;refine fq (cp (i:=0) (show (["step","rest"]:List π).Nodup by decide +kernel)) ?_;refine fq (cp (i:=1) (show (["step","rest"]:List π).Nodup by decide +kernel)) mz
theorem HB:∀ds G Q,pU ds G Q->ds.length=1:=by
 intro ds G Q h;obtain⟨_,rfl,_⟩:=h;rfl
theorem JP(T:Txt K mg t):cV P w K mg base 1 t.B6 t.Cm ["word"] pU:=by
 refine fJ (k:=0) (sp:=pU) T.IU Jj (by decide) HB CH (fun cdv A outer s H E hr=>?_) Jv;refine aD (e8 (iT ?_) (aW (bP lL)) dH) (aW ?_);refine gA (dN (zX vw vw rN rN Θ (Bz hr.units T.iZ (ι (ο (pv 0)) ψ)) (p9 T.sM))) ?_;refine gT (dN (eG (mB hr.units T.rQ (ι ?_ ψ))));refine gV rfl (show dF De (ax ud) _ ["sign"] [] from⟨rfl,by decide +kernel,by decide +kernel,by decide +kernel,by decide +kernel,by decide +kernel⟩) ?_ ?_;refine Gi (ο (pv 0));intro s0 H0 fp0;refine⟨(cp (i:=0) (show (["sign"]:List π).Nodup by decide +kernel)),gW,?_⟩;refine o9 Ki Aj (ο (pv 0)) (Eh T.As) (by with_unfolding_all rfl);refine bP (JB (o9 sP (mF hr.units) (ο (pv 0)) fb (cS _)) ?_);refine o8 (uZ (mC Ay PySem.F.slot_str_startswith PySem.F.type_str_startswith Aq (ο (pv 0)) (ι fb ψ)))
theorem HE:∀ds G Q,pV ds G Q->ds.length=3:=by
 intro ds G Q h;obtain⟨_,_,_,rfl,_⟩:=h;rfl
theorem Dd(T:Txt K mg t):cV P w K mg base 2 t.B9 t.Cp ["name","many","row"] pV:=by
 refine fJ (k:=1) (sp:=pV) T.CB CS (by decide) HE CK (fun cdv A outer s H E hr=>?_) Jy;refine aD (ck (i:=3) CS.nd (mC vt mi mh vh (ο (pv 2)) (ι fb ψ))) ?_;refine aD (e8 (iT ?_) (aW (bP (fL ψ))) dH) (aW (bP ?_));refine gA (di vq (pe hr.units) (dY (ο (pv 3)) Θ) (ο (pv 0)) (cS _)) ?_;refine gA (di vq (pe hr.units) (gi hr.units T.iZ (ι (ο (pv 3)) ψ)) (bU fB dj (ο (pv 1)) Θ) (cS _)) ?_;refine gT (dN (eG (mB hr.units T.rQ (ι ?_ ψ))));refine gV rfl (show dF yn (ax rk) _ ["word"] [] from⟨rfl,by decide +kernel,by decide +kernel,by decide +kernel,by decide +kernel,by decide +kernel⟩) ?_ ?_;refine jU (jI (ο (pv 3)) (fI Θ) gU);intro s0 H0 fp0;refine⟨(cp (i:=0) (show (["word"]:List π).Nodup by decide +kernel)),gW,?_⟩;refine bf ((JP T).mono (by decide)) hr T.LH T.IU.kp T.Mb (ι (ο (pv 0)) ψ);refine gV rfl (show dF yn (ax rk) _ ["word"] [] from⟨rfl,by decide +kernel,by decide +kernel,by decide +kernel,by decide +kernel,by decide +kernel⟩) ?_ ?_;refine jU (jI (ο (pv 3)) (fI Θ) gU);intro s0 H0 fp0;refine⟨(cp (i:=0) (show (["word"]:List π).Nodup by decide +kernel)),gW,(BA hr.units T.ui (ι (ο (pv 0)) ψ))⟩
theorem EO:∀ds G Q,oR ds G Q->ds.length=1:=by
 intro ds G Q h;obtain⟨_,rfl,_⟩:=h;rfl
theorem GR(T:Txt K mg t):cV P w K mg base 3 t.yE t.yR ["row"] oR:=by
 refine fJ (k:=2) (sp:=oR) T.DC zM (by decide) EO zx (fun cdv A outer s H E hr=>?_) FT;refine aD (ck (i:=1) zM.nd ?_) ?_;refine bf ((Dd T).mono (by decide)) hr T.Hm T.CB.kp T.IB ?_;refine ι fb (ι Θ (ι (ο (pv 0)) ψ));refine aD (e8 (iT ?_) (aW nr) dH) (aW (bP (dY (ο (pv 1)) Θ)));refine gA (di sP (mF hr.units) (ο (pv 1)) (fL ψ) (cS _)) ?_;refine gT (di HK C8 (dY (ο (pv 1)) Θ) (p9 T.nV) (cS _))
theorem Hz:∀ds G Q,rp ds G Q->ds.length=1:=by
 intro ds G Q h;obtain⟨_,rfl,_⟩:=h;rfl
theorem JN(T:Txt K mg t):cV P w K mg base 4 t.B4 t.Cj ["text"] rp:=by
 refine fJ (k:=3) (sp:=rp) T.IS m9 (by decide) Hz CG (fun cdv A outer s H E hr=>?_) Jt;refine aD (e8 (dN (eG (gj xh rfl (ο (pv 0)) T.cM T.rP rfl (by decide) (by decide)))) (aW nr) dH) ?_;refine aD (ck (i:=1) m9.nd (mC vt mi mh vh (ο (pv 0)) (ι fb ψ))) ?_;refine aD (ck (i:=2) m9.nd ?_) (aD (ck (i:=3) m9.nd (fK ψ)) ?_);refine bf ((GR T).mono (by decide)) hr T.J5 T.DC.kp T.KS (ι (dY (ο (pv 1)) Θ) ψ);refine aD ?_ (aD ?_ (aW (bP (ο (pv 3)))));refine my fj rfl (Ee T.wx (ι (jI (ο (pv 1)) (fI Θ) gU) ψ)) ?_ ?_;refine o7 rfl (fq (cp (i:=4) m9.nd) (fq (cp (i:=5) m9.nd) mz));refine aD (ck (i:=3) m9.nd ?_) (aW (e8 (iT ?_) (aW nr) dH));refine bU fB dj (ο (pv 3)) (fK (ι (lK hr.units T.iI (ι ?_ ψ)) ψ));refine bf ((Dd T).mono (by decide)) hr T.Hm T.CB.kp T.IB ?_;refine ι fb (ι Θ (ι (ο (pv 5)) ψ));refine gA (di sP (mF hr.units) (ο (pv 4)) (ο (pv 2)) (cS _)) ?_;refine gT (dN (eG (bf ((JO T).mono (by decide)) hr T.LG T.IT.kp T.Ma (ι (ο (pv 3)) ψ))));refine e8 (di ny (kL hr.kF) (gi hr.units T.iZ (ι (ο (pv 3)) ψ)) (ο (pv 2)) (cS _)) (aW nr) dH
theorem Hy:∀ds G Q,rm ds G Q->ds.length=2:=by
 intro ds G Q h;obtain⟨_,_,rfl,_⟩:=h;rfl
theorem JM(T:Txt K mg t):cV P w K mg base 1 t.B3 t.Ci ["script","k"] rm:=by
 refine fJ (k:=0) (sp:=rm) T.IQ Jh (by decide) Hy CF (fun cdv A outer s H E hr=>?_) Js;refine aD ?_ (aW (bP Θ));refine e8 (di ny (kL hr.kF) (ο (pv 1)) (gi hr.units T.iZ (ι (ο (pv 0)) ψ)) (cS _)) ?_ dH;refine aW (bP (dY (ο (pv 0)) (ο (pv 1))))
theorem EL:∀ds G Q,mr ds G Q->ds.length=1:=by
 intro ds G Q h;obtain⟨_,rfl,_⟩:=h;rfl
theorem Ak(T:Txt K mg t):cV P w K mg base 1 t.yB t.yO ["seed"] mr:=by
 refine fJ (k:=0) (sp:=mr) T.za zL (by decide) EL zu (fun cdv A outer s H E hr=>?_) FP;refine aD (ck (i:=0) zL.nd (bU rS pf (bU fB dj (ο (pv 0)) Θ) Θ)) ?_;refine aW (bP (bU rS pf ?_ Θ));refine bU fB dj (bU fB dj (bU rR mE (ο (pv 0)) (ο (pv 0))) (bU rR mE Θ (ο (pv 0)))) Θ
theorem ET:∀ds G Q,gR ds G Q->ds.length=1:=by
 intro ds G Q h;obtain⟨_,rfl,_⟩:=h;rfl
theorem GU(T:Txt K mg t):cV P w K mg base 1 t.yH t.yU ["cell"] uJ:=by
 refine hJ.imp ?_ Et;refine fJ (k:=0) (sp:=gR) T.DE zN (by decide) ET zA (fun cdv A outer s H E hr=>?_) sF;refine aD (ck (i:=1) zN.nd (Ef hr.units T.J9 (ι (ο (pv 0)) (ι (bU Di Ai Θ (ο (pv 0))) ψ)))) ?_;refine aW (bP (fL (ι (ο (pv 1)) ?_)));refine ι (Eg hr.units T.ui (ι (o9 LO JK (ο (pv 1)) (bU Kf GH Θ Θ) (cS _)) ψ)) ?_;refine ι (bU rS pf (ο (pv 1)) Θ) ψ
theorem EK:∀ds G Q,iR ds G Q->ds.length=2:=by
 intro ds G Q h;obtain⟨_,_,_,_,_,rfl,_⟩:=h;rfl
theorem gB(T:Txt K mg t):cV P w K mg base 2 t.yA t.yN ["pen","many"] fH:=by
 refine hJ.imp ?_ Ce;refine fJ (k:=1) (sp:=iR) T.ip zK (by decide) EK zt (fun cdv A outer s H E hr=>?_) uV;refine aD ?_ ?_;refine e8 (di sP (mF hr.units) (dY (ο (pv 0)) Θ) Θ (cS _)) ?_ dH;refine aD (ck (i:=2) zK.nd (bU rS pf (dY (ο (pv 0)) Θ) (ο (pv 1)))) ?_;refine aD (uY (bU Dj vc (dY (ο (pv 0)) Θ) (ο (pv 1))) (zY (ο (pv 0)) Θ)) (aW (bP (ο (pv 2))));refine aD (uY ?_ (zY (ο (pv 0)) Θ)) ?_;refine bf ((Ak T).mono (by decide)) hr T.Dg T.za.kp T.Ds (ι ?_ ψ);refine bU fB dj (bf ((Ak T).mono (by decide)) hr T.Dg T.za.kp T.Ds (ι (dY (ο (pv 0)) Θ) ψ)) (Θ);refine aW (bP (bU rS pf (bU Dj vc (dY (ο (pv 0)) Θ) Θ) (ο (pv 1))))
theorem ES:∀ds G Q,oU ds G Q->ds.length=1:=by
 intro ds G Q h
 first
  | (rcases ds with _|⟨_,_|⟨_,_|⟨_,_|⟨_,_⟩⟩⟩⟩<;>first|rfl|exact h.elim)
  | (obtain⟨rfl,_⟩:=h;rfl)
  | (obtain⟨_,rfl,_⟩:=h;rfl)
  | (obtain⟨_,_,rfl,_⟩:=h;rfl)
  | (obtain⟨_,_,_,rfl,_⟩:=h;rfl)
  | (obtain⟨_,_,_,_,rfl,_⟩:=h;rfl)
  | (obtain⟨_,_,_,_,_,rfl,_⟩:=h;rfl)
  | (obtain⟨_,_,_,_,_,_,rfl,_⟩:=h;rfl)
  | (obtain⟨_,_,_,_,_,_,_,rfl,_⟩:=h;rfl)
  | (obtain⟨_,_,_,_,_,_,_,_,rfl,_⟩:=h;rfl)
theorem Al(T:Txt K mg t):cV P w K mg base 1 t.yG t.yT ["found"] oU:=by
 refine fJ (k:=0) (sp:=oU) T.zb FH (by decide) ES Fz (fun cdv A outer s H E hr=>?_) FV;refine aW (bP ?_);refine pb (gj xi rfl (ο (pv 0)) T.cM T.ui rfl (by decide) (by decide)) ?_;refine o8 (uZ (gj vz rfl (ο (pv 0)) T.cM T.Ar rfl (by decide) (by decide)))
theorem EN:∀ds G Q,oQ ds G Q->ds.length=2:=by
 intro ds G Q h;obtain⟨_,_,rfl,_⟩:=h;rfl
theorem GQ(T:Txt K mg t):cV P w K mg base 3 t.yD t.yQ ["pen","times"] oQ:=by
 refine fJ (k:=2) (sp:=oQ) T.DB jT (by decide) EN zw (fun cdv A outer s H E hr=>?_) FR;refine aD (ck (i:=2) jT.nd (fL (ι (fK (ι Θ (ι Θ ψ))) ψ))) ?_;refine aD ?_ (aW (bP (ο (pv 2))));refine my fj rfl (sI T.qc (ι (ο (pv 1)) ψ)) (cp (i:=3) jT.nd) ?_;refine aD (ck (i:=4) jT.nd ?_) ?_;refine bf ((gB T).mono (by decide)) hr T.iY T.ip.kp T.i5 ?_;refine ι (ο (pv 0)) (ι (gi hr.units T.iZ (ι (ο (pv 2)) ψ)) ψ);refine aD ?_ ?_;refine ck (i:=5) jT.nd (u7 (ι Θ (ι Θ (ι Θ ψ))) ?_);refine bf ((gB T).mono (by decide)) hr T.iY T.ip.kp T.i5 (ι (ο (pv 0)) (ι Θ ψ));refine aD ?_ (aW ?_);refine uY (dY (ο (pv 2)) (ο (pv 4))) (o7 rfl (fq (cp (i:=6) jT.nd) (fq (cp (i:=7) jT.nd) mz)));refine e8 (iT ?_) (aW (ck (i:=2) jT.nd ?_)) dH;refine wU (di ny (kL hr.kF) (bU fB dj (gi hr.units T.iZ (ι (ο (pv 2)) ψ)) (ο (pv 5))) Θ (cS _)) ?_;refine uX (di ny (kL hr.kF) (bU rR mE (ο (pv 6)) (ο (pv 5))) Θ (cS _));refine bU fB dj ?_ (jI (ο (pv 2)) (fI (bU fB dj (ο (pv 4)) Θ)) gU);refine bU fB dj (jI (ο (pv 2)) gU (fI (ο (pv 4)))) ?_;refine gV rfl (show dF Ao (ax rj) _ ["part"] [6,5,7] from⟨rfl,by decide +kernel,by decide +kernel,by decide +kernel,by decide +kernel,by decide +kernel⟩) ?_ ?_;refine sI T.qc (ι (ο (pv 5)) ψ);intro s0 H0 fp0;refine⟨(cp (i:=0) (show (["part","step","k","rest"]:List π).Nodup by decide +kernel)),gW,?_⟩;refine fK (ι (bU rR mE (ο (pv 1)) (ο (pv 2))) ?_);refine ι (bU fB dj (ο (pv 3)) (bU rR mE (ο (pv 1)) (ο (pv 0)))) ψ
theorem HD:∀ds G Q,rA ds G Q->ds.length=1:=by
 intro ds G Q h;obtain⟨_,rfl,_⟩:=h;rfl
theorem JR(T:Txt K mg t):cV P w K mg base 4 t.B8 t.Co ["pen"] rA:=by
 refine fJ (k:=3) (sp:=rA) T.IW nc (by decide) HD CJ (fun cdv A outer s H E hr=>?_) Jx;refine aD (ck (i:=1) nc.nd ?_) (aD (ck (i:=2) nc.nd (fL ψ)) ?_);refine bf ((gB T).mono (by decide)) hr T.iY T.ip.kp T.i5 (ι (ο (pv 0)) (ι Θ ψ));refine aD ?_ ?_;refine e8 (di ny (kL hr.kF) (ο (pv 1)) Θ (cS _)) ?_ dH;refine aD (ck (i:=2) nc.nd ?_) (aW ?_);refine bf ((GQ T).mono (by decide)) hr T.J4 T.DB.kp T.KR (ι (ο (pv 0)) ?_);refine ι (bf ((gB T).mono (by decide)) hr T.iY T.ip.kp T.i5 (ι (ο (pv 0)) (ι Θ ψ))) ψ;refine e8 (iT ?_) (aW (sH ?_)) dH;refine wU (di sP (mF hr.units) (ο (pv 1)) Θ (cS _)) (uX (di vq (pe hr.units) (ο (pv 2)) (fL ψ) (cS _)));refine u6 HH PySem.F.slot_list_pop PySem.F.type_list_pop BL (ο (pv 2)) (ι ?_ ψ);refine bf ((gB T).mono (by decide)) hr T.iY T.ip.kp T.i5 ?_;refine ι (ο (pv 0)) (ι (gi hr.units T.iZ (ι (ο (pv 2)) ψ)) ψ);refine aD (ck (i:=3) nc.nd (fL (ι Θ ?_))) ?_;refine ι Θ (ι Θ (ι Θ (ι Θ (ι Θ (ι Θ (ι Θ (ι Θ (ι Θ ψ))))))));refine aD ?_ ?_;refine my fj rfl (sI T.qc ?_) (cp (i:=4) nc.nd) ?_;refine ι (u7 (ι Θ (ι Θ (ι Θ (ι Θ (ι Θ (ι Θ ψ)))))) (ο (pv 1))) ψ;refine aD (ck (i:=5) nc.nd ?_) (aW (sH ?_));refine dY (ο (pv 3)) (bf ((gB T).mono (by decide)) hr T.iY T.ip.kp T.i5 (ι (ο (pv 0)) (ι Θ ψ)));refine u6 tK la kZ pj (ο (pv 2)) (ι (fK (ι (ο (pv 5)) ?_)) ψ);refine ι (bf ((gB T).mono (by decide)) hr T.iY T.ip.kp T.i5 (ι (ο (pv 0)) (ι (ο (pv 5)) ψ))) (ψ);refine aW (bP (lK hr.units T.iI (ι (jI (yf hr.units (ο (pv 2)) T.vj T.J8) gU (fI Θ)) ψ)))
theorem HF:∀ds G Q,rB ds G Q->ds.length=2:=by
 intro ds G Q h;obtain⟨_,rfl,_⟩:=h;rfl
theorem JS(T:Txt K mg t):cV P w K mg base 2 t.Ca t.Cq ["found","due"] rB:=by
 refine fJ (k:=1) (sp:=rB) T.IX CT (by decide) HF CL (fun cdv A outer s H E hr=>?_) Jz;refine aD (e8 (iT ?_) (aW (bP lL)) dH) (aD ?_ (aW (bP lL)));refine gA (dN (eG (gj kit_tuple rfl (ο (pv 0)) T.cM T.iI rfl (by decide) (by decide)))) ?_;refine gT (di vq (pe hr.units) (ο (pv 0)) (ο (pv 1)) (cS _));refine my fj rfl (jU (ο (pv 0))) (cp (i:=2) CT.nd) (aW (e8 (iT ?_) (aW (bP lL)) dH));refine gA (dN (eG (gj kit_tuple rfl (ο (pv 2)) T.cM T.iI rfl (by decide) (by decide)))) ?_;refine gA ?_ (gT ?_);refine dN (eG (bf ((Al T).mono (by decide)) hr T.Dh T.zb.kp T.Dt (ι (dY (ο (pv 2)) Θ) ψ)));refine dN (eG (bf ((Al T).mono (by decide)) hr T.Dh T.zb.kp T.Dt (ι (dY (ο (pv 2)) Θ) ψ)))
theorem EJ:∀ds G Q,oO ds G Q->ds.length=1:=by
 intro ds G Q h;obtain⟨_,rfl,_⟩:=h;rfl
theorem GN(T:Txt K mg t):cV P w K mg base 3 t.yz t.yM ["pen"] oO:=by
 refine fJ (k:=2) (sp:=oO) T.Dz zJ (by decide) EJ zr (fun cdv A outer s H E hr=>?_) FO;refine aD (ck (i:=1) zJ.nd (fL ?_)) (aW (bP ?_));refine ι (fK (ι Θ ?_)) ?_;refine ι (bf ((gB T).mono (by decide)) hr T.iY T.ip.kp T.i5 (ι (ο (pv 0)) (ι Θ ψ))) ψ;refine ι (fK (ι Θ ?_)) ?_;refine ι (bf ((gB T).mono (by decide)) hr T.iY T.ip.kp T.i5 (ι (ο (pv 0)) (ι Θ ψ))) ψ;refine ι (fK (ι Θ ?_)) (ι (fK (ι Θ (ι Θ ψ))) ψ);refine ι (bf ((gB T).mono (by decide)) hr T.iY T.ip.kp T.i5 (ι (ο (pv 0)) (ι Θ ψ))) ψ;refine lK hr.units T.iI (ι (ye hr.units T.vj ?_) ψ);refine ι (jI (ο (pv 1)) gU (fI (bU fB dj Θ ?_))) ψ;refine bf ((gB T).mono (by decide)) hr T.iY T.ip.kp T.i5 (ι (ο (pv 0)) (ι Θ ψ))
theorem EM:∀ds G Q,oP ds G Q->ds.length=1:=by
 intro ds G Q h;obtain⟨_,rfl,_⟩:=h;rfl
theorem GP(T:Txt K mg t):cV P w K mg base 1 t.yC t.yP ["clocks"] oP:=by
 refine fJ (k:=0) (sp:=oP) T.DA rE (by decide) EM zv (fun cdv A outer s H E hr=>?_) FQ;refine aD (ck (i:=1) rE.nd ?_) ?_;refine fL (ι (bU rT ko fb (qK hr.units T.rP (ι (gi hr.units T.iZ (ι (ο (pv 0)) ψ)) ψ))) ψ);refine aD ?_ (aW (bP (mC xg mT mS xb fb (ι (ο (pv 1)) ψ))));refine my fj rfl (jU (ο (pv 0))) ?_ (aW (sH ?_));refine o7 rfl (fq (cp (i:=2) rE.nd) (fq (cp (i:=3) rE.nd) mz));refine u6 tK la kZ pj (ο (pv 1)) (ι ?_ ψ);refine bU rT ko (bU rT ko (bU rT ko fb (qK hr.units T.rP (ι (ο (pv 2)) ψ))) fb) ?_;refine qK hr.units T.rP (ι (ο (pv 3)) ψ)
theorem ER:∀ds G Q,oT ds G Q->ds.length=1:=by
 intro ds G Q h
 first
  | (rcases ds with _|⟨_,_|⟨_,_|⟨_,_|⟨_,_⟩⟩⟩⟩<;>first|rfl|exact h.elim)
  | (obtain⟨rfl,_⟩:=h;rfl)
  | (obtain⟨_,rfl,_⟩:=h;rfl)
  | (obtain⟨_,_,rfl,_⟩:=h;rfl)
  | (obtain⟨_,_,_,rfl,_⟩:=h;rfl)
  | (obtain⟨_,_,_,_,rfl,_⟩:=h;rfl)
  | (obtain⟨_,_,_,_,_,rfl,_⟩:=h;rfl)
  | (obtain⟨_,_,_,_,_,_,rfl,_⟩:=h;rfl)
  | (obtain⟨_,_,_,_,_,_,_,rfl,_⟩:=h;rfl)
  | (obtain⟨_,_,_,_,_,_,_,_,rfl,_⟩:=h;rfl)
theorem GS(T:Txt K mg t):cV P w K mg base 5 t.yF t.yS ["clocks"] oT:=by
 refine fJ (k:=4) (sp:=oT) T.DD uN (by decide) ER zy (fun cdv A outer s H E hr=>?_) FU;refine aD ?_ ?_;refine ck (i:=1) uN.nd (bf ((GP T).mono (by decide)) hr T.J3 T.DA.kp T.KQ (ι (ο (pv 0)) ψ));refine aD (ck (i:=2) uN.nd ?_) (aW (bP ?_));refine bf ((JQ T).mono (by decide)) hr T.LI T.IV.kp T.Mc (ι (ο (pv 0)) ψ);refine pb (gj xh rfl (ο (pv 2)) T.cM T.rP rfl (by decide) (by decide)) ?_;refine pb (o9 sP (mF hr.units) (ο (pv 2)) (ο (pv 1)) (cS _)) (o8 ?_);refine bf ((JS T).mono (by decide)) hr T.LK T.IX.kp T.Me ?_;refine ι (bf ((JN T).mono (by decide)) hr T.LF T.IS.kp T.L9 (ι (ο (pv 1)) ψ)) ?_;refine ι (ο (pv 0)) ψ
theorem EU:∀ds G Q,jS ds G Q->ds.length=1:=by
 intro ds G Q h;obtain⟨_,rfl,_⟩:=h;rfl
theorem GV(T:Txt K mg t):cV P w K mg base 6 t.yI t.r9 ["script"] jS:=by
 refine fJ (k:=5) (sp:=jS) T.KZ oW (by decide) EU zB (fun cdv A outer s H E hr=>?_) FW;refine aD (ck (i:=1) oW.nd (fL (ι (fK ψ) ?_))) ?_;refine ι (fK (ι (fK (ι Θ (ι Θ ψ))) ψ)) (ι (lK hr.units T.iI (ι ?_ ψ)) ψ);refine gV rfl (show dF vg (ax oN) _ ["k"] [] from⟨rfl,by decide +kernel,by decide +kernel,by decide +kernel,by decide +kernel,by decide +kernel⟩) ?_ ?_;refine By T.qc (ι Θ (ι (u0 Θ) (ι (u0 Θ) ψ)));intro s0 H0 fp0;refine⟨(cp (i:=0) (show (["k"]:List π).Nodup by decide +kernel)),gW,?_⟩;refine fK (ι Θ (ι (bU Di Ai Θ (ο (pv 0))) ψ));refine aD ?_ (aW (bP (mB hr.units T.rQ (ι ?_ ψ))));refine my fj rfl (jU ?_) (cp (i:=2) oW.nd) ?_;refine bU fB dj (fL ?_) (jI (ο (pv 0)) (fI Θ) (fI Θ));refine ι (bf ((JM T).mono (by decide)) hr T.LD T.IQ.kp T.L8 (ι (ο (pv 0)) (ι Θ ψ))) (ψ);refine aD ?_ ?_;refine ck (i:=3) oW.nd (bf ((GU T).mono (by decide)) hr T.J7 T.DE.kp T.KW (ι (ο (pv 2)) ψ));refine aW (ck (i:=1) oW.nd (bU fB dj (ο (pv 1)) (fL ?_)));refine ι (bf ((JR T).mono (by decide)) hr T.LJ T.IW.kp T.Md (ι (ο (pv 3)) ψ)) ?_;refine ι (bf ((GN T).mono (by decide)) hr T.J0 T.Dz.kp T.KP (ι (ο (pv 3)) ψ)) ψ;refine gV rfl (show dF vg (ax oN) _ ["clocks"] [] from⟨rfl,by decide +kernel,by decide +kernel,by decide +kernel,by decide +kernel,by decide +kernel⟩) ?_ ?_;refine jU (bU fB dj (ο (pv 1)) (jI (ο (pv 1)) (fI (u0 Θ)) gU));intro s0 H0 fp0;refine⟨(cp (i:=0) (show (["clocks"]:List π).Nodup by decide +kernel)),gW,?_⟩;refine bf ((GS T).mono (by decide)) hr T.J6 T.DD.kp T.KU (ι (ο (pv 0)) ψ)
end
def ib(K:ζ)(nm:π)(st:aU):Prop:=∃f d,fA K nm nm st f d/\br K aI nm=some (some (.ref f))
theorem cT{K:ζ}{nm:π}{st:aU}{f:ε}{od an:Option ε}{sl:Array (Option δ)}{oc kV dc pm cd ct:δ}(a:br K aI nm=some (some (.ref f)))(l:K.lookup f=some ⟨oc,od,.func (fQ nm nm (mK st) (iJ st) (ax st) .none kV dc pm an cd ct),sl⟩)(c:jG K cd nm=true)(k:fP K (.ref f)=true):ib K nm st:=⟨f,_,Ia l c k,a⟩
theorem uw{K:ζ}{h:ae}{mg:π->Option δ}(X:K.In h)(G:h.Ns aI mg)
  (h0:ib K "whole_good" xN)
  (h1:ib K "clock_good" xM)
  (h2:ib K "clocks_good" rh)
  (h3:ib K "clocks_shown" ue)
  (h4:ib K "clocks_read" xP)
  (h5:ib K "many_read" uE)
  (h6:ib K "numbers_behind" rk)
  (h7:ib K "figures_good" ud)
  (h8:ib K "_law_cell_at" xO)
  (h9:ib K "_law_next" uC)
  (Mz:ib K "_law_pen_of" uH)
  (Mx:ib K "_law_draw" uB)
  (Mw:ib K "_law_whole" uG)
  (Mv:ib K "_law_split" rj)
  (Mu:ib K "_law_clocks_of" xQ)
  (Mt:ib K "_law_clocks_are" xR)
  (Ms:ib K "_law_wide" uA)
  (Mr:ib K "_law_text" uD)
  (Mq:ib K "_law_right" uF)
  (Mp:ib K "law" oN)
  {t0:gv} (gint0:br K aI "FIGURES" = some (some (.str "0123456789" t0)))
  {t1:gv} (gint1:br K aI "MOST_CLOCKS" = some (some (.int 12 t1)))
  {t2:gv} (gint2:br K aI "MOST_FIGURES" = some (some (.int 60 t2)))
  {t3:gv} (gint3:br K aI "MOST_STEP" = some (some (.int 1000 t3)))
  (z0:br K aI "all" = some none)
  (z1:br K aI "bool" = some none)
  (z2:br K aI "enumerate" = some none)
  (z3:br K aI "int" = some none)
  (z4:br K aI "isinstance" = some none)
  (z5:br K aI "len" = some none)
  (z6:br K aI "max" = some none)
  (z7:br K aI "range" = some none)
  (z8:br K aI "set" = some none)
  (z9:br K aI "sorted" = some none)
  (Fo:br K aI "str" = some none)
  (Fn:br K aI "tuple" = some none)
  (Fm:br K aI "zip" = some none)
  : ∃t:DF,Txt K mg t/\∀(s:η) (v:δ),mX s t.r9 ⟨[v],[]⟩ [("script",v)]:=by
 obtain⟨f0,d0,F0,a0⟩:=h0;obtain⟨f1,d1,F1,a1⟩:=h1;obtain⟨f2,d2,F2,a2⟩:=h2;obtain⟨f3,d3,F3,a3⟩:=h3;obtain⟨f4,d4,F4,a4⟩:=h4;obtain⟨f5,d5,F5,a5⟩:=h5;obtain⟨f6,d6,F6,a6⟩:=h6;obtain⟨f7,d7,F7,a7⟩:=h7;obtain⟨f8,d8,F8,a8⟩:=h8;obtain⟨f9,d9,F9,a9⟩:=h9;obtain⟨f10,d10,F10,a10⟩:=Mz;obtain⟨f11,d11,F11,a11⟩:=Mx;obtain⟨f12,d12,F12,a12⟩:=Mw;obtain⟨f13,d13,F13,a13⟩:=Mv;obtain⟨f14,d14,F14,a14⟩:=Mu;obtain⟨f15,d15,F15,a15⟩:=Mt;obtain⟨f16,d16,F16,a16⟩:=Ms;obtain⟨f17,d17,F17,a17⟩:=Mr;obtain⟨f18,d18,F18,a18⟩:=Mq;obtain⟨f19,d19,F19,a19⟩:=Mp;exact⟨⟨f0,d0,f1,d1,f2,d2,f3,d3,f4,d4,f5,d5,f6,d6,f7,d7,f8,d8,f9,d9,f10,d10,f11,d11,f12,d12,f13,d13,f14,d14,f15,d15,f16,d16,f17,d17,f18,d18,f19,d19,t0,t1,t2,t3⟩,⟨F0,
  aF X G a0,
  F0.binds (ps:=["thing"]) fun _ _ _ _ _ _ us hl=>by obtain⟨_,rfl⟩:=g7 hl;rfl,
  F1,
  aF X G a1,
  F1.binds (ps:=["thing"]) fun _ _ _ _ _ _ us hl=>by obtain⟨_,rfl⟩:=g7 hl;rfl,
  F2,
  aF X G a2,
  F2.binds (ps:=["thing"]) fun _ _ _ _ _ _ us hl=>by obtain⟨_,rfl⟩:=g7 hl;rfl,
  F3,
  aF X G a3,
  F3.binds (ps:=["clocks"]) fun _ _ _ _ _ _ us hl=>by obtain⟨_,rfl⟩:=g7 hl;rfl,
  F4,
  aF X G a4,
  F4.binds (ps:=["text"]) fun _ _ _ _ _ _ us hl=>by obtain⟨_,rfl⟩:=g7 hl;rfl,
  F5,
  aF X G a5,
  F5.binds (ps:=["row"]) fun _ _ _ _ _ _ us hl=>by obtain⟨_,rfl⟩:=g7 hl;rfl,
  F6,
  aF X G a6,
  F6.binds (ps:=["name","many","row"]) fun _ _ _ _ _ _ us hl=>by obtain⟨_,_,_,rfl⟩:=LM hl;rfl,
  F7,
  aF X G a7,
  F7.binds (ps:=["word"]) fun _ _ _ _ _ _ us hl=>by obtain⟨_,rfl⟩:=g7 hl;rfl,
  F8,
  aF X G a8,
  F8.binds (ps:=["script","k"]) fun _ _ _ _ _ _ us hl=>by obtain⟨_,_,rfl⟩:=vp hl;rfl,
  F9,
  aF X G a9,
  F9.binds (ps:=["seed"]) fun _ _ _ _ _ _ us hl=>by obtain⟨_,rfl⟩:=g7 hl;rfl,
  F10,
  aF X G a10,
  F10.binds (ps:=["cell"]) fun _ _ _ _ _ _ us hl=>by obtain⟨_,rfl⟩:=g7 hl;rfl,
  F11,
  aF X G a11,
  F11.binds (ps:=["pen","many"]) fun _ _ _ _ _ _ us hl=>by obtain⟨_,_,rfl⟩:=vp hl;rfl,
  F12,
  aF X G a12,
  F12.binds (ps:=["found"]) fun _ _ _ _ _ _ us hl=>by obtain⟨_,rfl⟩:=g7 hl;rfl,
  F13,
  aF X G a13,
  F13.binds (ps:=["pen","times"]) fun _ _ _ _ _ _ us hl=>by obtain⟨_,_,rfl⟩:=vp hl;rfl,
  F14,
  aF X G a14,
  F14.binds (ps:=["pen"]) fun _ _ _ _ _ _ us hl=>by obtain⟨_,rfl⟩:=g7 hl;rfl,
  F15,
  aF X G a15,
  F15.binds (ps:=["found","due"]) fun _ _ _ _ _ _ us hl=>by obtain⟨_,_,rfl⟩:=vp hl;rfl,
  F16,
  aF X G a16,
  F16.binds (ps:=["pen"]) fun _ _ _ _ _ _ us hl=>by obtain⟨_,rfl⟩:=g7 hl;rfl,
  F17,
  aF X G a17,
  F17.binds (ps:=["clocks"]) fun _ _ _ _ _ _ us hl=>by obtain⟨_,rfl⟩:=g7 hl;rfl,
  F18,
  aF X G a18,
  F18.binds (ps:=["clocks"]) fun _ _ _ _ _ _ us hl=>by obtain⟨_,rfl⟩:=g7 hl;rfl,
  F19,
  aF X G a19,
  F19.binds (ps:=["script"]) fun _ _ _ _ _ _ us hl=>by obtain⟨_,rfl⟩:=g7 hl;rfl,
  aF X G gint0,
  aF X G gint1,
  aF X G gint2,
  aF X G gint3,
  bj X G z0,
  bj X G z1,
  bj X G z2,
  bj X G z3,
  bj X G z4,
  bj X G z5,
  bj X G z6,
  bj X G z7,
  bj X G z8,
  bj X G z9,
  bj X G Fo,
  bj X G Fn,
  bj X G Fm⟩,fun s v=>by
  obtain⟨_,_,_,_,_,_,_,_,_,rfl,_⟩:=F19.ex;exact .of_eq rfl⟩
theorem FE(K:ζ)(H:Hp)(a:ε)(ns:List Int)(hl:ns.length≤63)(ho:y9 H)(hS:du K H a (ns.map V.int)):ku K jS [.ref a] H (fun v _=>v=.bl true) fun _ _ _=>False:=by
 refine⟨[.eW (ns.map .int)],fun _=>none,fun d _=>d=.bl true,.cons ?_ .nil,(fun _ _ e=>nomatch e),⟨ns,rfl,hl,rfl⟩,fun v H' d G' hv _ _ q=>?_⟩
 ·unfold Hv;refine⟨a,ns.map V.int,rfl,?_,aw.ints ns⟩;rcases hS with (h|h)|h
  ·rcases ho a with z|⟨o,xs,z⟩
   ·rw[z] at h;cases h
   ·rw[z] at h;cases h
  ·exact .inl h
  ·exact .inr h
 ·subst q;exact uj hv
theorem walk{l:sm}{q:ah}{loose:List π}{XP:(π->Option δ)->ae->Prop}{YP:ar->ae->Prop}{d:DefRec}{K:Params->ζ}(hn:l.most=some 63)(hdf:d.params.defaults=[])
  (hY:∀(w:ar) (h:ae),YP w h->(K w.params).In h)
  (F:∀(w:ar) (mg:π->Option δ) (fa:ε) (h:ae),(K w.params).In h->h.Ns aI mg->mg d.name=some (.ref fa) ->
   ∃fd:aM,(∀(s:η) (u:δ),mX s fd ⟨[u],[]⟩ [("script",u)])/\∀base:ae,(K w.params).In base->base.Ns aI mg->hJ l.prog w (K w.params) mg base tZ 6 fa fd ["script"] (ku (K w.params) jS)):
  PySem.W.WalkO q loose XP YP l.row.toRowW d [] (fun f vs=>sk f vs):=
 L2.wF (n:=63) (k:=6) (x:="script") (CX:=fun _=>tZ) (sp:=fun w=>ku (K w.params) jS) hn (by decide) hdf ⟨rfl,by decide,by decide⟩ hY F (fun w H a ns hl ho hS=>FE (K w.params) H a ns hl ho hS) fun _ _ _ _ _ z=>z
end My
open PySem PySem.W PyProof.Rows
set_option maxRecDepth 100000 in
set_option maxHeartbeats 0 in
theorem PySem.Challenge.cw_coverclocks_k70_clocks_written_and_read_holds : PySem.Challenge.rw_coverclocks_k70_clocks_written_and_read.Holds := by
 w_on;o_law;k_head;(case hw=>w_witness2)
 k_fill
 refine My.walk (l:=PySem.Challenge.rw_coverclocks_k70_clocks_written_and_read) rfl rfl (fun w h Y=>PySem.W.kIn_of Y) ?F
 case F=>
  intro w mg fa h KX G hmg
  refine' Exists.elim (My.uw KX G (My.cT ?a0 ?l0 ?c0 ?k0) (My.cT ?a1 ?l1 ?c1 ?k1) (My.cT ?a2 ?l2 ?c2 ?k2) (My.cT ?a3 ?l3 ?c3 ?k3) (My.cT ?a4 ?l4 ?c4 ?k4) (My.cT ?a5 ?l5 ?c5 ?k5) (My.cT ?a6 ?l6 ?c6 ?k6) (My.cT ?a7 ?l7 ?c7 ?k7) (My.cT ?a8 ?l8 ?c8 ?k8) (My.cT ?a9 ?l9 ?c9 ?k9) (My.cT ?a10 ?l10 ?c10 ?k10) (My.cT ?a11 ?l11 ?c11 ?k11) (My.cT ?a12 ?l12 ?c12 ?k12) (My.cT ?a13 ?l13 ?c13 ?k13) (My.cT ?a14 ?l14 ?c14 ?k14) (My.cT ?a15 ?l15 ?c15 ?k15) (My.cT ?a16 ?l16 ?c16 ?k16) (My.cT ?a17 ?l17 ?c17 ?k17) (My.cT ?a18 ?l18 ?c18 ?k18) (My.cT ?a19 ?l19 ?c19 ?k19) ?gint0 ?gint1 ?gint2 ?gint3 ?z0 ?z1 ?z2 ?z3 ?z4 ?z5 ?z6 ?z7 ?z8 ?z9 ?Fo ?Fn ?Fm) ?fin
  case a0|l0|c0|k0|a1|l1|c1|k1|a2|l2|c2|k2|a3|l3|c3|k3|a4|l4|c4|k4|a5|l5|c5|k5|a6|l6|c6|k6|a7|l7|c7|k7|a8|l8|c8|k8|a9|l9|c9|k9=>k_is
  case a10|l10|c10|k10|a11|l11|c11|k11|a12|l12|c12|k12|a13|l13|c13|k13|a14|l14|c14|k14|a15|l15|c15|k15|a16|l16|c16|k16|a17|l17|c17|k17|a18|l18|c18|k18|a19|l19|c19|k19=>k_is
  case gint0|gint1|gint2|gint3|z0|z1|z2|z3|z4|z5|z6|z7|z8|z9|Fo|Fn|Fm=>k_is
  case fin=>
   rintro t ⟨T,b⟩
   have e2:=hmg.symm.trans T.Ka
   cases e2
   exact⟨t.r9,b,fun base _ _=>My.GV T⟩
