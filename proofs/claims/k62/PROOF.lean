import PyProof.Rows.All
import Wide.All
import OpenK.AllK
import Wide.FinOn
import Lean
import PyProof.EqAt
import PyProof.EqKinds
import PyProof.TupleCall
import PyProof.NeKinds
import KE.KSortAsk
import PySem.SetTable
import PyProof.SetKind
import PyProof.TupleKey
import PyProof.IsRules
import PyProof.DictKinds
import PyProof.FactsAll.set
import PyProof.RangeIter
import PyProof.Seq
import PyProof.ForAny
import PyProof.WalksMore
import PyProof.CollectWalk
import PyProof.CollectIter
import PyProof.WalksS
import PyProof.Rows.SetFrom
import KE.KSortTup
import PyProof.Draws
import PyProof.Rows.Range3
import PyProof.SetRoads
import PyProof.Rows.CallKwBuiltin
import KE.KMinKey
import KE.KMinBuiltin
import PyProof.DictRoadsH
import KE.BitLaws
import PyProof.ExcClass2
import PyProof.InstSpecial
import PyProof.RaisesMany
import PyProof.Rows.Own
import KE.KTryDeep
import PyProof.InstStoreFacts
import PyProof.ExcArgs
import PyProof.ListCopy
import PyProof.Rows.SortShell
import PySem.Challenge.RW_coverclocks_k62_exact_clocks_of_a_round
set_option Elab.async false
set_option linter.all false
set_option maxRecDepth 100000
set_option maxHeartbeats 6400000
namespace PySem.W.Fast
def tw10078696554093384773:=0
def tw10368883338155975151:=0
def tw10452333987338724981:=0
def tw10516340093407240808:=0
def tw11173723503175262165:=0
def tw11299921419492242798:=0
def tw11429792989217855893:=0
def tw11452265218397779199:=0
def tw11738753756314667840:=0
def tw11956458897683646540:=0
def tw12003617517607689869:=0
def tw12407192161133554790:=0
def tw12489582711478104082:=0
def tw12661907699273475472:=0
def tw13320624666163735951:=0
def tw13426475961662819182:=0
def tw14295839666265581636:=0
def tw1432986144231975304:=0
def tw14876799912908600434:=0
def tw15207526441604726171:=0
def tw15264985293422552409:=0
def tw15605498642371588558:=0
def tw15678258564623732219:=0
def tw15679370009841024410:=0
def tw15755035187419761012:=0
def tw15834742671881046042:=0
def tw1602787599054090287:=0
def tw16658010124413309237:=0
def tw17069395873250944858:=0
def tw17275197439183440950:=0
def tw17375927779120409914:=0
def tw18010208429117208504:=0
def tw18018965704989838038:=0
def tw18376276120569079772:=0
def tw235228883374298128:=0
def tw3905978335606840145:=0
def tw4105320219030976346:=0
def tw422455667137840806:=0
def tw4344847173449382656:=0
def tw439286839531247197:=0
def tw4404063042263098473:=0
def tw4412527274902718929:=0
def tw4758063258847653193:=0
def tw5572705623664201119:=0
def tw5618388009982854506:=0
def tw5918889617803434737:=0
def tw611801598117885932:=0
def tw6168788755717360772:=0
def tw6369976614303128039:=0
def tw6434913938871170854:=0
def tw6628163991415254643:=0
def tw6770608797204028773:=0
def tw7025116552906025163:=0
def tw735571976652776377:=0
def tw7360474891497188374:=0
def tw7455600102167942632:=0
def tw7521249567993819599:=0
def tw7637644030697147030:=0
def tw8146335762490823206:=0
def tw8584709536109099886:=0
def tw898000105541511298:=0
def tw9095870694744023340:=0
def tw9242291438946777625:=0
def tw9452851868014967740:=0
def tw10558285193611825465:=0
def tw1063104844712197133:=0
def tw11011102394721158324:=0
def tw11236023722876406086:=0
def tw11571858830177397928:=0
def tw12051913096662776393:=0
def tw12378026051618136248:=0
def tw12849968709288727594:=0
def tw13082903098792535786:=0
def tw13348452680776644951:=0
def tw14256499007666379086:=0
def tw1436119998901280318:=0
def tw14437326444417267648:=0
def tw15444497536955772485:=0
def tw16333661803655134747:=0
def tw16349558562756073139:=0
def tw3714536186851317982:=0
def tw4353307393343893492:=0
def tw4614981187221851478:=0
def tw5319191658315923286:=0
def tw5733684367705316049:=0
def tw6048872618600923386:=0
def tw6199190852694572282:=0
def tw8073531422534821901:=0
def tw8493973847333985686:=0
def tw9448663894481052144:=0
def tw1039949670651325264:=0
def tw10866797219449291460:=0
def tw11627272319498015387:=0
def tw11864957671445862844:=0
def tw1190134657643438941:=0
def tw1340640129994694921:=0
def tw13746863065281899519:=0
def tw13963264615088267789:=0
def tw1567380852266250811:=0
def tw16089384704061997360:=0
def tw16324630328048348973:=0
def tw165089660347730027:=0
def tw17353472729206615141:=0
def tw3781372760574911518:=0
def tw4148971038709735183:=0
def tw4515239135495693504:=0
def tw4917521885847118701:=0
def tw5116570931466179087:=0
def tw618966293173022793:=0
def tw6637696757025540856:=0
def tw6937392346725386268:=0
def tw79341562674469179:=0
def tw8199337739085228474:=0
def tw2476641606332729623:=0
def tw3577643082640661228:=0
def tw8080156376844963096:=0
def tw8638995353478641203:=0
def tw10989328727093978333:=0
def tw17882224884006501808:=0
def tw3613219035976514463:=0
def tw17424948510583352319:=0
def tw2929660854045553397:=0
end PySem.W.Fast
open Array renaming length_toList->av,getElem?_toList->aE,toList_append->bS,getElem?_eq_getElem->gx,toList_reverse->iN,toList_setIfInBounds->jE,toList->kJ,mem_toList_iff->nh,getElem_toList->nj,toList_modify->nF,toList_push->pF,getElem_mem->pG,getD->rm
open Bool renaming false_ne_true->ai,not_eq_true'->cv,and_eq_true->cG,false_eq_true->gK,eq_iff_iff->iM,not_eq_false'->jw,and_true->jD,false_and->mC,true_and->nB
open Classical renaming byContradiction->dj
open False renaming elim->eN
open ForInStep renaming yield->eD
open Int renaming toNat_natCast->cS,emod_lt_of_pos->ej,eq_ofNat_of_zero_le->fi,emod_nonneg->ft,toNat_of_nonneg->iT,natCast_ediv->kI,ediv_nonneg->lj
open List renaming length_map->θ,length_append->ξ,size_toArray->ο,append_assoc->ψ,pairwise_append->Δ,mem_append_right->Ξ,mem_cons_self->Ω,mem_cons_of_mem->ab,mem_append->ag,mem_singleton->ao,mem_append_left->aA,length_cons->aI,getElem?_append_right->aN,range->aS,getElem?_eq_getElem->aU,replicate->aX,mem_cons->bf,mem_map->bj,length_range'->bo,length_take->bu,pairwise_singleton->bx,getElem?_eq_some_iff->bz,length_drop->bA,getElem?_map->bB,nil_append->bF,map_map->bL,eq_nil_of_length_eq_zero->bM,getElem?_append_left->b6,map_congr_left->b9,take_append_drop->cc,append_nil->cf,pairwise_cons->cg,mem_of_mem_take->cm,mem_of_mem_drop->cn,drop_eq_getElem_cons->cB,flatten_cons->cR,map_append->cV,toArray->cY,pairwise_reverse->dh,getElem?_eq_none_iff->di,length_nil->dm,getElem?_take_of_lt->dq,take_sublist->du,pairwise_map->dv,length_range->dw,map_cons->dD,replicate_succ->dH,mem_reverse->dO,mem_range->dP,all_eq_true->dQ,take_of_length_le->dY,drop_eq_nil_of_le->dZ,drop_sublist->eG,lookup_cons->eY,getElem_of_mem->ff,perm_append_comm->fS,mem_of_getElem?->gd,getElem?_range->gn,flatMap_append->gp,nodup_cons->gu,mem_filter->gv,reverse_perm->gZ,ext_getElem?->g0,length->g8,getElem?_set_self->g9,mem_flatMap->hZ,any_toArray->ie,length_replicate->iq,getElem?_set_ne->iL,filterMap_cons->iS,dropLast_concat_getLast->ja,zip_cons_cons->jr,getElem?_drop->jt,getD->ju,pairwise_iff_getElem->jS,getLast?_eq_none_iff->jT,getElem_mem->kH,getElem?_replicate->kL,of_mem_zip->lh,range_succ_eq_map->lD,filter_eq_nil_iff->lE,take_take->mo,set_append_right->mq,length_filter_le->mv,drop_zero->mw,drop_drop->mz,reverse_reverse->ng,reverse_append->nC,length_pos_iff->nE,mem_filterMap->oQ,map_inj_right->oR,foldl->rj
open List.Pairwise renaming imp_of_mem->eZ,nil->fG
open List.Perm renaming append_right->bC,trans->bP,append_left->bU,refl->dR,of_eq->rl
open List.cons renaming injEq->rk
open Nat renaming le_refl->ω,le_trans->aD,zero_le->aK,lt_of_lt_of_le->ba,ne_of_lt->bK,lt_irrefl->dC,gcd->eu,lcm->j4,sub_self->kD,mul_comm->kE,le_of_lt->kF,le_add_right->kG,gcd_pos_of_pos_left->kK,min_eq_left->lg,add_assoc->nz,zero_add->oJ,ne_of_gt->oK,min_self->oM,lt_trans->oO,le_of_eq->oP
open Ne renaming symm->fR
open Option renaming getD_none->qg
open Option.some renaming inj->aw
open Or renaming inr->mn,inl->oI
open PyProof.Rows renaming Keyed->δ,SortSt->ah,SortKind->bN,callWith_type1->cU,IntsAre->dS,get?_update_seq->et,listUpdate_at->fj,seqEpoch_at->g6,mergeAt'->ip,AllBare->ir,listItems_at->iJ,IsTup->jU,list_sort_plain->lb,boot_range->m6
open PyProof.Rows.SortSt renaming mk'->m8
open PySem renaming Value->γ,Shared->ε,Addr->ζ,Expr->μ,Str->χ,wpAny_bind->Θ,wpAny->Ψ,sizeLine->aj,Program->aq,Heap->az,World->aC,Spec->aF,Pos->aG,FuncData->aJ,Stmt->aT,Around->aZ,mainGlobals->bh,Obj->bp,wpAny_pure->bt,starEach->bw,sizeLine_eq->cI,wpAny_mono->cZ,mem_of_lookup->dG,NameKind->dN,wpAny_passesOwn->eo,wpAny_holding->eE,bootBuiltins->eX,Scope->fq,wpAny_truthy_bool->fE,Env->fX,wpAny_newList->gh,Builtin->hJ,wpAny_rule->iH,wpAny_execs_nil->iI,wpAny_Call_Name_kw->jo,PassesOwn->jq,codeAny->jY,wpAny_comprehension_free->kz,noFill_tuple_add->kA,seqIndex_of->lB,IsRangeIter->lF,wpAny_newTuple->ml,Builtin->mB,BindsTo->mD,call_meets->m4,Operator->m9,Moved->nc,wpAny_standAt->nv,seq_tuple_add->ny,call->rb
open PySem.Builtin.Int renaming intBits->gq
open PySem.Builtin.List renaming listTooLong->e7,listExtendWith->jv
open PySem.Builtin.Range renaming rangeSize->bH,small->iU
open PySem.Calls renaming Name_function_global->jC,call_function_entry->jV
open PySem.F renaming args_tuple_add_2->gJ,entry_tuple_add->gV,slot_tuple_add->g7,type_list_extend->kB,slot_list_extend->kC
open PySem.Heap renaming get?_push_of_some->ρ,lt_size->aa,get?_push_size->aQ,get?_update_other->fB,SameBut->oS
open PySem.Heap.SameBut renaming update->dI
open PySem.IsRange renaming new->pR
open PySem.NameKind renaming free->bX,cell->nA
open PySem.Obj renaming mapSeq->aO
open PySem.PassesOwn renaming never->cA
open PySem.SeqAt renaming EqAt->q0
open PySem.SeqAt.RcAt renaming lists_lengths->oH
open PySem.Str renaming empty->fW
open PySem.Value renaming ref->cu,isInt_shape->fF,bool->iK,none->jR,int->oG,isInt->pQ
open PySem.W renaming Frag->η,kasC_bind->ν,kasC_pure->υ,mg_of->aM,mg_none_of->b5,kasC_range->ck,nsIn->cp,kia_one->cz,kasC_modify->eQ,kitOne->eT,keepIn->fP,fnOf->fQ,kasC_get->gb,kasC_lift->il,kas_ask->i8,codeIn->i9,methodObj->jI,kitx_list->jJ,cellsFrom_some->lC,kat_nil->mm,kitx_dict->pE,OpenLaw->rh
open PySem.W.KasT renaming kasWp_bind->gw
open Sum renaming inr->jZ,inl->j0
open True renaming intro->m7
namespace L2
open PySem PySem.Spec PyProof.Rows
abbrev Key:=Sum Int χ
def CN:Key->γ->Bool
 |.inl k,v=>pQ k v
 |.inr x,v=>γ.isStrOf x v
def Lm(w:aC):Key->Int
 |.inl k=>hashInt k
 |.inr x=>hashStr w x
theorem dW:∀{k:Key} {v:γ},CN k v=true->(∃i t,k=j0 i/\v=oG i t)∨(∃x t,k=jZ x/\v=γ.str x t)
 |.inl i,v,h=>by
  obtain⟨t,e⟩:=fF (k:=i) (v:=v) h;exact .inl ⟨i,t,rfl,e⟩
 |.inr x,v,h=>by
  obtain⟨t,e⟩:=γ.isStrOf_shape (x:=x) (v:=v) h;exact .inr ⟨x,t,rfl,e⟩
theorem Hm(a b:Int):decide ((j0 a:Key)=j0 b)=(a==b):=by
 by_cases e:a=b
 ·subst e;simp
 ·have h:¬(j0 a:Key)=j0 b:=fun q=>e (j0.inj q);rw[decide_eq_false h];exact (beq_eq_false_iff_ne.mpr e).symm
theorem Hj(a b:χ):decide ((jZ a:Key)=jZ b)=decide (a=b):=by
 by_cases e:a=b
 ·subst e;simp
 ·have h:¬(jZ a:Key)=jZ b:=fun q=>e (jZ.inj q);rw[decide_eq_false h,decide_eq_false e]
theorem Hl(a:Int)(b:χ):decide ((j0 a:Key)=jZ b)=false:=decide_eq_false (fun q=>nomatch q)
theorem Hk(a:χ)(b:Int):decide ((jZ a:Key)=j0 b)=false:=decide_eq_false (fun q=>nomatch q)
def rF(prog:aq)(w:aC):PySem.KeyKind prog w Key where
 is:=CN
 hash:=Lm w
 inj:=fun v a b ha hb=>by
  rcases dW ha with⟨i,t,rfl,rfl⟩|⟨x,t,rfl,rfl⟩
  ·rcases dW hb with⟨j,u,rfl,e⟩|⟨y,u,rfl,e⟩
   ·injection e with e1 _;rw[e1]
   ·exact nomatch e
  ·rcases dW hb with⟨j,u,rfl,e⟩|⟨y,u,rfl,e⟩
   ·exact nomatch e
   ·injection e with e1 _;rw[e1]
 byValue:=fun k v h=>by
  rcases dW h with⟨i,t,rfl,rfl⟩|⟨x,t,rfl,rfl⟩<;>rfl
 pyHash:=fun hv h=>by
  rcases dW hv with⟨i,t,rfl,rfl⟩|⟨x,t,rfl,rfl⟩
  ·exact wpAny_pyHash_int h
  ·exact wpAny_pyHash_str h
 eqBool:=fun hu hv h=>by
  rcases dW hu with⟨i,t,rfl,rfl⟩|⟨x,t,rfl,rfl⟩
  ·rcases dW hv with⟨j,u,rfl,rfl⟩|⟨y,u,rfl,rfl⟩
   ·rw[Hm] at h;exact wpAny_eqBool_int h
   ·rw[Hl] at h;exact q0.int_str i t y u _ _ _ _ h
  ·rcases dW hv with⟨j,u,rfl,rfl⟩|⟨y,u,rfl,rfl⟩
   ·rw[Hk] at h;exact q0.str_int x t j u _ _ _ _ h
   ·rw[Hj] at h;exact wpAny_eqBool_str h
 «strs»:=fun k x t v h=>by
  rcases dW h with⟨i,u,rfl,e⟩|⟨y,u,rfl,e⟩
  ·exact nomatch e
  ·injection e with e1 _;subst e1;cases v<;>rfl
end L2
namespace L2
open PySem PySem.Spec PyProof.Rows
inductive V where
 |ak|bl (b:Bool)|int (i:Int)|str (x:χ)|Aa (b:Array UInt8)|HH (b:UInt64)|ref (a:ζ)|ty (n:String)
 deriving DecidableEq
def RelV:V->γ->Prop
 |.ak,u=>u=jR
 |.bl b,u=>u=iK b
 |.int i,u=>∃t,u=oG i t
 |.str x,u=>∃t,u=γ.str x t
 |.Aa b,u=>∃t,u=γ.bytes b t
 |.HH b,u=>∃t,u=γ.float b t
 |.ref a,u=>u=cu a
 |.ty n,u=>u=γ.type n
abbrev aR:List V->List γ->Prop:=Paired RelV
theorem aR.length{xs:List V}{us:List γ}(r:aR xs us):xs.length=us.length:=Paired.length r
theorem aR.get:∀{xs:List V} {us:List γ} {i:Nat} {x:V},aR xs us->xs[i]?=some x->∃u,us[i]?=some u/\RelV x u
 |_,_,_,_,.nil,e=>by simp at e
 |_,_,0,_,.cons r _,e=>by simp at e;subst e;exact⟨_,rfl,r⟩
 |_,_,i+1,x,.cons _ t,e=>by
  obtain⟨u,h1,h2⟩:=aR.get (i:=i) (x:=x) t (by simpa using e);exact⟨u,by simpa using h1,h2⟩
theorem aR.set{x:V}{u:γ}(r:RelV x u):∀{xs:List V} {us:List γ} (i:Nat),aR xs us->aR (xs.set i x) (us.set i u)
 |_,_,_,.nil=>.nil
 |_,_,0,.cons _ t=>.cons r t
 |_,_,i+1,.cons q t=>.cons q (aR.set r i t)
theorem aR.append:∀{xs ys:List V} {us ws:List γ},aR xs us->aR ys ws->aR (xs++ys) (us++ws)
 |_,_,_,_,.nil,s=>s
 |_,_,_,_,.cons r t,s=>.cons r (aR.append t s)
theorem aR.take:∀{xs:List V} {us:List γ} (n:Nat),aR xs us->aR (xs.take n) (us.take n)
 |_,_,0,_=>.nil
 |_,_,_+1,.nil=>.nil
 |_,_,n+1,.cons r t=>.cons r (aR.take n t)
theorem aR.drop:∀{xs:List V} {us:List γ} (n:Nat),aR xs us->aR (xs.drop n) (us.drop n)
 |_,_,0,r=>r
 |_,_,_+1,.nil=>.nil
 |_,_,n+1,.cons _ t=>aR.drop n t
def Ik:Option V->Option γ->Prop
 |some v,some u=>RelV v u
 |none,none=>True
 |_,_=>False
def KV{κ:Type}:List (κ×V)->List (κ×γ)->Prop:=Paired fun (p:κ×V) (q:κ×γ)=>p.1=q.1/\RelV p.2 q.2
def kV:Key->V
 |.inl i=>.int i
 |.inr x=>.str x
inductive HO where
 |lst (xs:List V)
 |tup (xs:List V)
 |dK (kvs:List (Key×V))|dT (kvs:List (List Key×V))
 |set (S:Int->Bool) (n:Nat)
 |ins (C dx:ζ) (fs:List (χ×V))
 |own (x:ζ)
 |xd (fs:List (χ×V))
 |met (f x:ζ)
 |Cc (lo hi:Int)
 |fC (o:bp) (u:HO)
 |se (ps:Array γ)
 |ext (φ:az->Prop)
abbrev Hp:=ζ->Option HO
def upd(H:Hp)(a:ζ)(o:HO):Hp:=fun b=>if b=a then some o else H b
theorem cw{H:Hp}{a:ζ}{o:HO}:upd H a o a=some o:=by unfold upd;rw[if_pos rfl]
theorem bD{H:Hp}{a b:ζ}{o:HO}(h:b≠a):upd H a o b=H b:=by unfold upd;rw[if_neg h]
theorem cJ{H:Hp}{a b:ζ}{o:HO}(h:H a=some o)(h':H b=none):a≠b:=by
 intro e;subst e;rw[h] at h';cases h'
def iF(h:az)(a:ζ)(items:Array γ):Prop:=∃o,h.get? a=some o/\o.cls=.type "tuple"/\(∃n,o.data=.seq items n)/\o.dict=none
theorem iF.tup{h:az}{a:ζ}{items:Array γ}(x:iF h a items):jU h a items:=let ⟨o,h1,h2,h3,_⟩:=x;⟨o,h1,h2,h3⟩
theorem iF.new(h:az)(items:Array γ):iF (h.push { cls:=.type "tuple",data:=.seq items }) h.objs.size items:=⟨_,aQ _ rfl,rfl,⟨_,rfl⟩,rfl⟩
theorem iF.lt{h:az}{a:ζ}{items:Array γ}(x:iF h a items):a<h.objs.size:=let ⟨_,ho,_⟩:=x;aa ho
section
variable (P:aq) (w:aC)
def fc(H:Hp)(h:az)(a:ζ):HO->Prop
 |.lst xs=>xs.length≤aj/\∃(its:List γ) (n:Nat),aR xs its/\h.get? a=some { cls:=.type "list",data:=.seq its.toArray n }
 |.tup xs=>xs.length≤aj/\∃its:List γ,aR xs its/\iF h a its.toArray
 |.dK kvs=>kvs.length≤aj/\(a==sysModules)=false/\∃vs,KV kvs vs/\h.DictOf (rF P w) a vs
 |.dT kvs=>kvs.length≤aj/\(a==sysModules)=false/\∃xs:List (List Key×ζ×γ),
   Paired (fun (p:List Key×V) (q:List Key×ζ×γ)=>p.1=q.1/\H q.2.1=some (.tup (p.1.map kV))/\RelV p.2 q.2.2) kvs xs ∧
   ∃o es ep,h.get? a=some o/\o.ExactDict/\o.data=.dict es ep/\es.toList=xs.map (entryOfKey (tupleKind (rF P w)))/\(xs.map (·.1)).Nodup
 |.set S n=>h.SetOf (intKind P w) a S n
 |.ins C dx fs=>H dx=some (.own a)/\fs.length≤1000/\dx≠a/\h.get? a=some (PySem.W.instObj C dx) ∧
   ∃mA,h.Ns1 dx mA/\(∀f,Ik (fs.lookup f) (mA f))/\PySem.Within mA (fs.map (·.1))
 |.own _=>∃o,h.get? a=some o
 |.xd fs=>∃mA,h.Ns1 a mA/\∀f,Ik (fs.lookup f) (mA f)
 |.Cc lo hi=>∃t u v,h.get? a=some { cls:=.type "range",data:=.fields #[.int lo t,.int hi u,.int 1 v]}
 |.fC o u=>h.get? a=some o/\fc H h a u
 |.se ps=>h.get? a=some { cls:=.none,data:=.fields ps }
 |.met f x=>h.get? a=some (jI (.ref f) (.ref x))
 |.ext φ=>φ h/\(∃o,h.get? a=some o)/\∀h1 h2:az,φ h1->(∀o,h1.get? a=some o->h2.get? a=some o)->φ h2
def gH(H:Hp)(h:az):Prop:=∀a o,H a=some o->fc P w H h a o
end
section
variable {P:aq} {w:aC} {H H':Hp} {h h':az} {a:ζ} {o:HO}
theorem fc.lt(x:fc P w H h a o):a<h.objs.size:=by
 cases o with
 |lst xs=>obtain⟨_,_,_,_,e⟩:=x;exact aa e
 |tup xs=>obtain⟨_,_,_,p⟩:=x;exact p.lt
 |dK kvs=>obtain⟨_,_,_,_,o,_,_,e,_⟩:=x;exact aa e
 |dT kvs=>obtain⟨_,_,_,_,o,_,_,e,_⟩:=x;exact aa e
 |set S n=>obtain⟨o,_,_,_,e,_⟩:=x;exact aa e
 |ins C dx fs=>obtain⟨_,_,_,e,_⟩:=x;exact aa e
 |own y=>obtain⟨_,e⟩:=x;exact aa e
 |xd fs=>obtain⟨_,⟨_,_,_,e,_⟩,_⟩:=x;exact aa e
 |Cc lo hi=>obtain⟨_,_,_,e⟩:=x;exact aa e
 |fC ob u=>obtain⟨e,_⟩:=x;exact aa e
 |se ps=>exact aa (show h.get? a=some _ from x)
 |met f y=>exact aa (show h.get? a=some _ from x)
 |ext φ=>obtain⟨_,⟨_,e⟩,_⟩:=x;exact aa e
theorem Paired.GA{α β:Type}{F G:α->β->Prop}:∀{l₁:List α} {l₂:List β},Paired F l₁ l₂->(∀a b,F a b->G a b)->Paired G l₁ l₂
 |_,_,.nil,_=>.nil
 |_,_,.cons r t,f=>.cons (f _ _ r) (Paired.GA t f)
theorem fc.rq(x:fc P w H h a o)(k:∀b u,(b=a∨H b=some (.own a))->h.get? b=some u->h'.get? b=some u)
  (ho:∀b,H b=some (.own a)->H' b=some (.own a)) (ht:∀b xs,H b=some (.tup xs)->H' b=some (.tup xs)):fc P w H' h' a o:=by
 induction o with
 |lst xs=>obtain⟨z,its,n,r,e⟩:=x;exact⟨z,its,n,r,k _ _ (.inl rfl) e⟩
 |tup xs=>obtain⟨z,its,r,ob,e,c⟩:=x;exact⟨z,its,r,ob,k _ _ (.inl rfl) e,c⟩
 |dK kvs=>obtain⟨z,y,vs,r,ob,es,ep,e,c⟩:=x;exact⟨z,y,vs,r,ob,es,ep,k _ _ (.inl rfl) e,c⟩
 |dT kvs=>
  obtain⟨z,y,xs,r,ob,es,ep,e,c⟩:=x;exact⟨z,y,xs,Paired.GA r fun p q z=>⟨z.1,ht _ _ z.2.1,z.2.2⟩,ob,es,ep,k _ _ (.inl rfl) e,c⟩
 |set S n=>obtain⟨ob,es,ep,t,e,c⟩:=x;exact⟨ob,es,ep,t,k _ _ (.inl rfl) e,c⟩
 |ins C dx fs=>
  obtain⟨d,z,ne,e,mA,⟨od,es,ep,e2,c⟩,r⟩:=x;exact⟨ho _ d,z,ne,k _ _ (.inl rfl) e,mA,⟨od,es,ep,k _ _ (.inr d) e2,c⟩,r⟩
 |own y=>obtain⟨ob,e⟩:=x;exact⟨ob,k _ _ (.inl rfl) e⟩
 |xd fs=>obtain⟨mA,⟨od,es,ep,e,c⟩,r⟩:=x;exact⟨mA,⟨od,es,ep,k _ _ (.inl rfl) e,c⟩,r⟩
 |Cc lo hi=>obtain⟨t,u,v,e⟩:=x;exact⟨t,u,v,k _ _ (.inl rfl) e⟩
 |fC ob u ih=>obtain⟨e,q⟩:=x;exact⟨k _ _ (.inl rfl) e,ih q⟩
 |se ps=>
  have e:h.get? a=some { cls:=.none,data:=.fields ps }:=x;show h'.get? a=some { cls:=.none,data:=.fields ps };exact k a _ (.inl rfl) e
 |met f y=>
  have e:h.get? a=some (jI (.ref f) (.ref y)):=x;show h'.get? a=some (jI (.ref f) (.ref y));exact k a _ (.inl rfl) e
 |ext φ=>obtain⟨p,⟨o,e⟩,st⟩:=x;exact⟨st _ _ p fun o q=>k _ _ (.inl rfl) q,⟨o,k _ _ (.inl rfl) e⟩,st⟩
theorem gH.lt(x:gH P w H h)(e:H a=some o):a<h.objs.size:=(x a o e).lt
theorem gH.fresh(x:gH P w H h)(e:h.objs.size≤a):H a=none:=by
 cases q:H a with
 |none=>rfl
 |some u=>exact absurd (ba (x.lt q) e) (dC _)
theorem gH.kept(x:gH P w H h)(k:∀b u,h.get? b=some u->h'.get? b=some u):gH P w H h':=fun a o e=>
 (x a o e).rq (fun b u _ q=>k b u q) (fun _ q=>q) fun _ _ q=>q
theorem gH.laid(x:gH P w H h)(k:∀b u,h.get? b=some u->h'.get? b=some u)(hp:h.objs.size≤a)(new:fc P w (upd H a o) h' a o):gH P w (upd H a o) h':=fun b u e=>by
 have hn:=x.fresh hp;by_cases hb:b=a
 ·subst hb;rw[cw] at e;cases e;exact new
 ·rw[bD hb] at e;exact (x b u e).rq (fun c v _ q=>k c v q) (fun c q=>by rw[bD (cJ q hn)];exact q) fun c xs q=>by rw[bD (cJ q hn)];exact q
end
def Rd(H:Hp)(a:ζ)(u:HO):Prop:=H a=some u∨∃o,H a=some (.fC o u)
theorem Rd.ok{P:aq}{w:aC}{H:Hp}{h:az}{a:ζ}{u:HO}(r:Rd H a u)(x:gH P w H h):fc P w H h a u:=by
 rcases r with r|⟨o,r⟩
 ·exact x a u r
 ·obtain⟨_,q⟩:=x a _ r;exact q
def C5:Option HO->Prop
 |some (.lst _)=>True
 |some (.dK _)=>True
 |some (.dT _)=>True
 |some (.set _ _)=>True
 |some (.ins _ _ _)=>True
 |some (.ext _)=>True
 |_=>False
section
variable {P:aq} {w:aC} {H:Hp} {h h':az} {x e:ζ} {o':HO}
theorem gH.write(ok:gH P w H h)(mu:C5 (H x))(he:e=x∨H e=some (.own x))(k:∀b u,b≠e->h.get? b=some u->h'.get? b=some u)(heo:∃u,h'.get? e=some u)
  (new:fc P w (upd H x o') h' x o'):gH P w (upd H x o') h':=fun b u q=>by
 have nown:∀c y,H c=some (.own y)->c≠x:=fun c y r z=>by subst z;rw[r] at mu;exact mu
 have ntup:∀c xs,H c=some (.tup xs)->c≠x:=fun c xs r z=>by subst z;rw[r] at mu;exact mu
 by_cases hb:b=x
 ·subst hb;rw[cw] at q;cases q;exact new
 ·rw[bD hb] at q;by_cases hbe:b=e
  ·have q':H b=some (.own x):=by
    rcases he with z|z
    ·exact absurd (hbe.trans z) hb
    ·rw[hbe];exact z
   rw[q] at q';cases q';obtain⟨v,hv⟩:=heo;exact⟨v,by rw[hbe];exact hv⟩
  ·refine (ok b u q).rq (fun c v hc r=>k c v ?_ r) (fun c r=>by rw[bD (nown c b r)];exact r) fun c xs r=>by rw[bD (ntup c xs r)];exact r
   rcases hc with rfl|hc
   ·exact hbe
   ·rintro rfl;rcases he with z|z
    ·exact nown c b hc z
    ·rw[hc] at z;cases z;exact hb rfl
end
structure Un(fs ex:List ζ)(H H':Hp)(h h':az):Prop where
 keep:∀b o,h.get? b=some o->H b=none->b∉fs->b∉ex->h'.get? b=some o
 slot:∀b o,h.get? b=some o->H b=none->b∈fs->b∉ex->∃sl,h'.get? b=some { o with slots:=sl }
 free:∀b o,h.get? b=some o->H b=none->b∉ex->H' b=none
 there:∀b o,h.get? b=some o->b∉ex->∃o',h'.get? b=some o'
 nG:∀b xs,H b=some (.tup xs)->H' b=some (.tup xs)
 mS:∀b o u,H b=some (.fC o u)->H' b=some (.fC o u)
 nH:∀b ps,H b=some (.se ps)->∃more,H' b=some (.se (ps++more))
section
variable {fs fs' ex ex':List ζ} {H H1 H2:Hp} {h h1 h2 h':az} {a x e:ζ} {o:HO}
theorem Un.any(u:Un fs ex H H1 h h1){b:ζ}{ob:bp}(q:h.get? b=some ob)(n:H b=none)(hx:b∉ex):∃sl,h1.get? b=some { ob with slots:=sl }:=by
 by_cases hb:b∈fs
 ·exact u.slot b ob q n hb hx
 ·exact⟨ob.slots,u.keep b ob q n hb hx⟩
theorem Un.kept(k:∀b u,h.get? b=some u->h'.get? b=some u):Un fs ex H H h h':=
 ⟨fun b ob q _ _ _=>k b ob q,fun b ob q _ _ _=>⟨ob.slots,k b ob q⟩,fun _ _ _ n _=>n,fun b ob q _=>⟨ob,k b ob q⟩,fun _ _ q=>q,fun _ _ _ q=>q,fun _ ps q=>⟨#[],by rw[q];simp⟩⟩
theorem Un.refl:Un fs ex H H h h:=Un.kept fun _ _ q=>q
theorem Un.laid(k:∀b u,h.get? b=some u->h'.get? b=some u)(hp:h.objs.size≤a)(hn:H a=none):Un fs ex H (upd H a o) h h' where
 keep:=fun b u q _ _ _=>k b u q
 slot:=fun b u q _ _ _=>⟨u.slots,k b u q⟩
 free:=fun b u q n _=>by rw[bD (bK (ba (aa q) hp))];exact n
 there:=fun b u q _=>⟨u,k b u q⟩
 nG:=fun b xs q=>by rw[bD (cJ q hn)];exact q
 mS:=fun b u xs q=>by rw[bD (cJ q hn)];exact q
 nH:=fun b ps q=>⟨#[],by rw[bD (cJ q hn),q];simp⟩
theorem Un.write(mu:C5 (H x))(he:e=x∨H e=some (.own x))(k:∀b u,b≠e->h.get? b=some u->h'.get? b=some u)(heo:∃u,h'.get? e=some u):Un fs ex H (upd H x o) h h':=by
 have hx:∀b,H b=none->b≠x:=fun b n z=>by subst z;rw[n] at mu;exact mu
 have hb:∀b,H b=none->b≠e:=fun b n z=>by
  subst z;rcases he with r|r
  ·exact hx b n r
  ·rw[n] at r;cases r
 have hm:∀b u,H b=some u->¬C5 (some u)->b≠x:=fun b u q nm z=>by subst z;rw[q] at mu;exact nm mu
 refine⟨fun b u q n _ _=>k b u (hb b n) q,fun b u q n _ _=>⟨u.slots,k b u (hb b n) q⟩,fun b u q n _=>by rw[bD (hx b n)];exact n,fun b u q _=>?_,
  fun b xs q=>by rw[bD (hm b _ q fun z=>z)];exact q,fun b u xs q=>by rw[bD (hm b _ q fun z=>z)];exact q,fun b ps q=>⟨#[],by rw[bD (hm b _ q fun z=>z),q];simp⟩⟩
 by_cases hbe:b=e
 ·subst hbe;exact heo
 ·exact⟨u,k b u hbe q⟩
end
def kM(h:az)(H:Hp):List ζ:=(aS h.objs.size).filter fun a=>(H a).isSome
def mQ(h:az)(H:Hp):az:=PySem.W.hideAll h (kM h H)
theorem zJ(h:az)(H:Hp):(mQ h H).objs.size=h.objs.size:=PySem.W.hideAll_size _ _
theorem Bj{h:az}{H:Hp}{b:ζ}{o:bp}(e:h.get? b=some o)(n:H b=none):(mQ h H).get? b=some o:=
 PySem.W.hideAll_get _ e fun hm=>by
  have q:(H b).isSome=true:=(gv.mp hm).2;rw[n] at q;simp at q
theorem D0{h:az}{H:Hp}{b:ζ}{o:bp}(e:(mQ h H).get? b=some o):h.get? b=some o/\H b=none:=by
 have e':h.get? b=some o:=PySem.W.of_hideAll (kM h H) e;refine⟨e',?_⟩;cases q:H b with
 |none=>rfl
 |some x=>
  have hm:b∈kM h H:=gv.mpr ⟨dP.mpr (aa e'),by simp[q]⟩;have z:(mQ h H).get? b=none:=PySem.W.hideAll_none (kM h H) hm;rw[z] at e;cases e
end L2
namespace L2
open PySem PySem.Spec PyProof.Rows
structure Mod(K:η)(mg:χ->Option γ)(base:az):Prop where
 Hi:K.In base
 glob:base.Ns bh mg
 blt:∃mb,base.Ns builtinsNs mb/\∀x:χ,x≠"__name__"->mb x=eX x
 nolimit:base.NoLimit
structure Cx where
 prog:aq
 w:aC
 K:η
 mg:χ->Option γ
 base:az
 A:aZ
 N:List χ
 s₀:ε
 H₀:Hp
 env:fX
 outer:List fX
 stack:List fX
 ex:List ζ
 fn:χ->Bool
 calm:Bool
 pn:List (ζ×bp)
 xe:γ->ε->Prop
def ow(l:List fX):List ζ:=l.filterMap (·.frame)
abbrev Cx.fs(X:Cx):List ζ:=ow X.outer
def Ih(sc:fq)(x:χ):Prop:=sc.names.lookup x=some .local∨sc.names.lookup x=some .cell∨sc.names.lookup x=some .free
def Loc(sc:fq)(x:χ):Prop:=sc.names.lookup x=some .local∨sc.names.lookup x=some .cell
def Look(env:fX)(h:az)(m:χ->Option γ)(x:χ)(u:γ):Prop:=
 (env.kindOf x=some .local/\m x=some u)∨((env.kindOf x=some .cell∨env.kindOf x=some .free)/\∃c,env.cells.lookup x=some c/\h.IsCell c (some u))
structure Cx.Ok(X:Cx):Prop where
 mod:Mod X.K X.mg X.base
 kind:X.env.scope.kind=.function
 glob:X.env.globals=bh
 blt:X.env.builtins=builtinsNs
 above:X.s₀.heap.objs.size≤X.env.locals
 inj:∀x y c,X.env.cells.lookup x=some c->X.env.cells.lookup y=some c->x=y
 has:∀x,(X.env.kindOf x=some .cell∨X.env.kindOf x=some .free)->∃c,X.env.cells.lookup x=some c
 wk:∀x c,X.fn x=true->X.env.cells.lookup x=some c->X.s₀.heap.objs.size≤c
 hd:X.calm=true->X.A.handled=none
 frames:X.A.frames=some X.stack
 yQ:X.stack=X.outer∨(X.stack=X.env::X.outer/\X.env.frame=some X.env.locals)
 zP:∀b∈X.ex,b≠X.env.locals/\∀x c,X.env.cells.lookup x=some c->c≠b
 bs:∀b o,X.base.get? b=some o->X.s₀.heap.get? b=some o/\X.H₀ b=none
 qT:X.base.objs.size≤X.s₀.heap.objs.size
 rD:∀b o,X.base.get? b=some o->b∉X.ex
 rT:∀b∈X.ex,b∉X.fs
 jy:X.s₀.heap.FunFrames X.base X.outer
 uL:∀b∈X.fs,X.H₀ b=none
structure Inv(X:Cx)(pins:List (ζ×bp))(σ:List (Option V))(H:Hp)(s:ε):Prop where
 ok:X.Ok
 os:s.os=X.s₀.os
 bare:ir s.gens
 base:Un X.fs X.ex X.H₀ H X.s₀.heap s.heap
 loc:∃m,s.heap.Ns X.env.locals m/\∀(i:Nat) (x:χ) (v:V),X.N[i]?=some x->σ[i]?=some (some v)->Ih X.env.scope x->∃u,RelV v u/\Look X.env s.heap m x u
 cell:∀x c,X.env.cells.lookup x=some c->∃v,s.heap.IsCell c v
 free:H X.env.locals=none
 jc:∀x c,X.env.cells.lookup x=some c->H c=none
 pin:∀p∈X.pn++pins,s.heap.get? p.1=some p.2/\H p.1=none/\p.1≠X.env.locals/\p.1∉X.fs/\∀v,p.2.data≠.cell v
 bT:gH X.prog X.w H s.heap
 len:σ.length=X.N.length
section
variable {X:Cx} {pins:List (ζ×bp)} {σ:List (Option V)} {H H':Hp} {s:ε} {h':az}
theorem Cx.Ok.K5(ok:X.Ok){b:ζ}{o:bp}(e:X.base.get? b=some o):b∉X.fs:=fun hb=>by
 have:=(ok.jy.mem hb).1;rw[e] at this;cases this
theorem Inv.bs(I:Inv X pins σ H s):∀b o,X.base.get? b=some o->s.heap.get? b=some o/\H b=none:=fun b o e=>
 ⟨I.base.keep b o (I.ok.bs b o e).1 (I.ok.bs b o e).2 (I.ok.K5 e) (I.ok.rD b o e),I.base.free b o (I.ok.bs b o e).1 (I.ok.bs b o e).2 (I.ok.rD b o e)⟩
theorem Inv.bk(I:Inv X pins σ H s):∀b o,X.base.get? b=some o->s.heap.get? b=some o:=fun b o e=>(I.bs b o e).1
theorem Inv.mod(I:Inv X pins σ H s):Mod X.K X.mg X.base:=I.ok.mod
theorem Inv.jG(I:Inv X pins σ H s):X.K.In s.heap:=I.ok.mod.Hi.keeps I.bk
theorem Inv.lt(I:Inv X pins σ H s):X.env.locals<s.heap.objs.size:=let ⟨_,hn,_⟩:=I.loc;hn.lt
theorem Inv.sz(I:Inv X pins σ H s):X.s₀.heap.objs.size≤s.heap.objs.size:=aD I.ok.above (kF I.lt)
theorem Inv.K4(I:Inv X pins σ H s){a:ζ}(h:s.heap.objs.size≤a):a∉X.fs:=fun hb=>by
 obtain⟨_,o,ho,_⟩:=I.ok.jy.mem hb;exact absurd (ba (aa ho) (aD I.sz h)) (dC _)
theorem Inv.uR(I:Inv X pins σ H s):∀x c,X.env.cells.lookup x=some c->c≠X.env.locals:=fun x c e z=>by
 obtain⟨v,o,ho,hd⟩:=I.cell x c e;obtain⟨m,⟨o',es,ep,ho',hd',_⟩,_⟩:=I.loc;rw[z,ho'] at ho;cases ho;rw[hd'] at hd;cases hd
theorem Inv.jy(I:Inv X pins σ H s):s.heap.FunFrames X.base X.outer:=by
 have all:∀(l:List fX),(∀b∈ow l,b∈X.fs)->X.s₀.heap.FunFrames X.base l->s.heap.FunFrames X.base l:=by
  intro l
  induction l with
  |nil=>intro _ _;trivial
  |cons env r ih=>
   intro hs hl;obtain⟨hk,⟨L,o,hf,hn,ho,hd⟩,hr⟩:=hl;have hL:L∈X.fs:=hs L (by unfold ow;rw[iS,hf];exact Ω);obtain⟨sl,e⟩:=I.base.slot L o ho (I.ok.uL L hL) hL fun z=>I.ok.rT L z hL;exact⟨hk,⟨L,_,hf,hn,e,hd⟩,ih (fun b hb=>hs b (by unfold ow;rw[iS,hf];exact ab _ hb)) hr⟩
 exact all X.outer (fun _ hb=>hb) I.ok.jy
theorem Inv.stack(I:Inv X pins σ H s):s.heap.FunFrames X.base X.stack:=by
 rcases I.ok.yQ with e|⟨e,hf⟩
 ·rw[e];exact I.jy
 ·rw[e];obtain⟨m,hn,_⟩:=I.loc;refine .cons (by rw[I.ok.kind];decide) hf hn ?_ I.jy;exact az.get?_none_of_le (aD I.ok.qT I.ok.above)
theorem Inv.tV(I:Inv X pins σ H s):∀b∈ow X.stack,b∈X.env.locals::X.fs:=fun b hb=>by
 rcases I.ok.yQ with e|⟨e,hf⟩
 ·rw[e] at hb;exact ab _ hb
 ·rw[e] at hb;unfold ow at hb;rw[iS,hf] at hb;exact hb
theorem Inv.vz(I:Inv X pins σ H s):∀b∈ow X.stack,H b=none:=fun b hb=>by
 rcases bf.mp (I.tV b hb) with e|hb
 ·rw[e];exact I.free
 ·obtain⟨_,o,ho,_⟩:=I.ok.jy.mem hb;exact I.base.free b o ho (I.ok.uL b hb) fun z=>I.ok.rT b z hb
theorem Inv.step{g':Array GenState}{t':Nat}{d':Drawn}{ch:List ζ}(I:Inv X pins σ H s)
  (pL:∀b∈ch,(b∈X.ex∨X.s₀.heap.objs.size≤b)/\b≠X.env.locals/\(∀x c,X.env.cells.lookup x=some c->c≠b)/\∀p∈X.pn++pins,p.1≠b)
  (keep:∀b o,b≠X.env.locals->b∉X.fs->b∉ch->s.heap.get? b=some o->H b=none->h'.get? b=some o)
  (slot:∀b o,b≠X.env.locals->b∈X.fs->b∉ch->s.heap.get? b=some o->H b=none->∃sl,h'.get? b=some { o with slots:=sl }) (free:∀b o,b∉ch->s.heap.get? b=some o->H b=none->H' b=none)
  (there:∀b o,b∉ch->s.heap.get? b=some o->∃o',h'.get? b=some o')
  (nG:∀b xs,H b=some (.tup xs)->H' b=some (.tup xs)) (mS:∀b o u,H b=some (.fC o u)->H' b=some (.fC o u)) (nH:∀b ps,H b=some (.se ps)->∃more,H' b=some (.se (ps++more)))
  (ns:∀m,s.heap.Ns X.env.locals m->h'.Ns X.env.locals m) (bT:gH X.prog X.w H' h') (hg:ir g'):
  Inv X pins σ H' { s with heap:=h',gens:=g',drawn:=d',toks:=t' }:=by
 have neL:∀b o,X.s₀.heap.get? b=some o->b≠X.env.locals:=fun b o e=>bK (ba (aa e) I.ok.above);have neC:∀b o,X.s₀.heap.get? b=some o->b∉X.ex->b∉ch:=fun b o e hx hb=>by
  rcases (pL b hb).1 with z|z
  ·exact hx z
  ·exact absurd (ba (aa e) z) (dC _)
 have cellK:∀x c,X.env.cells.lookup x=some c->∀v,s.heap.IsCell c v->h'.IsCell c v:=fun x c e v ⟨o,ho,hd⟩=>by
  have nch:c∉ch:=fun z=>(pL c z).2.2.1 x c e rfl;by_cases hc:c∈X.fs
  ·obtain⟨sl,q⟩:=slot c o (I.uR x c e) hc nch ho (I.jc x c e);exact⟨_,q,hd⟩
  ·exact⟨o,keep c o (I.uR x c e) hc nch ho (I.jc x c e),hd⟩
 refine⟨I.ok,I.os,hg,⟨fun b o e n hb hx=>?_,fun b o e n hb hx=>?_,fun b o e n hx=>?_,fun b o e hx=>?_,fun b xs e=>nG b xs (I.base.nG b xs e),fun b o xs e=>mS b o xs (I.base.mS b o xs e),fun b ps e=>?_⟩,?_,fun x c e=>?_,?_,fun x c e=>?_,fun p hp=>?_,bT,I.len⟩
 ·exact keep b o (neL b o e) hb (neC b o e hx) (I.base.keep b o e n hb hx) (I.base.free b o e n hx)
 ·obtain⟨sl,e1⟩:=I.base.slot b o e n hb hx;obtain⟨sl',e2⟩:=slot b _ (neL b o e) hb (neC b o e hx) e1 (I.base.free b o e n hx);exact⟨sl',e2⟩
 ·obtain⟨o',e1⟩:=I.base.there b o e hx;exact free b o' (neC b o e hx) e1 (I.base.free b o e n hx)
 ·obtain⟨o',e1⟩:=I.base.there b o e hx;exact there b o' (neC b o e hx) e1
 ·obtain⟨m1,e1⟩:=I.base.nH b ps e;obtain⟨m2,e2⟩:=nH b _ e1;exact⟨m1++m2,by rw[e2,Array.append_assoc]⟩
 ·obtain⟨m,hn,hl⟩:=I.loc;refine⟨m,ns m hn,fun i x v e1 e2 e3=>?_⟩;obtain⟨u,r,l⟩:=hl i x v e1 e2 e3;refine⟨u,r,?_⟩;rcases l with l|⟨k,c,e,z⟩
  ·exact .inl l
  ·exact .inr ⟨k,c,e,cellK x c e _ z⟩
 ·obtain⟨v,z⟩:=I.cell x c e;exact⟨v,cellK x c e v z⟩
 ·obtain⟨m,⟨o,_,_,ho,_⟩,_⟩:=I.loc;exact free _ o (fun z=>(pL _ z).2.1 rfl) ho I.free
 ·obtain⟨v,o,ho,hd⟩:=I.cell x c e;exact free c o (fun z=>(pL c z).2.2.1 x c e rfl) ho (I.jc x c e)
 ·obtain⟨e,n,ne,nf,d⟩:=I.pin p hp;have nch:p.1∉ch:=fun z=>(pL p.1 z).2.2.2 p hp rfl;exact⟨keep p.1 p.2 ne nf nch e n,free p.1 p.2 nch e n,ne,nf,d⟩
theorem Inv.un{t':Nat}(I:Inv X pins σ H s)(u:Un X.fs [] H H' s.heap h')(bT:gH X.prog X.w H' h'):Inv X pins σ H' { s with heap:=h',toks:=t' }:=by
 obtain⟨m,⟨o,es,ep,ho,r⟩,_⟩:=id I.loc;obtain⟨sl,hL⟩:=u.any ho I.free (by simp);exact I.step (g':=s.gens) (d':=s.drawn) (ch:=[]) (fun _ z=>nomatch z) (fun b o _ hb _ e n=>u.keep b o e n hb (by simp)) (fun b o _ hb _ e n=>u.slot b o e n hb (by simp)) (fun b o _ e n=>u.free b o e n (by simp)) (fun b o _ e=>u.there b o e (by simp)) u.nG u.mS u.nH (fun m' hm=>by
  obtain⟨o',es',ep',ho',r'⟩:=hm;rw[ho] at ho';cases ho';exact⟨_,es',ep',hL,r'⟩) bT I.bare
theorem Inv.call{g':Array GenState}{t':Nat}{d':Drawn}{ch:List ζ}(I:Inv X pins σ H s)(u:Un (ow X.stack) ch H H' s.heap h')(bT:gH X.prog X.w H' h')(hg:ir g')
  (pL:∀b∈ch,(b∈X.ex∨X.s₀.heap.objs.size≤b)/\b≠X.env.locals/\(∀x c,X.env.cells.lookup x=some c->c≠b)/\∀p∈X.pn++pins,p.1≠b):
  Inv X pins σ H' { s with heap:=h',gens:=g',drawn:=d',toks:=t' }:=by
 obtain⟨m,⟨o,es,ep,ho,r⟩,_⟩:=id I.loc;obtain⟨sl,hL⟩:=u.any ho I.free fun z=>(pL _ z).2.1 rfl;exact I.step (ch:=ch) pL (fun b o hL hb hc e n=>u.keep b o e n (fun z=>(bf.mp (I.tV b z)).elim hL hb) hc) (fun b o _ _ hc e n=>u.any e n hc) (fun b o hc e n=>u.free b o e n hc) (fun b o hc e=>u.there b o e hc) u.nG u.mS u.nH (fun m' hm=>by
  obtain⟨o',es',ep',ho',r'⟩:=hm;rw[ho] at ho';cases ho';exact⟨_,es',ep',hL,r'⟩) bT hg
theorem Inv.turned{t':Nat}{it:ζ}(I:Inv X pins σ H s)(k:∀b o,b≠it->s.heap.get? b=some o->h'.get? b=some o)(hn:H it=none)(hL:it≠X.env.locals)
  (h1:it∈X.ex∨X.s₀.heap.objs.size≤it) (h2:∀x c,X.env.cells.lookup x=some c->c≠it) (h3:∀p∈X.pn++pins,p.1≠it):Inv X pins σ H { s with heap:=h',toks:=t' }:=by
 have nit:∀b u,H b=some u->b≠it:=fun b u e z=>by rw[z,hn] at e;cases e
 refine I.step (g':=s.gens) (d':=s.drawn) (ch:=[it]) (fun b hb=>?_) (fun b o _ _ hc e _=>k b o (fun z=>hc (by simp[z])) e) (fun b o _ _ hc e _=>⟨o.slots,k b o (fun z=>hc (by simp[z])) e⟩) (fun _ _ _ _ n=>n)
  (fun b o hc e=>⟨o,k b o (fun z=>hc (by simp[z])) e⟩) (fun _ _ e=>e) (fun _ _ _ e=>e) (fun b ps e=>⟨#[],by rw[e];simp⟩) (fun m hm=>?_) (fun b u e=>?_) I.bare
 ·have e:b=it:=by simpa using hb
  subst e;exact⟨h1,hL,h2,h3⟩
 ·obtain⟨o,es,ep,ho,r⟩:=hm;exact⟨o,es,ep,k _ o (fR hL) ho,r⟩
 ·refine (I.bT b u e).rq (fun c v hc q=>k c v ?_ q) (fun _ q=>q) fun _ _ q=>q;rcases hc with z|z
  ·rw[z];exact nit b u e
  ·exact nit c _ z
theorem Inv.tok(I:Inv X pins σ H s)(t:Nat):Inv X pins σ H { s with toks:=t }:=I.un (h':=s.heap) (t':=t) Un.refl I.bT
theorem Inv.kept{t':Nat}(I:Inv X pins σ H s)(k:∀b u,s.heap.get? b=some u->h'.get? b=some u):Inv X pins σ H { s with heap:=h',toks:=t' }:=I.un (Un.kept k) (I.bT.kept k)
theorem Inv.laid{a:ζ}{o:HO}{t':Nat}(I:Inv X pins σ H s)(k:∀b u,s.heap.get? b=some u->h'.get? b=some u)(hp:s.heap.objs.size≤a)(new:fc X.prog X.w (upd H a o) h' a o):
  Inv X pins σ (upd H a o) { s with heap:=h',toks:=t' }:=I.un (Un.laid k hp (I.bT.fresh hp)) (I.bT.laid k hp new)
theorem Inv.write{x e:ζ}{o:HO}{t':Nat}(I:Inv X pins σ H s)(mu:C5 (H x))(he:e=x∨H e=some (.own x))(k:∀b u,b≠e->s.heap.get? b=some u->h'.get? b=some u)(heo:∃u,h'.get? e=some u)
  (new:fc X.prog X.w (upd H x o) h' x o):Inv X pins σ (upd H x o) { s with heap:=h',toks:=t' }:=I.un (Un.write mu he k heo) (I.bT.write mu he k heo new)
theorem Inv.vL{pins':List (ζ×bp)}(I:Inv X pins σ H s)(h:∀p∈pins',s.heap.get? p.1=some p.2/\H p.1=none/\p.1≠X.env.locals/\p.1∉X.fs/\∀v,p.2.data≠.cell v):Inv X pins' σ H s:=
 ⟨I.ok,I.os,I.bare,I.base,I.loc,I.cell,I.free,I.jc,fun p hp=>(ag.mp hp).elim (fun z=>I.pin p (aA _ z)) (h p),I.bT,I.len⟩
theorem uv{N:List χ}(hN:N.Nodup){i j:Nat}{x:χ}(a:N[i]?=some x)(b:N[j]?=some x):i=j:=by
 obtain⟨h1,e1⟩:=bz.mp a;obtain⟨h2,e2⟩:=bz.mp b;exact (List.getElem_inj hN).mp (e1.trans e2.symm)
theorem sg{M:Model}{A:aZ}{E:γ->ε->Prop}{i:Nat}{x:χ}{v:V}{u:γ}{Q:Unit->ε->Prop}(I:Inv X pins σ H s)(hN:X.N.Nodup)(hi:X.N[i]?=some x)(hx:Loc X.env.scope x)(r:RelV v u)
  (h:∀s',Inv X pins (σ.set i (some v)) H s'->(∃a,oS a s.heap s'.heap/\(a=X.env.locals∨X.env.cells.lookup x=some a))->Q () s') (hf:X.fn x=true∨X.env.scope.names.lookup x=some .local:=by first|exact .inl rfl|exact .inr rfl|assumption):Ψ M A (storeName X.env x u) Q E s:=by
 obtain⟨m,hn,hl⟩:=id I.loc;have hcls:(X.env.scope.kind==.class||(X.env.scope.kind==.module&&X.env.locals != X.env.globals))=false:=by rw[I.ok.kind];rfl
 have hiσ:i<σ.length:=by rw[I.len];exact (bz.mp hi).1
 have uR:=I.uR;have tracked:∀{a:ζ} {h':az},(∃o,s.heap.get? a=some o/\H a=none)->oS a s.heap h'->gH X.prog X.w H h':=fun {a h'} ha hs b ob e=>by
  obtain⟨_,_,hfree⟩:=ha;refine (I.bT b ob e).rq (fun c w' hc q=>(hs.2 c ?_).trans q) (fun _ q=>q) fun _ _ q=>q;rintro rfl;rcases hc with rfl|hc
  ·rw[hfree] at e;cases e
  ·rw[hfree] at hc;cases hc
 rcases hx with hk|hk
 ·refine wpAny_storeName_local hk hn (fun h' hn' hs=>?_) hcls;obtain⟨oL,_,_,hoL,_⟩:=id hn;refine h _ ⟨I.ok,I.os,I.bare,⟨fun b o e n hb hx=>?_,fun b o e n hb hx=>?_,I.base.free,fun b o e hx=>?_,I.base.nG,I.base.mS,I.base.nH⟩,⟨_,hn',fun j y v' e1 e2 e3=>?_⟩,fun y c e=>?_,I.free,I.jc,fun p hp=>?_,tracked ⟨oL,hoL,I.free⟩ hs,by simpa using I.len⟩ ⟨_,hs,.inl rfl⟩
  ·exact (hs.2 b (bK (ba (aa e) I.ok.above))).trans (I.base.keep b o e n hb hx)
  ·obtain⟨sl,e1⟩:=I.base.slot b o e n hb hx;exact⟨sl,(hs.2 b (bK (ba (aa e) I.ok.above))).trans e1⟩
  ·obtain⟨o',e1⟩:=I.base.there b o e hx;exact⟨o',(hs.2 b (bK (ba (aa e) I.ok.above))).trans e1⟩
  ·by_cases hj:j=i
   ·subst hj;rw[hi] at e1;cases e1;rw[g9 hiσ] at e2;cases e2;exact⟨u,r,.inl ⟨hk,by simp⟩⟩
   ·rw[iL (fR hj)] at e2;obtain⟨u',r',q⟩:=hl j y v' e1 e2 e3;refine⟨u',r',?_⟩;rcases q with⟨k,e⟩|⟨k,c,e,z⟩
    ·refine .inl ⟨k,?_⟩;have:y≠x:=fun e=>hj (uv hN e1 (e▸hi));simp[this,e]
    ·exact .inr ⟨k,c,e,z.sameBut hs (uR y c e)⟩
  ·obtain⟨w',z⟩:=I.cell y c e;exact⟨w',z.sameBut hs (uR y c e)⟩
  ·obtain⟨e,n,ne,nf,d⟩:=I.pin p hp;exact⟨(hs.2 p.1 ne).trans e,n,ne,nf,d⟩
 ·have hfn:X.fn x=true:=by
   rcases hf with z|z
   ·exact z
   ·rw[z] at hk;cases hk
  obtain⟨c,hc⟩:=I.ok.has x (.inl hk);obtain⟨w',z⟩:=I.cell x c hc;refine wpAny_storeName_cell I.ok.kind hk hc z (fun h' hc' hs=>?_);obtain⟨oc,hoc,hocd⟩:=id z;refine h { s with heap:=h' } ⟨I.ok,I.os,I.bare,⟨fun b o e n hb hx=>?_,fun b o e n hb hx=>?_,I.base.free,fun b o e hx=>?_,I.base.nG,I.base.mS,I.base.nH⟩,⟨m,hn.sameBut hs (fR (uR x c hc)),fun j y v' e1 e2 e3=>?_⟩,fun y c' e=>?_,I.free,I.jc,fun p hp=>?_,tracked ⟨oc,hoc,I.jc x c hc⟩ hs,by simpa using I.len⟩ ⟨c,hs,.inr hc⟩
  ·exact (hs.2 b (bK (ba (aa e) (I.ok.wk x c hfn hc)))).trans (I.base.keep b o e n hb hx)
  ·obtain⟨sl,e1⟩:=I.base.slot b o e n hb hx;exact⟨sl,(hs.2 b (bK (ba (aa e) (I.ok.wk x c hfn hc)))).trans e1⟩
  ·obtain⟨o',e1⟩:=I.base.there b o e hx;exact⟨o',(hs.2 b (bK (ba (aa e) (I.ok.wk x c hfn hc)))).trans e1⟩
  ·by_cases hj:j=i
   ·subst hj;rw[hi] at e1;cases e1;rw[g9 hiσ] at e2;cases e2;exact⟨u,r,.inr ⟨.inl hk,c,hc,hc'⟩⟩
   ·rw[iL (fR hj)] at e2;obtain⟨u',r',q⟩:=hl j y v' e1 e2 e3;refine⟨u',r',?_⟩;rcases q with q|⟨k,c',e,z'⟩
    ·exact .inl q
    ·refine .inr ⟨k,c',e,z'.sameBut hs ?_⟩;rintro rfl;exact hj (uv hN e1 (I.ok.inj _ _ _ e hc▸hi))
  ·by_cases hcc:c'=c
   ·subst hcc;exact⟨_,hc'⟩
   ·obtain⟨w2,z2⟩:=I.cell y c' e;exact⟨w2,z2.sameBut hs hcc⟩
  ·obtain⟨e,n,ne,nf,d⟩:=I.pin p hp;refine⟨(hs.2 p.1 ?_).trans e,n,ne,nf,d⟩;intro q;rw[q,hoc] at e;have q':oc=p.2:=aw e;exact d w' (by rw[←q'];exact hocd)
theorem tU{M:Model}{A:aZ}{E:γ->ε->Prop}{i:Nat}{x:χ}{v:V}{u:γ}{Q:Unit->ε->Prop}(I:Inv X pins σ H s)(hN:X.N.Nodup)(hi:X.N[i]?=some x)(hx:Loc X.env.scope x)(r:RelV v u)
  (h:∀s',Inv X pins (σ.set i (some v)) H s'->Q () s') (hf:X.fn x=true∨X.env.scope.names.lookup x=some .local:=by first|exact .inl rfl|exact .inr rfl|assumption):Ψ M A (storeName X.env x u) Q E s:=
 sg I hN hi hx r (fun s' I' _=>h s' I') hf
theorem Inv.Kn{s':ε}{ch:List ζ}(I:Inv X pins σ H s)(ho:s'.os=s.os)(u:Un (ow X.stack) ch H H' s.heap s'.heap)(bT:gH X.prog X.w H' s'.heap)(hg:ir s'.gens)
  (pL:∀b∈ch,(b∈X.ex∨X.s₀.heap.objs.size≤b)/\b≠X.env.locals/\(∀x c,X.env.cells.lookup x=some c->c≠b)/\∀p∈X.pn++pins,p.1≠b):Inv X pins σ H' s':=by
 obtain⟨h',g',d',t',o'⟩:=s';have e:o'=s.os:=ho;subst e;exact I.call (g':=g') (t':=t') (d':=d') u bT hg pL
end
abbrev XK:=γ->Option ζ->Hp->Prop
abbrev St:=List (Option V)
abbrev VK:=V->Hp->Prop
abbrev TE:=St->Hp->VK->Prop
abbrev TT:=St->Hp->(Bool->Hp->Prop)->Prop
abbrev TA:=St->Hp->(List V->Hp->Prop)->Prop
structure Ends where
 nx:St->Hp->Prop
 rt:VK
 bk:St->Hp->Prop:=fun _ _=>False
 ct:St->Hp->Prop:=fun _ _=>False
abbrev TS:=Ends->St->Hp->Prop
def EP(X:Cx)(pins:List (ζ×bp))(σ:St)(Q:VK)(u:γ)(s':ε):Prop:=∃v H',Inv X pins σ H' s'/\RelV v u/\Q v H'
def TP(X:Cx)(pins:List (ζ×bp))(σ:St)(Q:Bool->Hp->Prop)(b:Bool)(s':ε):Prop:=∃H',Inv X pins σ H' s'/\Q b H'
def AP(X:Cx)(pins:List (ζ×bp))(σ:St)(Q:List V->Hp->Prop)(us:List γ)(s':ε):Prop:=∃vs H',Inv X pins σ H' s'/\aR vs us/\Q vs H'
def SP(X:Cx)(pins:List (ζ×bp))(D:Ends)(f:Flow)(s':ε):Prop:=
 match f with
 |.next=>∃σ' H',Inv X pins σ' H' s'/\D.nx σ' H'
 |.brk=>∃σ' H',Inv X pins σ' H' s'/\D.bk σ' H'
 |.cont=>∃σ' H',Inv X pins σ' H' s'/\D.ct σ' H'
 |.ret u=>∃v σ' H',Inv X pins σ' H' s'/\RelV v u/\D.rt v H'
def PE(X:Cx)(e:μ)(t:TE):Prop:=
 ∀(pins:List (ζ×bp)) (s:ε) (σ:St) (H:Hp) (Q:VK),Inv X pins σ H s->t σ H Q->Ψ (model X.prog X.w) X.A (eval e X.env) (EP X pins σ Q) X.xe s
def PT(X:Cx)(e:μ)(t:TT):Prop:=
 ∀(pins:List (ζ×bp)) (s:ε) (σ:St) (H:Hp) (Q:Bool->Hp->Prop),Inv X pins σ H s->t σ H Q->Ψ (model X.prog X.w) X.A (isTrue e X.env (eval e X.env)) (TP X pins σ Q) X.xe s
def PW(X:Cx)(e:μ)(t:TT):Prop:=
 ∀(whole:Sem γ) (pins:List (ζ×bp)) (s:ε) (σ:St) (H:Hp) (Q:Bool->Hp->Prop),Inv X pins σ H s->t σ H Q->Ψ (model X.prog X.w) X.A (isTrue e X.env whole) (TP X pins σ Q) X.xe s
theorem PW.pt{X:Cx}{e:μ}{t:TT}(h:PW X e t):PT X e t:=h _
def PA(X:Cx)(es:List μ)(t:TA):Prop:=
 ∀(pos:aG) (pins:List (ζ×bp)) (s:ε) (σ:St) (H:Hp) (Q:List V->Hp->Prop),Inv X pins σ H s->t σ H Q->Ψ (model X.prog X.w) X.A (spliced (backTo pos (bw es X.env))) (AP X pins σ Q) X.xe s
def PS(X:Cx)(st:aT)(t:TS):Prop:=
 ∀(pins:List (ζ×bp)) (s:ε) (σ:St) (H:Hp) (D:Ends),Inv X pins σ H s->t D σ H->Ψ (model X.prog X.w) X.A (exec st X.env) (SP X pins D) X.xe s
def jH(X:Cx)(st:List aT)(t:TS):Prop:=
 ∀(pins:List (ζ×bp)) (s:ε) (σ:St) (H:Hp) (D:Ends),Inv X pins σ H s->t D σ H->Ψ (model X.prog X.w) X.A (execs st X.env) (SP X pins D) X.xe s
theorem bG{α:Type}{t:Sem α}{Q Q':α->ε->Prop}{M:Model}{A:aZ}{E:γ->ε->Prop}{s:ε}(h:Ψ M A t Q E s)(hQ:∀a s,Q a s->Q' a s):Ψ M A t Q' E s:=cZ h hQ fun _ _ x=>x
end L2
namespace L2
open PySem PySem.Spec PyProof.Rows
section
variable {X:Cx}
theorem bin{a b:μ}{ta tb:TE}(ha:PE X a ta)(hb:PE X b tb){pins:List (ζ×bp)}{s:ε}{σ:St}{H:Hp}{R:V->V->Hp->Prop}(I:Inv X pins σ H s)(h:ta σ H fun x H1=>tb σ H1 fun y H2=>R x y H2)
  {α:Type} {Q:α->ε->Prop} {f:γ->γ->Sem α}
  (hf:∀v u s2 x y H2,Inv X pins σ H2 s2->RelV x v->RelV y u->R x y H2->Ψ (model X.prog X.w) X.A (f v u) Q X.xe s2):
  Ψ (model X.prog X.w) X.A (eval a X.env) (fun v s₁=>Ψ (model X.prog X.w) X.A (eval b X.env) (fun u s₂=>Ψ (model X.prog X.w) X.A (f v u) Q X.xe s₂) X.xe s₁) X.xe s:=by
 refine bG (ha pins s σ H _ I h) fun v s1 ⟨x,H1,I1,r1,q1⟩=>?_;refine bG (hb pins s1 σ H1 _ I1 q1) fun u s2 ⟨y,H2,I2,r2,q2⟩=>?_;exact hf v u s2 x y H2 I2 r1 r2 q2
def wA(i:Nat):TE:=fun σ H Q=>∃v,σ[i]?=some (some v)/\Q v H
def tC(v:V):TE:=fun _ H Q=>Q v H
theorem FK{i:Nat}{x:χ}{pos:aG}(hN:X.N[i]?=some x)(hv:Ih X.env.scope x)(hd:(x==("__debug__":χ))=false:=by decide)(oq:(x==("__classdict__":χ))=false:=by decide):PE X (.Name x pos) (wA i):=by
 intro pins s σ H Q I h;obtain⟨v,e,h⟩:=h;obtain⟨m,hn,hl⟩:=I.loc;obtain⟨u,r,l⟩:=hl i x v hN e hv;have fin:EP X pins σ Q u s:=⟨v,H,I,r,h⟩;rcases l with⟨hk,hm⟩|⟨hk,c,hc,hcell⟩
 ·exact wpAny_Name (wpAny_loadName_local I.ok.kind hk hn hm fin) hd
 ·rcases hk with hk|hk
  ·exact wpAny_Name (wpAny_loadName_cell I.ok.kind hk hc hcell fin) hd
  ·exact wpAny_Name (wpAny_loadName_free I.ok.kind hk hc hcell fin oq) hd
theorem FQ{i j pos}:PE X (.Constant (.int i) j pos) (tC (.int i)):=fun _ _ _ H _ I h=>wpAny_Constant_int ⟨.int i,H,I.tok _,⟨_,rfl⟩,h⟩
theorem Jk{b j pos}:PE X (.Constant (.bool b) j pos) (tC (.bl b)):=fun _ _ _ H _ I h=>Constant_bool ⟨.bl b,H,I,rfl,h⟩
theorem FP{j pos}:PE X (.Constant .none j pos) (tC .ak):=fun _ _ _ H _ I h=>Constant_none ⟨.ak,H,I,rfl,h⟩
def Gl(X:Cx)(x:χ):Prop:=X.env.kindOf x=some .globalImplicit
theorem vZ{E:γ->ε->Prop}{pins:List (ζ×bp)}{s:ε}{σ:St}{H:Hp}{x:χ}{u:γ}{pos:aG}{Q:γ->ε->Prop}(I:Inv X pins σ H s)(hg:Gl X x)(hm:X.mg x=some u)(h:Q u s)
  (hd:(x==("__debug__":χ))=false:=by decide):Ψ (model X.prog X.w) X.A (eval (.Name x pos) X.env) Q E s:=
 jC I.ok.kind hg (Calls.loadGlobal_global (by rw[I.ok.glob];exact I.mod.glob.keeps I.bk) hm h) hd
theorem ki{E:γ->ε->Prop}{pins:List (ζ×bp)}{s:ε}{σ:St}{H:Hp}{x:χ}{u:γ}{pos:aG}{Q:γ->ε->Prop}(I:Inv X pins σ H s)(hg:Gl X x)(hm:X.mg x=none)(hv:eX x=some u)(h:Q u s)
  (hn:x≠"__name__":=by decide) (hd:(x==("__debug__":χ))=false:=by decide):Ψ (model X.prog X.w) X.A (eval (.Name x pos) X.env) Q E s:=by
 obtain⟨mb,h1,h2⟩:=I.mod.blt;exact jC I.ok.kind hg (Calls.loadGlobal_builtin (by rw[I.ok.glob];exact I.mod.glob.keeps I.bk) hm (by rw[I.ok.blt];exact h1.keeps I.bk) ((h2 x hn).trans hv) h) hd
theorem DQ{x:χ}{v:V}{u:γ}{pos:aG}(hg:Gl X x)(hm:X.mg x=some u)(r:RelV v u)(hd:(x==("__debug__":χ))=false:=by decide):PE X (.Name x pos) (tC v):=
 fun _ _ _ H _ I h=>vZ I hg hm ⟨v,H,I,r,h⟩ hd
theorem DV{x:χ}{v:V}{u:γ}{pos:aG}(hg:Gl X x)(hm:X.mg x=none)(hv:eX x=some u)(r:RelV v u)(hn:x≠"__name__":=by decide)(hd:(x==("__debug__":χ))=false:=by decide):PE X (.Name x pos) (tC v):=
 fun _ _ _ H _ I h=>ki I hg hm hv ⟨v,H,I,r,h⟩ hn hd
variable {a b:μ} {ta tb:TE} {pos:aG}
variable {tA tB':TT} {rest:List μ}
def KP(t u:TT):TT:=fun σ H Q=>t σ H fun c H1=>if c=true then u σ H1 Q else Q false H1
def LN(t u:TT):TT:=fun σ H Q=>t σ H fun c H1=>if c=true then Q true H1 else u σ H1 Q
def KI(t:TT):TT:=fun σ H Q=>t σ H fun c H1=>Q (!c) H1
theorem pw_and1(ha:PT X a tA):PW X (.BoolOp .And [a] pos) tA:=by
 intro wh pins s σ H Q I h;refine isTrue_and (bG (ha pins s σ H Q I h) fun c s1 e=>?_);cases c with
 |true=>exact isTrue_and_nil e
 |false=>exact e
theorem pw_or1(ha:PT X a tA):PW X (.BoolOp .Or [a] pos) tA:=by
 intro wh pins s σ H Q I h;refine isTrue_or (bG (ha pins s σ H Q I h) fun c s1 e=>?_);cases c with
 |false=>exact isTrue_or_nil e
 |true=>exact e
theorem pw_and(ha:PT X a tA)(hb:PW X (.BoolOp .And (b::rest) pos) tB'):PW X (.BoolOp .And (a::b::rest) pos) (KP tA tB'):=by
 intro wh pins s σ H Q I h;refine isTrue_and (bG (ha pins s σ H _ I h) fun c s1 ⟨H1,I1,q1⟩=>?_);cases c with
 |true=>exact hb wh pins s1 σ H1 Q I1 q1
 |false=>exact⟨H1,I1,q1⟩
theorem pw_or(ha:PT X a tA)(hb:PW X (.BoolOp .Or (b::rest) pos) tB'):PW X (.BoolOp .Or (a::b::rest) pos) (LN tA tB'):=by
 intro wh pins s σ H Q I h;refine isTrue_or (bG (ha pins s σ H _ I h) fun c s1 ⟨H1,I1,q1⟩=>?_);cases c with
 |true=>exact⟨H1,I1,q1⟩
 |false=>exact hb wh pins s1 σ H1 Q I1 q1
theorem FD(ha:PT X a tA):PT X (.UnaryOp .Not a pos) (KI tA):=by
 intro pins s σ H Q I h;exact isTrue_not (ha pins s σ H (fun c H1=>Q (!c) H1) I h)
def II(ta tb:TE):TE:=fun σ H Q=>ta σ H fun x H1=>∃c,x=.bl c/\if c=true then tb σ H1 Q else Q (.bl false) H1
def ID(ta:TE):TE:=fun σ H Q=>ta σ H fun x H1=>∃c,x=.bl c/\Q (.bl (!c)) H1
theorem FN{op}{t:TE}(h:PE X a t):PE X (.BoolOp op [a] pos) t:=fun pins s σ H Q I hw=>BoolOp_one (h pins s σ H Q I hw)
theorem FR(ha:PE X a ta)(hb:PE X (.BoolOp .And (b::rest) pos) tb):PE X (.BoolOp .And (a::b::rest) pos) (II ta tb):=by
 intro pins s σ H Q I h;refine BoolOp_and (bG (ha pins s σ H _ I h) fun v s1 ⟨x,H1,I1,r1,q1⟩=>?_);obtain⟨c,rfl,q1⟩:=q1;cases r1;refine fE ?_;cases c with
 |true=>exact hb pins s1 σ H1 Q I1 q1
 |false=>exact⟨.bl false,H1,I1,rfl,q1⟩
theorem FO(ha:PE X a ta):PE X (.UnaryOp .Not a pos) (ID ta):=by
 intro pins s σ H Q I h;refine UnaryOp_ (bG (ha pins s σ H _ I h) fun v s1 ⟨x,H1,I1,r1,q1⟩=>?_);obtain⟨c,rfl,q1⟩:=q1;cases r1;exact not_of (fE ⟨.bl (!c),H1,I1,rfl,q1⟩)
end
end L2
namespace L2
open PySem PySem.Spec PyProof.Rows
def fo(K:η)(H:Hp)(a:ζ)(xs:List V):Prop:=
 Rd H a (.lst xs) ∨
  ∃(o:bp) (its:Array γ) (n:Nat),K.lookup a=some o/\o.cls=.type "list"/\o.dict=none/\o.data=.seq its n/\its.size≤aj/\aR xs its.toList
def dU(K:η)(H:Hp)(a:ζ)(xs:List V):Prop:=
 Rd H a (.tup xs) ∨
  ∃(o:bp) (its:Array γ) (n:Nat),K.lookup a=some o/\o.cls=.type "tuple"/\o.dict=none/\o.data=.seq its n/\its.size≤aj/\aR xs its.toList
def LH:γ->Option V
 |.none=>some .ak
 |.bool b=>some (.bl b)
 |.int i _=>some (.int i)
 |.str x _=>some (.str x)
 |.bytes b _=>some (.Aa b)
 |.float b _=>some (.HH b)
 |.ref a=>some (.ref a)
 |.type n=>some (.ty n)
 |_=>none
theorem RelV.abs{x:V}{u:γ}(r:RelV x u):LH u=some x:=by
 cases x with
 |ak=>cases r;rfl
 |bl _=>cases r;rfl
 |int _=>obtain⟨t,rfl⟩:=r;rfl
 |str _=>obtain⟨t,rfl⟩:=r;rfl
 |Aa _=>obtain⟨t,rfl⟩:=r;rfl
 |HH _=>obtain⟨t,rfl⟩:=r;rfl
 |ref _=>cases r;rfl
 |ty _=>cases r;rfl
theorem RelV.inj{x y:V}{u:γ}(r:RelV x u)(q:RelV y u):x=y:=aw (r.abs.symm.trans q.abs)
theorem aR.inj:∀{xs ys:List V} {us:List γ},aR xs us->aR ys us->xs=ys
 |_,_,_,.nil,.nil=>rfl
 |_,_,_,.cons r t,.cons r' t'=>by rw[r.inj r',aR.inj t t']
section
variable {X:Cx} {pins:List (ζ×bp)} {σ:St} {H:Hp} {s:ε} {a:ζ} {xs ys:List V}
theorem fo.of{K:η}(h:H a=some (.lst xs)):fo K H a xs:=.inl (.inl h)
theorem dU.of{K:η}(h:H a=some (.tup xs)):dU K H a xs:=.inl (.inl h)
theorem Inv.list(I:Inv X pins σ H s)(h:fo X.K H a xs):∃its:List γ,aR xs its/\PlainL s.heap a its.toArray/\xs.length≤aj:=by
 rcases h with h|⟨o,its,n,hk,hc,hd,hs,hz,r⟩
 ·obtain⟨z,its,n,r,e⟩:=h.ok I.bT;exact⟨its,r,⟨_,n,e,rfl,rfl,rfl⟩,z⟩
 ·refine⟨its.toList,r,⟨o,n,I.jG a o hk,hc,hd,by simpa using hs⟩,?_⟩;have e:=r.length;simp only[av] at e;lia
theorem Inv.tuple(I:Inv X pins σ H s)(h:dU X.K H a xs):∃its:List γ,aR xs its/\jU s.heap a its.toArray/\xs.length≤aj:=by
 rcases h with h|⟨o,its,n,hk,hc,_,hs,hz,r⟩
 ·obtain⟨z,its,r,p⟩:=h.ok I.bT;exact⟨its,r,p.tup,z⟩
 ·refine⟨its.toList,r,⟨o,I.jG a o hk,hc,n,by simpa using hs⟩,?_⟩;have e:=r.length;simp only[av] at e;lia
theorem Inv.A7(I:Inv X pins σ H s)(h:fo X.K H a xs)(h':fo X.K H a ys):xs=ys:=by
 obtain⟨its,r,⟨o,n,e,_,_,d⟩,_⟩:=I.list h;obtain⟨its',r',⟨o',n',e',_,_,d'⟩,_⟩:=I.list h';rw[e] at e';cases e';rw[d] at d';injection d' with d1 _
 have:its=its':=by simpa using congrArg kJ d1
 subst this;exact r.inj r'
theorem Inv.yz(I:Inv X pins σ H s)(h:dU X.K H a xs)(h':dU X.K H a ys):xs=ys:=by
 obtain⟨its,r,⟨o,e,_,n,d⟩,_⟩:=I.tuple h;obtain⟨its',r',⟨o',e',_,n',d'⟩,_⟩:=I.tuple h';rw[e] at e';cases e';rw[d] at d';injection d' with d1 _
 have:its=its':=by simpa using congrArg kJ d1
 subst this;exact r.inj r'
end
abbrev Cx.ll(X:Cx)(E:γ->ε->Prop):Cx:={ X with xe:=E }
abbrev Cx.vR(X:Cx):Cx:=X.ll fun _ _=>False
theorem Cx.Ok.ll{X:Cx}(ok:X.Ok)(E:γ->ε->Prop):(X.ll E).Ok:=
 ⟨ok.mod,ok.kind,ok.glob,ok.blt,ok.above,ok.inj,ok.has,ok.wk,ok.hd,ok.frames,ok.yQ,ok.zP,ok.bs,ok.qT,ok.rD,ok.rT,ok.jy,ok.uL⟩
theorem Cx.Ok.je{X:Cx}{E:γ->ε->Prop}(ok:(X.ll E).Ok):X.Ok:=
 ⟨ok.mod,ok.kind,ok.glob,ok.blt,ok.above,ok.inj,ok.has,ok.wk,ok.hd,ok.frames,ok.yQ,ok.zP,ok.bs,ok.qT,ok.rD,ok.rT,ok.jy,ok.uL⟩
section
variable {X:Cx} {pins:List (ζ×bp)} {σ:St} {H:Hp} {s:ε} {E:γ->ε->Prop}
theorem Inv.ll(I:Inv X pins σ H s)(E:γ->ε->Prop):Inv (X.ll E) pins σ H s:=⟨I.ok.ll E,I.os,I.bare,I.base,I.loc,I.cell,I.free,I.jc,I.pin,I.bT,I.len⟩
theorem Inv.je(I:Inv (X.ll E) pins σ H s):Inv X pins σ H s:=⟨I.ok.je,I.os,I.bare,I.base,I.loc,I.cell,I.free,I.jc,I.pin,I.bT,I.len⟩
theorem SP.je{D:Ends}{f:Flow}{s':ε}(h:SP (X.ll E) pins D f s'):SP X pins D f s':=by
 cases f with
 |next=>obtain⟨σ',H',I,q⟩:=h;exact⟨σ',H',I.je,q⟩
 |brk=>obtain⟨σ',H',I,q⟩:=h;exact⟨σ',H',I.je,q⟩
 |cont=>obtain⟨σ',H',I,q⟩:=h;exact⟨σ',H',I.je,q⟩
 |ret u=>obtain⟨v,σ',H',I,r,q⟩:=h;exact⟨v,σ',H',I.je,r,q⟩
theorem jH.vR{st:List aT}{t:TS}(h:jH X.vR st t):jH X st t:=fun pins s σ H D I hw=>
 cZ (h pins s σ H D (I.ll _) hw) (fun _ _ q=>q.je) fun _ _ z=>eN z
end
section
variable {X:Cx} {st:aT} {rest:List aT} {t u:TS} {e:μ} {te:TE} {pos:aG}
def IE:TS:=fun D σ H=>D.nx σ H
def KG(t u:TS):TS:=fun D σ H=>t { D with nx:=u D } σ H
theorem DJ:jH X [] IE:=fun _ _ σ H _ I h=>iI ⟨σ,H,I,h⟩
theorem AX(h1:PS X st t)(h2:jH X rest u):jH X (st::rest) (KG t u):=by
 intro pins s σ H D I h;refine wpAny_execs_cons (bG (h1 pins s σ H { D with nx:=u D } I h) fun f s1 q=>?_);cases f with
 |next=>
  obtain⟨σ',H',I',q⟩:=q;exact h2 pins s1 σ' H' D I' q
 |ret v=>exact q
 |brk=>exact q
 |cont=>exact q
theorem DI(h1:PS X st t):jH X [st] t:=by
 intro pins s σ H D I h;refine wpAny_execs_cons (bG (h1 pins s σ H D I h) fun f s1 q=>?_);cases f with
 |next=>exact iI q
 |ret v=>exact q
 |brk=>exact q
 |cont=>exact q
theorem Inv.quiet{pins:List (ζ×bp)}{σ:St}{H:Hp}{s:ε}(I:Inv X pins σ H s):interactive X.env=false:=by simp[interactive,I.ok.kind]
def IF(te:TE):TS:=fun D σ H=>te σ H fun _ H1=>D.nx σ H1
theorem DK(he:PE X e te)(hs:swapsWith e none pos.line X.env=pure false:=by rfl):PS X (.Expr e pos) (IF te):=by
 intro pins s σ H D I h;exact wpAny_Expr_any (bG (he pins s σ H _ I h) fun v s1 ⟨x,H1,I1,r1,q1⟩=>⟨σ,H1,I1,q1⟩) I.quiet hs
def KH(te:TE):TS:=fun D σ H=>te σ H D.rt
theorem FF(he:PE X e te):PS X (.Return (some e) pos) (KH te):=by
 intro pins s σ H D I h;exact wpAny_Return_some (bG (he pins s σ H _ I h) fun v s1 ⟨x,H1,I1,r1,q1⟩=>⟨x,σ,H1,I1,r1,q1⟩)
def KN(c:TT)(t u:TS):TS:=fun D σ H=>c σ H fun b H1=>if b=true then t D σ H1 else u D σ H1
theorem Jg{c:μ}{a b:List aT}{tc:TT}(hc:PT X c tc)(ha:jH X a t)(hb:jH X b u):PS X (.If c a b pos) (KN tc t u):=by
 intro pins s σ H D I h;refine wpAny_If (bG (hc pins s σ H _ I h) fun d s1 ⟨H1,I1,q1⟩=>?_);cases d with
 |true=>exact ha pins s1 σ H1 D I1 q1
 |false=>exact hb pins s1 σ H1 D I1 q1
def EV:TS:=fun _ _ _=>False
theorem AZ:PS X st EV:=fun _ _ _ _ _ _ h=>h.elim
end
abbrev TG:=V->St->Hp->(St->Hp->Prop)->Prop
abbrev qV:=List V->St->Hp->(St->Hp->Prop)->Prop
def PG(X:Cx)(target:μ)(t:TG):Prop:=
 ∀(pins:List (ζ×bp)) (s:ε) (σ:St) (H:Hp) (v:V) (u:γ) (Q:St->Hp->Prop),Inv X pins σ H s->RelV v u->t v σ H Q ->
  Ψ (model X.prog X.w) X.A (assign target X.env u) (fun _ s'=>∃σ' H',Inv X pins σ' H' s'/\Q σ' H') X.xe s
def kx(X:Cx)(ts:List μ)(t:qV):Prop:=
 ∀(pins:List (ζ×bp)) (s:ε) (σ:St) (H:Hp) (vs:List V) (us:List γ) (Q:St->Hp->Prop),Inv X pins σ H s->aR vs us->t vs σ H Q ->
  Ψ (model X.prog X.w) X.A (assignInOrder ((assignEach ts X.env).map (·.2)) us) (fun _ s'=>∃σ' H',Inv X pins σ' H' s'/\Q σ' H') X.xe s
abbrev u0:=V->V->V->Hp->(Hp->Prop)->Prop
def BU(X:Cx)(t:u0):Prop:=
 ∀(pins:List (ζ×bp)) (s:ε) (σ:St) (H:Hp) (o i v:V) (ov iv u:γ) (Q:Hp->Prop),Inv X pins σ H s->RelV o ov->RelV i iv->RelV v u->t o i v H Q ->
  Ψ (model X.prog X.w) X.A (setItem ov iv u) (fun _ s'=>∃H',Inv X pins σ H' s'/\Q H') X.xe s
abbrev C1:=V->V->Hp->VK->Prop
def Kx(X:Cx)(op:m9)(t:C1):Prop:=
 ∀(pins:List (ζ×bp)) (s:ε) (σ:St) (H:Hp) (x y:V) (v u:γ) (Q:VK),Inv X pins σ H s->RelV x v->RelV y u->t x y H Q ->
  Ψ (model X.prog X.w) X.A (inplaceOp op v u) (EP X pins σ Q) X.xe s
section
variable {X:Cx} {pos:aG}
def xG(i:Nat):TG:=fun v σ H Q=>Q (σ.set i (some v)) H
theorem DO{i:Nat}{x:χ}(hN:X.N.Nodup)(hi:X.N[i]?=some x)(hx:Loc X.env.scope x)(hf:X.fn x=true∨X.env.scope.names.lookup x=some .local:=by first|exact .inl rfl|exact .inr rfl|assumption):PG X (.Name x pos) (xG i):=by
 intro pins s σ H v u Q I r h;exact wpAny_assign_Name (tU I hN hi hx r (fun s' I'=>⟨_,H,I',h⟩) hf)
def Lq:qV:=fun vs σ H Q=>vs=[]/\Q σ H
def J3(t:TG)(u:qV):qV:=fun vs σ H Q=>∃v r,vs=v::r/\t v σ H fun σ' H'=>u r σ' H' Q
theorem DN:kx X [] Lq:=by
 intro pins s σ H vs us Q I r h;obtain⟨e,h⟩:=h;subst e;cases r;exact assignInOrder_nil ⟨σ,H,I,h⟩
theorem A0{e:μ}{es:List μ}{t:TG}{u:qV}(h1:PG X e t)(h2:kx X es u)
  (hs:(assignEach (e::es) X.env).map (·.2)=assign e X.env::(assignEach es X.env).map (·.2):=by rfl):kx X (e::es) (J3 t u):=by
 intro pins s σ H vs us Q I r h;obtain⟨v,vr,e1,h⟩:=h;subst e1;cases r with
 |cons r rr=>
  rw[hs];refine assignInOrder_cons (bG (h1 pins s σ H _ _ _ I r h) fun _ s1 ⟨σ1,H1,I1,q1⟩=>?_);exact h2 pins s1 σ1 H1 _ _ Q I1 rr q1
def Lo(K:η)(n:Nat)(t:qV):TG:=fun v σ H Q=>∃a xs,v=.ref a/\dU K H a xs/\xs.length=n/\t xs σ H Q
theorem FI{es:List μ}{k:Nat}{t:qV}{n:Nat}(hc:X.calm=true)(h:kx X es t)
  (hn:(assignEach es X.env).length=n:=by rfl) (hst:(assignEach es X.env).findIdx? (·.1)=none:=by rfl):PG X (.Tuple es k pos) (Lo X.K n t):=by
 intro pins s σ H v u Q I r hw;obtain⟨a,xs,e1,hq,hl,hw⟩:=hw;subst e1;cases r;obtain⟨its,rv,ht,hz⟩:=I.tuple hq;refine assign_Tuple_tuple (I.ok.hd hc) ht (by simp[hn,←hl,rv.length]) hst fun h' hx=>?_;have I1:Inv X pins σ H { s with heap:=h' }:=I.kept (t':=s.toks) fun b o e=>hx b o (bK (aa e)) e
 exact h pins _ σ H xs _ Q I1 (by simpa using rv) hw
def Lp(to ti:TE)(t:u0):TG:=fun v σ H Q=>to σ H fun o H1=>ti σ H1 fun i H2=>t o i v H2 fun H3=>Q σ H3
theorem FJ{o i:μ}{to ti:TE}{t:u0}(ho:PE X o to)(hi:PE X i ti)(hs:BU X t)
  (ha:∀v,assign (.Subscript o i pos) X.env v=(do
   let ov ←holding [v] (eval o X.env)
   let iv ←holding [v,ov] (eval i X.env)
   standAt pos
   holding [v,ov,iv] (setItem ov iv v)
   release [v,ov,iv] []):=by intro _;rfl):PG X (.Subscript o i pos) (Lp to ti t):=by
 intro pins s σ H v u Q I r h
 rw[ha]
 refine Θ (eE (bG (ho pins s σ H _ I h) fun ov s1 ⟨x,H1,I1,r1,q1⟩=>?_))
 refine Θ (eE (bG (hi pins s1 σ H1 _ I1 q1) fun iv s2 ⟨y,H2,I2,r2,q2⟩=>?_))
 refine Θ (nv (Θ (eE (bG (hs pins s2 σ H2 x y v ov iv u _ I2 r1 r2 r q2) fun _ s3 ⟨H3,I3,q3⟩=>?_))))
 exact wpAny_release ⟨σ,H3,I3,q3⟩
def AF(te:TE)(g:TG):TS:=fun D σ H=>te σ H fun x H1=>g x σ H1 D.nx
theorem FH{tg e:μ}{te:TE}{g:TG}(he:PE X e te)(hg:PG X tg g)(hs:swapsWithSole [tg] e pos.line X.env=pure false:=by rfl)(hw:swappedStores [tg] e X.env=pure none:=by rfl)
  (h1:(assignEach [tg] X.env).map (·.2)=[assign tg X.env]:=by rfl):PS X (.Assign [tg] e pos) (AF te g):=by
 intro pins s σ H D I h;refine wpAny_Assign_stores (bG (he pins s σ H _ I h) fun v s1 ⟨x,H1,I1,r1,q1⟩=>?_) hs hw;rw[h1];exact bG (hg pins s1 σ H1 x v _ I1 r1 q1) fun _ s2 q=>q
theorem FE{i:Nat}{x:χ}{e:μ}{te:TE}{pos':aG}(hN:X.N.Nodup)(hi:X.N[i]?=some x)(hx:Loc X.env.scope x)(he:PE X e te)(hs:swapsWith e (some (.Name x pos')) pos.line X.env=pure false:=by rfl)(hf:X.fn x=true∨X.env.scope.names.lookup x=some .local:=by first|exact .inl rfl|exact .inr rfl|assumption):
  PS X (.Assign [.Name x pos'] e pos) (AF te (xG i)):=by
 intro pins s σ H D I h;refine wpAny_Assign_Name (bG (he pins s σ H _ I h) fun v s1 ⟨y,H1,I1,r1,q1⟩=>?_) hs;exact tU I1 hN hi hx r1 (fun s2 I2=>⟨_,H1,I2,q1⟩) hf
def IH(to ti te:TE)(tget:V->V->Hp->VK->Prop)(tip:C1)(tset:u0):TS:=fun D σ H=>to σ H fun o H1=>ti σ H1 fun i H2=>tget o i H2 fun x H3=>te σ H3 fun y H4=>tip x y H4 fun z H5=>tset o i z H5 fun H6=>D.nx σ H6
def Il(X:Cx)(t:V->V->Hp->VK->Prop):Prop:=
 ∀(pins:List (ζ×bp)) (s:ε) (σ:St) (H:Hp) (o i:V) (ov iv:γ) (Q:VK),Inv X pins σ H s->RelV o ov->RelV i iv->t o i H Q ->
  Ψ (model X.prog X.w) X.A (getItem ov iv) (EP X pins σ Q) X.xe s
theorem DL{o i e:μ}{to ti te:TE}{tget:V->V->Hp->VK->Prop}{tip:C1}{tset:u0}{op:m9}{tpos:aG}(ho:PE X o to)(hi:PE X i ti)(hg:Il X tget)(he:PE X e te)(hp:Kx X op tip)(hs:BU X tset)
  (ha:∀ov iv new,augStore i ov iv new=(do holding [new,ov,iv] (setItem ov iv new);release [new,ov,iv] [];pure .next):=by intros;rfl):PS X (.AugAssign (.Subscript o i tpos) op e pos) (IH to ti te tget tip tset):=by
 intro pins s σ H D I h;refine wpAny_AugAssign_SubscriptAny (bG (ho pins s σ H _ I h) fun ov s1 ⟨x1,H1,I1,r1,q1⟩=>?_) ha;refine bG (hi pins s1 σ H1 _ I1 q1) fun iv s2 ⟨x2,H2,I2,r2,q2⟩=>?_;refine bG (hg pins s2 σ H2 x1 x2 ov iv _ I2 r1 r2 q2) fun old s3 ⟨x3,H3,I3,r3,q3⟩=>?_;refine bG (he pins s3 σ H3 _ I3 q3) fun v s4 ⟨x4,H4,I4,r4,q4⟩=>?_;refine bG (hp pins s4 σ H4 x3 x4 old v _ I4 r3 r4 q4) fun new s5 ⟨x5,H5,I5,r5,q5⟩=>?_;exact bG (hs pins s5 σ H5 x1 x2 x5 ov iv new _ I5 r1 r2 r5 q5) fun _ s6 ⟨H6,I6,q6⟩=>⟨σ,H6,I6,q6⟩
def LR(f:Int->Int->Int):C1:=fun x y H Q=>∃i j,x=.int i/\y=.int j/\Q (.int (f i j)) H
theorem Hr:Kx X .Add (LR fun i j=>i+j):=by
 intro pins s σ H x y v u Q I r1 r2 h;obtain⟨i,j,e1,e2,q⟩:=h;subst e1;subst e2;obtain⟨t,rfl⟩:=r1;obtain⟨t',rfl⟩:=r2;exact iadd_int ⟨.int _,H,I.tok _,⟨_,rfl⟩,q⟩
end
section
variable {X:Cx} {pos:aG}
def EU(c:TT)(tb:TS):TS:=fun D σ H=>∃W:Nat->St->Hp->Prop,(∃m,W m σ H)/\∀m σ H,W m σ H ->
 c σ H fun b H1=>if b=true then ∃N:St->Hp->Prop,(∀σ' H',N σ' H'->∃m',m' < m/\W m' σ' H')/\tb { D with nx:=N,ct:=N,bk:=D.nx } σ H1 else D.nx σ H1
theorem AY{c:μ}{body:List aT}{tc:TT}{tb:TS}(hp:jq (model X.prog X.w) X.A X.env X.xe)(hc:PT X c tc)(hb:jH X body tb):PS X (.While c body [] pos) (EU tc tb):=by
 intro pins s σ H D I h;obtain⟨W,⟨m0,w0⟩,turn⟩:=h;refine wpAny_While (codeAny_whileLoop (fun n s'=>∃σ' H',Inv X pins σ' H' s'/\W n σ' H') ?_ m0 ⟨σ,H,I,w0⟩);rintro n s1 ⟨σ1,H1,I1,w1⟩;refine eo hp (bG (hc pins s1 σ1 H1 _ I1 (turn n σ1 H1 w1)) fun b s2 ⟨H2,I2,q2⟩=>?_);cases b with
 |true=>
  obtain⟨N,hN,q2⟩:=q2;rw[if_pos rfl];refine eo hp (bG (hb pins s2 σ1 H2 _ I2 q2) fun f s3 q3=>?_);cases f with
  |next=>
   obtain⟨σ3,H3,I3,n3⟩:=q3;obtain⟨m',hm,w3⟩:=hN σ3 H3 n3;exact⟨m',hm,σ3,H3,I3,w3⟩
  |cont=>
   obtain⟨σ3,H3,I3,n3⟩:=q3;obtain⟨m',hm,w3⟩:=hN σ3 H3 n3;exact⟨m',hm,σ3,H3,I3,w3⟩
  |brk=>exact q3
  |ret v=>exact q3
 |false=>
  rw[if_neg ai];exact iI ⟨σ1,H2,I2,q2⟩
end
structure It where
 go:Nat->Hp->Prop
 BY:Nat->Hp->V->Hp->Prop
 stop:Nat->Hp->Prop
def jB(X:Cx)(pins:List (ζ×bp))(H:Hp)(b:ζ):Prop:=
 H b=none/\b≠X.env.locals/\b∉X.fs/\(b∈X.ex∨X.s₀.heap.objs.size≤b)/\(∀x c,X.env.cells.lookup x=some c->c≠b)/\∀p∈X.pn++pins,p.1≠b
theorem Inv.qd{X:Cx}{pins:List (ζ×bp)}{σ:St}{H H':Hp}{s:ε}{b:ζ}(I:Inv X pins σ H s)(hb:s.heap.objs.size≤b)(hn:H' b=none):jB X pins H' b:=by
 refine⟨hn,oK (ba I.lt hb),I.K4 hb,.inr (aD I.sz hb),fun x c e z=>?_,fun p hp z=>?_⟩
 ·obtain⟨v,q⟩:=I.cell x c e;exact absurd (ba q.lt (by rw[z];exact hb)) (dC _)
 ·exact absurd (ba (aa (I.pin p hp).1) (by rw[z];exact hb)) (dC _)
structure Turn(P:aq)(w:aC)(K:η)(tg:μ)(J:It)(fp:List ζ)(it:ζ)(tn:Nat->az->Prop):Prop where
 mem:it∈fp
 obj:∀i h,tn i h->∀b∈fp,∃o,h.get? b=some o/\∀v,o.data≠.cell v
 keep:∀i h h',tn i h->(∀b∈fp,∀o,h.get? b=some o->h'.get? b=some o)->tn i h'
 item:∀(X:Cx),X.prog=P->X.w=w->X.K=K->X.calm=true->∀(i:Nat) (pins:List (ζ×bp)) (s:ε) (σ:St) (H:Hp) (E:γ->ε->Prop),Inv X pins σ H s->(∀b∈fp,jB X pins H b)->tn i s.heap->J.go i H ->
  Ψ (model P w) X.A (pyNext (.ref it)) (fun r s1=>∃u,r=some u ∧
   Ψ (model P w) X.A (letOwnedTupleGo tg (.ref it) u) (fun _ s2=>∃x H',Inv X pins σ H' s2/\RelV x u/\J.BY i H x H'/\tn (i+1) s2.heap/\∀b∈fp,H' b=none) E s1) E s
 done:∀(X:Cx),X.prog=P->X.w=w->X.K=K->X.calm=true->∀(i:Nat) (pins:List (ζ×bp)) (s:ε) (σ:St) (H:Hp) (E:γ->ε->Prop),Inv X pins σ H s->(∀b∈fp,jB X pins H b)->tn i s.heap->J.stop i H ->
  Ψ (model P w) X.A (pyNext (.ref it)) (fun r s1=>r=none/\Inv X pins σ H s1) E s
 self:∀(A:aZ) (i:Nat) (s:ε) (Q:γ->ε->Prop) (E:γ->ε->Prop),tn i s.heap->Q (.ref it) s->Ψ (model P w) A (pyIter (.ref it)) Q E s
abbrev TI:=St->Hp->(It->Hp->Prop)->Prop
def C4(X:Cx)(pins:List (ζ×bp))(σ:St)(tg:μ)(R:It->Hp->Prop)(itv:γ)(s2:ε):Prop:=
 ∃(it:ζ) (fp:List ζ) (tn:Nat->az->Prop) (J:It) (H':Hp),itv=.ref it/\Inv X pins σ H' s2/\Turn X.prog X.w X.K tg J fp it tn/\tn 0 s2.heap/\(∀b∈fp,jB X pins H' b)/\R J H'
def PI(X:Cx)(tg iter:μ)(wi:TI):Prop:=
 ∀(pins:List (ζ×bp)) (s:ε) (σ:St) (H:Hp) (R:It->Hp->Prop),Inv X pins σ H s->wi σ H R ->
  Ψ (model X.prog X.w) X.A (eval iter X.env) (fun v s1=>Ψ (model X.prog X.w) X.A (pyIter v) (C4 X pins σ tg R) X.xe s1) X.xe s
theorem tz{M:Model}{A:aZ}{E:γ->ε->Prop}{s:ε}{tg:μ}{it:ζ}{u:γ}{o:bp}{n:String}{vs:Array γ}{Q:Unit->ε->Prop}(ho:s.heap.get? it=some o)(hc:o.cls=.type n)(hd:o.data=.fields vs)
    (hn:["enumerate","zip","dict_itemiterator","dict_reverseitemiterator","odict_iterator","itertools.zip_longest","itertools.pairwise"].contains n=false) (hQ:Q () s):Ψ M A (letOwnedTupleGo tg (.ref it) u) Q E s:=by
  unfold letOwnedTupleGo;cases tg<;>first
    |exact bt hQ
    | (cases u<;>first
        |exact bt hQ
        | (refine Θ (wpAny_load ho ?_)
           rw[hc,hd];show Ψ M A (if (["enumerate","zip","dict_itemiterator","dict_reverseitemiterator","odict_iterator","itertools.zip_longest","itertools.pairwise"].contains n&&vs[0]?==some (rawInt _))=true then _ else _) Q E s;rw[if_neg (by intro h;rw[hn,mC] at h;cases h)];exact bt hQ))
def KA(K:η)(a:ζ):It:=
 ⟨fun i H=>∃xs x,fo K H a xs/\xs[i]?=some x,fun i H x H'=>H'=H/\∀xs,fo K H a xs->xs[i]?=some x,fun i H=>∃xs,fo K H a xs/\xs.length≤i⟩
def Kz(K:η)(a:ζ):It:=
 ⟨fun i H=>∃xs x,dU K H a xs/\xs[i]?=some x,fun i H x H'=>H'=H/\∀xs,dU K H a xs->xs[i]?=some x,fun i H=>∃xs,dU K H a xs/\xs.length≤i⟩
def Ad(lo:Int)(n:Nat):It:=⟨fun i _=>i<n,fun i H x H'=>H'=H/\x=.int (lo+i),fun i _=>n≤i⟩
theorem yy{P:aq}{w:aC}{K:η}{tg:μ}(a it:ζ):Turn P w K tg (KA K a) [it] it (fun i h=>h.IsListIter it a i) where
 mem:=by simp
 obj:=fun i h st b hb=>by
  have e:b=it:=by simpa using hb
  subst e;obtain⟨o,e,c,d⟩:=st;exact⟨o,e,fun v z=>by rw[d] at z;cases z⟩
 keep:=fun i h h' st k=>st.at fun o e=>k it (by simp) o e
 item:=by
  intro X hP hw hK hc i pins s σ H E I hf st hg;subst hP hw hK;obtain⟨xs,x,hq,hx⟩:=hg;obtain⟨its,rv,p,hz⟩:=I.list hq;obtain⟨u,hu,ru⟩:=rv.get hx;obtain⟨f0,f1,f2,f3,f4,f5⟩:=hf it (by simp);refine wpAny_pyNext_list_item st p.isList (x:=u) (by simpa using hu) fun h' st' sb=>?_;have I1:Inv X pins σ H { s with heap:=h' }:=I.turned (t':=s.toks) (fun b o hb e=>(sb.2 b hb).trans e) f0 f1 f3 f4 f5;obtain⟨o,e,c,d⟩:=id st';exact⟨u,rfl,tz (s:={ s with heap:=h' }) e c d (by decide) ⟨x,H,I1,ru,⟨rfl,fun ys hy=>by rw[I.A7 hy hq];exact hx⟩,st',fun b hb=>(hf b hb).1⟩⟩
 done:=by
  intro X hP hw hK hc i pins s σ H E I hf st hg;subst hP hw hK;obtain⟨xs,hq,hx⟩:=hg;obtain⟨its,rv,p,hz⟩:=I.list hq;obtain⟨f0,f1,f2,f3,f4,f5⟩:=hf it (by simp);have hl:=rv.length;exact wpAny_pyNext_list_end (I.ok.hd hc) st p.isList (by simp;lia) fun h' eb=>⟨rfl,I.turned (t':=s.toks) (fun b o hb e=>eb b o hb e) f0 f1 f3 f4 f5⟩
 self:=fun _ _ _ _ _ st h=>wpAny_pyIter_listiter st h
theorem wy{P:aq}{w:aC}{K:η}{tg:μ}(a it:ζ):Turn P w K tg (Kz K a) [it] it (fun i h=>h.IsTupleIter it a i) where
 mem:=by simp
 obj:=fun i h st b hb=>by
  have e:b=it:=by simpa using hb
  subst e;obtain⟨o,e,c,d⟩:=st;exact⟨o,e,fun v z=>by rw[d] at z;cases z⟩
 keep:=fun i h h' st k=>st.at fun o e=>k it (by simp) o e
 item:=by
  intro X hP hw hK hc i pins s σ H E I hf st hg;subst hP hw hK;obtain⟨xs,x,hq,hx⟩:=hg;obtain⟨its,rv,p,hz⟩:=I.tuple hq;obtain⟨u,hu,ru⟩:=rv.get hx;obtain⟨f0,f1,f2,f3,f4,f5⟩:=hf it (by simp);refine wpAny_pyNext_tuple_item st (show s.heap.IsTuple a its.toArray from p) (x:=u) (by simpa using hu) fun h' st' sb=>?_;have I1:Inv X pins σ H { s with heap:=h' }:=I.turned (t':=s.toks) (fun b o hb e=>(sb.2 b hb).trans e) f0 f1 f3 f4 f5;obtain⟨o,e,c,d⟩:=id st';exact⟨u,rfl,tz (s:={ s with heap:=h' }) e c d (by decide) ⟨x,H,I1,ru,⟨rfl,fun ys hy=>by rw[I.yz hy hq];exact hx⟩,st',fun b hb=>(hf b hb).1⟩⟩
 done:=by
  intro X hP hw hK hc i pins s σ H E I hf st hg;subst hP hw hK;obtain⟨xs,hq,hx⟩:=hg;obtain⟨its,rv,p,hz⟩:=I.tuple hq;obtain⟨f0,f1,f2,f3,f4,f5⟩:=hf it (by simp);have hl:=rv.length;exact wpAny_pyNext_tuple_end (I.ok.hd hc) st (show s.heap.IsTuple a its.toArray from p) (by simp;lia) fun h' eb=>⟨rfl,I.turned (t':=s.toks) (fun b o hb e=>eb b o hb e) f0 f1 f3 f4 f5⟩
 self:=fun _ _ _ _ _ st h=>wpAny_pyIter_tupleiter st h
theorem wz{P:aq}{w:aC}{K:η}{tg:μ}(it:ζ)(lo:Int)(n:Nat):Turn P w K tg (Ad lo n) [it] it (fun i h=>lF h it (lo+(i:Nat)*1) ((n:Int)-(i:Nat)) 1) where
 mem:=by simp
 obj:=fun i h st b hb=>by
  have e:b=it:=by simpa using hb
  subst e;exact⟨_,st,fun v z=>by
   have z':Data.fields _=Data.cell v:=z;cases z'⟩
 keep:=fun i h h' st k=>k it (by simp) _ st
 item:=by
  intro X hP hw hK hc i pins s σ H E I hf st hg;subst hP hw hK;obtain⟨f0,f1,f2,f3,f4,f5⟩:=hf it (by simp);have W:=Walks.range (prog:=X.prog) (w:=X.w) (I.ok.hd hc) it lo 1 n;refine W.item i s _ _ hg st fun v h' tk hv st' kk=>?_;obtain⟨t,rfl⟩:=hv;have I1:Inv X pins σ H { s with heap:=h',toks:=tk }:=I.turned (fun b o hb e=>kk b o (by simpa using hb) e) f0 f1 f3 f4 f5;refine⟨_,rfl,tz (s:={ s with heap:=h',toks:=tk }) (n:="range_iterator") st' rfl rfl (by decide) ⟨.int (lo+i),H,I1,⟨t,?_⟩,⟨rfl,rfl⟩,st',fun b hb=>(hf b hb).1⟩⟩;rw[Int.mul_one]
 done:=by
  intro X hP hw hK hc i pins s σ H E I hf st hg;subst hP hw hK;obtain⟨f0,f1,f2,f3,f4,f5⟩:=hf it (by simp);exact wpAny_pyNext_range_end (I.ok.hd hc) st (by have:n≤i:=hg;lia) fun h' eb=>⟨rfl,I.turned (t':=s.toks) (fun b o hb e=>eb b o hb e) f0 f1 f3 f4 f5⟩
 self:=fun _ _ _ _ _ st h=>wpAny_pyIter_rangeiter st h
end L2
namespace L2
open PySem PySem.Spec PyProof.Rows
section
variable {X:Cx} {tg:μ}
theorem ug{pins:List (ζ×bp)}{σ:St}{H:Hp}{s:ε}{R:It->Hp->Prop}{E:γ->ε->Prop}{lo hi:Int}{t u v:Tok}{tk:Nat}(I:Inv X pins σ H s)(h1:-(2^62)≤lo)(h2:lo<2^62)(h3:-(2^62)≤hi)(h4:hi<2^62)
  (q:R (Ad lo (hi-lo).toNat) H):Ψ (model X.prog X.w) X.A (pyIter (.ref s.heap.objs.size)) (C4 X pins σ tg R) E { s with heap:=s.heap.push { cls:=.type "range",data:=.fields #[.int lo t,.int hi u,.int 1 v]},toks:=tk }:=by
 refine wpAny_pyIter_range (pR ..) (small_one h1 h2 h3 h4) ?_;have I1:Inv X pins σ H { s with heap:=s.heap.push { cls:=.type "range",data:=.fields #[.int lo t,.int hi u,.int 1 v]},toks:=tk }:=I.kept fun b o e=>ρ _ e;refine⟨(s.heap.push { cls:=.type "range",data:=.fields #[.int lo t,.int hi u,.int 1 v]}).objs.size,[(s.heap.push { cls:=.type "range",data:=.fields #[.int lo t,.int hi u,.int 1 v]}).objs.size],_,_,H,rfl,
  I1.kept (t':=tk) fun b o e=>ρ _ e,wz _ lo (hi-lo).toNat,?_,fun b hb=>?_,q⟩
 ·have e1:lo+((0:Nat):Int)*1=lo:=by simp
  have e2:(((hi-lo).toNat:Nat):Int)-((0:Nat):Int)=bH lo hi 1:=by rw[rangeSize_one];split<;>lia
  show lF _ _ (lo+((0:Nat):Int)*1) ((((hi-lo).toNat:Nat):Int)-((0:Nat):Int)) 1;rw[e1,e2];exact aQ _ rfl
 ·have e:b=(s.heap.push { cls:=.type "range",data:=.fields #[.int lo t,.int hi u,.int 1 v]}).objs.size:=by simpa using hb
  subst e;exact I1.qd (ω _) (I1.bT.fresh (ω _))
def mP(ta:TA):TI:=fun σ H R=>ta σ H fun vs H1=>∃j:Int,vs=[.int j]/\-(2^62)≤j/\j<2^62/\R (Ad 0 j.toNat) H1
def pf(ta:TA):TI:=fun σ H R=>ta σ H fun vs H1=>∃i j:Int,vs=[.int i,.int j]/\(-(2^62)≤i/\i<2^62/\-(2^62)≤j/\j<2^62)/\R (Ad i (j-i).toNat) H1
theorem zo{a:μ}{ta:TA}{p pos:aG}(hg:Gl X "range")(hm:X.mg "range" = none)(ha:PA X [a] ta)(hs:bw [a] X.env=[(false,eval a X.env)]:=by rfl):PI X tg (.Call (.Name "range" p) [a] [] pos) (mP ta):=by
 intro pins s σ H R I h;refine Call_ (ki I hg hm m6 (cU (bG (ha pos pins s σ H _ I h) fun us s1 ⟨vs,H1,I1,r1,q1⟩=>?_) hs rfl));obtain⟨j,e,q1,q2,q⟩:=q1;subst e;cases r1 with
 |cons r rr=>
  cases rr;obtain⟨t,rfl⟩:=r;exact call_range_1 (ug I1 (by lia) (by lia) q1 q2 (by simpa using q))
theorem zm{a b:μ}{ta:TA}{p pos:aG}(hg:Gl X "range")(hm:X.mg "range" = none)(ha:PA X [a,b] ta)(hs:bw [a,b] X.env=[(false,eval a X.env),(false,eval b X.env)]:=by rfl)(hs2:bw [b] X.env=[(false,eval b X.env)]:=by rfl):
  PI X tg (.Call (.Name "range" p) [a,b] [] pos) (pf ta):=by
 intro pins s σ H R I h;refine Call_ (ki I hg hm m6 (cU (bG (ha pos pins s σ H _ I h) fun us s1 ⟨vs,H1,I1,r1,q1⟩=>?_) (by rw[hs,hs2]) (by rw[hs2];rfl)));obtain⟨i,j,e,⟨q1,q2,q3,q4⟩,q⟩:=q1;subst e;cases r1 with
 |cons r rr=>
  cases rr with
  |cons r' rr=>
   cases rr;obtain⟨t,rfl⟩:=r;obtain⟨t',rfl⟩:=r';exact call_range_2 (ug I1 q1 q2 q3 q4 q)
def KO(wi:TI)(g:TG)(tb:TS):TS:=fun D σ H=>wi σ H fun J H1=>∃W:Nat->Nat->St->Hp->Prop,(∃m,W 0 m σ H1)/\∀i m σ H,W i m σ H ->
 (J.stop i H/\D.nx σ H)∨(J.go i H/\∃N:St->Hp->Prop,(∀σ' H',N σ' H'->∃m',m' < m/\W (i+1) m' σ' H')/\∀x H',J.BY i H x H'->g x σ H' fun σ2 H2=>tb { D with nx:=N,ct:=N,bk:=D.nx } σ2 H2)
def nY(fp:List ζ)(h:az):List (ζ×bp):=fp.filterMap fun b=>(h.get? b).map fun o=>(b,o)
theorem jL{fp:List ζ}{h:az}{b:ζ}{o:bp}(hb:b∈fp)(e:h.get? b=some o):(b,o)∈nY fp h:=oQ.mpr ⟨b,hb,by rw[e];rfl⟩
theorem zx{fp:List ζ}{h:az}{p:ζ×bp}(hp:p∈nY fp h):p.1∈fp/\h.get? p.1=some p.2:=by
 obtain⟨b,hb,e⟩:=oQ.mp hp;cases q:h.get? b with
 |none=>rw[q] at e;cases e
 |some o=>
  rw[q] at e;have e':(b,o)=p:=aw e;subst e';exact⟨hb,q⟩
theorem Inv.pinned{pins:List (ζ×bp)}{σ:St}{H:Hp}{s:ε}{fp:List ζ}(I:Inv X pins σ H s)(hf:∀b∈fp,jB X pins H b)(ho:∀b∈fp,∃o,s.heap.get? b=some o/\∀v,o.data≠.cell v):Inv X (pins++nY fp s.heap) σ H s:=
 I.vL fun p hp=>(ag.mp hp).elim (fun z=>I.pin p (Ξ _ z)) fun z=>by
  obtain⟨hb,e⟩:=zx z;obtain⟨f0,f1,f2,_⟩:=hf p.1 hb;obtain⟨o,e',d⟩:=ho p.1 hb;rw[e] at e';cases e';exact⟨e,f0,f1,f2,d⟩
theorem Inv.mE{pins pl:List (ζ×bp)}{σ:St}{H:Hp}{s:ε}(I:Inv X (pins++pl) σ H s):Inv X pins σ H s:=I.vL fun p hp=>I.pin p (Ξ _ (aA _ hp))
theorem FG{iter:μ}{body:List aT}{wi:TI}{g:TG}{tb:TS}{pos:aG}(hp:jq (model X.prog X.w) X.A X.env X.xe)(hc:X.calm=true)(hi:PI X tg iter wi)(hg:PG X tg g)(hb:jH X body tb)
  (hs:∀x,foldedSetIterable iter X.env x=pure x:=by intro _;rfl):PS X (.For tg iter body [] pos) (KO wi g tb):=by
 intro pins s σ H D I h;refine wpAny_For (bG (hi pins s σ H _ I h) fun v s1 h1=>bG h1 fun itv s2 h2=>?_) hs;obtain⟨it,fp,tn,J,H2,e,I2,T,st2,f2,W,⟨m0,w0⟩,turn⟩:=h2;subst e
 -- what stays true of the iterator's objects through the loop
 have stat:∀{H':Hp},(∀b∈fp,H' b=none)->∀b∈fp,jB X pins H' b:=fun hn b hb=>⟨hn b hb,(f2 b hb).2⟩;refine codeAny_forLoop_any (fun n s'=>∃i σ' H',Inv X pins σ' H' s'/\tn i s'.heap/\(∀b∈fp,H' b=none)/\W i n σ' H') ?_ m0 ⟨0,σ,H2,I2,st2,fun b hb=>(f2 b hb).1,w0⟩;rintro n s3 ⟨i,σ3,H3,I3,st3,fr3,w3⟩;rcases turn i n σ3 H3 w3 with⟨stop,qn⟩|⟨go,N,hN,step⟩
 ·refine eo hp (bG (T.done X rfl rfl rfl hc i pins s3 σ3 H3 X.xe I3 (stat fr3) st3 stop) fun r s4 ⟨hr,I4⟩=>?_);subst hr;exact iI ⟨σ3,H3,I4,qn⟩
 ·refine eo hp (bG (T.item X rfl rfl rfl hc i pins s3 σ3 H3 X.xe I3 (stat fr3) st3 go) fun r s4 ⟨u,hr,h4⟩=>?_);subst hr;refine eo hp (bG h4 fun _ s5 ⟨x,H5,I5,r5,y5,st5,fr5⟩=>?_);have I5':=I5.pinned (stat fr5) (T.obj _ _ st5);refine eo hp (bG (hg _ s5 σ3 H5 x u _ I5' r5 (step x H5 y5)) fun _ s6 ⟨σ6,H6,I6,q6⟩=>?_);refine eo hp (bG (hb _ s6 σ6 H6 _ I6 q6) fun f s7 q7=>?_);have again:∀{σ7:St} {H7:Hp},Inv X (pins++nY fp s5.heap) σ7 H7 s7->N σ7 H7->∃m,m<n/\∃i σ' H',Inv X pins σ' H' s7/\tn i s7.heap/\(∀b∈fp,H' b=none)/\W i m σ' H':=fun {σ7 H7} I7 n7=>by
   obtain⟨m',hm,w7⟩:=hN σ7 H7 n7;refine⟨m',hm,i+1,σ7,H7,I7.mE,T.keep _ _ _ st5 fun b hb o e=>(I7.pin (b,o) (Ξ _ (Ξ _ (jL hb e)))).1,fun b hb=>?_,w7⟩;obtain⟨o,e,d⟩:=T.obj _ _ st5 b hb;exact (I7.pin (b,o) (Ξ _ (Ξ _ (jL hb e)))).2.1
  cases f with
  |next=>obtain⟨σ7,H7,I7,n7⟩:=q7;exact again I7 n7
  |cont=>obtain⟨σ7,H7,I7,n7⟩:=q7;exact again I7 n7
  |brk=>obtain⟨σ7,H7,I7,q7⟩:=q7;exact⟨σ7,H7,I7.mE,q7⟩
  |ret v=>obtain⟨x7,σ7,H7,I7,r7,q7⟩:=q7;exact⟨x7,σ7,H7,I7.mE,r7,q7⟩
end
end L2
namespace L2
open PySem PySem.Spec PyProof.Rows
abbrev R2:=V->V->Hp->VK->Prop
def dB(X:Cx)(f:γ->γ->Sem γ)(r:R2):Prop:=
 ∀(pins:List (ζ×bp)) (s:ε) (σ:St) (H:Hp) (x y:V) (v u:γ) (Q:VK),Inv X pins σ H s->RelV x v->RelV y u->r x y H Q ->
  Ψ (model X.prog X.w) X.A (f v u) (EP X pins σ Q) X.xe s
def Ii(X:Cx)(f:γ->Sem γ)(r:V->Hp->VK->Prop):Prop:=
 ∀(pins:List (ζ×bp)) (s:ε) (σ:St) (H:Hp) (x:V) (v:γ) (Q:VK),Inv X pins σ H s->RelV x v->r x H Q ->
  Ψ (model X.prog X.w) X.A (f v) (EP X pins σ Q) X.xe s
def iG(X:Cx)(f:γ)(r:List V->Hp->VK->Prop):Prop:=
 ∀(pins:List (ζ×bp)) (s:ε) (σ:St) (H:Hp) (xs:List V) (us:List γ) (Q:VK),Inv X pins σ H s->aR xs us->r xs H Q ->
  Ψ (model X.prog X.w) X.A (call f us) (EP X pins σ Q) X.xe s
def LI(X:Cx)(r:V->Hp->(Bool->Hp->Prop)->Prop):Prop:=
 ∀(pins:List (ζ×bp)) (s:ε) (σ:St) (H:Hp) (x:V) (v:γ) (Q:Bool->Hp->Prop),Inv X pins σ H s->RelV x v->r x H Q ->
  Ψ (model X.prog X.w) X.A (truthy v) (TP X pins σ Q) X.xe s
def yP(r:R2)(ta tb:TE):TE:=fun σ H Q=>ta σ H fun x H1=>tb σ H1 fun y H2=>r x y H2 Q
def LM(r:V->Hp->VK->Prop)(ta:TE):TE:=fun σ H Q=>ta σ H fun x H1=>r x H1 Q
def rI(C:Int->Int->Prop)(g:Int->Int->V):R2:=fun x y H Q=>∃i j,x=.int i/\y=.int j/\C i j/\Q (g i j) H
def lN(g:Int->Int->V):R2:=fun x y H Q=>∃i j,x=.int i/\y=.int j/\Q (g i j) H
def rU(g:Int->V):V->Hp->VK->Prop:=fun x H Q=>∃i,x=.int i/\Q (g i) H
section
variable {X:Cx} {a b c:μ} {ta tb tc:TE} {pos:aG}
theorem BS(ha:PE X a ta)(hb:PE X b tb){pins:List (ζ×bp)}{s:ε}{σ:St}{H:Hp}{R:V->V->Hp->Prop}(I:Inv X pins σ H s)
  (h:ta σ H fun x H1=>tb σ H1 fun y H2=>R x y H2) {Q:γ->ε->Prop} {f:γ->γ->Sem γ}
  (hf:∀v u s2 x y H2,Inv X pins σ H2 s2->RelV x v->RelV y u->R x y H2->Ψ (model X.prog X.w) X.A (f v u) Q X.xe s2):
  Ψ (model X.prog X.w) X.A (eval a X.env) (fun v s₁=>Ψ (model X.prog X.w) X.A (eval b X.env) (fun u s₂=>Ψ (model X.prog X.w) X.A (f v u) Q X.xe s₂) X.xe s₁) X.xe s:=by
 refine bG (ha pins s σ H _ I h) fun v s1 ⟨x,H1,I1,r1,q1⟩=>?_;refine bG (hb pins s1 σ H1 _ I1 q1) fun u s2 ⟨y,H2,I2,r2,q2⟩=>?_;exact hf v u s2 x y H2 I2 r1 r2 q2
theorem Ji{op:m9}{r:R2}(ho:dB X (binaryOp op) r)(ha:PE X a ta)(hb:PE X b tb):PE X (.BinOp a op b pos) (yP r ta tb):=by
 intro pins s σ H Q I h;exact wpAny_BinOp (BS ha hb I h fun v u s2 x y H2 I2 rx ry q=>ho pins s2 σ H2 x y v u Q I2 rx ry q)
theorem Jh{op:UnaryOp}{r:V->Hp->VK->Prop}(ho:Ii X (unaryOp op) r)(ha:PE X a ta):PE X (.UnaryOp op a pos) (LM r ta):=by
 intro pins s σ H Q I h;exact UnaryOp_ (bG (ha pins s σ H _ I h) fun v s1 ⟨x,H1,I1,r1,q1⟩=>ho pins s1 σ H1 x v Q I1 r1 q1)
theorem Cu{f:γ->γ->Sem γ}{C:Int->Int->Prop}{g:Int->Int->Int}
  (rule:∀(i j:Int) (t u:Tok) (s:ε) (Q:γ->ε->Prop) (E:γ->ε->Prop),C i j->Q (.int (g i j) s.toks) { s with toks:=s.toks+1 }->Ψ (model X.prog X.w) X.A (f (.int i t) (.int j u)) Q E s):
  dB X f (rI C fun i j=>.int (g i j)):=by
 intro pins s σ H x y v u Q I rx ry h;obtain⟨i,j,rfl,rfl,hc,q⟩:=h;obtain⟨t,rfl⟩:=rx;obtain⟨t',rfl⟩:=ry;exact rule i j t t' s _ _ hc ⟨.int (g i j),H,I.tok _,⟨_,rfl⟩,q⟩
theorem Gd{f:γ->γ->Sem γ}{g:Int->Int->Int}
  (rule:∀(i j:Int) (t u:Tok) (s:ε) (Q:γ->ε->Prop) (E:γ->ε->Prop),Q (.int (g i j) s.toks) { s with toks:=s.toks+1 }->Ψ (model X.prog X.w) X.A (f (.int i t) (.int j u)) Q E s):
  dB X f (lN fun i j=>.int (g i j)):=by
 intro pins s σ H x y v u Q I rx ry h;obtain⟨i,j,rfl,rfl,q⟩:=h;obtain⟨t,rfl⟩:=rx;obtain⟨t',rfl⟩:=ry;exact rule i j t t' s _ _ ⟨.int (g i j),H,I.tok _,⟨_,rfl⟩,q⟩
theorem A2{f:γ->γ->Sem γ}{g:Int->Int->Bool}
  (rule:∀(i j:Int) (t u:Tok) (s:ε) (Q:γ->ε->Prop) (E:γ->ε->Prop),Q (.bool (g i j)) s->Ψ (model X.prog X.w) X.A (f (.int i t) (.int j u)) Q E s):
  dB X f (lN fun i j=>.bl (g i j)):=by
 intro pins s σ H x y v u Q I rx ry h;obtain⟨i,j,rfl,rfl,q⟩:=h;obtain⟨t,rfl⟩:=rx;obtain⟨t',rfl⟩:=ry;exact rule i j t t' s _ _ ⟨.bl (g i j),H,I,rfl,q⟩
def BX(i j:Int):Prop:=0≤j/\j≤1000000/\i.natAbs<2^64
theorem Gc:dB X (binaryOp .Add) (lN fun i j=>.int (i+j)):=Gd fun _ _ _ _ _ _ _ q=>add_int q
theorem um:dB X (binaryOp .Sub) (lN fun i j=>.int (i-j)):=Gd fun _ _ _ _ _ _ _ q=>sub_int q
theorem fI:dB X (binaryOp .Mod) (rI (fun _ j=>0<j) fun i j=>.int (i%j)):=Cu fun i j _ _ _ _ _ hc q=>by
 have h1:(0:Int)<j:=hc;exact mod_int' (by lia) (by rw[Int.fmod_eq_emod_of_nonneg i (by lia)];exact q)
theorem FV:dB X (binaryOp .Pow) (rI BX fun i j=>.int (i^j.toNat)):=Cu fun _ _ _ _ _ _ _ hc q=>pow_int_small hc.1 hc.2.1 hc.2.2 q
theorem LL{f:γ->Sem γ}{g:Int->Int}
  (rule:∀(i:Int) (t:Tok) (s:ε) (Q:γ->ε->Prop) (E:γ->ε->Prop),Q (.int (g i) s.toks) { s with toks:=s.toks+1 }->Ψ (model X.prog X.w) X.A (f (.int i t)) Q E s):
  Ii X f (rU fun i=>.int (g i)):=by
 intro pins s σ H x v Q I rx h;obtain⟨i,rfl,q⟩:=h;obtain⟨t,rfl⟩:=rx;exact rule i t s _ _ ⟨.int (g i),H,I.tok _,⟨_,rfl⟩,q⟩
theorem EJ:Ii X (unaryOp .USub) (rU fun i=>.int (-i)):=LL fun _ _ _ _ _ q=>neg_int q
end
section
variable {X:Cx} {a b c:μ} {ta tb tc:TE} {pos:aG}
theorem HI{pins:List (ζ×bp)}{σ:St}{H:Hp}{s:ε}{Q:VK}{k k':Bool}(I:Inv X pins σ H s)(q:Q (.bl k) H)(e:k=k'):EP X pins σ Q (.bool k') s:=by
 subst e;exact⟨.bl k,H,I,rfl,q⟩
theorem Jn:dB X (compareOp .Lt) (lN fun i j=>.bl (decide (i<j))):=A2 fun _ _ _ _ _ _ _ q=>lt_int q
theorem Jo:dB X (compareOp .Gt) (lN fun i j=>.bl (decide (j<i))):=A2 fun _ _ _ _ _ _ _ q=>gt_int q
theorem Jp:dB X (compareOp .GtE) (lN fun i j=>.bl (decide (j≤i))):=A2 fun _ _ _ _ _ _ _ q=>ge_int q
theorem FY:dB X (compareOp .Is) (fun x y H Q=>y=.ak/\Q (.bl (decide (x=.ak))) H):=by
 intro pins s σ H x y v u Q I rx ry h;obtain⟨rfl,q⟩:=h;cases ry;refine is_none_gen (HI I q ?_);cases x<;>first
  | (cases rx;rfl)
  | (obtain⟨t,rfl⟩:=rx;rfl)
theorem dB.or{f:γ->γ->Sem γ}{r r':R2}(h:dB X f r)(h':dB X f r'):dB X f (fun x y H Q=>r x y H Q∨r' x y H Q):=by
 intro pins s σ H x y v u Q I rx ry q;rcases q with q|q
 ·exact h pins s σ H x y v u Q I rx ry q
 ·exact h' pins s σ H x y v u Q I rx ry q
theorem ee(b:μ){op:CmpOp}(h:op≠.In:=by decide)(h2:op≠.NotIn:=by decide):behindInMarks op b=false:=by
 have e1:(op==CmpOp.In)=false:=by cases op<;>first|rfl|exact absurd rfl h
 have e2:(op==CmpOp.NotIn)=false:=by cases op<;>first|rfl|exact absurd rfl h2
 cases b<;>simp[behindInMarks,e1,e2]
theorem DT{op:CmpOp}{r:R2}(ho:dB X (compareOp op) r)(ha:PE X a ta)(hb:PE X b tb)(hm:behindInMarks op b=false):PE X (.Compare a [op] [b] pos) (yP r ta tb):=by
 intro pins s σ H Q I h;exact wpAny_Compare1 (BS ha hb I h fun v u s2 x y H2 I2 rx ry q=>ho pins s2 σ H2 x y v u Q I2 rx ry q) hm
def B8(t:TE):TT:=fun σ H Q=>t σ H fun x H'=>∃k,x=.bl k/\Q k H'
theorem DH{op:CmpOp}{r:R2}(ho:dB X (compareOp op) r)(ha:PE X a ta)(hb:PE X b tb)(hm:behindInMarks op b=false):PT X (.Compare a [op] [b] pos) (B8 (yP r ta tb)):=by
 intro pins s σ H Q I h;refine wpAny_isTrue_Compare1 (bG (ha pins s σ H _ I h) fun v s1 ⟨x,H1,I1,r1,q1⟩=>bG (hb pins s1 σ H1 _ I1 q1) fun u s2 ⟨y,H2,I2,r2,q2⟩=>
  bG (ho pins s2 σ H2 x y v u _ I2 r1 r2 q2) fun c s3 ⟨z,H3,I3,r3,k,e,q3⟩=>?_) hm
 subst e;cases r3;exact fE ⟨H3,I3,q3⟩
def Ij(K:η)(x:V)(H:Hp)(k:Bool):Prop:=
 match x with
 |.ak=>k=false
 |.bl b=>k=b
 |.int i=>k=(i != 0)
 |.str y=>y.length≤aj/\k=((y.length:Int) != 0)
 |.Aa y=>y.size≤aj/\k=((y.size:Int) != 0)
 |.ref p=>(∃xs,fo K H p xs/\k = !xs.isEmpty)∨(∃xs,dU K H p xs/\k = !xs.isEmpty)∨∃kvs,H p=some (.dK kvs)/\k = !kvs.isEmpty
 |_=>False
theorem xy{κ:Type}{kvs:List (κ×V)}{vs:List (κ×γ)}(r:KV kvs vs):(!vs.isEmpty) = !kvs.isEmpty:=by
 cases r<;>rfl
theorem qI{xs:List V}{its:List γ}(r:aR xs its):(!its.toArray.isEmpty) = !xs.isEmpty:=by
 cases r<;>simp
theorem kh:(aj:Nat)<2^63:=by rw[cI];decide
theorem EO:LI X (fun x H Q=>∃k,Ij X.K x H k/\Q k H):=by
 intro pins s σ H x v Q I rx h;obtain⟨k,e,q⟩:=h;have hl:=kh;have hs:aj=16777216:=cI;cases x with
 |ak=>
  cases rx;have e':k=false:=e;subst e';exact truthy_none ⟨H,I,q⟩
 |bl b=>
  cases rx;have e':k=b:=e;subst e';exact fE ⟨H,I,q⟩
 |int i=>
  obtain⟨t,rfl⟩:=rx;have e':k=(i != 0):=e;subst e';exact PySem.P.truthy_int ⟨H,I,q⟩
 |str y=>
  obtain⟨t,rfl⟩:=rx;obtain⟨hy,e'⟩:y.length≤aj/\k=((y.length:Int) != 0):=e;subst e';exact PySem.P.truthy_str (by lia) ⟨H,I.tok _,q⟩
 |Aa y=>
  obtain⟨t,rfl⟩:=rx;obtain⟨hy,e'⟩:y.size≤aj/\k=((y.size:Int) != 0):=e;subst e';exact PySem.W.truthy_bytes (by lia) ⟨H,I.tok _,q⟩
 |ref p=>
  cases rx;have e':(∃xs,fo X.K H p xs/\k = !xs.isEmpty)∨(∃xs,dU X.K H p xs/\k = !xs.isEmpty)∨∃kvs,H p=some (.dK kvs)/\k = !kvs.isEmpty:=e;rcases e' with⟨xs,hx,e'⟩|⟨xs,hx,e'⟩|⟨kvs,hx,e'⟩
  ·subst e';obtain⟨its,r,pl,hz⟩:=I.list hx;have hlen:=r.length;exact wpAny_truthy_list pl.isList (by simp only[ο];lia) ⟨H,I.tok _,by rw[qI r];exact q⟩
  ·subst e';obtain⟨its,r,pl,hz⟩:=I.tuple hx;have hlen:=r.length;exact truthy_tuple pl (by simp only[ο];lia) ⟨H,I.tok _,by rw[qI r];exact q⟩
  ·subst e';obtain⟨hz,hS,vs,r,m⟩:kvs.length≤aj/\(p==sysModules)=false/\∃vs,KV kvs vs/\s.heap.DictOf (rF X.prog X.w) p vs:=I.bT p _ hx;have hlen:kvs.length=vs.length:=Paired.length r;exact wpAny_truthy_dict hS m (by lia) ⟨H,I.tok _,by rw[xy r];exact q⟩
 |_=>exact (show False from e).elim
theorem AW(ha:PE X a ta)(he:∀whole,isTrue a X.env whole=(do let v ←whole;standAt a.pos;holding [v] (truthy v))):
  PT X a (fun σ H Q=>ta σ H fun x H'=>∃k,Ij X.K x H' k/\Q k H'):=by
 intro pins s σ H Q I h;exact isTrue_plain (bG (ha pins s σ H _ I h) fun v s1 ⟨x,H1,I1,r1,q1⟩=>EO pins s1 σ H1 x v Q I1 r1 q1) (he _)
theorem vals1{x:V}{us:List γ}(r:aR [x] us):∃u,us=[u]/\RelV x u:=by
 cases r with
 |cons r1 r2=>cases r2;exact⟨_,rfl,r1⟩
theorem vals2{x y:V}{us:List γ}(r:aR [x,y] us):∃u w',us=[u,w']/\RelV x u/\RelV y w':=by
 cases r with
 |cons r1 r2=>
  cases r2 with
  |cons r3 r4=>cases r4;exact⟨_,_,rfl,r1,r3⟩
theorem zX(hc:X.calm=true):iG X (.builtin "max") (fun xs H Q=>∃i j,xs=[.int i,.int j]/\Q (.int (if j > i then j else i)) H):=by
 intro pins s σ H xs us Q I r h;obtain⟨i,j,rfl,q⟩:=h;obtain⟨u,w',rfl,⟨t,rfl⟩,⟨t',rfl⟩⟩:=vals2 r;refine max_two_ints (I.ok.hd hc) fun h' tk k=>⟨_,H,I.kept k,?_,q⟩;by_cases hj:j > i
 ·rw[if_pos hj,if_pos hj];exact⟨_,rfl⟩
 ·rw[if_neg hj,if_neg hj];exact⟨_,rfl⟩
theorem zY:iG X (.type "int") (fun xs H Q=>(∃i,xs=[.int i]/\Q (.int i) H)∨∃k,xs=[.bl k]/\Q (.int (if k then 1 else 0)) H):=by
 intro pins s σ H xs us Q I r h;rcases h with⟨i,rfl,q⟩|⟨k,rfl,q⟩
 ·obtain⟨u,rfl,t,rfl⟩:=vals1 r;exact call_int_int ⟨.int i,H,I,⟨_,rfl⟩,q⟩
 ·obtain⟨u,rfl,r1⟩:=vals1 r;cases r1;exact call_int_bool ⟨.int (if k then 1 else 0),H,I.tok _,⟨_,rfl⟩,q⟩
end
end L2
namespace L2
open PySem PySem.Spec PyProof.Rows
structure eW(k:Nat)(A:aZ):Prop where
 hd:A.handled=none
 dp:A.depth+3*k+5<recursionLimit
 un:A.units+16*k+200<cLine
theorem eW.mono{j k:Nat}{A:aZ}(r:eW k A)(h:j≤k):eW j A:=⟨r.hd,by have:=r.dp;lia,by have:=r.un;lia⟩
theorem eW.deeper{k:Nat}{A:aZ}(r:eW (k+1) A)(env:fX):eW k (A.deeper env):=
 ⟨r.hd,by have:=r.dp;show A.depth+1+3*k+5<_;lia,by have:=r.un;show A.units+3+16*k+200<_;lia⟩
theorem eW.depth{k:Nat}{A:aZ}(r:eW k A):A.depth<recursionLimit:=by have:=r.dp;lia
theorem eW.units{k:Nat}{A:aZ}(r:eW k A):A.units+64<cLine:=by have:=r.un;lia
theorem eW.EI{k:Nat}{A:aZ}(r:eW k A):A.units<cLine:=by have:=r.un;lia
def KJ:TA:=fun _ H Q=>Q [] H
def IG(ta:TE)(tr:TA):TA:=fun σ H Q=>ta σ H fun x H1=>tr σ H1 fun xs H2=>Q (x::xs) H2
section
variable {X:Cx} {e:μ} {es:List μ} {te:TE} {t:TA} {pos:aG}
theorem qB:PA X [] KJ:=fun _ _ _ _ H Q I h=>Calls.spliced_nil ⟨[],H,I,.nil,h⟩
theorem lS(ha:PE X e te)(hr:PA X es t)(hs:bw (e::es) X.env=(false,eval e X.env)::bw es X.env:=by rfl):PA X (e::es) (IG te t):=by
 intro pos pins s σ H Q I h;rw[hs];show Ψ _ _ (spliced ((false,eval e X.env)::backTo pos (bw es X.env))) _ _ s;refine Calls.spliced_cons (bG (ha pins s σ H _ I h) fun u s1 ⟨x,H1,I1,r1,q1⟩=>?_);exact bG (hr pos pins s1 σ H1 _ I1 q1) fun us s2 ⟨xs,H2,I2,r2,q2⟩=>⟨x::xs,H2,I2,.cons r1 r2,q2⟩
def KE(t:TA):TE:=fun σ H Q=>t σ H fun xs H1=>xs.length≤aj/\∀p,H1 p=none->Q (.ref p) (upd H1 p (.tup xs))
def KL(t:TA):TE:=fun σ H Q=>t σ H fun xs H1=>xs.length≤aj/\∀p,H1 p=none->Q (.ref p) (upd H1 p (.lst xs))
theorem FL{x1}(h:PA X es t):PE X (.Tuple es x1 pos) (KE t):=by
 intro pins s σ H Q I hq;refine wpAny_Tuple_spliced (bG (h pos pins s σ H _ I hq) fun us s1 ⟨xs,H1,I1,r,z,q⟩=>⟨by rw[←r.length];exact z,?_⟩);have hf:H1 s1.heap.objs.size=none:=I1.bT.fresh (ω _);refine⟨.ref s1.heap.objs.size,upd H1 s1.heap.objs.size (.tup xs),I1.laid (t':=s1.toks) (fun b u e=>ρ _ e) (ω _) ?_,rfl,q _ hf⟩;exact⟨z,us,r,⟨_,aQ _ rfl,rfl,⟨_,rfl⟩,rfl⟩⟩
theorem zq(h:PA X es t):PE X (.List es pos) (KL t):=by
 intro pins s σ H Q I hq;refine wpAny_List_spliced (bG (h pos pins s σ H _ I hq) fun us s1 ⟨xs,H1,I1,r,z,q⟩=>⟨by rw[←r.length];exact z,?_⟩);have hf:H1 s1.heap.objs.size=none:=I1.bT.fresh (ω _);refine⟨.ref s1.heap.objs.size,upd H1 s1.heap.objs.size (.lst xs),I1.laid (t':=s1.toks) (fun b u e=>ρ _ e) (ω _) ?_,rfl,q _ hf⟩;exact⟨z,us,0,r,aQ _ rfl⟩
end
abbrev Sp:=List V->Hp->VK->XK->Prop
abbrev nu:=List fX->Hp->ε->XK->γ->ε->Prop
structure yu(P:aq)(w:aC)(K:η)(mg:χ->Option γ)(base:az)(A:aZ)(outer:List fX)(s:ε)(H:Hp):Prop where
 frames:A.frames=some outer
 mod:Mod K mg base
 bs:∀b o,base.get? b=some o->s.heap.get? b=some o/\H b=none
 qT:base.objs.size≤s.heap.objs.size
 jy:s.heap.FunFrames base outer
 uL:∀b∈ow outer,H b=none
 bT:gH P w H s.heap
 bare:ir s.gens
def CE(outer:List fX)(P:aq)(w:aC)(H:Hp)(s:ε)(Q:VK)(u:γ)(s':ε):Prop:=
 ∃v H',s'.os=s.os/\ir s'.gens/\Un (ow outer) [] H H' s.heap s'.heap/\gH P w H' s'.heap/\RelV v u/\Q v H'
def CR(CX:nu)(outer:List fX)(P:aq)(w:aC)(H:Hp)(s:ε)(Q:VK)(E:XK)(r:Result)(s':ε):Prop:=
 match r with
 |.ok (.ret u)=>CE outer P w H s Q u s'
 |.ok _=>False
 |.error e=>CX outer H s E e s'
structure gY(P:aq)(w:aC)(K:η)(mg:χ->Option γ)(base:az)(CX:nu)(k:Nat)(f:ζ)(fd:aJ)(ps:List χ)(sp:Sp):Prop where
 len:∀vs H Q E,sp vs H Q E->vs.length=ps.length
 run:∀(A:aZ) (outer:List fX) (s:ε) (H:Hp) (args:Args) (us:List γ) (vs:List V) (Q:VK) (E:XK),eW k A->yu P w K mg base A outer s H->mD s fd args (ps.zip us)->aR vs us->sp vs H Q E ->
  jY (model P w) A (.call (.ref f) args) (CR CX outer P w H s Q E) s
theorem gY.mono{P:aq}{w:aC}{K:η}{mg:χ->Option γ}{base:az}{CX:nu}{j k:Nat}{f:ζ}{fd:aJ}{ps:List χ}{sp:Sp}(F:gY P w K mg base CX j f fd ps sp)(h:j≤k):
  gY P w K mg base CX k f fd ps sp:=⟨F.len,fun A outer s H args us vs Q E hr=>F.run A outer s H args us vs Q E (hr.mono h)⟩
theorem gY.imp{P:aq}{w:aC}{K:η}{mg:χ->Option γ}{base:az}{CX:nu}{k:Nat}{f:ζ}{fd:aJ}{ps:List χ}{sp sp':Sp}(F:gY P w K mg base CX k f fd ps sp)
  (h:∀vs H Q E,sp' vs H Q E->sp vs H Q E):gY P w K mg base CX k f fd ps sp':=
 ⟨fun vs H Q E q=>F.len vs H Q E (h _ _ _ _ q),fun A outer s H args us vs Q E hr he hb hv hs=>F.run A outer s H args us vs Q E hr he hb hv (h _ _ _ _ hs)⟩
section
variable {X:Cx} {pins:List (ζ×bp)} {σ:St} {H:Hp} {s s':ε}
theorem Inv.Lr(I:Inv X pins σ H s):yu X.prog X.w X.K X.mg X.base X.A X.stack s H:=
 ⟨I.ok.frames,I.ok.mod,I.bs,aD I.ok.qT I.sz,I.stack,I.vz,I.bT,I.bare⟩
theorem Inv.after{Q:VK}{u:γ}(I:Inv X pins σ H s)(h:CE X.stack X.prog X.w H s Q u s'):EP X pins σ Q u s':=by
 obtain⟨v,H',os,bare,un,bT,r,q⟩:=h;obtain⟨hh,g,d,t,os'⟩:=s';obtain rfl:os'=s.os:=os;exact⟨v,H',I.call (h':=hh) (g':=g) (d':=d) (t':=t) (ch:=[]) un bT bare (fun b z=>absurd z (by simp)),r,q⟩
end
def B9(sp:Sp)(dvs:List V)(E:XK)(t:TA):TE:=fun σ H Q=>t σ H fun vs H1=>sp (vs++dvs) H1 Q E
def Binds(K:η)(fd:aJ)(ps:List χ)(ds:List γ):Prop:=
 ∀(s:ε) (us:List γ),K.In s.heap->(us++ds).length=ps.length->mD s fd ⟨us,[]⟩ (ps.zip (us++ds))
theorem Binds.all{K:η}{fd:aJ}{ps:List χ}(h:∀us:List γ,us.length=ps.length->bindArgs fd ⟨us,[]⟩=pure (ps.zip us)):Binds K fd ps []:=fun s us _ hl=>by
 rw[cf] at hl ⊢;exact .of_eq (h us hl)
def u1(CX:nu)(X:Cx)(E:XK):Prop:=∀(pins:List (ζ×bp)) (σ:St) (H:Hp) (s:ε) (e:γ) (s':ε),Inv X pins σ H s->CX X.stack H s E e s'->X.xe e s'
section
variable {X:Cx} {CX:nu} {k:Nat} {f C:ζ} {fd:aJ} {ps:List χ} {sp:Sp} {dvs:List V} {ds:List γ} {E:XK} {x m:χ} {p pos apos:aG} {e o:μ} {es:List μ} {ta:TE} {t:TA}
theorem Fd{pins:List (ζ×bp)}{σ:St}{H:Hp}{s:ε}{Q:VK}{us:List γ}{vs:List V}(F:gY X.prog X.w X.K X.mg X.base CX k f fd ps sp)(hr:eW k X.A)(hb:Binds X.K fd ps ds)(hd:aR dvs ds)(hx:u1 CX X E)
  (I:Inv X pins σ H s) (r:aR vs us) (h:sp (vs++dvs) H Q E):Ψ (model X.prog X.w) X.A (call (.ref f) us) (EP X pins σ Q) X.xe s:=by
 have r2:aR (vs++dvs) (us++ds):=r.append hd;have hl:(us++ds).length=ps.length:=by rw[←r2.length];exact F.len _ _ _ _ h
 refine wpAny_call (codeAny_mono (F.run X.A X.stack s H ⟨us,[]⟩ (us++ds) (vs++dvs) Q E hr I.Lr (hb s us I.jG hl) r2 h) fun r s' hq=>?_);cases r with
 |error e=>exact hx pins σ H s e s' I hq
 |ok fl=>
  cases fl with
  |ret u=>exact I.after hq
  |next=>exact eN hq
  |brk=>exact eN hq
  |cont=>exact eN hq
theorem DU(F:gY X.prog X.w X.K X.mg X.base CX k f fd ps sp)(hr:eW k X.A)(hg:Gl X x)(hm:X.mg x=some (.ref f))(hk:fP X.K (.ref f)=true)(hb:Binds X.K fd ps ds)(hd:aR dvs ds)(hx:u1 CX X E)
  (ha:PA X (e::es) t) (hdb:(x==("__debug__":χ))=false:=by decide) (he:bw (e::es) X.env=(false,eval e X.env)::bw es X.env:=by rfl) (hpl:(backTo pos (bw es X.env)).any (·.1)=false:=by rfl):
  PE X (.Call (.Name x p) (e::es) [] pos) (B9 sp dvs E t):=by
 intro pins s σ H Q I h;refine jo (vZ I hg hm ?_ hdb);refine PySem.W.callWith_K (h₀:=X.base) I.ok.mod.Hi hk (bG (ha pos pins s σ H _ I h) fun us s1 ⟨vs,H1,I1,r,q⟩=>⟨I1.jG,?_⟩) he hpl;exact Fd F hr hb hd hx I1 r q
end
structure bO(N P:List χ)(sc:fq):Prop where
 kind:sc.kind=.function
 co:sc.isCoroutine=false
 gen:sc.isGenerator=false
 nd:N.Nodup
 pre:N.take P.length=P
 par:∀x∈P,sc.names.lookup x=some .local∨sc.names.lookup x=some .cell
 Gn:∀y∈sc.names,y.2≠.free
theorem sF{kindOf:χ->Option dN}{x:χ}:∀{binds:List (χ×γ)} {m:χ->Option γ},(∀v,(x,v)∉binds)->bindL kindOf binds m x=m x
 |[],_,_=>rfl
 | (n,v)::r,m,h=>by
  unfold bindL;rw[sF fun w hw=>h w (ab _ hw)];split
  ·have:x≠n:=by rintro rfl;exact h v Ω
   simp[this]
  ·rfl
theorem sH{kindOf:χ->Option dN}{x:χ}:∀{binds:List (χ×γ)} {m:χ->Option γ},(∀v,(x,v)∉binds)->bindC kindOf binds m x=m x
 |[],_,_=>rfl
 | (n,v)::r,m,h=>by
  unfold bindC;rw[sH fun w hw=>h w (ab _ hw)];split
  ·rfl
  ·have:x≠n:=by rintro rfl;exact h v Ω
   simp[this]
theorem sG{kindOf:χ->Option dN}{x:χ}{v:γ}:∀{P:List χ} {vs:List γ} {i:Nat} {m:χ->Option γ},P.Nodup->P[i]?=some x->vs[i]?=some v->kindOf x=some .local ->
  bindL kindOf (P.zip vs) m x=some v
 |[],_,_,_,_,h,_,_=>by simp at h
 |_::_,[],_,_,_,_,h,_=>by simp at h
 |p::P,w::vs,0,m,nd,h1,h2,hk=>by
  simp at h1 h2;subst h1;subst h2;show bindL kindOf ((p,w)::P.zip vs) m p=_;unfold bindL;rw[sF fun v hv=>(gu.mp nd).1 (lh hv).1,if_pos hk];simp
 |p::P,w::vs,i+1,m,nd,h1,h2,hk=>by
  show bindL kindOf ((p,w)::P.zip vs) m x=_;unfold bindL;exact sG (i:=i) (gu.mp nd).2 (by simpa using h1) (by simpa using h2) hk
theorem sI{kindOf:χ->Option dN}{x:χ}{v:γ}:∀{P:List χ} {vs:List γ} {i:Nat} {m:χ->Option γ},P.Nodup->P[i]?=some x->vs[i]?=some v->kindOf x≠some .local ->
  bindC kindOf (P.zip vs) m x=some v
 |[],_,_,_,_,h,_,_=>by simp at h
 |_::_,[],_,_,_,_,h,_=>by simp at h
 |p::P,w::vs,0,m,nd,h1,h2,hk=>by
  simp at h1 h2;subst h1;subst h2;show bindC kindOf ((p,w)::P.zip vs) m p=_;unfold bindC;rw[sH fun v hv=>(gu.mp nd).1 (lh hv).1,if_neg hk];simp
 |p::P,w::vs,i+1,m,nd,h1,h2,hk=>by
  show bindC kindOf ((p,w)::P.zip vs) m x=_;unfold bindC;exact sI (i:=i) (gu.mp nd).2 (by simpa using h1) (by simpa using h2) hk
def start(N:List χ)(vs:List V):St:=vs.map some++aX (N.length-vs.length) none
def oC(CX:nu)(P:aq)(w:aC)(K:η)(mg:χ->Option γ)(base:az)(N:List χ)(qual:χ)(scope:fq)(f:ζ)(cd:γ)(A:aZ)(outer:List fX)(s:ε)(H:Hp)(E:XK):Cx where
 prog:=P
 w:=w
 K:=K
 mg:=mg
 base:=base
 A:=A.deeper (envOfC qual scope s.heap.objs.size f cd)
 N:=N
 s₀:=s
 H₀:=H
 env:=envOfC qual scope s.heap.objs.size f cd
 outer:=outer
 stack:=envOfC qual scope s.heap.objs.size f cd::outer
 ex:=[]
 calm:=true
 fn:=fun _=>true
 pn:=[]
 xe:=fun e s'=>Ψ (model P w) (A.deeper (envOfC qual scope s.heap.objs.size f cd)) (leaving (envOfC qual scope s.heap.objs.size f cd) e) (fun _ s''=>CX outer H s E e s'') (fun e' s''=>CX outer H s E e' s'') s'
theorem uV{sc:fq}{n:Nat}{x:χ}(h:sc.names.lookup x=some .cell):∃c,(cellsFrom n sc.names []).lookup x=some c:=by
 have q:=lC sc.names n [] (.inl h);exact Option.isSome_iff_exists.mp q
theorem zH{CX:nu}{P:aq}{w:aC}{K:η}{mg:χ->Option γ}{base:az}{N ps:List χ}{qual:χ}{scope:fq}{f:ζ}{cd:γ}{A:aZ}{outer:List fX}{s s1:ε}{H:Hp}{E:XK}{us:List γ}{vs:List V}
  (S:bO N ps scope) (hd:A.handled=none) (e0:yu P w K mg base A outer s H) (hl:vs.length=ps.length) (r:aR vs us)
  (x:InCallC s s.heap.objs.size (bindL (envOfC qual scope s.heap.objs.size f cd).kindOf (ps.zip us) fun _=>none) (cellsFrom (s.heap.objs.size+1) scope.names []) (bindC (envOfC qual scope s.heap.objs.size f cd).kindOf (ps.zip us) fun _=>none) s1):
  Inv (oC CX P w K mg base N qual scope f cd A outer s H E) [] (start N vs) H s1:=by
 have hpl:ps.length≤N.length:=by have:=congrArg g8 S.pre;rw[bu] at this;lia
 obtain⟨h1,tk,rfl,hk⟩:=x.done;have noA:∀b:ζ,b∉(oC CX P w K mg base N qual scope f cd A outer s H E).ex:=fun b z=>absurd (show b∈([]:List ζ) from z) (by simp);refine⟨⟨e0.mod,S.kind,rfl,rfl,ω _,fun y z c h1 h2=>?_,fun y hy=>?_,fun y c _ h=>?_,fun _=>hd,aZ.frames_deeper e0.frames,.inr ⟨rfl,rfl⟩,fun b z=>absurd z (noA b),e0.bs,e0.qT,fun b _ _=>noA b,fun b z=>absurd z (noA b),e0.jy,e0.uL⟩,
  rfl,e0.bare,Un.kept hk,⟨_,x.toInCall.ns,fun i y v h1 h2 h3=>?_⟩,fun y c h=>⟨_,x.cell y c h⟩,e0.bT.fresh (ω _),fun y c h=>?_,fun p hp=>absurd (show p∈([]:List (ζ×bp)) from hp) (by simp),e0.bT.kept hk,?_⟩
 ·exact name_of_addr x.apart (dG h1) (dG h2)
 ·have hy:scope.names.lookup y=some .cell∨scope.names.lookup y=some .free:=hy;rcases hy with hy|hy
  ·exact uV hy
  ·exact absurd rfl (S.Gn _ (dG hy))
 ·exact kF (x.above y c (dG h))
 ·have hi:i<vs.length:=by
   unfold start at h2;by_cases hi:i<vs.length
   ·exact hi
   ·rw[aN (by simpa using hi)] at h2;rw[kL] at h2;split at h2<;>cases h2
  have ha:vs[i]?=some v:=by
   unfold start at h2;rw[b6 (by simpa using hi),bB] at h2;cases e:vs[i]? with
   |none=>rw[e] at h2;cases h2
   |some a=>rw[e] at h2;cases h2;rfl
  obtain⟨u,hu,rv⟩:=r.get ha;have hp:ps[i]?=some y:=by
   rw[←S.pre,dq (by lia)];exact h1
  have ndP:ps.Nodup:=by rw[←S.pre];exact S.nd.sublist (du _ _)
  refine⟨u,rv,?_⟩;rcases S.par y (gd hp) with k|k
  ·exact .inl ⟨k,sG ndP hp hu k⟩
  ·obtain⟨c,e⟩:=uV (n:=s.heap.objs.size+1) k;refine .inr ⟨.inl k,c,e,?_⟩;have q:=x.cell y c e;rw[sI ndP hp hu (by show scope.names.lookup y≠_;rw[k];decide)] at q;exact q
 ·exact e0.bT.fresh (kF (x.above y c (dG h)))
 ·unfold start;show _=N.length;rw[ξ,θ,iq];lia
theorem J4{CX:nu}{P:aq}{w:aC}{K:η}{mg:χ->Option γ}{base:az}{k:Nat}{f:ζ}{name qual:χ}{params:Arguments}{body:List aT}{scope:fq}{dV kV doc pm cdv ct oc:γ}{an od:Option ζ}
  {osl:Array (Option γ)} {N ps:List χ} {sp:Sp} (lk:K.lookup f=some ⟨oc,od,.func (fQ name qual params body scope dV kV doc pm an cdv ct),osl⟩) (oq:i9 K cdv qual=true) (S:bO N ps scope)
  (len:∀vs H Q E,sp vs H Q E->vs.length=ps.length)
  (mR:∀(A:aZ) (outer:List fX) (s:ε) (H:Hp) (vs:List V) (Q:VK) (E:XK),eW k (A.deeper (envOfC qual scope s.heap.objs.size f cdv))->sp vs H Q E ->
   ∃t,jH (oC CX P w K mg base N qual scope f cdv A outer s H E) body t/\t { nx:=fun _ H'=>Q .ak H',rt:=Q } (start N vs) H):
  gY P w K mg base CX (k+1) f (fQ name qual params body scope dV kV doc pm an cdv ct) ps sp:=by
 refine⟨len,fun A outer s H args us vs Q E hr e0 hb r sC=>?_⟩;have hl:=len _ _ _ _ sC;have KX:K.In s.heap:=e0.mod.Hi.keeps fun b o e=>(e0.bs b o e).1;have lim:s.heap.NoLimit:=e0.mod.nolimit.keeps fun b o e=>(e0.bs b o e).1;have hkind:∀y∈ps.zip us,scope.names.lookup y.1=some .local∨(scope.names.lookup y.1=some .cell/\((cellsFrom (s.heap.objs.size+1) scope.names []).lookup y.1).isSome=true):=fun⟨n,v⟩ hy=>by
  rcases S.par n (lh hy).1 with q|q
  ·exact .inl q
  ·exact .inr ⟨q,lC _ _ _ (.inl q)⟩
 refine codeAny_call_function hr.depth (KX _ _ lk) rfl S.co S.gen rfl (PySem.W.codeRec_of KX oq) (hb _ _ _ _ ?_);refine wpAny_newFunctionEnv_cells S.kind hkind fun env he s1 x=>?_;subst he;refine⟨lim.keeps x.toInCall.keep,codeAny_func ?_⟩;obtain⟨t,ht,hq⟩:=mR A outer s H vs Q E (hr.deeper _) sC;have I:Inv (oC CX P w K mg base N qual scope f cdv A outer s H E) [] (start N vs) H s1:=zH S hr.hd e0 hl r x;refine cZ (ht [] s1 (start N vs) H _ I hq) (fun fl s' hs=>?_) fun e s' hs=>hs;have fin:∀{σ':St} {H':Hp} {v:V} {u:γ},Inv (oC CX P w K mg base N qual scope f cdv A outer s H E) [] σ' H' s'->RelV v u->Q v H'->CE outer P w H s Q u s':=
  fun {σ' H' v u} J rv q=>⟨v,H',J.os,J.bare,J.base,J.bT,rv,q⟩
 cases fl with
 |ret u=>
  obtain⟨v,σ',H',J,rv,q⟩:=hs;exact fin J rv q
 |next=>
  obtain⟨σ',H',J,q⟩:=hs;exact fin (v:=V.ak) (u:=jR) J rfl q
 |brk=>
  obtain⟨_,_,_,q⟩:=hs;exact eN q
 |cont=>
  obtain⟨_,_,_,q⟩:=hs;exact eN q
end L2
namespace L2
open PySem PySem.Spec PyProof.Rows
section
variable {X:Cx} {x:χ} {p pos:aG} {e:μ} {es:List μ} {t:TA} {id T:String} {r:List V->Hp->VK->Prop}
def Ca(r:List V->Hp->VK->Prop)(t:TA):TE:=fun σ H Q=>t σ H fun vs H1=>r vs H1 Q
theorem iX(hc:iG X (.builtin id) r)(hg:Gl X x)(hm:X.mg x=none)(hv:eX x=some (.builtin id))(ha:PA X (e::es) t)(hn:x≠"__name__":=by decide)(hdb:(x==("__debug__":χ))=false:=by decide)
  (he:bw (e::es) X.env=(false,eval e X.env)::bw es X.env:=by rfl) (hpl:(backTo pos (bw es X.env)).any (·.1)=false:=by rfl):PE X (.Call (.Name x p) (e::es) [] pos) (Ca r t):=by
 intro pins s σ H Q I h;refine jo (ki I hg hm hv ?_ hn hdb);exact PyProof.Rows.callWith_builtin1 (bG (ha pos pins s σ H _ I h) fun us s1 ⟨vs,H1,I1,r1,q1⟩=>hc pins s1 σ H1 vs us Q I1 r1 q1) he hpl
theorem oe(hc:iG X (.type T) r)(hg:Gl X x)(hm:X.mg x=none)(hv:eX x=some (.type T))(ha:PA X (e::es) t)(hn:x≠"__name__":=by decide)(hdb:(x==("__debug__":χ))=false:=by decide)
  (he:bw (e::es) X.env=(false,eval e X.env)::bw es X.env:=by rfl) (hpl:(backTo pos (bw es X.env)).any (·.1)=false:=by rfl):PE X (.Call (.Name x p) (e::es) [] pos) (Ca r t):=by
 intro pins s σ H Q I h;refine jo (ki I hg hm hv ?_ hn hdb);exact cU (bG (ha pos pins s σ H _ I h) fun us s1 ⟨vs,H1,I1,r1,q1⟩=>hc pins s1 σ H1 vs us Q I1 r1 q1) he hpl
end
end L2
namespace HT
open PySem PyProof.Rows
def lexLt:List Int->List Int->Bool
 |[],[]=>false
 |[],_::_=>true
 |_::_,[]=>false
 |x::xs,y::ys=>if x=y then lexLt xs ys else decide (x<y)
theorem xn(x y:Int)(xs ys:List Int):lexLt (x::xs) (y::ys)=if x=y then lexLt xs ys else decide (x<y):=rfl
theorem sT:lexLt [] []=false:=rfl
theorem rN(y:Int)(ys:List Int):lexLt [] (y::ys)=true:=rfl
theorem rO(x:Int)(xs:List Int):lexLt (x::xs) []=false:=rfl
theorem BA(A:aZ)(s:ε)(a:Int)(t:Tok)(c:Int)(u:Tok):∃e,q0 A s (.int a t) (.int c u) e/\(e=true↔a=c):=
 ⟨(a==c),q0.int_int a t c u,by simp⟩
theorem AN(A:aZ)(s:ε)(a:Int)(t:Tok)(c:Int)(u:Tok)(prog:aq)(w:aC)(E:γ->ε->Prop)(Q:γ->ε->Prop)(h:Q (.bool (decide (a<c))) s):
  Ψ (model prog w) A (richCompare .Lt (.int a t) (.int c u)) Q E s:=
 (PyProof.Rows.lt_int h:Ψ (model prog w) A (compareOp .Lt (.int a t) (.int c u)) Q E s)
section
open PySem.SeqAt
open PySem.AutoSeq1 (wpAny_loadPart')
open PySem.MeetsSeq PySem.MeetsSeq2 PySem.MeetsSeq3
theorem sQ(l b:ζ)(items items2:Array γ)(n n2:Nat)(dd dd2:Option ζ)(sl sl2:Array (Option γ))(ns ms:List Int)(hi:dS items.toList ns)(hj:dS items2.toList ms):
  Meets (mB.«tuple.__lt__» ⟨[.ref l,.ref b],[]⟩)
   (fun _ R s=>s.heap.get? l=some { cls:=.type "tuple",dict:=dd,data:=.seq items n,slots:=sl }/\s.heap.get? b=some { cls:=.type "tuple",dict:=dd2,data:=.seq items2 n2,slots:=sl2 } ∧
    R (.ok (.ret (.bool (lexLt ns ms)))) s):=
 .of_wp fun prog w A R s h=>by
  obtain⟨hp,g,d,tk,os⟩:=s;obtain⟨hl,hb,h⟩:=h;have f2:=AutoSeq1.sub_tuple_tuple;have z1:items.size=ns.length:=by rw[←hi.length];simp
  have z2:items2.size=ms.length:=by rw[←hj.length];simp
  wp_walk using wpAny_loadPart' hl,wpAny_loadPart' hb,wpAny_forIn_list _ (fun rest b s'=>b.1=none/\s'=⟨hp,g,d,tk,os⟩/\∃(vs ws:List γ) (ns' ms':List Int),rest=vs.zip ws ∧
   dS vs ns'/\dS ws ms'/\ns'.length+items2.size=ms'.length+items.size/\R (.ok (.ret (.bool (lexLt ns' ms')))) ⟨hp,g,d,tk,os⟩) _
  case turn=>
   rintro⟨y,x⟩ rest b s' ⟨hb',rfl,vs,ws,ns',ms',hz,hvi,hwi,hlen,hR⟩;cases hvi with
   |nil=>rw[List.zip_nil_left] at hz;cases hz
   |cons a t hvi'=>
    cases hwi with
    |nil=>rw[List.zip_nil_right] at hz;cases hz
    |cons c u hwi'=>
     rw[jr] at hz;injection hz with hyx hrest;injection hyx with hy hx;subst hy hx;rw[xn] at hR;simp only[aI] at hlen;obtain⟨e,he,hiff⟩:=BA A.in1 ⟨hp,g,d,tk,os⟩ a t c u;refine Θ (he prog w _ _ ?_);cases e with
     |true=>
      rw[if_pos (hiff.mp rfl)] at hR;wp_walk;exact⟨rfl,rfl,_,_,_,_,hrest,hvi',hwi',by lia,hR⟩
     |false=>
      rw[if_neg (fun q=>absurd (hiff.mpr q) ai)] at hR;have hri:=AN A.in1 ⟨hp,g,d,tk,os⟩ a t c u prog w;wp_walk using hri;exact⟨_,rfl,by simpa using hR⟩
  case fin=>
   rintro⟨b1,b2⟩ s' ⟨hb',rfl,vs,ws,ns',ms',hz,hvi,hwi,hlen,hR⟩;simp only at hb';subst hb';have hv:lexLt ns' ms'=decide (items.size<items2.size):=by
    cases hvi with
    |nil=>
     cases hwi with
     |nil=>
      simp only[dm] at hlen;rw[sT];exact (decide_eq_false (by lia)).symm
     |cons c u hw=>
      simp only[dm,aI] at hlen;rw[rN];exact (decide_eq_true (by lia)).symm
    |cons a t hv=>
     cases hwi with
     |nil=>
      simp only[dm,aI] at hlen;rw[rO];exact (decide_eq_false (by lia)).symm
     |cons c u hw=>
      rw[jr] at hz;cases hz
   rw[hv] at hR;wp_walk;exact⟨_,rfl,by simpa [mB.Tuple.tupleCompareSizes] using hR⟩
  case h=>
   exact⟨rfl,rfl,items.toList,items2.toList,ns,ms,rfl,hi,hj,by lia,h⟩
end
section
variable {prog:aq} {w:aC} {A:aZ} {E:γ->ε->Prop} {s:ε}
theorem qF{l b:ζ}{items items2:Array γ}{ns ms:List Int}{Q:γ->ε->Prop}(hl:jU s.heap l items)(hb:jU s.heap b items2)(hi:dS items.toList ns)(hj:dS items2.toList ms)
  (hu:A.units<cLine) (h:Q (.bool (lexLt ns ms)) s):Ψ (model prog w) A (compareOp .Lt (.ref l) (.ref b)) Q E s:=by
 obtain⟨⟨cls,dd,data,sl⟩,ho,hc,n,hd⟩:=id hl;obtain⟨⟨cls2,dd2,data2,sl2⟩,ho2,hc2,n2,hd2⟩:=id hb;simp only at hc hd hc2 hd2;subst hc hd hc2 hd2;exact richCompare_meets_room (op:=.Lt) ⟨_,ho,rfl⟩ ⟨_,ho2,rfl⟩ PySem.F.slot_tuple_lt PySem.F.entry_tuple_lt (PySem.F.args_tuple_lt_2 _ _) (sQ l b items items2 n n2 dd dd2 sl sl2 ns ms hi hj)
  ⟨ho,ho2,show iK (lexLt ns ms)≠γ.notImplemented/\Q (.bool (lexLt ns ms)) s from⟨(fun x=>nomatch x),h⟩⟩ hu
theorem ED{t b:ζ}{vs ws:List γ}{Q:γ->ε->Prop}(ht:jU s.heap t vs.toArray)(hb:jU s.heap b ws.toArray)(hv:vs≠[])
  (h1:ws=[]->Q (.ref t) s) (h2:ws≠[]->Q (.ref s.heap.objs.size) { s with heap:=s.heap.push { cls:=.type "tuple",data:=.seq (vs++ws).toArray }})
  (qM:vs.length+ws.length≤aj):Ψ (model prog w) A (binaryOp .Add (.ref t) (.ref b)) Q E s:=by
 obtain⟨⟨cls,dd,data,sl⟩,ho,hc,n,hd⟩:=id ht;obtain⟨⟨cls2,dd2,data2,sl2⟩,ho2,hc2,n2,hd2⟩:=id hb;simp only at hc hd hc2 hd2;subst hc hd hc2 hd2;have e:vs.toArray++ws.toArray=(vs++ws).toArray:=by simp
 by_cases hw:ws=[]
 ·exact concat_meets ⟨_,ho,rfl⟩ ⟨_,ho2,rfl⟩ kA ny g7 gV (gJ _ _)
   (tuple_addW1 t b vs.toArray ws.toArray n n2 dd dd2 sl sl2 (by simpa using hv) (by simp[hw])) ⟨ho,ho2,h1 hw⟩
 ·refine concat_meets ⟨_,ho,rfl⟩ ⟨_,ho2,rfl⟩ kA ny g7 gV (gJ _ _)
   (tuple_addW2 t b vs.toArray ws.toArray n n2 dd dd2 sl sl2 (by simpa using hv) (by simpa using hw) (by rw[ο,ο];exact qM)) ⟨ho,ho2,?_⟩
  rw[e];exact h2 hw
def kd(n d:Nat):Option Int->Nat
 |none=>d
 |some v=>if v<0 then (v+(n:Int)).toNat else min v.toNat n
end
end HT
namespace L2
open PySem PySem.Spec PyProof.Rows
theorem intsAre_of{ns:List Int}:∀{us:List γ},aR (ns.map V.int) us->dS us ns:=by
 induction ns with
 |nil=>intro us r;rw[List.map_nil] at r;cases r;exact .nil
 |cons n ns ih=>
  intro us r;rw[dD] at r;cases r with
  |cons r1 r2=>
   obtain⟨t,e⟩:=r1;subst e;exact .cons n t (ih r2)
section
variable {X:Cx} {e:μ} {te:TE} {lo hi:Option μ} {tl th:TO} {pos p2:aG}
def Mb(X:Cx)(r:V->Option Int->Option Int->Hp->VK->Prop):Prop:=
 ∀(pins:List (ζ×bp)) (s:ε) (σ:St) (H:Hp) (x:V) (v vl vu:γ) (lo hi:Option Int) (sl:ζ) (Q:VK),Inv X pins σ H s->RelV x v->s.heap.IsSliceOf sl vl vu .none->IsPart vl lo->IsPart vu hi->r x lo hi H Q ->
  ∃T id,typeLookup (.type T) "__getitem__" = pure (some (.builtin id))/\s.TypeIs v T/\Ψ (model X.prog X.w) X.A (getItem v (.ref sl)) (EP X pins σ Q) X.xe s
def yi(xs:List V)(lo hi:Option Int):List V:=(xs.drop (HT.kd xs.length 0 lo)).take (HT.kd xs.length xs.length hi-HT.kd xs.length 0 lo)
theorem vh(xs:List V)(lo hi:Option Int):(yi xs lo hi).length≤xs.length:=by
 unfold yi;rw[bu,bA];lia
def Ft(K:η):R2:=fun x y H Q=>∃a b ns ms,x=.ref a/\y=.ref b/\dU K H a (ns.map V.int)/\dU K H b (ms.map V.int)/\Q (.bl (HT.lexLt ns ms)) H
theorem FW(hu:X.A.units<cLine):dB X (compareOp .Lt) (Ft X.K):=by
 intro pins s σ H x y v u Q I rx ry h;obtain⟨a,b,ns,ms,rfl,rfl,ha,hb,q⟩:=h;cases rx;cases ry;obtain⟨its,r1,p1,_⟩:=I.tuple ha;obtain⟨its2,r2,p2,_⟩:=I.tuple hb;have i1:dS its.toArray.toList ns:=intsAre_of r1;have i2:dS its2.toArray.toList ms:=intsAre_of r2;exact HT.qF p1 p2 i1 i2 hu ⟨.bl (HT.lexLt ns ms),H,I,rfl,q⟩
def Cp(K:η):R2:=fun x y H Q=>∃a b xs ys,x=.ref a/\y=.ref b/\dU K H a xs/\dU K H b ys/\xs≠[]/\xs.length+ys.length≤aj ∧
 (ys=[]->Q (.ref a) H)/\(ys≠[]->∀p,H p=none->Q (.ref p) (upd H p (.tup (xs++ys))))
theorem aR.rE{xs:List V}{us:List γ}(r:aR xs us):us=[]↔xs=[]:=by
 cases r with
 |nil=>simp
 |cons _ _=>simp
theorem DZ:dB X (binaryOp .Add) (Cp X.K):=by
 intro pins s σ H x y v u Q I rx ry h;obtain⟨a,b,xs,ys,rfl,rfl,ha,hb,hx,hz,q1,q2⟩:=h;cases rx;cases ry;obtain⟨its,r1,p1,_⟩:=I.tuple ha;obtain⟨its2,r2,p2,_⟩:=I.tuple hb;refine HT.ED p1 p2 (fun z=>hx (r1.rE.mp z)) (fun z=>⟨.ref a,H,I,rfl,q1 (r2.rE.mp z)⟩) (fun z=>?_) (by rw[←r1.length,←r2.length];exact hz);refine⟨.ref s.heap.objs.size,_,I.laid (t':=s.toks) (o:=.tup (xs++ys)) (fun b ob q=>ρ _ q) (ω _) ?_,rfl,q2 (fun w=>z (r2.rE.mpr w)) _ (I.bT.fresh (ω _))⟩;exact⟨by rw[ξ];exact hz,_,r1.append r2,iF.new _ _⟩
end
end L2
namespace L2
open PySem PySem.Spec PyProof.Rows
def nt(n:Nat)(i:Int):Option Nat:=if 0≤i then (if i<n then some i.toNat else none) else if -(n:Int)≤i then some (i+n).toNat else none
def iQ{α:Type}(xs:List α)(i:Int):Option α:=(nt xs.length i).bind fun j=>xs[j]?
theorem v8{n:Nat}{i:Int}{j:Nat}(h:nt n i=some j):seqIndex? i n=some j/\j<n/\-(n:Int)≤i/\i<n:=by
 unfold nt at h;by_cases h0:0≤i
 ·rw[if_pos h0] at h;by_cases h1:i<n
  ·rw[if_pos h1] at h;have e:i.toNat=j:=aw h;exact⟨by rw[lB h0 h1,e],by lia,by lia,h1⟩
  ·rw[if_neg h1] at h;cases h
 ·rw[if_neg h0] at h;by_cases h1:-(n:Int)≤i
  ·rw[if_pos h1] at h;have e:(i+n).toNat=j:=aw h;exact⟨by rw[seqIndex_neg (by lia) h1,e],by lia,h1,by lia⟩
  ·rw[if_neg h1] at h;cases h
theorem pB{α:Type}{xs:List α}{i:Int}{v:α}(h:iQ xs i=some v):∃j,seqIndex? i xs.length=some j/\xs[j]?=some v/\j<xs.length/\-(xs.length:Int)≤i/\i<xs.length:=by
 unfold iQ at h;cases e:nt xs.length i with
 |none=>rw[e] at h;cases h
 |some j=>
  rw[e] at h;obtain⟨h1,h2,h3,h4⟩:=v8 e;exact⟨j,h1,h,h2,h3,h4⟩
theorem wm{α:Type}{xs:List α}{j:Nat}{v:α}(h:xs[j]?=some v):iQ xs (j:Int)=some v:=by
 have hj:j<xs.length:=(bz.mp h).1;have e:nt xs.length (j:Int)=some j:=by
  unfold nt;rw[if_pos (by lia),if_pos (by lia)];simp
 unfold iQ;rw[e];exact h
def mh(b:μ):Prop:=∀o i,subscripted b false o i=operate [o,i] (getItem o i)
def qY(X:Cx)(r:R2):Prop:=
 ∀(value slice:μ) (pins:List (ζ×bp)) (s:ε) (σ:St) (H:Hp) (x y:V) (v u:γ) (Q:VK),Inv X pins σ H s->RelV x v->RelV y u->r x y H Q ->
  subscripted slice false v u=operate [v,u] (getItem v u)->Ψ (model X.prog X.w) X.A (subscriptTail value slice v u) (EP X pins σ Q) X.xe s
def Im(X:Cx)(id:String)(r:V->List V->Hp->VK->Prop):Prop:=
 ∀(pins:List (ζ×bp)) (s:ε) (σ:St) (H:Hp) (x:V) (xs:List V) (v:γ) (us:List γ) (Q:VK),Inv X pins σ H s->RelV x v->aR xs us->r x xs H Q ->
  Ψ (model X.prog X.w) X.A (call (.builtin id) (v::us)) (EP X pins σ Q) X.xe s
section
variable {X:Cx} {a b:μ} {ta tb:TE} {pos:aG}
theorem qY.or{r r':R2}(h:qY X r)(h':qY X r'):qY X (fun x y H Q=>r x y H Q∨r' x y H Q):=by
 intro value slice pins s σ H x y v u Q I rx ry q hs;rcases q with q|q
 ·exact h value slice pins s σ H x y v u Q I rx ry q hs
 ·exact h' value slice pins s σ H x y v u Q I rx ry q hs
theorem Cs{r:R2}(hr:qY X r)(ha:PE X a ta)(hb:PE X b tb)(hs:mh b):PE X (.Subscript a b pos) (yP r ta tb):=by
 intro pins s σ H Q I h;exact Subscript_ (BS ha hb I h fun v u s2 x y H2 I2 rx ry q=>hr a b pins s2 σ H2 x y v u Q I2 rx ry q (hs _ _))
def AO(K:η):R2:=fun x y H Q=>∃p xs i v,x=.ref p/\y=.int i/\fo K H p xs/\iQ xs i=some v/\Q v H
def Fv(K:η):R2:=fun x y H Q=>∃p xs i v,x=.ref p/\y=.int i/\dU K H p xs/\iQ xs i=some v/\Q v H
def Fw:R2:=fun x y H Q=>∃z i c,x=.str z/\y=.int i/\z.length≤aj/\iQ z.cps.toList i=some c/\Q (.str ⟨#[c]⟩) H
theorem Et:qY X (AO X.K):=by
 intro value slice pins s σ H x y v u Q I rx ry h hs;obtain⟨p,xs,i,z,rfl,rfl,hq,he,q⟩:=h;cases rx;obtain⟨t,rfl⟩:=ry;obtain⟨its,r,pl,hz⟩:=I.list hq;obtain⟨j,h1,h2,h3,h4,h5⟩:=pB he;obtain⟨w,ew,rw'⟩:=r.get h2;have hl:=r.length;have hn:=kh;have fin:EP X pins σ Q w s:=⟨z,H,I,rw',q⟩;by_cases h0:0≤i
 ·have hj:i.toNat=j:=by
   rw[lB h0 h5] at h1;exact aw h1
  exact item_listR pl.isList h0 (by lia) (by rw[hj];simpa using ew) fin hs
 ·have hj:(i+(its.toArray.size:Int)).toNat=j:=by
   rw[seqIndex_neg (by lia) h4] at h1;rw[ο,←hl];exact aw h1
  exact subscriptTail_builtinR (x:=w) pl.isList.typeIs slot_list_getitem.lookup
   (wpAny_getItem_list_neg (Q:=fun r s'=>r=w/\EP X pins σ Q r s') pl.isList (by lia) (by rw[ο]<;>lia) (by lia) (by rw[hj];simpa using ew) ⟨rfl,fin⟩) hs
theorem Hn:qY X (Fv X.K):=by
 intro value slice pins s σ H x y v u Q I rx ry h hs;obtain⟨p,xs,i,z,rfl,rfl,hq,he,q⟩:=h;cases rx;obtain⟨t,rfl⟩:=ry;obtain⟨its,r,pl,hz⟩:=I.tuple hq;obtain⟨j,h1,h2,h3,h4,h5⟩:=pB he;obtain⟨w,ew,rw'⟩:=r.get h2;have hl:=r.length;have hn:=kh;have fin:EP X pins σ Q w s:=⟨z,H,I,rw',q⟩;exact subscriptTail_builtinR (x:=w) pl.typeIs slot_tuple_getitem.lookup
  (getItem_tuple (j:=j) (Q:=fun r s'=>r=w/\EP X pins σ Q r s') pl (by lia) (by lia) (by rw[ο,←hl];exact h1) (by simpa using ew) ⟨rfl,fin⟩) hs
theorem Ho:qY X Fw:=by
 intro value slice pins s σ H x y v u Q I rx ry h hs;obtain⟨z,i,c,rfl,rfl,hz,he,q⟩:=h;obtain⟨t,rfl⟩:=rx;obtain⟨t',rfl⟩:=ry;obtain⟨j,h1,h2,h3,h4,h5⟩:=pB he;have hl:z.cps.toList.length=z.length:=by simp[χ.length]
 rw[hl] at h1 h4 h5;have hn:=kh;exact tail_any (typeIs_str s z t) slot_str_getitem.lookup (getItem_str (c:=c) (by
  have e1:decide (i < -(2^63:Int))=false:=decide_eq_false (by lia);have e2:decide (i≥2^63)=false:=decide_eq_false (by lia);rw[e1,e2,Bool.or_false]) (by rw[h1];simpa using h2) ⟨.str ⟨#[c]⟩,H,I.tok _,⟨_,rfl⟩,q⟩) hs
def Kv(K:η):R2:=fun x y H Q=>AO K x y H Q∨Fv K x y H Q∨Fw x y H Q
theorem zG:qY X (Kv X.K):=Et.or (Hn.or Ho)
theorem xi(its:List γ)(n j:Nat)(u:γ):aO (·.setIfInBounds j u) { cls:=.type "list",data:=.seq its.toArray n }={ cls:=.type "list",data:=.seq (its.set j u).toArray n }:=by
 simp[aO]
theorem Inv.lst{pins:List (ζ×bp)}{σ:St}{H:Hp}{s:ε}{p:ζ}{xs:List V}(I:Inv X pins σ H s)(h:H p=some (.lst xs)):
  ∃(its:List γ) (n:Nat),aR xs its/\s.heap.get? p=some { cls:=.type "list",data:=.seq its.toArray n }/\xs.length≤aj:=by
 obtain⟨z,its,n,r,e⟩:=I.bT p _ h;exact⟨its,n,r,e,z⟩
theorem Inv.GG{pins:List (ζ×bp)}{σ:St}{H:Hp}{s:ε}{p:ζ}{xs ys:List V}{its its':List γ}{n n':Nat}{f:bp->bp}(I:Inv X pins σ H s)(h:H p=some (.lst xs))
  (ho:s.heap.get? p=some { cls:=.type "list",data:=.seq its.toArray n }) (hf:f { cls:=.type "list",data:=.seq its.toArray n }={ cls:=.type "list",data:=.seq its'.toArray n' }) (r:aR ys its') (hz:ys.length≤aj) (t:Nat):
  Inv X pins σ (upd H p (.lst ys)) { s with heap:=s.heap.update p f,toks:=t }:=by
 have e:(s.heap.update p f).get? p=some { cls:=.type "list",data:=.seq its'.toArray n' }:=by
  rw[az.get?_update_self f ho (by rw[hf]<;>rfl),hf]
 refine I.write (x:=p) (e:=p) (by rw[h];trivial) (.inl rfl) (fun b u hb q=>(fB _ _ (fR hb)).trans q) ⟨_,e⟩ ?_;exact⟨hz,its',n',r,e⟩
def Cj:V->V->V->Hp->(Hp->Prop)->Prop:=fun o i v H Q=>∃p xs k j,o=.ref p/\i=.int k/\H p=some (.lst xs)/\nt xs.length k=some j/\Q (upd H p (.lst (xs.set j v)))
theorem set_list:BU X Cj:=by
 intro pins s σ H o i v ov iv u Q I ro ri rv h;obtain⟨p,xs,k,j,rfl,rfl,hp,hj,q⟩:=h;cases ro;obtain⟨t,rfl⟩:=ri;obtain⟨its,n,r,ho,hz⟩:=I.lst hp;obtain⟨h1,h2,h3,h4⟩:=v8 hj;have hl:=r.length;have hn:=kh;have I':Inv X pins σ (upd H p (.lst (xs.set j v))) { s with heap:=s.heap.update p (aO (·.setIfInBounds j u))}:=
  I.GG hp ho (xi its n j u) (r.set rv j) (by rw[List.length_set];exact hz) s.toks
 by_cases h0:0≤k
 ·have hk:k.toNat=j:=by
   rw[lB h0 h4] at h1;exact aw h1
  exact PySem.W.ki_setAt ho h0 (by lia) (by rw[ο,←hl];exact h4) (by rw[hk];exact⟨_,I',q⟩)
 ·have hk:(k+(its.toArray.size:Int)).toNat=j:=by
   rw[seqIndex_neg (by lia) h3] at h1;rw[ο,←hl];exact aw h1
  exact PySem.W.ki_setBack ho (by lia) (by rw[ο,←hl];exact h3) (by lia) (by rw[hk];exact⟨_,I',q⟩)
theorem t9(lo hi:Option Int)(n:Nat):(sliceBounds lo hi none n).1=((HT.kd n 0 lo:Nat):Int)/\(sliceBounds lo hi none n).2.1=((HT.kd n n hi:Nat):Int)/\(sliceBounds lo hi none n).2.2=1:=by
 refine⟨?_,?_,rfl⟩
 ·cases lo with
  |none=>simp[sliceBounds,HT.kd]
  |some i=>
   simp only[sliceBounds,HT.kd,qg,show (1:Int) > 0 by decide,if_true];by_cases h:i<0
   ·simp only[h,if_true]<;>lia
   ·simp only[h,if_false]<;>lia
 ·cases hi with
  |none=>simp[sliceBounds,HT.kd]
  |some i=>
   simp only[sliceBounds,HT.kd,qg,show (1:Int) > 0 by decide,if_true];by_cases h:i<0
   ·simp only[h,if_true]<;>lia
   ·simp only[h,if_false]<;>lia
theorem sR(its:List γ)(lo hi:Option Int):slicePick its.toArray lo hi none=((its.drop (HT.kd its.length 0 lo)).take (HT.kd its.length its.length hi-HT.kd its.length 0 lo)).toArray:=by
 obtain⟨h1,h2,h3⟩:=t9 lo hi its.toArray.size;unfold slicePick;rw[h1,h2,h3];simp only[sliceRange_one,pick_run,ο]<;>rfl
def KZ(K:η):V->Option Int->Option Int->Hp->VK->Prop:=fun x lo hi H Q=>∃a xs,x=.ref a/\fo K H a xs/\∀p,H p=none->Q (.ref p) (upd H p (.lst (yi xs lo hi)))
theorem LK:Mb X (KZ X.K):=by
 intro pins s σ H x v vl vu lo hi sl Q I rx hs pl pu h;obtain⟨a,xs,rfl,hx,q⟩:=h;cases rx;obtain⟨its,r,ht,hz⟩:=I.list hx;have hlen:=r.length;refine⟨"list",_,slot_list_getitem.lookup,ht.isList.typeIs,?_⟩;refine wpAny_getItem_list_slice ht.isList hs pl pu .none (by simp) ?_ (by rw[ο]<;>lia)
 rw[sR,←hlen];refine⟨.ref s.heap.objs.size,_,I.laid (t':=s.toks) (o:=.lst (yi xs lo hi)) (fun b ob q=>ρ _ q) (ω _) ?_,rfl,q _ (I.bT.fresh (ω _))⟩;exact⟨aD (vh xs lo hi) hz,_,0,(r.drop (HT.kd xs.length 0 lo)).take (HT.kd xs.length xs.length hi-HT.kd xs.length 0 lo),aQ _ rfl⟩
theorem uX:iG X (.builtin "len") (fun xs H Q=>∃p ys,xs=[.ref p]/\(fo X.K H p ys∨dU X.K H p ys)/\Q (.int ys.length) H):=by
 intro pins s σ H xs us Q I r h;obtain⟨p,ys,rfl,hq,q⟩:=h;obtain⟨u,rfl,rx⟩:=vals1 r;cases rx;have hn:=kh;rcases hq with hq|hq
 ·obtain⟨its,r',pl,hz⟩:=I.list hq;have hlen:=r'.length;exact Calls.call_len_list pl.isList (by simp only[ο]<;>lia) ⟨.int ys.length,H,I.tok _,⟨s.toks+1,by rw[ο,hlen]⟩,q⟩
 ·obtain⟨its,r',pl,hz⟩:=I.tuple hq;have hlen:=r'.length;exact len_tuple pl (by simp only[ο]<;>lia) ⟨.int ys.length,H,I.tok _,⟨s.toks+1,by rw[ο,hlen]⟩,q⟩
theorem sU:iG X (.type "tuple") (fun xs H Q=>∃p ys,xs=[.ref p]/\((fo X.K H p ys/\∀l,H l=none->Q (.ref l) (upd H l (.tup ys)))∨(dU X.K H p ys/\Q (.ref p) H))):=by
 intro pins s σ H xs us Q I r h;obtain⟨p,ys,rfl,h⟩:=h;obtain⟨u,rfl,rx⟩:=vals1 r;cases rx;rcases h with⟨hq,q⟩|⟨hq,q⟩
 ·obtain⟨its,r',pl,hz⟩:=I.list hq;have hlen:=r'.length;refine call_tuple_list pl.isList (fun h' kp=>?_) (by simp only[ο]<;>lia)
  have I1:Inv X pins σ H { s with heap:=h' }:=I.kept (t':=s.toks) kp;have I2:Inv X pins σ (upd H h'.objs.size (.tup ys)) { s with heap:=h'.push { cls:=.type "tuple",data:=.seq its.toArray }}:=
   I1.laid (t':=s.toks) (fun b o e=>ρ _ e) (ω _) (show fc X.prog X.w _ _ _ (.tup ys) from⟨hz,its,r',iF.new _ _⟩)
  exact⟨.ref h'.objs.size,_,I2,rfl,q _ (I1.bT.fresh (ω _))⟩
 ·obtain⟨its,r',pl,hz⟩:=I.tuple hq;exact call_tuple_same pl ⟨.ref p,H,I,rfl,q⟩
def Ku(K:η)(T:String)(x:V)(H:Hp):Prop:=match x with
 |.str _=>T="str"
 |.int _=>T="int"
 |.ref p=>(T="list"/\∃xs,fo K H p xs)∨(T="tuple"/\∃o,K.lookup p=some o/\o.cls=.type "tuple"/\o.dict=none) ∨
   (T="dict"/\((∃kvs,H p=some (.dK kvs))∨∃kvs,H p=some (.dT kvs)))∨(T="set"/\∃S n,H p=some (.set S n))
 |_=>False
theorem EK{pins:List (ζ×bp)}{σ:St}{H:Hp}{s:ε}{T:String}{x:V}{v:γ}(I:Inv X pins σ H s)(r:RelV x v)(ty:Ku X.K T x H):
  s.TypeIs v T/\∀a,v=.ref a->∃ob,s.heap.get? a=some ob/\ob.dict=none:=by
 cases x with
 |str z=>
  obtain⟨t,rfl⟩:=r;cases (show T="str" from ty);exact⟨typeIs_str s z t,fun _ e=>nomatch e⟩
 |int i=>
  obtain⟨t,rfl⟩:=r;cases (show T="int" from ty);exact⟨typeIs_int s i t,fun _ e=>nomatch e⟩
 |ref p=>
  cases r;rcases ty with⟨rfl,xs,hq⟩|⟨rfl,o,hk,hc,hd⟩|⟨rfl,hk⟩|⟨rfl,S,n,hk⟩
  ·obtain⟨its,_,pl,_⟩:=I.list hq;refine⟨pl.isList.typeIs,fun a e=>?_⟩;cases e;obtain⟨o,n,e,c,hd,_⟩:=pl;exact⟨o,e,hd⟩
  ·refine⟨⟨o,I.jG p o hk,hc⟩,fun a e=>?_⟩;cases e;exact⟨o,I.jG _ o hk,hd⟩
  ·have z:∃o,s.heap.get? p=some o/\o.ExactDict:=by
    rcases hk with⟨kvs,hk⟩|⟨kvs,hk⟩
    ·obtain⟨_,_,_,_,o,_,_,e,ex,_⟩:=I.bT p _ hk;exact⟨o,e,ex⟩
    ·obtain⟨_,_,_,_,o,_,_,e,ex,_⟩:=I.bT p _ hk;exact⟨o,e,ex⟩
   obtain⟨o,e,ex⟩:=z;refine⟨⟨o,e,ex.1⟩,fun a e2=>?_⟩;cases e2;exact⟨o,e,ex.2.1⟩
  ·obtain⟨o,_,_,_,e,ex,_⟩:=I.bT p _ hk;refine⟨⟨o,e,ex.1⟩,fun a e2=>?_⟩;cases e2;exact⟨o,e,ex.2.1⟩
 |_=>exact eN ty
def EX(K:η)(T:String)(r:V->List V->Hp->VK->Prop)(to:TE)(t:TA):TE:=fun σ H Q=>to σ H fun x H1=>Ku K T x H1/\t σ H1 fun xs H2=>r x xs H2 Q
variable {o e:μ} {es:List μ} {to:TE} {t:TA} {name:χ} {apos cpos:aG} {T id:String} {r:V->List V->Hp->VK->Prop}
theorem Jj(pa:PlainAttrs T)(slot:Slot T name id)(hty:typeOf (.builtin id)=pure (.type "method_descriptor"))(hm:Im X id r)(ho:PE X o to)(ha:PA X (e::es) t)
  (xC:attributeBase o name X.env (eval o X.env)=eval o X.env:=by rfl)
  (Bk:((backTo cpos (bw (e::es) X.env)).all (fun x=>!x.1)&&(backToKw cpos (keywordEach [] X.env)).all (fun x=>x.1.isSome)
   && decide ((e::es).length+([]:List Keyword).length+(if ([]:List Keyword).isEmpty then 0 else 1)<30))=true:=by rfl)
  (xB:(apos.endLine==cpos.line)=true:=by rfl) (hs:bw (e::es) X.env=(false,eval e X.env)::bw es X.env:=by rfl) (hplain:(backTo cpos (bw es X.env)).any (·.1)=false:=by rfl):
  PE X (.Call (.Attribute o name apos) (e::es) [] cpos) (EX X.K T r to t):=by
 intro pins s σ H Q I h;refine wpAny_Call_method_late xC Bk xB rfl (bG (ho pins s σ H _ I h) fun v s1 ⟨x,H1,I1,r1,ty,q1⟩=>?_);obtain⟨h1,h2⟩:=EK I1 r1 ty;refine⟨T,id,pa,slot,hty,h1,h2,?_⟩;have hA:=ha cpos pins s1 σ H1 _ I1 q1;rw[hs] at hA ⊢;refine Calls.callWith_builtin (by show (false||(backTo cpos (bw es X.env)).any (·.1))=false;rw[hplain]<;>rfl) (Calls.evalArgs_plain ?_)
 exact bG hA fun us s2 ⟨vs,H2,I2,r2,q2⟩=>hm pins s2 σ H2 x vs v us Q I2 r1 r2 q2
/- xs.append(e),list.index on a module's tuple .. are Im facts of 06m -/
end
end L2
namespace L2
open PySem PySem.Spec PyProof.Rows
def Ky(X:Cx)(id:String)(r:V->List V->Hp->VK->Prop):Prop:=
 ∀(pins:List (ζ×bp)) (s:ε) (σ:St) (H:Hp) (x:V) (xs:List V) (v:γ) (us:List γ) (Q:VK),Inv X pins σ H s->RelV x v->aR xs us->r x xs H Q ->
  Ψ (model X.prog X.w) X.A (call (.builtin id) (v::us)) (EP X pins σ Q) X.xe s
theorem aR.one:∀{x:V} {us:List γ},aR [x] us->∃u,us=[u]/\RelV x u
 |_,_,.cons r .nil=>⟨_,rfl,r⟩
theorem aR.rep{xs:List V}{us:List γ}(h:aR xs us):∀k:Nat,aR (aX k xs).flatten (aX k us).flatten
 |0=>.nil
 |k+1=>by
  rw[dH,dH,cR,cR];exact aR.append h (aR.rep h k)
theorem foldl_rep(its:List γ):∀(k:Nat) (acc:List γ),
  rj (fun x1 x2=>x1++x2) acc.toArray (aX k its.toArray)=(acc++(aX k its).flatten).toArray
 |0,acc=>by simp
 |k+1,acc=>by
  have e:acc.toArray++its.toArray=(acc++its).toArray:=by simp
  have e2:(acc++its)++(aX k its).flatten=acc++(aX (k+1) its).flatten:=by
   rw[dH,cR,ψ]
  rw[←e2,←foldl_rep its k (acc++its),←e,dH,List.foldl_cons]
section
variable {X:Cx} {pins:List (ζ×bp)} {σ:St} {H:Hp} {s:ε} {l b:ζ} {xs ys zs:List V}
theorem Inv.GH{its its':List γ}{n:Nat}{f:Array γ->Array γ}{t':Nat}(I:Inv X pins σ H s)(hH:H l=some (.lst xs))
  (e:s.heap.get? l=some { cls:=.type "list",data:=.seq its.toArray n }) (hf:f its.toArray=its'.toArray) (hv:aR ys its') (hz:ys.length≤aj):
  Inv X pins σ (upd H l (.lst ys)) { s with heap:=s.heap.update l (aO f),toks:=t' }:=by
 have q:=PySem.IsL.update e f;rw[hf] at q;refine I.write (x:=l) (e:=l) (by rw[hH];exact trivial) (.inl rfl) (fun b' u hb hu=>(fB s.heap (aO f) (fR hb)).trans hu) ⟨_,q⟩ ?_;exact⟨hz,its',_,hv,q⟩
theorem Inv.A6{its:List γ}{t':Nat}(I:Inv X pins σ H s)(hv:aR ys its)(hz:ys.length≤aj):
  Inv X pins σ (upd H s.heap.objs.size (.lst ys)) { s with heap:=s.heap.push { cls:=.type "list",data:=.seq its.toArray },toks:=t' }:=
 I.laid (fun _ _ q=>ρ _ q) (ω _) ⟨hz,its,0,hv,aQ _ rfl⟩
theorem Inv.fresh(I:Inv X pins σ H s):H s.heap.objs.size=none:=I.bT.fresh (ω _)
theorem Inv.rL(I:Inv X pins σ H s)(hH:H l=some (.lst xs)):xs.length≤aj/\∃(its:List γ) (n:Nat),aR xs its/\xs.length=its.length/\s.heap.get? l=some { cls:=.type "list",data:=.seq its.toArray n }:=by
 obtain⟨z,its,n,r,e⟩:=I.bT l _ hH;exact⟨z,its,n,r,r.length,e⟩
theorem uu{n:Nat}(h:n≤aj):e7 n=false:=by
 unfold e7;exact decide_eq_false (by lia)
end
section
variable {X:Cx}
def vG:V->List V->Hp->VK->Prop:=fun x vs H Q=>∃l xs y,x=.ref l/\vs=[y]/\H l=some (.lst xs)/\xs.length<aj/\Q .ak (upd H l (.lst (xs++[y])))
theorem su:Ky X "list.append" vG:=by
 intro pins s σ H x vs v us Q I rx rv h;obtain⟨l,xs,y,rfl,rfl,hH,hz,q⟩:=h;cases rx;obtain⟨u,rfl,ru⟩:=rv.one;obtain⟨z,its,n,r,hl,e⟩:=I.rL hH;refine m4 F.slot_list_append ⟨_,e,rfl⟩ F.entry_list_append (F.args_list_append_2 _ _) (PySem.list_append l its.toArray n u (by rw[ο];lia)) ⟨e,?_⟩;refine⟨.ak,_,I.GH (its':=its++[u]) hH e (by simp) (r.append (.cons ru .nil)) ?_,rfl,q⟩;rw[ξ,List.length_singleton];lia
def vF:V->List V->Hp->VK->Prop:=fun x vs H Q=>∃l b xs zs,x=.ref l/\vs=[.ref b]/\H l=some (.lst xs)/\H b=some (.lst zs)/\xs.length+zs.length≤aj/\Q .ak (upd H l (.lst (xs++zs)))
theorem sr:Ky X "list.extend" vF:=by
 intro pins s σ H x vs v us Q I rx rv h;obtain⟨l,b,xs,zs,rfl,rfl,hH,hB,hz,q⟩:=h;cases rx;obtain⟨u,rfl,ru⟩:=rv.one;cases ru;obtain⟨z,its,n,r,hl,e⟩:=I.rL hH;obtain⟨z2,its2,n2,r2,hl2,e2⟩:=I.rL hB;have qM:its.toArray.size+its2.toArray.size≤aj:=by rw[ο,ο];lia
 have hlong:¬(!its.toArray.isEmpty&&e7 (its.toArray.size+its2.toArray.size))=true:=by
  rw[uu qM,Bool.and_false];exact ai
 refine m4 F.slot_list_extend ⟨_,e,rfl⟩ F.entry_list_extend (F.args_list_extend_2 _ _)
  (AutoSeq1.list_extend_list_list_0 l its.toArray n b its2.toArray n2 hlong (by rw[ο];lia) (by lia)) ⟨e,e2,?_⟩
 refine⟨.ak,_,I.GH (its':=its++its2) hH e (by simp) (r.append r2) ?_,rfl,q⟩;rw[ξ];lia
def FA:R2:=fun x y H Q=>∃l b xs zs,x=.ref l/\y=.ref b/\H l=some (.lst xs)/\H b=some (.lst zs)/\xs.length+zs.length≤aj/\∀p,H p=none->Q (.ref p) (upd H p (.lst (xs++zs)))
theorem FZ:dB X (binaryOp .Add) FA:=by
 intro pins s σ H x y v u Q I rx ry h;obtain⟨l,b,xs,zs,rfl,rfl,hH,hB,hz,q⟩:=h;cases rx;cases ry;obtain⟨z,its,n,r,hl,e⟩:=I.rL hH;obtain⟨z2,its2,n2,r2,hl2,e2⟩:=I.rL hB;refine PySem.P.add_list e e2 ?_ (by rw[ο,ο];lia);have ea:its.toArray++its2.toArray=(its++its2).toArray:=by simp
 rw[ea];exact⟨.ref _,_,I.A6 (t':=s.toks) (r.append r2) (by rw[ξ];lia),rfl,q _ I.fresh⟩
def Fs:R2:=fun x y H Q=>∃l k xs,x=.ref l/\y=.int k/\H l=some (.lst xs)/\-(2^63)≤k/\k<2^63/\xs.length*k.toNat≤aj ∧
 ∀p,H p=none->Q (.ref p) (upd H p (.lst (aX k.toNat xs).flatten))
theorem len_rep{α:Type}(xs:List α)(k:Nat):(aX k xs).flatten.length=k*xs.length:=by
 induction k with
 |zero=>simp
 |succ k ih=>rw[dH,cR,ξ,ih,Nat.succ_mul,Nat.add_comm]
theorem FU:dB X (binaryOp .Mult) Fs:=by
 intro pins s σ H x y v u Q I rx ry h;obtain⟨l,k,xs,rfl,rfl,hH,h1,h2,hz,q⟩:=h;cases rx;obtain⟨t,rfl⟩:=ry;obtain⟨z,its,n,r,hl,e⟩:=I.rL hH;have hlen:its.toArray.size*k.toNat≤aj:=by rw[ο,←hl];exact hz
 have hcap:¬its.toArray.size*k.toNat > (2^63-1) / 8:=by
  have:(aj:Nat)≤(2^63-1) / 8:=by decide
  lia
 have hfit:¬(!mB.List.listFitsIndex k)=true:=by
  rw[fitsIndex_both h1 h2];exact ai
 have hlong:¬e7 (its.toArray.size*k.toNat)=true:=by
  rw[uu hlen];exact ai
 have hnew:rj (fun x1 x2=>x1++x2) #[] (aX (if its.toArray.isEmpty=true then 0 else k.toNat) its.toArray)=(aX k.toNat its).flatten.toArray:=by
  have f0:∀m:Nat,rj (fun x1 x2=>x1++x2) #[] (aX m its.toArray)=(aX m its).flatten.toArray:=fun m=>by
   have:=foldl_rep its m [];rw[bF] at this;exact this
  rw[f0];cases its with
  |nil=>simp
  |cons a r'=>rw[if_neg (by simp)]
 refine wpAny_binaryOp_repeat_ref (T:="list") (U:="int") (by decide) ⟨_,e,rfl⟩ (fun s'=>typeIs_int s' k t) noFill_list_mul F.fills_int_mul F.slot_int_rmul repeat_list F.slot_int_index.lookup
  (m4 F.slot_int_rmul (typeIs_int s k t) F.entry_int_rmul (F.args_int_rmul_2 _ _) (int___rmul___int_list k t l its.toArray n)
   ⟨e,rfl,⟨_,e,rfl⟩,m4 F.slot_list_mul ⟨_,e,rfl⟩ F.entry_list_mul (F.args_list_mul_2 _ _) (AutoListH.list___mul___list_int_3 l its.toArray n k t hfit hcap hlong) ⟨e,?_⟩⟩)
 rw[hnew];exact⟨.ref _,_,I.A6 (t':=s.toks) (r.rep k.toNat) (by rw[len_rep,kE];exact hz),rfl,q _ I.fresh⟩
end
end L2
namespace KC
open PySem PySem.W PySem.Calls PyProof.Rows
theorem qJ{P:Params}{h:az}:∀(ns:List Int) (vs:List γ),WellAll P h vs (ns.map WData.int)->dS vs ns:=by
 intro ns
 induction ns with
 |nil=>
  intro vs w;rw[List.map_nil] at w;cases w;exact .nil
 |cons n ns ih=>
  intro vs w;rw[dD] at w;cases w with
  |cons a b=>
   cases a;exact .cons _ _ (ih _ b)
theorem yT{l:OpenLaw}{n:Nat}(hn:l.most=some n){P:Params}{h:az}{args:List WData}{vals:List γ}
  (xA:l.row.toRowW.claim.pre args=true) (hwl:WellAll P h vals args):
  ∃a vs ns,vals=[cu a]/\args=[WData.list (ns.map WData.int)]/\h.get? a=some { cls:=.type "list",data:=.seq vs.toArray }/\dS vs ns/\ns.length≤n:=by
 have hsh:WShape.hasAll [] args [.list .int]=true:=(pre_splitW xA).1;have hc:l.pre.holds [] { args:=args }=true:=(pre_splitW xA).2;obtain⟨d,r,rfl,h1,h2⟩:=hasAllW_cons hsh;obtain rfl:=hasAllW_nil h2;obtain⟨xs,rfl,h3⟩:=hasW_list h1;obtain⟨ns,rfl⟩:=items_int h3;have hlen:ns.length≤n:=by
  unfold OpenLaw.pre at hc;have h4:(WTm.not (.lt (.lit (.int (n:Int))) (.len (.arg 0)))).holds [] { args:=[.list (ns.map .int)]}=true:=by
   have h4:=(holds_andW hc).1;rw[hn] at h4;exact h4
  have h5:=condW_of h4 (w_not (w_lt w_lit (w_len_list (w_arg rfl))));rw[θ] at h5;refine Nat.le_of_not_lt fun q=>?_;have q':(n:Int)<((ns.length:Nat):Int):=by lia
  first
   | (rw[decide_eq_true q'] at h5;exact absurd h5 (by decide))
   | (simp at h5;lia)
 cases hwl with
 |cons w1 w2=>
  cases w2;cases w1 with
  |list ho hall=>exact⟨_,_,ns,rfl,rfl,ho,qJ ns _ hall,hlen⟩
theorem zk(l:OpenLaw)(args:List WData):l.row.toRowW.claim.post args (.bool true) args=true:=
 postW_of (r:=l.row.toRowW) (X:=(true==true))
  (show WShape.has [] (.bool true) .bool=true by first|rfl|decide|simp[WShape.has,WShape.arms,WShape.armsAll])
  (show (WTm.eq .res (.lit (.bool true))).value [] { args:=args,res:=some (.bool true),after:=args }=some (.bool (true==true)) from w_eq_bool (w_res rfl) w_lit) rfl
theorem vn{l:OpenLaw}{n:Nat}{q:aq}{loose:List χ}{XP:(χ->Option γ)->az->Prop}{YP:aC->az->Prop}{d:DefRec}
  (hn:l.most=some n) (hdf:d.params.defaults=[])
  (call:∀(w:aC) (s₀ s₁:ε) (mg mb:χ->Option γ) (fa:ζ) (o:bp) (pm cd doc:γ) (a:ζ) (vs:List γ) (ns:List Int),
   Ground q loose [] XP w s₀ mg mb s₁.heap->YP w s₁.heap ->
   s₁.heap.get? fa=some o->o.data=.func (docDef d.name d.params d.body d.scope pm cd doc)->s₁.heap.CodeRec cd d.name->mg d.name=some (.ref fa) ->
   s₁.heap.get? a=some { cls:=.type "list",data:=.seq vs.toArray }->dS vs ns->ns.length≤n->s₁.gens = #[] ->
   jY (model l.prog w) callerA (.call (.ref fa) ⟨[.ref a],[]⟩) (fun r s'=>r=.ok (.ret (.bool true))/\OldK s₁.heap s'.heap/\s'.os=s₁.os/\ir s'.gens) s₁):
  WalkO q loose XP YP l.row.toRowW d [] (fun f vs=>rb f vs):=by
 intro w s₀ s₁ mg mb G Y fa o pm cd doc dV kV ho hd oq hD hmg hg args vals as xA hlay CO hwl hlo;obtain rfl:dV=.none:=Dflts.none hD hdf;obtain rfl:kV=.none:=Dflts.noKw hD;obtain⟨a,vs,ns,rfl,rfl,hobj,hints,hlen⟩:=yT hn xA hwl;refine enter_call (codeAny_mono (call w s₀ s₁ mg mb fa o pm cd doc a vs ns G Y ho (fd_plain hd) oq hmg hobj hints hlen hg) fun r s' hq=>?_);obtain⟨rfl,h2,h3,h4⟩:=hq;exact⟨.inl ⟨.bool true,.bool true,[],rfl,fun _=>rfl,.bool true,zk l _,fun _=>⟨fG,fun _ hm=>(nomatch hm)⟩⟩,h2,h3,h4⟩
end KC
namespace L2
open PySem PySem.Spec PyProof.Rows
theorem r8:∀{vs:List γ} {ns:List Int},dS vs ns->aR (ns.map V.int) vs
 |_,_,.nil=>.nil
 |_,_,.cons n t h=>.cons ⟨t,rfl⟩ (r8 h)
def yn(H:Hp):Prop:=∀b,H b=none∨∃o xs,H b=some (.fC o (.lst xs))
theorem A8{P:aq}{w:aC}{K:η}{mg mb:χ->Option γ}{CX:nu}{k:Nat}{fa a:ζ}{fd:aJ}{x:χ}{sp:Sp}{s₁:ε}{vs:List γ}{ns:List Int}
  (KX:K.In s₁.heap) (hns:s₁.heap.Ns bh mg) (hb:s₁.heap.Ns builtinsNs mb) (hbb:∀x:χ,x≠"__name__"->mb x=eX x) (hlim:s₁.heap.NoLimit) (hg:s₁.gens = #[])
  (ha:s₁.heap.get? a=some { cls:=.type "list",data:=.seq vs.toArray }) (hi:dS vs ns) (hl:ns.length≤aj) (hr:eW k callerA)
  (F:∀base:az,K.In base->base.Ns bh mg->gY P w K mg base CX k fa fd [x] sp) (hbind:∀(s:ε) (u:γ),mD s fd ⟨[u],[]⟩ [(x,u)])
  (sC:∀H:Hp,yn H->fo K H a (ns.map V.int)->sp [.ref a] H (fun v _=>v=.bl true) fun _ _ _=>False)
  (HD:∀H e s',CX [] H s₁ (fun _ _ _=>False) e s'->False):
  jY (model P w) callerA (.call (.ref fa) ⟨[.ref a],[]⟩) (fun r s'=>r=.ok (.ret (.bool true))/\OldK s₁.heap s'.heap/\s'.os=s₁.os/\ir s'.gens) s₁:=by
 have rv:=r8 hi;have lenV:=hi.length
 -- from an abstract heap in which nothing but the script may be tracked
 have core:∀H:Hp,yn H->fo K H a (ns.map V.int)->gH P w H s₁.heap->(∀b,H b≠none->b=a)->(H a≠none->K.lookup a=none) ->
   jY (model P w) callerA (.call (.ref fa) ⟨[.ref a],[]⟩) (fun r s'=>r=.ok (.ret (.bool true))/\OldK s₁.heap s'.heap/\s'.os=s₁.os/\ir s'.gens) s₁:=by
  intro H hO hS bT hA hK;have base_of:∀{b:ζ} {o:bp},s₁.heap.get? b=some o->H b=none->(mQ s₁.heap H).get? b=some o:=fun e n=>Bj e n;have noA:∀{b:ζ} {o:bp} {es:Array DictEntry} {ep:Nat},s₁.heap.get? b=some o->o.data=.dict es ep->H b=none:=fun {b o es ep} e d=>by
   cases q:H b with
   |none=>rfl
   |some u=>
    have e':b=a:=hA b (by rw[q];simp);subst e';rw[ha] at e;cases e;have d':Data.seq vs.toArray _=Data.dict es ep:=d;cases d'
  have nsK:∀{b:ζ} {m:χ->Option γ},s₁.heap.Ns b m->(mQ s₁.heap H).Ns b m:=fun {b m} ⟨o,es,ep,e,d,r⟩=>⟨o,es,ep,base_of e (noA e d),d,r⟩;have hKb:K.In (mQ s₁.heap H):=fun b o e=>base_of (KX b o e) (by
   cases q:H b with
   |none=>rfl
   |some u=>
    have e':b=a:=hA b (by rw[q];simp);subst e';rw[hK (by rw[q];simp)] at e;cases e)
  have hM:Mod K mg (mQ s₁.heap H):=⟨hKb,nsK hns,⟨mb,nsK hb,hbb⟩,let ⟨mc,h1,h2⟩:=hlim;⟨mc,nsK h1,h2⟩⟩
  have e0:yu P w K mg (mQ s₁.heap H) callerA [] s₁ H:=⟨rfl,hM,fun b o e=>D0 e,oP (zJ _ _),trivial,fun b hb=>absurd (show b∈([]:List ζ) from hb) (by simp),bT,.of_eq hg⟩;refine codeAny_mono ((F _ hKb (nsK hns)).run callerA [] s₁ H ⟨[.ref a],[]⟩ [.ref a] [.ref a] _ _ hr e0 (hbind s₁ (.ref a)) (.cons rfl .nil) (sC H hO hS)) fun r s' h=>?_;cases r with
  |error e=>exact (HD H e s' h).elim
  |ok fl=>
   cases fl with
   |next=>exact eN h
   |brk=>exact eN h
   |cont=>exact eN h
   |ret u=>
    obtain⟨v,H',os,bare,un,hok',r',q⟩:=h;have q':v=.bl true:=q;subst q';obtain rfl:u=iK true:=r';refine⟨rfl,OldK.of_keep fun b o e=>?_,os,bare⟩;cases q:H b with
    |none=>exact un.keep b o e q (by intro z;exact absurd (show b∈([]:List ζ) from z) (by simp)) (by simp)
    |some u=>
     rcases hO b with z|⟨ob,xs,z⟩
     ·rw[q] at z;cases z
     ·have z2:=un.mS b ob _ z;obtain⟨e1,_⟩:=bT b _ z;obtain⟨e2,_⟩:=hok' b _ z2;rw[e] at e1;cases e1;exact e2
 cases hk:K.lookup a with
 |some o=>
  -- the script is one of the module's own objects
  have e:=KX a o hk;rw[ha] at e;cases e;refine core (fun _=>none) (fun _=>.inl rfl) (.inr ⟨_,vs.toArray,_,hk,rfl,rfl,rfl,by rw[ο,lenV];exact hl,by simpa using rv⟩) (fun b u z=>by have z':(none:Option HO)=some u:=z;cases z') (fun b z=>absurd rfl z) fun z=>absurd rfl z
 |none=>
  refine core (fun b=>if b=a then some (.fC { cls:=.type "list",data:=.seq vs.toArray } (.lst (ns.map V.int))) else none) (fun b=>?_) (.inl (.inr ⟨{ cls:=.type "list",data:=.seq vs.toArray },if_pos rfl⟩)) (fun b u z=>?_) (fun b z=>?_) fun _=>hk
  ·by_cases hb:b=a
   ·exact .inr ⟨_,_,if_pos hb⟩
   ·exact .inl (if_neg hb)
  ·by_cases hb:b=a
   ·have z':=(if_pos hb).symm.trans z;cases z';subst hb;exact⟨ha,by rw[θ];exact hl,vs,_,rv,ha⟩
   ·have z':=(if_neg hb).symm.trans z;cases z'
  ·by_cases hb:b=a
   ·exact hb
   ·exact absurd (if_neg hb) z
end L2
namespace L2
open PySem PySem.Spec PyProof.Rows
theorem vp{l:rh}{n k:Nat}{q:aq}{loose:List χ}{XP:(χ->Option γ)->az->Prop}{YP:aC->az->Prop}{d:DefRec}{K:Params->η}{CX:aC->nu}{sp:aC->Sp}{x:χ}
  (hn:l.most=some n) (hn2:n≤aj) (hdf:d.params.defaults=[]) (hr:eW k callerA)
  (hY:∀(w:aC) (h:az),YP w h->(K w.params).In h)
  (F:∀(w:aC) (mg:χ->Option γ) (fa:ζ) (h:az),(K w.params).In h->h.Ns bh mg->mg d.name=some (.ref fa) ->
   ∃fd:aJ,(∀(s:ε) (u:γ),mD s fd ⟨[u],[]⟩ [(x,u)]) ∧
    ∀base:az,(K w.params).In base->base.Ns bh mg->gY l.prog w (K w.params) mg base (CX w) k fa fd [x] (sp w))
  (sC:∀(w:aC) (H:Hp) (a:ζ) (ns:List Int),ns.length≤n->yn H->fo (K w.params) H a (ns.map V.int)->sp w [.ref a] H (fun v _=>v=.bl true) fun _ _ _=>False)
  (HD:∀(w:aC) (H:Hp) (s:ε) (e:γ) (s':ε),CX w [] H s (fun _ _ _=>False) e s'->False):
  PySem.W.WalkO q loose XP YP l.row.toRowW d [] (fun f vs=>rb f vs):=by
 refine KC.vn hn hdf fun w s₀ s₁ mg mb fa o pm cd doc a vs ns G Y ho hd oq hmg hobj hints hlen hg=>?_;have KX:=hY w _ Y;obtain⟨fd,hb,hF⟩:=F w mg fa _ KX G.T.g hmg;exact A8 KX G.T.g G.T.b G.T.builtins G.T.nolimit hg hobj hints (aD hlen hn2) hr hF hb (fun H hO hS=>sC w H a ns hlen hO hS) fun H e s'=>HD w H s₁ e s'
end L2
/- THE LAST THEOREM (shape;LID,My.* are yours):
  My.Dc: a structure of the addresses that your layer names (classes,functions);My.Txt K t: a structure (Prop) of the equations over K;
  My.tM:{K} {implicit addresses ..} (e1:nsIn K bh "law" = some (some (.ref f))) (e2:K.lookup f=some ⟨oc,od,.func (fnOf "law" "law" params body scope dV kV doc pm an cdv ct),sl⟩) (e3:codeIn K cdv "law" = true) ..:∃t,My.Txt K t
set_option maxRecDepth 100000 in
set_option maxHeartbeats 0 in
theorem PySem.Challenge.cw_LID_holds : PySem.Challenge.rw_LID.Holds := by
 w_on;o_law;k_head;(case hw=>w_witness2)
 k_fill
 refine L2.vp (l:=PySem.Challenge.rw_LID) (n:=63) (k:=40) (x:="script") (CX:=fun w=>..) (sp:=fun _=>My.ji) rfl (by decide) rfl ⟨rfl,by decide,by decide⟩ (fun w h Y=>PySem.W.kIn_of Y) ?F ?S ?C
 case F=>
  intro w mg fa h KX G hmg
  have T:∃t,My.Txt (L2.KOf KX) t:=by
   dsimp only[L2.KOf]                          -- K must stand as «<heap const> w.params» for k_is
   refine' My.tM ?e1 ?e2 ?e3 ..
   (case e1=>PySem.W.k_is)                    -- in the order: a name -> its address -> its object -> its parts
   (case e2=>PySem.W.k_is)
   ..
  obtain⟨t,T⟩:=T
  have e0:=hmg.symm.trans (aM KX G T.law)
  cases e0                                       -- fa is the law's own address
  exact⟨_,fun s u=>.of_eq rfl,fun base kb nb=>My.law_fn T kb nb⟩     -- if «.of_eq rfl» comes too early: refine' ⟨_,?b,fun base kb nb=>My.law_fn T kb nb⟩;exact fun s u=>.of_eq rfl
 case S=>exact fun w H a ns hl hO hS=>..
 case C=>exact ..
(the tactic k_is has no namespace: write k_is) -/
namespace L2
open PySem PySem.Spec PyProof.Rows
def lZ(s:aT):Arguments:=match s with
 |.FunctionDef _ a _ _ _ _ _ _ _ _=>a
 |_=>{ posonlyargs:=[],args:=[],vararg:=none,kwonlyargs:=[],kw_defaults:=[],kwarg:=none,defaults:=[]}
def ig(s:aT):List aT:=match s with
 |.FunctionDef _ _ b _ _ _ _ _ _ _=>b
 |_=>[]
def ar(s:aT):fq:=match s with
 |.FunctionDef _ _ _ _ _ _ sc _ _ _=>sc
 |_=>{ kind:=.function,names:=[],isGenerator:=false,isCoroutine:=false }
abbrev sP:nu:=fun _ _ _ _ _ _=>False
abbrev E0:XK:=fun _ _ _=>False
theorem Jl{X:Cx}:u1 sP X E0:=fun _ _ _ _ _ _ _ h=>h.elim
structure fg(K:η)(x qual:χ)(st:aT)(f:ζ)(fd:aJ):Prop where
 ex:∃(oc:γ) (od:Option ζ) (kV doc pm:γ) (an:Option ζ) (cdv ct:γ) (osl:Array (Option γ)),
  fd=fQ x qual (lZ st) (ig st) (ar st) .none kV doc pm an cdv ct/\K.lookup f=some ⟨oc,od,.func fd,osl⟩/\i9 K cdv qual=true
 kp:fP K (.ref f)=true
section
variable {P:aq} {w:aC} {K:η} {mg:χ->Option γ} {base:az}
theorem fg.ok{x qual:χ}{st:aT}{f:ζ}{fd:aJ}{N ps:List χ}{k:Nat}{sp:Sp}(F:fg K x qual st f fd)(S:bO N ps (ar st))(len:∀vs H Q E,sp vs H Q E->vs.length=ps.length)
  (mR:∀(cdv:γ) (A:aZ) (outer:List fX) (s:ε) (H:Hp) (vs:List V) (Q:VK) (E:XK),eW k (A.deeper (envOfC qual (ar st) s.heap.objs.size f cdv))->sp vs H Q E ->
   ∃t,jH (oC sP P w K mg base N qual (ar st) f cdv A outer s H E).vR (ig st) t/\t { nx:=fun _ H'=>Q .ak H',rt:=Q } (start N vs) H):gY P w K mg base sP (k+1) f fd ps sp:=by
 obtain⟨oc,od,kV,doc,pm,an,cdv,ct,osl,rfl,lk,oq⟩:=F.ex;refine J4 lk oq S len fun A outer s H vs Q E hr sC=>?_;obtain⟨t,h,q⟩:=mR cdv A outer s H vs Q E hr sC;exact⟨t,h.vR,q⟩
theorem fg.binds{x qual:χ}{st:aT}{f:ζ}{fd:aJ}{ps:List χ}(F:fg K x qual st f fd)
  (h:∀(kV doc pm:γ) (an:Option ζ) (cdv ct:γ) (us:List γ),us.length=ps.length->bindArgs (fQ x qual (lZ st) (ig st) (ar st) .none kV doc pm an cdv ct) ⟨us,[]⟩=pure (ps.zip us)):Binds K fd ps []:=by
 obtain⟨oc,od,kV,doc,pm,an,cdv,ct,osl,rfl,lk,oq⟩:=F.ex;exact .all (h kV doc pm an cdv ct)
theorem HG{x qual:χ}{st:aT}{f:ζ}{oc:γ}{od an:Option ζ}{osl:Array (Option γ)}{kV doc pm cdv ct:γ}(l:K.lookup f=some ⟨oc,od,.func (fQ x qual (lZ st) (ig st) (ar st) .none kV doc pm an cdv ct),osl⟩)
  (c:i9 K cdv qual=true) (k:fP K (.ref f)=true):fg K x qual st f (fQ x qual (lZ st) (ig st) (ar st) .none kV doc pm an cdv ct):=⟨⟨oc,od,kV,doc,pm,an,cdv,ct,osl,rfl,l,c⟩,k⟩
end
section
variable {X:Cx}
theorem pv(i:Nat){x:χ}{pos:aG}(hN:X.N[i]?=some x:=by rfl)(hv:Ih X.env.scope x:=by first|exact oI rfl|exact mn (oI rfl)|exact mn (mn rfl))(hd:(x==("__debug__":χ))=false:=by decide)
  (oq:(x==("__classdict__":χ))=false:=by decide):PE X (.Name x pos) (wA i):=FK hN hv hd oq
end
end L2
namespace L3
open PySem PySem.Spec PyProof.Rows L2
inductive D where
 |ak|bl (b:Bool)|int (i:Int)|str (x:χ)|tup (xs:List D)|gf (xs:List D)|obj (a:ζ)|dc (a:ζ)
def oD(K:η)(H:Hp)(a:ζ)(xs:List V):Prop:=
 (∃o,H a=some (.fC o (.lst xs))) ∨
  ∃(o:bp) (its:Array γ) (n:Nat),K.lookup a=some o/\o.cls=.type "list"/\o.dict=none/\o.data=.seq its n/\its.size≤aj/\aR xs its.toList
theorem oD.l{K:η}{H:Hp}{a:ζ}{xs:List V}(h:oD K H a xs):fo K H a xs:=by
 rcases h with h|h
 ·exact .inl (.inr h)
 ·exact .inr h
mutual
def Hv(K:η)(H:Hp):D->V->Prop
 |.ak,v=>v=.ak
 |.bl b,v=>v=.bl b
 |.int i,v=>v=.int i
 |.str x,v=>v=.str x
 |.tup ds,v=>∃a vs,v=.ref a/\dU K H a vs/\aB K H ds vs
 |.gf ds,v=>∃a vs,v=.ref a/\oD K H a vs/\aB K H ds vs
 |.obj a,v=>v=.ref a
 |.dc a,v=>v=.ref a/\∃ob φ,H a=some (.fC ob (.ext φ))/\ob.cls=.type "dict"
def aB(K:η)(H:Hp):List D->List V->Prop
 |[],vs=>vs=[]
 |d::ds,vs=>∃v r,vs=v::r/\Hv K H d v/\aB K H ds r
end
inductive GO where
 |lst (ds:List D)|nZ|gg
 |gen (R:η->ζ->Hp->Prop)
def GO.plain:GO->Prop
 |.gen _=>False
 |_=>True
abbrev Gp:=ζ->Option GO
def dM(G:Gp)(a:ζ)(o:GO):Gp:=fun b=>if b=a then some o else G b
theorem df{G:Gp}{a:ζ}{o:GO}:dM G a o a=some o:=by simp[dM]
theorem dJ{G:Gp}{a b:ζ}{o:GO}(h:b≠a):dM G a o b=G b:=by simp[dM,h]
theorem Ag{G:Gp}{a b:ζ}{o u:GO}(hn:G a=none)(h:G b=some u):dM G a o b=some u:=by
 rw[dJ]
 ·exact h
 ·intro e;rw[e,hn] at h;cases h
theorem yx{G:Gp}{a:ζ}{o u:GO}:dM (dM G a o) a u=dM G a u:=by
 funext b;unfold dM;by_cases h:b=a
 ·rw[if_pos h,if_pos h]
 ·rw[if_neg h,if_neg h,if_neg h]
def pC(a b c:Int):Prop:=0≤a/\0≤c/\c<2147483647
def sO(K:η)(H:Hp)(a:ζ):GO->Prop
 |.lst ds=>∃vs,H a=some (.lst vs)/\aB K H ds vs
 |.nZ=>∃i j k,H a=some (.lst [.int i,.int j,.int k])/\pC i j k
 |.gg=>H a=some (.ext fun h=>∃o,h.get? a=some o/\o.cls=.type "dict")
 |.gen R=>R K a H/\(∃o,H a=some o/\(∀xs,o≠.tup xs)/\∀ob u,o≠.fC ob u)/\∀H1 H2:Hp,(∀b xs,H1 b=some (.tup xs)->H2 b=some (.tup xs))->(∀b o u,H1 b=some (.fC o u)->H2 b=some (.fC o u))->H2 a=H1 a->R K a H1->R K a H2
def aW(K:η)(G:Gp)(H:Hp):Prop:=∀a o,G a=some o->sO K H a o
structure Ext(H H':Hp):Prop where
 tup:∀b xs,H b=some (.tup xs)->H' b=some (.tup xs)
 fC:∀b o u,H b=some (.fC o u)->H' b=some (.fC o u)
theorem Ext.refl(H:Hp):Ext H H:=⟨fun _ _ h=>h,fun _ _ _ h=>h⟩
theorem Ext.trans{H H1 H2:Hp}(a:Ext H H1)(b:Ext H1 H2):Ext H H2:=⟨fun c x h=>b.tup c x (a.tup c x h),fun c o u h=>b.fC c o u (a.fC c o u h)⟩
structure Step(H:Hp)(G:Gp)(H':Hp)(G':Gp):Prop where
 fr:∀a o,H a=some o->G a=none->H' a=some o
 kM:∀a,H a≠none->H' a≠none
 new:∀a,G a=none->G' a≠none->H a=none
theorem Step.refl(H:Hp)(G:Gp):Step H G H G:=⟨fun _ _ h _=>h,fun _ h=>h,fun _ h1 h2=>absurd h1 h2⟩
theorem Step.trans{H H1 H2:Hp}{G G1 G2:Gp}(a:Step H G H1 G1)(b:Step H1 G1 H2 G2):Step H G H2 G2 where
 fr:=fun c o h n=>b.fr c o (a.fr c o h n) (by
  refine dj fun q=>?_;rw[a.new c n q] at h;cases h)
 kM:=fun c h=>b.kM c (a.kM c h)
 new:=fun c n q=>by
  by_cases h1:G1 c=none
  ·have h2:=b.new c h1 q;refine dj fun z=>?_;exact a.kM c z h2
  ·exact a.new c n h1
def Sub(G' G:Gp):Prop:=∀a o,G' a=some o->G a=some o
theorem Sub.refl(G:Gp):Sub G G:=fun _ _ h=>h
theorem Sub.trans{A B C:Gp}(a:Sub A B)(b:Sub B C):Sub A C:=fun x o h=>b x o (a x o h)
theorem Sub.upd{G:Gp}{a:ζ}{o:GO}(h:G a=none):Sub G (dM G a o):=fun _ _ e=>Ag h e
theorem Sub.of_none{G' G:Gp}(s:Sub G' G){a:ζ}(h:G a=none):G' a=none:=by
 cases e:G' a with
 |none=>rfl
 |some o=>
  rw[s a o e] at h;cases h
structure eP(G:Gp)(p:ζ)(o:GO)(G':Gp):Prop where
 ak:G p=none
 sub:Sub G G'
 at_:G' p=some o
theorem eP.mk'{G:Gp}{p:ζ}{o:GO}(h:G p=none):eP G p o (dM G p o):=⟨h,Sub.upd h,df⟩
theorem Step.sub{H:Hp}{G G':Gp}(s:Sub G' G):Step H G H G':=⟨fun _ _ h _=>h,fun _ h=>h,fun a n q=>by
 exact absurd (s.of_none n) q⟩
section
variable {K:η} {H H':Hp} {G G':Gp}
theorem aW.sub(R:aW K G H)(s:Sub G' G):aW K G' H:=fun a o e=>R a o (s a o e)
theorem sO.mut{a:ζ}{o:GO}(h:sO K H a o):∃o,H a=some o/\(∀xs,o≠.tup xs)/\∀ob u,o≠.fC ob u:=by
 cases o with
 |lst ds=>obtain⟨vs,e,_⟩:=h;exact⟨_,e,fun _=>nofun,fun _ _=>nofun⟩
 |nZ=>obtain⟨i,j,k,e,_⟩:=h;exact⟨_,e,fun _=>nofun,fun _ _=>nofun⟩
 |gg=>exact⟨_,h,fun _=>nofun,fun _ _=>nofun⟩
 |gen R=>exact h.2.1
theorem aW.K0(R:aW K G H){a:ζ}{xs:List V}(e:H a=some (.tup xs)):G a=none:=by
 cases q:G a with
 |none=>rfl
 |some u=>
  obtain⟨o,z,h1,_⟩:=(R a u q).mut;rw[e] at z;exact absurd (aw z).symm (h1 xs)
theorem aW.outF(R:aW K G H){a:ζ}{ob:bp}{u:HO}(e:H a=some (.fC ob u)):G a=none:=by
 cases q:G a with
 |none=>rfl
 |some g=>
  obtain⟨o,z,_,h1⟩:=(R a g q).mut;rw[e] at z;exact absurd (aw z).symm (h1 ob u)
theorem aW.free(R:aW K G H){a:ζ}(e:H a=none):G a=none:=by
 cases q:G a with
 |none=>rfl
 |some u=>
  obtain⟨o,z,_⟩:=(R a u q).mut;rw[e] at z;cases z
theorem Step.ext(S:Step H G H' G')(R:aW K G H):Ext H H':=⟨fun b xs h=>S.fr b _ h (R.K0 h),fun b o u h=>S.fr b _ h (R.outF h)⟩
theorem dU.ext{a:ζ}{xs:List V}(E:Ext H H')(h:dU K H a xs):dU K H' a xs:=by
 rcases h with (h|⟨o,h⟩)|h
 ·exact .inl (.inl (E.tup _ _ h))
 ·exact .inl (.inr ⟨o,E.fC _ _ _ h⟩)
 ·exact .inr h
theorem oD.ext{a:ζ}{xs:List V}(E:Ext H H')(h:oD K H a xs):oD K H' a xs:=by
 rcases h with⟨o,h⟩|h
 ·exact .inl ⟨o,E.fC _ _ _ h⟩
 ·exact .inr h
mutual
theorem Hv.ext(E:Ext H H'):∀{d:D} {v:V},Hv K H d v->Hv K H' d v
 |.ak,_,h=>by simpa [Hv] using h
 |.bl _,_,h=>by simpa [Hv] using h
 |.int _,_,h=>by simpa [Hv] using h
 |.str _,_,h=>by simpa [Hv] using h
 |.obj _,_,h=>by simpa [Hv] using h
 |.dc a,v,h=>by
  unfold Hv at h ⊢;obtain⟨e,ob,φ,q,c⟩:=h;exact⟨e,ob,φ,E.fC _ _ _ q,c⟩
 |.tup ds,v,h=>by
  unfold Hv at h ⊢;obtain⟨a,vs,e,q,r⟩:=h;exact⟨a,vs,e,dU.ext E q,aB.ext E r⟩
 |.gf ds,v,h=>by
  unfold Hv at h ⊢;obtain⟨a,vs,e,q,r⟩:=h;exact⟨a,vs,e,oD.ext E q,aB.ext E r⟩
theorem aB.ext(E:Ext H H'):∀{ds:List D} {vs:List V},aB K H ds vs->aB K H' ds vs
 |[],_,h=>by simpa [aB] using h
 |d::ds,vs,h=>by
  unfold aB at h ⊢;obtain⟨v,r,e,q,z⟩:=h;exact⟨v,r,e,Hv.ext E q,aB.ext E z⟩
end
theorem aB.nil:aB K H [] []:=by simp[aB]
theorem aB.cons{d:D}{v:V}{ds:List D}{vs:List V}(h:Hv K H d v)(r:aB K H ds vs):aB K H (d::ds) (v::vs):=by
 unfold aB;exact⟨v,vs,rfl,h,r⟩
theorem aB.inv{d:D}{ds:List D}{vs:List V}(h:aB K H (d::ds) vs):∃v r,vs=v::r/\Hv K H d v/\aB K H ds r:=by
 unfold aB at h;exact h
theorem aB.iD{vs:List V}(h:aB K H [] vs):vs=[]:=by
 unfold aB at h;exact h
theorem aB.length:∀{ds:List D} {vs:List V},aB K H ds vs->ds.length=vs.length
 |[],_,h=>by rw[h.iD];rfl
 |d::ds,vs,h=>by
  obtain⟨v,r,rfl,_,q⟩:=h.inv;simp[q.length]
theorem aB.get:∀{ds:List D} {vs:List V} {i:Nat} {d:D},aB K H ds vs->ds[i]?=some d->∃v,vs[i]?=some v/\Hv K H d v
 |[],_,_,_,_,e=>by simp at e
 |x::ds,vs,0,d,h,e=>by
  obtain⟨v,r,rfl,q,_⟩:=h.inv;simp at e;subst e;exact⟨v,rfl,q⟩
 |x::ds,vs,i+1,d,h,e=>by
  obtain⟨v,r,rfl,_,q⟩:=h.inv;simp at e;obtain⟨u,e2,q2⟩:=q.get e;exact⟨u,by simpa using e2,q2⟩
theorem aB.append:∀{ds es:List D} {vs us:List V},aB K H ds vs->aB K H es us->aB K H (ds++es) (vs++us)
 |[],es,_,_,h,q=>by rw[h.iD];exact q
 |d::ds,es,vs,us,h,q=>by
  obtain⟨v,r,rfl,z,w⟩:=h.inv;exact .cons z (w.append q)
theorem aB.set:∀{ds:List D} {vs:List V} (i:Nat) {d:D} {v:V},aB K H ds vs->Hv K H d v->aB K H (ds.set i d) (vs.set i v)
 |[],_,i,d,v,h,_=>by rw[h.iD];exact .nil
 |x::ds,vs,0,d,v,h,q=>by
  obtain⟨u,r,rfl,_,z⟩:=h.inv;exact .cons q z
 |x::ds,vs,i+1,d,v,h,q=>by
  obtain⟨u,r,rfl,y,z⟩:=h.inv;exact .cons y (z.set i q)
theorem aB.rep{ds:List D}{vs:List V}(h:aB K H ds vs):∀k:Nat,aB K H (aX k ds).flatten (aX k vs).flatten
 |0=>.nil
 |k+1=>by
  simp only[dH,cR];exact h.append (h.rep k)
theorem aB.ints:∀(ns:List Int),aB K H (ns.map D.int) (ns.map V.int)
 |[]=>.nil
 |n::ns=>.cons (by simp[Hv]) (aB.ints ns)
theorem Ext.laid{p:ζ}{o:HO}(h:H p=none):Ext H (upd H p o):=⟨fun b xs e=>by rw[bD (cJ e h)];exact e,fun b x u e=>by rw[bD (cJ e h)];exact e⟩
theorem sO.ext{a:ζ}{o:GO}(h:sO K H a o)(E:Ext H H')(e:H' a=H a):sO K H' a o:=by
 cases o with
 |lst ds=>
  obtain⟨vs,z,q⟩:=h;exact⟨vs,e.trans z,q.ext E⟩
 |nZ=>
  obtain⟨i,j,k,z,q⟩:=h;exact⟨i,j,k,e.trans z,q⟩
 |gg=>exact e.trans h
 |gen R=>
  obtain⟨h1,h2,h3⟩:=h;exact⟨h3 H H' E.tup E.fC e h1,by rw[e];exact h2,h3⟩
theorem aW.laid{p:ζ}{o:HO}(R:aW K G H)(h:H p=none):aW K G (upd H p o):=fun a u e=>by
 have hne:a≠p:=fun z=>by
  rw[z,R.free h] at e;cases e
 exact (R a u e).ext (Ext.laid h) (bD hne)
theorem aW.jN{p:ζ}{o:HO}{g:GO}(R:aW K G H)(h:H p=none)(new:sO K (upd H p o) p g):aW K (dM G p g) (upd H p o):=fun a u e=>by
 by_cases z:a=p
 ·subst z;rw[df] at e;cases e;exact new
 ·rw[dJ z] at e;exact (R.laid h) a u e
theorem Step.laid{p:ζ}{o:HO}(h:H p=none):Step H G (upd H p o) G:=⟨fun a u e _=>by rw[bD (cJ e h)];exact e,fun a q=>by
 by_cases z:a=p
 ·rw[z,cw];simp
 ·rw[bD z];exact q,fun a n q=>absurd n q⟩
theorem Step.jN{p:ζ}{o:HO}{g:GO}(h:H p=none):Step H G (upd H p o) (dM G p g):=⟨(Step.laid (G:=G) h).fr,(Step.laid (G:=G) h).kM,fun a n q=>by
 by_cases z:a=p
 ·rw[z];exact h
 ·rw[dJ z] at q;exact absurd n q⟩
theorem xl{p b:ζ}{xs ys:List V}(h:H p=some (.lst xs))(e:H b=some (.tup ys)):b≠p:=fun z=>by
 rw[z,h] at e;cases e
theorem xm{p b:ζ}{xs:List V}{o:bp}{u:HO}(h:H p=some (.lst xs))(e:H b=some (.fC o u)):b≠p:=fun z=>by
 rw[z,h] at e;cases e
theorem Ext.wrote{p:ζ}{xs:List V}{o:HO}(h:H p=some (.lst xs)):Ext H (upd H p o):=
 ⟨fun b ys e=>by rw[bD (xl h e)];exact e,fun b x u e=>by rw[bD (xm h e)];exact e⟩
theorem aW.wrote{p:ζ}{xs:List V}{o:HO}{g:GO}(R:aW K G H)(h:H p=some (.lst xs))(new:sO K (upd H p o) p g):aW K (dM G p g) (upd H p o):=fun a u e=>by
 by_cases z:a=p
 ·subst z;rw[df] at e;cases e;exact new
 ·rw[dJ z] at e;exact (R a u e).ext (Ext.wrote h) (bD z)
theorem aW.uz{p:ζ}{xs:List V}{ds:List D}(R:aW K G H)(h:H p=none)(hv:aB K H ds xs):aW K (dM G p (.lst ds)) (upd H p (.lst xs)):=R.jN h ⟨xs,cw,hv.ext (.laid h)⟩
theorem aW.yw{p:ζ}{xs ys:List V}{ds:List D}(R:aW K G H)(e:H p=some (.lst xs))(hv:aB K H ds ys):aW K (dM G p (.lst ds)) (upd H p (.lst ys)):=R.wrote e ⟨ys,cw,hv.ext (.wrote e)⟩
theorem Step.wrote{p:ζ}{o:HO}{g u:GO}(h:G p=some u):Step H G (upd H p o) (dM G p g):=⟨fun a x e n=>by
 have hne:a≠p:=fun z=>by
  rw[z,h] at n;cases n
 rw[bD hne];exact e,fun a q=>by
 by_cases z:a=p
 ·rw[z,cw];simp
 ·rw[bD z];exact q,fun a n q=>by
 have hne:a≠p:=fun z=>by
  rw[z,h] at n;cases n
 rw[dJ hne] at q;exact absurd n q⟩
end
abbrev S3:=List (Option D)
def g5:S3->Nat->Option D
 |[],_=>none
 |x::_,0=>x
 |_::r,n+1=>g5 r n
def kc:S3->Nat->D->S3
 |[],_,_=>[]
 |_::r,0,d=>some d::r
 |x::r,n+1,d=>x::kc r n d
structure dF(K:η)(τ:S3)(σ:L2.St)(H:Hp):Prop where
 len:τ.length=σ.length
 at_:∀(i:Nat) d,g5 τ i=some d->∃v,σ[i]?=some (some v)/\Hv K H d v
theorem pH:∀(τ:S3) (i:Nat) (d:D),(kc τ i d).length=τ.length
 |[],_,_=>rfl
 |_::r,0,d=>rfl
 |x::r,n+1,d=>by simp[kc,pH r n d]
theorem uZ:∀(τ:S3) (i j:Nat) (d:D),g5 (kc τ i d) j=if j=i/\i<τ.length then some d else g5 τ j
 |[],i,j,d=>by simp[kc,g5]
 |x::r,0,0,d=>by simp[kc,g5]
 |x::r,0,j+1,d=>by simp[kc,g5]
 |x::r,i+1,0,d=>by simp[kc,g5]
 |x::r,i+1,j+1,d=>by
  simp only[kc,g5,uZ r i j d,aI];by_cases h:j=i/\i<r.length
  ·rw[if_pos h,if_pos (by lia)]
  ·rw[if_neg h,if_neg (by lia)]
section
variable {K:η} {τ:S3} {σ:L2.St} {H H':Hp}
theorem dF.ext(R:dF K τ σ H)(E:Ext H H'):dF K τ σ H':=⟨R.len,fun i d h=>by
 obtain⟨v,e,q⟩:=R.at_ i d h;exact⟨v,e,q.ext E⟩⟩
theorem dF.set(R:dF K τ σ H){i:Nat}{d:D}{v:V}(h:Hv K H d v):dF K (kc τ i d) (σ.set i (some v)) H:=⟨by rw[pH,List.length_set];exact R.len,fun j e q=>by
 rw[uZ] at q;by_cases c:j=i/\i<τ.length
 ·rw[if_pos c] at q;cases q;refine⟨v,?_,h⟩;rw[c.1,g9 (by rw[←R.len];exact c.2)]
 ·rw[if_neg c] at q;obtain⟨u,e1,e2⟩:=R.at_ j e q;refine⟨u,?_,e2⟩;by_cases hij:i=j
  ·subst hij;have:σ.length≤i:=by
    have:=R.len;have:¬i<τ.length:=fun z=>c ⟨rfl,z⟩;lia
   rw[di.mpr this] at e1;cases e1
  ·rw[iL hij];exact e1⟩
end
def bE:List χ->List D->S3
 |[],_=>[]
 |_::N,[]=>none::bE N []
 |_::N,d::ds=>some d::bE N ds
theorem mH:∀(N:List χ) (ds:List D),(bE N ds).length=N.length
 |[],_=>rfl
 |_::N,[]=>by simp[bE,mH N []]
 |_::N,d::ds=>by simp[bE,mH N ds]
theorem qj:∀(N:List χ) (i:Nat),g5 (bE N []) i=none
 |[],i=>rfl
 |_::N,0=>rfl
 |_::N,i+1=>qj N i
theorem sh:∀(N:List χ) (ds:List D) (i:Nat) (d:D),g5 (bE N ds) i=some d->ds[i]?=some d
 |[],_,_,_,h=>by cases h
 |_::N,[],i,d,h=>by
  rw[qj] at h;cases h
 |_::N,x::ds,0,d,h=>by
  simp only[bE,g5] at h;simpa using h
 |_::N,x::ds,i+1,d,h=>by
  simp only[bE,g5] at h;simpa using sh N ds i d h
theorem dF.start{K:η}{N:List χ}{ds:List D}{vs:List V}{H:Hp}(h:aB K H ds vs)(hl:vs.length≤N.length):dF K (bE N ds) (L2.start N vs) H:=⟨by
 rw[mH];simp[L2.start];lia,fun i d e=>by
 obtain⟨v,e1,q⟩:=h.get (sh N ds i d e);refine⟨v,?_,q⟩;unfold L2.start;have hi:i<vs.length:=(bz.mp e1).1;rw[b6 (by simpa using hi),bB,e1];rfl⟩
abbrev V3:=D->Gp->Prop
abbrev aL:=S3->Gp->V3->Prop
abbrev bV:=S3->Gp->(Bool->Gp->Prop)->Prop
abbrev cT:=S3->Gp->(List D->Gp->Prop)->Prop
structure jQ where
 nx:S3->Gp->Prop
 rt:V3
 bk:S3->Gp->Prop:=fun _ _=>False
 ct:S3->Gp->Prop:=fun _ _=>False
abbrev aP:=jQ->S3->Gp->Prop
def low(K:η)(t:aL):TE:=fun σ H Q=>∃τ G Q3,dF K τ σ H/\aW K G H/\t τ G Q3/\∀v H' d G',Hv K H' d v->Step H G H' G'->aW K G' H'->Q3 d G'->Q v H'
def mO(K:η)(t:bV):TT:=fun σ H Q=>∃τ G Q3,dF K τ σ H/\aW K G H/\t τ G Q3/\∀b H' G',Step H G H' G'->aW K G' H'->Q3 b G'->Q b H'
def rM(K:η)(t:cT):TA:=fun σ H Q=>∃τ G Q3,dF K τ σ H/\aW K G H/\t τ G Q3/\∀vs H' ds G',aB K H' ds vs->Step H G H' G'->aW K G' H'->Q3 ds G'->Q vs H'
structure pD(K:η)(H:Hp)(G:Gp)(D3:jQ)(D2:Ends):Prop where
 nx:∀τ σ G' H',dF K τ σ H'->Step H G H' G'->aW K G' H'->D3.nx τ G'->D2.nx σ H'
 bk:∀τ σ G' H',dF K τ σ H'->Step H G H' G'->aW K G' H'->D3.bk τ G'->D2.bk σ H'
 ct:∀τ σ G' H',dF K τ σ H'->Step H G H' G'->aW K G' H'->D3.ct τ G'->D2.ct σ H'
 rt:∀d v G' H',Hv K H' d v->Step H G H' G'->aW K G' H'->D3.rt d G'->D2.rt v H'
theorem pD.step{K:η}{H H1:Hp}{G G1:Gp}{D3:jQ}{D2:Ends}(E:pD K H G D3 D2)(S:Step H G H1 G1):pD K H1 G1 D3 D2:=
 ⟨fun τ σ G' H' a b c q=>E.nx τ σ G' H' a (S.trans b) c q,fun τ σ G' H' a b c q=>E.bk τ σ G' H' a (S.trans b) c q,fun τ σ G' H' a b c q=>E.ct τ σ G' H' a (S.trans b) c q,fun d v G' H' a b c q=>E.rt d v G' H' a (S.trans b) c q⟩
def GJ(K:η)(t:aP):TS:=fun D2 σ H=>∃τ G D3,dF K τ σ H/\aW K G H/\t D3 τ G/\pD K H G D3 D2
abbrev b0(X:Cx)(e:μ)(t:aL):Prop:=PE X e (low X.K t)
abbrev mi(X:Cx)(e:μ)(t:bV):Prop:=PT X e (mO X.K t)
abbrev sL(X:Cx)(e:μ)(t:bV):Prop:=PW X e (mO X.K t)
abbrev jn(X:Cx)(es:List μ)(t:cT):Prop:=PA X es (rM X.K t)
abbrev mj(X:Cx)(st:aT)(t:aP):Prop:=PS X st (GJ X.K t)
abbrev lA(X:Cx)(st:List aT)(t:aP):Prop:=jH X st (GJ X.K t)
section
variable {X:Cx} {e:μ}
theorem fb{t t':TE}(h:PE X e t)(f:∀σ H Q,t' σ H Q->t σ H Q):PE X e t':=fun pins s σ H Q I q=>h pins s σ H Q I (f σ H Q q)
theorem w6{t t':TT}(h:PT X e t)(f:∀σ H Q,t' σ H Q->t σ H Q):PT X e t':=fun pins s σ H Q I q=>h pins s σ H Q I (f σ H Q q)
theorem pw_of{t t':TT}(h:PW X e t)(f:∀σ H Q,t' σ H Q->t σ H Q):PW X e t':=fun w pins s σ H Q I q=>h w pins s σ H Q I (f σ H Q q)
theorem Ct{es:List μ}{t t':TA}(h:PA X es t)(f:∀σ H Q,t' σ H Q->t σ H Q):PA X es t':=fun p pins s σ H Q I q=>h p pins s σ H Q I (f σ H Q q)
theorem jb{st:aT}{t t':TS}(h:PS X st t)(f:∀D σ H,t' D σ H->t D σ H):PS X st t':=fun pins s σ H Q I q=>h pins s σ H Q I (f Q σ H q)
theorem zj{st:List aT}{t t':TS}(h:jH X st t)(f:∀D σ H,t' D σ H->t D σ H):jH X st t':=fun pins s σ H Q I q=>h pins s σ H Q I (f Q σ H q)
end
def Br(b:Bool)(A B:Prop):Prop:=(b=true->A)/\(b=false->B)
theorem Br.ite{b:Bool}{A B A' B':Prop}(h:Br b A B)(f:A->A')(g:B->B'):if b=true then A' else B':=by
 cases b with
 |true=>rw[if_pos rfl];exact f (h.1 rfl)
 |false=>rw[if_neg ai];exact g (h.2 rfl)
section
variable {X:Cx} {a b e c:μ} {ta tb te:aL} {tA tB:bV} {pos:aG} {es rest:List μ}
def eC(d:D):aL:=fun _ G Q=>Q d G
def Γ(i:Nat):aL:=fun τ G Q=>match g5 τ i with
 |some d=>Q d G
 |none=>False
theorem Kb{i:Nat}{x:χ}(h:PE X (.Name x pos) (wA i)):b0 X (.Name x pos) (Γ i):=fb h fun σ H Q ⟨τ,G,Q3,RS,RG,h,k⟩=>by
 unfold Γ at h;cases hd:g5 τ i with
 |none=>rw[hd] at h;exact h.elim
 |some d=>
  rw[hd] at h;obtain⟨v,e1,e2⟩:=RS.at_ i d hd;exact⟨v,e1,k v H d G e2 (.refl H G) RG h⟩
theorem pk{v:V}{d:D}(h:PE X e (tC v))(r:∀H,Hv X.K H d v):b0 X e (eC d):=fb h fun σ H Q ⟨τ,G,Q3,RS,RG,h,k⟩=>k v H d G (r H) (.refl H G) RG h
theorem Kj{i:Int}{j}:b0 X (.Constant (.int i) j pos) (eC (.int i)):=pk FQ fun H=>by simp[Hv]
theorem Lv{i:Bool}{j}:b0 X (.Constant (.bool i) j pos) (eC (.bl i)):=pk Jk fun H=>by simp[Hv]
theorem Kf{j}:b0 X (.Constant .none j pos) (eC .ak):=pk FP fun H=>by simp[Hv]
theorem HU{x:χ}{i:Int}{u:Tok}(hm:X.mg x=some (.int i u))(hg:Gl X x:=by rfl)(hd:(x==("__debug__":χ))=false:=by decide):b0 X (.Name x pos) (eC (.int i)):=pk (v:=.int i) (DQ hg hm ⟨u,rfl⟩ hd) fun H=>by simp[Hv]
abbrev R3:=D->D->Gp->V3->Prop
def br(r:R3)(ta tb:aL):aL:=fun τ G Q=>ta τ G fun x G1=>tb τ G1 fun y G2=>r x y G2 Q
def eL(K:η)(r:R3)(r2:R2):Prop:=∀x y vx vy G H Q3 Q,Hv K H x vx->Hv K H y vy->aW K G H->r x y G Q3->(∀v H' d G',Hv K H' d v->Step H G H' G'->aW K G' H'->Q3 d G'->Q v H')->r2 vx vy H Q
theorem o8{K:η}{r:R3}{r2:R2}(L:eL K r r2){σ:L2.St}{H:Hp}{Q:VK}(h:low K (br r ta tb) σ H Q):yP r2 (low K ta) (low K tb) σ H Q:=by
 obtain⟨τ,G,Q3,RS,RG,h,k⟩:=h;refine⟨τ,G,_,RS,RG,h,fun v1 H1 d1 G1 h1 S1 R1 q1=>?_⟩;refine⟨τ,G1,_,RS.ext (S1.ext RG),R1,q1,fun v2 H2 d2 G2 h2 S2 R2 q2=>?_⟩;exact L _ _ _ _ _ _ _ _ (h1.ext (S2.ext R1)) h2 R2 q2 fun v H' d G' z1 z2 z3 z4=>k v H' d G' z1 ((S1.trans S2).trans z2) z3 z4
theorem Ls{op:m9}{r:R3}{r2:R2}(L:eL X.K r r2)(ho:dB X (binaryOp op) r2)(ha:b0 X a ta)(hb:b0 X b tb):b0 X (.BinOp a op b pos) (br r ta tb):=
 fb (Ji ho ha hb) fun _ _ _ h=>o8 L h
theorem Kk{op:CmpOp}{r:R3}{r2:R2}(L:eL X.K r r2)(ho:dB X (compareOp op) r2)(ha:b0 X a ta)(hb:b0 X b tb)(hm:behindInMarks op b=false):b0 X (.Compare a [op] [b] pos) (br r ta tb):=
 fb (DT ho ha hb hm) fun _ _ _ h=>o8 L h
def cK(t:aL):bV:=fun τ G Q=>t τ G fun x G1=>match x with
 |.bl k=>Q k G1
 |_=>False
theorem uE{K:η}{t:aL}{σ:L2.St}{H:Hp}{Q:Bool->Hp->Prop}(h:mO K (cK t) σ H Q):B8 (low K t) σ H Q:=by
 obtain⟨τ,G,Q3,RS,RG,h,k⟩:=h;refine⟨τ,G,_,RS,RG,h,fun v H' d G' h1 h2 h3 h4=>?_⟩;cases d with
 |bl c=>
  unfold Hv at h1;exact⟨c,h1,k c H' G' h2 h3 h4⟩
 |_=>exact h4.elim
theorem EN{op:CmpOp}{r:R3}{r2:R2}(L:eL X.K r r2)(ho:dB X (compareOp op) r2)(ha:b0 X a ta)(hb:b0 X b tb)(hm:behindInMarks op b=false):mi X (.Compare a [op] [b] pos) (cK (br r ta tb)):=
 w6 (DH ho ha hb hm) fun σ H Q h=>by
  obtain⟨τ,G,Q3,RS,RG,h,k⟩:=uE h;exact o8 L ⟨τ,G,Q3,RS,RG,h,k⟩
theorem EL(h:b0 X a ta)(he:∀whole,isTrue a X.env whole=(do let v ←whole;standAt a.pos;holding [v] (truthy v)):=by intro _;rfl):mi X a (cK ta):=
 w6 (AW h he) fun σ H Q h=>by
  obtain⟨τ,G,Q3,RS,RG,h,k⟩:=uE h;refine⟨τ,G,Q3,RS,RG,h,fun v H' d G' h1 h2 h3 h4=>?_⟩;obtain⟨c,rfl,q⟩:=k v H' d G' h1 h2 h3 h4;exact⟨c,rfl,q⟩
def CU(r:D->Gp->V3->Prop)(ta:aL):aL:=fun τ G Q=>ta τ G fun x G1=>r x G1 Q
def tq:D->Gp->V3->Prop:=fun x G Q=>match x with
 |.int i=>Q (.int (-i)) G
 |_=>False
theorem Kg(ha:b0 X a ta):b0 X (.UnaryOp .USub a pos) (CU tq ta):=fb (Jh EJ ha) fun σ H Q h=>by
 obtain⟨τ,G,Q3,RS,RG,h,k⟩:=h;refine⟨τ,G,_,RS,RG,h,fun v H' d G' h1 h2 h3 h4=>?_⟩;cases d with
 |int i=>
  unfold Hv at h1;exact⟨i,h1,k _ H' (.int (-i)) G' (by simp[Hv]) h2 h3 h4⟩
 |_=>exact h4.elim
def BC(t u:bV):bV:=fun τ G Q=>t τ G fun c G1=>Br c (u τ G1 Q) (Q false G1)
def CV(t u:bV):bV:=fun τ G Q=>t τ G fun c G1=>Br c (Q true G1) (u τ G1 Q)
def qe(t:bV):bV:=fun τ G Q=>t τ G fun c G1=>Q (!c) G1
theorem tw_and1(ha:mi X a tA):sL X (.BoolOp .And [a] pos) tA:=pw_and1 ha
theorem tw_or1(ha:mi X a tA):sL X (.BoolOp .Or [a] pos) tA:=pw_or1 ha
theorem tw_and(ha:mi X a tA)(hb:sL X (.BoolOp .And (b::rest) pos) tB):sL X (.BoolOp .And (a::b::rest) pos) (BC tA tB):=pw_of (pw_and ha hb) fun σ H Q h=>by
 obtain⟨τ,G,Q3,RS,RG,h,k⟩:=h;refine⟨τ,G,_,RS,RG,h,fun c H1 G1 S1 R1 q1=>?_⟩;exact Br.ite q1 (fun q=>⟨τ,G1,Q3,RS.ext (S1.ext RG),R1,q,fun b' H' G' y1 y2 y3=>k b' H' G' (S1.trans y1) y2 y3⟩) fun q=>k false H1 G1 S1 R1 q
theorem tw_or(ha:mi X a tA)(hb:sL X (.BoolOp .Or (b::rest) pos) tB):sL X (.BoolOp .Or (a::b::rest) pos) (CV tA tB):=pw_of (pw_or ha hb) fun σ H Q h=>by
 obtain⟨τ,G,Q3,RS,RG,h,k⟩:=h;refine⟨τ,G,_,RS,RG,h,fun c H1 G1 S1 R1 q1=>?_⟩;exact Br.ite q1 (fun q=>k true H1 G1 S1 R1 q) fun q=>⟨τ,G1,Q3,RS.ext (S1.ext RG),R1,q,fun b' H' G' y1 y2 y3=>k b' H' G' (S1.trans y1) y2 y3⟩
theorem KD(h:sL X a tA):mi X a tA:=h.pt
theorem EM(ha:mi X a tA):mi X (.UnaryOp .Not a pos) (qe tA):=w6 (FD ha) fun σ H Q h=>by
 obtain⟨τ,G,Q3,RS,RG,h,k⟩:=h;exact⟨τ,G,_,RS,RG,h,fun c H1 G1 S1 R1 q1=>k _ H1 G1 S1 R1 q1⟩
def mW(ta tb:aL):aL:=fun τ G Q=>ta τ G fun x G1=>match x with
 |.bl c=>Br c (tb τ G1 Q) (Q (.bl false) G1)
 |_=>False
def xY(ta:aL):aL:=fun τ G Q=>ta τ G fun x G1=>match x with
 |.bl c=>Q (.bl (!c)) G1
 |_=>False
theorem Kd{op}(h:b0 X a ta):b0 X (.BoolOp op [a] pos) ta:=FN h
theorem Kl(ha:b0 X a ta)(hb:b0 X (.BoolOp .And (b::rest) pos) tb):b0 X (.BoolOp .And (a::b::rest) pos) (mW ta tb):=fb (FR ha hb) fun σ H Q h=>by
 obtain⟨τ,G,Q3,RS,RG,h,k⟩:=h;refine⟨τ,G,_,RS,RG,h,fun v H1 d G1 h1 S1 R1 q1=>?_⟩;cases d with
 |bl c=>
  unfold Hv at h1;exact⟨c,h1,Br.ite q1 (fun q=>⟨τ,G1,Q3,RS.ext (S1.ext RG),R1,q,fun b' H' d' G' y0 y1 y2 y3=>k b' H' d' G' y0 (S1.trans y1) y2 y3⟩) fun q=>k _ H1 (.bl false) G1 (by simp[Hv]) S1 R1 q⟩
 |_=>exact q1.elim
theorem Ke(ha:b0 X a ta):b0 X (.UnaryOp .Not a pos) (xY ta):=fb (FO ha) fun σ H Q h=>by
 obtain⟨τ,G,Q3,RS,RG,h,k⟩:=h;refine⟨τ,G,_,RS,RG,h,fun v H1 d G1 h1 S1 R1 q1=>?_⟩;cases d with
 |bl c=>
  unfold Hv at h1;exact⟨c,h1,k _ H1 (.bl (!c)) G1 (by simp[Hv]) S1 R1 q1⟩
 |_=>exact q1.elim
def notStar:μ->Bool
 |.Starred ..=>false
 |_=>true
theorem bW{e:μ}{es:List μ}{env:fX}(h:notStar e=true):bw (e::es) env=(false,eval e env)::bw es env:=by
 cases e<;>first|rfl|(simp[notStar] at h)
theorem fv{pos:aG}{env:fX}:∀{es:List μ},es.all notStar=true->(backTo pos (bw es env)).any (·.1)=false
 |[],_=>rfl
 |e::es,h=>by
  rw[List.all_cons,cG] at h;rw[bW h.1];show (false||(backTo pos (bw es env)).any (·.1))=false;rw[fv h.2];rfl
def aH:cT:=fun _ G Q=>Q [] G
def Φ(ta:aL)(tr:cT):cT:=fun τ G Q=>ta τ G fun x G1=>tr τ G1 fun xs G2=>Q (x::xs) G2
theorem Ks:jn X [] aH:=Ct qB fun σ H Q ⟨τ,G,Q3,RS,RG,h,k⟩=>k [] H [] G .nil (.refl H G) RG h
theorem Ig{tr:cT}(ha:b0 X a ta)(hr:jn X es tr)(hs:notStar a=true:=by rfl):jn X (a::es) (Φ ta tr):=Ct (lS ha hr (bW hs)) fun σ H Q h=>by
 obtain⟨τ,G,Q3,RS,RG,h,k⟩:=h;refine⟨τ,G,_,RS,RG,h,fun v1 H1 d1 G1 h1 S1 R1 q1=>?_⟩;refine⟨τ,G1,_,RS.ext (S1.ext RG),R1,q1,fun vs H2 ds G2 h2 S2 R2 q2=>?_⟩;exact k _ H2 _ G2 (.cons (h1.ext (S2.ext R1)) h2) (S1.trans S2) R2 q2
def nQ{α:Type}(P:Prop):List α->Nat->Prop
 |[],_=>P
 |_::_,0=>False
 |_::xs,n+1=>nQ P xs n
theorem kN{α:Type}{P:Prop}:∀{xs:List α} {n:Nat},nQ P xs n->xs.length≤n/\P
 |[],n,h=>⟨aK _,h⟩
 |_::_,0,h=>h.elim
 |_::xs,n+1,h=>by
  obtain⟨h1,h2⟩:=kN (xs:=xs) (n:=n) h;exact⟨Nat.succ_le_succ h1,h2⟩
theorem uH{n:Nat}(h:n≤64):n≤aj:=aD h (by decide)
def kq(t:cT):aL:=fun τ G Q=>t τ G fun ds G1=>nQ (Q (.tup ds) G1) ds 64
def lu(t:cT):aL:=fun τ G Q=>t τ G fun ds G1=>nQ (∀p G2,eP G1 p (.lst ds) G2->Q (.obj p) G2) ds 64
theorem Kc{t:cT}{x1}(h:jn X es t):b0 X (.Tuple es x1 pos) (kq t):=fb (FL h) fun σ H Q h=>by
 obtain⟨τ,G,Q3,RS,RG,h,k⟩:=h;refine⟨τ,G,_,RS,RG,h,fun vs H1 ds G1 h1 S1 R1 q1=>?_⟩;obtain⟨z,q1⟩:=kN q1;refine⟨by rw[←h1.length];exact uH z,fun p hp=>?_⟩;refine k _ _ (.tup ds) G1 ?_ (S1.trans (.laid hp)) (R1.laid hp) q1;unfold Hv;exact⟨p,vs,rfl,.of cw,h1.ext (.laid hp)⟩
theorem Ki{t:cT}(h:jn X es t):b0 X (.List es pos) (lu t):=fb (zq h) fun σ H Q h=>by
 obtain⟨τ,G,Q3,RS,RG,h,k⟩:=h;refine⟨τ,G,_,RS,RG,h,fun vs H1 ds G1 h1 S1 R1 q1=>?_⟩;obtain⟨z,q1⟩:=kN q1;refine⟨by rw[←h1.length];exact uH z,fun p hp=>?_⟩;exact k _ _ (.obj p) (dM G1 p (.lst ds)) (by simp[Hv]) (S1.trans (.jN hp)) (R1.jN hp ⟨vs,cw,h1.ext (.laid hp)⟩) (q1 p _ (.mk' (R1.free hp)))
end
end L3
namespace L2
open PySem PySem.Spec PyProof.Rows
def i4(env:fX):List (χ×dN)->List (χ×ζ)->List (χ×ζ)
 |[],acc=>acc
 | (n,k)::r,acc=>i4 env r (if k=.free then (n,(env.cells.lookup n).getD 0)::acc else acc)
theorem kW{scope:fq}{env:fX}(h:∀y∈scope.names,y.2=.free->∃c,env.cells.lookup y.1=some c):closureFor scope env=pure (i4 env scope.names []):=by
 have key:∀(l:List (χ×dN)) (acc:List (χ×ζ)),(∀y∈l,y.2=.free->∃c,env.cells.lookup y.1=some c) ->
   (forIn l acc fun (x:χ×dN) (r:List (χ×ζ))=>(do
    if (x.2==bX)=true then do
     let a ←cellOf env x.1
     pure (eD ((x.1,a)::r))
    else pure (eD r):Sem (ForInStep (List (χ×ζ)))))=pure (i4 env l acc):=by
  intro l
  induction l with
  |nil=>intro acc _;rfl
  |cons y r ih=>
   intro acc hy;obtain⟨n,k⟩:=y;rw[List.forIn_cons];by_cases hk:k=.free
   ·obtain⟨c,hc⟩:=hy (n,k) Ω hk;have e1:cellOf env n=pure c:=by unfold cellOf;rw[show env.cells.lookup n=some c from hc]
    subst hk;simp only[beq_self_eq_true,if_true,e1,pure_bind];rw[ih _ fun y hy'=>hy y (ab _ hy')];show _=pure (i4 env r (if bX=bX then (n,(env.cells.lookup n).getD 0)::acc else acc));rw[if_pos rfl,show env.cells.lookup n=some c from hc];rfl
   ·have hb:(k==bX)=false:=by simpa using hk
    simp only[hb,gK,if_false,pure_bind];rw[ih _ fun y hy'=>hy y (ab _ hy')];show _=pure (i4 env r (if k=bX then (n,(env.cells.lookup n).getD 0)::acc else acc));rw[if_neg hk]
 have:=key scope.names [] h;unfold closureFor
 first
  |exact (by simpa using this)
  | (simp only[bind_pure];exact this)
theorem pN{env:fX}{x:χ}{c:ζ}:∀(l:List (χ×dN)) (acc:List (χ×ζ)),(i4 env l acc).lookup x=some c ->
  acc.lookup x=some c∨((x,bX)∈l/\c=(env.cells.lookup x).getD 0)
 |[],_,h=>.inl h
 | (n,k)::r,acc,h=>by
  rcases pN r _ h with q|⟨q1,q2⟩
  ·by_cases hk:k=.free
   ·rw[if_pos hk,eY] at q;by_cases hx:(x==n)=true
    ·rw[hx] at q;have hx':x=n:=by simpa using hx
     subst hx' hk;exact .inr ⟨Ω,(aw q).symm⟩
    ·have hx2:(x==n)=false:=by simpa using hx
     rw[hx2] at q;exact .inl q
   ·rw[if_neg hk] at q;exact .inl q
  ·exact .inr ⟨ab _ q1,q2⟩
theorem sE{env:fX}{x:χ}:∀(l:List (χ×dN)) (acc:List (χ×ζ)),acc.lookup x=some ((env.cells.lookup x).getD 0)->(i4 env l acc).lookup x=some ((env.cells.lookup x).getD 0)
 |[],_,h=>h
 | (n,k)::r,acc,h=>by
  refine sE r _ ?_;by_cases hk:k=.free
  ·rw[if_pos hk,eY];by_cases hx:(x==n)=true
   ·rw[hx];have hx':x=n:=by simpa using hx
    rw[hx']
   ·have hx2:(x==n)=false:=by simpa using hx
    rw[hx2];exact h
  ·rw[if_neg hk];exact h
theorem uU{env:fX}{x:χ}:∀(l:List (χ×dN)) (acc:List (χ×ζ)),(x,bX)∈l->(i4 env l acc).lookup x=some ((env.cells.lookup x).getD 0)
 |[],_,h=>by cases h
 | (n,k)::r,acc,h=>by
  rcases bf.mp h with e|e
  ·cases e;refine sE r _ ?_;rw[if_pos rfl,eY,beq_self_eq_true]
  ·exact uU r _ e
structure cN(N:List χ)(sc scope:fq)(own:List χ)(js:List Nat):Prop where
 kind:scope.kind=.function
 zy:∀y∈scope.names,y.2≠.cell
 names:∀y∈scope.names,y.2=.local->scope.names.lookup y.1=some .local
 free:∀y∈scope.names,y.2=.free->sc.names.lookup y.1=some .cell/\own.contains y.1=false
 only:∀y∈scope.names,y.2=.free->scope.names.lookup y.1=some .free
 js:∀j∈js,j<N.length/\(N.getD j fW,bX)∈scope.names
def Lx(N own:List χ)(js:List Nat):List χ:=own++js.map fun j=>N.getD j fW
def pz(own:List χ)(js:List Nat)(σ:St):St:=aX own.length none++js.map fun j=>(σ[j]?).getD none
def Cx.cmp(X:Cx)(scope:fq)(own:List χ)(js:List Nat)(s:ε)(H:Hp)(fp:List ζ):Cx:=
 { X with N:=Lx X.N own js,s₀:=s,H₀:=H,env:=compEnvC scope (i4 X.env scope.names []) s.heap.objs.size X.env,outer:=X.stack,ex:=fp,fn:=fun x=>own.contains x,pn:=[],xe:=fun _ _=>False }
theorem gP{sc:fq}{env:fX}{x:χ}{k:dN}:∀(names:List (χ×dN)),
  (names.map fun (n,k)=>if (k==bX&&env.scope.kind==.function&&env.kindOf n==some .cell) then (n,nA) else (n,k)).lookup x=some k ->
  (names.lookup x=some k/\(k≠.free∨k=.free))∨(k=.cell/\names.lookup x=some .free)
 |[],h=>by simp at h
 | (n,k')::r,h=>by
  have ih:=@gP sc env x k r;have h':List.lookup x ((if (k'==bX&&env.scope.kind==.function&&env.kindOf n==some .cell)=true then (n,nA) else (n,k'))::_)=some k:=h;rw[eY];by_cases hc:(k'==bX&&env.scope.kind==.function&&env.kindOf n==some .cell)=true
  ·rw[if_pos hc,eY] at h';cases hx:x==n with
   |true=>
    rw[hx] at h';have e:nA=k:=aw h';have hk':k'=.free:=by
     rw[cG,cG] at hc;simpa using hc.1.1
    exact .inr ⟨e.symm,by rw[hk']⟩
   |false=>
    rw[hx] at h';exact ih h'
  ·rw[if_neg hc,eY] at h';cases hx:x==n with
   |true=>
    rw[hx] at h';have e:k'=k:=aw h';subst e;exact .inl ⟨rfl,by by_cases z:k'=.free;exact .inr z;exact .inl z⟩
   |false=>
    rw[hx] at h';exact ih h'
theorem lr{x:χ}{k:dN}{l:List (χ×dN)}(h:l.lookup x=some k):(x,k)∈l:=dG h
section
variable {X:Cx} {pins:List (ζ×bp)} {σ:St} {H:Hp} {s:ε} {scope:fq} {own:List χ} {js:List Nat} {fp:List ζ}
theorem cN.cells(C:cN X.N X.env.scope scope own js)(ok:X.Ok):∀y∈scope.names,y.2=.free->∃c,X.env.cells.lookup y.1=some c:=fun y hy e=>
 ok.has y.1 (.inl (C.free y hy e).1)
theorem cN.pA(C:cN X.N X.env.scope scope own js)(ok:X.Ok){x:χ}{c:ζ}(h:(i4 X.env scope.names []).lookup x=some c):(x,bX)∈scope.names/\X.env.cells.lookup x=some c:=by
 rcases pN scope.names [] h with q|⟨q1,q2⟩
 ·cases q
 ·obtain⟨c',e⟩:=C.cells ok _ q1 rfl;refine⟨q1,?_⟩;rw[q2,show X.env.cells.lookup x=some c' from e];rfl
theorem cN.zW(C:cN X.N X.env.scope scope own js)(ok:X.Ok){x:χ}(h:(x,bX)∈scope.names):∃c,(i4 X.env scope.names []).lookup x=some c/\X.env.cells.lookup x=some c:=by
 obtain⟨c,e⟩:=C.cells ok _ h rfl;refine⟨c,?_,e⟩;rw[uU scope.names [] h,show X.env.cells.lookup x=some c from e];rfl
theorem Inv.Km(I:Inv X pins σ H s)(C:cN X.N X.env.scope scope own js)(hf:∀b∈fp,jB X pins H b/\b<s.heap.objs.size):(X.cmp scope own js s H fp).Ok where
 mod:=I.ok.mod
 kind:=C.kind
 glob:=I.ok.glob
 blt:=I.ok.blt
 above:=ω _
 inj:=fun x y c h1 h2=>I.ok.inj x y c (C.pA I.ok h1).2 (C.pA I.ok h2).2
 has:=fun x h=>by
  have hfree:(x,bX)∈scope.names:=by
   rcases h with h|h
   ·rcases gP (sc:=scope) (env:=X.env) scope.names h with⟨q,_⟩|⟨_,q⟩
    ·exact absurd rfl (C.zy _ (lr q))
    ·exact lr q
   ·rcases gP (sc:=scope) (env:=X.env) scope.names h with⟨q,_⟩|⟨q,_⟩
    ·exact lr q
    ·cases q
  obtain⟨c,e,_⟩:=C.zW I.ok hfree;exact⟨c,e⟩
 wk:=fun x c h1 h2=>by
  have q:=(C.free _ (C.pA I.ok h2).1 rfl).2;have h1':own.contains x=true:=h1;rw[q] at h1';cases h1'
 hd:=I.ok.hd
 frames:=I.ok.frames
 yQ:=.inl rfl
 zP:=fun b hb=>⟨bK (hf b hb).2,fun x c e=>(hf b hb).1.2.2.2.2.1 x c (C.pA I.ok e).2⟩
 bs:=I.bs
 qT:=aD I.ok.qT I.sz
 rD:=fun b o e hb=>by
  rcases (hf b hb).1.2.2.2.1 with z|z
  ·exact I.ok.rD b o e z
  ·exact absurd (ba (aa e) (aD I.ok.qT z)) (dC _)
 rT:=fun b hb z=>by
  rcases bf.mp (I.tV b z) with e|e
  ·exact (hf b hb).1.2.1 e
  ·exact (hf b hb).1.2.2.1 e
 jy:=I.stack
 uL:=I.vz
theorem uK{N:List χ}{js:List Nat}{i:Nat}{x:χ}(h:(js.map fun j=>N.getD j fW)[i]?=some x):∃j,js[i]?=some j/\x=N.getD j fW:=by
 rw[bB] at h;cases e:js[i]? with
 |none=>rw[e] at h;cases h
 |some j=>rw[e] at h;exact⟨j,rfl,(aw h).symm⟩
theorem Inv.cmp(I:Inv X pins σ H s)(C:cN X.N X.env.scope scope own js)(hf:∀b∈fp,jB X pins H b/\b<s.heap.objs.size){h':az}{tk:Nat}(hn:h'.Ns s.heap.objs.size fun _=>none)
  (kept:∀b o,s.heap.get? b=some o->h'.get? b=some o):Inv (X.cmp scope own js s H fp) [] (pz own js σ) H { s with heap:=h',toks:=tk }:=by
 have ok:=I.Km C hf;refine⟨ok,rfl,I.bare,Un.kept kept,⟨_,hn,fun i x v h1 h2 h3=>?_⟩,fun x c e=>?_,I.bT.fresh (ω _),fun x c e=>I.jc x c (C.pA I.ok e).2,fun p hp=>?_,I.bT.kept kept,?_⟩
 ·have h1':(own++js.map fun j=>X.N.getD j fW)[i]?=some x:=h1;have h2':(aX own.length none++js.map fun j=>(σ[j]?).getD none)[i]?=some (some v):=h2;by_cases hi:i<own.length
  ·rw[b6 (by simpa using hi),kL,if_pos hi] at h2';cases h2'
  ·rw[aN (by lia)] at h1';rw[aN (by simp;lia),iq] at h2';obtain⟨j,hj,rfl⟩:=uK h1';rw[bB,hj] at h2';have h2'':(σ[j]?).getD none=some v:=aw h2';have hσ:σ[j]?=some (some v):=by
    cases e:σ[j]? with
    |none=>rw[e] at h2'';cases h2''
    |some o=>
     rw[e] at h2'';have:o=some v:=h2'';rw[this]
   obtain⟨jl,jf⟩:=C.js j (gd hj);have hN:X.N[j]?=some (X.N.getD j fW):=by
    rw[List.getD_eq_getElem?_getD,aU jl];rfl
   have hcell:=(C.free _ jf rfl).1;obtain⟨m,hm,hl⟩:=I.loc;obtain⟨u,ru,lk⟩:=hl j _ v hN hσ (.inr (.inl hcell));refine⟨u,ru,?_⟩;obtain⟨c,e1,e2⟩:=C.zW I.ok jf;rcases lk with⟨z,_⟩|⟨_,c',z1,z2⟩
   ·have z':X.env.scope.names.lookup (X.N.getD j fW)=some .local:=z;rw[show X.env.scope.names.lookup (X.N.getD j fW)=some .cell from hcell] at z';cases z'
   ·rw[e2] at z1;cases z1;have ic:h'.IsCell c (some u):=by
     obtain⟨o,q1,q2⟩:=z2;exact⟨o,kept _ _ q1,q2⟩
    rcases h3 with h3|h3|h3
    ·exfalso;rcases gP (sc:=scope) (env:=X.env) scope.names h3 with⟨q,_⟩|⟨q,_⟩
     ·have z:=C.only _ jf rfl;rw[q] at z;cases z
     ·cases q
    ·exact .inr ⟨.inl h3,c,e1,ic⟩
    ·exact .inr ⟨.inr h3,c,e1,ic⟩
 ·obtain⟨v,o,q1,q2⟩:=I.cell x c (C.pA I.ok e).2;exact⟨v,o,kept _ _ q1,q2⟩
 ·exact absurd (show p∈([]:List (ζ×bp)) from hp) (by simp)
 ·show (aX own.length none++js.map fun j=>(σ[j]?).getD none).length=(own++js.map fun j=>X.N.getD j fW).length;simp
theorem Inv.IB{σ':St}{H':Hp}{s':ε}{pl:List (ζ×bp)}(I:Inv X pins σ H s)(hf:∀b∈fp,jB X pins H b/\b<s.heap.objs.size)(J:Inv (X.cmp scope own js s H fp) pl σ' H' s'):Inv X pins σ H' s':=by
 refine I.Kn (ch:=fp) J.os J.base J.bT J.bare fun b hb=>?_;obtain⟨f0,f1,f2,f3,f4,f5⟩:=(hf b hb).1;exact⟨f3,f1,f4,f5⟩
theorem Inv.other{H':Hp}{s':ε}{h':az}{b:ζ}(I0:Inv X pins σ H s)(I:Inv X pins σ H' s')(hb:s.heap.objs.size≤b)(hn:H' b=none)(sb:oS b s'.heap h'):Inv X pins σ H' { s' with heap:=h' }:=by
 obtain⟨f0,f1,f2,f3,f4,f5⟩:=I0.qd hb hn;exact I.turned (t':=s'.toks) (fun c o hc e=>(sb.2 c hc).trans e) f0 f1 f3 f4 f5
end
def pP(X:Cx)(ifs:List μ)(t:TT):Prop:=
 ∀(pins:List (ζ×bp)) (s:ε) (σ:St) (H:Hp) (Q:Bool->Hp->Prop),Inv X pins σ H s->t σ H Q ->
  Ψ (model X.prog X.w) X.A (forIn ifs true fun c r=>if r=true then do let ok ←isTrue c X.env (eval c X.env);pure (eD ok) else pure (eD r)) (TP X pins σ Q) X.xe s
def Du:TT:=fun _ H Q=>Q true H
theorem DX{X:Cx}:pP X [] Du:=fun _ _ _ H _ I h=>wpAny_tests_nil ⟨H,I,h⟩
theorem DW{X:Cx}{c:μ}{t:TT}(h:PT X c t):pP X [c] t:=fun pins s σ H Q I hq=>wpAny_tests_one (h pins s σ H Q I hq)
section
variable {prog:aq} {w:aC} {A:aZ} {R:Result->ε->Prop} {s:ε}
theorem rW{elt target iter:μ}{ifs:List μ}{scope:fq}{pos:aG}{it acc:γ}{env:fX}(I:Nat->ε->Prop)
  (turn:∀n s,I n s->Ψ (model prog w) A (pyNext it) (fun r s₁=>match r with
   |none=>R (.ok .next) s₁
   | some v=>Ψ (model prog w) A (letOwnedTupleGo target it v) (fun _ s₁'=>Ψ (model prog w) A (assign target env v) (fun _ s₂=>
     Ψ (model prog w) A (forIn ifs true fun c r=>if r=true then do let ok ←isTrue c env (eval c env);pure (eD ok) else pure (eD r)) (fun ok s₃=>
      if ok=true then Ψ (model prog w) A (eval elt env) (fun x s₄=>
       Ψ (model prog w) A (call (.builtin "list.append") [acc,x]) (fun _ s₅=>∃m,m<n/\I m s₅) (fun _ _=>False) s₄) (fun _ _=>False) s₃
      else ∃m,m<n/\I m s₃) (fun _ _=>False) s₂) (fun _ _=>False) s₁') (fun _ _=>False) s₁) (fun _ _=>False) s)
  (n:Nat) (h:I n s):
  jY (model prog w) A (.compLoop (.ListComp elt [⟨target,iter,ifs,0⟩] scope pos) 0 it acc env) R s:=by
 refine codeAny_loop rfl I (fun n s hI=>?_) n h;show Ψ _ A ((compTurn (.ListComp elt [⟨target,iter,ifs,0⟩] scope pos) 0 it acc env).onRaise (fun x=>do noteFrame x env;theTreesLotGoes x)) _ _ s
 refine wpAny_noted ?_;rw[compTurn_list];refine Θ (nv (Θ (cZ (turn n s hI) (fun r s₁ h₁=>?_) fun _ _ h'=>h'.elim)));cases r with
 |none=>exact bt h₁
 |some v=>
  refine Θ (cZ h₁ (fun _ s₁' h₁'=>?_) fun _ _ h'=>h'.elim);refine Θ (cZ h₁' (fun _ s₂ h₂=>Θ (cZ h₂ (fun ok s₃ h₃=>?_) fun _ _ h'=>h'.elim)) fun _ _ h'=>h'.elim);cases ok with
  |false=>exact bt ⟨rfl,h₃⟩
  |true=>
   exact Θ (Θ (cZ h₃ (fun x s₄ h₄=>Θ (cZ h₄ (fun _ s₅ h₅=>bt (bt ⟨rfl,h₅⟩)) fun _ _ h'=>h'.elim)) fun _ _ h'=>h'.elim))
end
def Io(own:List χ)(js:List Nat)(g:TG)(tc:TT)(te:TE)(J:It)(σ:St)(H:Hp)(Q:VK):Prop:=
 ∀D,H D=none->∃W:Nat->Nat->List V->St->Hp->Prop,(∃m,W 0 m [] (pz own js σ) (upd H D (.lst [])))/\∀i m ys σ' H',W i m ys σ' H'->H' D=some (.lst ys) ∧
  ((J.stop i H'/\Q (.ref D) H')∨(J.go i H'/\ys.length<aj/\∀x H2,J.BY i H' x H2->g x σ' H2 fun σ2 H3=>tc σ2 H3 fun b H4=>
   if b=true then te σ2 H4 fun v H5=>H5 D=some (.lst ys)/\∃m',m' < m/\W (i+1) m' (ys++[v]) σ2 (upd H5 D (.lst (ys++[v]))) else ∃m',m' < m/\W (i+1) m' ys σ2 H4))
def EW(own:List χ)(js:List Nat)(wi:TI)(g:TG)(tc:TT)(te:TE):TE:=fun σ H Q=>wi σ H fun J H1=>Io own js g tc te J σ H1 Q
section
variable {X:Cx} {tg iter elt:μ} {ifs:List μ} {scope:fq} {pos:aG} {own:List χ} {js:List Nat} {g:TG} {tc:TT} {te:TE}
theorem qS{pins:List (ζ×bp)}{σ:St}{H:Hp}{s:ε}{Q:VK}{it:ζ}{fp:List ζ}{tn:Nat->az->Prop}{J:It}{E:γ->ε->Prop}{RR:γ->ζ->Result->ε->Prop}
  (hc:X.calm=true) (C:cN X.N X.env.scope scope own js)
  (hb:∀s H fp,PG (X.cmp scope own js s H fp) tg g/\pP (X.cmp scope own js s H fp) ifs tc/\PE (X.cmp scope own js s H fp) elt te)
  (I:Inv X pins σ H s) (T:Turn X.prog X.w X.K tg J fp it tn) (st:tn 0 s.heap) (hf:∀b∈fp,jB X pins H b) (rd:Io own js g tc te J σ H Q)
  (LS:∀D N s' H',Inv X pins σ H' s'->Q (.ref D) H'->s.heap.objs.size≤N->H' N=none->(∃m,s'.heap.Ns N m)->RR (.ref D) N (.ok .next) s'):
  Ψ (model X.prog X.w) X.A (newList []) (fun acc s₃=>Ψ (model X.prog X.w) X.A (newFunctionEnv scope X.env.globals (i4 X.env scope.names []) [] X.env.qual none .none (some X.env)) (fun cenv s₄=>
   jY (model X.prog X.w) X.A (.compStart (.ListComp elt [⟨tg,iter,ifs,0⟩] scope pos) 0 (.ref it) acc { cenv with scope:=relabel scope X.env }) (RR acc cenv.locals) s₄) E s₃) E s:=by
 have hD:H s.heap.objs.size=none:=I.fresh;obtain⟨W,⟨m0,w0⟩,turn⟩:=rd s.heap.objs.size hD;refine wpAny_newObj_type ?_;have hI3:Inv X pins σ (upd H s.heap.objs.size (.lst [])) { s with heap:=s.heap.push { cls:=.type "list",data:=.seq ([]:List γ).toArray }}:=
  I.A6 (t':=s.toks) (its:=[]) (ys:=[]) .nil (aK _)
 have hlt:∀b∈fp,b<s.heap.objs.size:=fun b hb=>by
  obtain⟨o,e,_⟩:=T.obj 0 _ st b hb;exact aa e
 have st3:tn 0 (s.heap.push { cls:=.type "list",data:=.seq ([]:List γ).toArray }):=T.keep 0 _ _ st fun b _ o e=>ρ _ e;generalize hs3:({ s with heap:=s.heap.push { cls:=.type "list",data:=.seq ([]:List γ).toArray }}:ε)=s3 at hI3 ⊢;have hsz3:s3.heap.objs.size=s.heap.objs.size+1:=by rw[←hs3];exact az.size_push ..
 have st3':tn 0 s3.heap:=by rw[←hs3];exact st3
 have hf3:∀b∈fp,jB X pins (upd H s.heap.objs.size (.lst [])) b/\b<s3.heap.objs.size:=fun b hb=>by
  obtain⟨f0,f1⟩:=hf b hb;refine⟨⟨?_,f1⟩,by rw[hsz3];exact Nat.lt_succ_of_lt (hlt b hb)⟩;rw[bD (bK (hlt b hb))];exact f0
 refine wpAny_newFunctionEnv C.zy (by intro y hy;simp at hy) (fun h₁ hns₁ hsb₁=>?_) C.kind;have kept1:∀b o,s3.heap.get? b=some o->h₁.get? b=some o:=fun b o e=>(hsb₁.2 b (bK (aa e))).trans (ρ _ e);have I4:Inv (X.cmp scope own js s3 (upd H s.heap.objs.size (.lst [])) fp) [] (pz own js σ) (upd H s.heap.objs.size (.lst [])) { s3 with heap:=h₁,toks:=s3.toks+([]:List (χ×γ)).length }:=
  hI3.cmp C hf3 hns₁ kept1
 have st4:tn 0 h₁:=T.keep 0 _ _ st3' fun b _ o e=>kept1 b o e;obtain⟨hg,ht,he⟩:=hb s3 (upd H s.heap.objs.size (.lst [])) fp
 -- the iterator's objects in the block's context
 have stat:∀{H':Hp},(∀b∈fp,H' b=none)->∀b∈fp,jB (X.cmp scope own js s3 (upd H s.heap.objs.size (.lst [])) fp) [] H' b:=fun {H'} hn b hb=>by
  have q:=I4.ok;exact⟨hn b hb,(q.zP b hb).1,q.rT b hb,.inl hb,(q.zP b hb).2,fun p hp=>absurd (show p∈([]:List (ζ×bp)) from hp) (by simp)⟩
 have loop:jY (model X.prog X.w) X.A (.compLoop (.ListComp elt [⟨tg,iter,ifs,0⟩] scope pos) 0 (.ref it) (.ref s.heap.objs.size) (compEnvC scope (i4 X.env scope.names []) s3.heap.objs.size X.env))
   (RR (.ref s.heap.objs.size) s3.heap.objs.size) { s3 with heap:=h₁,toks:=s3.toks+([]:List (χ×γ)).length }:=by
  refine rW (fun n s'=>∃i ys σ' H',Inv (X.cmp scope own js s3 (upd H s.heap.objs.size (.lst [])) fp) [] σ' H' s'/\tn i s'.heap/\(∀b∈fp,H' b=none)/\W i n ys σ' H') ?_ m0
   ⟨0,[],_,_,I4,st4,fun b hb=>(hf3 b hb).1.1,w0⟩
  rintro n s5 ⟨i,ys,σ5,H5,I5,st5,fr5,w5⟩;obtain⟨hacc,hcase⟩:=turn i n ys σ5 H5 w5;rcases hcase with⟨stop,qn⟩|⟨go,hys,step⟩
  ·refine bG (T.done (X.cmp scope own js s3 (upd H s.heap.objs.size (.lst [])) fp) rfl rfl rfl hc i [] s5 σ5 H5 (fun _ _=>False) I5 (stat fr5) st5 stop) fun r s6 ⟨hr,I6⟩=>?_;subst hr;have I7:=hI3.IB hf3 I6;obtain⟨m,hm,_⟩:=I6.loc;exact LS _ _ _ _ I7 qn (by rw[hsz3];exact Nat.le_succ _) I6.free ⟨m,hm⟩
  ·refine bG (T.item (X.cmp scope own js s3 (upd H s.heap.objs.size (.lst [])) fp) rfl rfl rfl hc i [] s5 σ5 H5 (fun _ _=>False) I5 (stat fr5) st5 go) fun r s6 ⟨u,hr,h6⟩=>?_;subst hr;refine bG h6 fun _ s7 ⟨x,H7,I7,r7,y7,st7,fr7⟩=>?_;have I7':=I7.pinned (stat fr7) (T.obj _ _ st7);refine bG (hg _ s7 σ5 H7 x u _ I7' r7 (step x H7 y7)) fun _ s8 ⟨σ8,H8,I8,q8⟩=>?_;refine bG (ht _ s8 σ8 H8 _ I8 q8) fun ok s9 ⟨H9,I9,q9⟩=>?_;have back:∀{σ':St} {H':Hp} {s':ε} {ys':List V},Inv (X.cmp scope own js s3 (upd H s.heap.objs.size (.lst [])) fp) ([]++nY fp s7.heap) σ' H' s'->(∃m',m' < n/\W (i+1) m' ys' σ' H') ->
     ∃m',m' < n/\∃i ys σ' H',Inv (X.cmp scope own js s3 (upd H s.heap.objs.size (.lst [])) fp) [] σ' H' s'/\tn i s'.heap/\(∀b∈fp,H' b=none)/\W i m' ys σ' H':=fun {σ' H' s' ys'} I' ⟨m',hm,w'⟩=>by
    refine⟨m',hm,i+1,ys',σ',H',I'.mE,T.keep _ _ _ st7 fun b hb o e=>(I'.pin (b,o) (Ξ _ (Ξ _ (jL hb e)))).1,fun b hb=>?_,w'⟩;obtain⟨o,e,d⟩:=T.obj _ _ st7 b hb;exact (I'.pin (b,o) (Ξ _ (Ξ _ (jL hb e)))).2.1
   cases ok with
   |false=>
    rw[if_neg ai] at q9 ⊢;exact back I9 q9
   |true=>
    rw[if_pos rfl] at q9 ⊢;refine bG (he _ s9 σ8 H9 _ I9 q9) fun xv s10 ⟨v,H10,I10,r10,hD10,q10⟩=>?_;refine bG (su (X:=X.cmp scope own js s3 (upd H s.heap.objs.size (.lst [])) fp) _ s10 σ8 H10 (.ref s.heap.objs.size) [v] (.ref s.heap.objs.size) [xv] (fun _ H'=>H'=upd H10 s.heap.objs.size (.lst (ys++[v]))) I10 rfl (.cons r10 .nil)
     ⟨_,ys,v,rfl,rfl,hD10,hys,rfl⟩) fun _ s11 ⟨_,H11,I11,_,e11⟩=>?_
    subst e11;exact back I11 q10
 exact codeAny_compStart_list loop (T.self _ 0 _ _ _ st4 loop)
theorem DR{wi:TI}(hc:X.calm=true)(C:cN X.N X.env.scope scope own js)(hi:PI X tg iter wi)
  (hb:∀s H fp,PG (X.cmp scope own js s H fp) tg g/\pP (X.cmp scope own js s H fp) ifs tc/\PE (X.cmp scope own js s H fp) elt te)
  (hs:∀x,foldedSetIterable iter X.env x=pure x:=by intro _;rfl):PE X (.ListComp elt [⟨tg,iter,ifs,0⟩] scope pos) (EW own js wi g tc te):=by
 intro pins s σ H Q I h;rw[eval_ListComp];refine kz (use:=none) rfl hs (kW (C.cells I.ok)) C.kind C.names (bG (hi pins s σ H _ I h) fun xv s₁ h₁=>bG h₁ fun itv s₂ h₂=>?_);obtain⟨it,fp,tn,J,H2,e,I2,T,st2,f2,rd⟩:=h₂;subst e;refine qS (RR:=fun acc C'=>compPost (model X.prog X.w) X.A X.xe none (EP X pins σ Q) acc C') hc C hb I2 T st2 f2 rd fun D N s' H' I' q hN hHN ⟨m,hm⟩=>?_;exact⟨m,hm,fun h' sb=>⟨.ref D,H',I2.other I' hN hHN sb,rfl,q⟩⟩
theorem w8{wi:TI}{i:Nat}{y:χ}{py spos:aG}(hc:X.calm=true)(hN:X.N.Nodup)(hy:X.N[i]?=some y)(hyl:X.env.scope.names.lookup y=some .local)(C:cN X.N X.env.scope scope own js)(hi:PI X tg iter wi)
  (hb:∀s H fp,PG (X.cmp scope own js s H fp) tg g/\pP (X.cmp scope own js s H fp) ifs tc/\PE (X.cmp scope own js s H fp) elt te)
  (zI:swapsWith (.ListComp elt [⟨tg,iter,ifs,0⟩] scope pos) (some (.Name y py)) spos.line X.env=pure true:=by rfl)
  (hs:∀x,foldedSetIterable iter X.env x=pure x:=by intro _;rfl):PS X (.Assign [.Name y py] (.ListComp elt [⟨tg,iter,ifs,0⟩] scope pos) spos) (AF (EW own js wi g tc te) (xG i)):=by
 intro pins s σ H D I h;rw[exec_Assign_Name_used _ _ _ _ zI];refine Θ (nv (Θ ?_));show Ψ _ X.A (do let _ ←comprehension (.ListComp elt [⟨tg,iter,ifs,0⟩] scope pos) scope X.env _ (newList []) false (eval iter X.env) (some (assign (.Name y py) X.env))) _ _ s;refine Θ (cZ (kz (use:=some (assign (.Name y py) X.env)) (Q:=fun _ s'=>SP X pins D .next s') rfl hs (kW (C.cells I.ok)) C.kind C.names
  (bG (hi pins s σ H _ I h) fun xv s₁ h₁=>bG h₁ fun itv s₂ h₂=>?_)) (fun _ s' hq=>bt (bt hq)) fun _ _ e=>e)
 obtain⟨it,fp,tn,J,H2,e,I2,T,st2,f2,rd⟩:=h₂;subst e;refine qS (RR:=fun acc C'=>compPost (model X.prog X.w) X.A X.xe (some (assign (.Name y py) X.env)) (fun _ s'=>SP X pins D .next s') acc C') hc C hb I2 T st2 f2 rd fun L N s' H' I' q hN' hHN ⟨m,hm⟩=>?_
 show Ψ _ _ (assign (.Name y py) X.env (.ref L)) _ _ _;refine wpAny_assign_Name (sg I' hN hy (.inl hyl) (v:=.ref L) rfl (fun s'' I'' ⟨a,sb,ha⟩=>?_) (.inr hyl));have hNa:N≠a:=by
  obtain⟨f0,f1,f2,f3,f4,f5⟩:=I2.qd hN' hHN;rcases ha with rfl|ha
  ·exact f1
  ·exact fR (f4 _ _ ha)
 refine⟨m,hm.sameBut sb hNa,fun h'' sb''=>?_⟩;refine⟨σ.set i (some (.ref L)),H',?_,q⟩;obtain⟨f0,f1,f2,f3,f4,f5⟩:=I2.qd hN' hHN;exact I''.turned (t':=s''.toks) (fun c o hc e=>(sb''.2 c hc).trans e) f0 f1 f3 f4 f5
end
end L2
namespace L3
open PySem PySem.Spec PyProof.Rows L2
section
variable {X:Cx} {st:aT} {rest:List aT} {t u:aP} {e c:μ} {te:aL} {tc:bV} {pos:aG}
def fY:aP:=fun D τ G=>D.nx τ G
def b7(t u:aP):aP:=fun D τ G=>t { D with nx:=u D } τ G
theorem IV:lA X [] fY:=zj DJ fun D σ H ⟨τ,G,D3,RS,RG,h,k⟩=>k.nx τ σ G H RS (.refl H G) RG h
theorem Fc(h1:mj X st t)(h2:lA X rest u):lA X (st::rest) (b7 t u):=zj (AX h1 h2) fun D σ H ⟨τ,G,D3,RS,RG,h,k⟩=>
 ⟨τ,G,{ D3 with nx:=u D3 },RS,RG,h,⟨fun τ' σ' G' H' a b c q=>⟨τ',G',D3,a,c,q,k.step b⟩,k.bk,k.ct,k.rt⟩⟩
theorem IU(h1:mj X st t):lA X [st] t:=DI h1
def oW(te:aL):aP:=fun D τ G=>te τ G fun _ G1=>D.nx τ G1
theorem Fb(he:b0 X e te)(hs:swapsWith e none pos.line X.env=pure false:=by rfl):mj X (.Expr e pos) (oW te):=jb (DK he hs) fun D σ H ⟨τ,G,D3,RS,RG,h,k⟩=>
 ⟨τ,G,_,RS,RG,h,fun v H1 d G1 h1 S1 R1 q1=>k.nx τ σ G1 H1 (RS.ext (S1.ext RG)) S1 R1 q1⟩
def cP(te:aL):aP:=fun D τ G=>te τ G D.rt
theorem IT(he:b0 X e te):mj X (.Return (some e) pos) (cP te):=jb (FF he) fun D σ H ⟨τ,G,D3,RS,RG,h,k⟩=>
 ⟨τ,G,D3.rt,RS,RG,h,fun v H1 d G1 h1 S1 R1 q1=>k.rt d v G1 H1 h1 S1 R1 q1⟩
def ke(c:bV)(t u:aP):aP:=fun D τ G=>c τ G fun b G1=>Br b (t D τ G1) (u D τ G1)
theorem KQ{a b:List aT}(hc:mi X c tc)(ha:lA X a t)(hb:lA X b u):mj X (.If c a b pos) (ke tc t u):=jb (Jg hc ha hb) fun D σ H ⟨τ,G,D3,RS,RG,h,k⟩=>
 ⟨τ,G,_,RS,RG,h,fun b H1 G1 S1 R1 q1=>Br.ite q1 (fun q=>⟨τ,G1,D3,RS.ext (S1.ext RG),R1,q,k.step S1⟩) fun q=>⟨τ,G1,D3,RS.ext (S1.ext RG),R1,q,k.step S1⟩⟩
def ud:aP:=fun _ _ _=>False
theorem DA:mj X st ud:=jb AZ fun D σ H ⟨τ,G,D3,RS,RG,h,k⟩=>h
end
abbrev fV:=D->S3->Gp->(S3->Gp->Prop)->Prop
abbrev ku:=List D->S3->Gp->(S3->Gp->Prop)->Prop
def lowG(K:η)(t:fV):TG:=fun v σ H Q=>∃d τ G Q3,Hv K H d v/\dF K τ σ H/\aW K G H/\t d τ G Q3/\∀τ' σ' G' H',dF K τ' σ' H'->Step H G H' G'->aW K G' H'->Q3 τ' G'->Q σ' H'
def JT(K:η)(t:ku):qV:=fun vs σ H Q=>∃ds τ G Q3,aB K H ds vs/\dF K τ σ H/\aW K G H/\t ds τ G Q3/\∀τ' σ' G' H',dF K τ' σ' H'->Step H G H' G'->aW K G' H'->Q3 τ' G'->Q σ' H'
abbrev qX(X:Cx)(tg:μ)(t:fV):Prop:=PG X tg (lowG X.K t)
abbrev u3(X:Cx)(tgs:List μ)(t:ku):Prop:=kx X tgs (JT X.K t)
section
variable {X:Cx} {pos:aG} {e:μ} {es:List μ}
theorem xa{t t':TG}(h:PG X e t)(f:∀v σ H Q,t' v σ H Q->t v σ H Q):PG X e t':=fun pins s σ H v u Q I r q=>h pins s σ H v u Q I r (f v σ H Q q)
theorem zp{t t':qV}(h:kx X es t)(f:∀v σ H Q,t' v σ H Q->t v σ H Q):kx X es t':=fun pins s σ H v u Q I r q=>h pins s σ H v u Q I r (f v σ H Q q)
def hName(i:Nat):fV:=fun d τ G Q=>Q (kc τ i d) G
theorem HC{i:Nat}{x:χ}(hN:X.N.Nodup)(hi:X.N[i]?=some x:=by rfl)(hx:Loc X.env.scope x:=by first|exact oI rfl|exact mn rfl)(hf:X.fn x=true∨X.env.scope.names.lookup x=some .local:=by first|exact .inl rfl|exact .inr rfl|assumption):qX X (.Name x pos) (hName i):=
 xa (DO hN hi hx hf) fun v σ H Q ⟨d,τ,G,Q3,hd,RS,RG,h,k⟩=>k _ _ G H (RS.set hd) (.refl H G) RG h
def xE:ku:=fun ds τ G Q=>match ds with
 |[]=>Q τ G
 |_::_=>False
def pg(t:fV)(u:ku):ku:=fun ds τ G Q=>match ds with
 |[]=>False
 |d::r=>t d τ G fun τ' G'=>u r τ' G' Q
theorem Hx:u3 X [] xE:=zp DN fun vs σ H Q ⟨ds,τ,G,Q3,hd,RS,RG,h,k⟩=>by
 cases ds with
 |nil=>exact⟨hd.iD,k _ _ G H RS (.refl H G) RG h⟩
 |cons d r=>exact h.elim
theorem Ey{t:fV}{u:ku}(h1:qX X e t)(h2:u3 X es u)(hs:(assignEach (e::es) X.env).map (·.2)=assign e X.env::(assignEach es X.env).map (·.2):=by rfl):u3 X (e::es) (pg t u):=
 zp (A0 h1 h2 hs) fun vs σ H Q ⟨ds,τ,G,Q3,hd,RS,RG,h,k⟩=>by
  cases ds with
  |nil=>exact h.elim
  |cons d r=>
   obtain⟨v,vr,rfl,q1,q2⟩:=hd.inv;refine⟨v,vr,rfl,d,τ,G,_,q1,RS,RG,h,fun τ' σ' G' H' a b c q=>?_⟩;exact⟨r,τ',G',Q3,q2.ext (b.ext RG),a,c,q,fun τ2 σ2 G2 H2 a2 b2 c2=>k τ2 σ2 G2 H2 a2 (b.trans b2) c2⟩
def xD(n:Nat)(t:ku):fV:=fun d τ G Q=>match d with
 |.tup ds=>ds.length=n/\t ds τ G Q
 |_=>False
theorem J1{k:Nat}{t:ku}{n:Nat}(hc:X.calm=true)(h:u3 X es t)(hn:(assignEach es X.env).length=n:=by rfl)(hst:(assignEach es X.env).findIdx? (·.1)=none:=by rfl):qX X (.Tuple es k pos) (xD n t):=
 xa (FI hc h hn hst) fun v σ H Q ⟨d,τ,G,Q3,hd,RS,RG,h,k⟩=>by
  cases d with
  |tup ds=>
   unfold Hv at hd;obtain⟨a,vs,e1,e2,e3⟩:=hd;exact⟨a,vs,e1,e2,by rw[←e3.length];exact h.1,ds,τ,G,Q3,e3,RS,RG,h.2,k⟩
  |_=>exact h.elim
def da(te:aL)(g:fV):aP:=fun D τ G=>te τ G fun x G1=>g x τ G1 D.nx
theorem IX{tg:μ}{te:aL}{g:fV}(he:b0 X e te)(hg:qX X tg g)(hs:swapsWithSole [tg] e pos.line X.env=pure false:=by rfl)(hw:swappedStores [tg] e X.env=pure none:=by rfl)
  (h1:(assignEach [tg] X.env).map (·.2)=[assign tg X.env]:=by rfl):mj X (.Assign [tg] e pos) (da te g):=jb (FH he hg hs hw h1) fun D σ H ⟨τ,G,D3,RS,RG,h,k⟩=>
 ⟨τ,G,_,RS,RG,h,fun v H1 d G1 h1 S1 R1 q1=>⟨d,τ,G1,D3.nx,h1,RS.ext (S1.ext RG),R1,q1,fun τ' σ' G' H' a b c q=>k.nx τ' σ' G' H' a (S1.trans b) c q⟩⟩
theorem IS{i:Nat}{x:χ}{te:aL}{pos':aG}(hN:X.N.Nodup)(he:b0 X e te)(hi:X.N[i]?=some x:=by rfl)(hx:Loc X.env.scope x:=by first|exact oI rfl|exact mn rfl)(hs:swapsWith e (some (.Name x pos')) pos.line X.env=pure false:=by rfl)
  (hf:X.fn x=true∨X.env.scope.names.lookup x=some .local:=by first|exact .inl rfl|exact .inr rfl|assumption):mj X (.Assign [.Name x pos'] e pos) (da te (hName i)):=jb (FE hN hi hx he hs hf) fun D σ H ⟨τ,G,D3,RS,RG,h,k⟩=>
 ⟨τ,G,_,RS,RG,h,fun v H1 d G1 h1 S1 R1 q1=>k.nx _ _ G1 H1 ((RS.ext (S1.ext RG)).set h1) S1 R1 q1⟩
def wX:D->D->D->Gp->(Gp->Prop)->Prop:=fun o i v G Q=>match o,i with
 |.obj p,.int k=>∃ds j,G p=some (.lst ds)/\nt ds.length k=some j/\Q (dM G p (.lst (ds.set j v)))
 |_,_=>False
def hSub(to ti:aL):fV:=fun v τ G Q=>to τ G fun o G1=>ti τ G1 fun i G2=>wX o i v G2 fun G3=>Q τ G3
theorem vX{K:η}{o i v:D}{vo vi vv:V}{G:Gp}{H:Hp}{Q3:Gp->Prop}{Q:Hp->Prop}(ho:Hv K H o vo)(hi:Hv K H i vi)(hv:Hv K H v vv)(RG:aW K G H)(h:wX o i v G Q3)
  (k:∀H' G',Step H G H' G'->aW K G' H'->Q3 G'->Q H'):Cj vo vi vv H Q:=by
 match o,i,ho,hi,h with
 |.obj p,.int j,ho,hi,h=>
  unfold Hv at ho hi;obtain⟨ds,n,e1,e2,q⟩:=h;obtain⟨vs,e3,e4⟩:=RG p _ e1;refine⟨p,vs,j,n,ho,hi,e3,by rw[←e4.length];exact e2,k _ _ (Step.wrote (g:=.lst (ds.set n v)) e1) (RG.wrote e3 ⟨_,cw,?_⟩) q⟩;exact (e4.ext (Ext.wrote e3)).set n (hv.ext (Ext.wrote e3))
 |.obj _,.ak,_,_,h=>exact h.elim
 |.obj _,.bl _,_,_,h=>exact h.elim
 |.obj _,.str _,_,_,h=>exact h.elim
 |.obj _,.tup _,_,_,h=>exact h.elim
 |.obj _,.gf _,_,_,h=>exact h.elim
 |.obj _,.obj _,_,_,h=>exact h.elim
 |.obj _,.dc _,_,_,h=>exact h.elim
 |.dc _,_,_,_,h=>exact h.elim
 |.ak,_,_,_,h=>exact h.elim
 |.bl _,_,_,_,h=>exact h.elim
 |.int _,_,_,_,h=>exact h.elim
 |.str _,_,_,_,h=>exact h.elim
 |.tup _,_,_,_,h=>exact h.elim
 |.gf _,_,_,_,h=>exact h.elim
theorem J2{o i:μ}{to ti:aL}(ho:b0 X o to)(hi:b0 X i ti)
  (ha:∀v,assign (.Subscript o i pos) X.env v=(do
   let ov ←holding [v] (eval o X.env)
   let iv ←holding [v,ov] (eval i X.env)
   standAt pos
   holding [v,ov,iv] (setItem ov iv v)
   release [v,ov,iv] []):=by intro _;rfl):qX X (.Subscript o i pos) (hSub to ti):=xa (FJ ho hi set_list ha) fun v σ H Q ⟨d,τ,G,Q3,hd,RS,RG,h,k⟩=>
 ⟨τ,G,_,RS,RG,h,fun v1 H1 d1 G1 h1 S1 R1 q1=>⟨τ,G1,_,RS.ext (S1.ext RG),R1,q1,fun v2 H2 d2 G2 h2 S2 R2 q2=>
  vX (h1.ext (S2.ext R1)) h2 ((hd.ext (S1.ext RG)).ext (S2.ext R1)) R2 q2 fun H' G' y1 y2 y3=>k _ _ G' H' (((RS.ext (S1.ext RG)).ext (S2.ext R1)).ext (y1.ext R2)) ((S1.trans S2).trans y1) y2 y3⟩⟩
def wQ(to ti te:aL)(f:Int->Int->Int):aP:=fun D τ G=>to τ G fun o G1=>ti τ G1 fun i G2=>match o,i with
 |.obj p,.int k=>∃ds x,G2 p=some (.lst ds)/\iQ ds k=some (.int x)/\te τ G2 fun y G3=>match y with
  |.int y=>wX o i (.int (f x y)) G3 fun G4=>D.nx τ G4
  |_=>False
 |_,_=>False
def uc(c:bV)(tb:aP):aP:=fun D τ G=>∃W:Nat->S3->Gp->Prop,(∃m,W m τ G)/\∀m τ G,W m τ G ->
 c τ G fun b G1=>Br b (tb { D with nx:=fun τ' G'=>∃m',m' < m/\W m' τ' G',ct:=fun τ' G'=>∃m',m' < m/\W m' τ' G',bk:=D.nx } τ G1) (D.nx τ G1)
theorem Dz{c:μ}{body:List aT}{tc:bV}{tb:aP}(hp:jq (model X.prog X.w) X.A X.env X.xe)(hc:mi X c tc)(hb:lA X body tb):mj X (.While c body [] pos) (uc tc tb):=
 jb (AY hp hc hb) fun D σ H ⟨τ,G,D3,RS,RG,⟨W,⟨m0,w0⟩,turn⟩,k⟩=>by
  refine⟨fun m σ' H'=>∃τ' G',W m τ' G'/\dF X.K τ' σ' H'/\aW X.K G' H'/\Step H G H' G',⟨m0,τ,G,w0,RS,RG,.refl H G⟩,fun m σ1 H1 ⟨τ1,G1,w1,RS1,RG1,S1⟩=>?_⟩;refine⟨τ1,G1,_,RS1,RG1,turn m τ1 G1 w1,fun b H2 G2 S2 R2 q2=>Br.ite q2 (fun q=>?_) fun q=>k.nx _ _ G2 H2 (RS1.ext (S2.ext RG1)) (S1.trans S2) R2 q⟩;refine⟨fun σ' H'=>∃τ' G',(∃m',m' < m/\W m' τ' G')/\dF X.K τ' σ' H'/\aW X.K G' H'/\Step H G H' G',fun σ' H' ⟨τ',G',⟨m',hm,w'⟩,a,b,c⟩=>⟨m',hm,τ',G',w',a,b,c⟩,?_⟩;refine⟨τ1,G2,_,RS1.ext (S2.ext RG1),R2,q,⟨?_,?_,?_,?_⟩⟩
  ·exact fun τ' σ' G' H' a b c q=>⟨τ',G',q,a,c,(S1.trans S2).trans b⟩
  ·exact fun τ' σ' G' H' a b c q=>k.nx τ' σ' G' H' a ((S1.trans S2).trans b) c q
  ·exact fun τ' σ' G' H' a b c q=>⟨τ',G',q,a,c,(S1.trans S2).trans b⟩
  ·exact fun d v G' H' a b c q=>k.rt d v G' H' a ((S1.trans S2).trans b) c q
end
abbrev eO:=List D->Gp->V3->Prop
def jM(K:η)(sp:eO):Sp:=fun vs H Q _=>∃ds G Q3,aB K H ds vs/\aW K G H/\sp ds G Q3/\∀v H' d G',Hv K H' d v->Step H G H' G'->aW K G' H'->Q3 d G'->Q v H'
abbrev cx(P:aq)(w:aC)(K:η)(mg:χ->Option γ)(base:az)(k:Nat)(f:ζ)(fd:aJ)(ps:List χ)(sp:eO):Prop:=gY P w K mg base sP k f fd ps (jM K sp)
def bR(sp:eO)(t:cT):aL:=fun τ G Q=>t τ G fun ds G1=>sp ds G1 Q
section
variable {X:Cx} {k:Nat} {f:ζ} {fd:aJ} {ps:List χ} {sp:eO} {x:χ} {p pos:aG} {e:μ} {es:List μ} {t:cT}
theorem A4{K:η}{σ:L2.St}{H:Hp}{Q:VK}{E:XK}(h:low K (bR sp t) σ H Q):B9 (jM K sp) [] E (rM K t) σ H Q:=by
 obtain⟨τ,G,Q3,RS,RG,h,k⟩:=h;refine⟨τ,G,_,RS,RG,h,fun vs H1 ds G1 h1 S1 R1 q1=>?_⟩;refine⟨ds,G1,Q3,by rw[cf];exact h1,R1,q1,fun v H' d G' z1 z2 z3 z4=>k v H' d G' z1 (S1.trans z2) z3 z4⟩
theorem HW(F:cx X.prog X.w X.K X.mg X.base k f fd ps sp)(hr:eW k X.A)(hm:X.mg x=some (.ref f))(hk:fP X.K (.ref f)=true)(hb:Binds X.K fd ps [])(ha:jn X (e::es) t)(hg:Gl X x:=by rfl)
  (hdb:(x==("__debug__":χ))=false:=by decide) (he:notStar e=true:=by rfl) (hpl:es.all notStar=true:=by rfl):
  b0 X (.Call (.Name x p) (e::es) [] pos) (bR sp t):=fb (DU (E:=E0) F hr hg hm hk hb .nil Jl ha hdb (bW he) (fv hpl)) fun σ H Q h=>A4 h
end
section
variable {P:aq} {w:aC} {K:η} {mg:χ->Option γ} {base:az}
def bJ(Q:V3):jQ:={ nx:=fun _ G'=>∃G0,Sub G0 G'/\Q .ak G0,rt:=fun d G'=>∃G0,Sub G0 G'/\Q d G0 }
theorem L9{x qual:χ}{st:aT}{f:ζ}{fd:aJ}{N ps:List χ}{k:Nat}{sp:eO}(F:fg K x qual st f fd)(S:bO N ps (ar st))(hN:ps.length≤N.length)(len:∀ds G Q,sp ds G Q->ds.length=ps.length)(tb:aP)
  (mR:∀(cdv:γ) (A:aZ) (outer:List fX) (s:ε) (H:Hp) (E:XK),eW k (A.deeper (envOfC qual (ar st) s.heap.objs.size f cdv)) ->
   lA (oC sP P w K mg base N qual (ar st) f cdv A outer s H E).vR (ig st) tb)
  (CO:∀ds G Q,sp ds G Q->tb (bJ Q) (bE N ds) G):cx P w K mg base (k+1) f fd ps sp:=by
 refine F.ok S (fun vs H Q E h=>?_) (fun cdv A outer s H vs Q E hr h=>?_)
 ·obtain⟨ds,G,Q3,h1,h2,h3,h4⟩:=h;rw[←h1.length];exact len _ _ _ h3
 ·obtain⟨ds,G,Q3,h1,h2,h3,h4⟩:=h;refine⟨_,mR cdv A outer s H E hr,bE N ds,G,bJ Q3,.start h1 ?_,h2,CO _ _ _ h3,⟨?_,?_,?_,?_⟩⟩
  ·rw[←h1.length,len _ _ _ h3];exact hN
  ·exact fun τ σ G' H' a b c ⟨G0,s0,q⟩=>h4 _ H' .ak G0 (by simp[Hv]) (b.trans (.sub s0)) (c.sub s0) q
  ·exact fun τ σ G' H' a b c q=>q.elim
  ·exact fun τ σ G' H' a b c q=>q.elim
  ·exact fun d v G' H' a b c ⟨G0,s0,q⟩=>h4 _ H' d G0 a (b.trans (.sub s0)) (c.sub s0) q
end
end L3
namespace L3
open PySem PySem.Spec PyProof.Rows L2
structure Src where
 items:List D
 guard:Gp->Prop
structure yl(K:η)(H0:Hp)(J:It)(S:Src):Prop where
 go:∀(i:Nat) d H G,Ext H0 H->aW K G H->S.guard G->S.items[i]?=some d->J.go i H/\∀x H',J.BY i H x H'->Hv K H' d x/\Step H G H' G/\aW K G H'
 stop:∀(i:Nat) H G,Ext H0 H->aW K G H->S.guard G->S.items.length≤i->J.stop i H
abbrev kr:=S3->Gp->(Src->Gp->Prop)->Prop
def GK(K:η)(ti:kr):TI:=fun σ H R=>∃τ G R3,dF K τ σ H/\aW K G H/\ti τ G R3/\∀J H' S G',yl K H' J S->Step H G H' G'->aW K G' H'->R3 S G'->R J H'
abbrev sN(X:Cx)(tg iter:μ)(ti:kr):Prop:=PI X tg iter (GK X.K ti)
section
variable {X:Cx} {tg iter:μ} {pos p:aG}
theorem w9{t t':TI}(h:PI X tg iter t)(f:∀σ H R,t' σ H R->t σ H R):PI X tg iter t':=fun pins s σ H R I q=>h pins s σ H R I (f σ H R q)
def gX(te:aL):kr:=fun τ G R=>te τ G fun x G1=>match x with
 |.obj p=>∃ds,G1 p=some (.lst ds)/\R ⟨ds,fun G=>G p=some (.lst ds)⟩ G1
 |.tup ds=>R ⟨ds,fun _=>True⟩ G1
 |.gf ds=>R ⟨ds,fun _=>True⟩ G1
 |_=>False
theorem J0{l:μ}{te:aL}(hl:b0 X l te):sN X tg l (gX te):=by
 intro pins s σ H R I h;obtain⟨τ,G,R3,RS,RG,h,k⟩:=h
 -- the state carries what a list of the heap is
 refine bG (hl pins s σ H (fun v H'=>∃d G',Hv X.K H' d v/\Step H G H' G'/\aW X.K G' H'/\(match d with
  |.obj p=>∃ds,G' p=some (.lst ds)/\R3 ⟨ds,fun G=>G p=some (.lst ds)⟩ G'
  |.tup ds=>R3 ⟨ds,fun _=>True⟩ G'
  |.gf ds=>R3 ⟨ds,fun _=>True⟩ G'
  | _=>False)) I ⟨τ,G,_,RS,RG,h,fun v H' d G' a b c q=>⟨d,G',a,b,c,q⟩⟩) fun v s1 ⟨x,H1,I1,r1,d,G1,hv,S1,R1,q⟩=>?_
 have hlist:∀(a:ζ) (its:List γ) (xs:List V),aR xs its->PlainL s1.heap a its.toArray->R (KA X.K a) H1->Ψ (model X.prog X.w) X.A (pyIter (.ref a)) (C4 X pins σ tg R) X.xe s1:=by
  intro a its xs rv p q;refine wpAny_pyIter_list p.isList ?_;refine⟨s1.heap.objs.size,[s1.heap.objs.size],_,_,H1,rfl,I1.kept (t':=s1.toks) fun b o e=>ρ _ e,yy a _,⟨_,aQ _ rfl,rfl,rfl⟩,fun b hb=>?_,q⟩;have e:b=s1.heap.objs.size:=by simpa using hb
  subst e;exact I1.qd (ω _) (I1.bT.fresh (ω _))
 cases d with
 |obj a=>
  unfold Hv at hv;subst hv;cases r1;obtain⟨ds,e1,q⟩:=q;obtain⟨vs,e2,e3⟩:=R1 a _ e1;obtain⟨its,rv,p,hz⟩:=I1.list (fo.of e2);refine hlist a its vs rv p (k _ _ _ _ ⟨?_,?_⟩ S1 R1 q)
  ·intro i d H' G' E' RG' hg hi;obtain⟨vs',z1,z2⟩:=RG' a _ hg;obtain⟨v',y1,y2⟩:=z2.get hi;refine⟨⟨vs',v',.of z1,y1⟩,fun x H'' hy=>?_⟩;obtain⟨rfl,hy⟩:=hy;have:=hy vs' (.of z1);rw[y1] at this;cases this;exact⟨y2,.refl _ _,RG'⟩
  ·intro i H' G' E' RG' hg hi;obtain⟨vs',z1,z2⟩:=RG' a _ hg;exact⟨vs',.of z1,by rw[←z2.length];exact hi⟩
 |tup ds=>
  unfold Hv at hv;obtain⟨a,vs,rfl,e2,e3⟩:=hv;cases r1;obtain⟨its,rv,p,hz⟩:=I1.tuple e2;have hq:R (Kz X.K a) H1:=by
   refine k _ _ _ _ ⟨?_,?_⟩ S1 R1 q
   ·intro i d H' G' E' RG' hg hi;obtain⟨v',y1,y2⟩:=e3.get hi;refine⟨⟨vs,v',dU.ext E' e2,y1⟩,fun x H'' hy=>?_⟩;obtain⟨rfl,hy⟩:=hy;have:=hy vs (dU.ext E' e2);rw[y1] at this;cases this;exact⟨y2.ext E',.refl _ _,RG'⟩
   ·intro i H' G' E' RG' hg hi;exact⟨vs,dU.ext E' e2,by rw[←e3.length];exact hi⟩
  refine wpAny_pyIter_tuple (show s1.heap.IsTuple a its.toArray from p) ?_;refine⟨s1.heap.objs.size,[s1.heap.objs.size],_,_,H1,rfl,I1.kept (t':=s1.toks) fun b o e=>ρ _ e,wy a _,⟨_,aQ _ rfl,rfl,rfl⟩,fun b hb=>?_,hq⟩;have e:b=s1.heap.objs.size:=by simpa using hb
  subst e;exact I1.qd (ω _) (I1.bT.fresh (ω _))
 |gf ds=>
  unfold Hv at hv;obtain⟨a,vs,rfl,e2,e3⟩:=hv;cases r1;obtain⟨its,rv,p,hz⟩:=I1.list e2.l;refine hlist a its vs rv p (k _ _ _ _ ⟨?_,?_⟩ S1 R1 q)
  ·intro i d H' G' E' RG' hg hi;obtain⟨v',y1,y2⟩:=e3.get hi;refine⟨⟨vs,v',(oD.ext E' e2).l,y1⟩,fun x H'' hy=>?_⟩;obtain⟨rfl,hy⟩:=hy;have:=hy vs (oD.ext E' e2).l;rw[y1] at this;cases this;exact⟨y2.ext E',.refl _ _,RG'⟩
  ·intro i H' G' E' RG' hg hi;exact⟨vs,(oD.ext E' e2).l,by rw[←e3.length];exact hi⟩
 |ak=>exact q.elim
 |bl _=>exact q.elim
 |int _=>exact q.elim
 |str _=>exact q.elim
 |dc _=>exact q.elim
def gk(lo:Int)(n:Nat):List D:=(aS n).map fun i:Nat=>.int (lo+(i:Int))
theorem AJ{lo:Int}{n i:Nat}{d:D}(h:(gk lo n)[i]?=some d):i<n/\d=.int (lo+(i:Int)):=by
 unfold gk at h;rw[bB] at h;by_cases hi:i<n
 ·rw[gn hi] at h;simp at h;exact⟨hi,h.symm⟩
 ·rw[di.mpr (by simpa using hi)] at h;cases h
theorem pI(lo:Int)(n:Nat):(gk lo n).length=n:=by simp[gk]
theorem vA{K:η}{H:Hp}(lo:Int)(n:Nat):yl K H (Ad lo n) ⟨gk lo n,fun _=>True⟩:=⟨by
 intro i d H' G' _ RG _ hi;obtain⟨h1,h2⟩:=AJ hi;refine⟨h1,fun x H'' hy=>?_⟩;obtain⟨rfl,rfl⟩:=hy;exact⟨by rw[h2];simp[Hv],.refl _ _,RG⟩,by
 intro i H' G' _ RG _ hi;rw[pI] at hi;exact hi⟩
def mP(ta:cT):kr:=fun τ G R=>ta τ G fun ds G1=>match ds with
 |[.int j]=>(-(2^62)≤j/\j<2^62)/\R ⟨gk 0 j.toNat,fun _=>True⟩ G1
 |_=>False
def pf(ta:cT):kr:=fun τ G R=>ta τ G fun ds G1=>match ds with
 |[.int i,.int j]=>(-(2^62)≤i/\i<2^62/\-(2^62)≤j/\j<2^62)/\R ⟨gk i (j-i).toNat,fun _=>True⟩ G1
 |_=>False
theorem Hu{a:μ}{ta:cT}(hm:X.mg "range" = none)(ha:jn X [a] ta)(hg:Gl X "range":=by rfl)(hs:notStar a=true:=by rfl):sN X tg (.Call (.Name "range" p) [a] [] pos) (mP ta):=
 w9 (zo hg hm ha (bW hs)) fun σ H R ⟨τ,G,R3,RS,RG,h,k⟩=>⟨τ,G,_,RS,RG,h,fun vs H1 ds G1 h1 S1 R1 q1=>by
  rcases ds with _|⟨d,_|⟨d2,ds⟩⟩
  ·exact q1.elim
  ·cases d with
   |int j=>
    obtain⟨v,r,rfl,z1,z2⟩:=h1.inv;cases z2.iD;unfold Hv at z1;exact⟨j,by rw[z1],q1.1.1,q1.1.2,k _ _ _ _ (vA 0 _) S1 R1 q1.2⟩
   |_=>exact q1.elim
  ·cases d<;>exact q1.elim⟩
theorem Ht{a b:μ}{ta:cT}(hm:X.mg "range" = none)(ha:jn X [a,b] ta)(hg:Gl X "range":=by rfl)(hs:notStar a=true:=by rfl)(hs2:notStar b=true:=by rfl):
  sN X tg (.Call (.Name "range" p) [a,b] [] pos) (pf ta):=
 w9 (zm hg hm ha (by rw[bW hs,bW hs2];rfl) (bW hs2)) fun σ H R ⟨τ,G,R3,RS,RG,h,k⟩=>⟨τ,G,_,RS,RG,h,fun vs H1 ds G1 h1 S1 R1 q1=>by
  rcases ds with _|⟨d,_|⟨d2,_|⟨d3,ds⟩⟩⟩
  ·exact q1.elim
  ·cases d<;>exact q1.elim
  ·cases d with
   |int i=>
    cases d2 with
    |int j=>
     obtain⟨v,r,rfl,z1,z2⟩:=h1.inv;obtain⟨v',r',rfl,z3,z4⟩:=z2.inv;cases z4.iD;unfold Hv at z1 z3;exact⟨i,j,by rw[z1,z3],q1.1,k _ _ _ _ (vA i _) S1 R1 q1.2⟩
    |_=>exact q1.elim
   |_=>exact q1.elim
  ·cases d with
   |int i=>cases d2<;>exact q1.elim
   |_=>exact q1.elim⟩
def jd(guard:Gp->Prop)(g:fV)(tb:aP)(D3:jQ):List D->S3->Gp->Prop
 |[],τ,G=>guard G/\D3.nx τ G
 |d::ds,τ,G=>guard G/\g d τ G fun τ2 G2=>tb { D3 with nx:=jd guard g tb D3 ds,ct:=jd guard g tb D3 ds,bk:=D3.nx } τ2 G2
def kf(ti:kr)(g:fV)(tb:aP):aP:=fun D3 τ G=>ti τ G fun S G1=>jd S.guard g tb D3 S.items τ G1
theorem IW{body:List aT}{ti:kr}{g:fV}{tb:aP}(hp:jq (model X.prog X.w) X.A X.env X.xe)(hc:X.calm=true)(hi:sN X tg iter ti)(hg:qX X tg g)(hb:lA X body tb)
  (hs:∀x,foldedSetIterable iter X.env x=pure x:=by intro _;rfl):mj X (.For tg iter body [] pos) (kf ti g tb):=jb (FG hp hc hi hg hb hs) fun D2 σ H ⟨τ,G,D3,RS,RG,h,k⟩=>by
 refine⟨τ,G,_,RS,RG,h,fun J H1 S G1 ok S1 R1 q1=>?_⟩;refine⟨fun i m σ' H'=>∃τ' G',dF X.K τ' σ' H'/\aW X.K G' H'/\Step H G H' G'/\Ext H1 H'/\jd S.guard g tb D3 (S.items.drop i) τ' G'/\m+i=S.items.length,⟨S.items.length,τ,G1,RS.ext (S1.ext RG),R1,S1,.refl H1,by simpa using q1,by lia⟩,?_⟩;rintro i m σ' H' ⟨τ',G',RS',RG',S',E',q,hm⟩;by_cases hlt:i<S.items.length
 ·have hd:S.items.drop i=S.items[i]::S.items.drop (i+1):=cB hlt;have hget:S.items[i]?=some S.items[i]:=aU hlt;rw[hd] at q;obtain⟨hgd,q⟩:=q;obtain⟨z1,z2⟩:=ok.go i _ H' G' E' RG' hgd hget;refine .inr ⟨z1,fun σ2 H2=>∃τ2 G2,dF X.K τ2 σ2 H2/\aW X.K G2 H2/\Step H G H2 G2/\Ext H1 H2/\jd S.guard g tb D3 (S.items.drop (i+1)) τ2 G2,fun σ2 H2 ⟨τ2,G2,a1,a2,a3,a4,a5⟩=>⟨m-1,by lia,τ2,G2,a1,a2,a3,a4,a5,by lia⟩,fun x H2 hy=>?_⟩;obtain⟨y1,y2,y3⟩:=z2 x H2 hy;refine⟨S.items[i],τ',G',_,y1,RS'.ext (y2.ext RG'),y3,q,fun τ3 σ3 G3 H3 b1 b2 b3 b4=>?_⟩;refine⟨τ3,G3,_,b1,b3,b4,⟨?_,?_,?_,?_⟩⟩
  ·exact fun τ4 σ4 G4 H4 c1 c2 c3 c4=>⟨τ4,G4,c1,c3,((S'.trans y2).trans b2).trans c2,((E'.trans (y2.ext RG')).trans (b2.ext y3)).trans (c2.ext b3),c4⟩
  ·exact fun τ4 σ4 G4 H4 c1 c2 c3 c4=>k.nx τ4 σ4 G4 H4 c1 (((S'.trans y2).trans b2).trans c2) c3 c4
  ·exact fun τ4 σ4 G4 H4 c1 c2 c3 c4=>⟨τ4,G4,c1,c3,((S'.trans y2).trans b2).trans c2,((E'.trans (y2.ext RG')).trans (b2.ext y3)).trans (c2.ext b3),c4⟩
  ·exact fun d v G4 H4 c1 c2 c3 c4=>k.rt d v G4 H4 c1 (((S'.trans y2).trans b2).trans c2) c3 c4
 ·have hd:S.items.drop i=[]:=dZ (by lia);rw[hd] at q;exact .inl ⟨ok.stop i H' G' E' RG' q.1 (by lia),k.nx τ' σ' G' H' RS' S' RG' q.2⟩
def gF(guard:Gp->Prop)(g:fV)(tc:bV)(te:aL)(Q:List D->Gp->Prop):List D->List D->S3->Gp->Prop
 |[],acc,τ,G=>guard G/\Q acc G
 |d::ds,acc,τ,G=>guard G/\g d τ G fun τ2 G2=>tc τ2 G2 fun b G3=>Br b (te τ2 G3 fun v G4=>gF guard g tc te Q ds (acc++[v]) τ2 G4) (gF guard g tc te Q ds acc τ2 G3)
def uS(own:List χ)(js:List Nat)(τ:S3):S3:=(own.map fun _=>none)++js.map fun j=>g5 τ j
def fm(own:List χ)(js:List Nat)(ti:kr)(g:fV)(tc:bV)(te:aL):aL:=fun τ G Q=>ti τ G fun S G1=>S.items.length≤aj ∧
 gF S.guard g tc te (fun ds G2=>∀p G3,eP G2 p (.lst ds) G3->Q (.obj p) G3) S.items [] (uS own js τ) G1
theorem wo:∀(τ:S3) (i:Nat),g5 τ i=(τ[i]?).getD none
 |[],i=>by simp[g5]
 |x::r,0=>by simp[g5]
 |x::r,i+1=>by simp[g5,wo r i]
theorem dF.cmp{K:η}{τ:S3}{σ:L2.St}{H:Hp}(own:List χ)(js:List Nat)(R:dF K τ σ H):dF K (uS own js τ) (pz own js σ) H:=⟨by simp[uS,pz],fun i d h=>by
 rw[wo] at h;unfold uS at h;by_cases hi:i<own.length
 ·rw[b6 (by simpa using hi)] at h;rw[bB,aU hi] at h;cases h
 ·rw[aN (by simpa using hi),bB] at h;simp only[θ] at h;cases hj:js[i-own.length]? with
  |none=>rw[hj] at h;cases h
  |some j=>
   rw[hj] at h;have h':g5 τ j=some d:=h;obtain⟨v,e1,e2⟩:=R.at_ j d h';refine⟨v,?_,e2⟩;unfold pz;rw[aN (by simpa using hi),bB];simp only[iq,hj,Option.map_some,e1,Option.getD_some]⟩
def fu:bV:=fun _ G Q=>Q true G
theorem HZ:pP X [] (mO X.K fu):=fun pins s σ H Q I ⟨τ,G,Q3,RS,RG,h,k⟩=>DX pins s σ H Q I (k true H G (.refl H G) RG h)
theorem HY{c:μ}{t:bV}(h:mi X c t):pP X [c] (mO X.K t):=DW h
theorem uF{K:η}{own:List χ}{js:List Nat}{ti:kr}{g:fV}{tc:bV}{te:aL}{σ:L2.St}{H:Hp}{Q:VK}(h:low K (fm own js ti g tc te) σ H Q):EW own js (GK K ti) (lowG K g) (mO K tc) (low K te) σ H Q:=by
 obtain⟨τ,G,Q3,RS,RG,h,k⟩:=h;refine⟨τ,G,_,RS,RG,h,fun J H1 S G1 ok S1 R1 q1=>?_⟩;obtain⟨hz,q1⟩:=q1;intro p hp;have hGp:G1 p=none:=R1.free hp;refine⟨fun i m ys σ' H'=>∃τ' G' acc,dF K τ' σ' H'/\aW K G' H'/\Step H G H' G'/\Ext H1 H'/\H' p=some (.lst ys)/\G' p=none/\aB K H' acc ys ∧
  gF S.guard g tc te (fun ds G2=>∀p G3,eP G2 p (.lst ds) G3->Q3 (.obj p) G3) (S.items.drop i) acc τ' G'/\m+i=S.items.length/\ys.length≤i,?_,?_⟩
 ·have E1:Ext H1 (upd H1 p (.lst [])):=.laid hp;exact⟨S.items.length,uS own js τ,G1,[],((RS.ext (S1.ext RG)).cmp own js).ext E1,R1.laid hp,S1.trans (.laid hp),E1,cw,hGp,.nil,by simpa using q1,by lia,aK _⟩
 rintro i m ys σ' H' ⟨τ',G',acc,RS',RG',S',E',hpl,hG',hacc,q,hm,hy⟩;refine⟨hpl,?_⟩;by_cases hlt:i<S.items.length
 ·have hd:S.items.drop i=S.items[i]::S.items.drop (i+1):=cB hlt;have hget:S.items[i]?=some S.items[i]:=aU hlt;rw[hd] at q;obtain⟨hgd,q⟩:=q;obtain⟨z1,z2⟩:=ok.go i _ H' G' E' RG' hgd hget;refine .inr ⟨z1,by lia,fun x H2 hyl=>?_⟩;obtain⟨y1,y2,y3⟩:=z2 x H2 hyl
  -- what is not in G stays
  have keep:∀{Ha Hb:Hp} {Ga Gb:Gp},Step Ha Ga Hb Gb->Ha p=some (.lst ys)->Ga p=none->Hb p=some (.lst ys)/\Gb p=none:=fun {Ha Hb Ga Gb} st e n=>by
   refine⟨st.fr p _ e n,?_⟩;refine dj fun z=>?_;rw[st.new p n z] at e;cases e
  obtain⟨p2,n2⟩:=keep y2 hpl hG';refine⟨S.items[i],τ',G',_,y1,RS'.ext (y2.ext RG'),y3,q,fun τ3 σ3 G3 H3 b1 b2 b3 b4=>?_⟩;obtain⟨p3,n3⟩:=keep b2 p2 n2;refine⟨τ3,G3,_,b1,b3,b4,fun bb H4 G4 c1 c2 c3=>?_⟩;obtain⟨p4,n4⟩:=keep c1 p3 n3;have E4:Ext H' H4:=((y2.ext RG').trans (b2.ext y3)).trans (c1.ext b3);have S4:Step H G H4 G4:=((S'.trans y2).trans b2).trans c1;have RS4:=b1.ext (c1.ext b3);refine Br.ite c3 (fun c3=>?_) fun c3=>?_
  ·refine⟨τ3,G4,_,RS4,c2,c3,fun v H5 d G5 e1 e2 e3 e4=>?_⟩;obtain⟨p5,n5⟩:=keep e2 p4 n4;refine⟨p5,m-1,by lia,τ3,G5,acc++[d],?_,?_,?_,?_,cw,n5,?_,e4,by lia,by rw[ξ];simp;lia⟩
   ·exact (RS4.ext (e2.ext c2)).ext (.wrote p5)
   ·intro a o e;have hne:a≠p:=fun z=>by
     rw[z,n5] at e;cases e
    exact (e3 a o e).ext (.wrote p5) (bD hne)
   ·refine⟨fun a o e n=>?_,fun a q=>?_,fun a n q=>((S4.trans e2).new a n q)⟩
    ·by_cases hne:a=p
     ·exfalso;rw[hne] at e n;have hh:=S1.fr p o e n;rw[hp] at hh;cases hh
     ·rw[bD hne];exact (S4.trans e2).fr a o e n
    ·by_cases hne:a=p
     ·rw[hne,cw];simp
     ·rw[bD hne];exact (S4.trans e2).kM a q
   ·exact ((E'.trans E4).trans (e2.ext c2)).trans (.wrote p5)
   ·have E5:Ext H' (upd H5 p (.lst (ys++[v]))):=(E4.trans (e2.ext c2)).trans (.wrote p5);exact (hacc.ext E5).append (.cons (e1.ext (.wrote p5)) .nil)
  ·exact⟨m-1,by lia,τ3,G4,acc,RS4,c2,S4,E'.trans E4,p4,n4,hacc.ext E4,c3,by lia,by lia⟩
 ·have hd:S.items.drop i=[]:=dZ (by lia);rw[hd] at q;refine .inl ⟨ok.stop i H' G' E' RG' q.1 (by lia),?_⟩;refine k _ H' (.obj p) (dM G' p (.lst acc)) (by simp[Hv]) ?_ ?_ (q.2 p _ (.mk' hG'))
  ·refine⟨S'.fr,S'.kM,fun a n z=>?_⟩;by_cases hne:a=p
   ·rw[hne];cases hh:H p with
    |none=>rfl
    |some o=>
     exfalso;rw[hne] at n;have:=S1.fr p o hh n;rw[hp] at this;cases this
   ·rw[dJ hne] at z;exact S'.new a n z
  ·intro a o e;by_cases hne:a=p
   ·rw[hne,df] at e;cases e;rw[hne];exact⟨ys,hpl,hacc⟩
   ·rw[dJ hne] at e;exact RG' a o e
theorem HV{elt:μ}{ifs:List μ}{scope:fq}{own:List χ}{js:List Nat}{ti:kr}{g:fV}{tc:bV}{te:aL}(hc:X.calm=true)(C:cN X.N X.env.scope scope own js)(hi:sN X tg iter ti)
  (hb:∀s H fp,qX (X.cmp scope own js s H fp) tg g/\pP (X.cmp scope own js s H fp) ifs (mO X.K tc)/\b0 (X.cmp scope own js s H fp) elt te)
  (hs:∀x,foldedSetIterable iter X.env x=pure x:=by intro _;rfl):b0 X (.ListComp elt [⟨tg,iter,ifs,0⟩] scope pos) (fm own js ti g tc te):=
 fb (DR hc C hi hb hs) fun σ H Q h=>uF h
theorem y6{elt:μ}{ifs:List μ}{scope:fq}{own:List χ}{js:List Nat}{ti:kr}{g:fV}{tc:bV}{te:aL}{i:Nat}{y:χ}{py spos:aG}(hc:X.calm=true)(hN:X.N.Nodup)(C:cN X.N X.env.scope scope own js)(hi:sN X tg iter ti)
  (hb:∀s H fp,qX (X.cmp scope own js s H fp) tg g/\pP (X.cmp scope own js s H fp) ifs (mO X.K tc)/\b0 (X.cmp scope own js s H fp) elt te) (hy:X.N[i]?=some y:=by rfl) (hyl:X.env.scope.names.lookup y=some .local:=by rfl)
  (zI:swapsWith (.ListComp elt [⟨tg,iter,ifs,0⟩] scope pos) (some (.Name y py)) spos.line X.env=pure true:=by rfl)
  (hs:∀x,foldedSetIterable iter X.env x=pure x:=by intro _;rfl):mj X (.Assign [.Name y py] (.ListComp elt [⟨tg,iter,ifs,0⟩] scope pos) spos) (da (fm own js ti g tc te) (hName i)):=
 jb (w8 hc hN hy hyl C hi hb zI hs) fun D2 σ H ⟨τ,G,D3,RS,RG,h,k⟩=>
  uF ⟨τ,G,_,RS,RG,h,fun v H1 d G1 h1 S1 R1 q1=>k.nx _ _ G1 H1 ((RS.ext (S1.ext RG)).set h1) S1 R1 q1⟩
theorem zN{guard:Gp->Prop}{g:fV}{tb:aP}{D3:jQ}(I:List D->S3->Gp->Prop)(hg:∀ds τ G,I ds τ G->guard G)
  (step:∀d ds τ G,I (d::ds) τ G->g d τ G fun τ2 G2=>tb { D3 with nx:=I ds,ct:=I ds,bk:=D3.nx } τ2 G2) (kl:∀τ G,I [] τ G->D3.nx τ G)
  (mono:∀(N N':S3->Gp->Prop),(∀τ G,N τ G->N' τ G)->∀d τ G,(g d τ G fun τ2 G2=>tb { D3 with nx:=N,ct:=N,bk:=D3.nx } τ2 G2)->g d τ G fun τ2 G2=>tb { D3 with nx:=N',ct:=N',bk:=D3.nx } τ2 G2):
  ∀ds τ G,I ds τ G->jd guard g tb D3 ds τ G
 |[],τ,G,h=>⟨hg _ _ _ h,kl _ _ h⟩
 |d::ds,τ,G,h=>⟨hg _ _ _ h,mono (I ds) _ (fun τ G q=>zN I hg step kl mono ds τ G q) d τ G (step d ds τ G h)⟩
theorem fz{guard:Gp->Prop}{g:fV}{tb:aP}{D3:jQ}(I:List D->S3->Gp->Prop)(hg:∀ds τ G,I ds τ G->guard G)
  (step:∀d ds τ G (N:S3->Gp->Prop),I (d::ds) τ G->(∀τ' G',I ds τ' G'->N τ' G')->g d τ G fun τ2 G2=>tb { D3 with nx:=N,ct:=N,bk:=D3.nx } τ2 G2) (kl:∀τ G,I [] τ G->D3.nx τ G):
  ∀ds τ G,I ds τ G->jd guard g tb D3 ds τ G
 |[],τ,G,h=>⟨hg _ _ _ h,kl _ _ h⟩
 |d::ds,τ,G,h=>⟨hg _ _ _ h,step d ds τ G _ h fun τ' G' q=>fz I hg step kl ds τ' G' q⟩
end
end L3
namespace Dat
open PySem PySem.SeqAt
inductive D where
 |ak|bl (b:Bool)|int (i:Int)|str (x:χ)|tup (xs:List D)|lst (xs:List D)|gg
mutual
def D.cq:D->D->Bool
 |.ak,.ak=>true
 |.bl a,.bl b=>a==b
 |.bl a,.int b=>(if a then 1 else 0)==b
 |.int a,.bl b=>a==(if b then 1 else 0)
 |.int a,.int b=>a==b
 |.str a,.str b=>a==b
 |.tup xs,.tup ys=>gE xs ys
 |.lst xs,.lst ys=>gE xs ys
 |_,_=>false
def gE:List D->List D->Bool
 |[],[]=>true
 |x::xs,y::ys=>x.cq y&&gE xs ys
 |_,_=>false
end
mutual
def D.gT:D->Nat
 |.tup xs=>dE xs+1
 |.lst xs=>dE xs+1
 |_=>0
def dE:List D->Nat
 |[]=>0
 |x::xs=>max x.gT (dE xs)
end
theorem gR{d:D}:∀{xs:List D},d∈xs->d.gT≤dE xs
 |x::xs,h=>by
  unfold dE;rcases bf.mp h with e|e
  ·rw[e];exact Nat.le_max_left _ _
  ·exact aD (gR e) (Nat.le_max_right _ _)
mutual
def Hv(h:az):D->γ->Prop
 |.ak,u=>u=.none
 |.bl b,u=>u=.bool b
 |.int i,u=>∃t,u=.int i t
 |.str x,u=>∃t,u=.str x t
 |.tup ds,u=>∃(a:ζ) (its:List γ),u=.ref a/\h.IsTuple a its.toArray/\aB h ds its
 |.lst ds,u=>∃(a:ζ) (its:List γ),u=.ref a/\h.IsList a its.toArray/\aB h ds its
 |.gg,_=>False
def aB(h:az):List D->List γ->Prop
 |[],us=>us=[]
 |d::ds,us=>∃u r,us=u::r/\Hv h d u/\aB h ds r
end
theorem aB.length{h:az}:∀{ds:List D} {us:List γ},aB h ds us->us.length=ds.length
 |[],us,e=>by
  unfold aB at e;rw[e];rfl
 |d::ds,us,e=>by
  unfold aB at e;obtain⟨u,r,rfl,_,e2⟩:=e;rw[aI,aI,e2.length]
theorem aB.get{h:az}:∀{ds:List D} {us:List γ} {j:Nat} {d:D} {u:γ},aB h ds us->ds[j]?=some d->us[j]?=some u->Hv h d u
 |[],_,_,_,_,_,e,_=>by simp at e
 |d::ds,us,0,_,_,q,e1,e2=>by
  unfold aB at q;obtain⟨u,r,rfl,q1,_⟩:=q;simp at e1 e2;rw[←e1,←e2];exact q1
 |d::ds,us,j+1,_,_,q,e1,e2=>by
  unfold aB at q;obtain⟨u,r,rfl,_,q2⟩:=q;exact q2.get (j:=j) (by simpa using e1) (by simpa using e2)
theorem vS{h:az}{a:ζ}{xs ys:Array γ}(hl:h.IsList a xs)(ht:h.IsTuple a ys):False:=by
 obtain⟨o,ho,hc,_⟩:=hl;obtain⟨o',ho',hc',_⟩:=ht;rw[ho] at ho';cases ho';rw[hc] at hc';exact absurd hc' (by decide)
mutual
theorem Hv.inj{h:az}:∀{d e:D} {u:γ},Hv h d u->Hv h e u->d=e
 |d,e,u,p,q=>by
  cases d with
  |ak=>unfold Hv at p;subst p;cases e<;>unfold Hv at q<;>first|rfl|(simp at q)
  |bl b=>unfold Hv at p;subst p;cases e<;>unfold Hv at q<;>first|(simp at q;rw[q])|(simp at q)
  |int b=>unfold Hv at p;obtain⟨t,rfl⟩:=p;cases e<;>unfold Hv at q<;>first|(simp at q;rw[q])|(simp at q)
  |str b=>unfold Hv at p;obtain⟨t,rfl⟩:=p;cases e<;>unfold Hv at q<;>first|(simp at q;rw[q])|(simp at q)
  |gg=>unfold Hv at p;exact p.elim
  |tup ds=>
   unfold Hv at p;obtain⟨a,its,rfl,ha,p⟩:=p;cases e with
   |tup es=>
    unfold Hv at q;obtain⟨a',its',e1,ha',q⟩:=q;cases e1;have e2:its=its':=by
     obtain⟨o,ho,_,n,hd⟩:=ha;obtain⟨o',ho',_,n',hd'⟩:=ha';rw[ho] at ho';cases ho';rw[hd] at hd';injection hd' with e3 _
     simpa using congrArg kJ e3
    subst e2;rw[aB.inj p q]
   |lst es=>
    unfold Hv at q;obtain⟨a',its',e1,ha',q⟩:=q;cases e1;exact (vS ha' ha).elim
   |_=>unfold Hv at q<;>simp at q
  |lst ds=>
   unfold Hv at p;obtain⟨a,its,rfl,ha,p⟩:=p;cases e with
   |lst es=>
    unfold Hv at q;obtain⟨a',its',e1,ha',q⟩:=q;cases e1;have e2:its=its':=by
     obtain⟨o,ho,_,n,hd⟩:=ha;obtain⟨o',ho',_,n',hd'⟩:=ha';rw[ho] at ho';cases ho';rw[hd] at hd';injection hd' with e3 _
     simpa using congrArg kJ e3
    subst e2;rw[aB.inj p q]
   |tup es=>
    unfold Hv at q;obtain⟨a',its',e1,ha',q⟩:=q;cases e1;exact (vS ha ha').elim
   |_=>unfold Hv at q<;>simp at q
theorem aB.inj{h:az}:∀{ds es:List D} {us:List γ},aB h ds us->aB h es us->ds=es
 |[],[],_,_,_=>rfl
 |[],e::es,us,p,q=>by
  unfold aB at p q;subst p;obtain⟨_,_,e1,_⟩:=q;cases e1
 |d::ds,[],us,p,q=>by
  unfold aB at p q;subst q;obtain⟨_,_,e1,_⟩:=p;cases e1
 |d::ds,e::es,us,p,q=>by
  unfold aB at p q;obtain⟨u,r,rfl,p1,p2⟩:=p;obtain⟨u',r',e1,q1,q2⟩:=q;cases e1;rw[Hv.inj p1 q1,aB.inj p2 q2]
end
theorem hV:∀(ds es:List D),((aS (min ds.length es.length)).all (fun j=>(ds.getD j .ak).cq (es.getD j .ak))&&ds.length==es.length)=gE ds es
 |[],[]=>by simp[gE]
 |[],e::es=>by simp[gE]
 |d::ds,[]=>by simp[gE]
 |d::ds,e::es=>by
  have ih:=hV ds es;unfold gE;rw[←ih];rw[aI,aI,show min (ds.length+1) (es.length+1)=min ds.length es.length+1 by lia,lD,List.all_cons,List.all_map];have e1:((ds.length+1==es.length+1):Bool)=(ds.length==es.length):=by simp
  rw[e1,Bool.and_assoc];rfl
theorem mU:∀(ds es:List D),ds.length≠es.length->gE ds es=false
 |[],[],h=>absurd rfl h
 |[],e::es,_=>rfl
 |d::ds,[],_=>rfl
 |d::ds,e::es,h=>by
  unfold gE;rw[mU ds es (by simpa using h),Bool.and_false]
mutual
theorem Hv.refl{h:az}:∀{d:D} {u:γ},Hv h d u->d.cq d=true
 |.ak,_,_=>rfl
 |.bl b,_,_=>by unfold D.cq;simp
 |.int b,_,_=>by unfold D.cq;simp
 |.str b,_,_=>by unfold D.cq;simp
 |.gg,_,p=>by unfold Hv at p;exact p.elim
 |.tup ds,_,p=>by
  unfold Hv at p;obtain⟨_,_,_,_,p⟩:=p;unfold D.cq;exact aB.refl p
 |.lst ds,_,p=>by
  unfold Hv at p;obtain⟨_,_,_,_,p⟩:=p;unfold D.cq;exact aB.refl p
theorem aB.refl{h:az}:∀{ds:List D} {us:List γ},aB h ds us->gE ds ds=true
 |[],_,_=>rfl
 |d::ds,us,p=>by
  unfold aB at p;obtain⟨u,r,_,p1,p2⟩:=p;unfold gE;rw[Hv.refl p1,aB.refl p2];rfl
end
theorem b8{h:az}{ds:List D}{us:List γ}(p:aB h ds us){j:Nat}(hj:j<us.toArray.size):Hv h (ds.getD j .ak) (us.toArray[j])/\ds.getD j .ak∈ds:=by
 have hl:=p.length;have hj':j<ds.length:=by simp at hj;lia
 have e1:ds[j]?=some (ds.getD j .ak):=by simp[hj']
 exact⟨p.get e1 (by simp at hj;simp[hj]),gd e1⟩
theorem oz{s:ε}:∀(d e:D) (u v:γ) (A:aZ),Hv s.heap d u->Hv s.heap e v->A.units+d.gT+1<cLine->EqAt A s u v (d.cq e)
 |.ak,.ak,u,v,A,p1,p2,hu=>by
  unfold Hv at p1;subst p1;unfold Hv at p2;subst p2;exact EqAt.same _
 |.ak,.bl b2,u,v,A,p1,p2,hu=>by
  unfold Hv at p1;subst p1;unfold Hv at p2;subst p2;exact EqAt.none_bool  b2
 |.ak,.int b2,u,v,A,p1,p2,hu=>by
  unfold Hv at p1;subst p1;unfold Hv at p2;obtain⟨t2,rfl⟩:=p2;exact EqAt.none_int  b2 t2
 |.ak,.str b2,u,v,A,p1,p2,hu=>by
  unfold Hv at p1;subst p1;unfold Hv at p2;obtain⟨t2,rfl⟩:=p2;exact EqAt.none_str  b2 t2
 |.ak,.tup ds2,u,v,A,p1,p2,hu=>by
  unfold Hv at p1;subst p1;unfold Hv at p2;obtain⟨a2,its2,rfl,l2,p2⟩:=p2;exact EqAt.none_tuple  l2 (by lia)
 |.ak,.lst ds2,u,v,A,p1,p2,hu=>by
  unfold Hv at p1;subst p1;unfold Hv at p2;obtain⟨a2,its2,rfl,l2,p2⟩:=p2;exact EqAt.none_list  l2 (by lia)
 |.bl b1,.ak,u,v,A,p1,p2,hu=>by
  unfold Hv at p1;subst p1;unfold Hv at p2;subst p2;exact EqAt.bool_none b1
 |.bl b1,.bl b2,u,v,A,p1,p2,hu=>by
  unfold Hv at p1;subst p1;unfold Hv at p2;subst p2;exact EqAt.bool_bool b1 b2
 |.bl b1,.int b2,u,v,A,p1,p2,hu=>by
  unfold Hv at p1;subst p1;unfold Hv at p2;obtain⟨t2,rfl⟩:=p2;exact EqAt.bool_int b1 b2 t2
 |.bl b1,.str b2,u,v,A,p1,p2,hu=>by
  unfold Hv at p1;subst p1;unfold Hv at p2;obtain⟨t2,rfl⟩:=p2;exact EqAt.bool_str b1 b2 t2
 |.bl b1,.tup ds2,u,v,A,p1,p2,hu=>by
  unfold Hv at p1;subst p1;unfold Hv at p2;obtain⟨a2,its2,rfl,l2,p2⟩:=p2;exact EqAt.bool_tuple b1 l2 (by lia)
 |.bl b1,.lst ds2,u,v,A,p1,p2,hu=>by
  unfold Hv at p1;subst p1;unfold Hv at p2;obtain⟨a2,its2,rfl,l2,p2⟩:=p2;exact EqAt.bool_list b1 l2 (by lia)
 |.int b1,.ak,u,v,A,p1,p2,hu=>by
  unfold Hv at p1;obtain⟨t1,rfl⟩:=p1;unfold Hv at p2;subst p2;exact EqAt.int_none b1 t1
 |.int b1,.bl b2,u,v,A,p1,p2,hu=>by
  unfold Hv at p1;obtain⟨t1,rfl⟩:=p1;unfold Hv at p2;subst p2;exact EqAt.int_bool b1 t1 b2
 |.int b1,.int b2,u,v,A,p1,p2,hu=>by
  unfold Hv at p1;obtain⟨t1,rfl⟩:=p1;unfold Hv at p2;obtain⟨t2,rfl⟩:=p2;exact EqAt.int_int b1 t1 b2 t2
 |.int b1,.str b2,u,v,A,p1,p2,hu=>by
  unfold Hv at p1;obtain⟨t1,rfl⟩:=p1;unfold Hv at p2;obtain⟨t2,rfl⟩:=p2;exact EqAt.int_str b1 t1 b2 t2
 |.int b1,.tup ds2,u,v,A,p1,p2,hu=>by
  unfold Hv at p1;obtain⟨t1,rfl⟩:=p1;unfold Hv at p2;obtain⟨a2,its2,rfl,l2,p2⟩:=p2;exact EqAt.int_tuple b1 t1 l2 (by lia)
 |.int b1,.lst ds2,u,v,A,p1,p2,hu=>by
  unfold Hv at p1;obtain⟨t1,rfl⟩:=p1;unfold Hv at p2;obtain⟨a2,its2,rfl,l2,p2⟩:=p2;exact EqAt.int_list b1 t1 l2 (by lia)
 |.str b1,.ak,u,v,A,p1,p2,hu=>by
  unfold Hv at p1;obtain⟨t1,rfl⟩:=p1;unfold Hv at p2;subst p2;exact EqAt.str_none b1 t1
 |.str b1,.bl b2,u,v,A,p1,p2,hu=>by
  unfold Hv at p1;obtain⟨t1,rfl⟩:=p1;unfold Hv at p2;subst p2;exact EqAt.str_bool b1 t1 b2
 |.str b1,.int b2,u,v,A,p1,p2,hu=>by
  unfold Hv at p1;obtain⟨t1,rfl⟩:=p1;unfold Hv at p2;obtain⟨t2,rfl⟩:=p2;exact EqAt.str_int b1 t1 b2 t2
 |.str b1,.str b2,u,v,A,p1,p2,hu=>by
  unfold Hv at p1;obtain⟨t1,rfl⟩:=p1;unfold Hv at p2;obtain⟨t2,rfl⟩:=p2;exact EqAt.str_str b1 t1 b2 t2
 |.str b1,.tup ds2,u,v,A,p1,p2,hu=>by
  unfold Hv at p1;obtain⟨t1,rfl⟩:=p1;unfold Hv at p2;obtain⟨a2,its2,rfl,l2,p2⟩:=p2;exact EqAt.str_tuple b1 t1 l2 (by lia)
 |.str b1,.lst ds2,u,v,A,p1,p2,hu=>by
  unfold Hv at p1;obtain⟨t1,rfl⟩:=p1;unfold Hv at p2;obtain⟨a2,its2,rfl,l2,p2⟩:=p2;exact EqAt.str_list b1 t1 l2 (by lia)
 |.tup ds1,.ak,u,v,A,p1,p2,hu=>by
  unfold Hv at p1;obtain⟨a1,its1,rfl,l1,p1⟩:=p1;unfold Hv at p2;subst p2;exact EqAt.tuple_none  l1 (by lia)
 |.tup ds1,.bl b2,u,v,A,p1,p2,hu=>by
  unfold Hv at p1;obtain⟨a1,its1,rfl,l1,p1⟩:=p1;unfold Hv at p2;subst p2;exact EqAt.tuple_bool b2 l1 (by lia)
 |.tup ds1,.int b2,u,v,A,p1,p2,hu=>by
  unfold Hv at p1;obtain⟨a1,its1,rfl,l1,p1⟩:=p1;unfold Hv at p2;obtain⟨t2,rfl⟩:=p2;exact EqAt.tuple_int b2 t2 l1 (by lia)
 |.tup ds1,.str b2,u,v,A,p1,p2,hu=>by
  unfold Hv at p1;obtain⟨a1,its1,rfl,l1,p1⟩:=p1;unfold Hv at p2;obtain⟨t2,rfl⟩:=p2;exact EqAt.tuple_str b2 t2 l1 (by lia)
 |.tup ds1,.tup ds2,u,v,A,p1,p2,hu=>by
  unfold Hv at p1;obtain⟨a1,its1,rfl,l1,p1⟩:=p1;unfold Hv at p2;obtain⟨a2,its2,rfl,l2,p2⟩:=p2;unfold D.cq;by_cases ha:a1=a2
  ·subst ha;have e0:(.tup ds1:D)=.tup ds2:=Hv.inj (h:=s.heap) (u:=.ref a1) (by unfold Hv;exact⟨a1,its1,rfl,l1,p1⟩) (by unfold Hv;exact⟨a1,its2,rfl,l2,p2⟩);injection e0 with e0;subst e0;rw[p1.refl];exact EqAt.same _
  ·refine EqAt.of_refs ha ?_;have hdep:A.units+dE ds1+1+1<cLine:=by
    have e9:(.tup ds1:D).gT=dE ds1+1:=by first|rfl|(unfold D.gT;rfl)
    lia
   have q:=RcAt.tuples (e:=fun j=>(ds1.getD j .ak).cq (ds2.getD j .ak)) l1 l2 (by lia) fun j h1 h2=>
    have m:=(b8 p1 h1).2
    oz (ds1.getD j .ak) (ds2.getD j .ak) _ _ A.in1 (b8 p1 h1).1 (b8 p2 h2).1 (by
     have:=gR m;show A.units+1+_+1<cLine;lia)
   rw[ο,ο,p1.length,p2.length,hV] at q;exact q
 |.tup ds1,.lst ds2,u,v,A,p1,p2,hu=>by
  unfold Hv at p1;obtain⟨a1,its1,rfl,l1,p1⟩:=p1;unfold Hv at p2;obtain⟨a2,its2,rfl,l2,p2⟩:=p2;exact EqAt.tuple_list l1 l2 (by lia)
 |.lst ds1,.ak,u,v,A,p1,p2,hu=>by
  unfold Hv at p1;obtain⟨a1,its1,rfl,l1,p1⟩:=p1;unfold Hv at p2;subst p2;exact EqAt.list_none  l1 (by lia)
 |.lst ds1,.bl b2,u,v,A,p1,p2,hu=>by
  unfold Hv at p1;obtain⟨a1,its1,rfl,l1,p1⟩:=p1;unfold Hv at p2;subst p2;exact EqAt.list_bool b2 l1 (by lia)
 |.lst ds1,.int b2,u,v,A,p1,p2,hu=>by
  unfold Hv at p1;obtain⟨a1,its1,rfl,l1,p1⟩:=p1;unfold Hv at p2;obtain⟨t2,rfl⟩:=p2;exact EqAt.list_int b2 t2 l1 (by lia)
 |.lst ds1,.str b2,u,v,A,p1,p2,hu=>by
  unfold Hv at p1;obtain⟨a1,its1,rfl,l1,p1⟩:=p1;unfold Hv at p2;obtain⟨t2,rfl⟩:=p2;exact EqAt.list_str b2 t2 l1 (by lia)
 |.lst ds1,.tup ds2,u,v,A,p1,p2,hu=>by
  unfold Hv at p1;obtain⟨a1,its1,rfl,l1,p1⟩:=p1;unfold Hv at p2;obtain⟨a2,its2,rfl,l2,p2⟩:=p2;exact EqAt.list_tuple l1 l2 (by lia)
 |.lst ds1,.lst ds2,u,v,A,p1,p2,hu=>by
  unfold Hv at p1;obtain⟨a1,its1,rfl,l1,p1⟩:=p1;unfold Hv at p2;obtain⟨a2,its2,rfl,l2,p2⟩:=p2;unfold D.cq;by_cases ha:a1=a2
  ·subst ha;have e0:(.lst ds1:D)=.lst ds2:=Hv.inj (h:=s.heap) (u:=.ref a1) (by unfold Hv;exact⟨a1,its1,rfl,l1,p1⟩) (by unfold Hv;exact⟨a1,its2,rfl,l2,p2⟩);injection e0 with e0;subst e0;rw[p1.refl];exact EqAt.same _
  ·refine EqAt.of_refs ha ?_;have hdep:A.units+dE ds1+1+1<cLine:=by
    have e9:(.lst ds1:D).gT=dE ds1+1:=by first|rfl|(unfold D.gT;rfl)
    lia
   by_cases hn:ds1.length=ds2.length
   ·have q:=RcAt.lists (e:=fun j=>(ds1.getD j .ak).cq (ds2.getD j .ak)) l1 l2 (by simp[p1.length,p2.length,hn]) (by lia) fun j h1 h2=>
     have m:=(b8 p1 h1).2
     oz (ds1.getD j .ak) (ds2.getD j .ak) _ _ A.in1 (b8 p1 h1).1 (b8 p2 h2).1 (by
      have:=gR m;show A.units+1+_+1<cLine;lia)
    have q2:=hV ds1 ds2;rw[hn,oM,beq_self_eq_true,jD] at q2;rw[ο,p1.length,hn,q2] at q;exact q
   ·rw[mU _ _ hn];exact oH l1 l2 (by simp[p1.length,p2.length,hn]) (by lia)
 |.ak,.gg,u,v,A,p1,p2,hu=>by
  unfold Hv at p2;exact p2.elim
 |.bl b1,.gg,u,v,A,p1,p2,hu=>by
  unfold Hv at p2;exact p2.elim
 |.int b1,.gg,u,v,A,p1,p2,hu=>by
  unfold Hv at p2;exact p2.elim
 |.str b1,.gg,u,v,A,p1,p2,hu=>by
  unfold Hv at p2;exact p2.elim
 |.tup ds1,.gg,u,v,A,p1,p2,hu=>by
  unfold Hv at p2;exact p2.elim
 |.lst ds1,.gg,u,v,A,p1,p2,hu=>by
  unfold Hv at p2;exact p2.elim
 |.gg,e,u,v,A,p1,p2,hu=>by
  unfold Hv at p1;exact p1.elim
termination_by d=>sizeOf d
decreasing_by
 all_goals (have:=List.sizeOf_lt_of_mem m;first|(rw[D.tup.sizeOf_spec];lia)|(rw[D.lst.sizeOf_spec];lia))
theorem KW{s:ε}(d e:D)(u v:γ)(A:aZ)(p1:Hv s.heap d u)(p2:Hv s.heap e v)(hu:A.units+d.gT+1<cLine):RcAt A s u v (d.cq e):=
 match d,e,p1,p2,hu with
 |.ak,.ak,p1,p2,hu=>by
  unfold Hv at p1;subst p1;unfold Hv at p2;subst p2;exact RcAt.none_none
 |.ak,.bl b2,p1,p2,hu=>by
  unfold Hv at p1;subst p1;unfold Hv at p2;subst p2;exact RcAt.none_bool  b2
 |.ak,.int b2,p1,p2,hu=>by
  unfold Hv at p1;subst p1;unfold Hv at p2;obtain⟨t2,rfl⟩:=p2;exact RcAt.none_int  b2 t2
 |.ak,.str b2,p1,p2,hu=>by
  unfold Hv at p1;subst p1;unfold Hv at p2;obtain⟨t2,rfl⟩:=p2;exact RcAt.none_str  b2 t2
 |.ak,.tup ds2,p1,p2,hu=>by
  unfold Hv at p1;subst p1;unfold Hv at p2;obtain⟨a2,its2,rfl,l2,p2⟩:=p2;exact RcAt.none_tuple  l2 (by lia)
 |.ak,.lst ds2,p1,p2,hu=>by
  unfold Hv at p1;subst p1;unfold Hv at p2;obtain⟨a2,its2,rfl,l2,p2⟩:=p2;exact RcAt.none_list  l2 (by lia)
 |.bl b1,.ak,p1,p2,hu=>by
  unfold Hv at p1;subst p1;unfold Hv at p2;subst p2;exact RcAt.bool_none b1
 |.bl b1,.bl b2,p1,p2,hu=>by
  unfold Hv at p1;subst p1;unfold Hv at p2;subst p2;exact RcAt.bool_bool b1 b2
 |.bl b1,.int b2,p1,p2,hu=>by
  unfold Hv at p1;subst p1;unfold Hv at p2;obtain⟨t2,rfl⟩:=p2;exact RcAt.bool_int b1 b2 t2
 |.bl b1,.str b2,p1,p2,hu=>by
  unfold Hv at p1;subst p1;unfold Hv at p2;obtain⟨t2,rfl⟩:=p2;exact RcAt.bool_str b1 b2 t2
 |.bl b1,.tup ds2,p1,p2,hu=>by
  unfold Hv at p1;subst p1;unfold Hv at p2;obtain⟨a2,its2,rfl,l2,p2⟩:=p2;exact RcAt.bool_tuple b1 l2 (by lia)
 |.bl b1,.lst ds2,p1,p2,hu=>by
  unfold Hv at p1;subst p1;unfold Hv at p2;obtain⟨a2,its2,rfl,l2,p2⟩:=p2;exact RcAt.bool_list b1 l2 (by lia)
 |.int b1,.ak,p1,p2,hu=>by
  unfold Hv at p1;obtain⟨t1,rfl⟩:=p1;unfold Hv at p2;subst p2;exact RcAt.int_none b1 t1
 |.int b1,.bl b2,p1,p2,hu=>by
  unfold Hv at p1;obtain⟨t1,rfl⟩:=p1;unfold Hv at p2;subst p2;exact RcAt.int_bool b1 t1 b2
 |.int b1,.int b2,p1,p2,hu=>by
  unfold Hv at p1;obtain⟨t1,rfl⟩:=p1;unfold Hv at p2;obtain⟨t2,rfl⟩:=p2;exact RcAt.int_int b1 t1 b2 t2
 |.int b1,.str b2,p1,p2,hu=>by
  unfold Hv at p1;obtain⟨t1,rfl⟩:=p1;unfold Hv at p2;obtain⟨t2,rfl⟩:=p2;exact RcAt.int_str b1 t1 b2 t2
 |.int b1,.tup ds2,p1,p2,hu=>by
  unfold Hv at p1;obtain⟨t1,rfl⟩:=p1;unfold Hv at p2;obtain⟨a2,its2,rfl,l2,p2⟩:=p2;exact RcAt.int_tuple b1 t1 l2 (by lia)
 |.int b1,.lst ds2,p1,p2,hu=>by
  unfold Hv at p1;obtain⟨t1,rfl⟩:=p1;unfold Hv at p2;obtain⟨a2,its2,rfl,l2,p2⟩:=p2;exact RcAt.int_list b1 t1 l2 (by lia)
 |.str b1,.ak,p1,p2,hu=>by
  unfold Hv at p1;obtain⟨t1,rfl⟩:=p1;unfold Hv at p2;subst p2;exact RcAt.str_none b1 t1
 |.str b1,.bl b2,p1,p2,hu=>by
  unfold Hv at p1;obtain⟨t1,rfl⟩:=p1;unfold Hv at p2;subst p2;exact RcAt.str_bool b1 t1 b2
 |.str b1,.int b2,p1,p2,hu=>by
  unfold Hv at p1;obtain⟨t1,rfl⟩:=p1;unfold Hv at p2;obtain⟨t2,rfl⟩:=p2;exact RcAt.str_int b1 t1 b2 t2
 |.str b1,.str b2,p1,p2,hu=>by
  unfold Hv at p1;obtain⟨t1,rfl⟩:=p1;unfold Hv at p2;obtain⟨t2,rfl⟩:=p2;exact RcAt.str_str b1 t1 b2 t2
 |.str b1,.tup ds2,p1,p2,hu=>by
  unfold Hv at p1;obtain⟨t1,rfl⟩:=p1;unfold Hv at p2;obtain⟨a2,its2,rfl,l2,p2⟩:=p2;exact RcAt.str_tuple b1 t1 l2 (by lia)
 |.str b1,.lst ds2,p1,p2,hu=>by
  unfold Hv at p1;obtain⟨t1,rfl⟩:=p1;unfold Hv at p2;obtain⟨a2,its2,rfl,l2,p2⟩:=p2;exact RcAt.str_list b1 t1 l2 (by lia)
 |.tup ds1,.ak,p1,p2,hu=>by
  unfold Hv at p1;obtain⟨a1,its1,rfl,l1,p1⟩:=p1;unfold Hv at p2;subst p2;exact RcAt.tuple_none  l1 (by lia)
 |.tup ds1,.bl b2,p1,p2,hu=>by
  unfold Hv at p1;obtain⟨a1,its1,rfl,l1,p1⟩:=p1;unfold Hv at p2;subst p2;exact RcAt.tuple_bool b2 l1 (by lia)
 |.tup ds1,.int b2,p1,p2,hu=>by
  unfold Hv at p1;obtain⟨a1,its1,rfl,l1,p1⟩:=p1;unfold Hv at p2;obtain⟨t2,rfl⟩:=p2;exact RcAt.tuple_int b2 t2 l1 (by lia)
 |.tup ds1,.str b2,p1,p2,hu=>by
  unfold Hv at p1;obtain⟨a1,its1,rfl,l1,p1⟩:=p1;unfold Hv at p2;obtain⟨t2,rfl⟩:=p2;exact RcAt.tuple_str b2 t2 l1 (by lia)
 |.tup ds1,.tup ds2,p1,p2,hu=>by
  unfold Hv at p1;obtain⟨a1,its1,rfl,l1,p1⟩:=p1;unfold Hv at p2;obtain⟨a2,its2,rfl,l2,p2⟩:=p2;unfold D.cq;have hdep:A.units+dE ds1+1+1<cLine:=by
   have e9:(.tup ds1:D).gT=dE ds1+1:=by first|rfl|(unfold D.gT;rfl)
   lia
  have q:=RcAt.tuples (e:=fun j=>(ds1.getD j .ak).cq (ds2.getD j .ak)) l1 l2 (by lia) fun j h1 h2=>
   oz (ds1.getD j .ak) (ds2.getD j .ak) _ _ A.in1 (b8 p1 h1).1 (b8 p2 h2).1 (by
    have:=gR (b8 p1 h1).2;show A.units+1+_+1<cLine;lia)
  rw[ο,ο,p1.length,p2.length,hV] at q;exact q
 |.tup ds1,.lst ds2,p1,p2,hu=>by
  unfold Hv at p1;obtain⟨a1,its1,rfl,l1,p1⟩:=p1;unfold Hv at p2;obtain⟨a2,its2,rfl,l2,p2⟩:=p2;exact RcAt.tuple_list l1 l2 (by lia)
 |.lst ds1,.ak,p1,p2,hu=>by
  unfold Hv at p1;obtain⟨a1,its1,rfl,l1,p1⟩:=p1;unfold Hv at p2;subst p2;exact RcAt.list_none  l1 (by lia)
 |.lst ds1,.bl b2,p1,p2,hu=>by
  unfold Hv at p1;obtain⟨a1,its1,rfl,l1,p1⟩:=p1;unfold Hv at p2;subst p2;exact RcAt.list_bool b2 l1 (by lia)
 |.lst ds1,.int b2,p1,p2,hu=>by
  unfold Hv at p1;obtain⟨a1,its1,rfl,l1,p1⟩:=p1;unfold Hv at p2;obtain⟨t2,rfl⟩:=p2;exact RcAt.list_int b2 t2 l1 (by lia)
 |.lst ds1,.str b2,p1,p2,hu=>by
  unfold Hv at p1;obtain⟨a1,its1,rfl,l1,p1⟩:=p1;unfold Hv at p2;obtain⟨t2,rfl⟩:=p2;exact RcAt.list_str b2 t2 l1 (by lia)
 |.lst ds1,.tup ds2,p1,p2,hu=>by
  unfold Hv at p1;obtain⟨a1,its1,rfl,l1,p1⟩:=p1;unfold Hv at p2;obtain⟨a2,its2,rfl,l2,p2⟩:=p2;exact RcAt.list_tuple l1 l2 (by lia)
 |.lst ds1,.lst ds2,p1,p2,hu=>by
  unfold Hv at p1;obtain⟨a1,its1,rfl,l1,p1⟩:=p1;unfold Hv at p2;obtain⟨a2,its2,rfl,l2,p2⟩:=p2;unfold D.cq;have hdep:A.units+dE ds1+1+1<cLine:=by
   have e9:(.lst ds1:D).gT=dE ds1+1:=by first|rfl|(unfold D.gT;rfl)
   lia
  by_cases hn:ds1.length=ds2.length
  ·have q:=RcAt.lists (e:=fun j=>(ds1.getD j .ak).cq (ds2.getD j .ak)) l1 l2 (by simp[p1.length,p2.length,hn]) (by lia) fun j h1 h2=>
    oz (ds1.getD j .ak) (ds2.getD j .ak) _ _ A.in1 (b8 p1 h1).1 (b8 p2 h2).1 (by
     have:=gR (b8 p1 h1).2;show A.units+1+_+1<cLine;lia)
   have q2:=hV ds1 ds2;rw[hn,oM,beq_self_eq_true,jD] at q2;rw[ο,p1.length,hn,q2] at q;exact q
  ·rw[mU _ _ hn];exact oH l1 l2 (by simp[p1.length,p2.length,hn]) (by lia)
 |d,.gg,p1,p2,hu=>by
  unfold Hv at p2;exact p2.elim
 |.gg,e,p1,p2,hu=>by
  unfold Hv at p1;exact p1.elim
theorem KU{s:ε}(d e:D)(u v:γ)(A:aZ)(p1:Hv s.heap d u)(p2:Hv s.heap e v)(hu:A.units+d.gT+1<cLine):RcNeAt A s u v (!d.cq e):=
 match d,e,p1,p2,hu with
 |.ak,.ak,p1,p2,hu=>by
  unfold Hv at p1;subst p1;unfold Hv at p2;subst p2;exact RcNeAt.none_none
 |.ak,.bl b2,p1,p2,hu=>by
  unfold Hv at p1;subst p1;unfold Hv at p2;subst p2;exact RcNeAt.none_bool  b2
 |.ak,.int b2,p1,p2,hu=>by
  unfold Hv at p1;subst p1;unfold Hv at p2;obtain⟨t2,rfl⟩:=p2;exact RcNeAt.none_int  b2 t2
 |.ak,.str b2,p1,p2,hu=>by
  unfold Hv at p1;subst p1;unfold Hv at p2;obtain⟨t2,rfl⟩:=p2;exact RcNeAt.none_str  b2 t2
 |.ak,.tup ds2,p1,p2,hu=>by
  unfold Hv at p1;subst p1;unfold Hv at p2;obtain⟨a2,its2,rfl,l2,p2⟩:=p2;exact RcNeAt.none_tuple  l2 (by lia)
 |.ak,.lst ds2,p1,p2,hu=>by
  unfold Hv at p1;subst p1;unfold Hv at p2;obtain⟨a2,its2,rfl,l2,p2⟩:=p2;exact RcNeAt.none_list  l2 (by lia)
 |.bl b1,.ak,p1,p2,hu=>by
  unfold Hv at p1;subst p1;unfold Hv at p2;subst p2;exact RcNeAt.bool_none b1
 |.bl b1,.bl b2,p1,p2,hu=>by
  unfold Hv at p1;subst p1;unfold Hv at p2;subst p2;exact RcNeAt.bool_bool b1 b2
 |.bl b1,.int b2,p1,p2,hu=>by
  unfold Hv at p1;subst p1;unfold Hv at p2;obtain⟨t2,rfl⟩:=p2;exact RcNeAt.bool_int b1 b2 t2
 |.bl b1,.str b2,p1,p2,hu=>by
  unfold Hv at p1;subst p1;unfold Hv at p2;obtain⟨t2,rfl⟩:=p2;exact RcNeAt.bool_str b1 b2 t2
 |.bl b1,.tup ds2,p1,p2,hu=>by
  unfold Hv at p1;subst p1;unfold Hv at p2;obtain⟨a2,its2,rfl,l2,p2⟩:=p2;exact RcNeAt.bool_tuple b1 l2 (by lia)
 |.bl b1,.lst ds2,p1,p2,hu=>by
  unfold Hv at p1;subst p1;unfold Hv at p2;obtain⟨a2,its2,rfl,l2,p2⟩:=p2;exact RcNeAt.bool_list b1 l2 (by lia)
 |.int b1,.ak,p1,p2,hu=>by
  unfold Hv at p1;obtain⟨t1,rfl⟩:=p1;unfold Hv at p2;subst p2;exact RcNeAt.int_none b1 t1
 |.int b1,.bl b2,p1,p2,hu=>by
  unfold Hv at p1;obtain⟨t1,rfl⟩:=p1;unfold Hv at p2;subst p2;exact RcNeAt.int_bool b1 t1 b2
 |.int b1,.int b2,p1,p2,hu=>by
  unfold Hv at p1;obtain⟨t1,rfl⟩:=p1;unfold Hv at p2;obtain⟨t2,rfl⟩:=p2;exact RcNeAt.int_int b1 t1 b2 t2
 |.int b1,.str b2,p1,p2,hu=>by
  unfold Hv at p1;obtain⟨t1,rfl⟩:=p1;unfold Hv at p2;obtain⟨t2,rfl⟩:=p2;exact RcNeAt.int_str b1 t1 b2 t2
 |.int b1,.tup ds2,p1,p2,hu=>by
  unfold Hv at p1;obtain⟨t1,rfl⟩:=p1;unfold Hv at p2;obtain⟨a2,its2,rfl,l2,p2⟩:=p2;exact RcNeAt.int_tuple b1 t1 l2 (by lia)
 |.int b1,.lst ds2,p1,p2,hu=>by
  unfold Hv at p1;obtain⟨t1,rfl⟩:=p1;unfold Hv at p2;obtain⟨a2,its2,rfl,l2,p2⟩:=p2;exact RcNeAt.int_list b1 t1 l2 (by lia)
 |.str b1,.ak,p1,p2,hu=>by
  unfold Hv at p1;obtain⟨t1,rfl⟩:=p1;unfold Hv at p2;subst p2;exact RcNeAt.str_none b1 t1
 |.str b1,.bl b2,p1,p2,hu=>by
  unfold Hv at p1;obtain⟨t1,rfl⟩:=p1;unfold Hv at p2;subst p2;exact RcNeAt.str_bool b1 t1 b2
 |.str b1,.int b2,p1,p2,hu=>by
  unfold Hv at p1;obtain⟨t1,rfl⟩:=p1;unfold Hv at p2;obtain⟨t2,rfl⟩:=p2;exact RcNeAt.str_int b1 t1 b2 t2
 |.str b1,.str b2,p1,p2,hu=>by
  unfold Hv at p1;obtain⟨t1,rfl⟩:=p1;unfold Hv at p2;obtain⟨t2,rfl⟩:=p2;exact RcNeAt.str_str b1 t1 b2 t2
 |.str b1,.tup ds2,p1,p2,hu=>by
  unfold Hv at p1;obtain⟨t1,rfl⟩:=p1;unfold Hv at p2;obtain⟨a2,its2,rfl,l2,p2⟩:=p2;exact RcNeAt.str_tuple b1 t1 l2 (by lia)
 |.str b1,.lst ds2,p1,p2,hu=>by
  unfold Hv at p1;obtain⟨t1,rfl⟩:=p1;unfold Hv at p2;obtain⟨a2,its2,rfl,l2,p2⟩:=p2;exact RcNeAt.str_list b1 t1 l2 (by lia)
 |.tup ds1,.ak,p1,p2,hu=>by
  unfold Hv at p1;obtain⟨a1,its1,rfl,l1,p1⟩:=p1;unfold Hv at p2;subst p2;exact RcNeAt.tuple_none  l1 (by lia)
 |.tup ds1,.bl b2,p1,p2,hu=>by
  unfold Hv at p1;obtain⟨a1,its1,rfl,l1,p1⟩:=p1;unfold Hv at p2;subst p2;exact RcNeAt.tuple_bool b2 l1 (by lia)
 |.tup ds1,.int b2,p1,p2,hu=>by
  unfold Hv at p1;obtain⟨a1,its1,rfl,l1,p1⟩:=p1;unfold Hv at p2;obtain⟨t2,rfl⟩:=p2;exact RcNeAt.tuple_int b2 t2 l1 (by lia)
 |.tup ds1,.str b2,p1,p2,hu=>by
  unfold Hv at p1;obtain⟨a1,its1,rfl,l1,p1⟩:=p1;unfold Hv at p2;obtain⟨t2,rfl⟩:=p2;exact RcNeAt.tuple_str b2 t2 l1 (by lia)
 |.tup ds1,.tup ds2,p1,p2,hu=>by
  unfold Hv at p1;obtain⟨a1,its1,rfl,l1,p1⟩:=p1;unfold Hv at p2;obtain⟨a2,its2,rfl,l2,p2⟩:=p2;unfold D.cq;have hdep:A.units+dE ds1+1+1<cLine:=by
   have e9:(.tup ds1:D).gT=dE ds1+1:=by first|rfl|(unfold D.gT;rfl)
   lia
  have q:=RcNeAt.tuples (e:=fun j=>(ds1.getD j .ak).cq (ds2.getD j .ak)) l1 l2 (by lia) fun j h1 h2=>
   oz (ds1.getD j .ak) (ds2.getD j .ak) _ _ A.in1 (b8 p1 h1).1 (b8 p2 h2).1 (by
    have:=gR (b8 p1 h1).2;show A.units+1+_+1<cLine;lia)
  rw[ο,ο,p1.length,p2.length,hV] at q;exact q
 |.tup ds1,.lst ds2,p1,p2,hu=>by
  unfold Hv at p1;obtain⟨a1,its1,rfl,l1,p1⟩:=p1;unfold Hv at p2;obtain⟨a2,its2,rfl,l2,p2⟩:=p2;exact RcNeAt.tuple_list l1 l2 (by lia)
 |.lst ds1,.ak,p1,p2,hu=>by
  unfold Hv at p1;obtain⟨a1,its1,rfl,l1,p1⟩:=p1;unfold Hv at p2;subst p2;exact RcNeAt.list_none  l1 (by lia)
 |.lst ds1,.bl b2,p1,p2,hu=>by
  unfold Hv at p1;obtain⟨a1,its1,rfl,l1,p1⟩:=p1;unfold Hv at p2;subst p2;exact RcNeAt.list_bool b2 l1 (by lia)
 |.lst ds1,.int b2,p1,p2,hu=>by
  unfold Hv at p1;obtain⟨a1,its1,rfl,l1,p1⟩:=p1;unfold Hv at p2;obtain⟨t2,rfl⟩:=p2;exact RcNeAt.list_int b2 t2 l1 (by lia)
 |.lst ds1,.str b2,p1,p2,hu=>by
  unfold Hv at p1;obtain⟨a1,its1,rfl,l1,p1⟩:=p1;unfold Hv at p2;obtain⟨t2,rfl⟩:=p2;exact RcNeAt.list_str b2 t2 l1 (by lia)
 |.lst ds1,.tup ds2,p1,p2,hu=>by
  unfold Hv at p1;obtain⟨a1,its1,rfl,l1,p1⟩:=p1;unfold Hv at p2;obtain⟨a2,its2,rfl,l2,p2⟩:=p2;exact RcNeAt.list_tuple l1 l2 (by lia)
 |.lst ds1,.lst ds2,p1,p2,hu=>by
  unfold Hv at p1;obtain⟨a1,its1,rfl,l1,p1⟩:=p1;unfold Hv at p2;obtain⟨a2,its2,rfl,l2,p2⟩:=p2;unfold D.cq;have hdep:A.units+dE ds1+1+1<cLine:=by
   have e9:(.lst ds1:D).gT=dE ds1+1:=by first|rfl|(unfold D.gT;rfl)
   lia
  by_cases hn:ds1.length=ds2.length
  ·have q:=RcNeAt.lists (e:=fun j=>(ds1.getD j .ak).cq (ds2.getD j .ak)) l1 l2 (by simp[p1.length,p2.length,hn]) (by lia) fun j h1 h2=>
    oz (ds1.getD j .ak) (ds2.getD j .ak) _ _ A.in1 (b8 p1 h1).1 (b8 p2 h2).1 (by
     have:=gR (b8 p1 h1).2;show A.units+1+_+1<cLine;lia)
   have q2:=hV ds1 ds2;rw[hn,oM,beq_self_eq_true,jD] at q2;rw[ο,p1.length,hn,q2] at q;exact q
  ·rw[mU _ _ hn];exact RcNeAt.lists_lengths l1 l2 (by simp[p1.length,p2.length,hn]) (by lia)
 |d,.gg,p1,p2,hu=>by
  unfold Hv at p2;exact p2.elim
 |.gg,e,p1,p2,hu=>by
  unfold Hv at p1;exact p1.elim
end Dat
namespace L3
open PySem PySem.Spec PyProof.Rows L2
section
variable {X:Cx} {K:η}
def Co(f:Int->Int->D):R3:=fun x y G Q=>match x,y with
 |.int i,.int j=>Q (f i j) G
 |_,_=>False
theorem cF{H:Hp}{i:Int}{v:V}(h:Hv K H (.int i) v):v=.int i:=by unfold Hv at h;exact h
theorem qL{H:Hp}{i:Bool}{v:V}(h:Hv K H (.bl i) v):v=.bl i:=by unfold Hv at h;exact h
theorem eF{H:Hp}{a:ζ}{v:V}(h:Hv K H (.obj a) v):v=.ref a:=by unfold Hv at h;exact h
theorem fL{H:Hp}{ds:List D}{v:V}(h:Hv K H (.tup ds) v):∃a vs,v=.ref a/\dU K H a vs/\aB K H ds vs:=by unfold Hv at h;exact h
theorem lT{H:Hp}{ds:List D}{v:V}(h:Hv K H (.gf ds) v):∃a vs,v=.ref a/\oD K H a vs/\aB K H ds vs:=by unfold Hv at h;exact h
theorem fK{H:Hp}{i:Int}:Hv K H (.int i) (.int i):=by simp[Hv]
theorem iA{H:Hp}{i:Bool}:Hv K H (.bl i) (.bl i):=by simp[Hv]
theorem oh{H:Hp}{a:ζ}:Hv K H (.obj a) (.ref a):=by simp[Hv]
theorem jk{H:Hp}{ds:List D}{a:ζ}{vs:List V}(h:dU K H a vs)(q:aB K H ds vs):Hv K H (.tup ds) (.ref a):=by
 unfold Hv;exact⟨a,vs,rfl,h,q⟩
theorem low_ints{f:Int->Int->D}{g:Int->Int->V}(hf:∀i j H,Hv K H (f i j) (g i j)):eL K (Co f) (lN g):=fun x y vx vy G H Q3 Q hx hy RG h k=>by
 cases x with
 |int i=>
  cases y with
  |int j=>
   rw[cF hx,cF hy];exact⟨i,j,rfl,rfl,k _ H _ G (hf i j H) (.refl H G) RG h⟩
  |_=>exact h.elim
 |_=>exact h.elim
abbrev tp:R3:=Co fun i j=>.int (i-j)
theorem xp:eL K tp (lN fun i j=>.int (i-j)):=low_ints fun _ _ _=>fK
abbrev Fy:R3:=Co fun i j=>.bl (decide (j<i))
theorem Lj:eL K Fy (lN fun i j=>.bl (decide (j<i))):=low_ints fun _ _ _=>iA
abbrev Fz:R3:=Co fun i j=>.bl (decide (j≤i))
theorem Ll:eL K Fz (lN fun i j=>.bl (decide (j≤i))):=low_ints fun _ _ _=>iA
def ik(i:Int):Prop:=i.natAbs<2^4000
theorem vY{i:Int}(h:ik i):i.natAbs.log2<4000:=by
 by_cases h0:i.natAbs=0
 ·rw[h0];decide
 ·exact (Nat.log2_lt h0).mpr h
theorem uY{i:Int}(h:ik i):gq i≤4000:=by
 unfold gq;split
 ·exact aK _
 ·exact vY h
theorem D5{i j:Int}(h1:ik i)(h2:ik j):IntMulOk i j:=by
 unfold IntMulOk mB.Int.intTooBig;have b1:=uY h1;have b2:=uY h2;have:¬((gq i:Int)+(gq j:Int) > (bitsLine:Int)):=by
  have:(bitsLine:Int)=134217728:=by decide
  lia
 rw[decide_eq_false this];simp
theorem qa:dB X (binaryOp .FloorDiv) (rI (fun _ j=>0<j/\ik j) fun i j=>.int (i / j)):=Cu fun i j _ _ _ _ _ hc q=>by
 have h1:(0:Int)<j:=hc.1;exact floordiv_int (by lia) (by rw[Int.fdiv_eq_ediv_of_nonneg i (by lia)];exact q) (.inl (PyProof.noPylong_of_log2 (oO (vY hc.2) (by decide))))
theorem DY:dB X (binaryOp .Mult) (rI (fun i j=>ik i/\ik j) fun i j=>.int (i*j)):=Cu fun _ _ _ _ _ _ _ hc q=>mul_int q (D5 hc.1 hc.2)
def wY(C:Int->Int->Prop)(f:Int->Int->D):R3:=fun x y G Q=>match x,y with
 |.int i,.int j=>C i j/\Q (f i j) G
 |_,_=>False
theorem om{C:Int->Int->Prop}{f:Int->Int->D}{g:Int->Int->V}(hf:∀i j H,Hv K H (f i j) (g i j)):eL K (wY C f) (rI C g):=fun x y vx vy G H Q3 Q hx hy RG h k=>by
 cases x with
 |int i=>
  cases y with
  |int j=>
   rw[cF hx,cF hy];exact⟨i,j,rfl,rfl,h.1,k _ H _ G (hf i j H) (.refl H G) RG h.2⟩
  |_=>exact h.elim
 |_=>exact h.elim
abbrev tu:R3:=wY (fun _ j=>0<j/\ik j) fun i j=>.int (i / j)
theorem xt:eL K tu (rI (fun _ j=>0<j/\ik j) fun i j=>.int (i / j)):=om fun _ _ _=>fK
abbrev gs:R3:=wY (fun _ j=>0<j) fun i j=>.int (i%j)
theorem gQ:eL K gs (rI (fun _ j=>0<j) fun i j=>.int (i%j)):=om fun _ _ _=>fK
abbrev Ck:R3:=wY BX fun i j=>.int (i^j.toNat)
theorem JU:eL K Ck (rI BX fun i j=>.int (i^j.toNat)):=om fun _ _ _=>fK
theorem BQ{prog:aq}{w:aC}{A:aZ}{E:γ->ε->Prop}{s:ε}{t b:ζ}{ws:List γ}{Q:γ->ε->Prop}(ht:jU s.heap t #[])(hb:jU s.heap b ws.toArray)(h1:Q (.ref b) s):
  Ψ (model prog w) A (binaryOp .Add (.ref t) (.ref b)) Q E s:=by
 obtain⟨⟨cls,dd,data,sl⟩,ho,hc,n,hd⟩:=id ht;obtain⟨⟨cls2,dd2,data2,sl2⟩,ho2,hc2,n2,hd2⟩:=id hb;simp only at hc hd hc2 hd2;subst hc hd hc2 hd2;exact concat_meets ⟨_,ho,rfl⟩ ⟨_,ho2,rfl⟩ kA ny g7 gV (gJ _ _)
   (tuple_addW0 t b #[] ws.toArray n n2 dd dd2 sl sl2 rfl) ⟨ho,ho2,h1⟩
def zb(K:η):R2:=fun x y H Q=>∃a b ys,x=.ref a/\y=.ref b/\dU K H a []/\dU K H b ys/\Q (.ref b) H
theorem A1:dB X (binaryOp .Add) (zb X.K):=by
 intro pins s σ H x y v u Q I rx ry h;obtain⟨a,b,ys,rfl,rfl,ha,hb,q⟩:=h;cases rx;cases ry;obtain⟨its,r1,p1,_⟩:=I.tuple ha;obtain⟨its2,r2,p2,_⟩:=I.tuple hb;cases r1;exact BQ p1 p2 ⟨.ref b,H,I,rfl,q⟩
def hE:R3:=fun x y G Q=>match x,y with
 |.int i,.int j=>Q (.int (i+j)) G
 |.obj a,.obj b=>∃ds es,G a=some (.lst ds)/\G b=some (.lst es)/\ds.length+es.length≤aj/\∀p G',eP G p (.lst (ds++es)) G'->Q (.obj p) G'
 |.tup ds,.tup es=>ds.length+es.length≤aj/\Q (.tup (ds++es)) G
 |_,_=>False
abbrev Cq(K:η):R2:=fun x y H Q=>lN (fun i j=>.int (i+j)) x y H Q∨(FA x y H Q∨(Cp K x y H Q∨zb K x y H Q))
theorem fJ:dB X (binaryOp .Add) (Cq X.K):=Gc.or (FZ.or (DZ.or A1))
theorem iC:eL K hE (Cq K):=fun x y vx vy G H Q3 Q hx hy RG h k=>by
 cases x with
 |int i=>
  cases y with
  |int j=>
   rw[cF hx,cF hy];exact .inl ⟨i,j,rfl,rfl,k _ H _ G fK (.refl H G) RG h⟩
  |_=>exact h.elim
 |obj a=>
  cases y with
  |obj b=>
   rw[eF hx,eF hy];obtain⟨ds,es,e1,e2,hz,q⟩:=h;obtain⟨vs,z1,z2⟩:=RG a _ e1;obtain⟨us,y1,y2⟩:=RG b _ e2;refine .inr (.inl ⟨a,b,vs,us,rfl,rfl,z1,y1,by rw[←z2.length,←y2.length];exact hz,fun p hp=>?_⟩);exact k _ _ (.obj p) _ oh (.jN hp) (RG.uz hp (z2.append y2)) (q p _ (.mk' (RG.free hp)))
  |_=>exact h.elim
 |tup ds=>
  cases y with
  |tup es=>
   obtain⟨a,vs,rfl,e1,e2⟩:=fL hx;obtain⟨b,us,rfl,y1,y2⟩:=fL hy;by_cases h0:vs=[]
   ·subst h0;have:ds=[]:=by
     have:=e2.length;exact bM (by simpa using this)
    subst this;exact .inr (.inr (.inr ⟨a,b,us,rfl,rfl,e1,y1,k _ H (.tup es) G (jk y1 y2) (.refl H G) RG h.2⟩))
   ·refine .inr (.inr (.inl ⟨a,b,vs,us,rfl,rfl,e1,y1,h0,by rw[←e2.length,←y2.length];exact h.1,fun z=>?_,fun z p hp=>?_⟩))
    ·subst z;have:es=[]:=bM (by simpa using y2.length);subst this;refine k _ H (.tup ds) G (jk e1 e2) (.refl H G) RG ?_;have:=h.2;rwa [cf] at this
    ·exact k _ _ (.tup (ds++es)) G (jk (.of cw) ((e2.append y2).ext (.laid hp))) (.laid hp) (RG.laid hp) h.2
  |_=>exact h.elim
 |_=>exact h.elim
def qw:R3:=fun x y G Q=>match x,y with
 |.int i,.int j=>(ik i/\ik j)/\Q (.int (i*j)) G
 |.obj a,.int k=>∃ds,G a=some (.lst ds)/\(-(2^63)≤k/\k<2^63)/\ds.length*k.toNat≤aj/\∀p G',eP G p (.lst (aX k.toNat ds).flatten) G'->Q (.obj p) G'
 |_,_=>False
abbrev Cm:R2:=fun x y H Q=>rI (fun i j=>ik i/\ik j) (fun i j=>.int (i*j)) x y H Q∨Fs x y H Q
theorem o6:dB X (binaryOp .Mult) Cm:=DY.or FU
theorem tw:eL K qw Cm:=fun x y vx vy G H Q3 Q hx hy RG h k=>by
 cases x with
 |int i=>
  cases y with
  |int j=>
   rw[cF hx,cF hy];exact .inl ⟨i,j,rfl,rfl,h.1,k _ H _ G fK (.refl H G) RG h.2⟩
  |_=>exact h.elim
 |obj a=>
  cases y with
  |int j=>
   rw[eF hx,cF hy];obtain⟨ds,e1,hk,hz,q⟩:=h;obtain⟨vs,z1,z2⟩:=RG a _ e1;refine .inr ⟨a,j,vs,rfl,rfl,z1,hk.1,hk.2,by rw[←z2.length];exact hz,fun p hp=>?_⟩;exact k _ _ (.obj p) _ oh (.jN hp) (RG.uz hp (z2.rep _)) (q p _ (.mk' (RG.free hp)))
  |_=>exact h.elim
 |_=>exact h.elim
def xw:D->Bool
 |.ak=>true
 |_=>false
def Fx(neg:Bool):R3:=fun x y G Q=>match y with
 |.ak=>Q (.bl (if neg then !xw x else xw x)) G
 |_=>False
theorem Bi{H:Hp}{x:D}{v:V}(h:Hv K H x v):decide (v=.ak)=xw x:=by
 cases x with
 |ak=>unfold Hv at h;subst h;rfl
 |bl b=>rw[qL h];rfl
 |int b=>rw[cF h];rfl
 |str b=>unfold Hv at h;subst h;rfl
 |obj b=>rw[eF h];rfl
 |tup ds=>obtain⟨a,vs,rfl,_⟩:=fL h;rfl
 |gf ds=>obtain⟨a,vs,rfl,_⟩:=lT h;rfl
 |dc a=>unfold Hv at h;rw[h.1];rfl
theorem Li:eL K (Fx false) (fun x y H Q=>y=.ak/\Q (.bl (decide (x=.ak))) H):=fun x y vx vy G H Q3 Q hx hy RG h k=>by
 cases y with
 |ak=>
  refine⟨by unfold Hv at hy;exact hy,?_⟩;rw[Bi hx];exact k _ H _ G iA (.refl H G) RG h
 |_=>exact h.elim
def intsOf:List D->Option (List Int)
 |[]=>some []
 |.int i::r=>(intsOf r).map (i::·)
 |_::_=>none
theorem gi{H:Hp}:∀{ds:List D} {vs:List V} {ns:List Int},aB K H ds vs->intsOf ds=some ns->vs=ns.map V.int
 |[],vs,ns,h,e=>by
  cases e;exact h.iD
 |d::ds,vs,ns,h,e=>by
  cases d with
  |int i=>
   obtain⟨v,r,rfl,z1,z2⟩:=h.inv;unfold intsOf at e;cases hm:intsOf ds with
   |none=>rw[hm] at e;cases e
   |some ms=>
    rw[hm] at e;cases e;rw[cF z1,gi z2 hm];rfl
  |_=>cases e
def Cn:R3:=fun x y G Q=>match x,y with
 |.int i,.int j=>Q (.bl (decide (i<j))) G
 |.tup ds,.tup es=>∃ns ms,intsOf ds=some ns/\intsOf es=some ms/\Q (.bl (HT.lexLt ns ms)) G
 |_,_=>False
abbrev Fu(K:η):R2:=fun x y H Q=>lN (fun i j=>.bl (decide (i<j))) x y H Q∨Ft K x y H Q
theorem FX(hu:X.A.units<cLine):dB X (compareOp .Lt) (Fu X.K):=Jn.or (FW hu)
theorem JV:eL K Cn (Fu K):=fun x y vx vy G H Q3 Q hx hy RG h k=>by
 cases x with
 |int i=>
  cases y with
  |int j=>
   rw[cF hx,cF hy];exact .inl ⟨i,j,rfl,rfl,k _ H _ G iA (.refl H G) RG h⟩
  |_=>exact h.elim
 |tup ds=>
  cases y with
  |tup es=>
   obtain⟨a,vs,rfl,e1,e2⟩:=fL hx;obtain⟨b,us,rfl,y1,y2⟩:=fL hy;obtain⟨ns,ms,z1,z2,q⟩:=h;have q1:=gi e2 z1;have q2:=gi y2 z2;subst q1 q2;exact .inr ⟨a,b,ns,ms,rfl,rfl,e1,y1,k _ H _ G iA (.refl H G) RG q⟩
  |_=>exact h.elim
 |_=>exact h.elim
def fZ:R3:=fun x y G Q=>match x,y with
 |.tup ds,.int i=>∃d,iQ ds i=some d/\Q d G
 |.gf ds,.int i=>∃d,iQ ds i=some d/\Q d G
 |.obj p,.int i=>∃ds d,G p=some (.lst ds)/\iQ ds i=some d/\Q d G
 |_,_=>False
theorem md{H:Hp}{ds:List D}{vs:List V}{i:Int}{d:D}(h:aB K H ds vs)(e:iQ ds i=some d):∃v,iQ vs i=some v/\Hv K H d v:=by
 unfold iQ at e ⊢;rw[←h.length];cases hx:nt ds.length i with
 |none=>rw[hx] at e;cases e
 |some j=>
  rw[hx] at e;exact h.get e
theorem Lh:eL K fZ (Kv K):=fun x y vx vy G H Q3 Q hx hy RG h k=>by
 cases y with
 |int i=>
  rw[cF hy];cases x with
  |tup ds=>
   obtain⟨d,e,q⟩:=h;obtain⟨a,vs,rfl,e1,e2⟩:=fL hx;obtain⟨v,z1,z2⟩:=md e2 e;exact .inr (.inl ⟨a,vs,i,v,rfl,rfl,e1,z1,k _ H d G z2 (.refl H G) RG q⟩)
  |gf ds=>
   obtain⟨d,e,q⟩:=h;obtain⟨a,vs,rfl,e1,e2⟩:=lT hx;obtain⟨v,z1,z2⟩:=md e2 e;exact .inl ⟨a,vs,i,v,rfl,rfl,e1.l,z1,k _ H d G z2 (.refl H G) RG q⟩
  |obj p=>
   obtain⟨ds,d,e0,e,q⟩:=h;rw[eF hx];obtain⟨vs,e1,e2⟩:=RG p _ e0;obtain⟨v,z1,z2⟩:=md e2 e;exact .inl ⟨p,vs,i,v,rfl,rfl,.of e1,z1,k _ H d G z2 (.refl H G) RG q⟩
  |_=>exact h.elim
 |_=>cases x<;>exact h.elim
theorem Lu{a b:μ}{ta tb:aL}{pos:aG}(ha:b0 X a ta)(hb:b0 X b tb)(hs:mh b:=by intro _ _;rfl):b0 X (.Subscript a b pos) (br fZ ta tb):=fb (Cs zG ha hb hs) fun _ _ _ h=>o8 Lh h
def uP(ta:cT)(tb:aL):aL:=fun τ G Q=>ta τ G fun ds G1=>nQ (tb τ G1 fun y G2=>match y with
 |.int i=>∃d,iQ ds i=some d/\Q d G2
 | _=>False) ds 64
theorem EC{es:List μ}{b:μ}{ta:cT}{tb:aL}{pos pos':aG}(ha:jn X es ta)(hb:b0 X b tb)(hs:mh b:=by intro _ _;rfl):b0 X (.Subscript (.List es pos') b pos) (uP ta tb):=
 fb (Cs zG (zq ha) hb hs) fun σ H Q ⟨τ,G,Q3,RS,RG,h,k⟩=>by
  refine⟨τ,G,_,RS,RG,h,fun vs H1 ds G1 h1 S1 R1 q1=>?_⟩;obtain⟨z,q1⟩:=kN q1;refine⟨by rw[←h1.length];exact uH z,fun p hp=>?_⟩;refine⟨τ,G1,_,(RS.ext (S1.ext RG)).ext (.laid hp),R1.laid hp,q1,fun v2 H2 d2 G2 h2 S2 R2 q2=>?_⟩;have e2:H2 p=some (.lst vs):=S2.fr p _ cw (R1.free hp);cases d2 with
  |int i=>
   obtain⟨d,e,q⟩:=q2;obtain⟨v,z1,z2⟩:=md ((h1.ext (.laid hp)).ext (S2.ext (R1.laid hp))) e;rw[cF h2];exact .inl ⟨p,vs,i,v,rfl,rfl,.of e2,z1,k _ H2 d G2 z2 ((S1.trans (.laid hp)).trans S2) R2 q⟩
  |_=>exact q2.elim
end
end L3
namespace L3
open PySem PySem.Spec PyProof.Rows L2
mutual
def gA:D->Option Dat.D
 |.ak=>some .ak
 |.bl b=>some (.bl b)
 |.int i=>some (.int i)
 |.str x=>some (.str x)
 |.tup ds=>match cW ds with
  |some xs=>some (.tup xs)
  |none=>none
 |.gf ds=>match cW ds with
  |some xs=>some (.lst xs)
  |none=>none
 |.obj _=>none
 |.dc _=>none
def cW:List D->Option (List Dat.D)
 |[]=>some []
 |d::ds=>match gA d with
  |some x=>match cW ds with
   |some xs=>some (x::xs)
   |none=>none
  |none=>none
end
def jK(G:Gp):D->Option Dat.D
 |.obj a=>match G a with
  |some (.lst ds)=>match cW ds with
   |some xs=>some (.lst xs)
   |none=>none
  |_=>none
 |d=>gA d
section
variable {X:Cx} {pins:List (ζ×bp)} {σ:L2.St} {H:Hp} {s:ε}
mutual
theorem ij(I:Inv X pins σ H s):∀{d:D} {v:V} {u:γ} {x:Dat.D},Hv X.K H d v->RelV v u->gA d=some x->Dat.Hv s.heap x u
 |.ak,v,u,x,h,r,e=>by
  unfold Hv at h;subst h;cases e;unfold Dat.Hv;exact r
 |.bl b,v,u,x,h,r,e=>by
  unfold Hv at h;subst h;cases e;unfold Dat.Hv;exact r
 |.int b,v,u,x,h,r,e=>by
  unfold Hv at h;subst h;cases e;unfold Dat.Hv;exact r
 |.str b,v,u,x,h,r,e=>by
  unfold Hv at h;subst h;cases e;unfold Dat.Hv;exact r
 |.obj a,v,u,x,h,r,e=>by cases e
 |.dc a,v,u,x,h,r,e=>by cases e
 |.tup ds,v,u,x,h,r,e=>by
  obtain⟨a,vs,rfl,q1,q2⟩:=fL h;cases r;unfold gA at e;cases hd:cW ds with
  |none=>rw[hd] at e;cases e
  |some xs=>
   rw[hd] at e;cases e;obtain⟨its,rv,p,_⟩:=I.tuple q1;unfold Dat.Hv;exact⟨a,its,rfl,p,mY I q2 rv hd⟩
 |.gf ds,v,u,x,h,r,e=>by
  obtain⟨a,vs,rfl,q1,q2⟩:=lT h;cases r;unfold gA at e;cases hd:cW ds with
  |none=>rw[hd] at e;cases e
  |some xs=>
   rw[hd] at e;cases e;obtain⟨its,rv,p,_⟩:=I.list q1.l;unfold Dat.Hv;exact⟨a,its,rfl,p.isList,mY I q2 rv hd⟩
theorem mY(I:Inv X pins σ H s):∀{ds:List D} {vs:List V} {us:List γ} {xs:List Dat.D},aB X.K H ds vs->aR vs us->cW ds=some xs->Dat.aB s.heap xs us
 |[],vs,us,xs,h,r,e=>by
  cases h.iD;cases r;cases e;unfold Dat.aB;rfl
 |d::ds,vs,us,xs,h,r,e=>by
  obtain⟨v,vr,rfl,q1,q2⟩:=h.inv;unfold cW at e;cases hd:gA d with
  |none=>rw[hd] at e;cases e
  |some x=>
   rw[hd] at e;cases hr:cW ds with
   |none=>rw[hr] at e;cases e
   |some xr=>
    rw[hr] at e;cases e;cases r with
    |cons r1 r2=>
     unfold Dat.aB;exact⟨_,_,rfl,ij I q1 r1 hd,mY I q2 r2 hr⟩
end
theorem g4{G:Gp}(I:Inv X pins σ H s)(RG:aW X.K G H){d:D}{v:V}{u:γ}{x:Dat.D}(h:Hv X.K H d v)(r:RelV v u)(e:jK G d=some x):Dat.Hv s.heap x u:=by
 cases d with
 |obj a=>
  rw[eF h] at r;cases r;unfold jK at e;cases hG:G a with
  |none=>simp[hG] at e
  |some o=>
   cases o with
   |lst ds=>
    simp only[hG] at e;cases hr:cW ds with
    |none=>rw[hr] at e;cases e
    |some xs=>
     rw[hr] at e;cases e;obtain⟨vs,e1,e2⟩:=RG a _ hG;obtain⟨its,rv,p,_⟩:=I.list (fo.of e1);unfold Dat.Hv;exact⟨a,its,rfl,p.isList,mY I e2 rv hr⟩
   |nZ=>simp[hG] at e
   |gg=>simp[hG] at e
   |gen R=>simp[hG] at e
 |ak=>exact ij I h r e
 |bl _=>exact ij I h r e
 |int _=>exact ij I h r e
 |str _=>exact ij I h r e
 |tup _=>exact ij I h r e
 |gf _=>exact ij I h r e
 |dc _=>exact ij I h r e
end
section
variable {X:Cx} {a b e:μ} {ta tb:aL} {pos:aG}
def fx(neg:Bool):R3:=fun x y G Q=>∃u v,jK G x=some u/\jK G y=some v/\u.gT≤50/\Q (.bl (if neg then !u.cq v else u.cq v)) G
def rY(X:Cx)(f:γ->γ->Sem γ)(r:R3):Prop:=
 ∀(pins:List (ζ×bp)) (s:ε) (σ:L2.St) (H:Hp) (G:Gp) (x y:D) (vx vy:V) (u v:γ) (Q3:V3),Inv X pins σ H s->aW X.K G H->Hv X.K H x vx->Hv X.K H y vy->RelV vx u->RelV vy v->r x y G Q3 ->
  Ψ (model X.prog X.w) X.A (f u v) (EP X pins σ fun w H'=>∃d G',Hv X.K H' d w/\Step H G H' G'/\aW X.K G' H'/\Q3 d G') X.xe s
theorem Ma(hu:X.A.units+64<cLine):rY X (compareOp .Eq) (fx false):=by
 intro pins s σ H G x y vx vy u v Q3 I RG hx hy rx ry ⟨p,q,e1,e2,hd,h⟩;have:=Dat.KW p q u v X.A (g4 I RG hx rx e1) (g4 I RG hy ry e2) (by lia);exact this _ _ _ _ ⟨.bl (p.cq q),H,I,rfl,.bl (p.cq q),G,iA,.refl H G,RG,h⟩
theorem LQ(hu:X.A.units+64<cLine):rY X (compareOp .NotEq) (fx true):=by
 intro pins s σ H G x y vx vy u v Q3 I RG hx hy rx ry ⟨p,q,e1,e2,hd,h⟩;have:=Dat.KU p q u v X.A (g4 I RG hx rx e1) (g4 I RG hy ry e2) (by lia);exact this _ _ _ _ ⟨.bl (!p.cq q),H,I,rfl,.bl (!p.cq q),G,iA,.refl H G,RG,h⟩
def kU(K:η)(r:R3):R2:=fun vx vy H Q=>∃x y G Q3,aW K G H/\Hv K H x vx/\Hv K H y vy/\r x y G Q3/\∀v H' d G',Hv K H' d v->Step H G H' G'->aW K G' H'->Q3 d G'->Q v H'
theorem rY.op{f:γ->γ->Sem γ}{r:R3}(h:rY X f r):dB X f (kU X.K r):=by
 intro pins s σ H vx vy u v Q I rx ry ⟨x,y,G,Q3,RG,hx,hy,q,k⟩;refine bG (h pins s σ H G x y vx vy u v Q3 I RG hx hy rx ry q) fun w s' ⟨v',H',I',r',d,G',z1,z2,z3,z4⟩=>⟨v',H',I',r',k v' H' d G' z1 z2 z3 z4⟩
theorem xu{K:η}{r:R3}:eL K r (kU K r):=fun x y vx vy G H Q3 Q hx hy RG h k=>⟨x,y,G,Q3,RG,hx,hy,h,k⟩
theorem gB(hu:X.A.units+64<cLine):dB X (compareOp .Eq) (kU X.K (fx false)):=(Ma hu).op
theorem zr(hu:X.A.units+64<cLine):dB X (compareOp .NotEq) (kU X.K (fx true)):=(LQ hu).op
theorem kj{K:η}:eL K (fx false) (kU K (fx false)):=xu
theorem Hh{K:η}:eL K (fx true) (kU K (fx true)):=xu
end
end L3
namespace L3
open PySem PySem.Spec PyProof.Rows L2
abbrev C3:=List D->Gp->V3->Prop
def fM(r:C3)(t:cT):aL:=fun τ G Q=>t τ G fun ds G1=>r ds G1 Q
def oF(K:η)(r:C3)(r2:List V->Hp->VK->Prop):Prop:=∀ds vs G H Q3 Q,aB K H ds vs->aW K G H->r ds G Q3->(∀v H' d G',Hv K H' d v->Step H G H' G'->aW K G' H'->Q3 d G'->Q v H')->r2 vs H Q
section
variable {X:Cx} {K:η} {e:μ} {es:List μ} {t:cT} {ta:aL} {pos p:aG}
theorem GI{r:C3}{r2:List V->Hp->VK->Prop}(L:oF K r r2){σ:L2.St}{H:Hp}{Q:VK}(h:low K (fM r t) σ H Q):Ca r2 (rM K t) σ H Q:=by
 obtain⟨τ,G,Q3,RS,RG,h,k⟩:=h;refine⟨τ,G,_,RS,RG,h,fun vs H1 ds G1 h1 S1 R1 q1=>?_⟩;exact L _ _ _ _ _ _ h1 R1 q1 fun v H' d G' z1 z2 z3 z4=>k v H' d G' z1 (S1.trans z2) z3 z4
theorem rV{r:C3}{r2:List V->Hp->VK->Prop}(L:oF X.K r r2)(h:PE X e (Ca r2 (rM X.K t))):b0 X e (fM r t):=fb h fun _ _ _ h=>GI L h
theorem oo{H:Hp}{d:D}{vs:List V}(h:aB K H [d] vs):∃v,vs=[v]/\Hv K H d v:=by
 obtain⟨v,r,rfl,z1,z2⟩:=h.inv;cases z2.iD;exact⟨v,rfl,z1⟩
theorem Ln{H:Hp}{d d':D}{vs:List V}(h:aB K H [d,d'] vs):∃v v',vs=[v,v']/\Hv K H d v/\Hv K H d' v':=by
 obtain⟨v,r,rfl,z1,z2⟩:=h.inv;obtain⟨v',rfl,z3⟩:=oo z2;exact⟨v,v',rfl,z1,z3⟩
def kO:C3:=fun ds G Q=>match ds with
 |[.obj a]=>∃xs,G a=some (.lst xs)/\Q (.int xs.length) G
 |[.tup xs]=>Q (.int xs.length) G
 |[.gf xs]=>Q (.int xs.length) G
 |_=>False
theorem JW:oF K kO (fun xs H Q=>∃p ys,xs=[.ref p]/\(fo K H p ys∨dU K H p ys)/\Q (.int ys.length) H):=fun ds vs G H Q3 Q h RG q k=>by
 rcases ds with _|⟨d,_|⟨d2,ds⟩⟩
 ·exact q.elim
 ·obtain⟨v,rfl,hv⟩:=oo h;cases d with
  |obj a=>
   obtain⟨xs,e,q⟩:=q;obtain⟨us,e1,e2⟩:=RG a _ e;rw[eF hv];exact⟨a,us,rfl,.inl (.of e1),by rw[←e2.length];exact k _ H _ G fK (.refl H G) RG q⟩
  |tup xs=>
   obtain⟨a,us,rfl,e1,e2⟩:=fL hv;exact⟨a,us,rfl,.inr e1,by rw[←e2.length];exact k _ H _ G fK (.refl H G) RG q⟩
  |gf xs=>
   obtain⟨a,us,rfl,e1,e2⟩:=lT hv;exact⟨a,us,rfl,.inl e1.l,by rw[←e2.length];exact k _ H _ G fK (.refl H G) RG q⟩
  |_=>exact q.elim
 ·cases d<;>exact q.elim
theorem HN(hu:X.A.units+64<cLine)(hm:X.mg "len" = none)(ha:jn X (e::es) t)(hg:Gl X "len":=by rfl)(he:notStar e=true:=by rfl)(hpl:es.all notStar=true:=by rfl):
  b0 X (.Call (.Name "len" p) (e::es) [] pos) (fM kO t):=rV JW (iX uX hg hm PySem.boot_len ha (he:=bW he) (hpl:=fv hpl))
def tm:C3:=fun ds G Q=>match ds with
 |[.bl b]=>Q (.int (if b then 1 else 0)) G
 |[.int i]=>Q (.int i) G
 |_=>False
theorem JX:oF K tm (fun xs H Q=>(∃i,xs=[.int i]/\Q (.int i) H)∨∃k,xs=[.bl k]/\Q (.int (if k then 1 else 0)) H):=fun ds vs G H Q3 Q h RG q k=>by
 rcases ds with _|⟨d,_|⟨d2,ds⟩⟩
 ·exact q.elim
 ·obtain⟨v,rfl,hv⟩:=oo h;cases d with
  |bl b=>
   rw[qL hv];exact .inr ⟨b,rfl,k _ H _ G fK (.refl H G) RG q⟩
  |int b=>
   rw[cF hv];exact .inl ⟨b,rfl,k _ H _ G fK (.refl H G) RG q⟩
  |_=>exact q.elim
 ·cases d<;>exact q.elim
theorem HP(hu:X.A.units+64<cLine)(hm:X.mg "int" = none)(ha:jn X (e::es) t)(hg:Gl X "int":=by rfl)(he:notStar e=true:=by rfl)(hpl:es.all notStar=true:=by rfl):
  b0 X (.Call (.Name "int" p) (e::es) [] pos) (fM tm t):=rV JX (oe zY hg hm rfl ha (he:=bW he) (hpl:=fv hpl))
def wW:C3:=fun ds G Q=>match ds with
 |[.int i,.int j]=>Q (.int (if j > i then j else i)) G
 |_=>False
theorem D8{f:Int->Int->Int}:oF K (fun ds G Q=>match ds with
 |[.int i,.int j]=>Q (.int (f i j)) G
 | _=>False) (fun xs H Q=>∃i j,xs=[.int i,.int j]/\Q (.int (f i j)) H):=fun ds vs G H Q3 Q h RG q k=>by
 rcases ds with _|⟨d,_|⟨d2,_|⟨d3,ds⟩⟩⟩
 ·exact q.elim
 ·cases d<;>exact q.elim
 ·obtain⟨v,v',rfl,h1,h2⟩:=Ln h;cases d with
  |int i=>
   cases d2 with
   |int j=>
    rw[cF h1,cF h2];exact⟨i,j,rfl,k _ H _ G fK (.refl H G) RG q⟩
   |_=>exact q.elim
  |_=>exact q.elim
 ·cases d with
  |int i=>cases d2<;>exact q.elim
  |_=>exact q.elim
theorem HM(hu:X.A.units+64<cLine)(hm:X.mg "max" = none)(ha:jn X (e::es) t)(hc:X.calm=true:=by rfl)(hg:Gl X "max":=by rfl)(he:notStar e=true:=by rfl)(hpl:es.all notStar=true:=by rfl):
  b0 X (.Call (.Name "max" p) (e::es) [] pos) (fM wW t):=rV (D8 (f:=fun i j=>if j > i then j else i)) (iX (zX hc) hg hm rfl ha (he:=bW he) (hpl:=fv hpl))
def jW:C3:=fun ds G Q=>match ds with
 |[.obj a]=>∃xs,G a=some (.lst xs)/\Q (.tup xs) G
 |[.tup xs]=>Q (.tup xs) G
 |[.gf xs]=>Q (.tup xs) G
 |_=>False
theorem Ep:oF K jW (fun xs H Q=>∃p ys,xs=[.ref p]/\((fo K H p ys/\∀l,H l=none->Q (.ref l) (upd H l (.tup ys)))∨(dU K H p ys/\Q (.ref p) H))):=fun ds vs G H Q3 Q h RG q k=>by
 rcases ds with _|⟨d,_|⟨d2,ds⟩⟩
 ·exact q.elim
 ·obtain⟨v,rfl,hv⟩:=oo h;cases d with
  |obj a=>
   obtain⟨xs,e,q⟩:=q;obtain⟨us,e1,e2⟩:=RG a _ e;rw[eF hv];exact⟨a,us,rfl,.inl ⟨.of e1,fun l hl=>k _ _ (.tup xs) G (jk (.of cw) (e2.ext (.laid hl))) (.laid hl) (RG.laid hl) q⟩⟩
  |tup xs=>
   obtain⟨a,us,rfl,e1,e2⟩:=fL hv;exact⟨a,us,rfl,.inr ⟨e1,k _ H _ G (jk e1 e2) (.refl H G) RG q⟩⟩
  |gf xs=>
   obtain⟨a,us,rfl,e1,e2⟩:=lT hv;exact⟨a,us,rfl,.inl ⟨e1.l,fun l hl=>k _ _ (.tup xs) G (jk (.of cw) (e2.ext (.laid hl))) (.laid hl) (RG.laid hl) q⟩⟩
  |_=>exact q.elim
 ·cases d<;>exact q.elim
theorem BB(hu:X.A.units+64<cLine)(hm:X.mg "tuple" = none)(ha:jn X (e::es) t)(hg:Gl X "tuple":=by rfl)(he:notStar e=true:=by rfl)(hpl:es.all notStar=true:=by rfl):
  b0 X (.Call (.Name "tuple" p) (e::es) [] pos) (fM jW t):=rV Ep (oe sU hg hm rfl ha (he:=bW he) (hpl:=fv hpl))
def eM(r:D->List D->Gp->V3->Prop)(to:aL)(t:cT):aL:=fun τ G Q=>to τ G fun x G1=>(∃a xs,x=.obj a/\G1 a=some (.lst xs))/\t τ G1 fun ds G2=>r x ds G2 Q
def u4(K:η)(r:D->List D->Gp->V3->Prop)(r2:V->List V->Hp->VK->Prop):Prop:=∀x vx ds vs G H Q3 Q,Hv K H x vx->aB K H ds vs->aW K G H->r x ds G Q3->(∀v H' d G',Hv K H' d v->Step H G H' G'->aW K G' H'->Q3 d G'->Q v H')->r2 vx vs H Q
theorem JS{r:D->List D->Gp->V3->Prop}{r2:V->List V->Hp->VK->Prop}{to:aL}(L:u4 K r r2){σ:L2.St}{H:Hp}{Q:VK}(h:low K (eM r to t) σ H Q):EX K "list" r2 (low K to) (rM K t) σ H Q:=by
 obtain⟨τ,G,Q3,RS,RG,h,k⟩:=h;refine⟨τ,G,_,RS,RG,h,fun v1 H1 d1 G1 h1 S1 R1 q1=>?_⟩;obtain⟨⟨a,xs,rfl,e1⟩,q1⟩:=q1;obtain⟨us,e2,e3⟩:=R1 a _ e1;refine⟨?_,τ,G1,_,RS.ext (S1.ext RG),R1,q1,fun vs H2 ds G2 h2 S2 R2 q2=>?_⟩
 ·rw[eF h1];exact .inl ⟨rfl,us,.of e2⟩
 ·exact L _ _ _ _ _ _ _ _ (h1.ext (S2.ext R1)) h2 R2 q2 fun v H' d G' z1 z2 z3 z4=>k v H' d G' z1 ((S1.trans S2).trans z2) z3 z4
def sj:D->List D->Gp->V3->Prop:=fun x ds G Q=>match x,ds with
 |.obj a,[d]=>∃xs,G a=some (.lst xs)/\xs.length<aj/\Q .ak (dM G a (.lst (xs++[d])))
 |_,_=>False
theorem zE:u4 K sj vG:=fun x vx ds vs G H Q3 Q hx hs RG q k=>by
 rcases ds with _|⟨d,_|⟨d2,ds⟩⟩
 ·cases x<;>exact q.elim
 ·cases x with
  |obj a=>
   obtain⟨xs,e1,hz,q⟩:=q;obtain⟨us,e2,e3⟩:=RG a _ e1;obtain⟨v,rfl,hv⟩:=oo hs;rw[eF hx];refine⟨a,us,v,rfl,rfl,e2,by rw[←e3.length];exact hz,?_⟩;exact k _ _ .ak _ (by simp[Hv]) (.wrote e1) (RG.yw e2 (e3.append (.cons hv .nil))) q
  |_=>exact q.elim
 ·cases x<;>exact q.elim
theorem Kh{r:D->List D->Gp->V3->Prop}{r2:V->List V->Hp->VK->Prop}{to:aL}(L:u4 X.K r r2)(h:PE X e (EX X.K "list" r2 (low X.K to) (rM X.K t))):b0 X e (eM r to t):=fb h fun _ _ _ z=>JS L z
def nV:D->List D->Gp->V3->Prop:=fun x ds G Q=>match x,ds with
 |.obj a,[.obj b]=>∃xs ys,G a=some (.lst xs)/\G b=some (.lst ys)/\xs.length+ys.length≤aj/\Q .ak (dM G a (.lst (xs++ys)))
 |_,_=>False
theorem sv:u4 K nV vF:=fun x vx ds vs G H Q3 Q hx hs RG q k=>by
 rcases ds with _|⟨d,_|⟨d2,ds⟩⟩
 ·cases x<;>exact q.elim
 ·cases x with
  |obj a=>
   cases d with
   |obj b=>
    obtain⟨xs,ys,e1,e0,hz,q⟩:=q;obtain⟨us,e2,e3⟩:=RG a _ e1;obtain⟨ws,e4,e5⟩:=RG b _ e0;obtain⟨v,rfl,hv⟩:=oo hs;rw[eF hx,eF hv];refine⟨a,b,us,ws,rfl,rfl,e2,e4,by rw[←e3.length,←e5.length];exact hz,?_⟩;exact k _ _ .ak _ (by simp[Hv]) (.wrote e1) (RG.yw e2 (e3.append e5)) q
   |_=>exact q.elim
  |_=>exact q.elim
 ·cases x with
  |obj a=>cases d<;>exact q.elim
  |_=>exact q.elim
def iE(T:String)(G:Gp):D->Option Bool
 |.ak=>some false
 |.bl _=>some (T=="bool" || T=="int")
 |.int _=>some (T=="int")
 |.str _=>some (T=="str")
 |.tup _=>some (T=="tuple")
 |.gf _=>some (T=="list")
 |.dc _=>some (T=="dict")
 |.obj a=>match G a with
  |some (.lst _)=>some (T=="list")
  |some .nZ=>some (T=="list")
  |some .gg=>some (T=="dict")
  |some (.gen _)=>none
  |none=>none
def mV(T:String)(ta:aL):aL:=fun τ G Q=>ta τ G fun x G1=>match iE T G1 x with
 |some b=>Q (.bl b) G1
 |none=>False
end
end L3
namespace Ip
open PySem PySem.W PyProof.Rows
structure Ord(n:Nat)(lt:Nat->Nat->Bool):Prop where
 gU:∀a b,a<n->b<n->lt a b=true->lt b a=false
 dz:∀a b c,a<n->b<n->c<n->lt b a=false->lt c b=false->lt c a=false
abbrev g(p:Array Nat)(i:Nat):Nat:=p.getD i 0
structure Va(n:Nat)(p:Array Nat):Prop where
 perm:p.toList.Perm (aS n)
section
variable {n:Nat} {lt:Nat->Nat->Bool} {cmp:Nat->Nat->(Bool->ε->Prop)->ε->Prop} {s:ε}
theorem Va.size{p:Array Nat}(v:Va n p):p.size=n:=by
 have:=v.perm.length_eq;simpa using this
theorem Va.get{p:Array Nat}(v:Va n p){i:Nat}(hi:i<n):p[i]?=some (g p i):=by
 have h:=v.size;simp[g,rm,h,hi]
theorem Va.inr{p:Array Nat}(v:Va n p){i:Nat}(hi:i<n):g p i<n:=by
 have h:=v.get hi;have hm:g p i∈p.toList:=gd (by rw[aE];exact h);have:=v.perm.mem_iff.mp hm;simpa using this
theorem Ord.refl(O:Ord n lt){a:Nat}(ha:a<n):lt a a=false:=by
 cases h:lt a a with
 |false=>rfl
 |true=>
  have:=O.gU a a ha ha h;rw[h] at this;exact this
def So(lt:Nat->Nat->Bool)(p:Array Nat)(k:Nat):Prop:=∀i j,i≤j->j<k->lt (g p j) (g p i)=false
def Ni(lt:Nat->Nat->Bool)(p:Array Nat)(k:Nat):Prop:=∀i j,i≤j->j<k->lt (g p i) (g p j)=false
def Ae(lt:Nat->Nat->Bool)(p:Array Nat)(lo hi:Nat):Prop:=∀i j,lo≤i->i<hi->lo≤j->j<hi->lt (g p i) (g p j)=false
theorem So.one(O:Ord n lt){p:Array Nat}(v:Va n p)(hn:1≤n):So lt p 1:=fun i j h1 h2=>by
 have e1:i=0:=by lia
 have e2:j=0:=by lia
 rw[e1,e2];exact O.refl (v.inr (by lia))
theorem So.next(O:Ord n lt){p:Array Nat}(v:Va n p){a:Nat}(h1:1≤a)(ha:a<n)(S:So lt p a)(h:lt (g p a) (g p (a-1))=false):So lt p (a+1):=fun i j hij hj=>by
 by_cases hja:j<a
 ·exact S i j hij hja
 ·have e:j=a:=by lia
  subst e;by_cases hij':i=j
  ·rw[hij'];exact O.refl (v.inr ha)
  ·exact O.dz (g p i) (g p (j-1)) (g p j) (v.inr (by lia)) (v.inr (by lia)) (v.inr ha) (S i (j-1) (by lia) (by lia)) h
theorem Ni.next(O:Ord n lt){p:Array Nat}(v:Va n p){a:Nat}(h1:1≤a)(ha:a<n)(S:Ni lt p a)(h:lt (g p (a-1)) (g p a)=false):Ni lt p (a+1):=fun i j hij hj=>by
 by_cases hja:j<a
 ·exact S i j hij hja
 ·have e:j=a:=by lia
  subst e;by_cases hij':i=j
  ·rw[hij'];exact O.refl (v.inr ha)
  ·exact O.dz (g p j) (g p (j-1)) (g p i) (v.inr ha) (v.inr (by lia)) (v.inr (by lia)) h (S i (j-1) (by lia) (by lia))
theorem kg{p:Array Nat}(v:Va n p)(i j:Nat):Va n (kas_rev p i j):=⟨(mirror_perm p i j _).toList.trans v.perm⟩
theorem oX{p:Array Nat}(v:Va n p){lo hi k:Nat}(hh:hi≤n)(hk:k<n):g (kas_rev p lo hi) k=if lo≤k/\k<hi then g p (lo+hi-1-k) else g p k:=by
 have h1:=getElem?_mirror_all (xs:=p) (i:=lo) (j:=hi) (by rw[v.size];exact hh) k;have h2:=(kg v lo hi).get hk;have h3:(kas_rev p lo hi)[k]?=_:=h1;rw[h2] at h3;by_cases hc:lo≤k/\k<hi
 ·rw[if_pos hc] at h3 ⊢;rw[v.get (by lia)] at h3;exact aw h3
 ·rw[if_neg hc] at h3 ⊢;rw[v.get hk] at h3;exact aw h3
theorem ue{p:Array Nat}(v:Va n p){lo hi k:Nat}(hh:hi≤k)(hk:k≤n)(S:Ni lt p k)(e:Ae lt p lo hi):Ni lt (kas_rev p lo hi) k:=fun i j hij hj=>by
 rw[oX v (by lia) (show i<n by lia),oX v (by lia) (show j<n by lia)];by_cases hi':lo≤i/\i<hi
 ·rw[if_pos hi'];by_cases hj':lo≤j/\j<hi
  ·rw[if_pos hj'];exact e _ _ (by lia) (by lia) (by lia) (by lia)
  ·rw[if_neg hj'];exact S _ _ (by lia) hj
 ·rw[if_neg hi'];by_cases hj':lo≤j/\j<hi
  ·rw[if_pos hj'];exact S _ _ (by lia) (by lia)
  ·rw[if_neg hj'];exact S _ _ hij hj
theorem Ff{p:Array Nat}(v:Va n p){k:Nat}(hk:k≤n)(S:Ni lt p k):So lt (kas_rev p 0 k) k:=fun i j hij hj=>by
 rw[oX v hk (show i<n by lia),oX v hk (show j<n by lia),if_pos (by lia),if_pos (by lia)];exact S _ _ (by lia) (by lia)
variable (O:Ord n lt) (hc:∀i j,i<n->j<n->∀(C:Bool->ε->Prop) (s:ε),C (lt i j) s->cmp i j C s)
include O hc
theorem me{p:Array Nat}(v:Va n p){G:Nat->ε->Prop}:∀(f a:Nat),1≤a->a+f≤n->So lt p a->(∀m,a≤m->m≤a+f->So lt p m->(m=a+f∨lt (g p m) (g p (m-1))=true)->G m s)->(kas_asc p f a).kasWp cmp G s
 |0,a,_,_,S,h=>h a (ω _) (by lia) S (.inl (by lia))
 |f+1,a,h1,h2,S,h=>by
  show cmp _ _ _ s;refine hc _ _ (v.inr (by lia)) (v.inr (by lia)) _ s ?_;cases hb:lt (g p a) (g p (a-1)) with
  |true=>
   ((try dsimp only);rw[if_pos rfl])
   exact h a (ω _) (by lia) S (.inr hb)
  |false=>
   ((try dsimp only);rw[if_neg ai])
   exact me v f (a+1) (by lia) (by lia) (S.next O v h1 (by lia) hb) fun m q1 q2 q3 q4=>h m (by lia) (by lia) q3 (by
    rcases q4 with q4|q4
    ·exact .inl (by lia)
    ·exact .inr q4)
theorem px{G:Array Nat×Nat×Nat->ε->Prop}:∀(f:Nat) (p:Array Nat) (a q:Nat),Va n p->q+1≤a->a+f≤n->Ni lt p a->Ae lt p (a-(q+1)) a ->
  (∀p' m q',Va n p'->a≤m->m≤a+f->q'+1≤m->Ni lt p' m->Ae lt p' (m-(q'+1)) m->G (p',m,q') s)->(kas_desc f p a q).kasWp cmp G s
 |0,p,a,q,v,h1,h2,S,e,h=>h p a q v (ω _) (by lia) h1 S e
 |f+1,p,a,q,v,h1,h2,S,e,h=>by
  show cmp _ _ _ s;refine hc _ _ (v.inr (by lia)) (v.inr (by lia)) _ s ?_;have one:∀{p':Array Nat},Va n p'->Ae lt p' (a+1-(0+1)) (a+1):=fun {p'} v' i j i1 i2 j1 j2=>by
   have e1:i=a:=by lia
   have e2:j=a:=by lia
   rw[e1,e2];exact O.refl (v'.inr (by lia))
  cases hb:lt (g p a) (g p (a-1)) with
  |true=>
   ((try dsimp only);rw[if_pos rfl])
   have S':=S.next O v (by lia) (by lia) (O.gU _ _ (v.inr (by lia)) (v.inr (by lia)) hb)
   by_cases hq:q > 0
   ·rw[if_pos hq];exact px f _ (a+1) 0 (kg v _ _) (by lia) (by lia) (ue v (by lia) (by lia) S' e) (one (kg v _ _)) fun p' m q' r1 r2 r3 r4 r5 r6=>h p' m q' r1 (by lia) (by lia) r4 r5 r6
   ·rw[if_neg hq];exact px f _ (a+1) 0 v (by lia) (by lia) S' (one v) fun p' m q' r1 r2 r3 r4 r5 r6=>h p' m q' r1 (by lia) (by lia) r4 r5 r6
  |false=>
   ((try dsimp only);rw[if_neg ai])
   show cmp _ _ _ s;refine hc _ _ (v.inr (by lia)) (v.inr (by lia)) _ s ?_;cases hd:lt (g p (a-1)) (g p a) with
   |true=>
    ((try dsimp only);rw[if_pos rfl])
    exact h p a q v (ω _) (by lia) h1 S e
   |false=>
    ((try dsimp only);rw[if_neg ai])
    refine px f _ (a+1) (q+1) v (by lia) (by lia) (S.next O v (by lia) (by lia) hd) (fun i j i1 i2 j1 j2=>?_) fun p' m q' r1 r2 r3 r4 r5 r6=>h p' m q' r1 (by lia) (by lia) r4 r5 r6
    have L:∀k,k<n->g p k<n:=fun k hk=>v.inr hk;by_cases hi:i=a
    ·by_cases hj:j=a
     ·rw[hi,hj];exact O.refl (L _ (by lia))
     ·rw[hi];exact O.dz (g p j) (g p (a-1)) (g p a) (L _ (by lia)) (L _ (by lia)) (L _ (by lia)) (e (a-1) j (by lia) (by lia) (by lia) (by lia)) hb
    ·by_cases hj:j=a
     ·rw[hj];exact O.dz (g p a) (g p (a-1)) (g p i) (L _ (by lia)) (L _ (by lia)) (L _ (by lia)) hd (e i (a-1) (by lia) (by lia) (by lia) (by lia))
     ·exact e i j (by lia) (by lia) (by lia) (by lia)
theorem vw{p:Array Nat}(v:Va n p){a:Nat}{G:Nat×Array Nat->ε->Prop}(h1:1≤a)(h2:a≤n)(S:Ni lt p a)(h:∀m p',Va n p'->1≤m->m≤n->So lt p' m->G (m,p') s):(kas_tail3 a n p).kasWp cmp G s:=by
 unfold kas_tail3;rw[gw];exact me O hc (kg v 0 a) (n-a) a h1 (by lia) (Ff v h2 S) fun m q1 q2 q3 _=>h m _ (kg v 0 a) (by lia) (by lia) q3
theorem vM{p:Array Nat}(v:Va n p){a:Nat}{G:Nat×Array Nat->ε->Prop}(h1:1≤a)(h2:a+1≤n)(S:Ni lt p (a+1))(h:∀m p',Va n p'->1≤m->m≤n->So lt p' m->G (m,p') s):(kas_descPart a n p).kasWp cmp G s:=by
 unfold kas_descPart;rw[gw];refine px O hc (n-(a+1)) p (a+1) 0 v (by lia) (by lia) S (fun i j i1 i2 j1 j2=>?_) fun p' m q' r1 r2 r3 r4 r5 r6=>?_
 ·have e1:i=a:=by lia
  have e2:j=a:=by lia
  rw[e1,e2];exact O.refl (v.inr (by lia))
 ·dsimp only;by_cases hq:q' > 0
  ·rw[if_pos hq];exact vw O hc (kg r1 _ _) (by lia) (by lia) (ue r1 (ω _) (by lia) r5 r6) h
  ·rw[if_neg hq];exact vw O hc r1 (by lia) (by lia) r5 h
theorem BP{p:Array Nat}(v:Va n p){G:Nat×Array Nat->ε->Prop}(hn:1≤n)(h:∀m p',Va n p'->1≤m->m≤n->So lt p' m->G (m,p') s):(kas_count n p).kasWp cmp G s:=by
 unfold kas_count;rw[gw];refine me O hc v (n-1) 1 (ω _) (by lia) (So.one O v hn) fun a q1 q2 q3 q4=>?_;have L:∀k,k<n->g p k<n:=fun k hk=>v.inr hk;by_cases e1:(a==n)=true
 ·rw[if_pos e1];exact h a p v q1 (by lia) q3
 ·rw[if_neg e1];have hne:a≠n:=fun z=>e1 (by rw[z];exact beq_self_eq_true _);have hlt:lt (g p a) (g p (a-1))=true:=by
   rcases q4 with q4|q4
   ·lia
   ·exact q4
  have hle:=O.gU _ _ (L a (by lia)) (L (a-1) (by lia)) hlt;by_cases e2:a > 1
  ·rw[if_pos e2];show cmp _ _ _ s;refine hc _ _ (v.inr (by lia)) (v.inr (by lia)) _ s ?_;cases hb:lt (g p 0) (g p (a-1)) with
   |true=>
    ((try dsimp only);rw[if_pos rfl])
    exact h a p v q1 (by lia) q3
   |false=>
    ((try dsimp only);rw[if_neg ai])
    -- all of the run are alike
    have eqv:Ae lt p 0 a:=fun i j i1 i2 j1 j2=>by
     have h1:lt (g p i) (g p 0)=false:=q3 0 i (by lia) i2;have h2:lt (g p (a-1)) (g p j)=false:=q3 j (a-1) (by lia) (by lia);have h3:lt (g p 0) (g p j)=false:=O.dz _ _ _ (L j (by lia)) (L (a-1) (by lia)) (L 0 (by lia)) h2 hb;have h4:lt (g p (a-1)) (g p i)=false:=q3 i (a-1) (by lia) (by lia);exact O.dz _ _ _ (L j (by lia)) (L 0 (by lia)) (L i (by lia)) h3 h1
    have ni:Ni lt p (a+1):=Ni.next O v (by lia) (by lia) (fun i j hij hj=>eqv i j (by lia) (by lia) (by lia) hj) hle
    exact vM O hc (kg v _ _) (by lia) (by lia) (ue v (by lia) (by lia) ni eqv) h
  ·rw[if_neg e2];have ea:a=1:=by lia
   subst ea;refine vM O hc v (ω _) (by lia) (Ni.next O v (by lia) (by lia) (fun i j hij hj=>?_) hle) h
   have e3:i=0:=by lia
   have e4:j=0:=by lia
   rw[e3,e4];exact O.refl (L 0 (by lia))
theorem pZ{p:Array Nat}(v:Va n p){k:Nat}(hk:k<n)(S:So lt p k){G:Nat->ε->Prop}:∀(f l r:Nat),l≤r->r≤k->r-l≤f->(∀i,i<l->lt (g p k) (g p i)=false)->(∀i,r≤i->i<k->lt (g p k) (g p i)=true) ->
  (∀l,l≤k->(∀i,i<l->lt (g p k) (g p i)=false)->(∀i,l≤i->i<k->lt (g p k) (g p i)=true)->G l s)->(kas_place p k f l r).kasWp cmp G s
 |0,l,r,h1,h2,h3,h4,h5,h=>by
  have e:l=r:=by lia
  subst e;exact h l h2 h4 h5
 |f+1,l,r,h1,h2,h3,h4,h5,h=>by
  unfold kas_place;by_cases hlr:l≥r
  ·rw[if_pos hlr];have e:l=r:=by lia
   subst e;exact h l h2 h4 h5
  ·rw[if_neg hlr];show cmp _ _ _ s;refine hc _ _ (v.inr hk) (v.inr (by lia)) _ s ?_;have L:∀k,k<n->g p k<n:=fun k hk=>v.inr hk;cases hb:lt (g p k) (g p ((l+r) / 2)) with
   |true=>
    ((try dsimp only);rw[if_pos rfl])
    refine pZ v hk S f l ((l+r) / 2) (by lia) (by lia) (by lia) h4 (fun i i1 i2=>?_) h;by_cases hri:r≤i
    ·exact h5 i hri i2
    ·cases hx:lt (g p k) (g p i) with
     |true=>rfl
     |false=>
      have h6:lt (g p i) (g p ((l+r) / 2))=false:=S _ _ i1 i2;have:=O.dz _ _ _ (L ((l+r) / 2) (by lia)) (L i (by lia)) (L k hk) h6 hx;rw[hb] at this;exact this.symm
   |false=>
    ((try dsimp only);rw[if_neg ai])
    refine pZ v hk S f ((l+r) / 2+1) r (by lia) h2 (by lia) (fun i hi=>?_) h5 h;exact O.dz _ _ _ (L i (by lia)) (L ((l+r) / 2) (by lia)) (L k hk) (S i ((l+r) / 2) (by lia) (by lia)) hb
theorem Ab{G:Array Nat->ε->Prop}:∀(f:Nat) (p:Array Nat) (k:Nat),Va n p->k+f=n->So lt p k->(∀p',Va n p'->So lt p' n->G p' s)->(kas_bin f p k).kasWp cmp G s
 | 0,p,k,v,hk,S,h=>h p v (by
  have e:k=n:=by lia
  rw[←e];exact S)
 |f+1,p,k,v,hk,S,h=>by
  show ((kas_place p k k 0 k).bind fun l=>kas_bin f (bubble p k (k-l)) (k+1)).kasWp cmp G s;rw[gw];refine pZ O hc v (by lia) S k 0 k (by lia) (ω _) (by lia) (fun i hi=>by lia) (fun i i1 i2=>by lia) fun l hl q1 q2=>?_;have v':Va n (bubble p k (k-l)):=⟨(bubble_perm p k (k-l)).toList.trans v.perm⟩;have L:∀k,k<n->g p k<n:=fun k hk=>v.inr hk;have bg:∀i,i<n->g (bubble p k (k-l)) i=if i=l then g p k else if l<i/\i≤k then g p (i-1) else g p i:=fun i hi=>by
   have h1:=getElem?_bubble (xs:=p) (src:=k) (by rw[v.size];lia) (k-l) (by lia) i;rw[v'.get hi,show k-(k-l)=l by lia] at h1;by_cases c1:i=l
   ·rw[if_pos c1] at h1 ⊢;rw[v.get (by lia)] at h1;exact aw h1
   ·rw[if_neg c1] at h1 ⊢;by_cases c2:l<i/\i≤k
    ·rw[if_pos c2] at h1 ⊢;rw[v.get (by lia)] at h1;exact aw h1
    ·rw[if_neg c2] at h1 ⊢;rw[v.get hi] at h1;exact aw h1
  refine Ab f _ (k+1) v' (by lia) (fun i j hij hj=>?_) h;rw[bg i (by lia),bg j (by lia)];by_cases ci:i=l
  ·rw[if_pos ci];by_cases cj:j=l
   ·rw[if_pos cj];exact O.refl (L k (by lia))
   ·rw[if_neg cj,if_pos (by lia)];exact O.gU _ _ (L k (by lia)) (L _ (by lia)) (q2 (j-1) (by lia) (by lia))
  ·rw[if_neg ci];by_cases cj:j=l
   ·rw[if_pos cj,if_neg (by lia)];exact q1 i (by lia)
   ·rw[if_neg cj];by_cases c3:l<i/\i≤k
    ·rw[if_pos c3,if_pos (by lia)];exact S (i-1) (j-1) (by lia) (by lia)
    ·rw[if_neg c3];by_cases c4:l<j/\j≤k
     ·rw[if_pos c4];exact S i (j-1) (by lia) (by lia)
     ·rw[if_neg c4];exact S i j hij (by lia)
theorem Dw{G:Array Nat->ε->Prop}(hn:1≤n)(h:∀p,Va n p->So lt p n->G p s):(kas_sort n).kasWp cmp G s:=by
 unfold kas_sort;rw[gw];have v0:Va n (cY (aS n)):=⟨by simp⟩;refine BP O hc v0 hn fun m p' v m1 m2 S=>?_;dsimp only;by_cases hm:m<n
 ·rw[if_pos hm];have e:max m 1=m:=by lia
  rw[e];exact Ab O hc (n-m) p' m v (by lia) S h
 ·rw[if_neg hm];have e:m=n:=by lia
  subst e;exact h p' v S
end
end Ip
namespace hX
open PySem
section
variable {prog:aq} {w:aC} {A:aZ} {E:γ->ε->Prop} {s:ε}
abbrev iR(prog:aq)(w:aC)(h:az)(ks:List Int)(a:ζ):Prop:=IsTupleKey (intKind prog w) h ks a
end
end hX
namespace cL
open PySem PySem.W PyProof.Rows hX Ip
def lx:List Int->List Int->Bool
 |[],[]=>false
 |[],_::_=>true
 |_::_,[]=>false
 |x::xs,y::ys=>if x=y then lx xs ys else decide (x<y)
theorem oj:∀{x y:List Int},lx x y=true->lx y x=false
 |[],[],h=>by cases h
 |[],_::_,_=>rfl
 |_::_,[],h=>by cases h
 |x::xs,y::ys,h=>by
  unfold lx at h ⊢;by_cases e:x=y
  ·rw[if_pos e] at h;rw[if_pos e.symm];exact oj h
  ·rw[if_neg e] at h;rw[if_neg (fR e)];have:=of_decide_eq_true h;exact decide_eq_false (by lia)
theorem oi:∀{a b c:List Int},lx b a=false->lx c b=false->lx c a=false
 |[],b,[],_,_=>rfl
 |[],[],c::cs,_,h=>h
 |[],b::bs,c::cs,h,_=>rfl
 |a::as,[],c,h,_=>by cases h
 |a::as,b::bs,[],_,h=>by cases h
 |a::as,b::bs,c::cs,h1,h2=>by
  unfold lx at h1 h2 ⊢;by_cases e1:b=a
  ·rw[if_pos e1] at h1;by_cases e2:c=b
   ·rw[if_pos e2] at h2;rw[if_pos (e2.trans e1)];exact oi h1 h2
   ·rw[if_neg e2] at h2;have:=of_decide_eq_false h2;by_cases e3:c=a
    ·lia
    ·rw[if_neg e3];exact decide_eq_false (by lia)
  ·rw[if_neg e1] at h1;have:=of_decide_eq_false h1;by_cases e2:c=b
   ·rw[if_neg (by lia)];exact decide_eq_false (by lia)
   ·rw[if_neg e2] at h2;have:=of_decide_eq_false h2;by_cases e3:c=a
    ·lia
    ·rw[if_neg e3];exact decide_eq_false (by lia)
section
variable {prog:aq} {w:aC} {A:aZ} {E:γ->ε->Prop} {s:ε}
theorem GR{Q:Bool->ε->Prop}:∀(xs ys:List Int) (us vs:List γ) (i:Nat) (fin:Bool),ItemsAre (intKind prog w) xs us->ItemsAre (intKind prog w) ys vs ->
  (fin=decide (us.length<vs.length)∨∃n m,fin=decide (n+us.length<n+vs.length)/\m=n)->Q (lx xs ys) s->KatLex prog w A true fin Q (us.zip vs) i s:=by
 intro xs
 induction xs with
 |nil=>
  intro ys us vs i fin h1 h2 hf h;cases h1;cases h2 with
  |nil=>
   have:fin=false:=by
    rcases hf with hf|⟨n,m,hf,_⟩<;>simp at hf<;>exact hf
   rw[this];exact mm h
  |cons h3 h4=>
   have:fin=true:=by
    rcases hf with hf|⟨n,m,hf,_⟩<;>rw[hf]<;>simp
   rw[this];exact mm h
 |cons x xs ih=>
  intro ys us vs i fin h1 h2 hf h;cases h1 with
  |cons h1 h1'=>
  cases h2 with
  |nil=>
   have:fin=false:=by
    rcases hf with hf|⟨n,m,hf,_⟩<;>rw[hf]<;>simp
   rw[this];exact mm h
  |cons h3 h4=>
   obtain⟨t,rfl⟩:=fF h1;obtain⟨t',rfl⟩:=fF h3;refine kat_cons (wpAny_eqBool_int ?_);unfold lx at h;rename_i _ y ys _;by_cases e:x=y
   ·rw[if_pos e] at h;have:(x==y)=true:=by simpa using e
    rw[this];refine kat_yes (ih ys _ _ (i+1) fin h1' h4 (.inr ?_) h);rcases hf with hf|⟨n,m,hf,_⟩
    ·exact⟨1,1,by rw[hf];simp[Nat.add_comm],rfl⟩
    ·exact⟨n+1,n+1,by rw[hf];congr 1;simp only[aI];apply propext;lia,rfl⟩
   ·rw[if_neg e] at h;have:(x==y)=false:=by simpa using e
    rw[this];refine kat_no ?_;by_cases hi:i=0
    ·subst hi;exact oneLt_int h
    ·have hb:(true&&i==0)=false:=by simp[hi]
     rw[hb];exact kat_one _ _ (lt_int h)
theorem Bc{Q:Bool->ε->Prop}{x y:List Int}{a b:ζ}(hx:iR prog w s.heap x a)(hy:iR prog w s.heap y b)(h:Q (lx x y) s):Ψ (model prog w) A (keyLt' (tuples' true) (.ref a) (.ref b)) Q E s:=by
 obtain⟨o,its,n,ho,_,hd,hi⟩:=hx;obtain⟨o',its',n',ho',_,hd',hi'⟩:=hy;exact kat_lt ho hd ho' hd' (GR x y its.toList its'.toList 0 _ hi hi' (.inl (by simp)) h)
def qA{α:Type}(lt:α->α->Bool)(d:α)(ps:List α)(i j:Nat):Bool:=lt (ps.getD i d) (ps.getD j d)
structure oE{α:Type}(lt:α->α->Bool):Prop where
 gU:∀x y,lt x y=true->lt y x=false
 dz:∀x y z,lt y x=false->lt z y=false->lt z x=false
theorem DM{α:Type}{lt:α->α->Bool}(O:oE lt)(d:α)(ps:List α)(n:Nat):Ord n (qA lt d ps):=⟨fun a b _ _ h=>O.gU _ _ h,fun a b c _ _ _ h1 h2=>O.dz _ _ _ h1 h2⟩
abbrev GF(x y:List Int×ζ):Bool:=lx x.1 y.1
abbrev fT(p:List Int×ζ):γ:=.ref p.2
theorem K3:oE GF:=⟨fun _ _ h=>oj h,fun _ _ _ h1 h2=>oi h1 h2⟩
def Lw(n:Nat)(lt:Nat->Nat->Bool)(i j:Nat)(C:Bool->ε->Prop)(s:ε):Prop:=i<n/\j<n/\C (lt i j) s
theorem conv{α:Type}{n:Nat}{lt:Nat->Nat->Bool}{κ:bN}{vs:List γ}{Q:α->ε->Prop}(ha:∀i j,i<n->j<n->∀C:Bool->ε->Prop,C (lt i j) s->i8 prog w A κ vs i j C s):
  ∀t:KasT α,t.kasWp (Lw n lt) Q s->t.kasWp (i8 prog w A κ vs) Q s
 |.ret a,h=>h
 |.ask i j k,h=>by
  obtain⟨h1,h2,h3⟩:=h;exact ha i j h1 h2 _ (conv ha (k (lt i j)) h3)
theorem getD_map{α:Type}{f:α->γ}{d:α}{ps:List α}{i:Nat}(hi:i<ps.length):(ps.map f).getD i jR=f (ps.getD i d):=by
 simp[ju,hi]
theorem getD_mem{ps:List (List Int×ζ)}{i:Nat}(hi:i<ps.length):ps.getD i ([],0)∈ps:=by
 simp[ju,hi]
theorem Ie{ps:List (List Int×ζ)}(hk:∀p∈ps,iR prog w s.heap p.1 p.2):∀i j,i<ps.length->j<ps.length->∀C:Bool->ε->Prop,C (qA GF ([],0) ps i j) s->i8 prog w A (tuples' true) (ps.map fT) i j C s:=fun i j hi hj C h=>by
 unfold i8;rw[getD_map (d:=([],0)) hi,getD_map (d:=([],0)) hj];exact Bc (hk _ (getD_mem hi)) (hk _ (getD_mem hj)) h
theorem vq{h:az}:∀{ps:List (List Int×ζ)},(∀p∈ps,iR prog w h p.1 p.2/\p.1≠[])->∃fs,KatTups h (ps.map fun p=>cu p.2) fs/\fs.length=ps.length/\∀v∈fs,∃i t,v=.int i t
 |[],_=>⟨[],.nil,rfl,fun v hv=>nomatch hv⟩
 |p::ps,hk=>by
  obtain⟨fs,h1,h2,h3⟩:=vq (ps:=ps) fun q hq=>hk q (ab _ hq);obtain⟨⟨o,its,n,ho,hc,hd,hi⟩,hne⟩:=hk p Ω;obtain⟨ks,a⟩:=p;cases ks with
  |nil=>exact absurd rfl hne
  |cons k ks=>
   obtain⟨its⟩:=its;cases hi with
   |cons h4 h5=>
    rename_i v vs;obtain⟨t,e⟩:=fF h4;refine⟨v::fs,KatTups.cons ho hc hd (by simp) h1,by simp[h2],fun u hu=>?_⟩;rcases bf.mp hu with q|q
    ·exact⟨k,t,q.trans e⟩
    ·exact h3 u q
theorem Es{ps:List (List Int×ζ)}(hne:ps≠[])(hk:∀p∈ps,iR prog w s.heap p.1 p.2/\p.1≠[]){Q:bN->ε->Prop}(h:Q (tuples' true) s):Ψ (model prog w) A (keyKind' (ps.map fT).toArray) Q E s:=by
 obtain⟨fs,h1,h2,h3⟩:=vq hk;have hl:0<fs.length:=by
  rw[h2];exact nE.mpr hne
 refine kat_kind (T:=.type "int") h1 hl (fun v hv=>?_) rfl h;obtain⟨i,t,rfl⟩:=h3 v hv;exact .now
structure kv{α:Type}(lt:α->α->Bool)(ps qs:List α):Prop where
 perm:qs.Perm ps
 rise:qs.Pairwise fun x y=>lt y x=false
abbrev Kw(ps qs:List (List Int×ζ)):Prop:=kv GF ps qs
theorem EY{α:Type}{lt:α->α->Bool}{d:α}{ps:List α}{p:Array Nat}(v:Va ps.length p)(S:So (qA lt d ps) p ps.length):kv lt ps (p.toList.map fun i=>ps.getD i d):=by
 refine⟨?_,?_⟩
 ·refine (v.perm.map _).trans ?_;have:(aS ps.length).map (fun i=>ps.getD i d)=ps:=by
   refine g0 fun i=>?_;by_cases hi:i<ps.length
   ·simp[bB,gn hi,ju,hi]
   ·rw[di.mpr (by simpa using hi),di.mpr (by lia)]
  rw[this]
 ·rw[dv,jS];intro i j hi hj hij;have hs:=v.size;have h1:i<ps.length:=by rw[←hs];simpa using hi
  have h2:j<ps.length:=by rw[←hs];simpa using hj
  have e1:p.toList[i]=g p i:=by
   have:=v.get h1;simp[g,rm,hs,h1]
  have e2:p.toList[j]=g p j:=by simp[g,rm,hs,h2]
  rw[e1,e2];exact S i j (kF hij) h2
theorem FT{α:Type}{f:α->γ}{d:α}{ps:List α}{p:Array Nat}(v:Va ps.length p):(p.toList.map fun i=>(ps.map f).getD i jR)=(p.toList.map fun i=>ps.getD i d).map f:=by
 rw[bL];refine b9 fun i hi=>?_;have:i<ps.length:=by
  have:=v.perm.mem_iff.mp hi;simpa using this
 exact getD_map this
theorem uG{α:Type}{lt:α->α->Bool}{f:α->γ}{d:α}{κ:bN}(O:oE lt){a:ζ}{n:Nat}{ps:List α}{P:PySem.Fin->ε->Prop}(ho:s.heap.get? a=some (seqObj "list" (ps.map f).toArray n))
  (hk:∀h',(∀b o,b≠a->s.heap.get? b=some o->h'.get? b=some o)->(∀(Q:bN->ε->Prop) (E':γ->ε->Prop),Q κ { s with heap:=h' }->Ψ (model prog w) A (keyKind' (ps.map f).toArray) Q E' { s with heap:=h' }) ∧
   ∀i j,i<ps.length->j<ps.length->∀C:Bool->ε->Prop,C (qA lt d ps i j) { s with heap:=h' }->i8 prog w A κ (ps.map f) i j C { s with heap:=h' }) (h2:2≤ps.length) (h64:ps.length<64)
  (h:∀qs h' c,kv lt ps qs->h'.get? a=some (seqObj "list" (qs.map f).toArray c)->(∀b o,b≠a->s.heap.get? b=some o->h'.get? b=some o)->P (.done (.ret .none)) { s with heap:=h' }):
  Ψ (model prog w) A (mB.«list.sort» ⟨[.ref a],[]⟩) P E s:=by
 have ha:a<s.heap.objs.size:=aa ho;have s1:=dI s.heap a (aO fun _=>(#[]:Array γ));obtain⟨e1,ho1⟩:∃e1,(s.heap.update a (aO fun _=>(#[]:Array γ))).get? a=some (seqObj "list" #[] e1):=⟨_,et ho fun _=>#[]⟩;generalize hvs:(ps.map f)=vs at ho;have hlen:vs.length=ps.length:=by rw[←hvs,θ]
 have hu3:∀b o,b≠a->s.heap.get? b=some o->(((s.heap.update a (aO fun _=>(#[]:Array γ))).push (seqObj "tuple" vs.toArray 0)).push (seqObj "list" #[] 0)).get? b=some o:=fun b o hb e=>
  ρ _ (ρ _ ((s1.2 b hb).trans e))
 have ho3:(((s.heap.update a (aO fun _=>(#[]:Array γ))).push (seqObj "tuple" vs.toArray 0)).push (seqObj "list" #[] 0)).get? a=some (seqObj "list" #[] e1):=ρ _ (ρ _ ho1);rw[lb];refine Θ (iJ ho rfl ?_);refine Θ (fj ho rfl ?_ (by rw[ο,cI];lia) (aK _));refine Θ (g6 ho1 rfl ?_);refine Θ (ml ?_ (by show vs.length≤_;rw[cI];lia));refine Θ (gh ?_ (aK _));refine eE ?_;show Ψ (model prog w) A _ P E { s with heap:=((s.heap.update a (aO fun _=>(#[]:Array γ))).push (seqObj "tuple" vs.toArray 0)).push (seqObj "list" #[] 0)};generalize ((s.heap.update a (aO fun _=>(#[]:Array γ))).push (seqObj "tuple" vs.toArray 0)).push (seqObj "list" #[] 0)=h3 at hu3 ho3 ⊢;obtain⟨hk1,hk2⟩:=hk h3 hu3;dsimp only;have hn2:¬vs.toArray.size<2:=by rw[ο];lia
 rw[if_neg hn2,if_neg hn2];refine Θ ?_;rw[←hvs];refine hk1 _ _ ?_;have hsort:(kas_sort vs.length).kasWp (i8 prog w A κ (ps.map f)) (fun p s'=>s'={ s with heap:=h3 }/\Va ps.length p/\So (qA lt d ps) p ps.length) { s with heap:=h3 }:=by
  refine conv (lt:=qA lt d ps) (n:=ps.length) hk2 _ ?_
  rw[hlen];exact Dw (DM O d ps ps.length) (fun i j hi hj C s' hC=>⟨hi,hj,hC⟩) (by lia) fun p v S=>⟨rfl,v,S⟩
 have hsort:(kas_sort (ps.map f).length).kasWp (i8 prog w A κ (ps.map f)) (fun p s'=>s'={ s with heap:=h3 }/\Va ps.length p/\So (qA lt d ps) p ps.length) { s with heap:=h3 }:=by
  rw[hlen] at hsort;rw[θ];exact hsort
 refine Θ (cZ (kat_run (Q:=fun st' s'=>∃p:Array Nat,p.size=(ps.map f).length/\arrOf st'=p.map (kas_item ((ps.map f).toArray.zip (ps.map f).toArray))/\failedOf st'=none/\s'={ s with heap:=h3 }/\Va ps.length p/\So (qA lt d ps) p ps.length)
  rfl (by rw[θ];exact h2) (by rw[θ];exact h64) (fun p' st' s' a1 a2 a3 a4=>⟨p',a1,a2,a3,a4⟩) hsort) ?_ fun _ _ e=>e)
 rintro⟨⟨⟩,st'⟩ s' ⟨p,hp,har,hf,rfl,va,so⟩;dsimp only;have hout:=kat_snds rfl har;rw[FT va] at hout;have hS:=EY va so;generalize (p.toList.map fun i=>ps.getD i d)=qs at hout hS;have qM:(cY (qs.map f)).size=ps.length:=by rw[ο,θ,hS.perm.length_eq]
 rw[hout];have s2:=dI h3 a (aO fun _=>cY (qs.map f));obtain⟨c2,hc2⟩:∃c2,(h3.update a (aO fun _=>cY (qs.map f))).get? a=some (seqObj "list" (cY (qs.map f)) c2):=⟨_,et ho3 fun _=>cY (qs.map f)⟩;refine Θ (g6 ho3 rfl ?_);refine Θ (fj ho3 rfl ?_ (aK _) (aD (oP qM) (by rw[cI];lia)));rw[hf];simp only[bne_self_eq_false,gK,if_false];exact bt (h qs _ c2 hS hc2 fun b o hb e=>(s2.2 b hb).trans (hu3 b o hb e))
theorem nr{a:ζ}{n:Nat}{vs:List γ}{P:PySem.Fin->ε->Prop}(ho:s.heap.get? a=some (seqObj "list" vs.toArray n))(h2:vs.length<2)
  (h:∀h' c,h'.get? a=some (seqObj "list" vs.toArray c)->(∀b o,b≠a->s.heap.get? b=some o->h'.get? b=some o)->P (.done (.ret .none)) { s with heap:=h' }):
  Ψ (model prog w) A (mB.«list.sort» ⟨[.ref a],[]⟩) P E s:=by
 have s1:=dI s.heap a (aO fun _=>(#[]:Array γ));obtain⟨e1,ho1⟩:∃e1,(s.heap.update a (aO fun _=>(#[]:Array γ))).get? a=some (seqObj "list" #[] e1):=⟨_,et ho fun _=>#[]⟩;have hu3:∀b o,b≠a->s.heap.get? b=some o->(((s.heap.update a (aO fun _=>(#[]:Array γ))).push (seqObj "tuple" vs.toArray 0)).push (seqObj "list" #[] 0)).get? b=some o:=fun b o hb e=>
  ρ _ (ρ _ ((s1.2 b hb).trans e))
 have ho3:(((s.heap.update a (aO fun _=>(#[]:Array γ))).push (seqObj "tuple" vs.toArray 0)).push (seqObj "list" #[] 0)).get? a=some (seqObj "list" #[] e1):=ρ _ (ρ _ ho1);rw[lb];refine Θ (iJ ho rfl ?_);refine Θ (fj ho rfl ?_ (by rw[ο,cI];lia) (aK _));refine Θ (g6 ho1 rfl ?_);refine Θ (ml ?_ (by show vs.length≤_;rw[cI];lia));refine Θ (gh ?_ (aK _));refine eE ?_;show Ψ (model prog w) A _ P E { s with heap:=((s.heap.update a (aO fun _=>(#[]:Array γ))).push (seqObj "tuple" vs.toArray 0)).push (seqObj "list" #[] 0)};generalize ((s.heap.update a (aO fun _=>(#[]:Array γ))).push (seqObj "tuple" vs.toArray 0)).push (seqObj "list" #[] 0)=h3 at hu3 ho3 ⊢;dsimp only;have hn2:vs.toArray.size<2:=by rw[ο];lia
 rw[if_pos hn2,if_pos hn2];refine Θ (bt ?_);rw[StateT.run_pure];refine Θ (bt ?_);dsimp only;have hout:(arrOf (m8 general' (vs.toArray.zip vs.toArray) #[] 7 none)).map (·.2)=vs.toArray:=by
  show (vs.toArray.zip vs.toArray).map (·.2)=vs.toArray;refine Array.ext (by simp) fun i h1 h2=>?_;simp
 rw[hout];have s2:=dI h3 a (aO fun _=>vs.toArray);obtain⟨c2,hc2⟩:∃c2,(h3.update a (aO fun _=>vs.toArray)).get? a=some (seqObj "list" vs.toArray c2):=⟨_,et ho3 fun _=>vs.toArray⟩;refine Θ (g6 ho3 rfl ?_);refine Θ (fj ho3 rfl ?_ (aK _) (by rw[ο,cI];lia));simp only[bne_self_eq_false,gK,if_false];exact bt (h _ c2 hc2 fun b o hb e=>(s2.2 b hb).trans (hu3 b o hb e))
theorem Bg{h h':az}{ks:List Int}{a:ζ}(keep:∀c o,h.get? c=some o->h'.get? c=some o)(hk:iR prog w h ks a):iR prog w h' ks a:=by
 obtain⟨o,it,m,ho,r⟩:=hk;exact⟨o,it,m,keep a o ho,r⟩
theorem wL{α:Type}{lt:α->α->Bool}{f:α->γ}{d:α}{κ:bN}(O:oE lt){l:ζ}{ps:List α}{Q:γ->ε->Prop}
  (hk:∀s':ε,2≤ps.length->(∀b o,s.heap.get? b=some o->s'.heap.get? b=some o)->(∀(Q:bN->ε->Prop) (E':γ->ε->Prop),Q κ s'->Ψ (model prog w) A.in1.in1 (keyKind' (ps.map f).toArray) Q E' s') ∧
   ∀i j,i<ps.length->j<ps.length->∀C:Bool->ε->Prop,C (qA lt d ps i j) s'->i8 prog w A.in1.in1 κ (ps.map f) i j C s') (h64:ps.length<64)
  (uJ:∀(R:List γ->ε->Prop),(∀s',nc [] (fun x y=>y=x) s s'->R (ps.map f) s')->Ψ (model prog w) A.in1 (collect (.ref l)) R E s)
  (h:∀qs s' c D,kv lt ps qs->s.heap.get? D=none->s'.heap.get? D=some (seqObj "list" (qs.map f).toArray c)->nc [] (fun x y=>y=x) s s'->Q (.ref D) s'):
  Ψ (model prog w) A (call (.builtin "sorted") [.ref l]) Q E s:=by
 refine jV kind_sorted plain_sorted entry_sorted (args_sorted1 _) ?_;unfold mB.«sorted»;refine Θ (m:=checkCount "sorted" 1 1 _) (bt ?_);refine Θ (uJ _ fun s1 hm=>?_);refine Θ (gh ?_ (by rw[θ,cI];lia));have hoL:(s1.heap.push (seqObj "list" (ps.map f).toArray 0)).get? s1.heap.objs.size=some (seqObj "list" (ps.map f).toArray 0):=aQ _ rfl;have keep0:∀b o,s.heap.get? b=some o->s1.heap.get? b=some o:=fun b o e=>hm.heap b o (fun z=>nomatch z) e;have hfr:s.heap.get? s1.heap.objs.size=none:=by
  cases hz:s.heap.get? s1.heap.objs.size with
  |none=>rfl
  |some o=>exact absurd (aa (keep0 _ _ hz)) (dC _)
 have keep:∀b o,s.heap.get? b=some o->(s1.heap.push (seqObj "list" (ps.map f).toArray 0)).get? b=some o:=fun b o e=>ρ _ (keep0 b o e);show Ψ _ _ _ _ _ { s1 with heap:=s1.heap.push (seqObj "list" (ps.map f).toArray 0)};refine Θ (eE (wpAny_call_entry slot_list_sort ⟨_,hoL,rfl⟩ entry_list_sort ?body (args_list_sort _)));have fin:∀qs h' c,kv lt ps qs->h'.get? s1.heap.objs.size=some (seqObj "list" (qs.map f).toArray c)->(∀b o,b≠s1.heap.objs.size->(s1.heap.push (seqObj "list" (ps.map f).toArray 0)).get? b=some o->h'.get? b=some o)->Q (.ref s1.heap.objs.size) { s1 with heap:=h' }:=fun qs h' c hS e kk=>
  h qs _ c _ hS hfr e ⟨fun b o _ e1=>kk b o (bK (aa (keep0 b o e1))) (keep b o e1),hm.gens,hm.drawn,hm.os,hm.toks⟩
 case body=>
  by_cases h2:2≤ps.length
  ·refine uG O (s:={ s1 with heap:=s1.heap.push (seqObj "list" (ps.map f).toArray 0)}) hoL (fun h' kk=>hk { s1 with heap:=h' } h2 fun b o e=>kk b o (bK (aa (keep0 b o e))) (keep b o e)) h2 h64 fun qs h' c hS e kk=>?_;exact⟨_,rfl,bt ⟨_,rfl,fin qs h' c hS e kk⟩⟩
  ·refine nr (s:={ s1 with heap:=s1.heap.push (seqObj "list" (ps.map f).toArray 0)}) hoL (by rw[θ];lia) fun h' c e kk=>?_;have hS:kv lt ps ps:=⟨.refl _,by
    rcases ps with _|⟨x,_|⟨y,r⟩⟩
    ·exact .nil
    ·exact bx _ _
    ·simp at h2⟩
   exact⟨_,rfl,bt ⟨_,rfl,fin ps h' c hS e kk⟩⟩
theorem yR{l:ζ}{ps:List (List Int×ζ)}{Q:γ->ε->Prop}(hk:∀p∈ps,iR prog w s.heap p.1 p.2/\p.1≠[])(h64:ps.length<64)
  (uJ:∀(R:List γ->ε->Prop),(∀s',nc [] (fun x y=>y=x) s s'->R (ps.map fT) s')->Ψ (model prog w) A.in1 (collect (.ref l)) R E s)
  (h:∀qs s' c D,Kw ps qs->s.heap.get? D=none->s'.heap.get? D=some (seqObj "list" (qs.map fT).toArray c)->nc [] (fun x y=>y=x) s s'->Q (.ref D) s'):
  Ψ (model prog w) A (call (.builtin "sorted") [.ref l]) Q E s:=by
 refine wL (κ:=tuples' true) (d:=([],0)) K3 (fun s' h2 kk=>?_) h64 uJ h;have hk':∀p∈ps,iR prog w s'.heap p.1 p.2/\p.1≠[]:=fun p hp=>⟨Bg kk (hk p hp).1,(hk p hp).2⟩;exact⟨fun Q E q=>Es (fun z=>by rw[z] at h2;simp at h2) hk' q,Ie fun p hp=>(hk' p hp).1⟩
end
end cL
namespace L3
open PySem PySem.Spec PyProof.Rows L2
structure u5(T:String):Prop where
 ak:∀K,eT K (.type "NoneType") (.type T)=some false
 bl:∀K,eT K (.type "bool") (.type T)=some (T=="bool" || T=="int")
 int:∀K,eT K (.type "int") (.type T)=some (T=="int")
 str:∀K,eT K (.type "str") (.type T)=some (T=="str")
 tup:∀K,eT K (.type "tuple") (.type T)=some (T=="tuple")
 lst:∀K,eT K (.type "list") (.type T)=some (T=="list")
 gg:∀K,eT K (.type "dict") (.type T)=some (T=="dict")
theorem Er:u5 "int":=⟨fun _=>rfl,fun _=>rfl,fun _=>rfl,fun _=>rfl,fun _=>rfl,fun _=>rfl,fun _=>rfl⟩
theorem Ba:u5 "bool":=⟨fun _=>rfl,fun _=>rfl,fun _=>rfl,fun _=>rfl,fun _=>rfl,fun _=>rfl,fun _=>rfl⟩
theorem kit_tuple:u5 "tuple":=⟨fun _=>rfl,fun _=>rfl,fun _=>rfl,fun _=>rfl,fun _=>rfl,fun _=>rfl,fun _=>rfl⟩
theorem A9:u5 "list":=⟨fun _=>rfl,fun _=>rfl,fun _=>rfl,fun _=>rfl,fun _=>rfl,fun _=>rfl,fun _=>rfl⟩
section
variable {X:Cx} {a e:μ} {es:List μ} {ta:aL} {t:cT} {pos p p2:aG}
theorem vm{T:String}(k:u5 T):iG X (.builtin "isinstance") (fun vs H Q=>∃d v G b,vs=[v,.ty T]/\Hv X.K H d v/\aW X.K G H/\iE T G d=some b/\Q (.bl b) H):=by
 intro pins s σ H vs us Q I r h;obtain⟨d,v,G,b,rfl,hd,RG,hb,q⟩:=h;obtain⟨u,c,rfl,ru,rc⟩:=vals2 r;cases (show c=γ.type T from rc);have fin:∀tk,EP X pins σ Q (.bool b) { s with toks:=tk }:=fun tk=>⟨.bl b,H,I.tok tk,rfl,q⟩
 cases d with
 |ak=>
  unfold Hv at hd;subst hd;cases (show u=jR from ru);cases hb;exact cz PySem.W.kitx_none I.jG m7 (k.ak _) (fun z=>nomatch z) fin
 |bl y=>
  rw[qL hd] at ru;cases (show u=iK y from ru);cases hb;exact cz PySem.W.kitx_bool I.jG m7 (k.bl _) (fun z=>nomatch z) fin
 |int y=>
  rw[cF hd] at ru;obtain⟨t,rfl⟩:=(show ∃t,u=oG y t from ru);cases hb;exact cz PySem.W.kitx_int I.jG m7 (k.int _) (fun z=>nomatch z) fin
 |str y=>
  unfold Hv at hd;subst hd;obtain⟨t,rfl⟩:=(show ∃t,u=γ.str y t from ru);cases hb;exact cz PySem.W.kitx_str I.jG m7 (k.str _) (fun z=>nomatch z) fin
 |tup ds=>
  obtain⟨x,xs,rfl,e1,_⟩:=fL hd;cases (show u=cu x from ru);cases hb;obtain⟨its,_,⟨o,h1,h2,_⟩,_⟩:=I.tuple e1;exact cz PySem.W.kitx_tuple I.jG ⟨o,h1,h2⟩ (k.tup _) (fun z=>nomatch z) fin
 |gf ds=>
  obtain⟨x,xs,rfl,e1,_⟩:=lT hd;cases (show u=cu x from ru);cases hb;obtain⟨its,_,p1,_⟩:=I.list e1.l;obtain⟨o,h1,h2,_⟩:=p1.isList;exact cz jJ I.jG ⟨o,h1,h2⟩ (k.lst _) (fun z=>nomatch z) fin
 |dc x=>
  unfold Hv at hd;obtain⟨rfl,ob,φ,e1,c⟩:=hd;cases (show u=cu x from ru);cases hb;obtain⟨h1,_⟩:=I.bT x _ e1;exact cz pE I.jG ⟨ob,h1,c⟩ (k.gg _) (fun z=>nomatch z) fin
 |obj x=>
  rw[eF hd] at ru;cases (show u=cu x from ru);unfold iE at hb;cases hG:G x with
  |none=>simp[hG] at hb
  |some o=>
   have hl:∀xs,H x=some (.lst xs)->∃o,s.heap.get? x=some o/\o.cls=.type "list":=fun xs e=>by
    obtain⟨_,_,n,_,h1⟩:=(show fc X.prog X.w H s.heap x (.lst xs) from I.bT x _ e);exact⟨_,h1,rfl⟩
   cases o with
   |lst ds=>
    simp only[hG] at hb;cases hb;obtain⟨vs,e1,_⟩:=RG x _ hG;obtain⟨o,h1,h2⟩:=hl _ e1;exact cz jJ I.jG ⟨o,h1,h2⟩ (k.lst _) (fun z=>nomatch z) fin
   |nZ=>
    simp only[hG] at hb;cases hb;obtain⟨_,_,_,e1,_⟩:=RG x _ hG;obtain⟨o,h1,h2⟩:=hl _ e1;exact cz jJ I.jG ⟨o,h1,h2⟩ (k.lst _) (fun z=>nomatch z) fin
   |gen R=>simp[hG] at hb
   |gg=>
    simp only[hG] at hb;cases hb;have e1:H x=some (.ext fun h=>∃o,h.get? x=some o/\o.cls=.type "dict"):=RG x _ hG;obtain⟨⟨o,h1,h2⟩,_⟩:=(show fc X.prog X.w H s.heap x _ from I.bT x _ e1);exact cz pE I.jG ⟨o,h1,h2⟩ (k.gg _) (fun z=>nomatch z) fin
theorem HR{T:String}{TS:χ}(k:u5 T)(hv:eX TS=some (.type T))(ha:b0 X a ta)(hm:X.mg "isinstance" = none)(hm2:X.mg TS=none)(hgT:Gl X TS)(hnT:TS≠"__name__")(hdT:(TS==("__debug__":χ))=false)(hg:Gl X "isinstance":=by rfl)
  (he:notStar a=true:=by rfl):
  b0 X (.Call (.Name "isinstance" p) [a,.Name TS p2] [] pos) (mV T ta):=
 fb (iX (vm k) hg hm rfl (lS ha (lS (DV (v:=.ty T) hgT hm2 hv rfl hnT hdT) qB (bW rfl)) (bW he)) (he:=bW he) (hpl:=fv rfl)) fun σ H Q ⟨τ,G,Q3,RS,RG,h,k⟩=>by
  refine⟨τ,G,_,RS,RG,h,fun v H1 d G1 h1 S1 R1 q1=>?_⟩;cases hb:iE T G1 d with
  |none=>rw[hb] at q1;exact q1.elim
  |some b=>
   rw[hb] at q1;exact⟨d,v,G1,b,rfl,h1,R1,hb,k _ H1 (.bl b) G1 iA S1 R1 q1⟩
end
def tupI(ns:List Int):D:=.tup (ns.map D.int)
section
variable {P:aq} {w:aC} {H:Hp} {h:az} {a:ζ} {o:HO}
theorem vb(x:fc P w H h a o):∃o,h.get? a=some o:=by
 cases o with
 |lst xs=>obtain⟨_,_,_,_,e⟩:=x;exact⟨_,e⟩
 |tup xs=>obtain⟨_,_,_,o,e,_⟩:=x;exact⟨_,e⟩
 |dK kvs=>obtain⟨_,_,_,_,o,_,_,e,_⟩:=x;exact⟨_,e⟩
 |dT kvs=>obtain⟨_,_,_,_,o,_,_,e,_⟩:=x;exact⟨_,e⟩
 |set S n=>obtain⟨o,_,_,_,e,_⟩:=x;exact⟨_,e⟩
 |ins C dx fs=>obtain⟨_,_,_,e,_⟩:=x;exact⟨_,e⟩
 |own y=>obtain⟨_,e⟩:=x;exact⟨_,e⟩
 |xd fs=>obtain⟨_,⟨_,_,_,e,_⟩,_⟩:=x;exact⟨_,e⟩
 |Cc lo hi=>obtain⟨_,_,_,e⟩:=x;exact⟨_,e⟩
 |fC ob u=>obtain⟨e,_⟩:=x;exact⟨_,e⟩
 |se ps=>exact⟨_,(show h.get? a=some _ from x)⟩
 |met f y=>exact⟨_,(show h.get? a=some _ from x)⟩
 |ext φ=>obtain⟨_,⟨_,e⟩,_⟩:=x;exact⟨_,e⟩
end
section
variable {X:Cx} {pins:List (ζ×bp)} {σ:L2.St} {H:Hp} {s:ε}
theorem Inv.xH(I:Inv X pins σ H s){a:ζ}(hn:s.heap.get? a=none):H a=none:=by
 cases e:H a with
 |none=>rfl
 |some o=>
  obtain⟨ob,h⟩:=vb (I.bT a o e);rw[hn] at h;cases h
theorem Inv.CL{a:ζ}{o:HO}{t':Nat}{h':az}(I:Inv X pins σ H s)(k:∀b u,s.heap.get? b=some u->h'.get? b=some u)(hn:s.heap.get? a=none)(new:fc X.prog X.w (upd H a o) h' a o):
  Inv X pins σ (upd H a o) { s with heap:=h',toks:=t' }:=by
 have hH:=Inv.xH I hn;have ne:∀b u,s.heap.get? b=some u->b≠a:=fun b u e z=>by rw[z,hn] at e;cases e
 refine I.un ⟨fun b u q _ _ _=>k b u q,fun b u q _ _ _=>⟨u.slots,k b u q⟩,fun b u q n _=>by rw[bD (ne b u q)];exact n,fun b u q _=>⟨u,k b u q⟩,fun b xs q=>by rw[bD (cJ q hH)];exact q,
  fun b u xs q=>by rw[bD (cJ q hH)];exact q,fun b ps q=>⟨#[],by rw[bD (cJ q hH),q];simp⟩⟩ fun b u e=>?_
 by_cases hb:b=a
 ·subst hb;rw[cw] at e;cases e;exact new
 ·rw[bD hb] at e;exact (I.bT b u e).rq (fun c v _ q=>k c v q) (fun c q=>by rw[bD (cJ q hH)];exact q) fun c xs q=>by rw[bD (cJ q hH)];exact q
theorem Be{ns:List Int}:∀{us:List γ},aR (ns.map V.int) us->ItemsAre (intKind X.prog X.w) ns us:=by
 induction ns with
 |nil=>intro us r;cases r;exact .nil
 |cons n ns ih=>
  intro us r;cases r with
  |cons r1 r2=>
   obtain⟨t,rfl⟩:=(show ∃t,_=oG n t from r1);exact .cons (by show pQ n (.int n t)=true;simp[pQ]) (ih r2)
theorem p9(I:Inv X pins σ H s):∀{nss:List (List Int)} {vs:List V} {us:List γ},aB X.K H (nss.map tupI) vs->aR vs us ->
  ∃ps:List (List Int×ζ),ps.map (·.1)=nss/\vs=ps.map (fun p=>.ref p.2)/\us=ps.map (fun p=>cu p.2)/\∀p∈ps,dU X.K H p.2 (p.1.map V.int)/\hX.iR X.prog X.w s.heap p.1 p.2
 |[],vs,us,h,r=>by
  cases h.iD;cases r;exact⟨[],rfl,rfl,rfl,fun p hp=>nomatch hp⟩
 |ns::nss,vs,us,h,r=>by
  obtain⟨v,vr,rfl,q1,q2⟩:=h.inv;cases r with
  |cons r1 r2=>
   obtain⟨ps,e1,e2,e3,e4⟩:=p9 I q2 r2;obtain⟨a,ws,rfl,z1,z2⟩:=fL q1;have hw:ws=ns.map V.int:=by
    refine gi z2 ?_;clear z2 z1 q1 h e1 e2 e3 e4 q2 r2 r1
    induction ns with
    |nil=>rfl
    |cons n ns ih=>simp[intsOf,ih]
   subst hw;cases (show _=cu a from r1);obtain⟨its,rv,⟨o,h1,h2,n,h3⟩,_⟩:=I.tuple z1;refine⟨(ns,a)::ps,by simp[e1],by simp[e2],by simp[e3],fun p hp=>?_⟩;rcases bf.mp hp with rfl|hp
   ·exact⟨z1,o,its.toArray,n,h1,h2,h3,Be rv⟩
   ·exact e4 p hp
theorem sA{K:η}{H:Hp}:∀{qs:List (List Int×ζ)},(∀p∈qs,dU K H p.2 (p.1.map V.int))->aB K H ((qs.map (·.1)).map tupI) (qs.map fun p=>.ref p.2)
 |[],_=>.nil
 |q::qs,h=>.cons (jk (h q Ω) (aB.ints _)) (sA fun p hp=>h p (ab _ hp))
theorem r0:∀(qs:List (List Int×ζ)),aR (qs.map fun p=>V.ref p.2) (qs.map fun p=>cu p.2)
 |[]=>.nil
 |q::qs=>.cons rfl (r0 qs)
def jO(nss:List (List Int)):Prop:=nss.Pairwise fun x y=>cL.lx y x=false
theorem wM{Q:VK}(I:Inv X pins σ H s){ps qs:List (List Int×ζ)}{s':ε}{c:Nat}{D':ζ}(hz:ps.length<64)(hS:cL.Kw ps qs)(hn:s.heap.get? D'=none)(hD:s'.heap.get? D'=some (seqObj "list" (qs.map fun p=>cu p.2).toArray c))
  (hm:nc [] (fun x y=>y=x) s s') (q:H D'=none->Q (.ref D') (upd H D' (.lst (qs.map fun p=>.ref p.2)))):EP X pins σ Q (.ref D') s':=by
 have e:s'={ s with heap:=s'.heap,toks:=s'.toks }:=by
  cases s';cases s;have h1:=hm.gens;have h2:=hm.drawn;have h3:=hm.os;simp only at h1 h2 h3;subst h1 h2 h3;rfl
 rw[e];refine⟨.ref D',_,Inv.CL I (o:=.lst (qs.map fun p=>.ref p.2)) (fun b u z=>hm.heap b u (fun y=>nomatch y) z) hn ?_,rfl,q (Inv.xH I hn)⟩;refine⟨?_,_,c,r0 qs,hD⟩;rw[θ,hS.perm.length_eq,cI];lia
end
end L3
namespace L3
open PySem PySem.Spec PyProof.Rows L2
theorem lq{α β:Type}{f:α->β}{l l':List β}(h:l.Perm l'):∀{zs:List α},l'=zs.map f->∃zs':List α,zs'.Perm zs/\l=zs'.map f:=by
 induction h with
 |nil=>
  intro zs e;have:zs=[]:=by simpa using e.symm
  subst this;exact⟨[],.nil,rfl⟩
 |cons x _ ih=>
  intro zs e;cases zs with
  |nil=>cases e
  |cons z zs=>
   simp only[dD,rk] at e;obtain⟨zs',h1,h2⟩:=ih e.2;exact⟨z::zs',h1.cons z,by simp[e.1,h2]⟩
 |swap x y l=>
  intro zs e;rcases zs with _|⟨z,_|⟨z2,zs⟩⟩
  ·cases e
  ·simp at e
  ·simp only[dD,rk] at e;exact⟨z2::z::zs,.swap _ _ _,by simp[e.1,e.2.1,e.2.2]⟩
 |trans _ _ ih1 ih2=>
  intro zs e;obtain⟨z2,h1,h2⟩:=ih2 e;obtain⟨z1,h3,h4⟩:=ih1 h2;exact⟨z1,h3.trans h1,h4⟩
section
variable {X:Cx} {K:η} {e:μ} {es:List μ} {t:cT} {ta:aL} {pos p p' pos':aG}
def KY:C3:=fun ds G Q=>match ds with
 |[.obj a]=>∃nss:List (List Int),G a=some (.lst (nss.map tupI))/\nss.length<64/\(∀ns∈nss,ns≠[])/\∀(p:ζ) (mss:List (List Int)) (G':Gp),eP G p (.lst (mss.map tupI)) G'->mss.Perm nss->jO mss->Q (.obj p) G'
 |_=>False
def mZ:List D->Option (List Bool)
 |[]=>some []
 |.bl b::r=>(mZ r).map (b::·)
 |_::_=>none
theorem qU{H:Hp}:∀{ds:List D} {vs:List V} {bs:List Bool},aB K H ds vs->mZ ds=some bs->vs=bs.map V.bl
 |[],vs,ns,h,e=>by
  cases e;exact h.iD
 |d::ds,vs,ns,h,e=>by
  cases d with
  |bl i=>
   obtain⟨v,r,rfl,z1,z2⟩:=h.inv;unfold mZ at e;cases hm:mZ ds with
   |none=>rw[hm] at e;cases e
   |some ms=>
    rw[hm] at e;cases e;rw[qL z1,qU z2 hm];rfl
  |_=>cases e
theorem tL:∀{bs:List Bool} {us:List γ},aR (bs.map V.bl) us->us=bs.map iK
 |[],_,.nil=>rfl
 |b::bs,_,.cons r rr=>by
  rw[(show _=iK b from r),tL rr];rfl
theorem range_all(bs:List Bool):(aS bs.length).all (fun i=>bs.getD i false)=bs.all id:=by
 rw[iM];simp only[dQ,dP,id_eq];constructor
 ·intro h b hb;obtain⟨i,hi,rfl⟩:=List.mem_iff_getElem.mp hb;have:=h i hi;simpa [ju,hi] using this
 ·intro h i hi;have:=h bs[i] (kH hi);simpa [ju,hi] using this
theorem EH(hc:X.calm=true){pins:List (ζ×bp)}{s:ε}{σ:L2.St}{H:Hp}{a:ζ}{xs:List V}{E:γ->ε->Prop}(I:Inv X pins σ H s)(hl:fo X.K H a xs){Q:γ->ε->Prop}
  (q:∀(its:List γ) (I':ζ),aR xs its->WalksS X.prog X.w X.A.in1 I' [I',a] [I'] (fun x y=>y=x) its.length (fun i v=>its[i]?=some v) (fun i s=>s.heap.IsListIter I' a i/\s.heap.IsList a its.toArray) ->
   (s.heap.push { cls:=.type "list_iterator",data:=.fields #[.ref a,.int 0 0]}).IsListIter I' a 0->(s.heap.push { cls:=.type "list_iterator",data:=.fields #[.ref a,.int 0 0]}).IsList a its.toArray ->
   (∀b∈[I',a],b<(s.heap.push { cls:=.type "list_iterator",data:=.fields #[.ref a,.int 0 0]}).objs.size) ->
   (∀s',nc [I'] (fun x y=>y=x) { s with heap:=s.heap.push { cls:=.type "list_iterator",data:=.fields #[.ref a,.int 0 0]}} s'->Inv X pins σ H s')->Q (.ref I') { s with heap:=s.heap.push { cls:=.type "list_iterator",data:=.fields #[.ref a,.int 0 0]}}):
  Ψ (model X.prog X.w) X.A.in1 (pyIter (.ref a)) Q E s:=by
 obtain⟨its,rv,pl,_⟩:=I.list hl;have hla:a<s.heap.objs.size:=by
  obtain⟨o,h1,_⟩:=pl.isList;exact aa h1
 refine wpAny_pyIter_list pl.isList ?_;have hW:=(Walks.list (prog:=X.prog) (w:=X.w) (A:=X.A.in1) (by have:=I.ok.hd hc;simpa using this) s.heap.objs.size a (bK hla) its.toArray).toS;refine q its s.heap.objs.size rv (by simpa using hW) ⟨_,aQ _ rfl,rfl,rfl⟩ ?_ ?_ fun s' hm=>?_
 ·obtain⟨o,h1,h2⟩:=pl.isList;exact⟨o,ρ _ h1,h2⟩
 ·intro b hb;rw[size_push'];rcases bf.mp hb with e|e
  ·rw[e];exact Nat.lt_succ_self _
  ·have:b=a:=by simpa using e
   rw[this];exact Nat.lt_succ_of_lt hla
 ·have e:s'={ s with heap:=s'.heap,toks:=s'.toks }:=by
   cases s';cases s;have h1:=hm.gens;have h2:=hm.drawn;have h3:=hm.os;simp only at h1 h2 h3;subst h1 h2 h3;rfl
  rw[e];exact I.kept fun b u z=>hm.heap b u (fun y=>by
   have:b=s.heap.objs.size:=by simpa using y
   exact absurd (this▸aa z) (dC _)) (ρ _ z)
theorem zZ(hc:X.calm=true):iG X (.builtin "all") (fun vs H Q=>∃(a:ζ) (bs:List Bool),vs=[.ref a]/\fo X.K H a (bs.map V.bl)/\Q (.bl (bs.all id)) H):=by
 intro pins s σ H vs us Q I r h;obtain⟨a,bs,rfl,hl,q⟩:=h;obtain⟨u,rfl,ru⟩:=vals1 r;cases ru;refine call_all_walkS (EH hc I hl fun its I' rv W h1 h2 h3 back=>⟨I',_,_,_,_,_,_,fun i=>bs.getD i false,rfl,W,⟨h1,h2⟩,?_,fun s' hm=>?_⟩)
 ·intro i v s' Q' E' hv hq;have hx:=tL rv;subst hx;rw[bB] at hv;cases hb:bs[i]? with
  |none=>rw[hb] at hv;cases hv
  |some b=>
   rw[hb] at hv;cases hv;have:bs.getD i false=b:=by simp[ju,hb]
   dsimp only at hq;rw[this] at hq;exact fE hq
 ·have:its.length=bs.length:=by rw[←rv.length,θ]
  rw[this,range_all];exact⟨.bl (bs.all id),H,back s' hm,rfl,q⟩
def qv:C3:=fun ds G Q=>match ds with
 |[.obj a]=>∃xs bs,G a=some (.lst xs)/\mZ xs=some bs/\Q (.bl (bs.all id)) G
 |_=>False
theorem JY:oF K qv (fun vs H Q=>∃(a:ζ) (bs:List Bool),vs=[.ref a]/\fo K H a (bs.map V.bl)/\Q (.bl (bs.all id)) H):=fun ds vs G H Q3 Q h RG q k=>by
 rcases ds with _|⟨d,_|⟨d2,ds⟩⟩
 ·exact q.elim
 ·obtain⟨v,rfl,hv⟩:=oo h;cases d with
  |obj a=>
   obtain⟨xs,bs,e1,e2,q⟩:=q;obtain⟨ys,e3,e4⟩:=RG a _ e1;rw[eF hv];rw[qU e4 e2] at e3;exact⟨a,bs,rfl,.of e3,k _ H _ G iA (.refl H G) RG q⟩
  |_=>exact q.elim
 ·cases d<;>exact q.elim
theorem HQ(hu:X.A.units+64<cLine)(hm:X.mg "all" = none)(ha:jn X (e::es) t)(hc:X.calm=true:=by rfl)(hg:Gl X "all":=by rfl)(he:notStar e=true:=by rfl)(hpl:es.all notStar=true:=by rfl):
  b0 X (.Call (.Name "all" p) (e::es) [] pos) (fM qv t):=rV JY (iX (zZ hc) hg hm rfl ha (he:=bW he) (hpl:=fv hpl))
end
end L3
namespace L3
open PySem PySem.Spec PyProof.Rows L2
open Classical in
noncomputable def qO (h:az) (vs:List Dat.D) (u:Dat.D) (y:γ):Bool:=if q:∃d,d∈vs/\Dat.Hv h d y then (Classical.choose q).cq u else false
theorem uO{h:az}{vs:List Dat.D}{u d:Dat.D}{y:γ}(hd:d∈vs)(hy:Dat.Hv h d y):qO h vs u y=d.cq u:=by
 unfold qO;have q:∃d,d∈vs/\Dat.Hv h d y:=⟨d,hd,hy⟩;rw[dif_pos q,Dat.Hv.inj (Classical.choose_spec q).2 hy]
theorem mf{h:az}{vs0:List Dat.D}{u:Dat.D}:∀{vs:List Dat.D} {us:List γ},(∀d∈vs,d∈vs0)->Dat.aB h vs us->us.any (qO h vs0 u)=vs.any fun v=>v.cq u
 |[],us,_,p=>by
  unfold Dat.aB at p;subst p;rfl
 |d::ds,us,hm,p=>by
  unfold Dat.aB at p;obtain⟨y,r,rfl,p1,p2⟩:=p;rw[List.any_cons,List.any_cons,uO (hm d Ω) p1,mf (fun d hd=>hm d (ab _ hd)) p2]
theorem rJ{h:az}{y:γ}:∀{vs:List Dat.D} {us:List γ},Dat.aB h vs us->y∈us->∃d,d∈vs/\Dat.Hv h d y
 |[],us,p,hy=>by
  unfold Dat.aB at p;subst p;cases hy
 |d::ds,us,p,hy=>by
  unfold Dat.aB at p;obtain⟨x,r,rfl,p1,p2⟩:=p;rcases bf.mp hy with rfl|hy
  ·exact⟨d,Ω,p1⟩
  ·obtain⟨e,h1,h2⟩:=rJ p2 hy;exact⟨e,ab _ h1,h2⟩
def pY(neg:Bool):R3:=fun x y G Q=>∃u vs,jK G x=some u/\(jK G y=some (.lst vs)∨jK G y=some (.tup vs))/\Dat.dE vs≤50/\Q (.bl (if neg then !(vs.any fun v=>v.cq u) else vs.any fun v=>v.cq u)) G
section
variable {X:Cx}
theorem inR(hu:X.A.units+64<cLine):rY X (compareOp .In) (pY false):=by
 intro pins s σ H G x y vx vy u v Q3 I RG hx hy rx ry ⟨p,vs,e1,e2,hd,h⟩;have dx:=g4 I RG hx rx e1;have fin:EP X pins σ (fun w H'=>∃d G',Hv X.K H' d w/\Step H G H' G'/\aW X.K G' H'/\Q3 d G') (.bool (vs.any fun v=>v.cq p)) s:=⟨.bl _,H,I,rfl,.bl _,G,iA,.refl H G,RG,h⟩;have he:∀(its:List γ),Dat.aB s.heap vs its->∀y,y∈its.toArray->q0 X.A.in1 s y u (qO s.heap vs p y):=fun its hv y hy=>by
  obtain⟨d,hd',hv'⟩:=rJ hv (by simpa using hy);rw[uO hd' hv'];exact Dat.oz d p y u _ hv' dx (by
   have:=Dat.gR hd';have h1:X.A.in1.units=X.A.units+1:=rfl;lia)
 rcases e2 with e2|e2
 ·have dy:=g4 I RG hy ry e2;unfold Dat.Hv at dy;obtain⟨a,its,rfl,hl,hv⟩:=dy;refine SeqAt.in_listAt (qO s.heap vs p) hl (he its hv) ?_;rw[ie,mf (fun d hd=>hd) hv];exact fin
 ·have dy:=g4 I RG hy ry e2;unfold Dat.Hv at dy;obtain⟨a,its,rfl,hl,hv⟩:=dy;refine SeqAt.in_tupleAt (qO s.heap vs p) hl (he its hv) ?_;rw[ie,mf (fun d hd=>hd) hv];exact fin
theorem K6(hu:X.A.units+64<cLine):rY X (compareOp .NotIn) (pY true):=by
 intro pins s σ H G x y vx vy u v Q3 I RG hx hy rx ry ⟨p,vs,e1,e2,hd,h⟩;have dx:=g4 I RG hx rx e1;have fin:EP X pins σ (fun w H'=>∃d G',Hv X.K H' d w/\Step H G H' G'/\aW X.K G' H'/\Q3 d G') (.bool (!(vs.any fun v=>v.cq p))) s:=⟨.bl _,H,I,rfl,.bl _,G,iA,.refl H G,RG,h⟩;have he:∀(its:List γ),Dat.aB s.heap vs its->∀y,y∈its.toArray->q0 X.A.in1 s y u (qO s.heap vs p y):=fun its hv y hy=>by
  obtain⟨d,hd',hv'⟩:=rJ hv (by simpa using hy);rw[uO hd' hv'];exact Dat.oz d p y u _ hv' dx (by
   have:=Dat.gR hd';have h1:X.A.in1.units=X.A.units+1:=rfl;lia)
 rcases e2 with e2|e2
 ·have dy:=g4 I RG hy ry e2;unfold Dat.Hv at dy;obtain⟨a,its,rfl,hl,hv⟩:=dy;refine SeqAt.notIn_listAt (qO s.heap vs p) hl (he its hv) ?_;rw[ie,mf (fun d hd=>hd) hv];exact fin
 ·have dy:=g4 I RG hy ry e2;unfold Dat.Hv at dy;obtain⟨a,its,rfl,hl,hv⟩:=dy;refine SeqAt.notIn_tupleAt (qO s.heap vs p) hl (he its hv) ?_;rw[ie,mf (fun d hd=>hd) hv];exact fin
theorem vN(hu:X.A.units+64<cLine):dB X (compareOp .NotIn) (kU X.K (pY true)):=(K6 hu).op
theorem CM{K:η}:eL K (pY true) (kU K (pY true)):=xu
end
section
variable {X:Cx} {a b:μ} {ta:TA} {p p2 pos pos2:aG}
theorem r9:∀(acc:List γ) (i:Int),(∀(k:Nat) v,acc[k]?=some v->∃t,v=.int (i+(k:Int)) t)->aR ((aS acc.length).map fun k:Nat=>V.int (i+(k:Int))) acc
 |[],_,_=>.nil
 |v::acc,i,h=>by
  rw[aI,lD,dD,bL];refine .cons ?_ ?_
  ·obtain⟨t,rfl⟩:=h 0 v rfl;exact⟨t,rfl⟩
  ·have:=r9 acc (i+1) fun k w hk=>by
    obtain⟨t,e⟩:=h (k+1) w (by simpa using hk);exact⟨t,by rw[e,show i+((k+1:Nat):Int)=i+1+(k:Int) by lia]⟩
   rw[show ((fun k:Nat=>V.int (i+(k:Int))) ∘ Nat.succ)=fun k:Nat=>V.int (i+1+(k:Int)) from funext fun k=>by
    show V.int (i+((k+1:Nat):Int))=_;rw[show i+((k+1:Nat):Int)=i+1+(k:Int) by lia]]
   exact this
def wR(i j:Int)(r:ζ):az->Prop:=fun h=>∃t u v,IsRange h r i j 1 t u v
def LO:List V->Hp->VK->Prop:=fun xs H Q=>∃(r:ζ) (i j:Int),xs=[.ref r]/\H r=some (.ext (wR i j r))/\(-(2^62)≤i/\i<2^62/\-(2^62)≤j/\j<2^62)/\(j-i).toNat≤1000 ∧
 ∀l,H l=none->Q (.ref l) (upd H l (.lst ((aS (j-i).toNat).map fun k:Nat=>V.int (i+(k:Int)))))
theorem sW(hc:X.calm=true):iG X (.type "list") LO:=by
 intro pins s σ H xs us Q I r h;obtain⟨ra,i,j,rfl,e,⟨h1,h2,h3,h4⟩,hn,q⟩:=h;obtain⟨u,rfl,rx⟩:=vals1 r;cases rx;obtain⟨⟨t,u,v,hr⟩,_⟩:=I.bT ra _ e;have en:bH i j 1=((j-i).toNat:Nat):=by
  rw[rangeSize_one];split<;>lia
 refine call_list_range (I.ok.hd hc) hr (small_one h1 h2 h3 h4) en (aD hn (by decide)) fun h' tk acc' c' kp e2 it=>?_;have hv:aR ((aS (j-i).toNat).map fun k:Nat=>V.int (i+(k:Int))) acc'.toList:=by
  have:=r9 acc'.toList i fun k v hk=>by
   obtain⟨t,e⟩:=it.2 k v (by simpa using hk);exact⟨t,by rw[e,Int.mul_one]⟩
  rw[show acc'.toList.length=(j-i).toNat by rw[av];exact it.1] at this;exact this
 refine⟨.ref s.heap.objs.size,_,I.laid kp (ω _) (show fc X.prog X.w _ h' _ (.lst ((aS (j-i).toNat).map fun k:Nat=>V.int (i+(k:Int)))) from⟨?_,acc'.toList,c',hv,e2⟩),rfl,q _ (I.bT.fresh (ω _))⟩;rw[θ,dw];exact aD hn (by decide)
end
end L3
namespace L2
open PySem PySem.Spec PyProof.Rows
def yo(lo c:Int)(n:Nat):It:=⟨fun i _=>i<n,fun i H x H'=>H'=H/\x=.int (lo+i*c),fun i _=>n≤i⟩
theorem u6{P:aq}{w:aC}{K:η}{tg:μ}(it:ζ)(lo c:Int)(n:Nat):Turn P w K tg (yo lo c n) [it] it (fun i h=>lF h it (lo+(i:Nat)*c) ((n:Int)-(i:Nat)) c) where
 mem:=by simp
 obj:=fun i h st b hb=>by
  have e:b=it:=by simpa using hb
  subst e;exact⟨_,st,fun v z=>by
   have z':Data.fields _=Data.cell v:=z;cases z'⟩
 keep:=fun i h h' st k=>k it (by simp) _ st
 item:=by
  intro X hP hw hK hc i pins s σ H E I hf st hg;subst hP hw hK;obtain⟨f0,f1,f2,f3,f4,f5⟩:=hf it (by simp);have W:=Walks.range (prog:=X.prog) (w:=X.w) (I.ok.hd hc) it lo c n;refine W.item i s _ _ hg st fun v h' tk hv st' kk=>?_;obtain⟨t,rfl⟩:=hv;have I1:Inv X pins σ H { s with heap:=h',toks:=tk }:=I.turned (fun b o hb e=>kk b o (by simpa using hb) e) f0 f1 f3 f4 f5;refine⟨_,rfl,tz (s:={ s with heap:=h',toks:=tk }) (n:="range_iterator") st' rfl rfl (by decide) ⟨.int (lo+i*c),H,I1,⟨t,rfl⟩,⟨rfl,rfl⟩,st',fun b hb=>(hf b hb).1⟩⟩
 done:=by
  intro X hP hw hK hc i pins s σ H E I hf st hg;subst hP hw hK;obtain⟨f0,f1,f2,f3,f4,f5⟩:=hf it (by simp);exact wpAny_pyNext_range_end (I.ok.hd hc) st (by have:n≤i:=hg;lia) fun h' eb=>⟨rfl,I.turned (t':=s.toks) (fun b o hb e=>eb b o hb e) f0 f1 f3 f4 f5⟩
 self:=fun _ _ _ _ _ st h=>wpAny_pyIter_rangeiter st h
def gm(i j c:Int):Nat:=if i<j then ((j-i-1) / c+1).toNat else 0
theorem AH{i j c:Int}(hc:0<c):bH i j c=(gm i j c:Int):=by
 unfold bH gm;rw[if_pos hc];split
 ·rename_i h;have:0≤(j-i-1) / c:=lj (by lia) (by lia);lia
 ·rfl
theorem wO{i j c:Int}(h1:-(2^61)≤i)(h2:i<2^61)(h3:-(2^61)≤j)(h4:j<2^61)(hc:0<c)(hc2:c<2^30):iU i j c=true:=by
 have hs:bH i j c≤2^62/\0≤bH i j c:=by
  unfold bH;rw[if_pos hc];split
  ·rename_i h;have e1:(j-i-1) / c≤j-i-1:=Int.ediv_le_self _ (by lia);have e2:0≤(j-i-1) / c:=lj (by lia) (by lia);lia
  ·lia
 unfold iU;generalize bH i j c=z at hs;simp only[mB.Range.rangeFitsLong,cG,Bool.or_eq_true,decide_eq_true_eq,beq_iff_eq,hc,gt_iff_lt,if_true];have:∀p q:Int,True:=fun _ _=>trivial;refine ?_;lia
section
variable {X:Cx} {tg:μ}
theorem za{pins:List (ζ×bp)}{σ:St}{H:Hp}{s:ε}{R:It->Hp->Prop}{E:γ->ε->Prop}{lo hi c:Int}{t u v:Tok}{tk:Nat}(I:Inv X pins σ H s)(hs:iU lo hi c=true)(hc:0<c)
  (q:R (yo lo c (gm lo hi c)) H):Ψ (model X.prog X.w) X.A (pyIter (.ref s.heap.objs.size)) (C4 X pins σ tg R) E { s with heap:=s.heap.push { cls:=.type "range",data:=.fields #[.int lo t,.int hi u,.int c v]},toks:=tk }:=by
 refine wpAny_pyIter_range (pR ..) hs ?_;have I1:Inv X pins σ H { s with heap:=s.heap.push { cls:=.type "range",data:=.fields #[.int lo t,.int hi u,.int c v]},toks:=tk }:=I.kept fun b o e=>ρ _ e;refine⟨(s.heap.push { cls:=.type "range",data:=.fields #[.int lo t,.int hi u,.int c v]}).objs.size,[(s.heap.push { cls:=.type "range",data:=.fields #[.int lo t,.int hi u,.int c v]}).objs.size],_,_,H,rfl,
  I1.kept (t':=tk) fun b o e=>ρ _ e,u6 _ lo c (gm lo hi c),?_,fun b hb=>?_,q⟩
 ·have e1:lo+((0:Nat):Int)*c=lo:=by simp
  have e2:(((gm lo hi c):Nat):Int)-((0:Nat):Int)=bH lo hi c:=by rw[AH hc];simp
  show lF _ _ (lo+((0:Nat):Int)*c) ((((gm lo hi c):Nat):Int)-((0:Nat):Int)) c;rw[e1,e2];exact aQ _ rfl
 ·have e:b=(s.heap.push { cls:=.type "range",data:=.fields #[.int lo t,.int hi u,.int c v]}).objs.size:=by simpa using hb
  subst e;exact I1.qd (ω _) (I1.bT.fresh (ω _))
def Hw(ta:TA):TI:=fun σ H R=>ta σ H fun vs H1=>∃i j c:Int,vs=[.int i,.int j,.int c]/\(-(2^61)≤i/\i<2^61/\-(2^61)≤j/\j<2^61/\0<c/\c<2^30)/\R (yo i c (gm i j c)) H1
theorem zl{a b d:μ}{ta:TA}{p pos:aG}(hg:Gl X "range")(hm:X.mg "range" = none)(ha:PA X [a,b,d] ta)(hs:bw [a,b,d] X.env=[(false,eval a X.env),(false,eval b X.env),(false,eval d X.env)])(hs2:bw [b,d] X.env=[(false,eval b X.env),(false,eval d X.env)]):
  PI X tg (.Call (.Name "range" p) [a,b,d] [] pos) (Hw ta):=by
 intro pins s σ H R I h;refine Call_ (ki I hg hm m6 (cU (bG (ha pos pins s σ H _ I h) fun us s1 ⟨vs,H1,I1,r1,q1⟩=>?_) (by rw[hs,hs2]) (by rw[hs2];rfl)));obtain⟨i,j,c,e,⟨q1,q2,q3,q4,q5,q6⟩,q⟩:=q1;subst e;cases r1 with
 |cons r rr=>
  cases rr with
  |cons r' rr=>
   cases rr with
   |cons r'' rr=>
    cases rr;obtain⟨t,rfl⟩:=r;obtain⟨t',rfl⟩:=r';obtain⟨t'',rfl⟩:=r'';exact call_range_3 (by lia) (za I1 (wO q1 q2 q3 q4 q5 q6) q5 q) (.inl (PyProof.noPylong_small (by lia)))
end
section
variable {X:Cx}
theorem Bl:Il X (AO X.K):=by
 intro pins s σ H x y v u Q I rx ry h;obtain⟨p,xs,i,z,rfl,rfl,hq,he,q⟩:=h;cases rx;obtain⟨t,rfl⟩:=ry;obtain⟨its,r,pl,hz⟩:=I.list hq;obtain⟨j,h1,h2,h3,h4,h5⟩:=pB he;obtain⟨w,ew,rw'⟩:=r.get h2;have hl:=r.length;have hn:=kh;have fin:EP X pins σ Q w s:=⟨z,H,I,rw',q⟩;by_cases h0:0≤i
 ·have hj:i.toNat=j:=by
   rw[lB h0 h5] at h1;exact aw h1
  exact wpAny_getItem_list pl.isList h0 (by lia) (by rw[hj];simpa using ew) fin
 ·have hj:(i+(its.toArray.size:Int)).toNat=j:=by
   rw[seqIndex_neg (by lia) h4] at h1;rw[ο,←hl];exact aw h1
  exact wpAny_getItem_list_neg pl.isList (by lia) (by rw[ο]<;>lia) (by lia) (by rw[hj];simpa using ew) fin
end
end L2
namespace L3
open PySem PySem.Spec PyProof.Rows L2
section
variable {X:Cx} {tg:μ} {p pos:aG}
def lp(lo c:Int)(n:Nat):List D:=(aS n).map fun i:Nat=>.int (lo+(i:Int)*c)
theorem AK{lo c:Int}{n i:Nat}{d:D}(h:(lp lo c n)[i]?=some d):i<n/\d=.int (lo+(i:Int)*c):=by
 unfold lp at h;rw[bB] at h;by_cases hi:i<n
 ·rw[gn hi] at h;simp at h;exact⟨hi,h.symm⟩
 ·rw[di.mpr (by simpa using hi)] at h;cases h
theorem u9(lo c:Int)(n:Nat):(lp lo c n).length=n:=by simp[lp]
theorem AG{K:η}{H:Hp}(lo c:Int)(n:Nat):yl K H (yo lo c n) ⟨lp lo c n,fun _=>True⟩:=⟨by
 intro i d H' G' _ RG _ hi;obtain⟨h1,h2⟩:=AK hi;refine⟨h1,fun x H'' hy=>?_⟩;obtain⟨rfl,rfl⟩:=hy;exact⟨by rw[h2];simp[Hv],.refl _ _,RG⟩,by
 intro i H' G' _ RG _ hi;rw[u9] at hi;exact hi⟩
def tx(ta:cT):kr:=fun τ G R=>ta τ G fun ds G1=>match ds with
 |[.int i,.int j,.int c]=>(-(2^61)≤i/\i<2^61/\-(2^61)≤j/\j<2^61/\0<c/\c<2^30)/\R ⟨lp i c (gm i j c),fun _=>True⟩ G1
 |_=>False
theorem Hs{a b d:μ}{ta:cT}(hm:X.mg "range" = none)(ha:jn X [a,b,d] ta)(hg:Gl X "range":=by rfl)(hs:notStar a=true:=by rfl)(hs2:notStar b=true:=by rfl)(hs3:notStar d=true:=by rfl):
  sN X tg (.Call (.Name "range" p) [a,b,d] [] pos) (tx ta):=
 w9 (zl hg hm ha (by rw[bW hs,bW hs2,bW hs3];rfl) (by rw[bW hs2,bW hs3];rfl)) fun σ H R ⟨τ,G,R3,RS,RG,h,k⟩=>⟨τ,G,_,RS,RG,h,fun vs H1 ds G1 h1 S1 R1 q1=>by
  rcases ds with _|⟨d,_|⟨d2,_|⟨d3,_|⟨d4,ds⟩⟩⟩⟩
  ·exact q1.elim
  ·cases d<;>exact q1.elim
  ·cases d<;>(try exact q1.elim)<;>cases d2<;>exact q1.elim
  ·cases d with
   |int i=>
    cases d2 with
    |int j=>
     cases d3 with
     |int c=>
      obtain⟨v,r,rfl,z1,z2⟩:=h1.inv;obtain⟨v2,r2,rfl,z3,z4⟩:=z2.inv;obtain⟨v3,r3,rfl,z5,z6⟩:=z4.inv;cases z6.iD;unfold Hv at z1 z3 z5;exact⟨i,j,c,by rw[z1,z3,z5],q1.1,k _ _ _ _ (AG i c _) S1 R1 q1.2⟩
     |_=>exact q1.elim
    |_=>cases d3<;>exact q1.elim
   |_=>cases d2<;>(try exact q1.elim)<;>cases d3<;>exact q1.elim
  ·cases d<;>(try exact q1.elim)<;>cases d2<;>(try exact q1.elim)<;>cases d3<;>exact q1.elim⟩
theorem y8{o i e:μ}{to ti te:aL}{tpos:aG}(ho:b0 X o to)(hi:b0 X i ti)(he:b0 X e te)
  (ha:∀ov iv new,augStore i ov iv new=(do holding [new,ov,iv] (setItem ov iv new);release [new,ov,iv] [];pure .next):=by intros;rfl):
  mj X (.AugAssign (.Subscript o i tpos) .Add e pos) (wQ to ti te (· + ·)):=
 jb (DL ho hi Bl he Hr set_list ha) fun D σ H ⟨τ,G,D3,RS,RG,h,k⟩=>by
  refine⟨τ,G,_,RS,RG,h,fun v1 H1 d1 G1 h1 S1 R1 q1=>⟨τ,G1,_,RS.ext (S1.ext RG),R1,q1,fun v2 H2 d2 G2 h2 S2 R2 q2=>?_⟩⟩;cases d1 with
  |obj p=>
   cases d2 with
   |int j=>
    obtain⟨ds,x,e1,e2,q⟩:=q2;obtain⟨vs,z1,z2⟩:=R2 p _ e1;obtain⟨v,z3,z4⟩:=md z2 e2;have hv1:v1=.ref p:=eF h1;have hv2:v2=.int j:=cF h2;refine⟨p,vs,j,v,hv1,hv2,.of z1,z3,⟨τ,G2,_,(RS.ext (S1.ext RG)).ext (S2.ext R1),R2,q,fun v5 H5 d5 G5 h5 S5 R5 q5=>?_⟩⟩;cases d5 with
    |int y=>
     have hx:v=.int x:=cF z4;have hy:v5=.int y:=cF h5;refine⟨x,y,hx,hy,?_⟩;exact vX (((h1.ext (S2.ext R1)).ext (S5.ext R2))) ((h2.ext (S5.ext R2))) fK R5 q5 fun H' G' y1 y2 y3=>k.nx _ _ G' H' ((((RS.ext (S1.ext RG)).ext (S2.ext R1)).ext (S5.ext R2)).ext (y1.ext R5)) (((S1.trans S2).trans S5).trans y1) y2 y3
    |_=>exact q5.elim
   |_=>exact q2.elim
  |_=>cases d2<;>exact q2.elim
end
end L3
namespace L3
open PySem PySem.Spec PyProof.Rows L2
structure QE(X:Cx)(e:μ)(t:aL):Prop where
 of:b0 X e t
structure QT(X:Cx)(e:μ)(t:bV):Prop where
 of:mi X e t
structure QW(X:Cx)(e:μ)(t:bV):Prop where
 of:sL X e t
structure QA(X:Cx)(es:List μ)(t:cT):Prop where
 of:jn X es t
structure QS(X:Cx)(st:aT)(t:aP):Prop where
 of:mj X st t
structure qW(X:Cx)(st:List aT)(t:aP):Prop where
 of:lA X st t
structure QG(X:Cx)(tg:μ)(t:fV):Prop where
 of:qX X tg t
structure C2(X:Cx)(tgs:List μ)(t:ku):Prop where
 of:u3 X tgs t
structure QI(X:Cx)(tg iter:μ)(t:kr):Prop where
 of:sN X tg iter t
structure QC(X:Cx)(ifs:List μ)(t:bV):Prop where
 of:pP X ifs (mO X.K t)
section
variable {X:Cx} {a b e c:μ} {ta tb te:aL} {tA tB:bV} {pos:aG} {es rest:List μ}
theorem ι{i:Nat}{x:χ}(h:PE X (.Name x pos) (wA i)):QE X (.Name x pos) (Γ i):=⟨Kb (h:=h)⟩
end
section
variable {X:Cx} {a b e c:μ} {ta tb te:aL} {tA tB:bV} {pos:aG} {es rest:List μ}
theorem ax{i:Int}{j}:QE X (.Constant (.int i) j pos) (eC (.int i)):=⟨Kj ⟩
end
section
variable {X:Cx} {a b e c:μ} {ta tb te:aL} {tA tB:bV} {pos:aG} {es rest:List μ}
theorem o4{i:Bool}{j}:QE X (.Constant (.bool i) j pos) (eC (.bl i)):=⟨Lv ⟩
end
section
variable {X:Cx} {a b e c:μ} {ta tb te:aL} {tA tB:bV} {pos:aG} {es rest:List μ}
theorem zg{j}:QE X (.Constant .none j pos) (eC .ak):=⟨Kf ⟩
end
section
variable {X:Cx} {a b e c:μ} {ta tb te:aL} {tA tB:bV} {pos:aG} {es rest:List μ}
theorem DG{x:χ}{i:Int}{u:Tok}(hm:X.mg x=some (.int i u))(hg:Gl X x:=by rfl)(hd:(x==("__debug__":χ))=false:=by decide):QE X (.Name x pos) (eC (.int i)):=⟨HU (hm:=hm) (hg:=hg) (hd:=hd)⟩
end
section
variable {X:Cx} {a b e c:μ} {ta tb te:aL} {tA tB:bV} {pos:aG} {es rest:List μ}
theorem bY{op:m9}{r:R3}{r2:R2}(L:eL X.K r r2)(ho:dB X (binaryOp op) r2)(ha:QE X a ta)(hb:QE X b tb):QE X (.BinOp a op b pos) (br r ta tb):=⟨Ls (L:=L) (ho:=ho) (ha:=ha.of) (hb:=hb.of)⟩
end
section
variable {X:Cx} {a b e c:μ} {ta tb te:aL} {tA tB:bV} {pos:aG} {es rest:List μ}
theorem uj{op:CmpOp}{r:R3}{r2:R2}(L:eL X.K r r2)(ho:dB X (compareOp op) r2)(ha:QE X a ta)(hb:QE X b tb)(hm:behindInMarks op b=false):QE X (.Compare a [op] [b] pos) (br r ta tb):=⟨Kk (L:=L) (ho:=ho) (ha:=ha.of) (hb:=hb.of) (hm:=hm)⟩
end
section
variable {X:Cx} {a b e c:μ} {ta tb te:aL} {tA tB:bV} {pos:aG} {es rest:List μ}
theorem dt{op:CmpOp}{r:R3}{r2:R2}(L:eL X.K r r2)(ho:dB X (compareOp op) r2)(ha:QE X a ta)(hb:QE X b tb)(hm:behindInMarks op b=false):QT X (.Compare a [op] [b] pos) (cK (br r ta tb)):=⟨EN (L:=L) (ho:=ho) (ha:=ha.of) (hb:=hb.of) (hm:=hm)⟩
end
section
variable {X:Cx} {a b e c:μ} {ta tb te:aL} {tA tB:bV} {pos:aG} {es rest:List μ}
theorem jX(h:QE X a ta)(he:∀whole,isTrue a X.env whole=(do let v ←whole;standAt a.pos;holding [v] (truthy v)):=by intro _;rfl):QT X a (cK ta):=⟨EL (h:=h.of) (he:=he)⟩
end
section
variable {X:Cx} {a b e c:μ} {ta tb te:aL} {tA tB:bV} {pos:aG} {es rest:List μ}
theorem zh(ha:QE X a ta):QE X (.UnaryOp .USub a pos) (CU tq ta):=⟨Kg (ha:=ha.of)⟩
end
section
variable {X:Cx} {a b e c:μ} {ta tb te:aL} {tA tB:bV} {pos:aG} {es rest:List μ}
theorem AQ(ha:QT X a tA):QW X (.BoolOp .And [a] pos) tA:=⟨tw_and1 (ha:=ha.of)⟩
end
section
variable {X:Cx} {a b e c:μ} {ta tb te:aL} {tA tB:bV} {pos:aG} {es rest:List μ}
theorem DC(ha:QT X a tA):QW X (.BoolOp .Or [a] pos) tA:=⟨tw_or1 (ha:=ha.of)⟩
end
section
variable {X:Cx} {a b e c:μ} {ta tb te:aL} {tA tB:bV} {pos:aG} {es rest:List μ}
theorem DD(ha:QT X a tA)(hb:QW X (.BoolOp .And (b::rest) pos) tB):QW X (.BoolOp .And (a::b::rest) pos) (BC tA tB):=⟨tw_and (ha:=ha.of) (hb:=hb.of)⟩
end
section
variable {X:Cx} {a b e c:μ} {ta tb te:aL} {tA tB:bV} {pos:aG} {es rest:List μ}
theorem zc(ha:QT X a tA)(hb:QW X (.BoolOp .Or (b::rest) pos) tB):QW X (.BoolOp .Or (a::b::rest) pos) (CV tA tB):=⟨tw_or (ha:=ha.of) (hb:=hb.of)⟩
end
section
variable {X:Cx} {a b e c:μ} {ta tb te:aL} {tA tB:bV} {pos:aG} {es rest:List μ}
theorem Cr(h:QW X a tA):QT X a tA:=⟨KD (h:=h.of)⟩
end
section
variable {X:Cx} {a b e c:μ} {ta tb te:aL} {tA tB:bV} {pos:aG} {es rest:List μ}
theorem lO(ha:QT X a tA):QT X (.UnaryOp .Not a pos) (qe tA):=⟨EM (ha:=ha.of)⟩
end
section
variable {X:Cx} {a b e c:μ} {ta tb te:aL} {tA tB:bV} {pos:aG} {es rest:List μ}
theorem qx{op}(h:QE X a ta):QE X (.BoolOp op [a] pos) ta:=⟨Kd (h:=h.of)⟩
end
section
variable {X:Cx} {a b e c:μ} {ta tb te:aL} {tA tB:bV} {pos:aG} {es rest:List μ}
theorem nX(ha:QE X a ta)(hb:QE X (.BoolOp .And (b::rest) pos) tb):QE X (.BoolOp .And (a::b::rest) pos) (mW ta tb):=⟨Kl (ha:=ha.of) (hb:=hb.of)⟩
end
section
variable {X:Cx} {a b e c:μ} {ta tb te:aL} {tA tB:bV} {pos:aG} {es rest:List μ}
theorem FC(ha:QE X a ta):QE X (.UnaryOp .Not a pos) (xY ta):=⟨Ke (ha:=ha.of)⟩
end
section
variable {X:Cx} {a b e c:μ} {ta tb te:aL} {tA tB:bV} {pos:aG} {es rest:List μ}
theorem af  : QA X [] aH:=⟨Ks ⟩
end
section
variable {X:Cx} {a b e c:μ} {ta tb te:aL} {tA tB:bV} {pos:aG} {es rest:List μ}
theorem π{tr:cT}(ha:QE X a ta)(hr:QA X es tr)(hs:notStar a=true:=by rfl):QA X (a::es) (Φ ta tr):=⟨Ig (ha:=ha.of) (hr:=hr.of) (hs:=hs)⟩
end
section
variable {X:Cx} {a b e c:μ} {ta tb te:aL} {tA tB:bV} {pos:aG} {es rest:List μ}
theorem iz{t:cT}{x1}(h:QA X es t):QE X (.Tuple es x1 pos) (kq t):=⟨Kc (h:=h.of)⟩
end
section
variable {X:Cx} {a b e c:μ} {ta tb te:aL} {tA tB:bV} {pos:aG} {es rest:List μ}
theorem jj{t:cT}(h:QA X es t):QE X (.List es pos) (lu t):=⟨Ki (h:=h.of)⟩
end
section
variable {X:Cx} {st:aT} {rest:List aT} {t u:aP} {e c:μ} {te:aL} {tc:bV} {pos:aG}
theorem fH  : qW X [] fY:=⟨IV ⟩
end
section
variable {X:Cx} {st:aT} {rest:List aT} {t u:aP} {e c:μ} {te:aL} {tc:bV} {pos:aG}
theorem aV(h1:QS X st t)(h2:qW X rest u):qW X (st::rest) (b7 t u):=⟨Fc (h1:=h1.of) (h2:=h2.of)⟩
end
section
variable {X:Cx} {st:aT} {rest:List aT} {t u:aP} {e c:μ} {te:aL} {tc:bV} {pos:aG}
theorem aY(h1:QS X st t):qW X [st] t:=⟨IU (h1:=h1.of)⟩
end
section
variable {X:Cx} {st:aT} {rest:List aT} {t u:aP} {e c:μ} {te:aL} {tc:bV} {pos:aG}
theorem oZ(he:QE X e te)(hs:swapsWith e none pos.line X.env=pure false:=by rfl):QS X (.Expr e pos) (oW te):=⟨Fb (he:=he.of) (hs:=hs)⟩
end
section
variable {X:Cx} {st:aT} {rest:List aT} {t u:aP} {e c:μ} {te:aL} {tc:bV} {pos:aG}
theorem bQ(he:QE X e te):QS X (.Return (some e) pos) (cP te):=⟨IT (he:=he.of)⟩
end
section
variable {X:Cx} {st:aT} {rest:List aT} {t u:aP} {e c:μ} {te:aL} {tc:bV} {pos:aG}
theorem gM{a b:List aT}(hc:QT X c tc)(ha:qW X a t)(hb:qW X b u):QS X (.If c a b pos) (ke tc t u):=⟨KQ (hc:=hc.of) (ha:=ha.of) (hb:=hb.of)⟩
end
section
variable {X:Cx} {st:aT} {rest:List aT} {t u:aP} {e c:μ} {te:aL} {tc:bV} {pos:aG}
theorem AU  : QS X st ud:=⟨DA ⟩
end
section
variable {X:Cx} {pos:aG} {e:μ} {es:List μ}
theorem cb{i:Nat}{x:χ}(hN:X.N.Nodup)(hi:X.N[i]?=some x:=by rfl)(hx:Loc X.env.scope x:=by first|exact oI rfl|exact mn rfl)(hf:X.fn x=true∨X.env.scope.names.lookup x=some .local:=by first|exact .inl rfl|exact .inr rfl|assumption):QG X (.Name x pos) (hName i):=⟨HC (hN:=hN) (hi:=hi) (hx:=hx) (hf:=hf)⟩
end
section
variable {X:Cx} {pos:aG} {e:μ} {es:List μ}
theorem vJ  : C2 X [] xE:=⟨Hx ⟩
end
section
variable {X:Cx} {pos:aG} {e:μ} {es:List μ}
theorem mK{t:fV}{u:ku}(h1:QG X e t)(h2:C2 X es u)(hs:(assignEach (e::es) X.env).map (·.2)=assign e X.env::(assignEach es X.env).map (·.2):=by rfl):C2 X (e::es) (pg t u):=⟨Ey (h1:=h1.of) (h2:=h2.of) (hs:=hs)⟩
end
section
variable {X:Cx} {pos:aG} {e:μ} {es:List μ}
theorem ze{k:Nat}{t:ku}{n:Nat}(hc:X.calm=true)(h:C2 X es t)(hn:(assignEach es X.env).length=n:=by rfl)(hst:(assignEach es X.env).findIdx? (·.1)=none:=by rfl):QG X (.Tuple es k pos) (xD n t):=⟨J1 (hc:=hc) (h:=h.of) (hn:=hn) (hst:=hst)⟩
end
section
variable {X:Cx} {pos:aG} {e:μ} {es:List μ}
theorem zd{tg:μ}{te:aL}{g:fV}(he:QE X e te)(hg:QG X tg g)(hs:swapsWithSole [tg] e pos.line X.env=pure false:=by rfl)(hw:swappedStores [tg] e X.env=pure none:=by rfl)(h1:(assignEach [tg] X.env).map (·.2)=[assign tg X.env]:=by rfl):QS X (.Assign [tg] e pos) (da te g):=⟨IX (he:=he.of) (hg:=hg.of) (hs:=hs) (hw:=hw) (h1:=h1)⟩
end
section
variable {X:Cx} {pos:aG} {e:μ} {es:List μ}
theorem dg{i:Nat}{x:χ}{te:aL}{pos':aG}(hN:X.N.Nodup)(he:QE X e te)(hi:X.N[i]?=some x:=by rfl)(hx:Loc X.env.scope x:=by first|exact oI rfl|exact mn rfl)(hs:swapsWith e (some (.Name x pos')) pos.line X.env=pure false:=by rfl)(hf:X.fn x=true∨X.env.scope.names.lookup x=some .local:=by first|exact .inl rfl|exact .inr rfl|assumption):QS X (.Assign [.Name x pos'] e pos) (da te (hName i)):=⟨IS (hN:=hN) (he:=he.of) (hi:=hi) (hx:=hx) (hs:=hs) (hf:=hf)⟩
end
section
variable {X:Cx} {pos:aG} {e:μ} {es:List μ}
theorem zf{o i:μ}{to ti:aL}(ho:QE X o to)(hi:QE X i ti) (ha:∀v,assign (.Subscript o i pos) X.env v=(do
   let ov ←holding [v] (eval o X.env)
   let iv ←holding [v,ov] (eval i X.env)
   standAt pos
   holding [v,ov,iv] (setItem ov iv v)
   release [v,ov,iv] []):=by intro _;rfl):QG X (.Subscript o i pos) (hSub to ti):=⟨J2 (ho:=ho.of) (hi:=hi.of) (ha:=ha)⟩
end
section
variable {X:Cx} {pos:aG} {e:μ} {es:List μ}
theorem AR{c:μ}{body:List aT}{tc:bV}{tb:aP}(hp:jq (model X.prog X.w) X.A X.env X.xe)(hc:QT X c tc)(hb:qW X body tb):QS X (.While c body [] pos) (uc tc tb):=⟨Dz (hp:=hp) (hc:=hc.of) (hb:=hb.of)⟩
end
section
variable {X:Cx} {k:Nat} {f:ζ} {fd:aJ} {ps:List χ} {sp:eO} {x:χ} {p pos:aG} {e:μ} {es:List μ} {t:cT}
theorem bq(F:cx X.prog X.w X.K X.mg X.base k f fd ps sp)(hr:eW k X.A)(hm:X.mg x=some (.ref f))(hk:fP X.K (.ref f)=true)(hb:Binds X.K fd ps [])(ha:QA X (e::es) t)(hg:Gl X x:=by rfl)(hdb:(x==("__debug__":χ))=false:=by decide)(he:notStar e=true:=by rfl)(hpl:es.all notStar=true:=by rfl):QE X (.Call (.Name x p) (e::es) [] pos) (bR sp t):=⟨HW (F:=F) (hr:=hr) (hm:=hm) (hk:=hk) (hb:=hb) (ha:=ha.of) (hg:=hg) (hdb:=hdb) (he:=he) (hpl:=hpl)⟩
end
section
variable {X:Cx} {tg iter:μ} {pos p:aG}
theorem fk{l:μ}{te:aL}(hl:QE X l te):QI X tg l (gX te):=⟨J0 (hl:=hl.of)⟩
end
section
variable {X:Cx} {tg iter:μ} {pos p:aG}
theorem rB{a:μ}{ta:cT}(hm:X.mg "range" = none)(ha:QA X [a] ta)(hg:Gl X "range":=by rfl)(hs:notStar a=true:=by rfl):QI X tg (.Call (.Name "range" p) [a] [] pos) (mP ta):=⟨Hu (hm:=hm) (ha:=ha.of) (hg:=hg) (hs:=hs)⟩
end
section
variable {X:Cx} {tg iter:μ} {pos p:aG}
theorem vI{a b:μ}{ta:cT}(hm:X.mg "range" = none)(ha:QA X [a,b] ta)(hg:Gl X "range":=by rfl)(hs:notStar a=true:=by rfl)(hs2:notStar b=true:=by rfl):QI X tg (.Call (.Name "range" p) [a,b] [] pos) (pf ta):=⟨Ht (hm:=hm) (ha:=ha.of) (hg:=hg) (hs:=hs) (hs2:=hs2)⟩
end
section
variable {X:Cx} {tg iter:μ} {pos p:aG}
theorem iy{body:List aT}{ti:kr}{g:fV}{tb:aP}(hp:jq (model X.prog X.w) X.A X.env X.xe)(hc:X.calm=true)(hi:QI X tg iter ti)(hg:QG X tg g)(hb:qW X body tb)(hs:∀x,foldedSetIterable iter X.env x=pure x:=by intro _;rfl):QS X (.For tg iter body [] pos) (kf ti g tb):=⟨IW (hp:=hp) (hc:=hc) (hi:=hi.of) (hg:=hg.of) (hb:=hb.of) (hs:=hs)⟩
end
section
variable {X:Cx} {tg iter:μ} {pos p:aG}
theorem iV  : QC X [] (fu):=⟨HZ ⟩
end
section
variable {X:Cx} {tg iter:μ} {pos p:aG}
theorem lR{c:μ}{t:bV}(h:QT X c t):QC X [c] (t):=⟨HY (h:=h.of)⟩
end
section
variable {X:Cx} {K:η}
theorem fD{a b:μ}{ta tb:aL}{pos:aG}(ha:QE X a ta)(hb:QE X b tb)(hs:mh b:=by intro _ _;rfl):QE X (.Subscript a b pos) (br fZ ta tb):=⟨Lu (ha:=ha.of) (hb:=hb.of) (hs:=hs)⟩
end
section
variable {X:Cx} {K:η}
theorem AV{es:List μ}{b:μ}{ta:cT}{tb:aL}{pos pos':aG}(ha:QA X es ta)(hb:QE X b tb)(hs:mh b:=by intro _ _;rfl):QE X (.Subscript (.List es pos') b pos) (uP ta tb):=⟨EC (ha:=ha.of) (hb:=hb.of) (hs:=hs)⟩
end
section
variable {X:Cx} {K:η} {e:μ} {es:List μ} {t:cT} {ta:aL} {pos p:aG}
theorem lP(hu:X.A.units+64<cLine)(hm:X.mg "len" = none)(ha:QA X (e::es) t)(hg:Gl X "len":=by rfl)(he:notStar e=true:=by rfl)(hpl:es.all notStar=true:=by rfl):QE X (.Call (.Name "len" p) (e::es) [] pos) (fM kO t):=⟨HN (hu:=hu) (hm:=hm) (ha:=ha.of) (hg:=hg) (he:=he) (hpl:=hpl)⟩
end
section
variable {X:Cx} {K:η} {e:μ} {es:List μ} {t:cT} {ta:aL} {pos p:aG}
theorem DF(hu:X.A.units+64<cLine)(hm:X.mg "int" = none)(ha:QA X (e::es) t)(hg:Gl X "int":=by rfl)(he:notStar e=true:=by rfl)(hpl:es.all notStar=true:=by rfl):QE X (.Call (.Name "int" p) (e::es) [] pos) (fM tm t):=⟨HP (hu:=hu) (hm:=hm) (ha:=ha.of) (hg:=hg) (he:=he) (hpl:=hpl)⟩
end
section
variable {X:Cx} {K:η} {e:μ} {es:List μ} {t:cT} {ta:aL} {pos p:aG}
theorem DE(hu:X.A.units+64<cLine)(hm:X.mg "max" = none)(ha:QA X (e::es) t)(hc:X.calm=true:=by rfl)(hg:Gl X "max":=by rfl)(he:notStar e=true:=by rfl)(hpl:es.all notStar=true:=by rfl):QE X (.Call (.Name "max" p) (e::es) [] pos) (fM wW t):=⟨HM (hu:=hu) (hm:=hm) (ha:=ha.of) (hc:=hc) (hg:=hg) (he:=he) (hpl:=hpl)⟩
end
section
variable {X:Cx} {K:η} {e:μ} {es:List μ} {t:cT} {ta:aL} {pos p:aG}
theorem sk(hu:X.A.units+64<cLine)(hm:X.mg "tuple" = none)(ha:QA X (e::es) t)(hg:Gl X "tuple":=by rfl)(he:notStar e=true:=by rfl)(hpl:es.all notStar=true:=by rfl):QE X (.Call (.Name "tuple" p) (e::es) [] pos) (fM jW t):=⟨BB (hu:=hu) (hm:=hm) (ha:=ha.of) (hg:=hg) (he:=he) (hpl:=hpl)⟩
end
section
variable {X:Cx} {a e:μ} {es:List μ} {ta:aL} {t:cT} {pos p p2:aG}
theorem lQ{T:String}{TS:χ}(k:u5 T)(hv:eX TS=some (.type T))(ha:QE X a ta)(hm:X.mg "isinstance" = none)(hm2:X.mg TS=none)(hgT:Gl X TS)(hnT:TS≠"__name__")(hdT:(TS==("__debug__":χ))=false)(hg:Gl X "isinstance":=by rfl)(he:notStar a=true:=by rfl):QE X (.Call (.Name "isinstance" p) [a,.Name TS p2] [] pos) (mV T ta):=⟨HR (k:=k) (hv:=hv) (ha:=ha.of) (hm:=hm) (hm2:=hm2) (hgT:=hgT) (hnT:=hnT) (hdT:=hdT) (hg:=hg) (he:=he)⟩
end
section
variable {X:Cx} {K:η} {e:μ} {es:List μ} {t:cT} {ta:aL} {pos p p' pos':aG}
theorem vK(hu:X.A.units+64<cLine)(hm:X.mg "all" = none)(ha:QA X (e::es) t)(hc:X.calm=true:=by rfl)(hg:Gl X "all":=by rfl)(he:notStar e=true:=by rfl)(hpl:es.all notStar=true:=by rfl):QE X (.Call (.Name "all" p) (e::es) [] pos) (fM qv t):=⟨HQ (hu:=hu) (hm:=hm) (ha:=ha.of) (hc:=hc) (hg:=hg) (he:=he) (hpl:=hpl)⟩
end
section
variable {X:Cx} {tg:μ} {p pos:aG}
theorem vH{a b d:μ}{ta:cT}(hm:X.mg "range" = none)(ha:QA X [a,b,d] ta)(hg:Gl X "range":=by rfl)(hs:notStar a=true:=by rfl)(hs2:notStar b=true:=by rfl)(hs3:notStar d=true:=by rfl):QI X tg (.Call (.Name "range" p) [a,b,d] [] pos) (tx ta):=⟨Hs (hm:=hm) (ha:=ha.of) (hg:=hg) (hs:=hs) (hs2:=hs2) (hs3:=hs3)⟩
end
section
variable {X:Cx} {tg:μ} {p pos:aG}
theorem wZ{o i e:μ}{to ti te:aL}{tpos:aG}(ho:QE X o to)(hi:QE X i ti)(he:QE X e te)(ha:∀ov iv new,augStore i ov iv new=(do holding [new,ov,iv] (setItem ov iv new);release [new,ov,iv] [];pure .next):=by intros;rfl):QS X (.AugAssign (.Subscript o i tpos) .Add e pos) (wQ to ti te (· + ·)):=⟨y8 (ho:=ho.of) (hi:=hi.of) (he:=he.of) (ha:=ha)⟩
end
section
variable {X:Cx} {a b c e o:μ} {es:List μ} {ta tb tc te to:aL} {t:cT} {pos apos cpos p:aG}
theorem ui{name:χ}{id:String}{r:D->List D->Gp->V3->Prop}{r2:V->List V->Hp->VK->Prop}(L:u4 X.K r r2)(slot:Slot "list" name id)(hty:typeOf (.builtin id)=pure (.type "method_descriptor"))(hm:Im X id r2)(ho:QE X o to)(ha:QA X (e::es) t)
  (xC:attributeBase o name X.env (eval o X.env)=eval o X.env:=by rfl)
  (Bk:((backTo cpos (bw (e::es) X.env)).all (fun x=>!x.1)&&(backToKw cpos (keywordEach [] X.env)).all (fun x=>x.1.isSome)
   && decide ((e::es).length+([]:List Keyword).length+(if ([]:List Keyword).isEmpty then 0 else 1)<30))=true:=by rfl)
  (xB:(apos.endLine==cpos.line)=true:=by rfl) (he:notStar e=true:=by rfl) (hpl:es.all notStar=true:=by rfl):
  QE X (.Call (.Attribute o name apos) (e::es) [] cpos) (eM r to t):=⟨Kh L (Jj PySem.F.plainAttrs_list slot hty hm ho.of ha.of xC Bk xB (bW he) (fv hpl))⟩
end
section
variable {X:Cx} {tg iter elt:μ} {ifs:List μ} {scope:fq} {own:List χ} {js:List Nat} {ti:kr} {g:fV} {tc:bV} {te:aL} {pos:aG}
theorem gN(hc:X.calm=true)(C:cN X.N X.env.scope scope own js)(hi:QI X tg iter ti)
  (hb:∀s H fp,QG (X.cmp scope own js s H fp) tg g/\QC (X.cmp scope own js s H fp) ifs tc/\QE (X.cmp scope own js s H fp) elt te)
  (hs:∀x,foldedSetIterable iter X.env x=pure x:=by intro _;rfl):QE X (.ListComp elt [⟨tg,iter,ifs,0⟩] scope pos) (fm own js ti g tc te):=
 ⟨HV hc C hi.of (fun s H fp=>⟨(hb s H fp).1.of,(hb s H fp).2.1.of,(hb s H fp).2.2.of⟩) hs⟩
theorem mJ{i:Nat}{y:χ}{py spos:aG}(hc:X.calm=true)(hN:X.N.Nodup)(C:cN X.N X.env.scope scope own js)(hi:QI X tg iter ti)
  (hb:∀s H fp,QG (X.cmp scope own js s H fp) tg g/\QC (X.cmp scope own js s H fp) ifs tc/\QE (X.cmp scope own js s H fp) elt te) (hy:X.N[i]?=some y:=by rfl) (hyl:X.env.scope.names.lookup y=some .local:=by rfl)
  (zI:swapsWith (.ListComp elt [⟨tg,iter,ifs,0⟩] scope pos) (some (.Name y py)) spos.line X.env=pure true:=by rfl)
  (hs:∀x,foldedSetIterable iter X.env x=pure x:=by intro _;rfl):QS X (.Assign [.Name y py] (.ListComp elt [⟨tg,iter,ifs,0⟩] scope pos) spos) (da (fm own js ti g tc te) (hName i)):=
 ⟨y6 hc hN C hi.of (fun s H fp=>⟨(hb s H fp).1.of,(hb s H fp).2.1.of,(hb s H fp).2.2.of⟩) hy hyl zI hs⟩
end
theorem fh{P:aq}{w:aC}{K:η}{mg:χ->Option γ}{base:az}{x qual:χ}{st:aT}{f:ζ}{fd:aJ}{N ps:List χ}{k:Nat}{sp:eO}(F:fg K x qual st f fd)(S:bO N ps (ar st))(hN:ps.length≤N.length)(len:∀ds G Q,sp ds G Q->ds.length=ps.length)(tb:aP)
  (mR:∀(cdv:γ) (A:aZ) (outer:List fX) (s:ε) (H:Hp) (E:XK),eW k (A.deeper (envOfC qual (ar st) s.heap.objs.size f cdv)) ->
   qW (oC sP P w K mg base N qual (ar st) f cdv A outer s H E).vR (ig st) tb)
  (CO:∀ds G Q,sp ds G Q->tb (bJ Q) (bE N ds) G):cx P w K mg base (k+1) f fd ps sp:=L9 F S hN len tb (fun cdv A outer s H E hr=>(mR cdv A outer s H E hr).of) CO
theorem uM{P:aq}{w:aC}{K:η}{mg:χ->Option γ}{base:az}{f:ζ}{fd:aJ}{ps:List χ}{k:Nat}{sp:eO}(h:∀ds G Q,¬sp ds G Q):cx P w K mg base k f fd ps sp:=
 ⟨fun vs H Q E q=>by obtain⟨ds,G,Q3,_,_,z,_⟩:=q;exact absurd z (h _ _ _),fun A outer s H args us vs Q E _ _ _ _ q=>by obtain⟨ds,G,Q3,_,_,z,_⟩:=q;exact absurd z (h _ _ _)⟩
end L3
namespace My
open PySem L2 L3
def Known(G:Gp):D->Prop
 |.obj a=>∃o,G a=some o/\o.plain
 |_=>True
def EG:D->Bool
 |.int _=>true
 |_=>false
theorem bI{Q:V3}{d:D}{G:Gp}(h:Q d G):(bJ Q).rt d G:=⟨G,Sub.refl G,h⟩
theorem oY{Q:V3}{d:D}{G G':Gp}(s:Sub G G')(h:Q d G):(bJ Q).rt d G':=⟨G,s,h⟩
theorem ma{i:Int}(h1:-(10^80)<i)(h2:i<10^80):ik i:=by
 have:i.natAbs<10^80:=by lia
 exact oO this (by decide)
theorem Sub.wx{G G':Gp}{a:ζ}{o:GO}(s:Sub G G')(h:G a=none):Sub G (dM G' a o):=fun b u e=>by
 rw[dJ (fun z=>by rw[z,h] at e;cases e)];exact s b u e
def nq:eO:=fun ds G Q=>match ds with
 |[d]=>Known G d/\Q (.bl (EG d)) G
 |_=>False
def nk:aP:=cP (mW (mV "int" (Γ 0)) (xY (mV "bool" (Γ 0))))
theorem AM{nm:χ}:∀ds G Q,nq ds G Q->nk (bJ Q) (bE [nm] ds) G:=by
 intro ds G Q h;rcases ds with _|⟨d,_|⟨d2,ds⟩⟩
 ·exact h.elim
 ·cases d with
  |int i=>exact⟨fun _=>bI h.2,nofun⟩
  |bl b=>exact⟨fun _=>bI h.2,nofun⟩
  |ak=>exact⟨nofun,fun _=>bI h.2⟩
  |str _=>exact⟨nofun,fun _=>bI h.2⟩
  |tup _=>exact⟨nofun,fun _=>bI h.2⟩
  |gf _=>exact⟨nofun,fun _=>bI h.2⟩
  |dc _=>exact⟨nofun,fun _=>bI h.2⟩
  |obj a=>
   obtain⟨o1,h1,hp⟩:∃o,G a=some o/\o.plain:=h.1;show match iE "int" G (.obj a) with
    |some b=>_
    |none=>_
   cases hG:G a with
   |none=>rw[h1] at hG;cases hG
   |some o=>
    cases o with
    |lst _=>simp only[iE,hG];exact⟨nofun,fun _=>bI h.2⟩
    |nZ=>simp only[iE,hG];exact⟨nofun,fun _=>bI h.2⟩
    |gg=>simp only[iE,hG];exact⟨nofun,fun _=>bI h.2⟩
    |gen R=>
     rw[h1] at hG;cases hG;exact hp.elim
 ·exact h.elim
abbrev ka:=nq
abbrev ES:=nk
abbrev Fm:=@AM "found"
def ql:eO:=fun ds G Q=>∃(ns:List Int) (k:Nat),ds=[.gf (ns.map .int),.int k]/\∀i:Int,Q (.int i) G
def B0:aP:=b7 (ke (cK (br Cn (Γ 1) (fM kO (Φ (Γ 0) (aH))))) (cP (br fZ (Γ 0) (Γ 1))) (fY)) (cP (eC (.int 0)))
theorem Ja:∀ds G Q,ql ds G Q->B0 (bJ Q) (bE ["script","k"] ds) G:=by
 rintro ds G Q ⟨ns,k,rfl,q⟩;refine⟨fun h=>?_,fun h=>bI (q 0)⟩;have h':(k:Int)<((ns.map D.int).length:Nat):=of_decide_eq_true h;rw[θ] at h';have hk:k<ns.length:=by lia
 exact⟨.int ns[k],wm (by rw[bB,aU hk];rfl),bI (q _)⟩
def lH:eO:=fun ds G Q=>∃n:Int,ds=[.int n]/\0≤n/\∀r:Int,0≤r->r<2147483629->Q (.int r) G
def yB:aP:=b7 (da (br gs (br hE (Γ 0) (eC (.int 7919))) (eC (.int 2147483647))) (hName 0)) (cP (br gs (br hE (br hE (br qw (Γ 0) (Γ 0)) (br qw (eC (.int 48271)) (Γ 0))) (eC (.int 12345))) (eC (.int 2147483629))))
theorem Fh:∀ds G Q,lH ds G Q->yB (bJ Q) (bE ["seed"] ds) G:=by
 rintro ds G Q ⟨n,rfl,hn,q⟩;have h1:=ft (n+7919) (show (2147483647:Int)≠0 by decide);have h2:=ej (n+7919) (show (0:Int)<2147483647 by decide);have hb:ik ((n+7919)%2147483647):=ma (by lia) (by lia);refine⟨(by decide:(0:Int)<2147483647),⟨hb,hb⟩,⟨ma (by decide) (by decide),hb⟩,(by decide:(0:Int)<2147483629),bI (q _ ?_ ?_)⟩
 ·exact ft _ (by decide)
 ·exact ej _ (by decide)
def iw:eO:=fun ds G Q=>∃(p:ζ) (m i j k:Int),ds=[.obj p,.int m]/\G p=some (.lst [.int i,.int j,.int k])/\pC i j k/\0<m/\ik m ∧
 ∀r i' j' k':Int,pC i' j' k'->0≤r->r<m->Q (.int r) (dM G p (.lst [.int i',.int j',.int k']))
def nP:eO:=fun ds G Q=>∃(p:ζ) (m:Int),ds=[.obj p,.int m]/\G p=some .nZ/\(0<m/\ik m)/\∀r:Int,0≤r->r<m->Q (.int r) G
def yF:aP:=b7 (ke (cK (br (fx false) (br fZ (Γ 0) (eC (.int 1))) (eC (.int 1)))) (b7 (da (br gs (br fZ (Γ 0) (eC (.int 0))) (Γ 1)) (hName 2)) (b7 (da (br tu (br fZ (Γ 0) (eC (.int 0))) (Γ 1)) (hSub (Γ 0) (eC (.int 0)))) (cP (Γ 2)))) (fY)) (b7 (da (bR lH (Φ (br hE (bR lH (Φ (br fZ (Γ 0) (eC (.int 2))) (aH))) (eC (.int 7))) (aH))) (hSub (Γ 0) (eC (.int 2)))) (cP (br gs (br tu (br fZ (Γ 0) (eC (.int 2))) (eC (.int 64))) (Γ 1))))
theorem uf:∀ds G Q,iw ds G Q->yF (bJ Q) (bE ["pen","many","found"] ds) G:=by
 rintro ds G Q ⟨p,m,i,j,k,rfl,hp,ok,hm,hb,q⟩;obtain⟨o1,o2,o3⟩:=ok;refine⟨_,_,hp,rfl,_,_,rfl,rfl,aK _,fun _=>?_,fun _=>?_⟩
 ·refine⟨_,_,hp,rfl,hm,_,_,hp,rfl,⟨hm,hb⟩,_,0,hp,rfl,?_⟩;refine bI (q (i%m) (i / m) j k ⟨?_,o2,o3⟩ ?_ ?_)
  ·exact lj o1 (by lia)
  ·exact ft _ (by lia)
  ·exact ej _ hm
 ·refine⟨_,_,hp,rfl,_,rfl,o2,fun r h1 h2=>⟨_,rfl,(by lia),fun r' h3 h4=>?_⟩⟩;refine⟨_,2,hp,rfl,_,_,df,rfl,⟨by decide,ma (by decide) (by decide)⟩,hm,?_⟩;refine bI (q _ i j r' ⟨o1,h3,by lia⟩ ?_ ?_)
  ·exact ft _ (by lia)
  ·exact ej _ hm
theorem BD{K:η}:∀vs H Q E,jM K nP vs H Q E->jM K iw vs H Q E:=by
 rintro vs H Q E ⟨ds,G,Q3,hd,RG,⟨p,m,rfl,hp,hm,q⟩,k⟩;obtain⟨i,j,l,e,ok⟩:=RG p _ hp;refine⟨_,dM G p (.lst [.int i,.int j,.int l]),fun d G'=>∃i' j' l',pC i' j' l'/\G'=dM G p (.lst [.int i',.int j',.int l'])/\Q3 d G,hd,?_,⟨p,m,i,j,l,rfl,df,ok,hm.1,hm.2,fun r i' j' k' ok' h1 h2=>⟨i',j',k',ok',yx,q r h1 h2⟩⟩,?_⟩
 ·intro a o ea;by_cases z:a=p
  ·subst z;rw[df] at ea;cases ea;exact⟨_,e,.cons (by simp[Hv]) (.cons (by simp[Hv]) (.cons (by simp[Hv]) .nil))⟩
  ·rw[dJ z] at ea;exact RG a o ea
 ·rintro v H' d G' hv S R ⟨i',j',l',ok',rfl,h3⟩;refine k v H' d G hv ⟨fun a o ea n=>S.fr a o ea ?_,S.kM,fun a n z=>absurd n z⟩ (fun a o ea=>?_) h3
  ·have:a≠p:=fun z=>by rw[z,hp] at n;cases n
   rw[dJ this];exact n
  ·by_cases z:a=p
   ·subst z;rw[hp] at ea;cases ea;obtain⟨ws,e1,e2⟩:=R a _ df;have:=gi e2 (ns:=[i',j',l']) rfl;subst this;exact⟨i',j',l',e1,ok'⟩
   ·exact R a o (by rw[dJ z];exact ea)
def gL:eO:=fun ds G Q=>∃c:Int,ds=[.int c]/\∀p i j k G',eP G p (.lst [.int i,.int j,.int k]) G'->pC i j k->Q (.obj p) G'
def t8:eO:=fun ds G Q=>∃c:Int,ds=[.int c]/\∀p G',eP G p .nZ G'->Q (.obj p) G'
def yK:aP:=b7 (da (fM wW (Φ (Γ 0) (Φ (br tp (eC (.int 0)) (Γ 0)) (aH)))) (hName 1)) (cP (lu (Φ (Γ 1) (Φ (fM tm (Φ (br Fz (Γ 1) (br Ck (eC (.int 10)) (eC (.int 18)))) (aH))) (Φ (br gs (Γ 1) (eC (.int 1000003))) (aH))))))
theorem rA:∀ds G Q,gL ds G Q->yK (bJ Q) (bE ["cell","left"] ds) G:=by
 rintro ds G Q ⟨c,rfl,q⟩;refine⟨⟨by decide,by decide,by decide⟩,(by decide:(0:Int)<1000003),fun p G' hp=>bI (q p _ _ _ _ hp ⟨?_,?_,?_⟩)⟩
 ·split<;>lia
 ·exact ft _ (by decide)
 ·exact Int.lt_trans (ej _ (by decide)) (by decide)
theorem DP{K:η}:∀vs H Q E,jM K t8 vs H Q E->jM K gL vs H Q E:=by
 rintro vs H Q E ⟨ds,G,Q3,hd,RG,⟨c,rfl,q⟩,k⟩;refine⟨_,G,fun d G'=>∃p i j l,pC i j l/\eP G p (.lst [.int i,.int j,.int l]) G'/\d=.obj p,hd,RG,⟨c,rfl,fun p i j l G' hp ok=>⟨p,i,j,l,ok,hp,rfl⟩⟩,?_⟩;rintro v H' d G' hv S R ⟨p,i,j,l,ok,hp,rfl⟩;refine k v H' _ (dM G' p .nZ) hv ⟨S.fr,S.kM,fun a n z=>S.new a n ?_⟩ (fun a o ea=>?_) (q p _ ⟨hp.ak,Sub.wx hp.sub hp.ak,df⟩)
 ·by_cases y:a=p
  ·rw[y,hp.at_];simp
  ·rw[dJ y] at z;exact z
 ·by_cases z:a=p
  ·subst z;rw[df] at ea;cases ea;obtain⟨ws,e1,e2⟩:=R a _ hp.at_;have:=gi e2 (ns:=[i,j,l]) rfl;subst this;exact⟨i,j,l,e1,ok⟩
  ·rw[dJ z] at ea;exact R a o ea
abbrev ay:=Int×Int
def cD(c:ay):D:=.tup [.int c.1,.int c.2]
def bZ(cs:List ay):D:=.tup (cs.map cD)
def Valid(c:ay):Prop:=0<c.1/\0≤c.2/\c.2<c.1
def rg(n:Int)(c:ay):Bool:=n%c.1==c.2
theorem cQ{n:Nat}(h:n≤1000):n≤aj:=aD h (by decide)
theorem eh{α:Type}{guard:Gp->Prop}{g:fV}{tc:bV}{te:aL}{Q:List D->Gp->Prop}(I:S3->Prop)(h:α->D)(pr:α->Bool)(f:α->D){G:Gp}(hg:guard G):∀(xs:List α) (acc:List D) (τ:S3),I τ ->
  (∀x∈xs,∀τ (K1:S3->Gp->Prop) (K2:S3->D->Gp->Prop),I τ->(pr x=true->∀τ2,I τ2->K2 τ2 (f x) G)->(pr x=false->∀τ2,I τ2->K1 τ2 G)->g (h x) τ G fun τ2 G2=>tc τ2 G2 fun b G3=>Br b (te τ2 G3 fun v G4=>K2 τ2 v G4) (K1 τ2 G3)) ->
  Q (acc++(xs.filter pr).map f) G->gF guard g tc te Q (xs.map h) acc τ G
 |[],acc,τ,_,_,q=>⟨hg,by simpa using q⟩
 |d::ds,acc,τ,hI,hs,q=>by
  refine⟨hg,hs d Ω τ (fun τ2 G3=>gF guard g tc te Q (ds.map h) acc τ2 G3) (fun τ2 v G4=>gF guard g tc te Q (ds.map h) (acc++[v]) τ2 G4) hI (fun hp τ2 h2=>?_) fun hp τ2 h2=>?_⟩
  ·refine eh I h pr f hg ds _ τ2 h2 (fun d' hd=>hs d' (ab _ hd)) ?_;rw[List.filter_cons_of_pos hp] at q;simpa using q
  ·refine eh I h pr f hg ds _ τ2 h2 (fun d' hd=>hs d' (ab _ hd)) ?_;rw[List.filter_cons_of_neg (by rw[hp];simp)] at q;exact q
end My
namespace My
open PySem L2 L3
def cX(c:ay):Dat.D:=.tup [.int c.1,.int c.2]
theorem sd:∀cs:List ay,cW (cs.map cD)=some (cs.map cX)
 |[]=>rfl
 |c::cs=>by
  show (match gA (cD c) with
   |some x=>match cW (cs.map cD) with
    |some xs=>some (x::xs)
    |none=>none
   | none=>none)=_
  rw[sd cs];rfl
theorem fU{G:Gp}{a:ζ}{ds:List D}{xs:List Dat.D}(h:G a=some (.lst ds))(e:cW ds=some xs):jK G (.obj a)=some (.lst xs):=by
 unfold jK;simp only[h,e]
theorem we:∀cs:List ay,Dat.dE (cs.map cX)≤1
 |[]=>aK _
 |c::cs=>by
  show max (cX c).gT (Dat.dE (cs.map cX))≤1;have h1:(cX c).gT=1:=rfl;have:=we cs;lia
theorem pj(xs:List Dat.D):(Dat.D.lst xs).cq (.lst [])=xs.isEmpty:=by
 cases xs with
 |nil=>rfl
 |cons x xs=>rfl
theorem Ka(a b:ay):(cX a).cq (cX b)=decide (a=b):=by
 obtain⟨s,r⟩:=a;obtain⟨s',r'⟩:=b;show ((s==s')&&((r==r')&&true))=decide ((s,r)=(s',r'));rw[iM];simp
theorem wd:∀as bs:List ay,Dat.gE (as.map cX) (bs.map cX)=decide (as=bs)
 |[],[]=>rfl
 |[],b::bs=>rfl
 |a::as,[]=>rfl
 |a::as,b::bs=>by
  show ((cX a).cq (cX b)&&Dat.gE (as.map cX) (bs.map cX))=_;rw[Ka,wd as bs,iM];simp
end My
namespace My
open PySem L2 L3
def rZ(M:Int)(cs:List ay):Prop:=∀c∈cs,Valid c/\c.1≤M
end My
namespace My
open PySem L2 L3
def gr(c:ay):List Int:=[c.1,c.2]
theorem uA(cs:List ay):(cs.map gr).map tupI=cs.map cD:=by
 rw[bL];rfl
def Ia(a b:ay):Prop:=a.1<b.1∨(a.1=b.1/\a.2<b.2)
theorem Dd{a b:ay}(h:gr a=gr b):a=b:=by
 obtain⟨s,r⟩:=a;obtain⟨s',r'⟩:=b;simp[gr] at h;simp[h]
theorem uD{a b:ay}(h:cL.lx (gr b) (gr a)=false)(hne:a≠b):Ia a b:=by
 obtain⟨s,r⟩:=a;obtain⟨s',r'⟩:=b;unfold gr at h;simp only[cL.lx] at h;by_cases e:s'=s
 ·rw[if_pos e] at h;by_cases e2:r'=r
  ·exact absurd (by rw[e,e2]) hne
  ·rw[if_neg e2] at h;have:=of_decide_eq_false h;exact .inr ⟨e.symm,by simp only;lia⟩
 ·rw[if_neg e] at h;have:=of_decide_eq_false h;exact .inl (by simp only;lia)
theorem ER{cs:List ay}:∀ns∈cs.map gr,ns≠[]:=fun ns hn=>by
 obtain⟨c,_,rfl⟩:=bj.mp hn;simp[gr]
end My
namespace My
open PySem L2 L3
theorem kT{guard:Gp->Prop}{g:fV}{tc:bV}{te:aL}{Q:List D->Gp->Prop}(I:List D->List D->S3->Gp->Prop)(hg:∀ds acc τ G,I ds acc τ G->guard G)
  (step:∀d ds acc τ G (K1:S3->Gp->Prop) (K2:S3->D->Gp->Prop),I (d::ds) acc τ G->(∀τ' v G',I ds (acc++[v]) τ' G'->K2 τ' v G')->(∀τ' G',I ds acc τ' G'->K1 τ' G')->g d τ G fun τ2 G2=>tc τ2 G2 fun b G3=>Br b (te τ2 G3 fun v G4=>K2 τ2 v G4) (K1 τ2 G3))
  (kl:∀acc τ G,I [] acc τ G->Q acc G):∀ds acc τ G,I ds acc τ G->gF guard g tc te Q ds acc τ G
 |[],acc,τ,G,h=>⟨hg _ _ _ _ h,kl _ _ _ h⟩
 |d::ds,acc,τ,G,h=>⟨hg _ _ _ _ h,step d ds acc τ G (fun τ2 G3=>gF guard g tc te Q ds acc τ2 G3) (fun τ2 v G4=>gF guard g tc te Q ds (acc++[v]) τ2 G4) h
   (fun τ' v G' q=>kT I hg step kl ds _ τ' G' q) fun τ' G' q=>kT I hg step kl ds _ τ' G' q⟩
end My
namespace My
open PySem L2 L3
def wU(cs:List ay)(a:Nat):Nat:=cs.foldl (fun a c=>j4 a c.1.toNat) a
def nT(cs:List ay):Nat:=wU cs 1
theorem EF{n:Nat}(h:n<10^80):ik (n:Int):=by
 show (n:Int).natAbs<2^4000;exact oO (by simpa using h) (by decide)
end My
namespace My
open PySem L2 L3
def oV:eO:=fun ds G Q=>∃a b:Nat,ds=[.int a,.int b]/\Q (.int (eu a b:Nat)) G
def Dm:aP:=da (Γ 2) (hName 1)
def Dn:aP:=b7 (da (Γ 1) (hName 0)) Dm
def Dp:aP:=b7 (da (br gs (Γ 0) (Γ 1)) (hName 2)) Dn
def Dl:aP:=cP (Γ 0)
def B6:aP:=b7 (uc (cK (br (fx true) (Γ 1) (eC (.int 0)))) (Dp)) Dl
theorem Je:∀ds G Q,oV ds G Q->B6 (bJ Q) (bE ["one","other","left"] ds) G:=by
 rintro ds G Q ⟨a,b,rfl,q⟩;refine⟨fun m τ G'=>G'=G/\∃(a':Nat) (x:Option D),τ=[some (.int a'),some (.int (m:Nat)),x]/\eu a' m=eu a b,⟨b,rfl,a,_,rfl,rfl⟩,?_⟩;rintro m τ G' ⟨rfl,a',x,rfl,hg⟩;refine⟨_,_,rfl,rfl,aK _,fun h=>?_,fun h=>?_⟩
 ·have h1:(!((m:Int)==0))=true:=h;have h':(0:Int)<(m:Int):=by simp at h1;lia
  refine⟨h',a'%m,by exact_mod_cast Nat.mod_lt a' (by lia),rfl,m,some (.int (a'%m:Nat)),?_,?_⟩
  ·show [some (D.int (m:Nat)),some (D.int ((a':Int)%(m:Int))),some (D.int ((a':Int)%(m:Int)))]=_;rw[←Int.natCast_emod]
  ·rw[←hg,Nat.gcd_comm a' m,Nat.gcd_rec m a',Nat.gcd_comm]
 ·have h1:(!((m:Int)==0))=false:=h;have:m=0:=by simp at h1;lia
  subst this;rw[Nat.gcd_zero_right] at hg;rw[←hg] at q;exact bI q
def nD(n:Nat):D:=.int (n:Nat)
def rP(ns:List Nat)(a:Nat):Nat:=ns.foldl j4 a
def qr:eO:=fun ds G Q=>∃(p:ζ) (ns:List Nat),ds=[.obj p]/\G p=some (.lst (ns.map nD))/\(∀n∈ns,0<n/\n≤1000)/\ns.length≤20/\Q (.int (rP ns 1:Nat)) G
def Dr:aP:=da (br qw (Γ 1) (br tu (Γ 2) (bR oV (Φ (Γ 1) (Φ (Γ 2) (aH)))))) (hName 1)
def Dq:aP:=cP (Γ 1)
def Ds:aP:=b7 (kf (gX (Γ 0)) (hName 2) (Dr)) Dq
def B7:aP:=b7 (da (eC (.int 1)) (hName 1)) Ds
theorem Jf:∀ds G Q,qr ds G Q->B7 (bJ Q) (bE ["numbers","least","number"] ds) G:=by
 rintro ds G Q ⟨p,ns,rfl,hp,ok,hl,q⟩;refine⟨_,hp,?_⟩;refine fz (fun ds τ G'=>G'=G/\∃(zs:List Nat) (a:Nat) (x2:Option D),ds=zs.map nD/\τ=[some (.obj p),some (.int a),x2]/\(∀n∈zs,0<n/\n≤1000)/\0<a/\a*1000^zs.length≤1000^20/\rP zs a=rP ns 1) (fun _ _ _ h=>by rw[h.1];exact hp) ?_ ?_ _ _ _ ⟨rfl,ns,1,none,rfl,rfl,ok,by decide,?_,rfl⟩
 ·rintro d ds τ G' N ⟨rfl,zs,a,x2,e,rfl,okz,ha,hb,hr⟩ hN;cases zs with
  |nil=>cases e
  |cons n zs=>
   cases e;obtain⟨hs1,hs2⟩:=okz _ Ω;have hg:0<eu a n:=kK _ ha;have hga:eu a n≤a:=Nat.le_of_dvd ha (Nat.gcd_dvd_left _ _);have ha20:a≤1000^20:=aD (Nat.le_mul_of_pos_right _ (Nat.pow_pos (by decide))) hb;have hbig:∀k:Nat,k≤1000^20->ik (k:Int):=fun k hk=>EF (Nat.lt_of_le_of_lt hk (by decide));refine⟨a,n,rfl,⟨by lia,hbig _ (aD hga ha20)⟩,⟨hbig _ ha20,?_⟩,?_⟩
   ·show ik ((n:Int) / (eu a n:Nat));rw[←kI];exact hbig _ (aD (Nat.div_le_self _ _) (aD hs2 (by decide)))
   have el:a*(n / eu a n)=j4 a n:=by
    unfold j4;rw[Nat.mul_div_assoc a (Nat.gcd_dvd_right a n)]
   refine hN _ _ ⟨rfl,zs,j4 a n,some (nD n),rfl,?_,fun c hc=>okz c (ab _ hc),Nat.lcm_pos ha (by lia),?_,hr⟩
   ·show [some (D.obj p),some (D.int ((a:Int)*((n:Int) / (eu a n:Nat)))),_]=_;rw[←kI,←Int.natCast_mul,el]
   ·refine aD ?_ hb;rw[aI,Nat.pow_succ,kE (1000^zs.length) 1000,←Nat.mul_assoc];refine Nat.mul_le_mul_right _ ?_;have:j4 a n≤a*n:=Nat.le_of_dvd (Nat.mul_pos ha (by lia)) (Nat.lcm_dvd (Nat.dvd_mul_right _ _) (Nat.dvd_mul_left _ _));exact aD this (Nat.mul_le_mul_left _ (by lia))
 ·rintro τ G' ⟨rfl,zs,a,x2,e,rfl,okz,ha,hb,hr⟩;have:zs=[]:=by cases zs with
   |nil=>rfl
   |cons z zs=>cases e
  subst this;have hr':a=rP ns 1:=hr;rw[←hr'] at q;exact bI q
 ·rw[Nat.one_mul];exact Nat.pow_le_pow_right (by decide) hl
theorem Eo(cs:List ay)(a:Nat):rP (cs.map fun c=>c.1.toNat) a=wU cs a:=by
 unfold rP wU;rw[List.foldl_map]
def nN:eO:=fun ds G Q=>∃cs:List ay,ds=[bZ cs]/\rZ 1000 cs/\cs.length≤20/\Q (.int (nT cs:Nat)) G
def yD:aP:=cP (bR qr (Φ (fm ["clock"] [] (gX (Γ 0)) (hName 0) (fu) (br fZ (Γ 0) (eC (.int 0)))) (aH)))
theorem filter_all{α:Type}(xs:List α):xs.filter (fun _=>true)=xs:=List.filter_eq_self.mpr fun _ _=>rfl
theorem Fj:∀ds G Q,nN ds G Q->yD (bJ Q) (bE ["clocks"] ds) G:=by
 rintro ds G Q ⟨cs,rfl,ok,hl,q⟩;refine⟨by show (cs.map cD).length≤aj;rw[θ];exact cQ (by lia),?_⟩;refine eh (fun τ=>∃x,τ=[x]) cD (fun _=>true) (fun c=>nD c.1.toNat) (G:=G) trivial cs [] _ ⟨none,rfl⟩ ?_ ?_
 ·rintro⟨s,r⟩ hm τ K1 K2 ⟨x,rfl⟩ h1 h2;refine⟨fun _=>⟨_,rfl,?_⟩,nofun⟩;have hs:0<s:=(ok _ hm).1.1;have:=h1 rfl [some (cD (s,r))] ⟨_,rfl⟩;show K2 [some (cD (s,r))] (.int s) G;rw[show D.int s=nD (s,r).1.toNat by show D.int s=D.int ((s.toNat:Nat):Int);rw[iT (by lia)]];exact this
 ·intro p G' n;rw[filter_all,bF,show cs.map (fun c:ay=>nD c.1.toNat)=(cs.map fun c:ay=>c.1.toNat).map nD by rw[bL];rfl] at n;refine⟨p,_,rfl,n.at_,fun k hk=>?_,by rw[θ];exact hl,?_⟩
  ·obtain⟨c,hc,rfl⟩:=bj.mp hk;obtain⟨⟨a,_⟩,b⟩:=ok c hc;lia
  ·rw[Eo];exact oY n.sub q
end My
namespace My
open PySem L2 L3
theorem KS(n:Nat):gk 0 n=(aS n).map nD:=by
 unfold gk;refine b9 fun i _=>?_;show D.int (0+(i:Int))=D.int (i:Int);rw[Int.zero_add]
end My
namespace My
open PySem L2 L3
theorem rX{α:Type}(f:α->Bool):∀xs:List α,mZ (xs.map fun x=>D.bl (f x))=some (xs.map f)
 |[]=>rfl
 |x::xs=>by
  show Option.map _ (mZ (xs.map fun x=>D.bl (f x)))=_;rw[rX f xs];rfl
end My
namespace My
open PySem L2 L3
theorem EE{a b:ay}(h:Ia a b)(h':Ia b a):False:=by
 rcases h with h|⟨h1,h2⟩<;>rcases h' with h' | ⟨h3,h4⟩<;>lia
theorem D7{a b:ay}(h:cL.lx (gr b) (gr a)=false)(h':cL.lx (gr a) (gr b)=false):a=b:=
 dj fun hne=>EE (uD h hne) (uD h' fun z=>hne z.symm)
theorem pS:∀{as bs:List ay},as.Perm bs->jO (as.map gr)->jO (bs.map gr)->as=bs
 |[],bs,p,_,_=>(List.nil_perm.mp p).symm
 |a::as,[],p,_,_=>absurd p.length_eq (by simp)
 |a::as,b::bs,p,ha,hb=>by
  have ha':=cg.mp ha;have hb':=cg.mp hb;have hab:a=b:=by
   have m1:a∈b::bs:=p.mem_iff.mp Ω;have m2:b∈a::as:=p.mem_iff.mpr Ω;rcases bf.mp m1 with h|h
   ·exact h
   ·rcases bf.mp m2 with h2|h2
    ·exact h2.symm
    ·exact D7 (ha'.1 _ (bj.mpr ⟨b,h2,rfl⟩)) (hb'.1 _ (bj.mpr ⟨a,h,rfl⟩))
  subst hab;rw[pS (List.Perm.cons_inv p) ha'.2 hb'.2]
end My
namespace My
open PySem L2 L3
def qm:eO:=fun ds G Q=>∃a b:Int,ds=[.int a,.int b]/\a≤b/\Q .ak G
def B3:aP:=ke (cK (br Fy (Γ 0) (Γ 1))) (ud) (fY)
theorem Jb:∀ds G Q,qm ds G Q->B3 (bJ Q) (bE ["many","most"] ds) G:=by
 rintro ds G Q ⟨a,b,rfl,h,q⟩;refine⟨fun h'=>?_,fun _=>⟨G,Sub.refl _,q⟩⟩;have:a > b:=of_decide_eq_true h';lia
def nums(c:ay)(n:Nat):List Nat:=(aS (gm c.2 n c.1)).map fun i=>c.2.toNat+i*c.1.toNat
theorem ur{c:ay}(h:Valid c)(n:Nat):lp c.2 c.1 (gm c.2 n c.1)=(nums c n).map nD:=by
 unfold lp nums;rw[bL];refine b9 fun i _=>?_;show D.int _=D.int ((c.2.toNat+i*c.1.toNat:Nat):Int);congr 1;have:=h.1;have:=h.2.1;rw[Int.natCast_add,Int.natCast_mul,iT (by lia),iT (by lia)]
theorem qb{c:ay}(h:Valid c){n x:Nat}:x∈nums c n↔x<n/\rg x c=true:=by
 obtain⟨h1,h2,h3⟩:=h;unfold nums;rw[bj];obtain⟨s,hs⟩:∃s:Nat,c.1=(s:Int):=⟨c.1.toNat,by lia⟩;obtain⟨r,hr⟩:∃r:Nat,c.2=(r:Int):=⟨c.2.toNat,by lia⟩;have hrg:rg x c=true↔x%s=r:=by
  show ((x:Int)%c.1==c.2)=true↔_;rw[beq_iff_eq,hs,hr];constructor
  ·intro e;exact_mod_cast e
  ·intro e;exact_mod_cast e
 rw[hrg];have s0:0<s:=by lia
 have rs:r<s:=by lia
 have hc:∀i,i<gm c.2 n c.1↔r+i*s<n:=fun i=>by
  unfold gm;rw[hs,hr];split
  ·rename_i hlt;have hrn:r<n:=by lia
   rw[show ((n:Int)-(r:Int)-1) / (s:Int)+1=(((n-r-1) / s+1:Nat):Int) by
    rw[Int.natCast_add,kI,show ((n-r-1:Nat):Int)=(n:Int)-(r:Int)-1 by lia];rfl,cS,Nat.lt_succ_iff,Nat.le_div_iff_mul_le s0]
   lia
  ·rename_i hlt;have:¬r<n:=by lia
   constructor
   ·intro z;exact absurd z (Nat.not_lt_zero _)
   ·intro z;lia
 rw[hs,hr,cS,cS];constructor
 ·rintro⟨i,hi,rfl⟩;have hi:=dP.mp hi;rw[←hs,←hr] at hi;refine⟨(hc i).mp hi,?_⟩;rw[Nat.add_mul_mod_self_right,Nat.mod_eq_of_lt rs]
 ·rintro⟨hx,e⟩;have hd:s*(x / s)+x%s=x:=Nat.div_add_mod x s;refine⟨x / s,?_,?_⟩
  ·rw[dP,←hs,←hr,hc,kE];lia
  ·rw[kE];lia
theorem xc{c:ay}(h:Valid c)(n:Nat):(nums c n).Nodup:=by
 unfold nums;unfold List.Nodup;rw[dv];refine List.Pairwise.imp ?_ (List.nodup_range (n:=gm c.2 n c.1));intro a b hab e;have:=h.1;have h0:0<c.1.toNat:=by lia
 exact hab (Nat.eq_of_mul_eq_mul_right h0 (by lia))
def jz(cs:List ay)(x:Nat):Nat:=(cs.filter (rg x)).length
def gj(f:Nat->Nat)(n:Nat):List D:=(aS n).map fun x=>nD (f x)
theorem oT(f:Nat->Nat)(n:Nat):(gj f n).length=n:=by simp[gj]
theorem yO{f:Nat->Nat}{n x:Nat}(h:x<n):iQ (gj f n) (x:Int)=some (nD (f x)):=wm (by
 unfold gj;rw[bB,gn h];rfl)
theorem Dt{f:Nat->Nat}{n x v:Nat}(h:x<n):(gj f n).set x (nD v)=gj (fun y=>if y=x then v else f y) n:=by
 unfold gj;apply g0;intro i;rw[List.getElem?_set];by_cases hi:i<n
 ·by_cases hx:x=i
  ·subst hx;simp[h]
  ·have:¬i=x:=fun z=>hx z.symm;simp[hi,hx,this]
 ·have:¬x=i:=fun z=>hi (by lia);simp[hi,this]
theorem sf{f g:Nat->Nat}{n:Nat}(h:∀x,x<n->f x=g x):gj f n=gj g n:=by
 unfold gj;refine b9 fun x hx=>?_;rw[h x (dP.mp hx)]
theorem Hq{n x:Nat}(h:x<n):nt n (x:Int)=some x:=by
 unfold nt;simp[h]
def qo:eO:=fun ds G Q=>∃(cs:List ay) (n:Nat),ds=[bZ cs,.int n]/\rZ 1000 cs/\cs.length≤1000/\n≤10000/\∀p G',eP G p (.lst (gj (jz cs) n)) G'->Q (.obj p) G'
def Df:aP:=wQ (Γ 2) (Γ 5) (eC (.int 1)) (· + ·)
def Dg:aP:=kf (tx (Φ (Γ 4) (Φ (Γ 1) (Φ (Γ 3) (aH))))) (hName 5) (Df)
def De:aP:=cP (Γ 2)
def Dh:aP:=b7 (kf (gX (Γ 0)) (xD 2 (pg (hName 3) (pg (hName 4) (xE)))) (Dg)) De
def Di:aP:=b7 (da (br qw (lu (Φ (eC (.int 0)) (aH))) (Γ 1)) (hName 2)) Dh
def B4:aP:=b7 (oW (bR qm (Φ (Γ 1) (Φ (eC (.int 10000)) (aH))))) Di
theorem zeros(n:Nat):(aX n [D.int 0]).flatten=gj (fun _=>0) n:=by
 unfold gj
 induction n with
 |zero=>rfl
 |succ n ih=>
  rw[List.replicate_succ',List.flatten_append,ih,List.range_succ,cV];rfl
theorem zV(c:ay)(cs:List ay)(x:Nat):jz (c::cs) x=(if rg x c=true then 1 else 0)+jz cs x:=by
 unfold jz;rw[List.filter_cons];split
 ·rw[aI];lia
 ·lia
theorem Jc:∀ds G Q,qo ds G Q->B4 (bJ Q) (bE ["clocks","many","counts","step","rest","number"] ds) G:=by
 rintro ds G Q ⟨cs,n,rfl,ok,hl,hn,q⟩;refine⟨n,10000,rfl,by lia,?_⟩;intro p0 G0 n0;refine⟨_,n0.at_,⟨by lia,by lia⟩,?_,fun p G1 n1=>?_⟩
 ·rw[cS];exact aD (show 1*n≤10000 by lia) (by decide)
 rw[cS,zeros] at n1;have m1:eP G p (.lst (gj (fun _=>0) n)) G1:=⟨n0.sub.of_none n1.ak,n0.sub.trans n1.sub,n1.at_⟩;refine fz (fun ds τ G'=>∃(zs:List ay) (f:Nat->Nat) (x3 x4 x5:Option D),ds=zs.map cD/\τ=[some (bZ cs),some (.int n),some (.obj p),x3,x4,x5]/\eP G p (.lst (gj f n)) G'/\(∀z∈zs,z∈cs)/\∀x,f x+jz zs x=jz cs x) (fun _ _ _ _=>trivial) ?_ ?_ _ _ _ ⟨cs,fun _=>0,none,none,none,rfl,rfl,m1,fun _ h=>h,fun x=>oJ _⟩
 ·rintro d ds τ G' N ⟨zs,f,x3,x4,x5,e,rfl,m2,hm,hf⟩ hN;cases zs with
  |nil=>cases e
  |cons c zs=>
   cases e;obtain⟨hv,h1000⟩:=ok c (hm c Ω);have v1:=hv.1;have v2:=hv.2.1;have v3:=hv.2.2;refine⟨rfl,⟨by lia,by lia,by lia,by lia,v1,by lia⟩,?_⟩;show jd _ _ _ _ (lp c.2 c.1 (gm c.2 n c.1)) _ _;rw[ur hv];refine fz (fun ds τ G'=>∃(ms:List Nat) (g:Nat->Nat) (x5:Option D),ds=ms.map nD/\τ=[some (bZ cs),some (.int n),some (.obj p),some (.int c.1),some (.int c.2),x5]/\eP G p (.lst (gj g n)) G'/\ms.Nodup/\(∀x∈ms,x<n/\rg x c=true)/\∀x,x<n->g x=f x+(if rg x c=true/\x∉ms then 1 else 0)) (fun _ _ _ _=>trivial) ?_ ?_ _ _ _ ⟨nums c n,f,x5,rfl,rfl,m2,xc hv n,fun x hx=>(qb hv).mp hx,fun x hx=>?_⟩
   ·rintro d ds τ G2 N2 ⟨ms,g,x5,e,rfl,m3,nd,hr,hg⟩ hN2;cases ms with
    |nil=>cases e
    |cons x ms=>
     cases e;have nd':=gu.mp nd;obtain⟨hx,hrx⟩:=hr x Ω;refine⟨_,_,m3.at_,yO hx,?_⟩;refine⟨_,x,m3.at_,?_,?_⟩
     ·rw[oT];exact Hq hx
     ·refine hN2 _ _ ⟨ms,fun y=>if y=x then g x+1 else g y,_,rfl,rfl,⟨m3.ak,Sub.wx m3.sub m3.ak,?_⟩,nd'.2,fun y hy=>hr y (ab _ hy),fun y hy=>?_⟩
      ·rw[df,←Dt hx];rfl
      ·have:=hg y hy;by_cases hyx:y=x
       ·subst hyx;rw[if_neg (fun z=>z.2 Ω)] at this;rw[if_pos (⟨hrx,nd'.1⟩:rg y c=true/\y∉ms)];show (if y=y then g y+1 else g y)=f y+1;rw[if_pos rfl,this]
       ·show (if y=x then g x+1 else g y)=_;rw[if_neg hyx,this];have:y∉x::ms↔y∉ms:=by simp[hyx]
        simp only[this]
   ·rintro τ G2 ⟨ms,g,x5,e,rfl,m3,nd,hr,hg⟩;have e0:ms=[]:=by cases ms with
     |nil=>rfl
     |cons z zs=>cases e
    subst e0;refine hN _ _ ⟨zs,fun x=>f x+(if rg x c=true then 1 else 0),_,_,_,rfl,rfl,?_,fun z hz=>hm z (ab _ hz),fun x=>?_⟩
    ·rw[sf (g:=g) fun x hx=>?_]
     ·exact m3
     ·rw[hg x hx];simp
    ·have:=hf x;rw[zV] at this;show f x+(if rg x c=true then 1 else 0)+jz zs x=jz cs x;lia
   ·rw[if_neg]
    ·rfl
    ·rintro⟨z1,z2⟩;exact z2 ((qb hv).mpr ⟨hx,z1⟩)
 ·rintro τ G' ⟨zs,f,x3,x4,x5,e,rfl,m2,hm,hf⟩;have e0:zs=[]:=by cases zs with
   |nil=>rfl
   |cons z zs=>cases e
  subst e0;refine bI (q p G' ?_);rw[sf (g:=f) fun x _=>by have:=hf x;have e:jz [] x=0:=rfl;lia];exact m2
def oN:Option Nat->D
 |none=>.ak
 |some x=>nD x
def qp:eO:=fun ds G Q=>∃(c:ay) (p:ζ) (f:Nat->Nat) (n m:Nat),ds=[cD c,.obj p,.int m]/\G p=some (.lst (gj f n))/\Valid c/\c.1≤1000000/\n≤10000/\Q (oN ((nums c n).find? fun x=>f x==m)) G
def Dk:aP:=ke (cK (br (fx false) (br fZ (Γ 1) (Γ 3)) (Γ 2))) (cP (Γ 3)) (fY)
def Dj:aP:=cP (eC .ak)
def B5:aP:=b7 (kf (tx (Φ (br fZ (Γ 0) (eC (.int 1))) (Φ (fM kO (Φ (Γ 1) (aH))) (Φ (br fZ (Γ 0) (eC (.int 0))) (aH))))) (hName 3) (Dk)) Dj
theorem Jd:∀ds G Q,qp ds G Q->B5 (bJ Q) (bE ["clock","counts","many","number"] ds) G:=by
 rintro ds G Q ⟨c,p,f,n,m,rfl,hp,hv,hb,hn,q⟩;have v1:=hv.1;have v2:=hv.2.1;have v3:=hv.2.2;refine⟨_,rfl,_,hp,_,rfl,⟨by lia,by lia,by rw[oT];lia,by rw[oT];lia,v1,by lia⟩,?_⟩;show jd _ _ _ _ (lp c.2 c.1 (gm c.2 (((gj f n).length:Nat):Int) c.1)) _ _;rw[oT,ur hv];refine fz (fun ds τ G'=>G'=G/\∃(ms:List Nat) (x3:Option D),ds=ms.map nD/\τ=[some (cD c),some (.obj p),some (.int m),x3]/\(∀x∈ms,x<n)/\ms.find? (fun x=>f x==m)=(nums c n).find? fun x=>f x==m) (fun _ _ _ _=>trivial) ?_ ?_ _ _ _ ⟨rfl,nums c n,none,rfl,rfl,fun x hx=>((qb hv).mp hx).1,rfl⟩
 ·rintro d ds τ G' N ⟨eg,ms,x3,e,rfl,hm,hf⟩ hN;cases ms with
  |nil=>cases e
  |cons x ms=>
   cases e;rw[List.find?_cons] at hf;refine⟨_,_,by rw[eg];exact hp,yO (hm x Ω),_,_,rfl,rfl,aK _,fun h=>?_,fun h=>?_⟩
   ·have h':(((f x:Nat):Int)==(m:Int))=true:=h;have e2:f x=m:=by
     rw[beq_iff_eq] at h';exact_mod_cast h'
    rw[show (f x==m)=true by rw[e2,beq_self_eq_true]] at hf;rw[←hf] at q;rw[eg];exact bI q
   ·have h':(((f x:Nat):Int)==(m:Int))=false:=h;have e2:(f x==m)=false:=by
     cases e3:f x==m with
     |false=>rfl
     |true=>
      rw[beq_iff_eq] at e3;rw[e3,beq_self_eq_true] at h';cases h'
    rw[e2] at hf;exact hN _ _ ⟨eg,ms,_,rfl,rfl,fun y hy=>hm y (ab _ hy),hf⟩
 ·rintro τ G' ⟨eg,ms,x3,e,rfl,hm,hf⟩;cases ms with
  |cons x ms=>cases e
  |nil=>
   have hf:none=(nums c n).find? fun x=>f x==m:=hf;rw[←hf] at q;rw[eg];exact bI q
end My
namespace My
open PySem L2 L3
def HF(cs:List ay)(c:ay):Option Nat:=(nums c (nT (cs++[c]))).find? fun x=>jz cs x==0
def km(cs:List ay):Option Nat:=(aS (nT cs)).find? fun x=>jz cs x==0
theorem vD(cs:List ay):nT (cs++[(1,0)])=nT cs:=by
 unfold nT wU;rw[List.foldl_append];show j4 _ 1=_;rw[Nat.lcm_one_right]
theorem A3(n:Nat):nums (1,0) n=aS n:=by
 have e:gm 0 (n:Int) 1=n:=by
  unfold gm;split
  ·rw[Int.ediv_one];lia
  ·lia
 unfold nums;show (aS (gm 0 (n:Int) 1)).map (fun i=>0+i*1)=_;rw[e];refine (b9 fun i _=>?_).trans (List.map_id _);show 0+i*1=i;lia
theorem HE(cs:List ay):HF cs (1,0)=km cs:=by
 unfold HF km;rw[vD,A3]
theorem Gk{cs:List ay}(ok:rZ 1000 cs):rZ 1000 (cs++[(1,0)]):=fun z hz=>by
 rcases ag.mp hz with h|h
 ·exact ok z h
 ·have:z=(1,0):=by simpa using h
  subst this;exact⟨⟨by decide,by decide,by decide⟩,by decide⟩
end My
namespace My
open PySem L2 L3
theorem EA(cs:List ay):(Dat.D.tup (cs.map cX)).cq (.tup (cs.map cX))=true:=by
 show Dat.gE (cs.map cX) (cs.map cX)=true;rw[wd];simp
theorem pU(n:Nat):gk 0 n=((aS n).map fun k:Nat=>(k:Int)).map D.int:=by
 unfold gk;rw[bL];refine b9 fun k _=>?_;show D.int (0+(k:Int))=D.int (k:Int);rw[Int.zero_add]
end My
namespace hX
open PySem
section
variable {prog:aq} {w:aC} {A:aZ} {E:γ->ε->Prop} {s:ε}
inductive i7(prog:aq)(w:aC)(h:az):List (List Int)->List γ->Prop
 |nil:i7 prog w h [] []
 |cons {ks:List Int} {b:ζ} {kss:List (List Int)} {vs:List γ}:iR prog w h ks b->i7 prog w h kss vs->i7 prog w h (ks::kss) (.ref b::vs)
def jA(prog:aq)(w:aC)(h:az)(kss:List (List Int))(a:ζ):Prop:=∃o items n,h.get? a=some o/\o.cls=.type "tuple"/\o.data=.seq items n/\i7 prog w h kss items.toList
theorem i7.inj{h:az}{x y:List (List Int)}{vs:List γ}(hx:i7 prog w h x vs)(hy:i7 prog w h y vs):x=y:=by
 induction hx generalizing y with
 |nil=>cases hy;rfl
 |cons h1 _ ih=>
  cases hy with
  |cons h2 t2=>rw[h1.inj h2,ih t2]
theorem i7.mono{h h':az}{x:List (List Int)}{vs:List γ}(m:∀ks b,iR prog w h ks b->iR prog w h' ks b)(hx:i7 prog w h x vs):i7 prog w h' x vs:=by
 induction hx with
 |nil=>exact .nil
 |cons h1 _ ih=>exact .cons (m _ _ h1) ih
theorem jA.inj{h:az}{a:ζ}{x y:List (List Int)}(hx:jA prog w h x a)(hy:jA prog w h y a):x=y:=by
 obtain⟨o,items,n,ho,_,hd,hi⟩:=hx;obtain⟨o',items',n',ho',_,hd',hi'⟩:=hy;obtain rfl:o=o':=aw (ho.symm.trans ho');rw[hd] at hd';injection hd' with h1 _;subst h1;exact hi.inj hi'
end
end hX
namespace HT
open PySem PyProof.Rows
theorem vf{prog:aq}{w:aC}{ks:List Int}{vs:List γ}(i:ItemsAre (intKind prog w) ks vs):dS vs ks:=by
 induction i with
 |nil=>exact .nil
 |cons h1 _ ih=>
  obtain⟨t,rfl⟩:=fF h1;exact .cons _ _ ih
theorem sy{h:az}{prog:aq}{w:aC}{a:ζ}{ks:List Int}(k:hX.iR prog w h ks a):∃its,jU h a its/\dS its.toList ks:=by
 obtain⟨o,its,n,ho,hc,hd,i⟩:=k;exact⟨its,⟨o,ho,hc,n,hd⟩,vf i⟩
end HT
namespace hX
open PySem
section
variable {prog:aq} {w:aC} {A:aZ} {E:γ->ε->Prop} {s:ε}
theorem Eu{h h':az}{ks:List Int}{b:ζ}(k:∀c ob,h.get? c=some ob->h'.get? c=some ob)(z:iR prog w h ks b):iR prog w h' ks b:=by
 obtain⟨o,its,n,ho,r⟩:=z;exact⟨o,its,n,k _ _ ho,r⟩
theorem Bh{h h':az}{kss:List (List Int)}{b:ζ}(k:∀c ob,h.get? c=some ob->h'.get? c=some ob)(z:jA prog w h kss b):jA prog w h' kss b:=by
 obtain⟨o,its,n,ho,hc,hd,hi⟩:=z;exact⟨o,its,n,k _ _ ho,hc,hd,hi.mono fun ks b z=>Eu k z⟩
end
end hX
namespace cL
open PySem PySem.W PyProof.Rows PySem.Calls hX
theorem zB:∀x y:List Int,lx x y=HT.lexLt x y
 |[],[]=>rfl
 |[],_::_=>rfl
 |_::_,[]=>rfl
 |x::xs,y::ys=>by
  show (if x=y then lx xs ys else _)=(if x=y then HT.lexLt xs ys else _);rw[zB xs ys]
theorem uC:∀{x y:List Int},x≠y->lx x y=false->lx y x=true
 |[],[],h,_=>absurd rfl h
 |[],_::_,_,h=>by cases h
 |_::_,[],_,_=>rfl
 |x::xs,y::ys,h,h2=>by
  have h2':(if x=y then lx xs ys else decide (x<y))=false:=h2;show (if y=x then lx ys xs else decide (y<x))=true;by_cases e:x=y
  ·subst e;rw[if_pos rfl] at h2' ⊢;exact uC (fun z=>h (by rw[z])) h2'
  ·rw[if_neg e] at h2';rw[if_neg (fR e)];have:=of_decide_eq_false h2';exact decide_eq_true (by lia)
def gS:List (List Int)->List (List Int)->Bool
 |[],[]=>false
 |[],_::_=>true
 |_::_,[]=>false
 |x::xs,y::ys=>if x=y then gS xs ys else lx x y
theorem vW:∀{x y:List (List Int)},gS x y=true->gS y x=false
 |[],[],h=>by cases h
 |[],_::_,_=>rfl
 |_::_,[],h=>by cases h
 |x::xs,y::ys,h=>by
  have h':(if x=y then gS xs ys else lx x y)=true:=h;show (if y=x then gS ys xs else lx y x)=false;by_cases e:x=y
  ·rw[if_pos e] at h';rw[if_pos e.symm];exact vW h'
  ·rw[if_neg e] at h';rw[if_neg (fR e)];exact oj h'
theorem vU:∀{a b c:List (List Int)},gS b a=false->gS c b=false->gS c a=false
 |[],_,[],_,_=>rfl
 |[],[],_::_,_,_=>rfl
 |[],_::_,_::_,_,_=>rfl
 |_::_,[],_,h,_=>by cases h
 |_::_,_::_,[],_,h=>by cases h
 |a::as,b::bs,c::cs,h1,h2=>by
  have h1':(if b=a then gS bs as else lx b a)=false:=h1;have h2':(if c=b then gS cs bs else lx c b)=false:=h2;show (if c=a then gS cs as else lx c a)=false;by_cases e1:b=a
  ·rw[if_pos e1] at h1';by_cases e2:c=b
   ·rw[if_pos e2] at h2';rw[if_pos (e2.trans e1)];exact vU h1' h2'
   ·rw[if_neg e2] at h2';rw[if_neg (fun z=>e2 (z.trans e1.symm)),←e1];exact h2'
  ·rw[if_neg e1] at h1';by_cases e2:c=b
   ·rw[if_neg (fun z=>e1 (e2.symm.trans z)),e2];exact h1'
   ·rw[if_neg e2] at h2';by_cases e3:c=a
    ·subst e3;have:=uC (fR e1) h2';rw[h1'] at this;cases this
    ·rw[if_neg e3];exact oi h1' h2'
theorem vV:∀{x y:List (List Int)},x≠y->gS x y=false->gS y x=true
 |[],[],h,_=>absurd rfl h
 |[],_::_,_,h=>by cases h
 |_::_,[],_,_=>rfl
 |x::xs,y::ys,h,h2=>by
  have h2':(if x=y then gS xs ys else lx x y)=false:=h2;show (if y=x then gS ys xs else lx y x)=true;by_cases e:x=y
  ·subst e;rw[if_pos rfl] at h2' ⊢;exact vV (fun z=>h (by rw[z])) h2'
  ·rw[if_neg e] at h2';rw[if_neg (fR e)];exact uC e h2'
section
variable {prog:aq} {w:aC} {A:aZ} {E:γ->ε->Prop} {s:ε}
theorem D9{Q:Bool->ε->Prop}(hu:A.units+16<cLine):∀(xs ys:List (List Int)) (us vs:List γ) (i:Nat) (fin:Bool),i7 prog w s.heap xs us->i7 prog w s.heap ys vs ->
  (∃n,fin=decide (n+us.length<n+vs.length))->Q (gS xs ys) s->KatLex prog w A false fin Q (us.zip vs) i s:=by
 intro xs
 induction xs with
 |nil=>
  intro ys us vs i fin h1 h2 hf h;cases h1;obtain⟨n,hf⟩:=hf;cases h2 with
  |nil=>
   have:fin=false:=by simp at hf;exact hf
   rw[this];exact mm h
  |cons h3 h4=>
   have:fin=true:=by rw[hf];simp
   rw[this];exact mm h
 |cons x xs ih=>
  intro ys us vs i fin h1 h2 hf h;cases h1 with
  |cons h1 h1'=>
  cases h2 with
  |nil=>
   obtain⟨n,hf⟩:=hf;have:fin=false:=by rw[hf];simp
   rw[this];exact mm h
  |cons h3 h4=>
   refine kat_cons (wpAny_eqBool_tuple (by lia) h1 h3 ?_);rename_i _ y _ ys _;have h':Q (if x=y then gS xs ys else lx x y) s:=h;by_cases e:x=y
   ·rw[if_pos e] at h';rw[decide_eq_true e];refine kat_yes (ih ys _ _ (i+1) fin h1' h4 ?_ h');obtain⟨n,hf⟩:=hf;exact⟨n+1,by rw[hf];congr 1;simp only[aI];apply propext;lia⟩
   ·rw[if_neg e] at h';rw[decide_eq_false e];refine kat_no ?_;show Ψ _ _ (oneLt' false _ _) _ _ _;obtain⟨i1,t1,j1⟩:=HT.sy h1;obtain⟨i2,t2,j2⟩:=HT.sy h3;refine kat_one _ _ (HT.qF t1 t2 j1 j2 (by lia) ?_);rw[←zB];exact h'
theorem zF{Q:Bool->ε->Prop}{x y:List (List Int)}{a b:ζ}(hu:A.units+16<cLine)(hx:jA prog w s.heap x a)(hy:jA prog w s.heap y b)(h:Q (gS x y) s):Ψ (model prog w) A (keyLt' (tuples' false) (.ref a) (.ref b)) Q E s:=by
 obtain⟨o,its,n,ho,_,hd,hi⟩:=hx;obtain⟨o',its',n',ho',_,hd',hi'⟩:=hy;exact kat_lt ho hd ho' hd' (D9 hu x y its.toList its'.toList 0 _ hi hi' ⟨0,by simp⟩ h)
abbrev Lg(x y:List (List Int)×ζ):Bool:=gS x.1 y.1
abbrev CT(p:List (List Int)×ζ):γ:=.ref p.2
theorem Jm:oE Lg:=⟨fun _ _ h=>vW h,fun _ _ _ h1 h2=>vU h1 h2⟩
theorem tN{h:az}:∀{ps:List (List (List Int)×ζ)},(∀p∈ps,jA prog w h p.1 p.2/\p.1≠[])->∃fs,KatTups h (ps.map fun p=>cu p.2) fs/\fs.length=ps.length/\∀v∈fs,∃ks b,v=.ref b/\iR prog w h ks b
 |[],_=>⟨[],.nil,rfl,fun v hv=>nomatch hv⟩
 |p::ps,hk=>by
  obtain⟨fs,h1,h2,h3⟩:=tN (ps:=ps) fun q hq=>hk q (ab _ hq);obtain⟨⟨o,its,n,ho,hc,hd,hi⟩,hne⟩:=hk p Ω;obtain⟨ks,a⟩:=p;cases ks with
  |nil=>exact absurd rfl hne
  |cons k ks=>
   obtain⟨its⟩:=its;cases hi with
   |@cons _ b _ vs h4 h5=>
    refine⟨.ref b::fs,KatTups.cons ho hc hd (by simp) h1,by simp[h2],fun u hu=>?_⟩;rcases bf.mp hu with q|q
    ·exact⟨k,b,q,h4⟩
    ·exact h3 u q
theorem Bb{ps:List (List (List Int)×ζ)}(hne:ps≠[])(hk:∀p∈ps,jA prog w s.heap p.1 p.2/\p.1≠[]){Q:bN->ε->Prop}(h:Q (tuples' false) s):Ψ (model prog w) A (keyKind' (ps.map CT).toArray) Q E s:=by
 obtain⟨fs,h1,h2,h3⟩:=tN hk;have hl:0<fs.length:=by
  rw[h2];exact nE.mpr hne
 refine kat_kind (T:=.type "tuple") h1 hl (fun v hv=>?_) rfl h;obtain⟨ks,b,rfl,⟨o,its,n,ho,hc,hd,hi⟩⟩:=h3 v hv;rw[←hc];exact (Looks.ld ho).andThen .now
end
end cL
namespace My
open PySem L2 L3
theorem qP:∀ns:List Int,cW (ns.map D.int)=some (ns.map Dat.D.int):=by
 intro ns
 induction ns with
 |nil=>rfl
 |cons n ns ih=>
  show cW (D.int n::ns.map D.int)=_;rw[cW,ih];rfl
theorem mX(ns:List Int):Dat.dE (ns.map Dat.D.int)=0:=by
 induction ns with
 |nil=>rfl
 |cons n ns ih=>
  show max 0 (Dat.dE (ns.map Dat.D.int))=0;lia
theorem wu(ns:List Int)(n:Int):(ns.map Dat.D.int).any (fun v=>v.cq (.int n))=decide (n∈ns):=by
 rw[List.any_map,iM,List.any_eq_true,decide_eq_true_iff];constructor
 ·rintro⟨x,hx,h⟩;have h':(x==n)=true:=h;rw[←eq_of_beq h'];exact hx
 ·intro h;exact⟨n,h,by show (n==n)=true;exact beq_self_eq_true n⟩
end My
namespace L3
open PySem PySem.Spec PyProof.Rows L2 My
def gW(kss:List (List Int)):D:=.tup (kss.map tupI)
def Ac(K:η)(H:Hp)(kss:List (List Int))(a:ζ):Prop:=∃vs,dU K H a vs/\aB K H (kss.map tupI) vs
theorem Ex{K:η}{H:Hp}{kss:List (List Int)}{v:V}(h:Hv K H (gW kss) v):∃a,v=.ref a/\Ac K H kss a:=by
 obtain⟨a,ws,rfl,z1,z2⟩:=fL h;exact⟨a,rfl,ws,z1,z2⟩
theorem D6{K:η}{H:Hp}{kss:List (List Int)}{a:ζ}(h:Ac K H kss a):Hv K H (gW kss) (.ref a):=by
 obtain⟨vs,h1,h2⟩:=h;exact jk h1 h2
theorem qK{K:η}{H:Hp}:∀{qs:List (List (List Int)×ζ)},(∀p∈qs,Ac K H p.1 p.2)->aB K H ((qs.map (·.1)).map gW) (qs.map fun p=>.ref p.2)
 |[],_=>.nil
 |q::qs,h=>.cons (D6 (h q Ω)) (qK fun p hp=>h p (ab _ hp))
theorem v9{P:aq}{w:aC}{h:az}:∀(ps:List (List Int×ζ)),(∀p∈ps,hX.iR P w h p.1 p.2)->hX.i7 P w h (ps.map (·.1)) (ps.map fun p=>cu p.2)
 |[],_=>.nil
 |p::ps,hk=>.cons (hk p Ω) (v9 ps fun q hq=>hk q (ab _ hq))
section
variable {X:Cx} {pins:List (ζ×bp)} {s:ε} {σ:L2.St} {H:Hp}
theorem Ew(I:Inv X pins σ H s){kss:List (List Int)}{a:ζ}(h:Ac X.K H kss a):hX.jA X.prog X.w s.heap kss a:=by
 obtain⟨vs,h1,h2⟩:=h;obtain⟨its,rv,⟨o,ho,hc,n,hd⟩,_⟩:=I.tuple h1;obtain⟨ps,e1,e2,e3,e4⟩:=p9 I h2 rv;refine⟨o,its.toArray,n,ho,hc,hd,?_⟩;rw[←e1,e3];exact v9 ps fun p hp=>(e4 p hp).2
theorem sq(I:Inv X pins σ H s):∀{nss:List (List (List Int))} {vs:List V} {us:List γ},aB X.K H (nss.map gW) vs->aR vs us ->
  ∃ps:List (List (List Int)×ζ),ps.map (·.1)=nss/\vs=ps.map (fun p=>.ref p.2)/\us=ps.map (fun p=>cu p.2)/\∀p∈ps,Ac X.K H p.1 p.2/\hX.jA X.prog X.w s.heap p.1 p.2
 |[],vs,us,h,r=>by
  cases h.iD;cases r;exact⟨[],rfl,rfl,rfl,fun p hp=>nomatch hp⟩
 |ns::nss,vs,us,h,r=>by
  obtain⟨v,vr,rfl,q1,q2⟩:=aB.inv (show aB X.K H (gW ns::nss.map gW) vs from h);cases r with
  |cons r1 r2=>
   obtain⟨ps,e1,e2,e3,e4⟩:=sq I q2 r2;obtain⟨a,rfl,z⟩:=Ex q1;cases r1;refine⟨(ns,a)::ps,by rw[dD,e1],by rw[dD,e2],by rw[dD,e3],fun p hp=>?_⟩;rcases bf.mp hp with rfl|hp
   ·exact⟨z,Ew I z⟩
   ·exact e4 p hp
theorem qh:∀(qs:List (List (List Int)×ζ)),aR (qs.map fun p=>V.ref p.2) (qs.map fun p=>cu p.2)
 |[]=>.nil
 |q::qs=>.cons rfl (qh qs)
def kX(nss:List (List (List Int))):Prop:=nss.Pairwise fun x y=>cL.gS y x=false
end
end L3
namespace L3
open PySem PySem.Spec PyProof.Rows L2
theorem jx{us:List γ}(h:us.length=1):∃a,us=[a]:=List.length_eq_one_iff.mp h
theorem ls{us:List γ}(h:us.length=2):∃a b,us=[a,b]:=by
 rcases us with _|⟨a,us⟩
 ·cases h
 ·obtain⟨b,rfl⟩:=jx (us:=us) (Nat.succ.inj h);exact⟨a,b,rfl⟩
theorem Hg{us:List γ}(h:us.length=3):∃a b c,us=[a,b,c]:=by
 rcases us with _|⟨a,us⟩
 ·cases h
 ·obtain⟨b,c,rfl⟩:=ls (us:=us) (Nat.succ.inj h);exact⟨a,b,c,rfl⟩
end L3
namespace L3
open PySem PySem.Spec PyProof.Rows L2
section
variable {prog:aq} {w:aC} {A:aZ} {E:γ->ε->Prop} {s:ε}
theorem vk{l:ζ}{vs:List γ}{Q:List γ->ε->Prop}(hl:jU s.heap l vs.toArray)(hz:vs.length≤aj)
  (h:Q vs { s with heap:=(s.heap.push (seqObj "list" #[] 0)).update s.heap.objs.size (aO (· ++ vs.toArray))}):Ψ (model prog w) A (collect (.ref l)) Q E s:=by
 obtain⟨o,ho,hc,n,hd⟩:=id hl;unfold collect;refine Θ (wpAny_runValue (codeAny_builtin entry_proto_collect' ?_));show Ψ _ _ (do again (.builtin "list.__iadd__" ⟨[←newList [],.ref l],[]⟩)) _ _ s;refine Θ (gh (bt ⟨Code.quiet_builtin _ (by decide +kernel),codeAny_builtin entry_list_iadd' ?_⟩));show Ψ _ _ (jv (.ref s.heap.objs.size) (.ref l) (.ref s.heap.objs.size)) _ _ { s with heap:=s.heap.push (seqObj "list" #[] 0)};unfold jv;have ho':(s.heap.push (seqObj "list" #[] 0)).get? l=some o:=ρ _ ho;refine Θ (wpAny_typeOf (T:="tuple") ⟨o,ho',hc⟩ ?_);rw[if_pos (by simp)];refine Θ (iJ ho' hd ?_);refine Θ (iJ (xs:=#[]) (n:=0) (aQ _ rfl) rfl ?_);rw[if_neg (by simp)];refine Θ (fj (xs:=#[]) (n:=0) (aQ _ rfl) rfl ?_ (aK _) (by show (#[]++vs.toArray).size≤aj+1;simp only[Array.size_append,ο,dm];lia));refine bt ?_;show Ψ (model prog w) A (do
   let o ←load s.heap.objs.size
   match o.data with
   |.seq xs _=>pure xs.toList
   | _=>unsupported "internal:collect") Q E { s with heap:=(s.heap.push (seqObj "list" #[] 0)).update s.heap.objs.size (aO (· ++ vs.toArray))}
 refine Θ (wpAny_load (et (aQ _ rfl) _) ?_);show Ψ _ _ (pure ((#[]:Array γ)++vs.toArray).toList) Q E _;rw[show ((#[]:Array γ)++vs.toArray).toList=vs by simp];exact bt h
end
section
variable {X:Cx} {e:μ} {ta:aL} {pos p:aG}
theorem uW(hc:X.calm=true)(hu:X.A.units+64<cLine):iG X (.builtin "sorted") (fun vs H Q=>∃(a:ζ) (xs:List V) (nss:List (List Int)),vs=[.ref a]/\dU X.K H a xs/\aB X.K H (nss.map tupI) xs/\nss.length<64/\(∀ns∈nss,ns≠[]) ∧
  ∀(p:ζ) (mss:List (List Int)) (ys:List V),H p=none->mss.Perm nss->jO mss->aB X.K H (mss.map tupI) ys->Q (.ref p) (upd H p (.lst ys))):=by
 intro pins s σ H vs us Q I r h;obtain⟨a,xs,nss,rfl,hl,hv,hz,hne,q⟩:=h;obtain⟨u,rfl,ru⟩:=vals1 r;cases ru;obtain⟨its,rv,pl,_⟩:=I.tuple hl;obtain⟨ps,e1,e2,e3,e4⟩:=p9 I hv rv;subst e3;have hlen:ps.length=nss.length:=by rw[←e1,θ]
 refine cL.yR (ps:=ps) (fun p hp=>⟨(e4 p hp).2,hne _ (by rw[←e1];exact bj.mpr ⟨p,hp,rfl⟩)⟩) (by lia) (fun R hR=>?_) fun qs s' c D' hS hn hD hm=>?_
 ·refine vk pl (by rw[θ,cI];lia) (hR _ ⟨fun b o _ e=>?_,rfl,rfl,rfl,ω _⟩);have hlt:=aa e;show ((s.heap.push (seqObj "list" #[] 0)).update s.heap.objs.size _).get? b=some o;rw[fB _ _ (oK hlt)];exact ρ _ e
 ·refine wM I (by lia) hS hn hD hm fun hf=>?_;refine q _ (qs.map (·.1)) _ hf (by rw[←e1];exact hS.perm.map _) ?_ (sA fun p hp=>(e4 p (hS.perm.mem_iff.mp hp)).1);exact dv.mpr hS.rise
def oA(ta:aL):aL:=fun τ G Q=>ta τ G fun x G1=>match x with
 |.tup ds=>∃nss:List (List Int),ds=nss.map tupI/\nss.length<64/\(∀ns∈nss,ns≠[])/\∀(p:ζ) (mss:List (List Int)) (G':Gp),eP G1 p (.lst (mss.map tupI)) G'->mss.Perm nss->jO mss->Q (.obj p) G'
 |_=>False
theorem EB(hu:X.A.units+64<cLine)(ha:b0 X e ta)(hm:X.mg "sorted" = none)(hc:X.calm=true:=by rfl)(hg:Gl X "sorted":=by rfl)(he:notStar e=true:=by rfl):
  b0 X (.Call (.Name "sorted" p) [e] [] pos) (oA ta):=
 fb (iX (uW hc hu) hg hm rfl (lS ha qB (bW he)) (he:=bW he)) fun σ H Q ⟨τ,G,Q3,RS,RG,h,k⟩=>⟨τ,G,_,RS,RG,h,fun v H1 d G1 h1 S1 R1 q1=>by
  cases d with
  |tup ds=>
   obtain⟨nss,rfl,hz,hne,q⟩:=q1;obtain⟨a,xs,rfl,e1,e2⟩:=fL h1;exact⟨a,xs,nss,rfl,e1,e2,hz,hne,fun p mss ys hp h2 h3 h4=>k _ _ (.obj p) _ oh (S1.trans (.jN hp)) (R1.uz hp h4) (q p mss _ (.mk' (R1.free hp)) h2 h3)⟩
  |_=>exact q1.elim⟩
theorem uh(hu:X.A.units+64<cLine)(ha:QE X e ta)(hm:X.mg "sorted" = none)(hc:X.calm=true:=by rfl)(hg:Gl X "sorted":=by rfl)(he:notStar e=true:=by rfl):
  QE X (.Call (.Name "sorted" p) [e] [] pos) (oA ta):=⟨EB hu ha.of hm hc hg he⟩
end
end L3
namespace My
open PySem L2 L3
def j6(cs:List ay):List (List Int):=cs.map gr
theorem BO(cs:List ay):bZ cs=gW (j6 cs):=by
 unfold bZ gW j6;rw[bL];rfl
theorem wg(css:List (List ay)):css.map bZ=(css.map j6).map gW:=by
 rw[bL];refine b9 fun cs _=>BO cs
theorem Ah{cs ds:List ay}(h:j6 cs=j6 ds):cs=ds:=oR (fun a b e=>Dd e) |>.mp h
def iO(c d:ay):Bool:=!(cL.lx (gr d) (gr c))
def cE(cs:List ay):List ay:=cs.mergeSort iO
theorem mI(cs:List ay):(cE cs).Perm cs:=List.mergeSort_perm cs iO
theorem t7(cs:List ay):jO ((cE cs).map gr):=by
 have h:(cE cs).Pairwise fun a b=>iO a b=true:=by
  refine List.pairwise_mergeSort (fun a b c h1 h2=>?_) (fun a b=>?_) cs
  ·unfold iO at h1 h2 ⊢;rw[cv] at h1 h2 ⊢;exact cL.oi h1 h2
  ·unfold iO;cases h:cL.lx (gr b) (gr a) with
   |false=>rfl
   |true=>
    rw[cL.oj h];rfl
 unfold jO;rw[dv];refine h.imp fun h=>?_;unfold iO at h;rwa [cv] at h
theorem yS{cs:List ay}{mss:List (List Int)}(hp:mss.Perm (cs.map gr))(hr:jO mss):mss=(cE cs).map gr:=by
 obtain⟨zs,p1,e⟩:=lq hp rfl;subst e;rw[pS (p1.trans (mI cs).symm) hr (t7 cs)]
end My
namespace My
open PySem L2 L3
def eU:eO:=fun ds G Q=>∃(cs:List ay) (c:ay),ds=[bZ cs,cD c]/\rZ 1000 (cs++[c])/\cs.length≤16/\nT (cs++[c])≤10000/\Q (oN (HF cs c)) G
def j7:aP:=cP (bR qp (Φ (Γ 1) (Φ (bR qo (Φ (Γ 0) (Φ (bR nN (Φ (br hE (Γ 0) (kq (Φ (Γ 1) (aH)))) (aH))) (aH)))) (Φ (eC (.int 0)) (aH)))))
theorem pW:∀ds G Q,eU ds G Q->j7 (bJ Q) (bE ["clocks","clock"] ds) G:=by
 rintro ds G Q ⟨cs,c,rfl,ok,hl,hn,q⟩;have hc:=ok c (by simp);have h1:=hc.2;refine⟨?_,cs++[c],?_,ok,by simp;lia,cs,nT (cs++[c]),rfl,fun z hz=>ok z (aA _ hz),by lia,hn,fun p G1 n1=>?_⟩
 ·show (cs.map cD).length+1≤aj;rw[θ];exact cQ (by lia)
 ·show [D.tup (cs.map cD++[cD c])]=[bZ (cs++[c])];unfold bZ;rw[cV];rfl
 ·exact⟨c,p,jz cs,nT (cs++[c]),0,rfl,n1.at_,hc.1,by lia,hn,oY n1.sub q⟩
def ym(cs:List ay):Prop:=rZ 1000 cs/\cs.length≤16/\nT cs≤10000
def eV:eO:=fun ds G Q=>∃cs:List ay,ds=[bZ cs]/\ym cs/\Q (oN (km cs)) G
def j8:aP:=cP (bR eU (Φ (Γ 0) (Φ (kq (Φ (eC (.int 1)) (Φ (eC (.int 0)) (aH)))) (aH))))
theorem pX:∀ds G Q,eV ds G Q->j8 (bJ Q) (bE ["clocks"] ds) G:=by
 rintro ds G Q ⟨cs,rfl,⟨ok,hl,hn⟩,q⟩;refine⟨cs,(1,0),rfl,Gk ok,hl,by rw[vD];exact hn,?_⟩;rw[HE];exact bI q
def uT(cs:List ay)(c:ay):Bool:=cs.all fun d=>!(decide ((d.2-c.2)%((eu d.1.toNat c.1.toNat:Nat):Int)=0))
def nM:eO:=fun ds G Q=>∃(cs:List ay) (c:ay),ds=[bZ cs,cD c]/\(∀d∈cs,0<d.1)/\0<c.1/\Q (.bl (uT cs c)) G
def Ak:aP:=ke (cK (br (fx false) (br gs (br tp (Γ 3) (br fZ (Γ 1) (eC (.int 1)))) (bR oV (Φ (Γ 2) (Φ (br fZ (Γ 1) (eC (.int 0))) (aH))))) (eC (.int 0)))) (cP (eC (.bl false))) (fY)
def Aj:aP:=cP (eC (.bl true))
def yC:aP:=b7 (kf (gX (Γ 0)) (xD 2 (pg (hName 2) (pg (hName 3) (xE)))) (Ak)) Aj
theorem Fi:∀ds G Q,nM ds G Q->yC (bJ Q) (bE ["clocks","clock","step","rest"] ds) G:=by
 rintro ds G Q ⟨cs,c,rfl,hd,hc,q⟩;refine fz (fun ds τ G'=>∃(rs:List ay) (x2 x3:Option D),ds=rs.map cD/\uT cs c=uT rs c/\(∀d∈rs,0<d.1)/\τ=[some (bZ cs),some (cD c),x2,x3]/\G'=G) (fun _ _ _ _=>trivial) ?_ ?_ _ _ _ ⟨cs,none,none,rfl,rfl,hd,rfl,rfl⟩
 ·rintro d ds τ G' N ⟨rs,x2,x3,e,ec,hp,rfl,rfl⟩ hN;cases rs with
  |nil=>cases e
  |cons d rs=>
   cases e;obtain⟨s,r⟩:=d;obtain⟨s2,r2⟩:=c;have hs:0<s:=hp (s,r) Ω;have hs2:0<s2:=hc;obtain⟨a,rfl⟩:=fi (Int.le_of_lt hs);obtain⟨b,rfl⟩:=fi (Int.le_of_lt hs2);have hg:0<eu a b:=kK _ (by lia);have ec2:uT cs ((b:Int),r2)=(!(decide ((r-r2)%((eu a b:Nat):Int)=0))&&uT rs ((b:Int),r2)):=ec;refine⟨rfl,_,rfl,_,rfl,a,b,rfl,by show (0:Int)<((eu a b:Nat):Int);lia,_,_,rfl,rfl,aK _,fun g=>?_,fun g=>?_⟩
   ·have g':(((r-r2)%((eu a b:Nat):Int))==0)=true:=g;rw[beq_iff_eq] at g';rw[decide_eq_true g',Bool.not_true,mC] at ec2;rw[ec2] at q;exact bI q
   ·have g':(((r-r2)%((eu a b:Nat):Int))==0)=false:=g;have g2:¬(r-r2)%((eu a b:Nat):Int)=0:=fun z=>by rw[z] at g';cases g'
    rw[decide_eq_false g2,Bool.not_false,nB] at ec2;exact hN _ _ ⟨rs,_,_,rfl,ec2,fun d hd=>hp d (ab _ hd),rfl,rfl⟩
 ·rintro τ G' ⟨rs,x2,x3,e,ec,hp,rfl,rfl⟩;have e0:rs=[]:=by
   cases rs with
   |nil=>rfl
   |cons z zs=>cases e
  subst e0;rw[ec] at q;exact bI q
def grown(ss:List Int)(cs:List ay)(x:Int):List (List ay):=((ss.map fun s=>((s,x%s):ay)).filter (uT cs)).map fun c=>cs++[c]
def nO:eO:=fun ds G Q=>∃(p:ζ) (ss:List Int) (cs:List ay) (x:Int),ds=[.obj p,bZ cs,.int x]/\G p=some (.lst (ss.map D.int))/\(∀s∈ss,0<s)/\ss.length≤60/\(∀c∈cs,0<c.1)/\cs.length≤100/\∀q G',eP G q (.lst ((grown ss cs x).map bZ)) G'->Q (.obj q) G'
def Al:aP:=cP (fm ["clock"] [1] (gX (Γ 3)) (hName 0) (cK (bR nM (Φ (Γ 1) (Φ (Γ 0) (aH))))) (br hE (Γ 1) (kq (Φ (Γ 0) (aH)))))
def yE:aP:=b7 (da (fm ["step"] [2] (gX (Γ 0)) (hName 0) (fu) (kq (Φ (Γ 0) (Φ (br gs (Γ 1) (Γ 0)) (aH))))) (hName 3)) Al
theorem Fk:∀ds G Q,nO ds G Q->yE (bJ Q) (bE ["steps","clocks","number","tried"] ds) G:=by
 rintro ds G Q ⟨p,ss,cs,x,rfl,hp,hs,hl,hc,hcl,q⟩;refine⟨_,hp,by rw[θ];exact cQ (by lia),?_⟩;refine eh (fun τ=>∃y,τ=[y,some (.int x)]) D.int (fun _=>true) (fun s=>cD ((s,x%s):ay)) (G:=G) hp ss [] _ ⟨none,rfl⟩ ?_ ?_
 ·rintro s hm τ K1 K2 ⟨_,rfl⟩ g1 g2;exact⟨fun _=>⟨hs s hm,g1 rfl _ ⟨_,rfl⟩⟩,nofun⟩
 rw[filter_all,bF];intro p3 G3 n3;have e3:G3 p3=some (.lst ((ss.map fun s=>((s,x%s):ay)).map cD)):=by
  rw[n3.at_,bL];rfl
 refine⟨_,e3,by rw[θ,θ];exact cQ (by lia),?_⟩;refine eh (fun τ=>∃y,τ=[y,some (bZ cs)]) cD (uT cs) (fun c=>bZ (cs++[c])) (G:=G3) e3 (ss.map fun s=>((s,x%s):ay)) [] _ ⟨none,rfl⟩ ?_ ?_
 ·rintro c hm τ K1 K2 ⟨_,rfl⟩ g1 g2;obtain⟨s,hs',rfl⟩:=bj.mp hm;refine⟨cs,_,rfl,hc,hs s hs',fun g=>⟨?_,?_⟩,fun g=>g2 g _ ⟨_,rfl⟩⟩
  ·show (cs.map cD).length+1≤aj;rw[θ];exact cQ (by lia)
  ·have e:bZ (cs++[((s,x%s):ay)])=.tup (cs.map cD++[cD ((s,x%s):ay)]):=by
    unfold bZ;rw[cV];rfl
   rw[e] at g1;exact g1 g _ ⟨_,rfl⟩
 ·intro p4 G4 n4;have e4:G4 p4=some (.lst ((grown ss cs x).map bZ)):=by
   rw[n4.at_,bF];unfold grown;rw[bL];rfl
  exact bI (q p4 G4 ⟨n3.sub.of_none n4.ak,n3.sub.trans n4.sub,e4⟩)
def uq(cs:List ay):Bool:=cs.all (fun c=>decide (0<c.1)&&decide (0≤c.2)&&decide (c.2<c.1)&&decide (c.1≤1000))&&decide (cs.length≤16)&&decide (nT cs≤10000)
def jF(ss:List Int):Nat->List ay->Bool
 |0,_=>false
 |f+1,cs=>uq cs&&match km cs with
  |none=>true
  |some x=>(grown ss cs (x:Int)).all (jF ss f)
def kS(ss:List Int):Nat->List ay->List (List ay)
 |0,_=>[]
 |f+1,cs=>match km cs with
  |none=>[cs]
  |some x=>(grown ss cs (x:Int)).flatMap (kS ss f)
theorem vQ{cs:List ay}(h:uq cs=true):ym cs:=by
 unfold uq at h;simp only[cG,decide_eq_true_eq,dQ] at h;refine⟨fun c hc=>?_,h.1.2,h.2⟩;have:=h.1.1 c hc;exact⟨⟨this.1.1.1,this.1.1.2,this.1.2⟩,this.2⟩
def jh(n:Nat):eO:=fun ds G Q=>∃(p:ζ) (ss:List Int) (cs:List ay),ds=[.obj p,bZ cs]/\G p=some (.lst (ss.map D.int))/\(∀s∈ss,0<s)/\ss.length≤60/\jF ss n cs=true/\(kS ss n cs).length≤1000/\∀q G',eP G q (.lst ((kS ss n cs).map bZ)) G'->Q (.obj q) G'
theorem Gr:∀ds G Q,¬jh 0 ds G Q:=by
 rintro ds G Q ⟨_,_,_,_,_,_,_,h,_⟩;cases h
def Aw(n:Nat):aP:=oW (eM nV (Γ 3) (Φ (bR (jh n) (Φ (Γ 0) (Φ (Γ 4) (aH)))) (aH)))
def Av(n:Nat):aP:=cP (Γ 3)
def Ax(n:Nat):aP:=b7 (kf (gX (bR nO (Φ (Γ 0) (Φ (Γ 1) (Φ (Γ 2) (aH)))))) (hName 4) ((Aw n))) (Av n)
def Ay(n:Nat):aP:=b7 (da (lu (aH)) (hName 3)) (Ax n)
def Az(n:Nat):aP:=b7 (ke (cK (br (Fx false) (Γ 2) (eC .ak))) (cP (lu (Φ (Γ 1) (aH)))) (fY)) (Ay n)
def yJ(n:Nat):aP:=b7 (da (bR eV (Φ (Γ 1) (aH))) (hName 2)) (Az n)
theorem Fo(n:Nat):∀ds G Q,jh (n+1) ds G Q->yJ n (bJ Q) (bE ["steps","clocks","number","found","grown"] ds) G:=by
 rintro ds G Q ⟨p,ss,cs,rfl,hp,hs,hl,ho,hx,q⟩;have ho':(uq cs&&match km cs with
  |none=>true
  | some x=>(grown ss cs (x:Int)).all (jF ss n))=true:=ho
 have hx':(match km cs with
  |none=>[cs]
  | some x=>(grown ss cs (x:Int)).flatMap (kS ss n)).length≤1000:=hx
 have q':∀q G',eP G q (.lst ((match km cs with
  |none=>[cs]
  | some x=>(grown ss cs (x:Int)).flatMap (kS ss n)).map bZ)) G'->Q (.obj q) G':=q
 rw[cG] at ho';obtain⟨hc,ho'⟩:=ho';have hR:=vQ hc;refine⟨cs,rfl,hR,?_⟩;cases hm:km cs with
 |none=>
  rw[hm] at q';exact⟨fun _ p1 G1 n1=>bI (q' p1 G1 n1),nofun⟩
 |some x=>
  rw[hm] at q' ho' hx';have q':∀q G',eP G q (.lst (((grown ss cs (x:Int)).flatMap (kS ss n)).map bZ)) G'->Q (.obj q) G':=q';have ho':(grown ss cs (x:Int)).all (jF ss n)=true:=ho';have hx':((grown ss cs (x:Int)).flatMap (kS ss n)).length≤1000:=hx';refine⟨nofun,fun _ p3 G3 n3=>⟨p,ss,cs,(x:Int),rfl,n3.sub _ _ hp,hs,hl,fun c hc=>(hR.1 c hc).1.1,by have:=hR.2.1;lia,fun p4 G4 n4=>⟨_,n4.at_,?_⟩⟩⟩;have h34:p4≠p3:=fun z=>by
   have:=n4.ak;rw[z,n3.at_] at this;cases this
  rw[dQ] at ho';refine fz (fun ds τ G'=>∃(dn rs:List (List ay)) (x4:Option D),dn++rs=grown ss cs (x:Int)/\ds=rs.map bZ/\τ=[some (.obj p),some (bZ cs),some (.int (x:Nat)),some (.obj p3),x4]/\eP G p3 (.lst ((dn.flatMap (kS ss n)).map bZ)) G'/\G' p4=some (.lst ((grown ss cs (x:Int)).map bZ))) (fun _ _ _ h=>?_) ?_ ?_ _ _ _ ⟨[],grown ss cs (x:Int),none,rfl,rfl,rfl,⟨n3.ak,n3.sub.trans n4.sub,n4.sub _ _ n3.at_⟩,n4.at_⟩
  ·obtain⟨_,_,_,_,_,_,_,h⟩:=h;exact h
  ·rintro d ds τ G5 N ⟨dn,rs,x4,e1,e2,rfl,n5,e5⟩ hN;cases rs with
   |nil=>cases e2
   |cons g rs=>
    cases e2;have hg:g∈grown ss cs (x:Int):=by
     rw[←e1];exact Ξ _ Ω
    have hlen:(dn.flatMap (kS ss n)).length+(kS ss n g).length≤1000:=by
     rw[←e1,gp,List.flatMap_cons,ξ,ξ] at hx';lia
    refine⟨⟨p3,_,rfl,n5.at_⟩,p,ss,g,rfl,n5.sub _ _ hp,hs,hl,ho' g hg,by lia,fun q6 G6 n6=>?_⟩;have h6:=n6.sub _ _ n5.at_;refine⟨_,_,h6,n6.at_,cQ (by rw[θ,θ];lia),hN _ _ ⟨dn++[g],rs,_,by rw[ψ];exact e1,rfl,rfl,⟨n5.ak,Sub.wx (n5.sub.trans n6.sub) n5.ak,?_⟩,?_⟩⟩
    ·rw[df,gp,cV];simp
    ·rw[dJ h34];exact n6.sub _ _ e5
  ·rintro τ G5 ⟨dn,rs,x4,e1,e2,rfl,n5,e5⟩;have e0:rs=[]:=by
    cases rs with
    |nil=>rfl
    |cons z zs=>cases e2
   subst e0;rw[cf] at e1;subst e1;exact bI (q' p3 G5 n5)
def dk(n:Nat):List Int:=((aS n).map fun k:Nat=>((k+1:Nat):Int)).filter fun s=>(n:Int)%s==0
def raw(n:Nat):List (List ay):=kS (dk n) 40 []
end My
namespace eK
open PySem PySem.W PyProof.Rows
abbrev SM:=StateT ah Sem
def eS:Bool->δ->Array δ->Nat->Nat->Nat->SM (Option Nat):=sortPriv% PySem.Builtin.gallop
def sJ(left:Bool)(key:δ)(arr:Array δ)(base i:Nat):SM (Option Bool):=do
 let x ←elem' arr (base+i)
 if left then lt' x key else return (←lt' key x).map (!·)
theorem xF(left:Bool)(key:δ)(arr:Array δ)(base n hint:Nat):eS left key arr base n hint=(do
 let mut lastofs:=0
 let mut ofs:=1
 let mut lo:=0
 let mut hi:=0
 let some right ←sJ left key arr base hint|return none
 if right then
  let maxofs:=n-hint
  for _ in [0:n] do
   if ofs≥maxofs then break
   let some more ←sJ left key arr base (hint+ofs)|return none
   if !more then break
   lastofs:=ofs
   ofs:=2*ofs+1
  lo:=hint+lastofs+1
  hi:=hint+min ofs maxofs
 else
  let maxofs:=hint+1
  for _ in [0:n] do
   if ofs≥maxofs then break
   let some found ←sJ left key arr base (hint-ofs)|return none
   if found then break
   lastofs:=ofs
   ofs:=2*ofs+1
  lo:=hint+1-min ofs maxofs
  hi:=hint-lastofs
 for _ in [0:n] do
  if lo≥hi then break
  let m:=lo+(hi-lo) / 2
  let some more ←sJ left key arr base m|return none
  if more then lo:=m+1 else hi:=m
 return some hi):=rfl
def qN(left:Bool)(key:δ)(arr:Array δ)(base n lo hi:Nat):SM (Option Nat):=do
 let mut lo:=lo
 let mut hi:=hi
 for _ in [0:n] do
  if lo≥hi then break
  let m:=lo+(hi-lo) / 2
  let some more ←sJ left key arr base m|return none
  if more then lo:=m+1 else hi:=m
 return some hi
section
variable {prog:aq} {w:aC} {A:aZ} {E:γ->ε->Prop} {κ:bN} {s:ε} {Ok:δ->Prop} {L:δ->δ->Bool} {st:ah}
def gI(prog:aq)(w:aC)(A:aZ)(κ:bN)(s:ε)(Ok:δ->Prop)(L:δ->δ->Bool):Prop:=
 ∀x y,Ok x->Ok y->∀(Q:Bool->ε->Prop) (E:γ->ε->Prop),Q (L x y) s->Ψ (model prog w) A (keyLt' κ x.1 y.1) Q E s
theorem tT(C:gI prog w A κ s Ok L)(hk:kindOf st=κ){x y:δ}(hx:Ok x)(hy:Ok y){Q:Option Bool->ah->ε->Prop}(h:Q (some (L x y)) st s):kasC (model prog w) A E (lt' x y) Q st s:=by
 rw[lt'_eq];refine ν (gb ?_);rw[hk];exact ν (il (wpAny_attempt (C x y hx hy _ _ (υ h))))
theorem cC{arr:Array δ}{i:Nat}{x:δ}(e:arr[i]?=some x){Q:δ->ah->ε->Prop}(h:Q x st s):kasC (model prog w) A E (elem' arr i) Q st s:=by
 rw[elem'_eq,e];exact υ h
theorem dA{α:Type}{m:SM α}{Q Q':α->ah->ε->Prop}(h:kasC (model prog w) A E m Q st s)(hq:∀a st' s',Q a st' s'->Q' a st' s'):kasC (model prog w) A E m Q' st s:=cZ h (fun r s' z=>hq _ _ _ z) fun _ _ e=>e
theorem de{β:Type}{body:Nat->β->SM (ForInStep β)}{Q:β->ah->ε->Prop}(I:Nat->β->ah->Prop)(hz:∀b st,I 0 b st->Q b st s)
  (hs:∀x k b st,I (k+1) b st->kasC (model prog w) A E (body x b) (fun r st' s'=>s'=s/\match r with
   |.done b'=>Q b' st' s
   | .yield b'=>I k b' st') st s) (l:List Nat):∀(b:β) (st:ah),I l.length b st->kasC (model prog w) A E (forIn l b body) Q st s:=by
 induction l with
 |nil=>exact fun b st h=>kasC_nil (hz b st h)
 |cons x l ih=>
  intro b st h;refine kasC_cons (dA (hs x l.length b st h) ?_);rintro r st' s' ⟨e,z⟩;subst e;cases r with
  |done b'=>exact z
  |yield b'=>exact ih b' st' z
def i6(L:δ->δ->Bool)(left:Bool)(key x:δ):Bool:=if left then L x key else !(L key x)
theorem IC(C:gI prog w A κ s Ok L)(hk:kindOf st=κ){left:Bool}{key:δ}{arr:Array δ}{base i:Nat}{x:δ}(e:arr[base+i]?=some x)(hx:Ok x)(hy:Ok key){Q:Option Bool->ah->ε->Prop}(h:Q (some (i6 L left key x)) st s):
  kasC (model prog w) A E (sJ left key arr base i) Q st s:=by
 unfold sJ;refine ν (cC e ?_);unfold i6 at h;cases left with
 |true=>exact tT C hk hx hy h
 |false=>exact ν (tT C hk hy hx (υ h))
structure Mg(B:Nat->Bool)(n k:Nat):Prop where
 le:k≤n
 lo:∀i,i<k->B i=true
 hi:∀i,k≤i->i<n->B i=false
theorem zM(C:gI prog w A κ s Ok L)(hk:kindOf st=κ){left:Bool}{key:δ}{arr:Array δ}{base n hint:Nat}(B:Nat->Bool)(hn:hint<n)(hy:Ok key)
  (bT:∀i,i<n->∃x,arr[base+i]?=some x/\Ok x/\i6 L left key x=B i) (anti:∀i j,i≤j->j<n->B j=true->B i=true)
  {Q:Option Nat->ah->ε->Prop} (q:∀k,Mg B n k->Q (some k) st s):kasC (model prog w) A E (eS left key arr base n hint) Q st s:=by
 have ask:∀{i:Nat} {R:Option Bool->ah->ε->Prop},i<n->R (some (B i)) st s->kasC (model prog w) A E (sJ left key arr base i) R st s:=fun {i R} hi h=>by
  obtain⟨x,e,hx,eb⟩:=bT i hi;refine IC C hk e hx hy ?_;rw[eb];exact h
 have noB:∀i j,i≤j->j<n->B i=false->B j=false:=fun i j h1 h2 h3=>by
  cases h:B j with
  |false=>rfl
  |true=>
   rw[anti i j h1 h2 h] at h3;cases h3
 have fin:∀lo hi,lo≤hi->hi≤n->(∀i,i<lo->B i=true)->(∀i,hi≤i->i<n->B i=false)->kasC (model prog w) A E (qN left key arr base n lo hi) Q st s:=by
  intro lo hi h1 h2 h3 h4;unfold qN;refine ν (ck ?_);refine de (fun k (b:Option (Option Nat)×Nat×Nat) st'=>st'=st/\b.1=none/\b.2.1≤b.2.2/\b.2.2≤n/\b.2.2-b.2.1≤k/\(∀i,i<b.2.1->B i=true)/\(∀i,b.2.2≤i->i<n->B i=false)) ?_ ?_ _ _ _ ⟨rfl,rfl,h1,h2,by rw[bo];show hi-lo≤n-0;omega,h3,h4⟩
  ·rintro⟨r,lo,hi⟩ st' ⟨rfl,rfl,a1,a2,a3,a4,a5⟩;have e:lo=hi:=by
    have a1:lo≤hi:=a1;have a3:hi-lo≤0:=a3;omega
   subst e;exact υ (q lo ⟨a2,a4,a5⟩)
  ·rintro x k ⟨r,lo,hi⟩ st' ⟨rfl,rfl,a1,a2,a3,a4,a5⟩;have a1:lo≤hi:=a1;have a2:hi≤n:=a2;have a3:hi-lo≤k+1:=a3;dsimp only;by_cases hge:lo≥hi
   ·rw[if_pos hge];have e:lo=hi:=by omega
    subst e;exact υ ⟨rfl,υ (q lo ⟨a2,a4,a5⟩)⟩
   ·rw[if_neg hge];have hm:lo+(hi-lo) / 2<hi:=by omega
    refine ν (ask (by omega) ?_);dsimp only;cases hb:B (lo+(hi-lo) / 2) with
    |true=>
     rw[if_pos rfl];refine υ ⟨rfl,rfl,rfl,?_,a2,?_,fun i hi'=>?_,a5⟩
     ·show lo+(hi-lo) / 2+1≤hi;omega
     ·show hi-(lo+(hi-lo) / 2+1)≤k;omega
     ·have hi':i<lo+(hi-lo) / 2+1:=hi';exact anti i _ (by omega) (by omega) hb
    |false=>
     rw[if_neg ai];refine υ ⟨rfl,rfl,rfl,?_,?_,?_,a4,fun i h' hi'=>?_⟩
     ·show lo≤lo+(hi-lo) / 2;omega
     ·show lo+(hi-lo) / 2≤n;omega
     ·show lo+(hi-lo) / 2-lo≤k;omega
     ·exact noB _ i h' hi' hb
 rw[xF];refine ν (ask hn ?_);dsimp only;cases hB:B hint with
 |true=>
  rw[if_pos rfl];refine ν (ck ?_);have out:∀la of,la<of->hint+la<n->B (hint+la)=true->(n-hint≤of∨(hint+of<n/\B (hint+of)=false))->kasC (model prog w) A E (qN left key arr base n (hint+la+1) (hint+min of (n-hint))) Q st s:=by
   intro la of h1 h2 h3 h4;refine fin _ _ (by omega) (by omega) (fun i hi=>anti i _ (by omega) h2 h3) (fun i hi lU=>?_);rcases h4 with h4|⟨h4,h5⟩
   ·omega
   ·exact noB (hint+of) i (by omega) lU h5
  refine de (fun k (b:Option (Option Nat)×Nat×Nat) st'=>st'=st/\b.1=none/\b.2.1<b.2.2/\hint+b.2.1<n/\B (hint+b.2.1)=true/\n+1≤b.2.2+k) ?_ ?_ _ _ _ ⟨rfl,rfl,by decide,hn,(show B (hint+0)=true from hB),by rw[bo];show n+1≤1+(n-0);omega⟩
  ·rintro⟨r,la,of⟩ st' ⟨rfl,rfl,a1,a2,a3,a4⟩;have a4:n+1≤of+0:=a4;exact out la of a1 a2 a3 (.inl (by omega))
  ·rintro x k ⟨r,la,of⟩ st' ⟨rfl,rfl,a1,a2,a3,a4⟩;have a1:la<of:=a1;have a2:hint+la<n:=a2;have a4:n+1≤of+(k+1):=a4;dsimp only;by_cases hge:of≥n-hint
   ·rw[if_pos hge];exact υ ⟨rfl,out la of a1 a2 a3 (.inl hge)⟩
   ·rw[if_neg hge];refine ν (ask (by omega) ?_);dsimp only;cases hb:B (hint+of) with
    |true=>
     rw[if_neg (by decide)];exact υ ⟨rfl,rfl,rfl,by show of<2*of+1;omega,by show hint+of<n;omega,hb,by show n+1≤2*of+1+k;omega⟩
    |false=>
     rw[if_pos (by decide)];exact υ ⟨rfl,out la of a1 a2 a3 (.inr ⟨by omega,hb⟩)⟩
 |false=>
  rw[if_neg ai];refine ν (ck ?_);have out:∀la of,la<of->la≤hint->B (hint-la)=false->(hint+1≤of∨(of≤hint/\B (hint-of)=true))->kasC (model prog w) A E (qN left key arr base n (hint+1-min of (hint+1)) (hint-la)) Q st s:=by
   intro la of h1 h2 h3 h4;refine fin _ _ (by omega) (by omega) (fun i hi=>?_) (fun i hi lU=>noB _ i hi lU h3);rcases h4 with h4|⟨h4,h5⟩
   ·omega
   ·exact anti i (hint-of) (by omega) (by omega) h5
  refine de (fun k (b:Option (Option Nat)×Nat×Nat) st'=>st'=st/\b.1=none/\b.2.1<b.2.2/\b.2.1≤hint/\B (hint-b.2.1)=false/\n+1≤b.2.2+k) ?_ ?_ _ _ _ ⟨rfl,rfl,by decide,aK _,(show B (hint-0)=false from hB),by rw[bo];show n+1≤1+(n-0);omega⟩
  ·rintro⟨r,la,of⟩ st' ⟨rfl,rfl,a1,a2,a3,a4⟩;have a4:n+1≤of+0:=a4;exact out la of a1 a2 a3 (.inl (by omega))
  ·rintro x k ⟨r,la,of⟩ st' ⟨rfl,rfl,a1,a2,a3,a4⟩;have a1:la<of:=a1;have a2:la≤hint:=a2;have a4:n+1≤of+(k+1):=a4;dsimp only;by_cases hge:of≥hint+1
   ·rw[if_pos hge];exact υ ⟨rfl,out la of a1 a2 a3 (.inl hge)⟩
   ·rw[if_neg hge];refine ν (ask (by omega) ?_);dsimp only;cases hb:B (hint-of) with
    |true=>
     rw[if_pos rfl];exact υ ⟨rfl,out la of a1 a2 a3 (.inr ⟨by omega,hb⟩)⟩
    |false=>
     rw[if_neg ai];exact υ ⟨rfl,rfl,rfl,by show of<2*of+1;omega,by show of≤hint;omega,hb,by show n+1≤2*of+1+k;omega⟩
end
end eK
namespace eK
open PySem PySem.W PyProof.Rows
def cH:Nat->SM Unit:=sortPriv% PySem.Builtin.setMinGallop
theorem pT(g:Nat):cH g=modify fun s=>m8 (kindOf s) (arrOf s) (pendingOf s) g (failedOf s):=rfl
def mL:Array δ->Array δ->SM (Array δ):=sortPriv% PySem.Builtin.mergeLo
def eJ(a b out:Array δ)(ia ib:Nat):Array δ:=out++a.extract ia a.size++b.extract ib b.size
def iB(a b out:Array δ)(ia ib:Nat):Array δ:=out++b.extract ib b.size++a.extract ia a.size
theorem vc(a b:Array δ):mL a b=(do
 rule "list.sort.merge-lo"
 let total:=a.size+b.size
 let mut out:Array δ:=#[←elem' b 0]
 let mut ia:=0
 let mut ib:=1
 if ib==b.size then return eJ a b out ia ib
 if ia+1==a.size then return iB a b out ia ib
 let mut minGallop:=gallopOf (←get)
 for _ in [0:total] do
  let mut acount:=0
  let mut bcount:=0
  for _ in [0:total] do
   let some bWins ←lt' (←elem' b ib) (←elem' a ia)|return eJ a b out ia ib
   if bWins then
    out:=out.push (←elem' b ib);ib:=ib+1;bcount:=bcount+1;acount:=0
    if ib==b.size then return eJ a b out ia ib
    if bcount≥minGallop then break
   else
    out:=out.push (←elem' a ia);ia:=ia+1;acount:=acount+1;bcount:=0
    if ia+1==a.size then return iB a b out ia ib
    if acount≥minGallop then break
  rule "list.sort.gallop"
  minGallop:=minGallop+1
  for _ in [0:total] do
   if minGallop > 1 then minGallop:=minGallop-1
   cH minGallop
   let some k ←eS false (←elem' b ib) a ia (a.size-ia) 0|return eJ a b out ia ib
   acount:=k
   if k > 0 then
    out:=out++a.extract ia (ia+k);ia:=ia+k
    if ia+1==a.size then return iB a b out ia ib
    if ia==a.size then return eJ a b out ia ib
   out:=out.push (←elem' b ib);ib:=ib+1
   if ib==b.size then return eJ a b out ia ib
   let some k ←eS true (←elem' a ia) b ib (b.size-ib) 0|return eJ a b out ia ib
   bcount:=k
   if k > 0 then
    out:=out++b.extract ib (ib+k);ib:=ib+k
    if ib==b.size then return eJ a b out ia ib
   out:=out.push (←elem' a ia);ia:=ia+1
   if ia+1==a.size then return iB a b out ia ib
   if acount<7&&bcount<7 then break
  minGallop:=minGallop+1
  cH minGallop
 unsupported "internal:list.sort.merge-bound"):=rfl
section
variable {L:δ->δ->Bool} {al bl:List δ}
abbrev Le(L:δ->δ->Bool)(x y:δ):Prop:=L y x=false
structure fA(L:δ->δ->Bool):Prop where
 gU:∀x y,L x y=true->L y x=false
 dz:∀x y z,Le L x y->Le L y z->Le L x z
structure MI(L:δ->δ->Bool)(al bl out:List δ)(ia ib:Nat):Prop where
 perm:(out++(al.drop ia++bl.drop ib)).Perm (al++bl)
 cE:out.Pairwise (Le L)
 low:∀x∈out,∀y∈al.drop ia++bl.drop ib,Le L x y
theorem zS(xs:List δ)(i k:Nat):xs.drop i=(xs.drop i).take k++xs.drop (i+k):=by
 rw[←mz];exact (cc k (xs.drop i)).symm
theorem MI.qz{out:List δ}{ia ib:Nat}(h:MI L al bl out ia ib)(hs:al.Pairwise (Le L))(k:Nat)(hx:∀x∈(al.drop ia).take k,∀y∈bl.drop ib,Le L x y):MI L al bl (out++(al.drop ia).take k) (ia+k) ib:=by
 have e:=zS al ia k;have hs':(al.drop ia).Pairwise (Le L):=hs.sublist (eG _ _);rw[e,Δ] at hs';refine⟨?_,?_,fun x hx' y hy=>?_⟩
 ·have:=h.perm;rw[e] at this;simpa [ψ] using this
 ·rw[Δ];refine⟨h.cE,hs'.1,fun x hx' y hy=>h.low x hx' y (aA _ (cm hy))⟩
 ·rcases ag.mp hx' with z|z
  ·refine h.low x z y ?_;rw[e];rcases ag.mp hy with z2|z2
   ·exact aA _ (Ξ _ z2)
   ·exact Ξ _ z2
  ·rcases ag.mp hy with z2|z2
   ·exact hs'.2.2 x z y z2
   ·exact hx x z y z2
theorem MI.qy{out:List δ}{ia ib:Nat}(h:MI L al bl out ia ib)(hs:bl.Pairwise (Le L))(k:Nat)(hx:∀x∈(bl.drop ib).take k,∀y∈al.drop ia,Le L x y):MI L al bl (out++(bl.drop ib).take k) ia (ib+k):=by
 have e:=zS bl ib k;have hs':(bl.drop ib).Pairwise (Le L):=hs.sublist (eG _ _);rw[e,Δ] at hs';refine⟨?_,?_,fun x hx' y hy=>?_⟩
 ·refine bP ?_ h.perm;have e2:al.drop ia++bl.drop ib=al.drop ia++((bl.drop ib).take k++bl.drop (ib+k)):=congrArg (al.drop ia++·) e;rw[e2,ψ];refine bU _ ?_;rw[←ψ,←ψ];exact bC _ fS
 ·rw[Δ];refine⟨h.cE,hs'.1,fun x hx' y hy=>h.low x hx' y (Ξ _ (cm hy))⟩
 ·rcases ag.mp hx' with z|z
  ·refine h.low x z y ?_;rw[e];rcases ag.mp hy with z2|z2
   ·exact aA _ z2
   ·exact Ξ _ (Ξ _ z2)
  ·rcases ag.mp hy with z2|z2
   ·exact hx x z y z2
   ·exact hs'.2.2 x z y z2
def Res(L:δ->δ->Bool)(al bl r:List δ):Prop:=r.Perm (al++bl)/\r.Pairwise (Le L)
theorem MI.done{out:List δ}{ia ib:Nat}(h:MI L al bl out ia ib)(ha:al.Pairwise (Le L))(hb:bl.Pairwise (Le L))(he:al.length≤ia∨bl.length≤ib):Res L al bl (out++al.drop ia++bl.drop ib):=by
 refine⟨by have:=h.perm;rwa [←ψ] at this,?_⟩;have h1:(al.drop ia++bl.drop ib).Pairwise (Le L):=by
  rcases he with he|he
  ·rw[dZ he,bF];exact hb.sublist (eG _ _)
  ·rw[dZ he,cf];exact ha.sublist (eG _ _)
 rw[ψ,Δ];exact⟨h.cE,h1,h.low⟩
theorem MI.last{out:List δ}{ia ib:Nat}(O:fA L)(h:MI L al bl out ia ib)(hb:bl.Pairwise (Le L)){z:δ}(he:al.drop ia=[z])(hz:∀y∈bl,L y z=true):Res L al bl (out++bl.drop ib++al.drop ia):=by
 refine⟨bP ?_ h.perm,?_⟩
 ·rw[ψ];exact bU _ fS
 ·rw[ψ,Δ];refine⟨h.cE,?_,fun x hx y hy=>h.low x hx y ?_⟩
  ·rw[he,Δ];refine⟨hb.sublist (eG _ _),bx _ _,fun x hx y hy=>?_⟩;rw[ao.mp hy];exact O.gU _ _ (hz x (cn hx))
  ·rcases ag.mp hy with q|q
   ·exact Ξ _ q
   ·exact aA _ q
end
abbrev GS:=Option (Array δ)×Array δ×Nat×Nat×Nat×Nat×Nat
abbrev MS:=Option (Array δ)×Array δ×Nat×Nat×Nat×Nat
abbrev HS:=Option (Array δ)×Array δ×Nat×Nat×Nat
def lo1(a b:Array δ)(mg:Nat)(t:MS):SM (ForInStep MS):=do
 let x ←elem' b t.2.2.2.1
 let y ←elem' a t.2.2.1
 let r ←lt' x y
 match r with
 |some bWins=>
  if bWins=true then do
   let x ←elem' b t.2.2.2.1
   if (t.2.2.2.1+1==b.size)=true then pure (.done (some (eJ a b (t.2.1.push x) t.2.2.1 (t.2.2.2.1+1)),t.2.1.push x,t.2.2.1,t.2.2.2.1+1,0,t.2.2.2.2.2+1))
   else if t.2.2.2.2.2+1≥mg then pure (.done (none,t.2.1.push x,t.2.2.1,t.2.2.2.1+1,0,t.2.2.2.2.2+1))
   else pure (.yield (none,t.2.1.push x,t.2.2.1,t.2.2.2.1+1,0,t.2.2.2.2.2+1))
  else do
   let y ←elem' a t.2.2.1
   if (t.2.2.1+1+1==a.size)=true then pure (.done (some (iB a b (t.2.1.push y) (t.2.2.1+1) t.2.2.2.1),t.2.1.push y,t.2.2.1+1,t.2.2.2.1,t.2.2.2.2.1+1,0))
   else if t.2.2.2.2.1+1≥mg then pure (.done (none,t.2.1.push y,t.2.2.1+1,t.2.2.2.1,t.2.2.2.2.1+1,0))
   else pure (.yield (none,t.2.1.push y,t.2.2.1+1,t.2.2.2.1,t.2.2.2.2.1+1,0))
 |_=>pure (.done (some (eJ a b t.2.1 t.2.2.1 t.2.2.2.1),t.2.1,t.2.2.1,t.2.2.2.1,t.2.2.2.2.1,t.2.2.2.2.2))
def CG(a b out:Array δ)(ia ib mg ac bc:Nat):SM (ForInStep GS):=do
 let y ←elem' a ia
 if (ia+1+1==a.size)=true then pure (.done (some (iB a b (out.push y) (ia+1) ib),out.push y,ia+1,ib,mg,ac,bc))
 else if (decide (ac<7)&&decide (bc<7))=true then pure (.done (none,out.push y,ia+1,ib,mg,ac,bc))
 else pure (.yield (none,out.push y,ia+1,ib,mg,ac,bc))
def CH(a b out:Array δ)(ia ib mg ac bc0:Nat):SM (ForInStep GS):=do
 let x ←elem' b ib
 if (ib+1==b.size)=true then pure (.done (some (eJ a b (out.push x) ia (ib+1)),out.push x,ia,ib+1,mg,ac,bc0))
 else do
  let y ←elem' a ia
  let r ←eS true y b (ib+1) (b.size-(ib+1)) 0
  match r with
  |some k=>
   if k > 0 then
    if (ib+1+k==b.size)=true then pure (.done (some (eJ a b (out.push x++b.extract (ib+1) (ib+1+k)) ia (ib+1+k)),out.push x++b.extract (ib+1) (ib+1+k),ia,ib+1+k,mg,ac,k))
    else CG a b (out.push x++b.extract (ib+1) (ib+1+k)) ia (ib+1+k) mg ac k
   else CG a b (out.push x) ia (ib+1) mg ac k
  |_=>pure (.done (some (eJ a b (out.push x) ia (ib+1)),out.push x,ia,ib+1,mg,ac,bc0))
def qG(a b:Array δ)(mg:Nat)(t:GS):SM (ForInStep GS):=do
 cH mg
 let x ←elem' b t.2.2.2.1
 let r ←eS false x a t.2.2.1 (a.size-t.2.2.1) 0
 match r with
 |some k=>
  if k > 0 then
   if (t.2.2.1+k+1==a.size)=true then pure (.done (some (iB a b (t.2.1++a.extract t.2.2.1 (t.2.2.1+k)) (t.2.2.1+k) t.2.2.2.1),t.2.1++a.extract t.2.2.1 (t.2.2.1+k),t.2.2.1+k,t.2.2.2.1,mg,k,t.2.2.2.2.2.2))
   else if (t.2.2.1+k==a.size)=true then pure (.done (some (eJ a b (t.2.1++a.extract t.2.2.1 (t.2.2.1+k)) (t.2.2.1+k) t.2.2.2.1),t.2.1++a.extract t.2.2.1 (t.2.2.1+k),t.2.2.1+k,t.2.2.2.1,mg,k,t.2.2.2.2.2.2))
   else CH a b (t.2.1++a.extract t.2.2.1 (t.2.2.1+k)) (t.2.2.1+k) t.2.2.2.1 mg k t.2.2.2.2.2.2
  else CH a b t.2.1 t.2.2.1 t.2.2.2.1 mg k t.2.2.2.2.2.2
 |_=>pure (.done (some (eJ a b t.2.1 t.2.2.1 t.2.2.2.1),t.2.1,t.2.2.1,t.2.2.2.1,mg,t.2.2.2.2.2.1,t.2.2.2.2.2.2))
def CI(a b:Array δ)(u:HS):SM (ForInStep HS):=do
 let t ←forIn [0:a.size+b.size] ((none,u.2.1,u.2.2.1,u.2.2.2.1,0,0):MS) fun _ t=>lo1 a b u.2.2.2.2 t
 match t.1 with
 |some r=>pure (.done (some r,t.2.1,t.2.2.1,t.2.2.2.1,u.2.2.2.2))
 |none=>do
  liftM (rule "list.sort.gallop")
  let v ←forIn [0:a.size+b.size] ((none,t.2.1,t.2.2.1,t.2.2.2.1,u.2.2.2.2+1,t.2.2.2.2.1,t.2.2.2.2.2):GS) fun _ v=>
   if v.2.2.2.2.1 > 1 then qG a b (v.2.2.2.2.1-1) v else qG a b v.2.2.2.2.1 v
  match v.1 with
  |some r=>pure (.done (some r,v.2.1,v.2.2.1,v.2.2.2.1,v.2.2.2.2.1))
  |none=>do
   cH (v.2.2.2.2.1+1)
   pure (.yield (none,v.2.1,v.2.2.1,v.2.2.2.1,v.2.2.2.2.1+1))
theorem au{α β:Type}{m m':SM α}{f f':α->SM β}(h:m=m')(h2:∀a,f a=f' a):m >>= f=m' >>= f':=by
 rw[h,funext h2]
theorem fy{β:Type}{n:Nat}{b:β}{f f':Nat->β->SM (ForInStep β)}(h:∀x t,f x t=f' x t):(forIn [0:n] b f:SM β)=forIn [0:n] b f':=by
 rw[funext fun x=>funext (h x)]
theorem rG(a b:Array δ):mL a b=(do
 liftM (rule "list.sort.merge-lo")
 let x ←elem' b 0
 if (1==b.size)=true then pure (eJ a b #[x] 0 1)
 else if (0+1==a.size)=true then pure (iB a b #[x] 0 1)
 else do
  let g ←get
  let u ←forIn [0:a.size+b.size] ((none,#[x],0,1,gallopOf g):HS) fun _ u=>CI a b u
  match u.1 with
  |some r=>pure r
  | none=>unsupported "internal:list.sort.merge-bound"):=by
 rw[vc]
 refine congrArg (fun z=>(liftM (rule "list.sort.merge-lo"):SM Unit) >>= z) (funext fun _=>?_)
 refine congrArg (fun z=>elem' b 0 >>= z) (funext fun x=>?_)
 dsimp only
 refine congrArg (fun z=>if (1==b.size)=true then _ else z) ?_
 refine congrArg (fun z=>if (0+1==a.size)=true then _ else z) ?_
 refine congrArg (fun z=>(get:SM ah) >>= z) (funext fun g=>?_)
 refine au (fy fun _ u=>?_) (fun u=>by obtain⟨r,u⟩:=u;cases r<;>rfl)
 unfold CI
 refine au (fy fun _ t=>?_) (fun t=>?_)
 ·rfl
 obtain⟨r,t⟩:=t
 cases r with
 |some r=>rfl
 |none=>
  dsimp only
  refine au rfl fun _=>?_
  refine au (fy fun _ v=>?_) (fun v=>?_)
  ·by_cases h:v.2.2.2.2.1 > 1
   ·rw[if_pos h,if_pos h]
    unfold qG
    refine au rfl fun _=>?_
    refine au rfl fun x=>?_
    refine au rfl fun r=>?_
    cases r with
    |none=>rfl
    |some k=>
     dsimp only
     by_cases h1:k > 0
     ·rw[if_pos h1,if_pos h1]
      rfl
     ·rw[if_neg h1,if_neg h1]
      rfl
   ·rw[if_neg h,if_neg h]
    unfold qG
    refine au rfl fun _=>?_
    refine au rfl fun x=>?_
    refine au rfl fun r=>?_
    cases r with
    |none=>rfl
    |some k=>
     dsimp only
     by_cases h1:k > 0
     ·rw[if_pos h1,if_pos h1]
      rfl
     ·rw[if_neg h1,if_neg h1]
      rfl
  ·obtain⟨r,v⟩:=v
   cases r<;>rfl
end eK
namespace eK
open PySem PySem.W PyProof.Rows
section
variable {prog:aq} {w:aC} {A:aZ} {E:γ->ε->Prop} {κ:bN} {s:ε} {Ok:δ->Prop} {L:δ->δ->Bool} {st:ah}
def sl(arr:Array δ)(base n:Nat):List δ:=(arr.toList.drop base).take n
theorem E3{arr:Array δ}{base n:Nat}(h:base+n≤arr.size):(sl arr base n).length=n:=by
 unfold sl;rw[bu,bA,av];lia
theorem E6{arr:Array δ}{base n i:Nat}(hi:i<n):(sl arr base n)[i]?=arr[base+i]?:=by
 unfold sl;rw[dq hi,jt,aE]
theorem fA.uI(O:fA L)(x:δ):L x x=false:=by
 cases h:L x x with
 |false=>rfl
 |true=>
  have:=O.gU x x h;rw[h] at this;cases this
theorem pw_get{xs:List δ}(h:xs.Pairwise (Le L))(O:fA L){i j:Nat}{x y:δ}(hij:i≤j)(hx:xs[i]?=some x)(hy:xs[j]?=some y):Le L x y:=by
 obtain⟨h1,rfl⟩:=bz.mp hx;obtain⟨h2,rfl⟩:=bz.mp hy;rcases Nat.lt_or_eq_of_le hij with q|q
 ·exact jS.mp h i j h1 h2 q
 ·subst q;exact O.uI _
theorem lW(C:gI prog w A κ s Ok L)(O:fA L)(hk:kindOf st=κ){left:Bool}{key:δ}{arr:Array δ}{base n hint:Nat}(hn:hint<n)(hz:base+n≤arr.size)(hy:Ok key)(bT:∀x∈sl arr base n,Ok x)(hs:(sl arr base n).Pairwise (Le L))
  {Q:Option Nat->ah->ε->Prop} (q:∀k,k≤n->(∀z∈(sl arr base n).take k,i6 L left key z=true)->(∀z∈(sl arr base n).drop k,i6 L left key z=false)->Q (some k) st s):kasC (model prog w) A E (eS left key arr base n hint) Q st s:=by
 have hl:=E3 hz;have get:∀i,i<n->∃x,arr[base+i]?=some x/\(sl arr base n)[i]?=some x/\x∈sl arr base n:=fun i hi=>by
  have h1:i<(sl arr base n).length:=by lia
  have h2:(sl arr base n)[i]?=some (sl arr base n)[i]:=aU h1;exact⟨_,by rw[←E6 hi];exact h2,h2,kH h1⟩
 refine zM C hk (fun i=>((sl arr base n)[i]?).any (i6 L left key)) hn hy (fun i hi=>?_) (fun i j hij hj hb=>?_) fun k bd=>?_
 ·obtain⟨x,e1,e2,hm⟩:=get i hi;exact⟨x,e1,bT x hm,by rw[e2];rfl⟩
 ·obtain⟨x,_,e2,hm⟩:=get i (by lia);obtain⟨y,_,e3,hm2⟩:=get j hj;have hb:((sl arr base n)[j]?).any (i6 L left key)=true:=hb;show ((sl arr base n)[i]?).any (i6 L left key)=true;rw[e3] at hb;rw[e2];have hb:i6 L left key y=true:=hb;show i6 L left key x=true;have hxy:=pw_get hs O hij e2 e3;unfold i6 at hb ⊢;cases left with
  |true=>
   have hb:L y key=true:=hb;show L x key=true;cases h:L x key with
   |true=>rfl
   |false=>
    have:=O.dz key x y h hxy;have this:L y key=false:=this;rw[hb] at this;cases this
  |false=>
   have hb:(!(L key y))=true:=hb;show (!(L key x))=true;rw[cv] at hb ⊢;exact O.dz x y key hxy hb
 ·refine q k bd.le (fun z hz'=>?_) fun z hz'=>?_
  ·obtain⟨i,hi,e⟩:=ff hz';rw[bu] at hi;have h1:=bd.lo i (by lia);have h1:((sl arr base n)[i]?).any (i6 L left key)=true:=h1;have e2:(sl arr base n)[i]?=some z:=by
    have:=aU (l:=(sl arr base n).take k) (i:=i) (by rw[bu];lia);rw[e,dq (by lia)] at this;exact this
   rw[e2] at h1;exact h1
  ·obtain⟨i,hi,e⟩:=ff hz';rw[bA] at hi;have h1:=bd.hi (k+i) (by lia) (by lia);have h1:((sl arr base n)[k+i]?).any (i6 L left key)=false:=h1;have e2:(sl arr base n)[k+i]?=some z:=by
    have:=aU (l:=(sl arr base n).drop k) (i:=i) (by rw[bA];lia);rw[e,jt] at this;exact this
   rw[e2] at h1;exact h1
def cM(st st':ah):Prop:=kindOf st'=kindOf st/\arrOf st'=arrOf st/\pendingOf st'=pendingOf st/\failedOf st'=failedOf st
theorem cM.rf:cM st st:=⟨rfl,rfl,rfl,rfl⟩
theorem cM.tr{s1 s2 s3:ah}(h:cM s1 s2)(h':cM s2 s3):cM s1 s3:=⟨h'.1.trans h.1,h'.2.1.trans h.2.1,h'.2.2.1.trans h.2.2.1,h'.2.2.2.trans h.2.2.2⟩
theorem qi{g:Nat}{Q:Unit->ah->ε->Prop}(h:∀st',cM st st'->Q () st' s):kasC (model prog w) A E (cH g) Q st s:=by
 rw[pT];exact eQ (h _ ⟨rfl,rfl,rfl,rfl⟩)
structure MH(prog:aq)(w:aC)(A:aZ)(κ:bN)(s:ε)(Ok:δ->Prop)(L:δ->δ->Bool)(a b:Array δ):Prop where
 C:gI prog w A κ s Ok L
 O:fA L
 oa:∀x∈a.toList,Ok x
 ob:∀x∈b.toList,Ok x
 sa:a.toList.Pairwise (Le L)
 sb:b.toList.Pairwise (Le L)
theorem fN{a:Array δ}{i:Nat}(h:i<a.size):∃x,a[i]?=some x/\a.toList.drop i=x::a.toList.drop (i+1)/\x∈a.toList:=by
 have h':i<a.toList.length:=by rw[av];exact h
 refine⟨a[i],gx h,?_,?_⟩
 ·rw[cB h',nj]
 ·exact nh.mpr (pG h)
theorem iZ(O:fA L){xs ys:List δ}{x:δ}(h:xs.Pairwise (Le L))(e:xs=x::ys):∀z∈xs,Le L x z:=by
 subst e;intro z hz;rcases bf.mp hz with rfl|hz
 ·exact O.uI _
 ·exact (cg.mp h).1 z hz
theorem take_one{xs ys:List δ}{x:δ}(e:xs=x::ys):xs.take 1=[x]:=by
 subst e;rfl
theorem ko(a:Array δ)(i j:Nat):(a.extract i j).toList=(a.toList.drop i).take (j-i):=by
 rw[Array.toList_extract,List.extract_eq_drop_take]
theorem ph(a:Array δ)(i:Nat):(a.extract i a.size).toList=a.toList.drop i:=by
 rw[ko,dY];rw[bA,av];exact ω _
theorem x8(a b out:Array δ)(ia ib:Nat):(eJ a b out ia ib).toList=out.toList++a.toList.drop ia++b.toList.drop ib:=by
 unfold eJ;rw[bS,bS,ph,ph]
theorem xo(a b out:Array δ)(ia ib:Nat):(iB a b out ia ib).toList=out.toList++b.toList.drop ib++a.toList.drop ia:=by
 unfold iB;rw[bS,bS,ph,ph]
end
end eK
namespace eK
open PySem PySem.W PyProof.Rows
section
variable {prog:aq} {w:aC} {A:aZ} {E:γ->ε->Prop} {κ:bN} {s:ε} {Ok:δ->Prop} {L:δ->δ->Bool} {st:ah} {a b:Array δ}
def rem(a b:Array δ)(ia ib:Nat):Nat:=(a.size-ia)+(b.size-ib)
def kZ(L:δ->δ->Bool)(a b out:Array δ)(ia ib:Nat):Prop:=ia+1<a.size/\ib<b.size/\MI L a.toList b.toList out.toList ia ib
def PR(L:δ->δ->Bool)(a b:Array δ)(R0:Nat)(r:Option (Array δ))(out:Array δ)(ia ib:Nat):Prop:=match r with
 |some res=>Res L a.toList b.toList res.toList
 |none=>kZ L a b out ia ib/\rem a b ia ib<R0
def jP(L:δ->δ->Bool)(a b:Array δ):Prop:=∀z,a[a.size-1]?=some z->∀y∈b.toList,L y z=true
theorem kn(H:MH prog w A κ s Ok L a b){out:Array δ}{ia ib:Nat}(h:MI L a.toList b.toList out.toList ia ib)(he:a.size≤ia∨b.size≤ib):Res L a.toList b.toList (eJ a b out ia ib).toList:=by
 rw[x8];exact h.done H.sa H.sb (by rw[av,av];exact he)
theorem mT(H:MH prog w A κ s Ok L a b)(hL:jP L a b){out:Array δ}{ia ib:Nat}(h:MI L a.toList b.toList out.toList ia ib)(he:ia+1=a.size):Res L a.toList b.toList (iB a b out ia ib).toList:=by
 rw[xo];obtain⟨x,e1,e2,_⟩:=fN (a:=a) (i:=ia) (by lia);have e3:a.toList.drop (ia+1)=[]:=dZ (by rw[av];lia);rw[e3] at e2;exact h.last H.O H.sb e2 (hL x (by rw[show a.size-1=ia by lia];exact e1))
theorem kP(out:Array δ)(x:δ):(out.push x).toList=out.toList++[x]:=pF
theorem zi(H:MH prog w A κ s Ok L a b){out:Array δ}{ia ib:Nat}{y:δ}(h:MI L a.toList b.toList out.toList ia ib)(e:a.toList.drop ia=y::a.toList.drop (ia+1))(hx:∀z∈b.toList.drop ib,Le L y z):MI L a.toList b.toList (out.push y).toList (ia+1) ib:=by
 have:=h.qz H.sa 1 (by rw[take_one e];intro x hx';rw[ao.mp hx'];exact hx);rw[take_one e] at this;rw[kP];exact this
theorem uk(H:MH prog w A κ s Ok L a b){out:Array δ}{ia ib:Nat}{x:δ}(h:MI L a.toList b.toList out.toList ia ib)(e:b.toList.drop ib=x::b.toList.drop (ib+1))(hx:∀z∈a.toList.drop ia,Le L x z):MI L a.toList b.toList (out.push x).toList ia (ib+1):=by
 have:=h.qy H.sb 1 (by rw[take_one e];intro z hz;rw[ao.mp hz];exact hx);rw[take_one e] at this;rw[kP];exact this
theorem i0{xs:List δ}(h:xs.Pairwise (Le L))(i:Nat):(xs.drop i).Pairwise (Le L):=h.sublist (eG _ _)
def Md(L:δ->δ->Bool)(a b:Array δ)(R0:Nat)(r:ForInStep MS):Prop:=match r with
 |.done v=>PR L a b R0 v.1 v.2.1 v.2.2.1 v.2.2.2.1
 |.yield v=>v.1=none/\PR L a b R0 none v.2.1 v.2.2.1 v.2.2.2.1
theorem GN(H:MH prog w A κ s Ok L a b)(hL:jP L a b)(hk:kindOf st=κ){mg ac bc ia ib:Nat}{out:Array δ}(h:kZ L a b out ia ib):
  kasC (model prog w) A E (lo1 a b mg (none,out,ia,ib,ac,bc)) (fun r st' s'=>s'=s/\st'=st/\Md L a b (rem a b ia ib) r) st s:=by
 obtain⟨h1,h2,h3⟩:=h;obtain⟨x,ex,dx,mx⟩:=fN h2;obtain⟨y,ey,dy,my⟩:=fN (a:=a) (i:=ia) (by lia);unfold lo1;dsimp only;refine ν (cC ex (ν (cC ey (ν (tT H.C hk (H.ob x mx) (H.oa y my) ?_)))));dsimp only;cases hl:L x y with
 |true=>
  rw[if_pos rfl];have h4:MI L a.toList b.toList (out.push x).toList ia (ib+1):=uk H h3 dx fun z hz=>H.O.dz x y z (H.O.gU _ _ hl) (iZ H.O (i0 H.sa ia) dy z hz);refine ν (cC ex ?_);by_cases e:(ib+1==b.size)=true
  ·rw[if_pos e];rw[beq_iff_eq] at e;exact υ ⟨rfl,rfl,kn H h4 (.inr (by lia))⟩
  ·rw[if_neg e];have e':ib+1≠b.size:=fun z=>e (by rw[z,beq_self_eq_true]);have pr:PR L a b (rem a b ia ib) none (out.push x) ia (ib+1):=⟨⟨h1,by lia,h4⟩,by unfold rem;lia⟩;by_cases g:bc+1≥mg
   ·rw[if_pos g];exact υ ⟨rfl,rfl,pr⟩
   ·rw[if_neg g];exact υ ⟨rfl,rfl,rfl,pr⟩
 |false=>
  rw[if_neg ai];have h4:MI L a.toList b.toList (out.push y).toList (ia+1) ib:=zi H h3 dy fun z hz=>H.O.dz y x z hl (iZ H.O (i0 H.sb ib) dx z hz);refine ν (cC ey ?_);by_cases e:(ia+1+1==a.size)=true
  ·rw[if_pos e];rw[beq_iff_eq] at e;exact υ ⟨rfl,rfl,mT H hL h4 e⟩
  ·rw[if_neg e];have e':ia+1+1≠a.size:=fun z=>e (by rw[z,beq_self_eq_true]);have pr:PR L a b (rem a b ia ib) none (out.push y) (ia+1) ib:=⟨⟨by lia,h2,h4⟩,by unfold rem;lia⟩;by_cases g:ac+1≥mg
   ·rw[if_pos g];exact υ ⟨rfl,rfl,pr⟩
   ·rw[if_neg g];exact υ ⟨rfl,rfl,rfl,pr⟩
def kx(L:δ->δ->Bool)(a b:Array δ)(R0:Nat)(r:ForInStep GS):Prop:=match r with
 |.done v=>PR L a b R0 v.1 v.2.1 v.2.2.1 v.2.2.2.1
 |.yield v=>v.1=none/\PR L a b R0 none v.2.1 v.2.2.1 v.2.2.2.1
theorem zC(H:MH prog w A κ s Ok L a b)(hL:jP L a b){R0 mg ac bc ia ib:Nat}{out:Array δ}{y:δ}(h:kZ L a b out ia ib)(hr:rem a b ia ib≤R0)(ey:a[ia]?=some y)(hy:∀z∈b.toList.drop ib,Le L y z):
  kasC (model prog w) A E (CG a b out ia ib mg ac bc) (fun r st' s'=>s'=s/\st'=st/\kx L a b R0 r) st s:=by
 obtain⟨h1,h2,h3⟩:=h;obtain⟨y',ey',dy,my⟩:=fN (a:=a) (i:=ia) (by lia);rw[ey] at ey';cases ey';have h4:=zi H h3 dy hy;unfold rem at hr;unfold CG;refine ν (cC ey ?_);by_cases e:(ia+1+1==a.size)=true
 ·rw[if_pos e];rw[beq_iff_eq] at e;exact υ ⟨rfl,rfl,mT H hL h4 e⟩
 ·rw[if_neg e];have e':ia+1+1≠a.size:=fun z=>e (by rw[z,beq_self_eq_true]);have pr:PR L a b R0 none (out.push y) (ia+1) ib:=⟨⟨by lia,h2,h4⟩,by unfold rem;lia⟩;by_cases g:(decide (ac<7)&&decide (bc<7))=true
  ·rw[if_pos g];exact υ ⟨rfl,rfl,pr⟩
  ·rw[if_neg g];exact υ ⟨rfl,rfl,rfl,pr⟩
theorem lK(arr:Array δ)(i:Nat):sl arr i (arr.size-i)=arr.toList.drop i:=by
 unfold sl;rw[dY];rw[bA,av];exact ω _
theorem wt(out arr:Array δ)(i k:Nat):(out++arr.extract i (i+k)).toList=out.toList++(arr.toList.drop i).take k:=by
 rw[bS,ko,show i+k-i=k by lia]
theorem zD(H:MH prog w A κ s Ok L a b)(hL:jP L a b)(hk:kindOf st=κ){R0 mg ac bc ia ib:Nat}{out:Array δ}{x:δ}(h:kZ L a b out ia ib)(hr:rem a b ia ib≤R0)(ex:b[ib]?=some x)(hx:∀z∈a.toList.drop ia,Le L x z):
  kasC (model prog w) A E (CH a b out ia ib mg ac bc) (fun r st' s'=>s'=s/\st'=st/\kx L a b R0 r) st s:=by
 obtain⟨h1,h2,h3⟩:=h;obtain⟨x',ex',dx,mx⟩:=fN h2;rw[ex] at ex';cases ex';obtain⟨y,ey,dy,my⟩:=fN (a:=a) (i:=ia) (by lia);have h4:=uk H h3 dx hx;unfold rem at hr;unfold CH;refine ν (cC ex ?_);by_cases e:(ib+1==b.size)=true
 ·rw[if_pos e];rw[beq_iff_eq] at e;exact υ ⟨rfl,rfl,kn H h4 (.inr (by lia))⟩
 rw[if_neg e];have e':ib+1≠b.size:=fun z=>e (by rw[z,beq_self_eq_true]);refine ν (cC ey (ν (lW H.C H.O hk (by lia) (by lia) (H.oa y my) (fun z hz=>?_) ?_ fun k hkn k1 k2=>?_)))
 ·rw[lK] at hz;exact H.ob z (cn hz)
 ·rw[lK];exact i0 H.sb _
 rw[lK] at k1 k2;rw[mz] at k2;dsimp only;by_cases hk0:k > 0
 ·rw[if_pos hk0];have h5:MI L a.toList b.toList (out.push x++b.extract (ib+1) (ib+1+k)).toList ia (ib+1+k):=by
   rw[wt];exact h4.qy H.sb k fun z hz y' hy'=>H.O.dz z y y' (H.O.gU _ _ (k1 z hz)) (iZ H.O (i0 H.sa ia) dy y' hy')
  by_cases e2:(ib+1+k==b.size)=true
  ·rw[if_pos e2];rw[beq_iff_eq] at e2;exact υ ⟨rfl,rfl,kn H h5 (.inr (by lia))⟩
  ·rw[if_neg e2];have e2':ib+1+k≠b.size:=fun z=>e2 (by rw[z,beq_self_eq_true]);exact zC H hL ⟨h1,by lia,h5⟩ (by unfold rem;lia) ey fun z hz=>k2 z hz
 ·rw[if_neg hk0];have k0:k=0:=by lia
  subst k0;exact zC H hL ⟨h1,by lia,h4⟩ (by unfold rem;lia) ey fun z hz=>k2 z hz
theorem GL(H:MH prog w A κ s Ok L a b)(hL:jP L a b)(hk:kindOf st=κ){mg m0 ac bc ia ib:Nat}{out:Array δ}(h:kZ L a b out ia ib):
  kasC (model prog w) A E (qG a b mg (none,out,ia,ib,m0,ac,bc)) (fun r st' s'=>s'=s/\cM st st'/\kx L a b (rem a b ia ib) r) st s:=by
 obtain⟨h1,h2,h3⟩:=h;obtain⟨x,ex,dx,mx⟩:=fN h2;unfold qG;dsimp only;refine ν (qi fun st' sm=>?_);have hk':kindOf st'=κ:=sm.1.trans hk;have back:∀{m:SM (ForInStep GS)},kasC (model prog w) A E m (fun r st'' s'=>s'=s/\st''=st'/\kx L a b (rem a b ia ib) r) st' s->kasC (model prog w) A E m (fun r st'' s'=>s'=s/\cM st st''/\kx L a b (rem a b ia ib) r) st' s:=fun hm=>dA hm fun r st'' s' ⟨z1,z2,z3⟩=>⟨z1,by rw[z2];exact sm,z3⟩;refine ν (cC ex (ν (lW H.C H.O hk' (by lia) (by lia) (H.ob x mx) (fun z hz=>?_) ?_ fun k hkn k1 k2=>?_)))
 ·rw[lK] at hz;exact H.oa z (cn hz)
 ·rw[lK];exact i0 H.sa _
 rw[lK] at k1 k2;rw[mz] at k2;have k1':∀z∈(a.toList.drop ia).take k,L x z=false:=fun z hz=>by
  have:(!(L x z))=true:=k1 z hz;rwa [cv] at this
 have k2':∀z∈a.toList.drop (ia+k),Le L x z:=fun z hz=>by
  have:(!(L x z))=false:=k2 z hz;rw[jw] at this;exact H.O.gU _ _ this
 dsimp only;by_cases hk0:k > 0
 ·rw[if_pos hk0];have h5:MI L a.toList b.toList (out++a.extract ia (ia+k)).toList (ia+k) ib:=by
   rw[wt];exact h3.qz H.sa k fun z hz y' hy'=>H.O.dz z x y' (k1' z hz) (iZ H.O (i0 H.sb ib) dx y' hy')
  by_cases e:(ia+k+1==a.size)=true
  ·rw[if_pos e];rw[beq_iff_eq] at e;exact υ ⟨rfl,sm,mT H hL h5 e⟩
  rw[if_neg e];have e':ia+k+1≠a.size:=fun z=>e (by rw[z,beq_self_eq_true]);by_cases e2:(ia+k==a.size)=true
  ·rw[if_pos e2];rw[beq_iff_eq] at e2;exact υ ⟨rfl,sm,kn H h5 (.inl (by lia))⟩
  rw[if_neg e2];have e2':ia+k≠a.size:=fun z=>e2 (by rw[z,beq_self_eq_true]);exact back (zD H hL hk' ⟨by lia,h2,h5⟩ (by unfold rem;lia) ex k2')
 ·rw[if_neg hk0];have k0:k=0:=by lia
  subst k0;exact back (zD H hL hk' ⟨h1,h2,h3⟩ (ω _) ex k2')
def Mf(L:δ->δ->Bool)(a b:Array δ)(R0:Nat)(r:ForInStep HS):Prop:=match r with
 |.done v=>∃res,v.1=some res/\Res L a.toList b.toList res.toList
 |.yield v=>v.1=none/\kZ L a b v.2.1 v.2.2.1 v.2.2.2.1/\rem a b v.2.2.1 v.2.2.2.1<R0
theorem GP(H:MH prog w A κ s Ok L a b)(hL:jP L a b)(hk:kindOf st=κ){mg ia ib:Nat}{out:Array δ}(h:kZ L a b out ia ib):
  kasC (model prog w) A E (CI a b (none,out,ia,ib,mg)) (fun r st' s'=>s'=s/\cM st st'/\Mf L a b (rem a b ia ib) r) st s:=by
 unfold CI;dsimp only;have hr0:rem a b ia ib≤a.size+b.size:=by unfold rem;lia
 refine ν (ck ?_);refine de (fun k (t:MS) st'=>st'=st/\t.1=none/\kZ L a b t.2.1 t.2.2.1 t.2.2.2.1/\rem a b t.2.2.1 t.2.2.2.1≤k/\rem a b t.2.2.1 t.2.2.2.1≤rem a b ia ib) ?_ ?_ _ _ _ ⟨rfl,rfl,h,by rw[bo];exact hr0,ω _⟩
 ·rintro⟨r,out,ia,ib,ac,bc⟩ st' ⟨rfl,rfl,h',hr,_⟩;obtain⟨h1,h2,_⟩:=h';have h1:ia+1<a.size:=h1;have hr:rem a b ia ib≤0:=hr;unfold rem at hr;lia
 rintro x k ⟨r,o1,i1,j1,ac,bc⟩ st' ⟨rfl,rfl,h',hr,hr2⟩;have hr:rem a b i1 j1≤k+1:=hr;have hr2:rem a b i1 j1≤rem a b ia ib:=hr2;refine dA (GN H hL hk h') ?_;rintro r st'' s'' ⟨rfl,rfl,hp⟩;refine⟨rfl,?_⟩;cases r with
 |yield v=>
  obtain⟨v1,v2⟩:=hp;have v2:kZ L a b v.2.1 v.2.2.1 v.2.2.2.1/\rem a b v.2.2.1 v.2.2.2.1<rem a b i1 j1:=v2;exact⟨rfl,v1,v2.1,by lia,by lia⟩
 |done v=>
  obtain⟨r,o2,i2,j2,ac2,bc2⟩:=v;have hp:PR L a b (rem a b i1 j1) r o2 i2 j2:=hp;cases r with
  |some res=>exact υ ⟨rfl,cM.rf,res,rfl,hp⟩
  |none=>
   have hp:kZ L a b o2 i2 j2/\rem a b i2 j2<rem a b i1 j1:=hp;dsimp only;refine ν (il (iH ?_));refine ν (ck ?_);have hr3:rem a b i2 j2≤a.size+b.size:=by lia
   refine de (fun k (t:GS) st3=>cM st'' st3/\t.1=none/\kZ L a b t.2.1 t.2.2.1 t.2.2.2.1/\rem a b t.2.2.1 t.2.2.2.1≤k/\rem a b t.2.2.1 t.2.2.2.1≤rem a b i2 j2) ?_ ?_ _ _ _ ⟨cM.rf,rfl,hp.1,by rw[bo];exact hr3,ω _⟩
   ·rintro⟨r,out,i3,j3,m3,ac,bc⟩ st3 ⟨_,rfl,h',hr,_⟩;obtain⟨h1,h2,_⟩:=h';have h1:i3+1<a.size:=h1;have hr:rem a b i3 j3≤0:=hr;unfold rem at hr;lia
   rintro x k ⟨r,o3,i3,j3,m3,ac3,bc3⟩ st3 ⟨sm3,rfl,h',hr,hr2'⟩;have hr:rem a b i3 j3≤k+1:=hr;have hr2':rem a b i3 j3≤rem a b i2 j2:=hr2';have hk3:kindOf st3=κ:=sm3.1.trans hk;have go:∀m,kasC (model prog w) A E (qG a b m (none,o3,i3,j3,m3,ac3,bc3)) (fun r st' s'=>s'=s''/\cM st3 st'/\kx L a b (rem a b i3 j3) r) st3 s'':=fun m=>GL H hL hk3 h';have both:kasC (model prog w) A E (if m3 > 1 then qG a b (m3-1) (none,o3,i3,j3,m3,ac3,bc3) else qG a b m3 (none,o3,i3,j3,m3,ac3,bc3)) (fun r st' s'=>s'=s''/\cM st3 st'/\kx L a b (rem a b i3 j3) r) st3 s'':=by
    by_cases g:m3 > 1
    ·rw[if_pos g];exact go _
    ·rw[if_neg g];exact go _
   refine dA both ?_;rintro r st4 s4 ⟨rfl,sm4,hp4⟩;refine⟨rfl,?_⟩;cases r with
   |yield v=>
    obtain⟨v1,v2⟩:=hp4;have v2:kZ L a b v.2.1 v.2.2.1 v.2.2.2.1/\rem a b v.2.2.1 v.2.2.2.1<rem a b i3 j3:=v2;exact⟨sm3.tr sm4,v1,v2.1,by lia,by lia⟩
   |done v=>
    obtain⟨r,o5,i5,j5,m5,ac5,bc5⟩:=v;have hp4:PR L a b (rem a b i3 j3) r o5 i5 j5:=hp4;cases r with
    |some res=>exact υ ⟨rfl,sm3.tr sm4,res,rfl,hp4⟩
    |none=>
     have hp4:kZ L a b o5 i5 j5/\rem a b i5 j5<rem a b i3 j3:=hp4;exact ν (qi fun st5 sm5=>υ ⟨rfl,(sm3.tr sm4).tr sm5,rfl,hp4.1,by show rem a b i5 j5<rem a b ia ib;lia⟩)
theorem xf(H:MH prog w A κ s Ok L a b)(hL:jP L a b)(hk:kindOf st=κ)(ha:0<a.size){x y:δ}(ex:b[0]?=some x)(ey:a[0]?=some y)(hxy:L x y=true){Q:Array δ->ah->ε->Prop}
  (q:∀res st',cM st st'->Res L a.toList b.toList res.toList->Q res st' s):kasC (model prog w) A E (mL a b) Q st s:=by
 have hb:0<b.size:=(Array.getElem?_eq_some_iff.mp ex).1;obtain⟨x',ex',dx,mx⟩:=fN hb;rw[ex] at ex';cases ex';obtain⟨y',ey',dy,my⟩:=fN ha;rw[ey] at ey';cases ey';have h0:MI L a.toList b.toList (#[]:Array δ).toList 0 0:=⟨by simp,fG,nofun⟩;have h1:MI L a.toList b.toList (#[x]:Array δ).toList 0 1:=by
  have:=uk H h0 dx fun z hz=>H.O.dz x y z (H.O.gU _ _ hxy) (iZ H.O (i0 H.sa 0) dy z hz);exact this
 rw[rG];refine ν (il (iH ?_));refine ν (cC ex ?_);by_cases e:(1==b.size)=true
 ·rw[if_pos e];rw[beq_iff_eq] at e;exact υ (q _ _ cM.rf (kn H h1 (.inr (by lia))))
 rw[if_neg e];have e':1≠b.size:=fun z=>e (by rw[←z];rfl);by_cases e2:(0+1==a.size)=true
 ·rw[if_pos e2];rw[beq_iff_eq] at e2;exact υ (q _ _ cM.rf (mT H hL h1 e2))
 rw[if_neg e2];have e2':0+1≠a.size:=fun z=>e2 (by rw[z,beq_self_eq_true]);refine ν (gb ?_);refine ν (ck ?_);refine de (fun k (t:HS) st'=>cM st st'/\t.1=none/\kZ L a b t.2.1 t.2.2.1 t.2.2.2.1/\rem a b t.2.2.1 t.2.2.2.1≤k) ?_ ?_ _ _ _ ⟨cM.rf,rfl,⟨by show 0+1<a.size;lia,by show 1<b.size;lia,h1⟩,by rw[bo];show rem a b 0 1≤a.size+b.size-0;unfold rem;lia⟩
 ·rintro⟨r,out,ia,ib,m⟩ st' ⟨_,rfl,h',hr⟩;obtain⟨h1,h2,_⟩:=h';have h1:ia+1<a.size:=h1;have hr:rem a b ia ib≤0:=hr;unfold rem at hr;lia
 ·rintro z k ⟨r,out,ia,ib,m⟩ st' ⟨sm,rfl,h',hr⟩;have hr:rem a b ia ib≤k+1:=hr;refine dA (GP H hL (sm.1.trans hk) h') ?_;rintro r st'' s'' ⟨rfl,sm2,hp⟩;refine⟨rfl,?_⟩;cases r with
  |yield v=>
   obtain⟨v1,v2,v3⟩:=hp;exact⟨sm.tr sm2,v1,v2,by lia⟩
  |done v=>
   obtain⟨r,v⟩:=v;obtain⟨res,e,hres⟩:=hp;have e:r=some res:=e;subst e;exact υ (q res st'' (sm.tr sm2) hres)
end
end eK
namespace eK
open PySem PySem.W PyProof.Rows
def mM:Array δ->Array δ->SM (Array δ):=sortPriv% PySem.Builtin.mergeHi
def eH(a b out:Array δ)(na nb:Nat):Array δ:=a.extract 0 na++b.extract 0 nb++out.reverse
def gD(a b out:Array δ)(na nb:Nat):Array δ:=b.extract 0 nb++a.extract 0 na++out.reverse
theorem vd(a b:Array δ):mM a b=(do
 rule "list.sort.merge-hi"
 let total:=a.size+b.size
 let mut na:=a.size-1
 let mut nb:=b.size
 let mut out:Array δ:=#[←elem' a na]
 if na==0 then return eH a b out na nb
 if nb==1 then return gD a b out na nb
 let mut minGallop:=gallopOf (←get)
 for _ in [0:total] do
  let mut acount:=0
  let mut bcount:=0
  for _ in [0:total] do
   let some aWins ←lt' (←elem' b (nb-1)) (←elem' a (na-1))|return eH a b out na nb
   if aWins then
    na:=na-1;out:=out.push (←elem' a na);acount:=acount+1;bcount:=0
    if na==0 then return eH a b out na nb
    if acount≥minGallop then break
   else
    nb:=nb-1;out:=out.push (←elem' b nb);bcount:=bcount+1;acount:=0
    if nb==1 then return gD a b out na nb
    if bcount≥minGallop then break
  rule "list.sort.gallop"
  minGallop:=minGallop+1
  for _ in [0:total] do
   if minGallop > 1 then minGallop:=minGallop-1
   cH minGallop
   let some at_ ←eS false (←elem' b (nb-1)) a 0 na (na-1)|return eH a b out na nb
   let k:=na-at_
   acount:=k
   if k > 0 then
    out:=out++(a.extract at_ na).reverse;na:=at_
    if na==0 then return eH a b out na nb
   nb:=nb-1;out:=out.push (←elem' b nb)
   if nb==1 then return gD a b out na nb
   let some at_ ←eS true (←elem' a (na-1)) b 0 nb (nb-1)|return eH a b out na nb
   let k:=nb-at_
   bcount:=k
   if k > 0 then
    out:=out++(b.extract at_ nb).reverse;nb:=at_
    if nb==1 then return gD a b out na nb
    if nb==0 then return eH a b out na nb
   na:=na-1;out:=out.push (←elem' a na)
   if na==0 then return eH a b out na nb
   if acount<7&&bcount<7 then break
  minGallop:=minGallop+1
  cH minGallop
 unsupported "internal:list.sort.merge-bound"):=rfl
abbrev GT:=Option (Array δ)×Nat×Nat×Array δ×Nat×Nat×Nat
abbrev MT:=Option (Array δ)×Nat×Nat×Array δ×Nat×Nat
abbrev HT:=Option (Array δ)×Nat×Nat×Array δ×Nat
def HA(a b:Array δ)(mg:Nat)(t:MT):SM (ForInStep MT):=do
 let x ←elem' b (t.2.2.1-1)
 let y ←elem' a (t.2.1-1)
 let r ←lt' x y
 match r with
 |some aWins=>
  if aWins=true then do
   let y ←elem' a (t.2.1-1)
   if (t.2.1-1==0)=true then pure (.done (some (eH a b (t.2.2.2.1.push y) (t.2.1-1) t.2.2.1),t.2.1-1,t.2.2.1,t.2.2.2.1.push y,t.2.2.2.2.1+1,0))
   else if t.2.2.2.2.1+1≥mg then pure (.done (none,t.2.1-1,t.2.2.1,t.2.2.2.1.push y,t.2.2.2.2.1+1,0))
   else pure (.yield (none,t.2.1-1,t.2.2.1,t.2.2.2.1.push y,t.2.2.2.2.1+1,0))
  else do
   let x ←elem' b (t.2.2.1-1)
   if (t.2.2.1-1==1)=true then pure (.done (some (gD a b (t.2.2.2.1.push x) t.2.1 (t.2.2.1-1)),t.2.1,t.2.2.1-1,t.2.2.2.1.push x,0,t.2.2.2.2.2+1))
   else if t.2.2.2.2.2+1≥mg then pure (.done (none,t.2.1,t.2.2.1-1,t.2.2.2.1.push x,0,t.2.2.2.2.2+1))
   else pure (.yield (none,t.2.1,t.2.2.1-1,t.2.2.2.1.push x,0,t.2.2.2.2.2+1))
 |_=>pure (.done (some (eH a b t.2.2.2.1 t.2.1 t.2.2.1),t.2.1,t.2.2.1,t.2.2.2.1,t.2.2.2.2.1,t.2.2.2.2.2))
def CP(a b out:Array δ)(na nb mg ac bc:Nat):SM (ForInStep GT):=do
 let y ←elem' a (na-1)
 if (na-1==0)=true then pure (.done (some (eH a b (out.push y) (na-1) nb),na-1,nb,out.push y,mg,ac,bc))
 else if (decide (ac<7)&&decide (bc<7))=true then pure (.done (none,na-1,nb,out.push y,mg,ac,bc))
 else pure (.yield (none,na-1,nb,out.push y,mg,ac,bc))
def CQ(a b out:Array δ)(na nb mg ac bc0:Nat):SM (ForInStep GT):=do
 let x ←elem' b (nb-1)
 if (nb-1==1)=true then pure (.done (some (gD a b (out.push x) na (nb-1)),na,nb-1,out.push x,mg,ac,bc0))
 else do
  let y ←elem' a (na-1)
  let r ←eS true y b 0 (nb-1) (nb-1-1)
  match r with
  |some at_=>
   if nb-1-at_ > 0 then
    if (at_==1)=true then pure (.done (some (gD a b (out.push x++(b.extract at_ (nb-1)).reverse) na at_),na,at_,out.push x++(b.extract at_ (nb-1)).reverse,mg,ac,nb-1-at_))
    else if (at_==0)=true then pure (.done (some (eH a b (out.push x++(b.extract at_ (nb-1)).reverse) na at_),na,at_,out.push x++(b.extract at_ (nb-1)).reverse,mg,ac,nb-1-at_))
    else CP a b (out.push x++(b.extract at_ (nb-1)).reverse) na at_ mg ac (nb-1-at_)
   else CP a b (out.push x) na (nb-1) mg ac (nb-1-at_)
  |_=>pure (.done (some (eH a b (out.push x) na (nb-1)),na,nb-1,out.push x,mg,ac,bc0))
def lU(a b:Array δ)(mg:Nat)(t:GT):SM (ForInStep GT):=do
 cH mg
 let x ←elem' b (t.2.2.1-1)
 let r ←eS false x a 0 t.2.1 (t.2.1-1)
 match r with
 |some at_=>
  if t.2.1-at_ > 0 then
   if (at_==0)=true then pure (.done (some (eH a b (t.2.2.2.1++(a.extract at_ t.2.1).reverse) at_ t.2.2.1),at_,t.2.2.1,t.2.2.2.1++(a.extract at_ t.2.1).reverse,mg,t.2.1-at_,t.2.2.2.2.2.2))
   else CQ a b (t.2.2.2.1++(a.extract at_ t.2.1).reverse) at_ t.2.2.1 mg (t.2.1-at_) t.2.2.2.2.2.2
  else CQ a b t.2.2.2.1 t.2.1 t.2.2.1 mg (t.2.1-at_) t.2.2.2.2.2.2
 |_=>pure (.done (some (eH a b t.2.2.2.1 t.2.1 t.2.2.1),t.2.1,t.2.2.1,t.2.2.2.1,mg,t.2.2.2.2.2.1,t.2.2.2.2.2.2))
def CS(a b:Array δ)(u:HT):SM (ForInStep HT):=do
 let t ←forIn [0:a.size+b.size] ((none,u.2.1,u.2.2.1,u.2.2.2.1,0,0):MT) fun _ t=>HA a b u.2.2.2.2 t
 match t.1 with
 |some r=>pure (.done (some r,t.2.1,t.2.2.1,t.2.2.2.1,u.2.2.2.2))
 |none=>do
  liftM (rule "list.sort.gallop")
  let v ←forIn [0:a.size+b.size] ((none,t.2.1,t.2.2.1,t.2.2.2.1,u.2.2.2.2+1,t.2.2.2.2.1,t.2.2.2.2.2):GT) fun _ v=>
   if v.2.2.2.2.1 > 1 then lU a b (v.2.2.2.2.1-1) v else lU a b v.2.2.2.2.1 v
  match v.1 with
  |some r=>pure (.done (some r,v.2.1,v.2.2.1,v.2.2.2.1,v.2.2.2.2.1))
  |none=>do
   cH (v.2.2.2.2.1+1)
   pure (.yield (none,v.2.1,v.2.2.1,v.2.2.2.1,v.2.2.2.2.1+1))
theorem rH(a b:Array δ):mM a b=(do
 liftM (rule "list.sort.merge-hi")
 let y ←elem' a (a.size-1)
 if (a.size-1==0)=true then pure (eH a b #[y] (a.size-1) b.size)
 else if (b.size==1)=true then pure (gD a b #[y] (a.size-1) b.size)
 else do
  let g ←get
  let u ←forIn [0:a.size+b.size] ((none,a.size-1,b.size,#[y],gallopOf g):HT) fun _ u=>CS a b u
  match u.1 with
  |some r=>pure r
  | none=>unsupported "internal:list.sort.merge-bound"):=by
 rw[vd]
 refine congrArg (fun z=>(liftM (rule "list.sort.merge-hi"):SM Unit) >>= z) (funext fun _=>?_)
 refine congrArg (fun z=>elem' a (a.size-1) >>= z) (funext fun x=>?_)
 dsimp only
 refine congrArg (fun z=>if (a.size-1==0)=true then _ else z) ?_
 refine congrArg (fun z=>if (b.size==1)=true then _ else z) ?_
 refine congrArg (fun z=>(get:SM ah) >>= z) (funext fun g=>?_)
 refine au (fy fun _ u=>?_) (fun u=>by obtain⟨r,u⟩:=u;cases r<;>rfl)
 unfold CS
 refine au (fy fun _ t=>?_) (fun t=>?_)
 ·rfl
 obtain⟨r,t⟩:=t
 cases r with
 |some r=>rfl
 |none=>
  dsimp only
  refine au rfl fun _=>?_
  refine au (fy fun _ v=>?_) (fun v=>?_)
  ·by_cases h:v.2.2.2.2.1 > 1
   ·rw[if_pos h,if_pos h]
    unfold lU
    refine au rfl fun _=>?_
    refine au rfl fun x=>?_
    refine au rfl fun r=>?_
    cases r with
    |none=>rfl
    |some k=>
     dsimp only
     by_cases h1:v.2.1-k > 0
     ·rw[if_pos h1,if_pos h1]
      rfl
     ·rw[if_neg h1,if_neg h1]
      rfl
   ·rw[if_neg h,if_neg h]
    unfold lU
    refine au rfl fun _=>?_
    refine au rfl fun x=>?_
    refine au rfl fun r=>?_
    cases r with
    |none=>rfl
    |some k=>
     dsimp only
     by_cases h1:v.2.1-k > 0
     ·rw[if_pos h1,if_pos h1]
      rfl
     ·rw[if_neg h1,if_neg h1]
      rfl
  ·obtain⟨r,v⟩:=v
   cases r<;>rfl
end eK
namespace eK
open PySem PySem.W PyProof.Rows
section
variable {L:δ->δ->Bool} {al bl:List δ}
structure MJ(L:δ->δ->Bool)(al bl out:List δ)(na nb:Nat):Prop where
 perm:(al.take na++(bl.take nb++out.reverse)).Perm (al++bl)
 cE:out.Pairwise fun x y=>Le L y x
 hi:∀x∈al.take na++bl.take nb,∀y∈out,Le L x y
theorem yN(xs:List δ){i n:Nat}(h:i≤n):xs.take n=xs.take i++(xs.take n).drop i:=by
 have:=cc i (xs.take n);rw[mo,lg h] at this;exact this.symm
theorem MJ.qz{out:List δ}{na nb:Nat}(h:MJ L al bl out na nb)(hs:al.Pairwise (Le L)){i:Nat}(hi:i≤na)(hx:∀z∈(al.take na).drop i,∀x∈bl.take nb,Le L x z):MJ L al bl (out++((al.take na).drop i).reverse) i nb:=by
 have e:=yN al hi;have hs':(al.take na).Pairwise (Le L):=hs.sublist (du _ _);rw[e,Δ] at hs';refine⟨?_,?_,fun x hx' y hy=>?_⟩
 ·refine bP ?_ h.perm;have e2:al.take na++(bl.take nb++out.reverse)=al.take i++((al.take na).drop i++(bl.take nb++out.reverse)):=
   (congrArg (· ++ (bl.take nb++out.reverse)) e).trans (ψ _ _ _)
  rw[e2,nC,ng];refine bU _ ?_;rw[←ψ,←ψ];exact bC _ fS
 ·rw[Δ];refine⟨h.cE,?_,fun x hx' y hy=>h.hi y (aA _ (cn (dO.mp hy))) x hx'⟩;rw[dh];exact hs'.2.1
 ·rcases ag.mp hy with z|z
  ·refine h.hi x ?_ y z;rcases ag.mp hx' with z2|z2
   ·rw[e];exact aA _ (aA _ z2)
   ·exact Ξ _ z2
  ·have z:=dO.mp z;rcases ag.mp hx' with z2|z2
   ·exact hs'.2.2 x z2 y z
   ·exact hx y z x z2
theorem MJ.qy{out:List δ}{na nb:Nat}(h:MJ L al bl out na nb)(hs:bl.Pairwise (Le L)){i:Nat}(hi:i≤nb)(hx:∀z∈(bl.take nb).drop i,∀x∈al.take na,Le L x z):MJ L al bl (out++((bl.take nb).drop i).reverse) na i:=by
 have e:=yN bl hi;have hs':(bl.take nb).Pairwise (Le L):=hs.sublist (du _ _);rw[e,Δ] at hs';refine⟨?_,?_,fun x hx' y hy=>?_⟩
 ·refine bP (rl ?_) h.perm;have e2:bl.take nb++out.reverse=bl.take i++((bl.take nb).drop i++out.reverse):=
   (congrArg (· ++ out.reverse) e).trans (ψ _ _ _)
  rw[e2,nC,ng]
 ·rw[Δ];refine⟨h.cE,?_,fun x hx' y hy=>h.hi y (Ξ _ (cn (dO.mp hy))) x hx'⟩;rw[dh];exact hs'.2.1
 ·rcases ag.mp hy with z|z
  ·refine h.hi x ?_ y z;rcases ag.mp hx' with z2|z2
   ·exact aA _ z2
   ·rw[e];exact Ξ _ (aA _ z2)
  ·have z:=dO.mp z;rcases ag.mp hx' with z2|z2
   ·exact hx y z x z2
   ·exact hs'.2.2 x z2 y z
theorem y9{out:List δ}(h:out.Pairwise fun x y=>Le L y x):out.reverse.Pairwise (Le L):=by
 rw[dh];exact h
theorem MJ.done{out:List δ}{na nb:Nat}(h:MJ L al bl out na nb)(ha:al.Pairwise (Le L))(hb:bl.Pairwise (Le L))(he:na=0∨nb=0):Res L al bl (al.take na++bl.take nb++out.reverse):=by
 refine⟨by have:=h.perm;rwa [←ψ] at this,?_⟩;have h1:(al.take na++bl.take nb).Pairwise (Le L):=by
  rcases he with rfl|rfl
  ·rw[List.take_zero,bF];exact hb.sublist (du _ _)
  ·rw[List.take_zero,cf];exact ha.sublist (du _ _)
 rw[Δ];exact⟨h1,y9 h.cE,fun x hx y hy=>h.hi x hx y (dO.mp hy)⟩
theorem MJ.first{out:List δ}{na nb:Nat}(h:MJ L al bl out na nb)(ha:al.Pairwise (Le L)){z:δ}(he:bl.take nb=[z])(hz:∀x∈al,Le L z x):Res L al bl (bl.take nb++al.take na++out.reverse):=by
 refine⟨bP ?_ h.perm,?_⟩
 ·rw[←ψ];exact bC _ fS
 ·rw[Δ];refine⟨?_,y9 h.cE,fun x hx y hy=>h.hi x ?_ y (dO.mp hy)⟩
  ·rw[he,Δ];refine⟨bx _ _,ha.sublist (du _ _),fun x hx y hy=>?_⟩;rw[ao.mp hx];exact hz y (cm hy)
  ·rcases ag.mp hx with q|q
   ·exact Ξ _ q
   ·exact aA _ q
end
section
variable {prog:aq} {w:aC} {A:aZ} {E:γ->ε->Prop} {κ:bN} {s:ε} {Ok:δ->Prop} {L:δ->δ->Bool} {st:ah} {a b:Array δ}
theorem xW(a:Array δ)(n:Nat):(a.extract 0 n).toList=a.toList.take n:=by
 rw[ko,mw,Nat.sub_zero]
theorem x6(a b out:Array δ)(na nb:Nat):(eH a b out na nb).toList=a.toList.take na++b.toList.take nb++out.toList.reverse:=by
 unfold eH;rw[bS,bS,xW,xW,iN]
theorem vg(a b out:Array δ)(na nb:Nat):(gD a b out na nb).toList=b.toList.take nb++a.toList.take na++out.toList.reverse:=by
 unfold gD;rw[bS,bS,xW,xW,iN]
def kY(L:δ->δ->Bool)(a b out:Array δ)(na nb:Nat):Prop:=(0<na/\na≤a.size)/\(1<nb/\nb≤b.size)/\MJ L a.toList b.toList out.toList na nb
def PJ(L:δ->δ->Bool)(a b:Array δ)(R0:Nat)(r:Option (Array δ))(out:Array δ)(na nb:Nat):Prop:=match r with
 |some res=>Res L a.toList b.toList res.toList
 |none=>kY L a b out na nb/\na+nb<R0
def ky(L:δ->δ->Bool)(a b:Array δ):Prop:=∀z,b[0]?=some z->∀x∈a.toList,Le L z x
theorem jm(H:MH prog w A κ s Ok L a b){out:Array δ}{na nb:Nat}(h:MJ L a.toList b.toList out.toList na nb)(he:na=0∨nb=0):Res L a.toList b.toList (eH a b out na nb).toList:=by
 rw[x6];exact h.done H.sa H.sb he
theorem kR(H:MH prog w A κ s Ok L a b)(hF:ky L a b){out:Array δ}{na nb:Nat}(h:MJ L a.toList b.toList out.toList na nb)(he:nb=1)(hb:0<b.size):Res L a.toList b.toList (gD a b out na nb).toList:=by
 rw[vg];obtain⟨x,e1,e2,_⟩:=fN hb;subst he;rw[mw] at e2;refine h.first H.sa (z:=x) ?_ (hF x e1)
 rw[e2];rfl
theorem iY{a:Array δ}{n:Nat}(h0:0<n)(hn:n≤a.size):∃x,a[n-1]?=some x/\(a.toList.take n).drop (n-1)=[x]/\x∈a.toList/\∀z∈a.toList.take n,∃i,i≤n-1/\a.toList[i]?=some z:=by
 have h':n-1<a.toList.length:=by rw[av];lia
 refine⟨a[n-1],gx (by lia),?_,nh.mpr (pG _),fun z hz=>?_⟩
 ·rw[List.drop_take,show n-(n-1)=1 by lia,cB h',nj];rfl
 ·obtain⟨i,hi,e⟩:=ff hz;rw[bu] at hi;refine⟨i,by lia,?_⟩;have:=aU (l:=a.toList.take n) (i:=i) (by rw[bu];lia);rw[e,dq (by lia)] at this;exact this
theorem o9(O:fA L){a:Array δ}(hs:a.toList.Pairwise (Le L)){n:Nat}{x:δ}(ex:a[n-1]?=some x)(hm:∀z∈a.toList.take n,∃i,i≤n-1/\a.toList[i]?=some z):∀z∈a.toList.take n,Le L z x:=fun z hz=>by
 obtain⟨i,hi,e⟩:=hm z hz;exact pw_get hs O hi e (by rw[aE];exact ex)
theorem rQ(H:MH prog w A κ s Ok L a b){out:Array δ}{na nb:Nat}{y:δ}(h:MJ L a.toList b.toList out.toList na nb)(h0:0<na)(e:(a.toList.take na).drop (na-1)=[y])(hx:∀z∈b.toList.take nb,Le L z y):MJ L a.toList b.toList (out.push y).toList (na-1) nb:=by
 have:=h.qz H.sa (i:=na-1) (by lia) (by rw[e];intro z hz x hx';rw[ao.mp hz];exact hx x hx');rw[e] at this;rw[kP];exact this
theorem v7(H:MH prog w A κ s Ok L a b){out:Array δ}{na nb:Nat}{x:δ}(h:MJ L a.toList b.toList out.toList na nb)(h0:0<nb)(e:(b.toList.take nb).drop (nb-1)=[x])(hx:∀z∈a.toList.take na,Le L z x):MJ L a.toList b.toList (out.push x).toList na (nb-1):=by
 have:=h.qy H.sb (i:=nb-1) (by lia) (by rw[e];intro z hz y hy;rw[ao.mp hz];exact hx y hy);rw[e] at this;rw[kP];exact this
def Mc(L:δ->δ->Bool)(a b:Array δ)(R0:Nat)(r:ForInStep MT):Prop:=match r with
 |.done v=>PJ L a b R0 v.1 v.2.2.2.1 v.2.1 v.2.2.1
 |.yield v=>v.1=none/\PJ L a b R0 none v.2.2.2.1 v.2.1 v.2.2.1
theorem Hz(H:MH prog w A κ s Ok L a b)(hF:ky L a b)(hk:kindOf st=κ){mg ac bc na nb:Nat}{out:Array δ}(h:kY L a b out na nb):
  kasC (model prog w) A E (HA a b mg (none,na,nb,out,ac,bc)) (fun r st' s'=>s'=s/\st'=st/\Mc L a b (na+nb) r) st s:=by
 obtain⟨h1,h2,h3⟩:=h;obtain⟨x,ex,dx,mx,lx⟩:=iY (a:=b) (n:=nb) (by lia) h2.2;obtain⟨y,ey,dy,my,ly⟩:=iY h1.1 h1.2;unfold HA;dsimp only;refine ν (cC ex (ν (cC ey (ν (tT H.C hk (H.ob x mx) (H.oa y my) ?_)))));dsimp only;cases hl:L x y with
 |true=>
  rw[if_pos rfl];have h4:=rQ H h3 h1.1 dy fun z hz=>H.O.dz z x y (o9 H.O H.sb ex lx z hz) (H.O.gU _ _ hl);refine ν (cC ey ?_);by_cases e:(na-1==0)=true
  ·rw[if_pos e];rw[beq_iff_eq] at e;exact υ ⟨rfl,rfl,jm H h4 (.inl e)⟩
  ·rw[if_neg e];have e':na-1≠0:=fun z=>e (by rw[z];rfl);have pr:PJ L a b (na+nb) none (out.push y) (na-1) nb:=⟨⟨⟨by lia,by lia⟩,h2,h4⟩,by lia⟩;by_cases g:ac+1≥mg
   ·rw[if_pos g];exact υ ⟨rfl,rfl,pr⟩
   ·rw[if_neg g];exact υ ⟨rfl,rfl,rfl,pr⟩
 |false=>
  rw[if_neg ai];have h4:=v7 H h3 (by lia) dx fun z hz=>H.O.dz z y x (o9 H.O H.sa ey ly z hz) hl;refine ν (cC ex ?_);by_cases e:(nb-1==1)=true
  ·rw[if_pos e];rw[beq_iff_eq] at e;exact υ ⟨rfl,rfl,kR H hF h4 e (by lia)⟩
  ·rw[if_neg e];have e':nb-1≠1:=fun z=>e (by rw[z];rfl);have pr:PJ L a b (na+nb) none (out.push x) na (nb-1):=⟨⟨h1,⟨by lia,by lia⟩,h4⟩,by lia⟩;by_cases g:bc+1≥mg
   ·rw[if_pos g];exact υ ⟨rfl,rfl,pr⟩
   ·rw[if_neg g];exact υ ⟨rfl,rfl,rfl,pr⟩
def u2(L:δ->δ->Bool)(a b:Array δ)(R0:Nat)(r:ForInStep GT):Prop:=match r with
 |.done v=>PJ L a b R0 v.1 v.2.2.2.1 v.2.1 v.2.2.1
 |.yield v=>v.1=none/\PJ L a b R0 none v.2.2.2.1 v.2.1 v.2.2.1
theorem zK(H:MH prog w A κ s Ok L a b){R0 mg ac bc na nb:Nat}{out:Array δ}{y:δ}(h:kY L a b out na nb)(hr:na+nb≤R0)(ey:a[na-1]?=some y)(hy:∀z∈b.toList.take nb,Le L z y):
  kasC (model prog w) A E (CP a b out na nb mg ac bc) (fun r st' s'=>s'=s/\st'=st/\u2 L a b R0 r) st s:=by
 obtain⟨h1,h2,h3⟩:=h;obtain⟨y',ey',dy,my,ly⟩:=iY h1.1 h1.2;rw[ey] at ey';cases ey';have h4:=rQ H h3 h1.1 dy hy;unfold CP;refine ν (cC ey ?_);by_cases e:(na-1==0)=true
 ·rw[if_pos e];rw[beq_iff_eq] at e;exact υ ⟨rfl,rfl,jm H h4 (.inl e)⟩
 ·rw[if_neg e];have e':na-1≠0:=fun z=>e (by rw[z];rfl);have pr:PJ L a b R0 none (out.push y) (na-1) nb:=⟨⟨⟨by lia,by lia⟩,h2,h4⟩,by lia⟩;by_cases g:(decide (ac<7)&&decide (bc<7))=true
  ·rw[if_pos g];exact υ ⟨rfl,rfl,pr⟩
  ·rw[if_neg g];exact υ ⟨rfl,rfl,rfl,pr⟩
theorem rz(arr:Array δ)(n:Nat):sl arr 0 n=arr.toList.take n:=by
 unfold sl;rw[mw]
theorem vE(out arr:Array δ)(i n:Nat):(out++(arr.extract i n).reverse).toList=out.toList++((arr.toList.take n).drop i).reverse:=by
 rw[bS,iN,ko,List.drop_take]
theorem vt{xs:List δ}(h:xs.Pairwise (Le L))(i:Nat):(xs.take i).Pairwise (Le L):=h.sublist (du _ _)
theorem zL(H:MH prog w A κ s Ok L a b)(hF:ky L a b)(hk:kindOf st=κ){R0 mg ac bc na nb:Nat}{out:Array δ}{x:δ}(h:kY L a b out na nb)(hr:na+nb≤R0)(ex:b[nb-1]?=some x)(hx:∀z∈a.toList.take na,Le L z x):
  kasC (model prog w) A E (CQ a b out na nb mg ac bc) (fun r st' s'=>s'=s/\st'=st/\u2 L a b R0 r) st s:=by
 obtain⟨h1,h2,h3⟩:=h;obtain⟨x',ex',dx,mx,lx⟩:=iY (a:=b) (n:=nb) (by lia) h2.2;rw[ex] at ex';cases ex';obtain⟨y,ey,dy,my,ly⟩:=iY h1.1 h1.2;have h4:=v7 H h3 (by lia) dx hx;unfold CQ;refine ν (cC ex ?_);by_cases e:(nb-1==1)=true
 ·rw[if_pos e];rw[beq_iff_eq] at e;exact υ ⟨rfl,rfl,kR H hF h4 e (by lia)⟩
 rw[if_neg e];have e':nb-1≠1:=fun z=>e (by rw[z];rfl);refine ν (cC ey (ν (lW H.C H.O hk (by lia) (by lia) (H.oa y my) (fun z hz=>?_) ?_ fun k hkn k1 k2=>?_)))
 ·rw[rz] at hz;exact H.ob z (cm hz)
 ·rw[rz];exact vt H.sb _
 rw[rz] at k1 k2;rw[mo,lg hkn] at k1;have k1':∀z∈b.toList.take k,Le L z y:=fun z hz=>H.O.gU _ _ (k1 z hz);have k2':∀z∈(b.toList.take (nb-1)).drop k,Le L y z:=fun z hz=>k2 z hz;dsimp only;by_cases hk0:nb-1-k > 0
 ·rw[if_pos hk0];have h5:MJ L a.toList b.toList (out.push x++(b.extract k (nb-1)).reverse).toList na k:=by
   rw[vE];exact h4.qy H.sb (by lia) fun z hz y' hy'=>H.O.dz y' y z (o9 H.O H.sa ey ly y' hy') (k2' z hz)
  by_cases e2:(k==1)=true
  ·rw[if_pos e2];rw[beq_iff_eq] at e2;exact υ ⟨rfl,rfl,kR H hF h5 e2 (by lia)⟩
  rw[if_neg e2];have e2':k≠1:=fun z=>e2 (by rw[z];rfl);by_cases e3:(k==0)=true
  ·rw[if_pos e3];rw[beq_iff_eq] at e3;exact υ ⟨rfl,rfl,jm H h5 (.inr e3)⟩
  rw[if_neg e3];have e3':k≠0:=fun z=>e3 (by rw[z];rfl);exact zK H ⟨h1,⟨by lia,by lia⟩,h5⟩ (by lia) ey k1'
 ·rw[if_neg hk0];have k0:k=nb-1:=by lia
  subst k0;exact zK H ⟨h1,⟨by lia,by lia⟩,h4⟩ (by lia) ey k1'
theorem Hy(H:MH prog w A κ s Ok L a b)(hF:ky L a b)(hk:kindOf st=κ){mg m0 ac bc na nb:Nat}{out:Array δ}(h:kY L a b out na nb):
  kasC (model prog w) A E (lU a b mg (none,na,nb,out,m0,ac,bc)) (fun r st' s'=>s'=s/\cM st st'/\u2 L a b (na+nb) r) st s:=by
 obtain⟨h1,h2,h3⟩:=h;obtain⟨x,ex,dx,mx,lx⟩:=iY (a:=b) (n:=nb) (by lia) h2.2;unfold lU;dsimp only;refine ν (qi fun st' sm=>?_);have hk':kindOf st'=κ:=sm.1.trans hk;have back:∀{m:SM (ForInStep GT)},kasC (model prog w) A E m (fun r st'' s'=>s'=s/\st''=st'/\u2 L a b (na+nb) r) st' s->kasC (model prog w) A E m (fun r st'' s'=>s'=s/\cM st st''/\u2 L a b (na+nb) r) st' s:=fun hm=>dA hm fun r st'' s' ⟨z1,z2,z3⟩=>⟨z1,by rw[z2];exact sm,z3⟩;refine ν (cC ex (ν (lW H.C H.O hk' (by lia) (by lia) (H.ob x mx) (fun z hz=>?_) ?_ fun k hkn k1 k2=>?_)))
 ·rw[rz] at hz;exact H.oa z (cm hz)
 ·rw[rz];exact vt H.sa _
 rw[rz] at k1 k2;rw[mo,lg hkn] at k1;have k1':∀z∈a.toList.take k,Le L z x:=fun z hz=>by
  have:(!(L x z))=true:=k1 z hz;rwa [cv] at this
 have k2':∀z∈(a.toList.take na).drop k,Le L x z:=fun z hz=>by
  have:(!(L x z))=false:=k2 z hz;rw[jw] at this;exact H.O.gU _ _ this
 dsimp only;by_cases hk0:na-k > 0
 ·rw[if_pos hk0];have h5:MJ L a.toList b.toList (out++(a.extract k na).reverse).toList k nb:=by
   rw[vE];exact h3.qz H.sa (by lia) fun z hz y' hy'=>H.O.dz y' x z (o9 H.O H.sb ex lx y' hy') (k2' z hz)
  by_cases e:(k==0)=true
  ·rw[if_pos e];rw[beq_iff_eq] at e;exact υ ⟨rfl,sm,jm H h5 (.inl e)⟩
  rw[if_neg e];have e':k≠0:=fun z=>e (by rw[z];rfl);exact back (zL H hF hk' ⟨⟨by lia,by lia⟩,h2,h5⟩ (by lia) ex k1')
 ·rw[if_neg hk0];have k0:k=na:=by lia
  subst k0;exact back (zL H hF hk' ⟨h1,h2,h3⟩ (ω _) ex k1')
def Me(L:δ->δ->Bool)(a b:Array δ)(R0:Nat)(r:ForInStep HT):Prop:=match r with
 |.done v=>∃res,v.1=some res/\Res L a.toList b.toList res.toList
 |.yield v=>v.1=none/\kY L a b v.2.2.2.1 v.2.1 v.2.2.1/\v.2.1+v.2.2.1<R0
theorem HB(H:MH prog w A κ s Ok L a b)(hF:ky L a b)(hk:kindOf st=κ){mg na nb:Nat}{out:Array δ}(h:kY L a b out na nb):
  kasC (model prog w) A E (CS a b (none,na,nb,out,mg)) (fun r st' s'=>s'=s/\cM st st'/\Me L a b (na+nb) r) st s:=by
 unfold CS;dsimp only;have hr0:na+nb≤a.size+b.size:=by
  have:=h.1.2;have:=h.2.1.2;lia
 refine ν (ck ?_);refine de (fun k (t:MT) st'=>st'=st/\t.1=none/\kY L a b t.2.2.2.1 t.2.1 t.2.2.1/\t.2.1+t.2.2.1≤k/\t.2.1+t.2.2.1≤na+nb) ?_ ?_ _ _ _ ⟨rfl,rfl,h,by rw[bo];exact hr0,ω _⟩
 ·rintro⟨r,na,nb,out,ac,bc⟩ st' ⟨rfl,rfl,h',hr,_⟩;have h1:0<na:=h'.1.1;have hr:na+nb≤0:=hr;lia
 rintro x k ⟨r,i1,j1,o1,ac,bc⟩ st' ⟨rfl,rfl,h',hr,hr2⟩;have hr:i1+j1≤k+1:=hr;have hr2:i1+j1≤na+nb:=hr2;refine dA (Hz H hF hk h') ?_;rintro r st'' s'' ⟨rfl,rfl,hp⟩;refine⟨rfl,?_⟩;cases r with
 |yield v=>
  obtain⟨v1,v2⟩:=hp;have v2:kY L a b v.2.2.2.1 v.2.1 v.2.2.1/\v.2.1+v.2.2.1<i1+j1:=v2;exact⟨rfl,v1,v2.1,by lia,by lia⟩
 |done v=>
  obtain⟨r,i2,j2,o2,ac2,bc2⟩:=v;have hp:PJ L a b (i1+j1) r o2 i2 j2:=hp;cases r with
  |some res=>exact υ ⟨rfl,cM.rf,res,rfl,hp⟩
  |none=>
   have hp:kY L a b o2 i2 j2/\i2+j2<i1+j1:=hp;dsimp only;refine ν (il (iH ?_));refine ν (ck ?_);have hr3:i2+j2≤a.size+b.size:=by lia
   refine de (fun k (t:GT) st3=>cM st'' st3/\t.1=none/\kY L a b t.2.2.2.1 t.2.1 t.2.2.1/\t.2.1+t.2.2.1≤k/\t.2.1+t.2.2.1≤i2+j2) ?_ ?_ _ _ _ ⟨cM.rf,rfl,hp.1,by rw[bo];exact hr3,ω _⟩
   ·rintro⟨r,i3,j3,out,m3,ac,bc⟩ st3 ⟨_,rfl,h',hr,_⟩;have h1:0<i3:=h'.1.1;have hr:i3+j3≤0:=hr;lia
   rintro x k ⟨r,i3,j3,o3,m3,ac3,bc3⟩ st3 ⟨sm3,rfl,h',hr,hr2'⟩;have hr:i3+j3≤k+1:=hr;have hr2':i3+j3≤i2+j2:=hr2';have hk3:kindOf st3=κ:=sm3.1.trans hk;have go:∀m,kasC (model prog w) A E (lU a b m (none,i3,j3,o3,m3,ac3,bc3)) (fun r st' s'=>s'=s''/\cM st3 st'/\u2 L a b (i3+j3) r) st3 s'':=fun m=>Hy H hF hk3 h';have both:kasC (model prog w) A E (if m3 > 1 then lU a b (m3-1) (none,i3,j3,o3,m3,ac3,bc3) else lU a b m3 (none,i3,j3,o3,m3,ac3,bc3)) (fun r st' s'=>s'=s''/\cM st3 st'/\u2 L a b (i3+j3) r) st3 s'':=by
    by_cases g:m3 > 1
    ·rw[if_pos g];exact go _
    ·rw[if_neg g];exact go _
   refine dA both ?_;rintro r st4 s4 ⟨rfl,sm4,hp4⟩;refine⟨rfl,?_⟩;cases r with
   |yield v=>
    obtain⟨v1,v2⟩:=hp4;have v2:kY L a b v.2.2.2.1 v.2.1 v.2.2.1/\v.2.1+v.2.2.1<i3+j3:=v2;exact⟨sm3.tr sm4,v1,v2.1,by lia,by lia⟩
   |done v=>
    obtain⟨r,i5,j5,o5,m5,ac5,bc5⟩:=v;have hp4:PJ L a b (i3+j3) r o5 i5 j5:=hp4;cases r with
    |some res=>exact υ ⟨rfl,sm3.tr sm4,res,rfl,hp4⟩
    |none=>
     have hp4:kY L a b o5 i5 j5/\i5+j5<i3+j3:=hp4;exact ν (qi fun st5 sm5=>υ ⟨rfl,(sm3.tr sm4).tr sm5,rfl,hp4.1,by show i5+j5<na+nb;lia⟩)
theorem xg(H:MH prog w A κ s Ok L a b)(hL:jP L a b)(hF:ky L a b)(hk:kindOf st=κ)(ha:0<a.size)(hb:0<b.size){Q:Array δ->ah->ε->Prop}
  (q:∀res st',cM st st'->Res L a.toList b.toList res.toList->Q res st' s):kasC (model prog w) A E (mM a b) Q st s:=by
 obtain⟨y,ey,dy,my,ly⟩:=iY ha (ω a.size);have h0:MJ L a.toList b.toList (#[]:Array δ).toList a.size b.size:=by
  refine⟨?_,fG,fun x hx y hy=>nomatch hy⟩;rw[dY (by rw[av];exact ω _),dY (by rw[av];exact ω _)];simp
 have h1:MJ L a.toList b.toList (#[y]:Array δ).toList (a.size-1) b.size:=rQ H h0 ha dy fun z hz=>H.O.gU _ _ (hL y ey z (cm hz));rw[rH];refine ν (il (iH ?_));refine ν (cC ey ?_);by_cases e:(a.size-1==0)=true
 ·rw[if_pos e];rw[beq_iff_eq] at e;exact υ (q _ _ cM.rf (jm H h1 (.inl e)))
 rw[if_neg e];have e':a.size-1≠0:=fun z=>e (by rw[z];rfl);by_cases e2:(b.size==1)=true
 ·rw[if_pos e2];rw[beq_iff_eq] at e2;exact υ (q _ _ cM.rf (kR H hF h1 e2 hb))
 rw[if_neg e2];have e2':b.size≠1:=fun z=>e2 (by rw[z];rfl);refine ν (gb ?_);refine ν (ck ?_);refine de (fun k (t:HT) st'=>cM st st'/\t.1=none/\kY L a b t.2.2.2.1 t.2.1 t.2.2.1/\t.2.1+t.2.2.1≤k) ?_ ?_ _ _ _ ⟨cM.rf,rfl,⟨⟨by show 0<a.size-1;lia,by show a.size-1≤a.size;lia⟩,⟨by show 1<b.size;lia,ω _⟩,h1⟩,by rw[bo];show a.size-1+b.size≤a.size+b.size-0;lia⟩
 ·rintro⟨r,na,nb,out,m⟩ st' ⟨_,rfl,h',hr⟩;have h1:0<na:=h'.1.1;have hr:na+nb≤0:=hr;lia
 ·rintro z k ⟨r,na,nb,out,m⟩ st' ⟨sm,rfl,h',hr⟩;have hr:na+nb≤k+1:=hr;refine dA (HB H hF (sm.1.trans hk) h') ?_;rintro r st'' s'' ⟨rfl,sm2,hp⟩;refine⟨rfl,?_⟩;cases r with
  |yield v=>
   obtain⟨v1,v2,v3⟩:=hp;exact⟨sm.tr sm2,v1,v2,by lia⟩
  |done v=>
   obtain⟨r,v⟩:=v;obtain⟨res,e,hres⟩:=hp;have e:r=some res:=e;subst e;exact υ (q res st'' (sm.tr sm2) hres)
end
end eK
namespace eK
open PySem PySem.W PyProof.Rows
def mergeAt':Nat->SM Bool:=sortPriv% PySem.Builtin.mergeAt
abbrev vC(st:ah)(p:Array (Nat×Nat×Nat)):ah:=m8 (kindOf st) (arrOf st) p (gallopOf st) (failedOf st)
def yv(base:Nat)(xs:List (δ×Nat))(a:Array δ):Array δ:=xs.foldl (fun a (p,j)=>a.setIfInBounds (base+j) p) a
theorem ve(i:Nat):mergeAt' i=(do
 let s ←get
 let (some (sa,na,power),some (sb,nb,_)):=((pendingOf s)[i]?,(pendingOf s)[i+1]?)|unsupported "internal:list.sort.pending"
 set (vC s (((pendingOf s).setIfInBounds i (sa,na+nb,power)).eraseIdxIfInBounds (i+1)))
 let some k ←eS false (←elem' (arrOf s) sb) (arrOf s) sa na 0|return false
 let (sa,na):=(sa+k,na-k)
 if na==0 then return true
 let some nb ←eS true (←elem' (arrOf s) (sa+na-1)) (arrOf s) sb nb (nb-1)|return false
 if nb==0 then return true
 let x:=(arrOf s).extract sa sb
 let y:=(arrOf s).extract sb (sb+nb)
 let merged ←if na≤nb then mL x y else mM x y
 modify fun s=>setArr s (yv sa merged.toList.zipIdx (arrOf s))
 return (failedOf (←get)).isNone):=rfl
theorem Af(base:Nat):∀(xs:List δ) (k:Nat) (a:Array δ) (P X S:List δ),a.toList=P++X++S->P.length=base+k->X.length=xs.length->(yv base (xs.zipIdx k) a).toList=P++xs++S:=by
 intro xs
 induction xs with
 |nil=>
  intro k a P X S e h1 h2;have:X=[]:=bM h2;subst this;exact e
 |cons x xs ih=>
  intro k a P X S e h1 h2;cases X with
  |nil=>cases h2
  |cons z X=>
   have h2:X.length=xs.length:=by simpa using h2
   show (yv base (xs.zipIdx (k+1)) (a.setIfInBounds (base+k) x)).toList=_;have e2:(a.setIfInBounds (base+k) x).toList=(P++[x])++X++S:=by
    rw[jE,e,←h1,ψ,mq _ _ (ω _),kD];simp
   rw[ih (k+1) _ (P++[x]) X S e2 (by rw[ξ,h1];rfl) h2];simp
section
variable {prog:aq} {w:aC} {A:aZ} {E:γ->ε->Prop} {κ:bN} {s:ε} {Ok:δ->Prop} {L:δ->δ->Bool} {st:ah}
theorem Bd{st':ah}{Q:PUnit->ah->ε->Prop}(h:Q ⟨⟩ st' s):kasC (model prog w) A E (set st':SM PUnit) Q st s:=by
 unfold kasC;rw[StateT.run_set];exact bt h
theorem ua{arr:Array δ}{P X S:List δ}(e:arr.toList=P++X++S):sl arr P.length X.length=X:=by
 unfold sl;rw[e,ψ,List.drop_left,List.take_left]
theorem lV{arr:Array δ}{P S:List δ}{x:δ}(e:arr.toList=P++x::S):arr[P.length]?=some x:=by
 rw[←aE,e,aN (ω _),kD];rfl
theorem wc{arr:Array δ}{P X S:List δ}(e:arr.toList=P++X++S):(arr.extract P.length (P.length+X.length)).toList=X:=by
 rw[ko,show P.length+X.length-P.length=X.length by lia];exact ua e
theorem xh(C:gI prog w A κ s Ok L)(O:fA L)(hk:kindOf st=κ)(hf:failedOf st=none){i sa na pw sb nb p2:Nat}{P R1 R2 S:List δ}(hp1:(pendingOf st)[i]?=some (sa,na,pw))(hp2:(pendingOf st)[i+1]?=some (sb,nb,p2))
  (e:(arrOf st).toList=P++R1++R2++S) (l0:P.length=sa) (l1:R1.length=na) (l2:R2.length=nb) (l3:sb=sa+na) (h1:0<na) (h2:0<nb) (ok:∀x∈R1++R2,Ok x) (s1:R1.Pairwise (Le L)) (s2:R2.Pairwise (Le L))
  {Q:Bool->ah->ε->Prop} (q:∀(M:List δ) (st':ah),M.Perm (R1++R2)->M.Pairwise (Le L)->kindOf st'=κ->failedOf st'=none->pendingOf st'=((pendingOf st).setIfInBounds i (sa,na+nb,pw)).eraseIdxIfInBounds (i+1)->(arrOf st').toList=P++M++S->Q true st' s):kasC (model prog w) A E (mergeAt' i) Q st s:=by
 rw[ve];refine ν (gb ?_);rw[hp1,hp2];dsimp only;refine ν (Bd ?_);generalize hst1:vC st (((pendingOf st).setIfInBounds i (sa,na+nb,pw)).eraseIdxIfInBounds (i+1))=st1;have k1:kindOf st1=κ:=by rw[←hst1];exact hk
 have f1:failedOf st1=none:=by rw[←hst1];exact hf
 have p1:pendingOf st1=((pendingOf st).setIfInBounds i (sa,na+nb,pw)).eraseIdxIfInBounds (i+1):=by rw[←hst1]
 have a1:arrOf st1=arrOf st:=by rw[←hst1]
 have eP1:(arrOf st).toList=P++R1++(R2++S):=by rw[e,ψ (P++R1)]
 have eP2:(arrOf st).toList=(P++R1)++R2++S:=e;have lz:(arrOf st).size=P.length+R1.length+R2.length+S.length:=by
  rw[←av,e];simp only[ξ]
 have lPR:(P++R1).length=sb:=by rw[ξ];lia
 obtain⟨y0,R2',rfl⟩:∃y0 R2',R2=y0::R2':=by
  cases R2 with
  |nil=>simp at l2;lia
  |cons y r=>exact⟨y,r,rfl⟩
 have gy:(arrOf st)[sb]?=some y0:=by
  rw[←lPR];exact lV (S:=R2'++S) (by rw[e];simp)
 have oy0:Ok y0:=ok y0 (Ξ _ Ω);have sl1:sl (arrOf st) sa na=R1:=by
  rw[←l0,←l1];exact ua eP1
 have sl2:sl (arrOf st) sb nb=y0::R2':=by
  rw[←lPR,←l2];exact ua eP2
 refine ν (cC gy (ν (lW C O k1 h1 (by lia) oy0 (by rw[sl1];exact fun x hx=>ok x (aA _ hx)) (by rw[sl1];exact s1) fun k hkn b1 b2=>?_)));rw[sl1] at b1 b2;have b1':∀z∈R1.take k,Le L z y0:=fun z hz=>by
  have:(!(L y0 z))=true:=b1 z hz;rwa [cv] at this
 have b2':∀z∈R1.drop k,L y0 z=true:=fun z hz=>by
  have:(!(L y0 z))=false:=b2 z hz;rwa [jw] at this
 have hy0:∀z∈y0::R2',Le L y0 z:=iZ O s2 rfl;have eR1:R1.take k++R1.drop k=R1:=cc k R1;have s1':=s1;rw[←eR1,Δ] at s1';dsimp only;by_cases e0:(na-k==0)=true
 ·rw[if_pos e0];rw[beq_iff_eq] at e0;have ek:R1.take k=R1:=dY (by lia);rw[ek] at b1';refine υ (q (R1++y0::R2') st1 (dR _) ?_ k1 f1 p1 (by rw[a1,e];simp));rw[Δ];exact⟨s1,s2,fun x hx y hy=>O.dz x y0 y (b1' x hx) (hy0 y hy)⟩
 rw[if_neg e0];have e0':na-k≠0:=fun z=>e0 (by rw[z];rfl)
 -- the last of the first run
 have hne:R1.drop k≠[]:=fun z=>by
  have:=congrArg g8 z;rw[bA,dm] at this;lia
 obtain⟨I1,z0,eI⟩:∃I z,R1.drop k=I++[z]:=⟨_,_,(ja hne).symm⟩;have lI:I1.length+1=na-k:=by
  have:=congrArg g8 eI;rw[bA,ξ] at this;simp at this;lia
 have mz0:z0∈R1.drop k:=by rw[eI];simp
 have gz:(arrOf st)[sa+k+(na-k)-1]?=some z0:=by
  have hlen:sa+k+(na-k)-1=(P++R1.take k++I1).length:=by
   simp only[ξ,bu];lia
  rw[hlen];refine lV (S:=(y0::R2')++S) ?_;have eR:P++R1=P++(R1.take k++(I1++[z0])):=by rw[←eI,eR1]
  rw[e,eR];simp
 have oz0:Ok z0:=ok z0 (aA _ (cn mz0));refine ν (cC gz (ν (lW C O k1 (by lia) (by lia) oz0 (by rw[sl2];exact fun x hx=>ok x (Ξ _ hx)) (by rw[sl2];exact s2) fun m hm c1 c2=>?_)));rw[sl2] at c1 c2;have c1':∀z∈(y0::R2').take m,L z z0=true:=fun z hz=>c1 z hz;have c2':∀z∈(y0::R2').drop m,Le L z0 z:=fun z hz=>c2 z hz;have hz0:∀x∈R1.drop k,Le L x z0:=fun x hx=>by
  have:=s1'.2.1;rw[eI,Δ] at this;rw[eI] at hx;rcases ag.mp hx with hx|hx
  ·exact this.2.2 x hx z0 (by simp)
  ·rw[ao.mp hx];exact O.uI _
 dsimp only;by_cases e1:(m==0)=true
 ·rw[if_pos e1];rw[beq_iff_eq] at e1;subst e1;refine υ (q (R1++y0::R2') st1 (dR _) ?_ k1 f1 p1 (by rw[a1,e];simp));have cy:=c2' y0 (by simp);have by0:=b2' z0 mz0;have:L y0 z0=false:=cy;rw[by0] at this;cases this
 rw[if_neg e1];have e1':m≠0:=fun z=>e1 (by rw[z];rfl);have eR2:(y0::R2').take m++(y0::R2').drop m=y0::R2':=cc m _;have s2':=s2;rw[←eR2,Δ] at s2';have lX:(R1.drop k).length=na-k:=by rw[bA];lia
 have lY:((y0::R2').take m).length=m:=by rw[bu];lia
 have eA:(arrOf st).toList=(P++R1.take k)++R1.drop k++((y0::R2')++S):=by
  have eR:P++R1=P++(R1.take k++R1.drop k):=by rw[eR1]
  rw[e,eR];simp
 have eB:(arrOf st).toList=(P++R1)++(y0::R2').take m++((y0::R2').drop m++S):=by
  have eR:P++R1++(y0::R2')=P++R1++((y0::R2').take m++(y0::R2').drop m):=by rw[eR2]
  rw[e,eR];simp only[ψ]
 have lPk:(P++R1.take k).length=sa+k:=by
  simp only[ξ,bu];lia
 have ex:((arrOf st).extract (sa+k) sb).toList=R1.drop k:=by
  have:=wc eA;rw[lPk,lX,show sa+k+(na-k)=sb by lia] at this;exact this
 have ey:((arrOf st).extract sb (sb+m)).toList=(y0::R2').take m:=by
  have:=wc eB;rw[lPR,lY] at this;exact this
 generalize (arrOf st).extract (sa+k) sb=X at ex ⊢;generalize (arrOf st).extract sb (sb+m)=Y at ey ⊢;have H:MH prog w A κ s Ok L X Y:=⟨C,O,by rw[ex];exact fun x hx=>ok x (aA _ (cn hx)),by rw[ey];exact fun x hx=>ok x (Ξ _ (cm hx)),by rw[ex];exact s1'.2.1,by rw[ey];exact s2'.1⟩;have szX:X.size=na-k:=by rw[←av,ex,lX]
 have szY:Y.size=m:=by rw[←av,ey,lY]
 obtain⟨m',rfl⟩:∃m',m=m'+1:=⟨m-1,by lia⟩;have gY0:Y[0]?=some y0:=by
  rw[←aE,ey];rfl
 obtain⟨x0,gX0,_,mX0⟩:=fN (a:=X) (i:=0) (by lia);rw[ex] at mX0;have hL:jP L X Y:=fun z hz y hy=>by
  rw[ey] at hy;have:z=z0:=by
   rw[←aE,ex,eI,szX,aN (by lia),show na-k-1-I1.length=0 by lia] at hz;exact (aw hz).symm
  rw[this];exact c1' y hy
 have hF:ky L X Y:=fun z hz x hx=>by
  rw[gY0] at hz;cases hz;rw[ex] at hx;exact O.gU _ _ (b2' x hx)
 have fin:∀(res:Array δ) (st':ah),cM st1 st'->Res L X.toList Y.toList res.toList->kasC (model prog w) A E (do
   modify fun s=>setArr s (yv (sa+k) res.toList.zipIdx (arrOf s))
   return (failedOf (←get)).isNone:SM Bool) Q st' s:=fun res st' sm ⟨rp,rs⟩=>by
  rw[ex,ey] at rp;refine ν (eQ (ν (gb (υ ?_))));have hff:failedOf st'=none:=sm.2.2.2.trans f1;show Q (failedOf st').isNone _ s;rw[hff];have eC:(arrOf st').toList=(P++R1.take k)++(R1.drop k++(y0::R2').take (m'+1))++((y0::R2').drop (m'+1)++S):=by
   have eR:P++R1++(y0::R2')=P++(R1.take k++R1.drop k)++((y0::R2').take (m'+1)++(y0::R2').drop (m'+1)):=by rw[eR1,eR2]
   rw[sm.2.1,a1,e,eR];simp only[ψ]
  have ew:(yv (sa+k) res.toList.zipIdx (arrOf st')).toList=(P++R1.take k)++res.toList++((y0::R2').drop (m'+1)++S):=Af (sa+k) res.toList 0 _ _ _ _ eC lPk rp.length_eq.symm;refine q (R1.take k++(res.toList++(y0::R2').drop (m'+1))) _ ?_ ?_ (sm.1.trans k1) hff (sm.2.2.1.trans p1) (by rw[ew];simp only[ψ])
  ·refine bP (bU _ (bC _ rp)) (rl ?_);rw[ψ,eR2,←ψ,eR1]
  ·rw[Δ];refine⟨s1'.1,?_,fun x hx y hy=>?_⟩
   ·rw[Δ];refine⟨rs,s2'.2.1,fun x hx y hy=>?_⟩;rcases ag.mp (rp.mem_iff.mp hx) with z|z
    ·exact O.dz x z0 y (hz0 x z) (c2' y hy)
    ·exact s2'.2.2 x z y hy
   ·rcases ag.mp hy with z|z
    ·rcases ag.mp (rp.mem_iff.mp z) with z2|z2
     ·exact s1'.2.2 x hx y z2
     ·exact O.dz x y0 y (b1' x hx) (hy0 y (cm z2))
    ·exact O.dz x y0 y (b1' x hx) (hy0 y (cn z))
 by_cases hle:na-k≤m'+1
 ·rw[if_pos hle];exact ν (xf H hL k1 (by lia) gY0 gX0 (b2' x0 mX0) fin)
 ·rw[if_neg hle];exact ν (xg H hL hF k1 (by lia) (by lia) fin)
end
end eK
namespace eK
open PySem PySem.W PyProof.Rows
theorem get3{α:Type}(P X S:List α)(k:Nat):(P++X++S)[k]?=if k<P.length then P[k]? else if k<P.length+X.length then X[k-P.length]? else S[k-P.length-X.length]?:=by
 by_cases h:k<P.length
 ·rw[if_pos h,ψ,b6 h]
 ·rw[if_neg h,ψ,aN (by lia)];by_cases h2:k<P.length+X.length
  ·rw[if_pos h2,b6 (by lia)]
  ·rw[if_neg h2,aN (by lia)]
theorem AL{a:Array δ}{P M S:List δ}{i j:Nat}(e:a.toList=P++M++S)(hi:P.length=i)(hj:i+M.length=j):(mirror a i j ((j-i) / 2)).toList=P++M.reverse++S:=by
 have hz:j≤a.size:=by
  rw[←av,e];simp only[ξ];lia
 refine g0 fun k=>?_;rw[aE,getElem?_mirror_all hz,get3,List.length_reverse,←aE,←aE,e,get3,get3]
 repeat' split
 all_goals first
  |rfl
  | (exfalso;lia)
  | (rw[List.getElem?_reverse (by lia),show i+j-1-k-P.length=M.length-1-(k-P.length) by lia])
theorem BR{a:Array δ}{P X S:List δ}{x:δ}{src d:Nat}(e:a.toList=P++(X++[x])++S)(hs:P.length+X.length=src)(hd:X.length=d):(bubble a src d).toList=P++(x::X)++S:=by
 have hz:src<a.size:=by
  rw[←av,e];simp only[ξ,aI,dm];lia
 refine g0 fun k=>?_;rw[aE,getElem?_bubble hz d (by lia),←aE,←aE,←aE,e,get3,get3,get3,get3];have hl:(X++[x]).length=X.length+1:=by simp
 have hl2:(x::X).length=X.length+1:=by simp
 rw[hl,hl2]
 repeat' split
 all_goals first
  |rfl
  | (exfalso;lia)
  | (rw[show src-P.length=X.length by lia,show k-P.length=0 by lia];simp)
  | (obtain⟨u,hu⟩:∃u,k-P.length=u+1:=⟨k-P.length-1,by lia⟩;rw[hu,List.getElem?_cons_succ,show k-1-P.length=u by lia,b6 (by lia)])
abbrev AS:=Option (Option Nat)×Nat
abbrev DS:=Option (Option Nat)×Nat×Nat
def wq(lo:Nat)(t:AS):SM (ForInStep AS):=do
 let r ←ltAt' (lo+t.2) (lo+t.2-1)
 match r with
 |some smaller=>if smaller=true then pure (.done (none,t.2)) else pure (.yield (none,t.2+1))
 |_=>pure (.done (some none,t.2))
def sD(lo nrem n:Nat):SM (Option Nat):=do
 reverseSlice' lo (lo+n)
 let t ←forIn [n:nrem] ((none,n):AS) fun _ t=>wq lo t
 match t.1 with
 |some r=>pure r
 |none=>pure (some t.2)
def HX(lo:Nat)(t:DS):SM (ForInStep DS):=do
 let r ←ltAt' (lo+t.2.1) (lo+t.2.1-1)
 match r with
 |some smaller=>
  if smaller=true then
   if t.2.2 > 0 then do
    reverseSlice' (lo+t.2.1-(t.2.2+1)) (lo+t.2.1)
    pure (.yield (none,t.2.1+1,0))
   else pure (.yield (none,t.2.1+1,0))
  else do
   let r ←ltAt' (lo+t.2.1-1) (lo+t.2.1)
   match r with
   |some larger=>if larger=true then pure (.done (none,t.2.1,t.2.2)) else pure (.yield (none,t.2.1+1,t.2.2+1))
   |_=>pure (.done (some none,t.2.1,t.2.2))
 |_=>pure (.done (some none,t.2.1,t.2.2))
def wj(lo nrem n:Nat):SM (Option Nat):=do
 liftM (rule "list.sort.descending-run")
 let t ←forIn [n+1:nrem] ((none,n+1,0):DS) fun _ t=>HX lo t
 match t.1 with
 |some r=>pure r
 |none=>
  if t.2.2 > 0 then do
   reverseSlice' (lo+t.2.1-(t.2.2+1)) (lo+t.2.1)
   sD lo nrem t.2.1
  else sD lo nrem t.2.1
theorem pV{β:Type}{m n:Nat}{b:β}{f f':Nat->β->SM (ForInStep β)}(h:∀x t,f x t=f' x t):(forIn [m:n] b f:SM β)=forIn [m:n] b f':=by
 rw[funext fun x=>funext (h x)]
theorem qR(lo nrem:Nat):countRun' lo nrem=(do
 let t ←forIn [1:nrem] ((none,1):AS) fun _ t=>wq lo t
 match t.1 with
 |some r=>pure r
 |none=>
  if (t.2==nrem)=true then pure (some t.2)
  else if t.2 > 1 then do
   let r ←ltAt' lo (lo+t.2-1)
   match r with
   |some rose=>if rose=true then pure (some t.2) else do
    reverseSlice' lo (lo+t.2)
    wj lo nrem t.2
   |_=>pure none
  else wj lo nrem t.2):=by
 rw[countRun'_eq];have e3:∀n,(do
   reverseSlice' lo (lo+n)
   let mut n:=n
   for _ in [n:nrem] do
    let some smaller ←ltAt' (lo+n) (lo+n-1)|return none
    if smaller then break
    n:=n+1
   return some n:SM (Option Nat))=sD lo nrem n:=fun n=>by
  unfold sD;refine au rfl fun _=>?_;refine au (pV fun _ t=>?_) fun t=>?_
  ·unfold wq;refine au rfl fun r=>?_;cases r<;>rfl
  ·obtain⟨r,n⟩:=t;cases r<;>rfl
 have e1:∀n,(do
   liftM (rule "list.sort.descending-run")
   let mut n:=n
   n:=n+1
   let mut neq:=0
   for _ in [n:nrem] do
    let some smaller ←ltAt' (lo+n) (lo+n-1)|return none
    if smaller then
     if neq > 0 then reverseSlice' (lo+n-(neq+1)) (lo+n)
     neq:=0
    else
     let some larger ←ltAt' (lo+n-1) (lo+n)|return none
     if larger then break
     neq:=neq+1
    n:=n+1
   if neq > 0 then reverseSlice' (lo+n-(neq+1)) (lo+n)
   reverseSlice' lo (lo+n)
   for _ in [n:nrem] do
    let some smaller ←ltAt' (lo+n) (lo+n-1)|return none
    if smaller then break
    n:=n+1
   return some n:SM (Option Nat))=wj lo nrem n:=fun n=>by
  unfold wj;refine au rfl fun _=>?_;refine au (pV fun _ t=>?_) fun t=>?_
  ·unfold HX;refine au rfl fun r=>?_;cases r with
   |none=>rfl
   |some b=>
    cases b with
    |true=>rfl
    |false=>
     show (ltAt' _ _ >>= _)=(ltAt' _ _ >>= _);refine au rfl fun r=>?_;cases r<;>rfl
  ·obtain⟨r,n,q⟩:=t;cases r with
   |some r=>rfl
   |none=>
    dsimp only;by_cases h:q > 0
    ·rw[if_pos h,if_pos h];refine au rfl fun _=>?_;exact e3 n
    ·rw[if_neg h,if_neg h];exact e3 n
 refine au (pV fun _ t=>?_) fun t=>?_
 ·unfold wq;refine au rfl fun r=>?_;cases r<;>rfl
 obtain⟨r,n⟩:=t;cases r with
 |some r=>rfl
 |none=>
  dsimp only;by_cases h:(n==nrem)=true
  ·rw[if_pos h,if_pos h]
  ·rw[if_neg h,if_neg h];by_cases h2:n > 1
   ·rw[if_pos h2,if_pos h2];refine au rfl fun r=>?_;cases r with
    |none=>rfl
    |some b=>
     cases b with
     |true=>rfl
     |false=>
      dsimp only;rw[if_neg ai,if_neg ai];refine au rfl fun _=>?_;exact e1 n
   ·rw[if_neg h2,if_neg h2];exact e1 n
section
variable {prog:aq} {w:aC} {A:aZ} {E:γ->ε->Prop} {κ:bN} {s:ε} {Ok:δ->Prop} {L:δ->δ->Bool} {st:ah}
theorem nI(C:gI prog w A κ s Ok L)(hk:kindOf st=κ){i j:Nat}{x y:δ}(ex:(arrOf st)[i]?=some x)(ey:(arrOf st)[j]?=some y)(hx:Ok x)(hy:Ok y){Q:Option Bool->ah->ε->Prop}(h:Q (some (L x y)) st s):kasC (model prog w) A E (ltAt' i j) Q st s:=by
 rw[ltAt'_eq];refine ν (gb ?_);exact ν (cC ex (ν (cC ey (tT C hk hx hy h))))
theorem sY{i j:Nat}{Q:Unit->ah->ε->Prop}(h:Q () (setArr st (mirror (arrOf st) i j ((j-i) / 2))) s):kasC (model prog w) A E (reverseSlice' i j) Q st s:=by
 rw[reverseSlice'_eq];exact eQ h
structure At(κ:bN)(st0 st:ah)(P D T S:List δ):Prop where
 kind:kindOf st=κ
 fail:failedOf st=none
 pend:pendingOf st=pendingOf st0
 arr:(arrOf st).toList=P++D++T++S
theorem At.hd{st0:ah}{P D T S:List δ}{t:δ}(h:At κ st0 st P D (t::T) S):(arrOf st)[P.length+D.length]?=some t:=by
 rw[←ξ];refine lV (S:=T++S) ?_;rw[h.arr];simp
theorem At.lst{st0:ah}{P D T S:List δ}{d:δ}(h:At κ st0 st P (D++[d]) T S):(arrOf st)[P.length+(D++[d]).length-1]?=some d:=by
 have el:P.length+(D++[d]).length-1=(P++D).length:=by
  simp only[ξ,aI,dm];lia
 rw[el];refine lV (S:=T++S) ?_;rw[h.arr];simp
theorem At.next{st0:ah}{P D T S:List δ}{t:δ}(h:At κ st0 st P D (t::T) S):At κ st0 st P (D++[t]) T S:=⟨h.kind,h.fail,h.pend,by rw[h.arr];simp⟩
theorem At.rev{st0:ah}{P D B T S:List δ}{i j:Nat}(h:At κ st0 st P (D++B) T S)(hi:P.length+D.length=i)(hj:i+B.length=j):At κ st0 (setArr st (mirror (arrOf st) i j ((j-i) / 2))) P (D++B.reverse) T S:=by
 refine⟨h.kind,h.fail,h.pend,?_⟩;have e:(arrOf st).toList=(P++D)++B++(T++S):=by rw[h.arr];simp
 show (mirror (arrOf st) i j ((j-i) / 2)).toList=_;rw[AL e (by rw[ξ];exact hi) hj];simp
abbrev Ge(L:δ->δ->Bool)(x y:δ):Prop:=L x y=false
theorem snoc_cases{xs:List δ}(h:0<xs.length):∃ys y,xs=ys++[y]:=⟨_,_,(ja (fun z=>by rw[z] at h;simp at h)).symm⟩
theorem Dx(O:fA L){ys:List δ}{y t:δ}(h:(ys++[y]).Pairwise (Le L))(ht:Le L y t):(ys++[y]++[t]).Pairwise (Le L):=by
 rw[Δ];refine⟨h,bx _ _,fun x hx z hz=>?_⟩;rw[ao.mp hz];rw[Δ] at h;rcases ag.mp hx with q|q
 ·exact O.dz x y t (h.2.2 x q y (by simp)) ht
 ·rw[ao.mp q];exact ht
theorem vB(O:fA L){ys:List δ}{y t:δ}(h:(ys++[y]).Pairwise (Ge L))(ht:Ge L y t):(ys++[y]++[t]).Pairwise (Ge L):=by
 rw[Δ];refine⟨h,bx _ _,fun x hx z hz=>?_⟩;rw[ao.mp hz];rw[Δ] at h;rcases ag.mp hx with q|q
 ·exact O.dz t y x ht (h.2.2 x q y (by simp))
 ·rw[ao.mp q];exact ht
structure Run(κ:bN)(L:δ->δ->Bool)(st0 st:ah)(P X S R T:List δ):Prop where
 at_:At κ st0 st P R T S
 cE:R.Pairwise (Le L)
 perm:(R++T).Perm X
 pos:0<R.length
theorem me(C:gI prog w A κ s Ok L)(O:fA L){st0:ah}{P X S:List δ}{nrem n0:Nat}(ok:∀x∈X,Ok x)(hn:X.length=nrem){R0 T0:List δ}(h0:Run κ L st0 st P X S R0 T0)(hl0:R0.length=n0)
  {Q:AS->ah->ε->Prop} (q:∀(R T:List δ) (st':ah),Run κ L st0 st' P X S R T->(T=[]∨∃t T' R' d,T=t::T'/\R=R'++[d]/\L t d=true)->Q (none,R.length) st' s):
  kasC (model prog w) A E (forIn [n0:nrem] ((none,n0):AS) fun _ t=>wq P.length t) Q st s:=by
 refine ck ?_;have hl:=h0.perm.length_eq;rw[ξ,hn] at hl;refine de (fun k (b:AS) st'=>b.1=none/\∃R T,Run κ L st0 st' P X S R T/\R.length=b.2/\T.length=k) ?_ ?_ _ _ _ ⟨rfl,R0,T0,h0,hl0,by rw[bo];lia⟩
 ·rintro⟨r,n⟩ st' ⟨rfl,R,T,hR,rfl,hT⟩;exact q R T st' hR (.inl (bM hT))
 rintro xx k ⟨r,n⟩ st' ⟨rfl,R,T,hR,rfl,hT⟩;have hT:T.length=k+1:=hT;obtain⟨t,T',rfl⟩:∃t T',T=t::T':=by
  cases T with
  |nil=>simp at hT
  |cons t T'=>exact⟨t,T',rfl⟩
 obtain⟨R',d,rfl⟩:=snoc_cases hR.pos;have od:=ok d (hR.perm.mem_iff.mp (by simp));have ot:=ok t (hR.perm.mem_iff.mp (by simp));unfold wq;dsimp only;refine ν (nI C hR.at_.kind hR.at_.hd hR.at_.lst ot od ?_);dsimp only;cases hl1:L t d with
 |false=>
  rw[if_neg ai];exact υ ⟨rfl,rfl,R'++[d]++[t],T',⟨hR.at_.next,Dx O hR.cE hl1,by have:=hR.perm;simpa using this,by simp⟩,by simp,by simpa using hT⟩
 |true=>
  rw[if_pos rfl];exact υ ⟨rfl,q _ _ st' hR (.inr ⟨t,T',R',d,rfl,rfl,hl1⟩)⟩
theorem zT(C:gI prog w A κ s Ok L)(O:fA L){st0:ah}{P X S:List δ}{nrem:Nat}(ok:∀x∈X,Ok x)(hn:X.length=nrem){D T:List δ}(h:At κ st0 st P D T S)(hg:D.Pairwise (Ge L))(hp:(D++T).Perm X)(h0:0<D.length)
  {Q:Option Nat->ah->ε->Prop} (q:∀(R T:List δ) (st':ah),Run κ L st0 st' P X S R T->Q (some R.length) st' s):kasC (model prog w) A E (sD P.length nrem D.length) Q st s:=by
 unfold sD;refine ν (sY ?_);have h2:=At.rev (D:=[]) (B:=D) (i:=P.length) (j:=P.length+D.length) (by simpa using h) (by simp) rfl;refine ν (me C O ok hn (R0:=D.reverse) (T0:=T) ⟨by simpa using h2,?_,bP (bC _ (gZ D)) hp,by simpa using h0⟩ (by simp) fun R T' st' hR _=>υ (q R T' st' hR));rw[dh];exact hg
theorem zU(C:gI prog w A κ s Ok L)(O:fA L){st0:ah}{P X S:List δ}{nrem:Nat}(ok:∀x∈X,Ok x)(hn:X.length=nrem){D' T:List δ}{d t:δ}(h:At κ st0 st P (D'++[d]) (t::T) S)(hg:(D'++[d]).Pairwise (Ge L))(hp:(D'++[d]++t::T).Perm X)(hd:Ge L d t)
  {Q:Option Nat->ah->ε->Prop} (q:∀(R T:List δ) (st':ah),Run κ L st0 st' P X S R T->Q (some R.length) st' s):kasC (model prog w) A E (wj P.length nrem (D'++[d]).length) Q st s:=by
 unfold wj;refine ν (il (iH ?_));refine ν (ck ?_);have hl:=hp.length_eq;rw[ξ,hn] at hl
 -- D++B,B of like ones at its end
 have out:∀(D B T:List δ) (st':ah),At κ st0 st' P (D++B) T S->(D++B).Pairwise (Ge L)->(∀x∈B,∀y∈B,L x y=false)->0<B.length->(D++B++T).Perm X->kasC (model prog w) A E (if B.length-1 > 0 then do
    reverseSlice' (P.length+(D++B).length-(B.length-1+1)) (P.length+(D++B).length)
    sD P.length nrem (D++B).length
   else sD P.length nrem (D++B).length) Q st' s:=fun D B T st' a g hB hb p=>by
  have le:(D++B).length=D.length+B.length:=ξ;by_cases h1:B.length-1 > 0
  ·rw[if_pos h1];refine ν (sY ?_);have a2:=a.rev (i:=P.length+(D++B).length-(B.length-1+1)) (j:=P.length+(D++B).length) (by lia) (by lia);have hl2:(D++B).length=(D++B.reverse).length:=by simp
   have g3:(D++B.reverse).Pairwise (Ge L):=by
    rw[Δ] at g ⊢;refine⟨g.1,?_,fun x hx y hy=>g.2.2 x hx y (dO.mp hy)⟩;rw[dh];exact eZ (fun {x y} hx hy _=>hB y hy x hx) g.2.1
   have r3:=zT (E:=E) C O ok hn a2 g3 (bP (bC _ (bU _ (gZ B))) p) (by simp;lia) q;rw[←hl2] at r3;exact r3
  ·rw[if_neg h1];exact zT C O ok hn a g p (by lia) q
 refine de (fun k (b:DS) st'=>b.1=none/\∃D B T,At κ st0 st' P (D++B) T S/\(D++B).Pairwise (Ge L)/\(∀x∈B,∀y∈B,L x y=false)/\0<B.length/\(D++B++T).Perm X/\b.2.1=(D++B).length/\b.2.2=B.length-1/\T.length=k) ?_ ?_ _ _ _ ⟨rfl,D'++[d],[t],T,h.next,vB O hg hd,?_,by simp,by simpa using hp,by show (D'++[d]).length+1=_;simp,rfl,?_⟩
 ·rintro⟨r,n,qq⟩ st' ⟨rfl,D,B,T,a,g,hB,hb,p,rfl,rfl,_⟩;exact out D B T st' a g hB hb p
 ·rintro xx k ⟨r,n,qq⟩ st' ⟨rfl,D,B,T,a,g,hB,hb,p,rfl,rfl,hT⟩;have hT:T.length=k+1:=hT;obtain⟨u,T',rfl⟩:∃u T',T=u::T':=by
   cases T with
   |nil=>simp at hT
   |cons u T'=>exact⟨u,T',rfl⟩
  obtain⟨B',c,rfl⟩:=snoc_cases hb;have a':At κ st0 st' P (D++B'++[c]) (u::T') S:=by simpa using a
  have oc:=ok c (p.mem_iff.mp (by simp));have ou:=ok u (p.mem_iff.mp (by simp));have ghd:(arrOf st')[P.length+(D++(B'++[c])).length]?=some u:=a.hd;have glt:(arrOf st')[P.length+(D++(B'++[c])).length-1]?=some c:=by
   have:=a'.lst;rwa [ψ D B' [c]] at this
  unfold HX;dsimp only;refine ν (nI C a.kind ghd glt ou oc ?_);dsimp only;have g':(D++B'++[c]).Pairwise (Ge L):=by simpa using g
  cases hl1:L u c with
  |true=>
   rw[if_pos rfl];have hcu:Ge L c u:=O.gU _ _ hl1;have keep:∀(B2:List δ) (st2:ah),At κ st0 st2 P (D++B2) (u::T') S->B2.Perm (B'++[c])->∃D1 B1 T1,At κ st0 st2 P (D1++B1) T1 S/\(D1++B1).Pairwise (Ge L)/\(∀x∈B1,∀y∈B1,L x y=false)/\0<B1.length/\(D1++B1++T1).Perm X/\(D++(B'++[c])).length+1=(D1++B1).length/\0=B1.length-1/\T1.length=k:=fun B2 st2 a2 pb=>by
    refine⟨D++B2,[u],T',a2.next,?_,?_,by simp,?_,?_,rfl,by simpa using hT⟩
    ·rw[Δ] at g ⊢;refine⟨?_,bx _ _,fun x hx y hy=>?_⟩
     ·rw[Δ];refine⟨g.1,?_,fun x hx y hy=>g.2.2 x hx y (pb.mem_iff.mp hy)⟩;exact eZ (fun {x y} hx hy _=>hB x (pb.mem_iff.mp hx) y (pb.mem_iff.mp hy)) (List.pairwise_of_forall (R:=fun _ _=>True) fun _ _=>trivial)
     ·rw[ao.mp hy];rcases ag.mp hx with z|z
      ·exact O.dz u c x hcu (g.2.2 x z c (by simp))
      ·exact O.dz u c x hcu (hB x (pb.mem_iff.mp z) c (by simp))
    ·intro x hx y hy;rw[ao.mp hx,ao.mp hy];exact O.uI _
    ·refine bP ?_ p;have:D++B2++[u]++T'=D++B2++(u::T'):=by simp
     rw[this];exact bC _ (bU _ pb)
    ·show (D++(B'++[c])).length+1=(D++B2++[u]).length;have:=pb.length_eq;simp only[ξ,aI,dm] at this ⊢;lia
   by_cases h1:(B'++[c]).length-1 > 0
   ·rw[if_pos h1];refine ν (sY ?_);have le:(D++(B'++[c])).length=D.length+(B'++[c]).length:=ξ;exact υ ⟨rfl,rfl,keep _ _ (a.rev (i:=P.length+(D++(B'++[c])).length-((B'++[c]).length-1+1)) (j:=P.length+(D++(B'++[c])).length) (by lia) (by lia)) (gZ _)⟩
   ·rw[if_neg h1];exact υ ⟨rfl,rfl,keep _ _ a (dR _)⟩
  |false=>
   rw[if_neg ai];refine ν (nI C a.kind glt ghd oc ou ?_);dsimp only;cases hl2:L c u with
   |true=>
    rw[if_pos rfl];exact υ ⟨rfl,out D (B'++[c]) (u::T') st' a g hB hb p⟩
   |false=>
    rw[if_neg ai];refine υ ⟨rfl,rfl,D,B'++[c]++[u],T',by have:=a.next;simpa using this,by have:=vB O g' hl2;simpa using this,?_,by simp,by simpa using p,by simp;lia,?_,by simpa using hT⟩
    ·intro x hx y hy;rcases ag.mp hx with z|z
     ·rcases ag.mp hy with z2|z2
      ·exact hB x z y z2
      ·rw[ao.mp z2];exact O.dz u c x hl2 (hB x z c (by simp))
     ·rw[ao.mp z];rcases ag.mp hy with z2|z2
      ·exact O.dz y c u (hB c (by simp) y z2) hl1
      ·rw[ao.mp z2];exact O.uI _
    ·show (B'++[c]).length-1+1=(B'++[c]++[u]).length-1;simp
 ·intro x hx y hy;rw[ao.mp hx,ao.mp hy];exact O.uI _
 ·rw[bo];simp only[aI] at hl;lia
theorem vj(C:gI prog w A κ s Ok L)(O:fA L){st0:ah}{P X S:List δ}{lo nrem:Nat}(h:At κ st0 st P [] X S)(hlo:P.length=lo)(hn:X.length=nrem)(h1:0<nrem)(ok:∀x∈X,Ok x)
  {Q:Option Nat->ah->ε->Prop} (q:∀(R T:List δ) (st':ah),Run κ L st0 st' P X S R T->Q (some R.length) st' s):kasC (model prog w) A E (countRun' lo nrem) Q st s:=by
 obtain⟨x0,X',rfl⟩:∃x0 X',X=x0::X':=by
  cases X with
  |nil=>simp at hn;lia
  |cons x r=>exact⟨x,r,rfl⟩
 subst hlo;rw[qR];refine ν (me C O (S:=S) ok hn (R0:=[x0]) (T0:=X') ⟨⟨h.kind,h.fail,h.pend,by rw[h.arr];simp⟩,bx _ _,dR _,by simp⟩ rfl fun R T st' hR kl=>?_);have hl:=hR.perm.length_eq;rw[ξ,hn] at hl;dsimp only;rcases kl with rfl|⟨t,T',R',d,rfl,rfl,htd⟩
 ·rw[if_pos (by rw[beq_iff_eq];simp at hl;lia)];exact υ (q R [] st' hR)
 have hne:(R'++[d]).length≠nrem:=fun z=>by simp only[aI] at hl;lia
 rw[if_neg (by rw[beq_iff_eq];exact hne)];have hdt:Ge L d t:=O.gU _ _ htd;by_cases h2:(R'++[d]).length > 1
 ·rw[if_pos h2];obtain⟨x1,R'',rfl⟩:∃x1 R'',R'=x1::R'':=by
   cases R' with
   |nil=>simp at h2
   |cons x r=>exact⟨x,r,rfl⟩
  have o1:=ok x1 (hR.perm.mem_iff.mp (by simp));have od:=ok d (hR.perm.mem_iff.mp (by simp));have g1:(arrOf st')[P.length]?=some x1:=lV (S:=R''++[d]++(t::T')++S) (by rw[hR.at_.arr];simp);refine ν (nI C hR.at_.kind g1 hR.at_.lst o1 od ?_);dsimp only;cases hr:L x1 d with
  |true=>
   rw[if_pos rfl];exact υ (q _ _ st' hR)
  |false=>
   rw[if_neg ai];refine ν (sY ?_)
   -- all are alike
   have up:∀x∈x1::R''++[d],Le L x1 x:=iZ O hR.cE rfl;have dn:∀x∈x1::R''++[d],Le L x d:=fun x hx=>by
    have:=hR.cE;rw[Δ] at this;rcases ag.mp hx with z|z
    ·exact this.2.2 x z d (by simp)
    ·rw[ao.mp z];exact O.uI _
   have like:∀x∈x1::R''++[d],∀y∈x1::R''++[d],L x y=false:=fun x hx y hy=>O.dz y d x (dn y hy) (O.dz d x1 x hr (up x hx));have a2:=At.rev (D:=[]) (B:=x1::R''++[d]) (i:=P.length) (j:=P.length+(x1::R''++[d]).length) (by simpa using hR.at_) (by simp) rfl;have er:(x1::R''++[d]).reverse=(R''++[d]).reverse++[x1]:=by simp
   rw[bF,er] at a2;have hl3:(x1::R''++[d]).length=((R''++[d]).reverse++[x1]).length:=by simp
   rw[hl3] at a2 ⊢;refine zU C O ok hn a2 ?_ ?_ ?_ q
   ·rw[←er];rw[dh];exact eZ (fun {x y} hx hy _=>like y hy x hx) hR.cE
   ·rw[←er];exact bP (bC _ (gZ _)) hR.perm
   ·exact O.dz t d x1 hdt (like x1 (by simp) d (by simp))
 ·rw[if_neg h2];have:R'=[]:=by
   cases R' with
   |nil=>rfl
   |cons x r=>simp at h2
  subst this;exact zU C O ok hn (D':=[]) hR.at_ (bx _ _) hR.perm hdt q
end
end eK
namespace eK
open PySem PySem.W PyProof.Rows
section
variable {prog:aq} {w:aC} {A:aZ} {E:γ->ε->Prop} {κ:bN} {s:ε} {Ok:δ->Prop} {L:δ->δ->Bool} {st:ah}
theorem A5{β:Type}{body:Nat->β->SM (ForInStep β)}{Q:β->ah->ε->Prop}(I:Nat->β->ah->Prop)(e:Nat)(hz:∀b st,I e b st->Q b st s)
  (hs:∀x b st,x<e->I x b st->kasC (model prog w) A E (body x b) (fun r st' s'=>s'=s/\match r with
   |.done b'=>Q b' st' s
   | .yield b'=>I (x+1) b' st') st s) (m:Nat):∀(a:Nat) (b:β) (st:ah),a+m=e->I a b st->kasC (model prog w) A E (forIn (List.range' a m) b body) Q st s:=by
 induction m with
 |zero=>
  intro a b st h1 h2;have:a=e:=by lia
  subst this;exact kasC_nil (hz b st h2)
 |succ m ih=>
  intro a b st h1 h2;rw[List.range'_succ];refine kasC_cons (dA (hs a b st (by lia) h2) ?_);rintro r st' s' ⟨rfl,z⟩;cases r with
  |done b'=>exact z
  |yield b'=>exact ih (a+1) b' st' (by lia) z
theorem ET{i j:Nat}{Q:Unit->ah->ε->Prop}(h:Q () (setArr st (bubble (arrOf st) i (i-j))) s):kasC (model prog w) A E (moveDown' i j) Q st s:=by
 rw[moveDown'_eq];exact eQ h
theorem Ez{st0:ah}{P R T S:List δ}(h:At κ st0 st P R T S){i:Nat}{x:δ}(e:R[i]?=some x):(arrOf st)[P.length+i]?=some x:=by
 obtain⟨hi,rfl⟩:=bz.mp e;rw[←aE,h.arr,ψ (P++R),get3,if_neg (by lia),if_pos (by lia),show P.length+i-P.length=i by lia];exact e
theorem sX(C:gI prog w A κ s Ok L)(O:fA L){st0:ah}{P X S R T:List δ}{lo n:Nat}(h:Run κ L st0 st P X S R T)(hlo:P.length=lo)(hn:R.length≤n)(hx:n≤X.length)(ok:∀x∈X,Ok x)
  {Q:Bool->ah->ε->Prop} (q:∀(R T:List δ) (st':ah),Run κ L st0 st' P X S R T->R.length=n->Q true st' s):kasC (model prog w) A E (binarySort' lo n R.length) Q st s:=by
 subst hlo;rw[binarySort'_eq];have hm:max R.length 1=R.length:=by have:=h.pos;lia
 rw[hm];refine ν (ck ?_);refine A5 (fun k (b:Option Bool×Unit) st'=>b.1=none/\∃R T,Run κ L st0 st' P X S R T/\R.length=k) n ?_ ?_ _ _ _ _ (by lia) ⟨rfl,R,T,h,rfl⟩
 ·rintro⟨r,⟨⟩⟩ st' ⟨rfl,R,T,hR,hl⟩;exact υ (q R T st' hR hl)
 rintro k ⟨r,⟨⟩⟩ st' hk ⟨rfl,R,T,hR,rfl⟩;have hl:=hR.perm.length_eq;rw[ξ] at hl;obtain⟨x,T',rfl⟩:∃t T',T=t::T':=by
  cases T with
  |nil=>simp at hl;lia
  |cons t T'=>exact⟨t,T',rfl⟩
 have ox:=ok x (hR.perm.mem_iff.mp (by simp));have get:∀i,i<R.length->∃y,R[i]?=some y/\Ok y:=fun i hi=>⟨R[i],aU hi,ok _ (hR.perm.mem_iff.mp (aA _ (kH hi)))⟩;have out:∀l,l≤R.length->(∀i y,i<l->R[i]?=some y->Le L y x)->(∀i y,l≤i->R[i]?=some y->L x y=true)->kasC (model prog w) A E (do
   moveDown' (P.length+R.length) (P.length+l)
   pure (eD (none,())):SM (ForInStep (Option Bool×Unit))) (fun r st' s'=>s'=s/\match r with
    | .done b'=>kasC (model prog w) A E (match b'.1 with
     |some r=>pure r
     | none=>pure true:SM Bool) Q st' s
    | .yield b'=>b'.1=none/\∃R2 T,Run κ L st0 st' P X S R2 T/\R2.length=R.length+1) st' s:=fun l hl1 h1 h2=>by
  refine ν (ET (υ ⟨rfl,rfl,R.take l++(x::R.drop l),T',⟨⟨hR.at_.kind,hR.at_.fail,hR.at_.pend,?_⟩,?_,?_,by simp;lia⟩,?_⟩))
  ·have e:(arrOf st').toList=(P++R.take l)++(R.drop l++[x])++(T'++S):=by
    have eR:P++R=P++(R.take l++R.drop l):=by rw[cc]
    rw[hR.at_.arr,eR];simp only[ψ,List.singleton_append,List.cons_append,bF]
   have:=BR e (src:=P.length+R.length) (d:=P.length+R.length-(P.length+l)) (by simp only[ξ,bu,bA];lia) (by rw[bA];lia);show (bubble (arrOf st') (P.length+R.length) (P.length+R.length-(P.length+l))).toList=_;rw[this];simp
  ·have hs:=hR.cE;rw[←cc l R,Δ] at hs;rw[Δ];have tk:∀z∈R.take l,Le L z x:=fun z hz=>by
    obtain⟨i,hi,e⟩:=ff hz;rw[bu] at hi;refine h1 i z (by lia) ?_;have:=aU (l:=R.take l) (i:=i) (by rw[bu];lia);rw[e,dq (by lia)] at this;exact this
   have dr:∀z∈R.drop l,Le L x z:=fun z hz=>by
    obtain⟨i,hi,e⟩:=ff hz;rw[bA] at hi;refine O.gU _ _ (h2 (l+i) z (by lia) ?_);have:=aU (l:=R.drop l) (i:=i) (by rw[bA];lia);rw[e,jt] at this;exact this
   refine⟨hs.1,cg.mpr ⟨dr,hs.2.1⟩,fun a ha b hb=>?_⟩;rcases bf.mp hb with rfl|hb
   ·exact tk a ha
   ·exact hs.2.2 a ha b hb
  ·refine bP ?_ hR.perm;have e1:R++x::T'=R.take l++(R.drop l++x::T'):=by rw[←ψ,cc]
   rw[e1,ψ];refine bU _ ?_;exact (List.perm_middle (a:=x) (l₁:=R.drop l) (l₂:=T')).symm
  ·simp only[ξ,aI,bu,bA];lia
 dsimp only;refine ν (ck ?_);refine de (fun k (b:Option Bool×Nat×Nat) st2=>st2=st'/\b.1=none/\b.2.1≤b.2.2/\b.2.2≤R.length/\b.2.2-b.2.1≤k/\(∀i y,i<b.2.1->R[i]?=some y->Le L y x)/\(∀i y,b.2.2≤i->R[i]?=some y->L x y=true)) ?_ ?_ _ _ _ ⟨rfl,rfl,aK _,ω _,by rw[bo];exact ω _,fun i y hi=>absurd hi (Nat.not_lt_zero _),fun i y hi e=>?_⟩
 ·rintro⟨r,l,rr⟩ st2 ⟨rfl,rfl,a1,a2,a3,a4,a5⟩;have a1:l≤rr:=a1;have a3:rr-l≤0:=a3;have e:l=rr:=by lia
  subst e;exact out l a2 a4 a5
 ·rintro xx k ⟨r,l,rr⟩ st2 ⟨rfl,rfl,a1,a2,a3,a4,a5⟩;have a1:l≤rr:=a1;have a2:rr≤R.length:=a2;have a3:rr-l≤k+1:=a3;dsimp only;by_cases hge:l≥rr
  ·rw[if_pos hge];have e:l=rr:=by lia
   subst e;exact υ ⟨rfl,out l a2 a4 a5⟩
  ·rw[if_neg hge];obtain⟨y,ey,oy⟩:=get ((l+rr) / 2) (by lia);refine ν (nI C hR.at_.kind hR.at_.hd (Ez hR.at_ ey) ox oy ?_);dsimp only;cases hc:L x y with
   |true=>
    rw[if_pos rfl];refine υ ⟨rfl,rfl,rfl,by show l≤(l+rr) / 2;lia,by show (l+rr) / 2≤R.length;lia,by show (l+rr) / 2-l≤k;lia,a4,fun i z hi ez=>?_⟩;have hyz:=pw_get hR.cE O hi ey ez;cases hxz:L x z with
    |true=>rfl
    |false=>
     have:Le L y x:=O.dz y z x hyz hxz;have this:L x y=false:=this;rw[hc] at this;cases this
   |false=>
    rw[if_neg ai];refine υ ⟨rfl,rfl,rfl,by show (l+rr) / 2+1≤rr;lia,a2,by show rr-((l+rr) / 2+1)≤k;lia,fun i z hi ez=>?_,a5⟩;have hi:i<(l+rr) / 2+1:=hi;exact O.dz z y x (pw_get hR.cE O (by lia) ez ey) hc
 ·have:=(bz.mp e).1;have hi:R.length≤i:=hi;lia
end
end eK
namespace eK
open PySem PySem.W PyProof.Rows
abbrev PT:=Nat×Nat×Nat
def fO:List (List δ)->Nat->List PT->Prop
 |[],_,[]=>True
 |r::rs,off,(s,n,_)::ps=>s=off/\n=r.length/\fO rs (off+r.length) ps
 |_,_,_=>False
theorem fO.len:∀{rs:List (List δ)} {off:Nat} {ps:List PT},fO rs off ps->ps.length=rs.length
 |[],_,[],_=>rfl
 |[],_,_::_,h=>h.elim
 |_::_,_,[],h=>h.elim
 |r::rs,off,(s,n,p)::ps,h=>by
  have:=fO.len h.2.2;simp[this]
theorem fO.cut:∀{as rs:List (List δ)} {off:Nat} {ps:List PT},fO (as++rs) off ps->∃p1 p2,ps=p1++p2/\fO as off p1/\fO rs (off+as.flatten.length) p2
 |[],rs,off,ps,h=>⟨[],ps,rfl,trivial,by simpa using h⟩
 |a::as,rs,off,[],h=>h.elim
 |a::as,rs,off,(s,n,p)::ps,h=>by
  obtain⟨h1,h2,h3⟩:=h;obtain⟨p1,p2,rfl,h4,h5⟩:=fO.cut (as:=as) h3;exact⟨(s,n,p)::p1,p2,rfl,⟨h1,h2,h4⟩,by rw[cR,ξ,←nz];exact h5⟩
theorem fO.app:∀{as rs:List (List δ)} {off:Nat} {p1 p2:List PT},fO as off p1->fO rs (off+as.flatten.length) p2->fO (as++rs) off (p1++p2)
 |[],rs,off,[],p2,_,h=>by simpa using h
 |[],_,_,_::_,_,h,_=>h.elim
 |_::_,_,_,[],_,h,_=>h.elim
 |a::as,rs,off,(s,n,p)::p1,p2,h,h2=>⟨h.1,h.2.1,fO.app h.2.2 (by rw[cR,ξ,←nz] at h2;exact h2)⟩
theorem fO.mod{f:PT->PT}(hf:∀p,(f p).1=p.1/\(f p).2.1=p.2.1):∀{rs:List (List δ)} {off i:Nat} {ps:List PT},fO rs off ps->fO rs off (ps.modify i f)
 |[],_,i,[],_=>by
  cases i<;>exact trivial
 |[],_,_,_::_,h=>h.elim
 |_::_,_,_,[],h=>h.elim
 |r::rs,off,0,(s,n,p)::ps,h=>by
  have h1:=hf (s,n,p);show fO (r::rs) off (f (s,n,p)::ps);obtain⟨a,b,c⟩:=h;generalize f (s,n,p)=q at h1;obtain⟨q1,q2,q3⟩:=q;have e1:q1=s:=h1.1;have e2:q2=n:=h1.2;exact⟨e1.trans a,e2.trans b,c⟩
 |r::rs,off,i+1,(s,n,p)::ps,h=>⟨h.1,h.2.1,fO.mod hf (i:=i) h.2.2⟩
section
variable {prog:aq} {w:aC} {A:aZ} {E:γ->ε->Prop} {κ:bN} {s:ε} {Ok:δ->Prop} {L:δ->δ->Bool} {st:ah} {X0:List δ}
structure SS(κ:bN)(L:δ->δ->Bool)(X0:List δ)(st:ah)(rs:List (List δ))(T:List δ):Prop where
 kind:kindOf st=κ
 fail:failedOf st=none
 pend:fO rs 0 (pendingOf st).toList
 arr:(arrOf st).toList=rs.flatten++T
 cE:∀r∈rs,r.Pairwise (Le L)/\0<r.length
 perm:(rs.flatten++T).Perm X0
theorem SS.size{rs:List (List δ)}{T:List δ}(h:SS κ L X0 st rs T):(pendingOf st).size=rs.length:=by
 rw[←av];exact h.pend.len
theorem zQ{ps:Array PT}{p1 p2:List PT}{x y z:PT}{i:Nat}(e:ps.toList=p1++x::y::p2)(hi:p1.length=i):((ps.setIfInBounds i z).eraseIdxIfInBounds (i+1)).toList=p1++z::p2:=by
 subst hi;have e1:(ps.setIfInBounds p1.length z).toList=p1++z::y::p2:=by
  rw[jE,e,mq _ _ (ω _),kD];rfl
 rw[Array.toList_eraseIdxIfInBounds,e1,List.eraseIdx_append_of_length_le (by lia),show p1.length+1-p1.length=1 by lia];rfl
theorem EZ{rs:List (List δ)}{i:Nat}(h:i+1<rs.length):∃as r1 r2 bs,rs=as++r1::r2::bs/\as.length=i:=by
 refine⟨rs.take i,rs[i],rs[i+1],rs.drop (i+2),?_,by rw[bu];lia⟩;have h1:rs.drop i=rs[i]::rs.drop (i+1):=cB (by lia);have h2:rs.drop (i+1)=rs[i+1]::rs.drop (i+2):=cB h;rw[←h2,←h1,cc]
theorem vT(C:gI prog w A κ s Ok L)(O:fA L)(ok:∀x∈X0,Ok x){rs:List (List δ)}{T:List δ}(h:SS κ L X0 st rs T){i:Nat}(hi:i+1<rs.length)
  {Q:Bool->ah->ε->Prop} (q:∀(rs':List (List δ)) (st':ah),SS κ L X0 st' rs' T->rs'.length+1=rs.length->rs'.flatten.length=rs.flatten.length->Q true st' s):kasC (model prog w) A E (ip i) Q st s:=by
 obtain⟨as,r1,r2,bs,rfl,hal⟩:=EZ hi;obtain⟨p1,p2,ep,hp1,hp2⟩:=h.pend.cut;obtain⟨x,y,p3,rfl⟩:∃x y p3,p2=x::y::p3:=by
  match p2,hp2 with
  |[],hp2=>exact hp2.elim
  |[x],hp2=>obtain⟨a,b,c⟩:=x;exact hp2.2.2.elim
  |x::y::p3,_=>exact⟨x,y,p3,rfl⟩
 obtain⟨sa,na,pw⟩:=x;obtain⟨sb,nb,pw2⟩:=y;obtain⟨e1,e2,e3,e4,hp3⟩:=hp2;rw[oJ] at e1 e3 hp3;have hl1:p1.length=i:=by rw[hp1.len];exact hal
 have g1:(pendingOf st)[i]?=some (sa,na,pw):=by
  rw[←aE,ep,aN (by lia),show i-p1.length=0 by lia];rfl
 have g2:(pendingOf st)[i+1]?=some (sb,nb,pw2):=by
  rw[←aE,ep,aN (by lia),show i+1-p1.length=1 by lia];rfl
 have sr1:=h.cE r1 (by simp);have sr2:=h.cE r2 (by simp);have fe:(as++r1::r2::bs).flatten=as.flatten++r1++r2++bs.flatten:=by simp
 refine xh C O h.kind h.fail (P:=as.flatten) (R1:=r1) (R2:=r2) (S:=bs.flatten++T) g1 g2 (by rw[h.arr,fe];simp only[ψ]) e1.symm e2.symm e4.symm (by lia) (by lia) (by lia) (fun z hz=>ok z (h.perm.mem_iff.mp ?_)) sr1.1 sr2.1 fun M st' pM sM k' f' pe ae=>?_
 ·rw[fe];rcases ag.mp hz with hz|hz
  ·simp[hz]
  ·simp[hz]
 ·have lM:M.length=r1.length+r2.length:=by rw[pM.length_eq,ξ]
  have fe2:(as++M::bs).flatten=as.flatten++M++bs.flatten:=by simp
  refine q (as++M::bs) st' ⟨k',f',?_,by rw[ae,fe2];simp only[ψ],fun r hr=>?_,?_⟩ (by simp;lia) (by rw[fe2,fe];simp only[ξ];lia)
  ·rw[pe,zQ ep hl1];refine fO.app hp1 ⟨by lia,by lia,?_⟩;rw[oJ,lM,←nz];exact hp3
  ·rcases ag.mp hr with z|z
   ·exact h.cE r (aA _ z)
   ·rcases bf.mp z with rfl|z
    ·exact⟨sM,by lia⟩
    ·exact h.cE r (Ξ _ (ab _ (ab _ z)))
  ·refine bP ?_ h.perm;rw[fe2,fe,ψ as.flatten r1 r2];exact bC _ (bC _ (bU _ pM))
def zA(pw:Nat):SM (ForInStep (Option Unit×Unit)):=do
 let g ←get
 match (if (pendingOf g).size > 1 then (pendingOf g)[(pendingOf g).size-2]? else none) with
 |some (_,_,older)=>if older≤pw then pure (.done (none,())) else do
  let ok ←ip ((pendingOf g).size-2)
  if (!ok)=true then pure (.done (some (),())) else pure (.yield (none,()))
 |_=>pure (.done (none,()))
def iW(size lo n:Nat):SM (ForInStep (Option Unit×Nat)):=do
 let g ←get
 match (pendingOf g).back? with
 |some (s1,n1,_)=>do
  let t ←forIn [0:size] ((none,()):Option Unit×Unit) fun _ _=>zA (power' size (2*s1+n1) (2*s1+n1+n1+n) size)
  match t.1 with
  |some r=>pure (.done (some r,lo))
  |none=>do
   modify fun s=>setPending s ((pendingOf s).modify ((pendingOf s).size-1) fun x=>(x.1,x.2.1,power' size (2*s1+n1) (2*s1+n1+n1+n) size))
   modify fun s=>setPending s ((pendingOf s).push (lo,n,0))
   pure (.yield (none,lo+n))
 |_=>do
  modify fun s=>setPending s ((pendingOf s).push (lo,n,0))
  pure (.yield (none,lo+n))
theorem pd{α:Type}{m m':SM α}{Q:α->ah->ε->Prop}(e:m=m')(h:kasC (model prog w) A E m' Q st s):kasC (model prog w) A E m Q st s:=e▸h
theorem w4(C:gI prog w A κ s Ok L)(O:fA L)(ok:∀x∈X0,Ok x){rs:List (List δ)}{R T:List δ}(h:SS κ L X0 st rs (R++T))(hR:R.Pairwise (Le L)/\0<R.length){size lo:Nat}(hlo:lo=rs.flatten.length)
  {Q:ForInStep (Option Unit×Nat)->ah->ε->Prop} (q:∀(rs':List (List δ)) (st':ah),SS κ L X0 st' rs' T->lo+R.length=rs'.flatten.length->Q (.yield (none,lo+R.length)) st' s):kasC (model prog w) A E (iW size lo R.length) Q st s:=by
 have push:∀(rs1:List (List δ)) (st1:ah),SS κ L X0 st1 rs1 (R++T)->rs1.flatten.length=lo->Q (.yield (none,lo+R.length)) (setPending st1 ((pendingOf st1).push (lo,R.length,0))) s:=fun rs1 st1 h1 hl=>by
  have fe:(rs1++[R]).flatten=rs1.flatten++R:=by simp
  refine q (rs1++[R]) _ ⟨h1.kind,h1.fail,?_,?_,fun r hr=>?_,?_⟩ (by rw[fe,ξ];lia)
  ·show fO (rs1++[R]) 0 ((pendingOf st1).push (lo,R.length,0)).toList;rw[pF];exact fO.app h1.pend ⟨by lia,rfl,trivial⟩
  ·show (arrOf st1).toList=_;rw[h1.arr,fe,ψ]
  ·rcases ag.mp hr with z|z
   ·exact h1.cE r z
   ·rw[ao.mp z];exact hR
  ·rw[fe,ψ];exact h1.perm
 unfold iW;refine ν (gb ?_);cases hb:(pendingOf st).back? with
 |none=>exact ν (eQ (υ (push rs st h hlo.symm)))
 |some p=>
  obtain⟨s1,n1,p3⟩:=p;dsimp only;refine ν (ck ?_);refine de (fun k (b:Option Unit×Unit) st'=>b.1=none/\∃rs',SS κ L X0 st' rs' (R++T)/\rs'.flatten.length=lo) ?_ ?_ _ _ _ ⟨rfl,rs,h,hlo.symm⟩
  ·rintro⟨r,⟨⟩⟩ st' ⟨rfl,rs',h',hl'⟩;dsimp only;refine ν (eQ (ν (eQ (υ ?_))));refine push rs' _ ⟨h'.kind,h'.fail,?_,h'.arr,h'.cE,h'.perm⟩ hl';show fO rs' 0 ((pendingOf st').modify _ _).toList;rw[nF];exact fO.mod (f:=fun x=>(x.1,x.2.1,power' size (2*s1+n1) (2*s1+n1+n1+R.length) size)) (fun p=>⟨rfl,rfl⟩) h'.pend
  ·rintro xx k ⟨r,⟨⟩⟩ st' ⟨rfl,rs',h',hl'⟩;have fin:kasC (model prog w) A E (match (none:Option Unit) with
     |some r=>pure (ForInStep.done (some r,lo))
     |none=>do
      modify fun s=>setPending s ((pendingOf s).modify ((pendingOf s).size-1) fun x=>(x.1,x.2.1,power' size (2*s1+n1) (2*s1+n1+n1+R.length) size))
      modify fun s=>setPending s ((pendingOf s).push (lo,R.length,0))
      pure (.yield (none,lo+R.length)):SM (ForInStep (Option Unit×Nat))) Q st' s:=by
    dsimp only;refine ν (eQ (ν (eQ (υ ?_))));refine push rs' _ ⟨h'.kind,h'.fail,?_,h'.arr,h'.cE,h'.perm⟩ hl';show fO rs' 0 ((pendingOf st').modify _ _).toList;rw[nF];exact fO.mod (f:=fun x=>(x.1,x.2.1,power' size (2*s1+n1) (2*s1+n1+n1+R.length) size)) (fun p=>⟨rfl,rfl⟩) h'.pend
   unfold zA;refine ν (gb ?_);by_cases h2:(pendingOf st').size > 1
   ·rw[if_pos h2];have h3:=h'.size;obtain⟨p,hp⟩:∃p,(pendingOf st')[(pendingOf st').size-2]?=some p:=⟨_,gx (by lia)⟩;rw[hp];obtain⟨a1,a2,older⟩:=p;dsimp only;by_cases g:older≤power' size (2*s1+n1) (2*s1+n1+n1+R.length) size
    ·rw[if_pos g];exact υ ⟨rfl,fin⟩
    ·rw[if_neg g];refine ν (vT C O ok h' (by lia) fun rs2 st2 h4 _ h5=>?_);exact υ ⟨rfl,rfl,rs2,h4,by lia⟩
   ·rw[if_neg h2];exact υ ⟨rfl,fin⟩
end
end eK
namespace eK
open PySem PySem.W PyProof.Rows
section
variable {prog:aq} {w:aC} {A:aZ} {E:γ->ε->Prop} {κ:bN} {s:ε} {Ok:δ->Prop} {L:δ->δ->Bool} {st:ah} {X0:List δ}
theorem Bn{rs:List (List δ)}(h:∀r∈rs,0<r.length):rs.length≤rs.flatten.length:=by
 induction rs with
 |nil=>simp
 |cons r rs ih=>
  have h1:=h r Ω;have h2:=ih fun x hx=>h x (ab _ hx);rw[aI,cR,ξ];lia
theorem qD:∀(f n r:Nat),0<n->0<minRun' f n r
 |0,n,r,h=>by
  show 0<n+r;lia
 |f+1,n,r,h=>by
  rw[minRun'_succ];split
  ·lia
  ·exact qD f _ _ (by lia)
def xI(p:Array PT):Nat:=if (if p.size-2 > 0 then p[p.size-2-1]?.map (·.2.1) else none).any (· < (p[p.size-2+1]?.elim 0 (·.2.1))) then p.size-2-1 else p.size-2
theorem Bm(p:Array PT):xI p≤p.size-2:=by
 unfold xI;generalize (if p.size-2 > 0 then p[p.size-2-1]?.map (·.2.1) else none).any (· < (p[p.size-2+1]?.elim 0 (·.2.1)))=b;cases b with
 |true=>rw[if_pos rfl];lia
 |false=>rw[if_neg ai];lia
def zO:SM (ForInStep (Option Unit×Unit)):=do
 let g ←get
 if (pendingOf g).size≤1 then pure (.done (none,()))
 else do
  let ok ←ip (xI (pendingOf g))
  if (!ok)=true then pure (.done (some (),())) else pure (.yield (none,()))
def xK(size:Nat):SM Unit:=do
 let t ←forIn [0:size] ((none,()):Option Unit×Unit) fun _ _=>zO
 match t.1 with
 |some r=>pure r
 |none=>pure ()
theorem wb(C:gI prog w A κ s Ok L)(O:fA L)(ok:∀x∈X0,Ok x){rs:List (List δ)}(h:SS κ L X0 st rs [])
  {Q:Unit->ah->ε->Prop} (q:∀st',failedOf st'=none->(arrOf st').toList.Perm X0->(arrOf st').toList.Pairwise (Le L)->Q () st' s):kasC (model prog w) A E (xK X0.length) Q st s:=by
 have out:∀(rs:List (List δ)) (st':ah),SS κ L X0 st' rs []->rs.length≤1->Q () st' s:=fun rs st' h hl=>by
  have e:=h.arr;rw[cf] at e;have p:=h.perm;rw[cf] at p;refine q st' h.fail (by rw[e];exact p) ?_;rw[e]
  match rs,hl,h with
  |[],_,_=>exact fG
  |[r],_,h=>
   have:=(h.cE r Ω).1;simpa using this
 unfold xK;refine ν (ck ?_);have hl:=Bn fun r hr=>(h.cE r hr).2;have hz:=h.perm.length_eq;rw[cf] at hz;refine de (fun k (b:Option Unit×Unit) st'=>b.1=none/\∃rs,SS κ L X0 st' rs []/\rs.length≤k+1) ?_ ?_ _ _ _ ⟨rfl,rs,h,by rw[bo];lia⟩
 ·rintro⟨r,⟨⟩⟩ st' ⟨rfl,rs,h',hl'⟩;exact υ (out rs st' h' hl')
 ·rintro xx k ⟨r,⟨⟩⟩ st' ⟨rfl,rs,h',hl'⟩;unfold zO;refine ν (gb ?_);have hs:=h'.size;by_cases g:(pendingOf st').size≤1
  ·rw[if_pos g];exact υ ⟨rfl,υ (out rs st' h' (by lia))⟩
  ·rw[if_neg g];have:=Bm (pendingOf st');refine ν (vT C O ok h' (by lia) fun rs2 st2 h4 h5 _=>?_);exact υ ⟨rfl,rfl,rs2,h4,by lia⟩
theorem u7(C:gI prog w A κ s Ok L)(O:fA L)(ok:∀x∈X0,Ok x)(hk:kindOf st=κ)(hf:failedOf st=none)(hp:pendingOf st = #[])(ha:(arrOf st).toList=X0)(h0:0<X0.length)
  {Q:Unit->ah->ε->Prop} (q:∀st',failedOf st'=none->(arrOf st').toList.Perm X0->(arrOf st').toList.Pairwise (Le L)->Q () st' s):kasC (model prog w) A E sortRuns' Q st s:=by
 have qM:(arrOf st).size=X0.length:=by rw[←av,ha]
 rw[sortRuns'_eq];refine ν (gb ?_);dsimp only;rw[qM];have hmr:0<minRun' X0.length X0.length 0:=qD _ _ _ h0;generalize minRun' X0.length X0.length 0=mr at hmr;have init:SS κ L X0 st [] X0:=⟨hk,hf,by rw[hp];exact trivial,by rw[ha];rfl,nofun,dR _⟩;have sizeT:∀{st':ah} {rs:List (List δ)} {T:List δ},SS κ L X0 st' rs T->rs.flatten.length+T.length=X0.length:=fun h=>by
  have:=h.perm.length_eq;rwa [ξ] at this
 refine ν (ck ?_);refine de (fun k (b:Option Unit×Nat) st'=>b.1=none/\∃rs T,SS κ L X0 st' rs T/\b.2=rs.flatten.length/\T.length≤k) ?_ ?_ _ _ _ ⟨rfl,[],X0,init,rfl,by rw[bo];show X0.length≤X0.length-0;lia⟩
 ·rintro⟨r,lo⟩ st' ⟨rfl,rs,T,h,hlo,hT⟩;have:T=[]:=bM (Nat.le_zero.mp hT);subst this;dsimp only;refine pd (m':=xK X0.length) ?_ (wb C O ok h q);refine au (fy fun _ t=>?_) fun t=>?_
  ·refine au rfl fun g=>?_;rfl
  ·obtain⟨r,⟨⟩⟩:=t;cases r<;>rfl
 rintro xx k ⟨r,lo⟩ st' ⟨rfl,rs,T,h,hlo,hT⟩;have hlo:lo=rs.flatten.length:=hlo;have hT:T.length≤k+1:=hT;have hst:=sizeT h;dsimp only;by_cases hge:lo≥X0.length
 ·rw[if_pos hge];have:T=[]:=bM (by lia);subst this;refine υ ⟨rfl,?_⟩;dsimp only;refine pd (m':=xK X0.length) ?_ (wb C O ok h q);refine au (fy fun _ t=>?_) fun t=>?_
  ·refine au rfl fun g=>?_;rfl
  ·obtain⟨r,⟨⟩⟩:=t;cases r<;>rfl
 rw[if_neg hge];have okT:∀x∈T,Ok x:=fun x hx=>ok x (h.perm.mem_iff.mp (Ξ _ hx));have eqP:∀n,∀m:SM (ForInStep (Option Unit×Nat)),m=iW X0.length lo n->m=iW X0.length lo n:=fun _ _ e=>e;refine ν (vj C O (st0:=st') (P:=rs.flatten) (X:=T) (S:=[]) ⟨h.kind,h.fail,rfl,by rw[h.arr];simp⟩ hlo.symm (by lia) (by lia) okT fun R T' st2 hR=>?_);dsimp only
 -- a run that stands
 have stand:∀(R T':List δ) (st3:ah),Run κ L st' st3 rs.flatten T [] R T'->SS κ L X0 st3 rs (R++T'):=fun R T' st3 hR=>by
  refine⟨hR.at_.kind,hR.at_.fail,by rw[hR.at_.pend];exact h.pend,by rw[hR.at_.arr];simp,h.cE,?_⟩;exact bP (bU _ hR.perm) h.perm
 have go:∀(R T':List δ) (st3:ah),Run κ L st' st3 rs.flatten T [] R T'->kasC (model prog w) A E (iW X0.length lo R.length) (fun r st' s'=>s'=s/\∃rs',r=.yield (none,lo+R.length)/\SS κ L X0 st' rs' T'/\lo+R.length=rs'.flatten.length/\T'.length≤k) st3 s:=fun R T' st3 hR=>by
  refine w4 C O ok (stand R T' st3 hR) ⟨hR.cE,hR.pos⟩ hlo fun rs' st4 h4 h5=>⟨rfl,rs',rfl,h4,h5,?_⟩;have:=hR.perm.length_eq;have:=hR.pos;rw[ξ] at *;lia
 by_cases hlt:R.length<mr
 ·rw[if_pos hlt];refine ν (il (iH ?_));have hl:=hR.perm.length_eq;rw[ξ] at hl;refine ν (sX C O hR hlo.symm (n:=min (X0.length-lo) mr) (by lia) (by lia) okT fun R3 T3 st3 hR3 hl3=>?_);rw[if_neg (by decide),←hl3];refine dA (pd (m':=iW X0.length lo R3.length) ?_ (go R3 T3 st3 hR3)) ?_
  ·refine au rfl fun g=>?_;cases hb:(pendingOf g).back? with
   |none=>rfl
   |some p=>
    obtain⟨s1,n1,p3⟩:=p;refine au (fy fun _ t=>?_) fun t=>?_
    ·refine au rfl fun g=>?_;cases (if (pendingOf g).size > 1 then (pendingOf g)[(pendingOf g).size-2]? else none)<;>rfl
    ·obtain⟨r,⟨⟩⟩:=t;cases r<;>rfl
  ·rintro r st4 s4 ⟨rfl,rs',rfl,h4,h5,h6⟩;exact⟨rfl,rfl,rs',T3,h4,h5,h6⟩
 ·rw[if_neg hlt];refine dA (pd (m':=iW X0.length lo R.length) ?_ (go R T' st2 hR)) ?_
  ·refine au rfl fun g=>?_;cases hb:(pendingOf g).back? with
   |none=>rfl
   |some p=>
    obtain⟨s1,n1,p3⟩:=p;refine au (fy fun _ t=>?_) fun t=>?_
    ·refine au rfl fun g=>?_;cases (if (pendingOf g).size > 1 then (pendingOf g)[(pendingOf g).size-2]? else none)<;>rfl
    ·obtain⟨r,⟨⟩⟩:=t;cases r<;>rfl
  ·rintro r st4 s4 ⟨rfl,rs',rfl,h4,h5,h6⟩;exact⟨rfl,rfl,rs',T',h4,h5,h6⟩
end
end eK
namespace eK
open PySem PySem.W PyProof.Rows PySem.Calls cL
section
variable {α:Type} {lt:α->α->Bool} {f:α->γ} {ps:List α}
def oB(f:α->γ)(ps:List α)(x:δ):Option α:=ps.find? fun p=>f p==x.1
def Lk(lt:α->α->Bool)(f:α->γ)(ps:List α)(x y:δ):Bool:=match oB f ps x,oB f ps y with
 |some p,some q=>lt p q
 |none,some _=>true
 |_,none=>false
theorem GQ(O:oE lt):fA (Lk lt f ps):=by
 constructor
 ·intro x y h;unfold Lk at h ⊢;cases hx:oB f ps x with
  |none=>
   rw[hx] at h;cases hy:oB f ps y with
   |none=>rfl
   |some q=>rfl
  |some p=>
   rw[hx] at h;cases hy:oB f ps y with
   |none=>rw[hy] at h;cases h
   |some q=>
    rw[hy] at h;exact O.gU _ _ h
 ·intro x y z h1 h2;have h1:Lk lt f ps y x=false:=h1;have h2:Lk lt f ps z y=false:=h2;show Lk lt f ps z x=false;unfold Lk at h1 h2 ⊢;cases hx:oB f ps x with
  |none=>
   cases hz:oB f ps z<;>rfl
  |some p=>
   rw[hx] at h1;cases hy:oB f ps y with
   |none=>rw[hy] at h1;cases h1
   |some q=>
    rw[hy] at h1 h2;cases hz:oB f ps z with
    |none=>rw[hz] at h2;cases h2
    |some r=>
     rw[hz] at h2;exact O.dz _ _ _ h1 h2
theorem zR(inj:∀p∈ps,∀q∈ps,f p=f q->p=q){p:α}(hp:p∈ps):oB f ps (f p,f p)=some p:=by
 unfold oB;cases h:ps.find? fun q=>f q==f p with
 |none=>
  have:=List.find?_eq_none.mp h p hp;rw[beq_self_eq_true] at this;exact absurd rfl this
 |some q=>
  have h1:=List.find?_some h;have h2:=List.mem_of_find?_eq_some h;rw[inj q h2 p hp (eq_of_beq h1)]
theorem CJ(inj:∀p∈ps,∀q∈ps,f p=f q->p=q){p q:α}(hp:p∈ps)(hq:q∈ps):Lk lt f ps (f p,f p) (f q,f q)=lt p q:=by
 unfold Lk;rw[zR inj hp,zR inj hq]
end
section
variable {prog:aq} {w:aC} {A:aZ} {E:γ->ε->Prop} {s:ε}
theorem tK{α β:Type}(f:α->β):∀ps:List α,(ps.map f).zip (ps.map f)=ps.map fun p=>(f p,f p)
 |[]=>rfl
 |p::ps=>by
  rw[dD,jr,tK f ps];rfl
theorem sS{α:Type}{lt:α->α->Bool}{f:α->γ}{κ:bN}(O:oE lt){a:ζ}{n:Nat}{ps:List α}{P:PySem.Fin->ε->Prop}(ho:s.heap.get? a=some (seqObj "list" (ps.map f).toArray n))(inj:∀p∈ps,∀q∈ps,f p=f q->p=q)
  (hk:∀h',(∀b o,b≠a->s.heap.get? b=some o->h'.get? b=some o)->(∀(Q:bN->ε->Prop) (E':γ->ε->Prop),Q κ { s with heap:=h' }->Ψ (model prog w) A (keyKind' (ps.map f).toArray) Q E' { s with heap:=h' }) ∧
   ∀p∈ps,∀q∈ps,∀(Q:Bool->ε->Prop) (E':γ->ε->Prop),Q (lt p q) { s with heap:=h' }->Ψ (model prog w) A (keyLt' κ (f p) (f q)) Q E' { s with heap:=h' }) (h2:2≤ps.length) (hz:ps.length≤1000000)
  (h:∀qs h' c,kv lt ps qs->h'.get? a=some (seqObj "list" (qs.map f).toArray c)->(∀b o,b≠a->s.heap.get? b=some o->h'.get? b=some o)->P (.done (.ret .none)) { s with heap:=h' }):
  Ψ (model prog w) A (mB.«list.sort» ⟨[.ref a],[]⟩) P E s:=by
 have ha:a<s.heap.objs.size:=aa ho;have s1:=dI s.heap a (aO fun _=>(#[]:Array γ));obtain⟨e1,ho1⟩:∃e1,(s.heap.update a (aO fun _=>(#[]:Array γ))).get? a=some (seqObj "list" #[] e1):=⟨_,et ho fun _=>#[]⟩;have hlz:ps.length≤aj:=aD hz (by decide);generalize hvs:(ps.map f)=vs at ho;have hlen:vs.length=ps.length:=by rw[←hvs,θ]
 have hu3:∀b o,b≠a->s.heap.get? b=some o->(((s.heap.update a (aO fun _=>(#[]:Array γ))).push (seqObj "tuple" vs.toArray 0)).push (seqObj "list" #[] 0)).get? b=some o:=fun b o hb e=>
  ρ _ (ρ _ ((s1.2 b hb).trans e))
 have ho3:(((s.heap.update a (aO fun _=>(#[]:Array γ))).push (seqObj "tuple" vs.toArray 0)).push (seqObj "list" #[] 0)).get? a=some (seqObj "list" #[] e1):=ρ _ (ρ _ ho1);rw[lb];refine Θ (iJ ho rfl ?_);refine Θ (fj ho rfl ?_ (by rw[ο,hlen];exact hlz) (aK _));refine Θ (g6 ho1 rfl ?_);refine Θ (ml ?_ (by show vs.length≤_;rw[hlen];exact hlz));refine Θ (gh ?_ (aK _));refine eE ?_;show Ψ (model prog w) A _ P E { s with heap:=((s.heap.update a (aO fun _=>(#[]:Array γ))).push (seqObj "tuple" vs.toArray 0)).push (seqObj "list" #[] 0)};generalize ((s.heap.update a (aO fun _=>(#[]:Array γ))).push (seqObj "tuple" vs.toArray 0)).push (seqObj "list" #[] 0)=h3 at hu3 ho3 ⊢;obtain⟨hk1,hk2⟩:=hk h3 hu3;dsimp only;have hn2:¬vs.toArray.size<2:=by rw[ο];lia
 rw[if_neg hn2,if_neg hn2];refine Θ ?_;rw[←hvs];refine hk1 _ _ ?_;have C:gI prog w A κ { s with heap:=h3 } (fun x=>∃p∈ps,x=(f p,f p)) (Lk lt f ps):=by
  rintro x y ⟨p,hp,rfl⟩ ⟨q,hq,rfl⟩ Q E' hQ;rw[CJ inj hp hq] at hQ;exact hk2 p hp q hq Q E' hQ
 have run:=u7 (E:=E) (Q:=fun _ st' s'=>s'={ s with heap:=h3 }/\∃qs:List α,kv lt ps qs/\failedOf st'=none/\(arrOf st').map (·.2)=(qs.map f).toArray) (X0:=ps.map fun p=>(f p,f p)) (st:=m8 κ ((ps.map f).toArray.zip (ps.map f).toArray) #[] 7 none) C (GQ O) (fun x hx=>by obtain⟨p,hp,rfl⟩:=bj.mp hx;exact⟨p,hp,rfl⟩) rfl rfl rfl
  (by show ((ps.map f).toArray.zip (ps.map f).toArray).toList=_;rw[Array.toList_zip];exact tK f ps) (by rw[θ];lia) fun st' hf hp hs=>⟨rfl,?_⟩
 ·refine Θ (cZ run ?_ fun _ _ e=>e);rintro⟨⟨⟩,st'⟩ s' ⟨rfl,qs,hS,hf,hout⟩;dsimp only;have qM:(cY (qs.map f)).size=ps.length:=by rw[ο,θ,hS.perm.length_eq]
  rw[hout];have s2:=dI h3 a (aO fun _=>cY (qs.map f));obtain⟨c2,hc2⟩:∃c2,(h3.update a (aO fun _=>cY (qs.map f))).get? a=some (seqObj "list" (cY (qs.map f)) c2):=⟨_,et ho3 fun _=>cY (qs.map f)⟩;refine Θ (g6 ho3 rfl ?_);refine Θ (fj ho3 rfl ?_ (aK _) (aD (oP qM) (Nat.le_succ_of_le hlz)));rw[hf];simp only[bne_self_eq_false,gK,if_false];exact bt (h qs _ c2 hS hc2 fun b o hb e=>(s2.2 b hb).trans (hu3 b o hb e))
 ·obtain⟨qs,pq,eq⟩:=L3.lq hp rfl;refine⟨qs,⟨pq,?_⟩,hf,?_⟩
  ·rw[eq,dv] at hs;exact eZ (fun {x y} hx hy hle=>by
    have hle:Lk lt f ps (f y,f y) (f x,f x)=false:=hle;rwa [CJ inj (pq.mem_iff.mp hy) (pq.mem_iff.mp hx)] at hle) hs
  ·apply Array.toList_inj.mp;rw[Array.toList_map,eq,bL];rfl
theorem wN{α:Type}{lt:α->α->Bool}{f:α->γ}{κ:bN}(O:oE lt){l:ζ}{ps:List α}{Q:γ->ε->Prop}(inj:∀p∈ps,∀q∈ps,f p=f q->p=q)
  (hk:∀s':ε,2≤ps.length->(∀b o,s.heap.get? b=some o->s'.heap.get? b=some o)->(∀(Q:bN->ε->Prop) (E':γ->ε->Prop),Q κ s'->Ψ (model prog w) A.in1.in1 (keyKind' (ps.map f).toArray) Q E' s') ∧
   ∀p∈ps,∀q∈ps,∀(Q:Bool->ε->Prop) (E':γ->ε->Prop),Q (lt p q) s'->Ψ (model prog w) A.in1.in1 (keyLt' κ (f p) (f q)) Q E' s') (hz:ps.length≤1000000)
  (uJ:∀(R:List γ->ε->Prop),(∀s',nc [] (fun x y=>y=x) s s'->R (ps.map f) s')->Ψ (model prog w) A.in1 (collect (.ref l)) R E s)
  (h:∀qs s' c D,kv lt ps qs->s.heap.get? D=none->s'.heap.get? D=some (seqObj "list" (qs.map f).toArray c)->nc [] (fun x y=>y=x) s s'->Q (.ref D) s'):
  Ψ (model prog w) A (call (.builtin "sorted") [.ref l]) Q E s:=by
 refine jV kind_sorted plain_sorted entry_sorted (args_sorted1 _) ?_;unfold mB.«sorted»;refine Θ (m:=checkCount "sorted" 1 1 _) (bt ?_);refine Θ (uJ _ fun s1 hm=>?_);refine Θ (gh ?_ (by rw[θ];exact aD hz (by decide)));have hoL:(s1.heap.push (seqObj "list" (ps.map f).toArray 0)).get? s1.heap.objs.size=some (seqObj "list" (ps.map f).toArray 0):=aQ _ rfl;have keep0:∀b o,s.heap.get? b=some o->s1.heap.get? b=some o:=fun b o e=>hm.heap b o (fun z=>nomatch z) e;have hfr:s.heap.get? s1.heap.objs.size=none:=by
  cases hz:s.heap.get? s1.heap.objs.size with
  |none=>rfl
  |some o=>exact absurd (aa (keep0 _ _ hz)) (dC _)
 have keep:∀b o,s.heap.get? b=some o->(s1.heap.push (seqObj "list" (ps.map f).toArray 0)).get? b=some o:=fun b o e=>ρ _ (keep0 b o e);show Ψ _ _ _ _ _ { s1 with heap:=s1.heap.push (seqObj "list" (ps.map f).toArray 0)};refine Θ (eE (wpAny_call_entry slot_list_sort ⟨_,hoL,rfl⟩ entry_list_sort ?body (args_list_sort _)));have fin:∀qs h' c,kv lt ps qs->h'.get? s1.heap.objs.size=some (seqObj "list" (qs.map f).toArray c)->(∀b o,b≠s1.heap.objs.size->(s1.heap.push (seqObj "list" (ps.map f).toArray 0)).get? b=some o->h'.get? b=some o)->Q (.ref s1.heap.objs.size) { s1 with heap:=h' }:=fun qs h' c hS e kk=>
  h qs _ c _ hS hfr e ⟨fun b o _ e1=>kk b o (bK (aa (keep0 b o e1))) (keep b o e1),hm.gens,hm.drawn,hm.os,hm.toks⟩
 case body=>
  by_cases h2:2≤ps.length
  ·refine sS O (s:={ s1 with heap:=s1.heap.push (seqObj "list" (ps.map f).toArray 0)}) hoL inj (fun h' kk=>hk { s1 with heap:=h' } h2 fun b o e=>kk b o (bK (aa (keep0 b o e))) (keep b o e)) h2 hz fun qs h' c hS e kk=>?_;exact⟨_,rfl,bt ⟨_,rfl,fin qs h' c hS e kk⟩⟩
  ·refine nr (s:={ s1 with heap:=s1.heap.push (seqObj "list" (ps.map f).toArray 0)}) hoL (by rw[θ];lia) fun h' c e kk=>?_;have hS:kv lt ps ps:=⟨.refl _,by
    rcases ps with _|⟨x,_|⟨y,r⟩⟩
    ·exact .nil
    ·exact bx _ _
    ·simp at h2⟩
   exact⟨_,rfl,bt ⟨_,rfl,fin ps h' c hS e kk⟩⟩
end
end eK
namespace L3
open PySem PySem.Spec PyProof.Rows L2 My
section
variable {X:Cx} {K:η} {e:μ} {es:List μ} {t:cT} {pos p:aG}
theorem sV(hc:X.calm=true)(hu:X.A.units+64<cLine):iG X (.builtin "sorted") (fun vs H Q=>∃(a:ζ) (xs:List V) (nss:List (List (List Int))),vs=[.ref a]/\fo X.K H a xs/\aB X.K H (nss.map gW) xs/\nss.length≤1000/\(∀ns∈nss,ns≠[]) ∧
  ∀(p:ζ) (mss:List (List (List Int))) (ys:List V),H p=none->mss.Perm nss->kX mss->aB X.K H (mss.map gW) ys->Q (.ref p) (upd H p (.lst ys))):=by
 intro pins s σ H vs us Q I r h;obtain⟨a,xs,nss,rfl,hl,hv,hz,hne,q⟩:=h;obtain⟨u,rfl,ru⟩:=vals1 r;cases ru;obtain⟨its,rv,pl,_⟩:=I.list hl;obtain⟨ps,e1,e2,e3,e4⟩:=sq I hv rv;subst e3;have hlen:ps.length=nss.length:=by rw[←e1,θ]
 have inj:∀p∈ps,∀q∈ps,cL.CT p=cL.CT q->p=q:=fun p hp q hq e=>by
  obtain⟨k,b⟩:=p;obtain⟨k',b'⟩:=q;have e:cu b=cu b':=e;injection e with e;subst e;have ek:k=k':=(e4 _ hp).2.inj (e4 _ hq).2;rw[ek]
 refine eK.wN (κ:=tuples' false) (f:=cL.CT) (ps:=ps) cL.Jm inj (fun s' h2 kk=>?_) (by lia) (fun R hR=>?_) fun qs s' c D' hS hn hD hm=>?_
 ·have hk':∀p∈ps,hX.jA X.prog X.w s'.heap p.1 p.2/\p.1≠[]:=fun p hp=>⟨hX.Bh kk (e4 p hp).2,hne _ (by rw[←e1];exact bj.mpr ⟨p,hp,rfl⟩)⟩;exact⟨fun Q E q=>cL.Bb (fun z=>by rw[z] at h2;simp at h2) hk' q,fun p hp q hq Q E hq'=>cL.zF (by show X.A.units+1+1+16<cLine;lia) (hk' p hp).1 (hk' q hq).1 hq'⟩
 ·refine collect_list pl.isList (hR _ ⟨fun b o _ e=>?_,rfl,rfl,rfl,ω _⟩) (by rw[θ,cI];lia);have hlt:=aa e;show ((s.heap.push (seqObj "list" #[] 0)).update s.heap.objs.size _).get? b=some o;rw[fB _ _ (oK hlt)];exact ρ _ e
 ·have e:s'={ s with heap:=s'.heap,toks:=s'.toks }:=by
   cases s';cases s;have h1:=hm.gens;have h2:=hm.drawn;have h3:=hm.os;simp only at h1 h2 h3;subst h1 h2 h3;rfl
  rw[e];refine⟨.ref D',_,Inv.CL I (o:=.lst (qs.map fun p=>.ref p.2)) (fun b u z=>hm.heap b u (fun y=>nomatch y) z) hn ?_,rfl,?_⟩
  ·refine⟨?_,_,c,qh qs,hD⟩;rw[θ,hS.perm.length_eq,cI];lia
  ·refine q _ (qs.map (·.1)) _ (Inv.xH I hn) (by rw[←e1];exact hS.perm.map _) ?_ (qK fun p hp=>(e4 p (hS.perm.mem_iff.mp hp)).1);exact dv.mpr hS.rise
def ix:C3:=fun ds G Q=>match ds with
 |[.obj a]=>∃nss:List (List (List Int)),G a=some (.lst (nss.map gW))/\nss.length≤1000/\(∀ns∈nss,ns≠[])/\∀(p:ζ) (mss:List (List (List Int))) (G':Gp),eP G p (.lst (mss.map gW)) G'->mss.Perm nss->kX mss->Q (.obj p) G'
 |_=>False
theorem xq:oF K ix (fun vs H Q=>∃(a:ζ) (xs:List V) (nss:List (List (List Int))),vs=[.ref a]/\fo K H a xs/\aB K H (nss.map gW) xs/\nss.length≤1000/\(∀ns∈nss,ns≠[]) ∧
  ∀(p:ζ) (mss:List (List (List Int))) (ys:List V),H p=none->mss.Perm nss->kX mss->aB K H (mss.map gW) ys->Q (.ref p) (upd H p (.lst ys))):=fun ds vs G H Q3 Q h RG q k=>by
 rcases ds with _|⟨d,_|⟨d2,ds⟩⟩
 ·exact q.elim
 ·obtain⟨v,rfl,hv⟩:=oo h;cases d with
  |obj a=>
   obtain⟨nss,e1,hz,hne,q⟩:=q;obtain⟨xs,e2,e3⟩:=RG a _ e1;rw[eF hv];exact⟨a,xs,nss,rfl,.of e2,e3,hz,hne,fun p mss ys hp h1 h2 h3=>k _ _ (.obj p) _ oh (.jN hp) (RG.uz hp h3) (q p mss _ (.mk' (RG.free hp)) h1 h2)⟩
  |_=>exact q.elim
 ·cases d<;>exact q.elim
theorem nW(hu:X.A.units+64<cLine)(hm:X.mg "sorted" = none)(ha:QA X (e::es) t)(hc:X.calm=true:=by rfl)(hg:Gl X "sorted":=by rfl)(he:notStar e=true:=by rfl)(hpl:es.all notStar=true:=by rfl):
  QE X (.Call (.Name "sorted" p) (e::es) [] pos) (fM ix t):=⟨rV xq (iX (sV hc hu) hg hm rfl ha.of (he:=bW he) (hpl:=fv hpl))⟩
end
end L3
namespace L3
open PySem PySem.Spec PyProof.Rows L2
section
variable {X:Cx} {a:μ} {ta:TA} {p p2 pos pos2:aG}
def JZ(ta:TA):TE:=fun σ H Q=>ta σ H fun vs H1=>∃j:Int,vs=[.int j]/\∀r,H1 r=none->Q (.ref r) (upd H1 r (.ext (wR 0 j r)))
theorem xb(hg:Gl X "range")(hm:X.mg "range" = none)(ha:PA X [a] ta)(hs:bw [a] X.env=[(false,eval a X.env)]):PE X (.Call (.Name "range" p) [a] [] pos) (JZ ta):=by
 intro pins s σ H Q I h;refine Call_ (ki I hg hm m6 (cU (bG (ha pos pins s σ H _ I h) fun us s1 ⟨vs,H1,I1,r1,q1⟩=>?_) (by rw[hs];rfl) rfl));obtain⟨j,rfl,q⟩:=q1;cases r1 with
 |cons r rr=>
  cases rr;obtain⟨t,rfl⟩:=r;refine call_range_1 ?_;refine⟨.ref s1.heap.objs.size,upd H1 s1.heap.objs.size (.ext (wR 0 j s1.heap.objs.size)),I1.laid (fun b u e=>ρ _ e) (ω _) ⟨⟨_,_,_,pR ..⟩,⟨_,aQ _ rfl⟩,fun h1 h2 ⟨t,u,v,e⟩ k=>⟨t,u,v,k _ e⟩⟩,rfl,q _ (I1.bT.fresh (ω _))⟩
end
section
variable {X:Cx} {a:μ} {ta:cT} {p p2 pos pos2:aG}
def xZ(ta:cT):aL:=fun τ G Q=>ta τ G fun ds G1=>match ds with
 |[.int j]=>(0≤j/\j≤1000)/\∀p G2,eP G1 p (.lst (gk 0 j.toNat)) G2->Q (.obj p) G2
 |_=>False
theorem xX(hc:X.calm=true)(hm:X.mg "range" = none)(hml:X.mg "list" = none)(ha:jn X [a] ta)(hg:Gl X "range":=by rfl)(hgl:Gl X "list":=by rfl)(hs:notStar a=true:=by rfl):
  b0 X (.Call (.Name "list" p) [.Call (.Name "range" p2) [a] [] pos2] [] pos) (xZ ta):=
 fb (oe (sW hc) hgl hml boot_list (lS (xb hg hm ha (bW hs)) qB)) fun σ H Q ⟨τ,G,Q3,RS,RG,h,k⟩=>⟨τ,G,_,RS,RG,h,fun vs H1 ds G1 h1 S1 R1 q1=>by
  rcases ds with _|⟨d,_|⟨d2,ds⟩⟩
  ·exact q1.elim
  ·cases d with
   |int j=>
    obtain⟨v,r,rfl,z1,z2⟩:=h1.inv;cases z2.iD;rw[cF z1];obtain⟨q1,q⟩:=q1;refine⟨j,rfl,fun r hr=>⟨r,0,j,rfl,cw,⟨by decide,by decide,by lia,by lia⟩,by lia,fun l hl=>?_⟩⟩;have RG2:=R1.laid (o:=.ext (wR 0 j r)) hr;rw[Int.sub_zero];refine k _ _ (.obj l) _ oh ((S1.trans (.laid hr)).trans (.jN hl)) (RG2.uz hl ?_) (q l _ (.mk' (RG2.free hl)));unfold gk;rw[show ((aS j.toNat).map fun k:Nat=>D.int (0+(k:Int)))=((aS j.toNat).map fun k:Nat=>0+(k:Int)).map D.int by rw[bL];rfl];rw[show ((aS j.toNat).map fun k:Nat=>V.int (0+(k:Int)))=((aS j.toNat).map fun k:Nat=>0+(k:Int)).map V.int by rw[bL];rfl];exact aB.ints _
   |_=>exact q1.elim
  ·cases d<;>exact q1.elim⟩
theorem pJ(hc:X.calm=true)(hm:X.mg "range" = none)(hml:X.mg "list" = none)(ha:QA X [a] ta)(hg:Gl X "range":=by rfl)(hgl:Gl X "list":=by rfl)(hs:notStar a=true:=by rfl):
  QE X (.Call (.Name "list" p) [.Call (.Name "range" p2) [a] [] pos2] [] pos) (xZ ta):=⟨xX hc hm hml ha.of hg hgl hs⟩
end
end L3
namespace My
open PySem L2 L3
def fw(n:Nat):List Int:=(aS n).map fun x:Nat=>(x:Int)
def mG(n:Nat):List Int:=(aS n).map fun k:Nat=>((k+1:Nat):Int)
def own(n:Nat)(last step:Int):List Int:=(fw n).filter fun x=>(x-last)%step==0
def fits(n:Nat)(left:List Int)(last step:Int):Bool:=((n:Int)%step==0)&&(own n last step).all fun x=>left.contains x
def rest(n:Nat)(left:List Int)(last step:Int):List Int:=left.filter fun x=>!((own n last step).contains x)
def hU(n:Nat):Nat->List Int->List (List ay)
 |0,_=>[]
 |f+1,left=>match left.getLast? with
  |none=>[[]]
  |some last=>(mG n).flatMap fun step=>if fits n left last step then (hU n f (rest n left last step)).map (fun c=>c++[((step,last%step):ay)]) else []
def rR(c:ay):List ay->List ay
 |[]=>[c]
 |d::ds=>if iO c d then c::d::ds else d::rR c ds
def kQ:List ay->List ay
 |[]=>[]
 |c::cs=>rR c (kQ cs)
def iP(n:Nat):List (List ay):=hU n 40 (fw n)
def tj(n:Nat):Bool:=((iP n).map kQ).isPerm ((raw n).map kQ)
end My
namespace My
open PySem L2 L3
def iu(k:Nat):eO:=fun ds G Q=>∃(n:Nat) (p:ζ) (left:List Int),ds=[.int n,.obj p]/\G p=some (.lst (left.map D.int))/\(1≤n/\n≤16)/\left.length≤16/\(left.length<k/\k≤40)/\(∀x∈left,0≤x/\x<(n:Int))/\(hU n k left).length≤1000/\∀q G',eP G q (.lst ((hU n k left).map bZ)) G'->Q (.obj q) G'
theorem Gq:∀ds G Q,¬iu 0 ds G Q:=by
 rintro ds G Q ⟨_,_,_,_,_,_,_,h,_⟩;lia
def Aq(n:Nat):aP:=oW (eM nV (Γ 2) (Φ (fm ["more"] [3,1] (gX (bR (iu n) (Φ (Γ 0) (Φ (Γ 5) (aH))))) (hName 0) (fu) (br hE (Γ 0) (kq (Φ (kq (Φ (Γ 1) (Φ (br gs (br fZ (Γ 2) (CU tq (eC (.int 1)))) (Γ 1)) (aH)))) (aH))))) (aH)))
def Ar(n:Nat):aP:=ke (cK (br (fx false) (fm ["number"] [1] (gX (Γ 4)) (hName 0) (cK (br (pY true) (Γ 0) (Γ 1))) (Γ 0)) (lu (aH)))) (b7 (da (fm ["number"] [4] (gX (Γ 1)) (hName 0) (cK (br (pY true) (Γ 0) (Γ 1))) (Γ 0)) (hName 5)) (Aq n)) (fY)
def tQ(n:Nat):aP:=ke (cK (br (fx false) (br gs (Γ 0) (Γ 3)) (eC (.int 0)))) (b7 (da (fm ["number"] [1,3] (mP (Φ (Γ 0) (aH))) (hName 0) (cK (br (fx false) (br gs (br tp (Γ 0) (br fZ (Γ 1) (CU tq (eC (.int 1))))) (Γ 2)) (eC (.int 0)))) (Γ 0)) (hName 4)) (Ar n)) (fY)
def yH(n:Nat):aP:=cP (Γ 2)
def As(n:Nat):aP:=b7 (kf (pf (Φ (eC (.int 1)) (Φ (br hE (Γ 0) (eC (.int 1))) (aH)))) (hName 3) ((tQ n))) (yH n)
def Au(n:Nat):aP:=b7 (da (lu (aH)) (hName 2)) (As n)
def yI(n:Nat):aP:=b7 (ke (cK (br (fx false) (Γ 1) (lu (aH)))) (cP (lu (Φ (kq (aH)) (aH)))) (fY)) (Au n)
theorem rS(n:Nat):∀(k:Nat) (left:List Int),∀c∈hU n k left,c.length≤k
 |0,left,c,h=>nomatch h
 |k+1,left,c,h=>by
  unfold hU at h;split at h
  ·rw[ao.mp h];exact aK _
  ·obtain⟨st,_,h⟩:=hZ.mp h;split at h
   ·obtain⟨c',h',rfl⟩:=bj.mp h;have:=rS n k _ c' h';rw[ξ];show c'.length+1≤k+1;lia
   ·cases h
theorem IY(n:Nat):gk 1 n=(mG n).map D.int:=by
 unfold gk mG;rw[bL];refine b9 fun k _=>?_;show D.int (1+(k:Int))=D.int ((k+1:Nat):Int);rw[show (1:Int)+(k:Int)=((k+1:Nat):Int) by lia]
theorem Dv{n:Nat}{x:Int}(h:x∈mG n):0<x:=by
 obtain⟨k,_,rfl⟩:=bj.mp h;lia
theorem pK{left:List Int}{last:Int}(h:left.getLast?=some last):iQ (left.map D.int) (-1)=some (.int last):=by
 obtain⟨ys,rfl⟩:=List.getLast?_eq_some_iff.mp h;unfold iQ nt;rw[if_neg (by decide),if_pos (by rw[θ,ξ];simp;lia)];have e:((-1:Int)+(((ys++[last]).map D.int).length:Nat)).toNat=ys.length:=by
  rw[θ,ξ];simp;lia
 rw[e,cV];show (List.map D.int ys++List.map D.int [last])[ys.length]?=_;rw[aN (by rw[θ];exact ω _),θ,kD];rfl
theorem Bo{n k:Nat}{D3:jQ}{G:Gp}{p p2:ζ}{left:List Int}{last step:Int}{fs:List (List ay)}{x4 x5:Option D}(hn:1≤n/\n≤16)(hl:left.length≤16)(hk:left.length≤k/\k≤40)(hr:∀x∈left,0≤x/\x<(n:Int))(hp:G p=some (.lst (left.map D.int)))(hp2:G p2=some (.lst (fs.map bZ)))(hne:p≠p2)(hlast:left.getLast?=some last)(hs:0<step)
  (hz:fs.length+(if fits n left last step then (hU n k (rest n left last step)).map (fun c=>c++[((step,last%step):ay)]) else []).length≤1000)
  (q:∀G' y4 y5,(∀b o,b≠p2->G b=some o->G' b=some o)->G' p2=some (.lst ((fs++if fits n left last step then (hU n k (rest n left last step)).map (fun c=>c++[((step,last%step):ay)]) else []).map bZ))->D3.nx [some (.int (n:Nat)),some (.obj p),some (.obj p2),some (.int step),y4,y5] G'):
  tQ k D3 [some (.int (n:Nat)),some (.obj p),some (.obj p2),some (.int step),x4,x5] G:=by
 refine⟨hs,_,_,rfl,rfl,aK _,fun g=>?_,fun g=>?_⟩
 rotate_left
 ·have g':(((n:Int)%step)==0)=false:=g;have hf:fits n left last step=false:=by
   unfold fits;rw[g',mC]
  rw[hf] at q;exact q G _ _ (fun b o _ e=>e) (by simpa using hp2)
 have g':(((n:Int)%step)==0)=true:=g
 -- own
 refine⟨⟨by lia,by lia⟩,?_,?_⟩
 ·rw[pI];exact cQ (by lia)
 rw[cS,pU];refine eh (fun τ=>∃x,τ=[x,some (.obj p),some (.int step)]) D.int (fun x=>(x-last)%step==0) D.int (G:=G) trivial (fw n) [] _ ⟨none,rfl⟩ ?_ ?_
 ·rintro x hm τ K1 K2 ⟨_,rfl⟩ g1 g2;exact⟨_,_,hp,pK hlast,hs,_,_,rfl,rfl,aK _,fun g=>g1 g _ ⟨_,rfl⟩,fun g=>g2 g _ ⟨_,rfl⟩⟩
 rw[bF];intro p4 G4 n4;have e4:G4 p4=some (.lst ((own n last step).map D.int)):=n4.at_;have hp4:=n4.sub _ _ hp;have ol:(own n last step).length≤16:=by
  unfold own;have:=mv (fun x=>(x-last)%step==0) (fw n);unfold fw at this;rw[θ,dw] at this;unfold fw;lia
 -- what is not left
 refine⟨_,e4,by rw[θ];exact cQ (by lia),?_⟩;refine eh (fun τ=>∃x,τ=[x,some (.obj p)]) D.int (fun x=>!(decide (x∈left))) D.int (G:=G4) e4 (own n last step) [] _ ⟨none,rfl⟩ ?_ ?_
 ·rintro x hm τ K1 K2 ⟨_,rfl⟩ g1 g2;refine⟨_,_,rfl,.inl (fU hp4 (qP left)),by rw[mX];lia,?_⟩;show Br (!((left.map Dat.D.int).any fun v=>v.cq (.int x))) _ _;rw[wu];exact⟨fun g=>g1 g _ ⟨_,rfl⟩,fun g=>g2 g _ ⟨_,rfl⟩⟩
 rw[bF];intro p6 G6 n6 p7 G7 n7;have e6:=n7.sub _ _ n6.at_;refine⟨_,_,fU e6 (qP _),fU n7.at_ (xs:=[]) rfl,?_,fun g2=>?_,fun g2=>?_⟩
 ·show Dat.dE _+1≤50;rw[mX];lia
 rotate_left
 ·have g2':(Dat.D.lst (((own n last step).filter fun x=>!(decide (x∈left))).map Dat.D.int)).cq (.lst [])=false:=g2;rw[pj] at g2';have hf:fits n left last step=false:=by
   unfold fits;rw[g',nB];cases hb:(own n last step).all fun x=>left.contains x with
   |false=>rfl
   |true=>
    have:((own n last step).filter fun x=>!(decide (x∈left)))=[]:=by
     rw[lE];intro x hx;have:=dQ.mp hb x hx;simp at this;simp[this]
    rw[this] at g2';cases g2'
  rw[hf] at q;have s7:=(n4.sub.trans n6.sub).trans n7.sub;exact q G7 _ _ (fun b o _ e=>s7 _ _ e) (by simpa using s7 _ _ hp2)
 have g2':(Dat.D.lst (((own n last step).filter fun x=>!(decide (x∈left))).map Dat.D.int)).cq (.lst [])=true:=g2;rw[pj] at g2';have hf:fits n left last step=true:=by
  unfold fits;rw[g',nB,dQ];intro x hx;have hz:((own n last step).filter fun x=>!(decide (x∈left)))=[]:=by simpa using g2'
  have:=lE.mp hz x hx;simpa using this
 rw[hf] at q hz;rw[if_pos rfl] at hz;have s7:=(n4.sub.trans n6.sub).trans n7.sub;have hp7:=s7 _ _ hp;have e47:=n7.sub _ _ (n6.sub _ _ e4)
 -- the rest
 refine⟨_,hp7,by rw[θ];exact cQ (by lia),?_⟩;refine eh (fun τ=>∃x,τ=[x,some (.obj p4)]) D.int (fun x=>!(decide (x∈own n last step))) D.int (G:=G7) hp7 left [] _ ⟨none,rfl⟩ ?_ ?_
 ·rintro x hm τ K1 K2 ⟨_,rfl⟩ g1 g2;refine⟨_,_,rfl,.inl (fU e47 (qP _)),by rw[mX];lia,?_⟩;show Br (!(((own n last step).map Dat.D.int).any fun v=>v.cq (.int x))) _ _;rw[wu];exact⟨fun g=>g1 g _ ⟨_,rfl⟩,fun g=>g2 g _ ⟨_,rfl⟩⟩
 rw[bF];intro p8 G8 n8;have er:(left.filter fun x=>!(decide (x∈own n last step)))=rest n left last step:=by
  unfold rest;refine List.filter_congr fun x _=>?_;simp
 have e8:G8 p8=some (.lst ((rest n left last step).map D.int)):=by
  rw[←er];exact n8.at_
 have s8:=s7.trans n8.sub;have hml:last∈left:=List.mem_of_getLast? hlast;have hlt:(rest n left last step).length<left.length:=by
  unfold rest;refine List.length_filter_lt_length_iff_exists.mpr ⟨last,hml,?_⟩;have hr':=hr last hml;have:last∈own n last step:=by
   unfold own;rw[gv];refine⟨?_,by simp⟩;unfold fw;obtain⟨j,rfl⟩:=fi hr'.1;exact bj.mpr ⟨j,dP.mpr (by lia),rfl⟩
  simpa using this
 refine⟨⟨p2,_,rfl,s8 _ _ hp2⟩,n,p8,rest n left last step,rfl,e8,hn,by lia,⟨by lia,by lia⟩,fun x hx=>hr x (gv.mp hx).1,by rw[θ] at hz;lia,fun q9 G9 n9=>?_⟩;refine⟨_,n9.at_,by rw[θ];exact cQ (by rw[θ] at hz;lia),?_⟩;have hp9:=n9.sub _ _ (s8 _ _ hp);refine eh (fun τ=>∃x,τ=[x,some (.int step),some (.obj p)]) bZ (fun _=>true) (fun c=>bZ (c++[((step,last%step):ay)])) (G:=G9) n9.at_ (hU n k (rest n left last step)) [] _ ⟨none,rfl⟩ ?_ ?_
 ·rintro c hm τ K1 K2 ⟨_,rfl⟩ g1 g2;have hcl:=rS n k _ c hm;have e:bZ (c++[((step,last%step):ay)])=.tup (c.map cD++[cD ((step,last%step):ay)]):=by
   unfold bZ;rw[cV];rfl
  rw[e] at g1;refine⟨fun _=>⟨_,_,hp9,pK hlast,hs,?_,g1 rfl _ ⟨_,rfl⟩⟩,nofun⟩;show (c.map cD).length+1≤aj;rw[θ];exact cQ (by lia)
 ·rw[filter_all,bF];intro p10 G10 n10;have s10:=(s8.trans n9.sub).trans n10.sub;refine⟨_,_,s10 _ _ hp2,n10.at_,cQ (by rw[θ,θ];rw[θ] at hz;exact hz),?_⟩;refine q _ _ _ (fun b o hb e=>by rw[dJ hb];exact s10 _ _ e) ?_;rw[df,if_pos rfl,cV,bL];rfl
theorem Fn(k:Nat):∀ds G Q,iu (k+1) ds G Q->yI k (bJ Q) (bE ["n","left","found","step","own","rest"] ds) G:=by
 rintro ds G Q ⟨n,p,left,rfl,hp,hn,hl,hk,hr,hz,q⟩;intro p1 G1 n1;have hp1:=n1.sub _ _ hp;refine⟨_,_,fU hp1 (qP left),fU n1.at_ (xs:=[]) rfl,?_,fun g=>?_,fun g=>?_⟩
 ·show Dat.dE _+1≤50;rw[mX];lia
 ·have g':(Dat.D.lst (left.map Dat.D.int)).cq (.lst [])=true:=g;rw[pj] at g';have:left=[]:=by simpa using g'
  subst this;intro p2 G2 n2;exact bI (q p2 G2 ⟨n1.sub.of_none n2.ak,n1.sub.trans n2.sub,n2.at_⟩)
 have g':(Dat.D.lst (left.map Dat.D.int)).cq (.lst [])=false:=g;rw[pj] at g';obtain⟨last,hlast⟩:∃last,left.getLast?=some last:=by
  cases h:left.getLast? with
  |some l=>exact⟨l,rfl⟩
  |none=>
   rw[jT] at h;rw[h] at g';cases g'
 have ef:hU n (k+1) left=(mG n).flatMap fun step=>if fits n left last step then (hU n k (rest n left last step)).map (fun c=>c++[((step,last%step):ay)]) else []:=by
  show (match left.getLast? with
   |none=>[[]]
   | some last=>(mG n).flatMap fun step=>if fits n left last step then (hU n k (rest n left last step)).map (fun c=>c++[((step,last%step):ay)]) else [])=_
  rw[hlast]
 rw[ef] at q hz;generalize hgen:(fun step:Int=>if fits n left last step then (hU n k (rest n left last step)).map (fun c=>c++[((step,last%step):ay)]) else [])=F at q hz;have hF:∀step,F step=if fits n left last step then (hU n k (rest n left last step)).map (fun c=>c++[((step,last%step):ay)]) else []:=fun step=>by rw[←hgen]
 intro p2 G2 n2;have hp2:=n2.sub _ _ hp1;have hne:p≠p2:=fun z=>by
  have:=n2.ak;rw[←z,hp1] at this;cases this
 refine⟨⟨by decide,by decide,by lia,by lia⟩,?_⟩;rw[show ((n:Int)+1-1).toNat=n by lia,IY];refine fz (fun ds τ G'=>∃(dn rs:List Int) (x3 x4 x5:Option D),dn++rs=mG n/\ds=rs.map D.int/\τ=[some (.int (n:Nat)),some (.obj p),some (.obj p2),x3,x4,x5]/\G' p2=some (.lst ((dn.flatMap F).map bZ))/\∀b o,b≠p2->G2 b=some o->G' b=some o) (fun _ _ _ _=>trivial) ?_ ?_ _ _ _ ⟨[],mG n,none,none,none,rfl,rfl,rfl,n2.at_,fun b o _ e=>e⟩
 ·rintro d ds τ G5 N ⟨dn,rs,x3,x4,x5,e1,e2,rfl,e5,hs⟩ hN;cases rs with
  |nil=>cases e2
  |cons step rs=>
   cases e2;have hst:0<step:=Dv (n:=n) (by rw[←e1];simp);have hlen:(dn.flatMap F).length+(F step).length≤1000:=by
    rw[←e1,gp,List.flatMap_cons,ξ,ξ] at hz;lia
   rw[hF] at hlen;refine Bo hn hl ⟨by lia,by lia⟩ hr (hs _ _ hne hp2) e5 hne hlast hst hlen fun G' y4 y5 h1 h2=>hN _ _ ⟨dn++[step],rs,_,_,_,by rw[ψ];exact e1,rfl,rfl,?_,fun b o hb e=>h1 b o hb (hs b o hb e)⟩;rw[h2,gp,←hF];simp
 ·rintro τ G5 ⟨dn,rs,x3,x4,x5,e1,e2,rfl,e5,hs⟩;have e0:rs=[]:=by
   cases rs with
   |nil=>rfl
   |cons z zs=>cases e2
  subst e0;rw[cf] at e1;subst e1;have hn0:G p2=none:=n1.sub.of_none n2.ak;refine bI (q p2 G5 ⟨hn0,fun b o e=>hs b o (fun z=>?_) (n2.sub _ _ (n1.sub _ _ e)),e5⟩);rw[z,hn0] at e;cases e
end My
namespace My
open PySem L2 L3
def HL(n:Nat):Bool:=jF (dk n) 40 []&&(iP n).length==(raw n).length&&decide ((raw n).length≤1000)
theorem HK:∀n,n<12->1≤n->HL n=true:=by decide +kernel
theorem JC:jF (dk 12) 40 []=true:=by decide +kernel
theorem Ci:(raw 12).length=206:=by decide +kernel
theorem J9:(iP 12).length=206:=by decide +kernel
theorem JB:jF (dk 13) 40 []=true:=by decide +kernel
theorem Cg:(raw 13).length=2:=by decide +kernel
theorem J8:(iP 13).length=2:=by decide +kernel
theorem JA:jF (dk 14) 40 []=true:=by decide +kernel
theorem Cf:(raw 14).length=132:=by decide +kernel
theorem J7:(iP 14).length=132:=by decide +kernel
theorem Jz:jF (dk 15) 40 []=true:=by decide +kernel
theorem Ce:(raw 15).length=40:=by decide +kernel
theorem J6:(iP 15).length=40:=by decide +kernel
theorem Jy:jF (dk 16) 40 []=true:=by decide +kernel
theorem Cd:(raw 16).length=677:=by decide +kernel
theorem J5:(iP 16).length=677:=by decide +kernel
theorem AI:∀n,n<11->1≤n->tj n=true:=by decide +kernel
theorem E9:tj 12=true:=by decide +kernel
theorem Dy(n:Nat)(h2:n<13)(h1:1≤n)(h3:n≠11):tj n=true:=by
 by_cases h:n<11
 ·exact AI n h h1
 ·have:n=12:=by omega
  subst this;exact E9
theorem D4(n:Nat)(h2:n<17)(h1:1≤n):jF (dk n) 40 []=true/\(raw n).length≤1000/\(iP n).length=(raw n).length:=by
 by_cases h:n<12
 ·have:=HK n h h1;unfold HL at this;simp only[cG,decide_eq_true_eq,beq_iff_eq] at this;exact⟨this.1.1,this.2,this.1.2⟩
 ·have:n=12∨n=13∨n=14∨n=15∨n=16:=by omega
  rcases this with rfl|rfl|rfl|rfl|rfl
  ·exact⟨JC,by rw[Ci];decide,by rw[Ci,J9]⟩
  ·exact⟨JB,by rw[Cg];decide,by rw[Cg,J8]⟩
  ·exact⟨JA,by rw[Cf];decide,by rw[Cf,J7]⟩
  ·exact⟨Jz,by rw[Ce];decide,by rw[Ce,J6]⟩
  ·exact⟨Jy,by rw[Cd];decide,by rw[Cd,J5]⟩
end My
namespace My
open PySem L2 L3
theorem qc(c:ay):∀cs:List ay,(rR c cs).Perm (c::cs)
 |[]=>dR _
 |d::ds=>by
  unfold rR;split
  ·exact dR _
  ·exact ((qc c ds).cons d).trans (List.Perm.swap c d ds)
theorem qH:∀cs:List ay,(kQ cs).Perm cs
 |[]=>dR _
 |c::cs=>(qc c (kQ cs)).trans ((qH cs).cons c)
theorem Em{a b c:ay}(h1:iO a b=true)(h2:iO b c=true):iO a c=true:=by
 unfold iO at h1 h2 ⊢;rw[cv] at h1 h2 ⊢;exact cL.oi h1 h2
theorem En{a b:ay}(h:¬iO a b=true):iO b a=true:=by
 unfold iO at h ⊢;rw[cv,Bool.not_eq_false] at h;rw[cL.oj h];rfl
theorem wa(c:ay):∀cs:List ay,cs.Pairwise (fun a b=>iO a b=true)->(rR c cs).Pairwise (fun a b=>iO a b=true)
 |[],_=>bx _ _
 |d::ds,h=>by
  have h':=cg.mp h;unfold rR;split
  ·rename_i hc;refine cg.mpr ⟨fun x hx=>?_,h⟩;rcases bf.mp hx with rfl|hx
   ·exact hc
   ·exact Em hc (h'.1 x hx)
  ·rename_i hc;refine cg.mpr ⟨fun x hx=>?_,wa c ds h'.2⟩;rcases bf.mp ((qc c ds).mem_iff.mp hx) with rfl|hx
   ·exact En hc
   ·exact h'.1 x hx
theorem sx:∀cs:List ay,(kQ cs).Pairwise (fun a b=>iO a b=true)
 |[]=>fG
 |c::cs=>wa c _ (sx cs)
theorem Bf(cs:List ay):kQ cs=cE cs:=by
 refine pS ((qH cs).trans (mI cs).symm) ?_ (t7 cs);unfold jO;rw[dv];refine (sx cs).imp fun h=>?_;unfold iO at h;rwa [cv] at h
theorem yZ{n:Nat}(h1:1≤n)(h2:n<13)(h3:n≠11):((iP n).map cE).Perm ((raw n).map cE):=by
 have h:=Dy n h2 h1 h3;unfold tj at h;have:=List.isPerm_iff.mp h;have e:kQ=cE:=funext Bf;rw[e] at this;exact this
theorem si:∀{as bs:List (List (List Int))},as.Perm bs->kX as->kX bs->as=bs
 |[],bs,p,_,_=>(List.nil_perm.mp p).symm
 |a::as,[],p,_,_=>absurd p.length_eq (by simp)
 |a::as,b::bs,p,ha,hb=>by
  have ha':=cg.mp ha;have hb':=cg.mp hb;have e:a=b:=by
   refine dj fun z=>?_;have h1:cL.gS b a=false:=by
    rcases bf.mp (p.symm.mem_iff.mp Ω) with rfl|h
    ·exact absurd rfl z
    ·exact ha'.1 b h
   have h2:cL.gS a b=false:=by
    rcases bf.mp (p.mem_iff.mp Ω) with rfl|h
    ·exact absurd rfl z
    ·exact hb'.1 a h
   have:=cL.vV z h2;rw[h1] at this;cases this
  subst e;rw[si (p.cons_inv) ha'.2 hb'.2]
structure LJ(n:Nat):Prop where
 LP:jF (dk n) 40 []=true
 len:(raw n).length≤1000
 Fe:∀cs∈raw n,ym cs/\cs≠[]
 xJ:(iP n).length=(raw n).length
 L8:∀cs∈iP n,cs≠[]
theorem rC{ss:List Int}:∀(k:Nat) (cs:List ay),jF ss k cs=true->∀c∈kS ss k cs,uq c=true/\cs.length≤c.length
 |0,cs,h,c,hc=>nomatch hc
 |k+1,cs,h,c,hc=>by
  have h':(uq cs&&match km cs with
   |none=>true
   | some x=>(grown ss cs (x:Int)).all (jF ss k))=true:=h
  have hc':c∈match km cs with
   |none=>[cs]
   |some x=>(grown ss cs (x:Int)).flatMap (kS ss k):=hc
  rw[cG] at h';cases hm:km cs with
  |none=>
   rw[hm] at hc';rw[ao.mp hc'];exact⟨h'.1,ω _⟩
  |some x=>
   rw[hm] at hc' h';obtain⟨g,hg,hcg⟩:=hZ.mp hc';have h2:=dQ.mp h'.2 g hg;have:=rC k g h2 c hcg;obtain⟨d,_,rfl⟩:=bj.mp hg;refine⟨this.1,?_⟩;have h3:=this.2;rw[ξ] at h3;exact aD (kG _ _) h3
theorem Fq{n:Nat}(h:jF (dk n) 40 []=true):∀c∈raw n,c≠[]:=fun c hc z=>by
 subst z;have hf:km []=some 0:=by decide
 have hc':([]:List ay)∈match km [] with
  |none=>[([]:List ay)]
  |some x=>(grown (dk n) [] (x:Int)).flatMap (kS (dk n) 39):=hc
 have h':(uq []&&match km [] with
  |none=>true
  | some x=>(grown (dk n) [] (x:Int)).all (jF (dk n) 39))=true:=h
 rw[hf] at hc' h';rw[cG] at h';obtain⟨g,hg,hcg⟩:=hZ.mp hc';have:=(rC 39 g (dQ.mp h'.2 g hg) [] hcg).2;obtain⟨d,_,rfl⟩:=bj.mp hg;simp at this
theorem HJ{n:Nat}(h1:1≤n):∀c∈iP n,c≠[]:=fun c hc z=>by
 subst z;have hc':([]:List ay)∈match (fw n).getLast? with
  |none=>[[]]
  |some last=>(mG n).flatMap fun step=>if fits n (fw n) last step then (hU n 39 (rest n (fw n) last step)).map (fun c=>c++[((step,last%step):ay)]) else []:=hc
 cases hl:(fw n).getLast? with
 |none=>
  rw[jT] at hl;have:=congrArg g8 hl;unfold fw at this;rw[θ,dw] at this;simp at this;lia
 |some last=>
  rw[hl] at hc';obtain⟨st,_,h⟩:=hZ.mp hc';split at h
  ·obtain⟨c',_,e⟩:=bj.mp h;have:=congrArg g8 e;rw[ξ] at this;simp at this
  ·cases h
theorem wV{n:Nat}(h1:1≤n)(h2:n<17):LJ n:=by
 obtain⟨a,b,d⟩:=D4 n h2 h1;exact⟨a,b,fun cs hc=>⟨vQ (rC 40 [] a cs hc).1,Fq a cs hc⟩,d,HJ h1⟩
def lG:eO:=fun ds G Q=>∃n:Nat,ds=[.int n]/\1≤n/\n<17/\∀(q:ζ) (rs:List (List ay)) (G':Gp),rs.Perm ((raw n).map cE)->kX (rs.map j6)->eP G q (.lst (rs.map bZ)) G'->Q (.obj q) G'
def Ai:aP:=cP (fM ix (Φ (fm ["clocks"] [] (gX (bR (jh 40) (Φ (Γ 1) (Φ (kq (aH)) (aH))))) (hName 0) (fu) (fM jW (Φ (oA (Γ 0)) (aH)))) (aH)))
def yA:aP:=b7 (da (fm ["step"] [0] (pf (Φ (eC (.int 1)) (Φ (br hE (Γ 0) (eC (.int 1))) (aH)))) (hName 0) (cK (br (fx false) (br gs (Γ 1) (Γ 0)) (eC (.int 0)))) (Γ 0)) (hName 1)) Ai
theorem KR(n:Nat):gk 1 n=(aS n).map fun k=>nD (k+1):=by
 unfold gk;refine b9 fun k _=>?_;show D.int (1+(k:Int))=D.int ((k+1:Nat):Int);rw[show (1:Int)+(k:Int)=((k+1:Nat):Int) by lia]
theorem pO{G:Gp}{p:ζ}{css:List (List ay)}{Q:V3}(e:G p=some (.lst (css.map bZ)))(hl:css.length≤1000)(hc:∀cs∈css,cs.length≤60/\cs≠[])(q:∀(q:ζ) (rs:List (List ay)) (G':Gp),rs.Perm (css.map cE)->kX (rs.map j6)->eP G q (.lst (rs.map bZ)) G'->Q (.obj q) G'):
  (css.map bZ).length≤aj/\gF (fun G'=>G' p=some (.lst (css.map bZ))) (hName 0) fu (fM jW (Φ (oA (Γ 0)) (aH))) (fun acc G1=>∀p G2,eP G1 p (.lst acc) G2->ix [.obj p] G2 Q) (css.map bZ) [] [none] G:=by
 refine⟨by rw[θ];exact cQ hl,?_⟩;refine kT (fun es acc τ G'=>∃(dn rs:List (List ay)) (x:Option D),dn++rs=css/\es=rs.map bZ/\acc=dn.map (fun cs=>bZ (cE cs))/\Sub G G'/\τ=[x]) (fun _ _ _ _ h=>?_) ?_ ?_ _ _ _ _ ⟨[],_,none,rfl,rfl,rfl,Sub.refl _,rfl⟩
 ·obtain⟨_,_,_,_,_,_,s,_⟩:=h;exact s _ _ e
 ·rintro d es acc τ G3 K1 K2 ⟨dn,rs,x,e1,e3,rfl,s1,rfl⟩ g1 g2;cases rs with
  |nil=>cases e3
  |cons cs rs=>
   cases e3;have hR:=hc cs (by rw[←e1];exact Ξ _ Ω);refine⟨fun _=>⟨cs.map gr,(uA cs).symm,by rw[θ];lia,ER,fun p4 mss G4 n4 hp hr=>⟨_,n4.at_,?_⟩⟩,nofun⟩;have e:D.tup (mss.map tupI)=bZ (cE cs):=by
    rw[yS hp hr,uA];rfl
   rw[e];exact g1 _ _ _ ⟨dn++[cs],rs,_,by rw[ψ];exact e1,rfl,by rw[cV];rfl,s1.trans n4.sub,rfl⟩
 ·rintro acc τ G3 ⟨dn,rs,x,e1,e3,rfl,s1,rfl⟩;have e0:rs=[]:=by
   cases rs with
   |nil=>rfl
   |cons z zs=>cases e3
  subst e0;rw[cf] at e1;subst e1;intro p4 G4 n4;have em:dn.map (fun cs=>bZ (cE cs))=((dn.map cE).map j6).map gW:=by
   rw[←wg,bL];rfl
  rw[em] at n4;refine⟨_,n4.at_,by rw[θ,θ];lia,fun ns hn=>?_,fun p5 mss G5 n5 hp hr=>?_⟩
  ·obtain⟨cs,hcs,rfl⟩:=bj.mp hn;obtain⟨c0,hc0,rfl⟩:=bj.mp hcs;intro z;have:(cE c0).length=0:=by
    have:=congrArg g8 z;unfold j6 at this;rw[θ] at this;exact this
   rw[(mI c0).length_eq] at this;exact (hc c0 hc0).2 (bM this)
  ·obtain⟨rs,pr,rfl⟩:=lq hp rfl;rw[←wg] at n5;have s:=s1.trans n4.sub;exact q p5 rs G5 pr hr ⟨s.of_none n5.ak,s.trans n5.sub,n5.at_⟩
theorem Fg:∀ds G Q,lG ds G Q->yA (bJ Q) (bE ["n","steps"] ds) G:=by
 rintro ds G Q ⟨n,rfl,h1,h2,q⟩;have hR:=wV h1 h2;refine⟨⟨by decide,by decide,by lia,by lia⟩,?_⟩;rw[show ((n:Int)+1-1).toNat=n by lia,KR];refine⟨by rw[θ,dw];exact cQ (by lia),?_⟩;refine eh (fun τ=>∃x,τ=[x,some (.int (n:Int))]) (fun k:Nat=>nD (k+1)) (fun k:Nat=>(n:Int)%((k+1:Nat):Int)==0) (fun k:Nat=>nD (k+1)) (G:=G) trivial (aS n) [] _ ⟨none,rfl⟩ ?_ ?_
 ·rintro k hm τ K1 K2 ⟨_,rfl⟩ g1 g2;refine⟨by show (0:Int)<((k+1:Nat):Int);lia,_,_,rfl,rfl,aK _,fun g=>g1 g _ ⟨_,rfl⟩,fun g=>g2 g _ ⟨_,rfl⟩⟩
 intro p1 G1 n1;have e1:G1 p1=some (.lst ((dk n).map D.int)):=by
  rw[n1.at_,bF];unfold dk;rw[List.filter_map,bL];rfl
 have hsl:(dk n).length≤60:=by
  unfold dk;have:=mv (fun s=>(n:Int)%s==0) ((aS n).map fun k:Nat=>((k+1:Nat):Int));rw[θ,dw] at this;lia
 refine⟨p1,dk n,[],rfl,e1,fun s hs=>?_,hsl,hR.LP,hR.len,fun q2 G2 n2=>?_⟩
 ·obtain⟨k,_,rfl⟩:=bj.mp (gv.mp hs).1;lia
 have n2':eP G1 q2 (.lst ((raw n).map bZ)) G2:=n2;refine⟨_,n2'.at_,pO n2'.at_ hR.len (fun cs hc=>⟨by have:=(hR.Fe cs hc).1.2.1;lia,(hR.Fe cs hc).2⟩) fun q3 rs G' hp hr n3=>bI (q q3 rs G' hp hr ?_)⟩;have s:=n1.sub.trans n2'.sub;exact⟨s.of_none n3.ak,s.trans n3.sub,n3.at_⟩
def oU:eO:=fun ds G Q=>∃n:Nat,ds=[.int n]/\1≤n/\n<17/\∀G',Sub G G'->Q (.int ((raw n).length:Nat)) G'
def BZ:aP:=cP (fM kO (Φ (bR lG (Φ (Γ 0) (aH))) (aH)))
theorem IZ:∀ds G Q,oU ds G Q->BZ (bJ Q) (bE ["n"] ds) G:=by
 rintro ds G Q ⟨n,rfl,h1,h2,q⟩;refine⟨n,rfl,h1,h2,fun q1 rs G1 hp _ n1=>⟨_,n1.at_,?_⟩⟩;have e:(rs.map bZ).length=(raw n).length:=by rw[θ,hp.length_eq,θ]
 rw[e];exact bI (q G1 n1.sub)
end My
namespace My
open PySem L2 L3
def dX(cs:List ay):Dat.D:=.tup (cs.map cX)
theorem qf:∀rs:List (List ay),cW (rs.map bZ)=some (rs.map dX)
 |[]=>rfl
 |c::cs=>by
  show (match gA (bZ c) with
   |some x=>match cW (cs.map bZ) with
    |some xs=>some (x::xs)
    |none=>none
   | none=>none)=_
  have h:gA (bZ c)=some (dX c):=by
   show gA (.tup (c.map cD))=_;rw[gA,sd];rfl
  rw[qf cs,h];rfl
theorem uQ:∀rs:List (List ay),Dat.dE (rs.map dX)≤2
 |[]=>aK _
 |c::cs=>by
  show max (dX c).gT (Dat.dE (cs.map dX))≤2;have h1:(dX c).gT=Dat.dE (c.map cX)+1:=rfl;have h2:=we c;have:=uQ cs;lia
theorem uN:∀rs:List (List ay),Dat.gE (rs.map dX) (rs.map dX)=true
 |[]=>rfl
 |c::cs=>by
  show ((dX c).cq (dX c)&&Dat.gE (cs.map dX) (cs.map dX))=true;rw[uN cs,jD];exact EA c
def ed:eO:=fun ds G Q=>∃cs:List ay,ds=[bZ cs]/\cs.length≤100/\∀G',Sub G G'->Q (.bl true) G'
def mF:aP:=cP (fM qv (Φ (fm ["one"] [] (gX (Γ 0)) (hName 0) (fu) (mW (mV "tuple" (Γ 0)) (mW (bR ka (Φ (br fZ (Γ 0) (eC (.int 0))) (aH))) (bR ka (Φ (br fZ (Γ 0) (eC (.int 1))) (aH)))))) (aH)))
def jg:aP:=b7 (ke (qe (cK (mV "tuple" (Γ 0)))) (cP (eC (.bl false))) (fY)) mF
theorem nU:∀ds G Q,ed ds G Q->jg (bJ Q) (bE ["found"] ds) G:=by
 rintro ds G Q ⟨cs,rfl,hl,q⟩;refine⟨nofun,fun _=>⟨by rw[θ];exact cQ (by lia),?_⟩⟩;refine eh (fun τ=>∃x,τ=[x]) cD (fun _=>true) (fun _=>D.bl true) (G:=G) trivial cs [] _ ⟨none,rfl⟩ ?_ ?_
 ·rintro c hm τ K1 K2 ⟨_,rfl⟩ g1 g2;exact⟨fun _=>⟨fun _=>⟨_,rfl,trivial,fun _=>⟨_,rfl,trivial,g1 rfl _ ⟨_,rfl⟩⟩,nofun⟩,nofun⟩,nofun⟩
 ·rw[filter_all,bF];intro p4 G4 n4;refine⟨_,_,n4.at_,rX (fun _=>true) _,?_⟩;have ea:(cs.map fun _=>true).all id=true:=by simp
  rw[ea];exact bI (q _ n4.sub)
def lJ:eO:=fun ds G Q=>∃n:Nat,ds=[.int n]/\1≤n/\n<13/\n≠11/\∀G',Sub G G'->Q (.bl true) G'
def Ao:aP:=oW (eM sj (Γ 3) (Φ (kq (aH)) (aH)))
def Ap:aP:=b7 (ke (CV (qe (cK (mV "list" (Γ 3)))) (CV (cK (br (fx true) (Γ 3) (Γ 1))) (qe (cK (fM qv (Φ (fm ["clocks"] [] (gX (Γ 3)) (hName 0) (fu) (bR ed (Φ (Γ 0) (aH)))) (aH))))))) (cP (eC (.bl false))) (fY)) Ao
def tO:aP:=b7 (da (bR lG (Φ (Γ 0) (aH))) (hName 3)) Ap
def Am:aP:=cP (mW (bR ka (Φ (Γ 4) (aH))) (br (fx false) (Γ 4) (fM kO (Φ (Γ 1) (aH)))))
def An:aP:=b7 (da (bR oU (Φ (Γ 0) (aH))) (hName 4)) Am
def tP:aP:=b7 (kf (mP (Φ (eC (.int 2)) (aH))) (hName 2) (tO)) An
def yG:aP:=b7 (da (fM ix (Φ (fm ["clocks"] [] (gX (bR (iu 40) (Φ (Γ 0) (Φ (xZ (Φ (Γ 0) (aH))) (aH))))) (hName 0) (fu) (fM jW (Φ (oA (Γ 0)) (aH)))) (aH))) (hName 1)) tP
theorem DB{D3:jQ}{G:Gp}{n:Nat}{p1:ζ}{ds:List (List ay)}{x2 x3 x4:Option D}(h1:1≤n)(h2:n<17)(hp:ds.Perm ((raw n).map cE))(hr:kX (ds.map j6))(e1:G p1=some (.lst (ds.map bZ)))
  (k:∀G' y3,Sub G G'->D3.nx [some (.int (n:Nat)),some (.obj p1),x2,y3,x4] G'):tO D3 [some (.int (n:Nat)),some (.obj p1),x2,x3,x4] G:=by
 have hR:=wV h1 h2;refine⟨n,rfl,h1,h2,fun q3 rs G3 hp3 hr3 n3=>?_⟩;have es:rs=ds:=by
  have:=si ((hp3.trans hp.symm).map j6) hr3 hr;exact oR (fun a b e=>Ah e) |>.mp this
 subst es;have hl:rs.length≤1000:=by rw[hp.length_eq,θ];exact hR.len
 show match iE "list" G3 (.obj q3) with
  |some b=>_
  |none=>False
 have ei:iE "list" G3 (.obj q3)=some true:=by
  simp only[iE,n3.at_];rfl
 rw[ei];refine⟨nofun,fun _=>⟨_,_,fU n3.at_ (qf rs),fU (n3.sub _ _ e1) (qf rs),?_,fun g=>?_,fun _=>?_⟩⟩
 ·show Dat.dE _+1≤50;have:=uQ rs;lia
 ·have g':(!((Dat.D.lst (rs.map dX)).cq (.lst (rs.map dX))))=true:=g;have:(Dat.D.lst (rs.map dX)).cq (.lst (rs.map dX))=true:=uN rs;rw[this] at g';cases g'
 refine⟨_,n3.at_,by rw[θ];exact cQ hl,?_⟩;refine kT (fun es acc τ G'=>∃(dn rs':List (List ay)) (x:Option D),dn++rs'=rs/\es=rs'.map bZ/\acc=dn.map (fun _=>D.bl true)/\Sub G3 G'/\τ=[x]) (fun _ _ _ _ h=>?_) ?_ ?_ _ _ _ _ ⟨[],rs,none,rfl,rfl,rfl,Sub.refl _,rfl⟩
 ·obtain⟨_,_,_,_,_,_,s,_⟩:=h;exact s _ _ n3.at_
 ·rintro d es acc τ G4 K1 K2 ⟨dn,rs',x,e2,e3,rfl,s1,rfl⟩ g1 g2;cases rs' with
  |nil=>cases e3
  |cons c rs'=>
   cases e3;have hc:c.length≤100:=by
    have hm:c∈rs:=by rw[←e2];simp
    obtain⟨c0,h0,rfl⟩:=bj.mp (hp.mem_iff.mp hm);rw[(mI c0).length_eq];have:=(hR.Fe c0 h0).1.2.1;lia
   refine⟨fun _=>⟨c,rfl,hc,fun G5 s5=>?_⟩,nofun⟩;exact g1 _ _ _ ⟨dn++[c],rs',_,by rw[ψ];exact e2,rfl,by rw[cV];rfl,s1.trans s5,rfl⟩
 ·rintro acc τ G4 ⟨dn,rs',x,e2,e3,rfl,s1,rfl⟩;intro p5 G5 n5;refine⟨_,_,n5.at_,rX (fun _=>true) _,?_⟩;have ea:(dn.map fun _=>true).all id=true:=by simp
  rw[ea];refine⟨nofun,fun _=>?_⟩;have h5:=n5.sub _ _ (s1 _ _ n3.at_);refine⟨⟨q3,_,rfl,h5⟩,_,h5,?_,k _ _ (Sub.wx ((n3.sub.trans s1).trans n5.sub) n3.ak)⟩;rw[θ];exact Nat.lt_of_le_of_lt hl (by decide)
theorem Fl:∀ds G Q,lJ ds G Q->yG (bJ Q) (bE ["n","due","turn","found","many"] ds) G:=by
 rintro ds G Q ⟨n,rfl,h1,h2,h3,q⟩;have hR:=wV h1 (by lia);refine⟨⟨by lia,by lia⟩,fun p0 G0 n0=>?_⟩;have n0':eP G p0 (.lst ((fw n).map D.int)) G0:=by
  rw[cS,pU] at n0;exact n0
 have hrl:(fw n).length=n:=by
  unfold fw;rw[θ,dw]
 refine⟨n,p0,fw n,rfl,n0'.at_,⟨h1,by lia⟩,by lia,⟨by lia,by decide⟩,fun x hx=>?_,by show (iP n).length≤1000;rw[hR.xJ];exact hR.len,fun q1 G1 n1=>?_⟩
 ·obtain⟨k,hk,rfl⟩:=bj.mp hx;have:=dP.mp hk;lia
 have n1':eP G0 q1 (.lst ((iP n).map bZ)) G1:=n1;have hfc:∀cs∈iP n,cs.length≤60/\cs≠[]:=fun cs hc=>⟨by have:=rS n 40 (fw n) cs hc;lia,hR.L8 cs hc⟩;refine⟨_,n1'.at_,pO (Q:=fun d G'=>tP (bJ Q) [some (.int (n:Nat)),some d,none,none,none] G') n1'.at_ (by rw[hR.xJ];exact hR.len) hfc fun q2 ds G2 hp hr n2=>?_⟩;have hp':ds.Perm ((raw n).map cE):=hp.trans (yZ h1 h2 h3);have s2:=(n0'.sub.trans n1'.sub).trans n2.sub;refine⟨⟨by decide,by decide⟩,?_⟩;refine fz (fun _ τ G'=>∃x2 x3:Option D,τ=[some (.int (n:Nat)),some (.obj q2),x2,x3,none]/\Sub G2 G') (fun _ _ _ _=>trivial) ?_ ?_ _ _ _ ⟨none,none,rfl,Sub.refl _⟩
 ·rintro d es τ G3 N ⟨x2,x3,rfl,s⟩ hN;exact DB h1 (by lia) hp' hr (s _ _ n2.at_) fun G' y3 s'=>hN _ _ ⟨_,_,rfl,s.trans s'⟩
 ·rintro τ G3 ⟨x2,x3,rfl,s⟩;refine⟨n,rfl,h1,by lia,fun G4 s4=>?_⟩;refine⟨trivial,fun _=>⟨_,(s.trans s4) _ _ n2.at_,_,_,rfl,rfl,aK _,?_⟩,nofun⟩;have e:(ds.map bZ).length=(raw n).length:=by rw[θ,hp'.length_eq,θ]
  rw[e];show (bJ Q).rt (.bl ((((raw n).length:Nat):Int)==(((raw n).length:Nat):Int))) G4;rw[beq_self_eq_true];exact bI (q _ ((s2.trans s).trans s4))
def ji:eO:=fun ds G Q=>∃ns:List Int,ds=[.gf (ns.map .int)]/\ns.length≤63/\Q (.bl true) G
def AB:aP:=ke (qe (cK (bR lJ (Φ (br hE (eC (.int 1)) (br gs (br hE (Γ 2) (Γ 3)) (eC (.int 10)))) (aH))))) (cP (eC (.bl false))) (fY)
def yL:aP:=cP (mW (bR ka (Φ (Γ 5) (aH))) (br (fx false) (Γ 5) (fM kO (Φ (bR (iu 40) (Φ (Γ 4) (Φ (xZ (Φ (Γ 4) (aH))) (aH)))) (aH)))))
def tR:aP:=b7 (da (bR oU (Φ (Γ 4) (aH))) (hName 5)) yL
def tS:aP:=b7 (da (uP (Φ (eC (.int 11)) (Φ (eC (.int 12)) (Φ (eC (.int 13)) (Φ (eC (.int 14)) (Φ (eC (.int 15)) (Φ (eC (.int 16)) (aH))))))) (bR nP (Φ (Γ 1) (Φ (eC (.int 6)) (aH))))) (hName 4)) tR
def AA:aP:=b7 (ke (BC (cK (br (fx false) (bR nP (Φ (Γ 1) (Φ (eC (.int 4)) (aH)))) (eC (.int 0)))) (qe (cK (bR lJ (Φ (eC (.int 12)) (aH)))))) (cP (eC (.bl false))) (fY)) tS
def AD:aP:=b7 (kf (mP (Φ (eC (.int 3)) (aH))) (hName 3) (AB)) AA
def AE:aP:=b7 (da (bR nP (Φ (Γ 1) (Φ (eC (.int 10)) (aH)))) (hName 2)) AD
def yM:aP:=b7 (da (bR t8 (Φ (bR ql (Φ (Γ 0) (Φ (eC (.int 0)) (aH)))) (aH))) (hName 1)) AE
theorem CK{Q:V3}{G:Gp}{pp:ζ}{x0 x2 x3:Option D}(hp:G pp=some .nZ)(q:∀G',Sub G G'->(bJ Q).rt (.bl true) G'):tS (bJ Q) [x0,some (.obj pp),x2,x3,none,none] G:=by
 refine⟨pp,6,rfl,hp,⟨by decide,ma (by decide) (by decide)⟩,fun r a b=>?_⟩;have fin:∀n:Nat,11≤n->n<17->tR (bJ Q) [x0,some (.obj pp),x2,x3,some (.int (n:Nat)),none] G:=fun n h1 h2=>by
  have hR:=wV (n:=n) (by lia) h2;refine⟨n,rfl,by lia,h2,fun G1 s1=>?_⟩;refine⟨trivial,fun _=>?_,nofun⟩;refine⟨⟨by lia,by lia⟩,fun p0 G0 n0=>?_⟩;have n0':eP G1 p0 (.lst ((fw n).map D.int)) G0:=by
   rw[cS,pU] at n0;exact n0
  have hrl:(fw n).length=n:=by
   unfold fw;rw[θ,dw]
  refine⟨n,p0,fw n,rfl,n0'.at_,⟨by lia,by lia⟩,by lia,⟨by lia,by decide⟩,fun x hx=>?_,by show (iP n).length≤1000;rw[hR.xJ];exact hR.len,fun q1 G2 n1=>?_⟩
  ·obtain⟨k,hk,rfl⟩:=bj.mp hx;have:=dP.mp hk;lia
  have n1':eP G0 q1 (.lst ((iP n).map bZ)) G2:=n1;refine⟨_,n1'.at_,_,_,rfl,rfl,aK _,?_⟩;have e:((iP n).map bZ).length=(raw n).length:=by rw[θ,hR.xJ]
  rw[e];show (bJ Q).rt (.bl ((((raw n).length:Nat):Int)==(((raw n).length:Nat):Int))) G2;rw[beq_self_eq_true];exact q _ ((s1.trans n0'.sub).trans n1'.sub)
 have:r=0∨r=1∨r=2∨r=3∨r=4∨r=5:=by lia
 rcases this with rfl|rfl|rfl|rfl|rfl|rfl
 ·exact⟨_,rfl,fin 11 (by decide) (by decide)⟩
 ·exact⟨_,rfl,fin 12 (by decide) (by decide)⟩
 ·exact⟨_,rfl,fin 13 (by decide) (by decide)⟩
 ·exact⟨_,rfl,fin 14 (by decide) (by decide)⟩
 ·exact⟨_,rfl,fin 15 (by decide) (by decide)⟩
 ·exact⟨_,rfl,fin 16 (by decide) (by decide)⟩
theorem Fp:∀ds G Q,ji ds G Q->yM (bJ Q) (bE ["script","pen","first","turn","n","found"] ds) G:=by
 rintro ds G Q ⟨ns,rfl,hl,q⟩;refine⟨ns,0,rfl,fun i=>⟨i,rfl,fun pp G1 n1=>⟨pp,10,rfl,n1.at_,⟨by decide,ma (by decide) (by decide)⟩,fun f a b=>?_⟩⟩⟩;refine⟨⟨by decide,by decide⟩,?_⟩;show jd _ _ _ _ (gk 0 3) _ _;rw[KS];refine fz (fun ds τ G'=>∃(ks:List Nat) (x3:Option D),ds=ks.map nD/\τ=[some (.gf (ns.map .int)),some (.obj pp),some (.int f),x3,none,none]/\Sub G1 G') (fun _ _ _ _=>trivial) ?_ ?_ _ _ _ ⟨aS 3,none,rfl,rfl,Sub.refl _⟩
 ·rintro d es τ G3 N ⟨ks,x3,e,rfl,s⟩ hN;cases ks with
  |nil=>cases e
  |cons k ks=>
   cases e;have h0:0≤(f+(k:Int))%10:=ft _ (by decide);have h9:(f+(k:Int))%10<10:=ej _ (by decide);obtain⟨m,hm⟩:=fi h0;refine⟨by show (0:Int)<10;decide,m+1,?_,by lia,by lia,by lia,fun G4 s4=>⟨nofun,fun _=>hN _ _ ⟨ks,_,rfl,rfl,s.trans s4⟩⟩⟩;show [D.int (1+(f+(k:Int))%10)]=[D.int ((m+1:Nat):Int)];rw[hm,show (1:Int)+(m:Int)=((m+1:Nat):Int) by lia]
 ·rintro τ G3 ⟨ks,x3,e,rfl,s⟩;refine⟨pp,4,rfl,s _ _ n1.at_,⟨by decide,ma (by decide) (by decide)⟩,fun r a b=>⟨_,_,rfl,rfl,aK _,fun g=>?_,fun g=>?_⟩⟩
  ·refine⟨12,rfl,by decide,by decide,by decide,fun G4 s4=>⟨nofun,fun _=>?_⟩⟩;exact CK ((s.trans s4) _ _ n1.at_) fun G' s'=>oY ((n1.sub.trans (s.trans s4)).trans s') q
  ·refine⟨nofun,fun _=>?_⟩;exact CK (s _ _ n1.at_) fun G' s'=>oY ((n1.sub.trans s).trans s') q
end My
namespace My
open PySem L2 L3
def top(i:Nat):aT:=PySem.Challenge.pw_coverclocks_k62_exact_clocks_of_a_round.main.body.getD i (.Pass ⟨0,0,0,0⟩)
abbrev wG:aT:=top 5
abbrev JH:List χ:=["many","most"]
theorem IP:bO JH ["many","most"] (ar wG):=⟨rfl,rfl,rfl,by decide +kernel,rfl,by decide +kernel,by decide +kernel⟩
abbrev wJ:aT:=top 6
abbrev JK:List χ:=["one","other","left"]
theorem td:bO JK ["one","other"] (ar wJ):=⟨rfl,rfl,rfl,by decide +kernel,rfl,by decide +kernel,by decide +kernel⟩
abbrev wK:aT:=top 7
abbrev JL:List χ:=["numbers","least","number"]
theorem tf:bO JL ["numbers"] (ar wK):=⟨rfl,rfl,rfl,by decide +kernel,rfl,by decide +kernel,by decide +kernel⟩
abbrev wH:aT:=top 8
abbrev JI:List χ:=["clocks","many","counts","step","rest","number"]
theorem qt:bO JI ["clocks","many"] (ar wH):=⟨rfl,rfl,rfl,by decide +kernel,rfl,by decide +kernel,by decide +kernel⟩
abbrev wI:aT:=top 9
abbrev JJ:List χ:=["clock","counts","many","number"]
theorem Cb:bO JJ ["clock","counts","many"] (ar wI):=⟨rfl,rfl,rfl,by decide +kernel,rfl,by decide +kernel,by decide +kernel⟩
abbrev qk:aT:=top 11
abbrev zz:List χ:=["clocks"]
theorem E7:bO zz ["clocks"] (ar qk):=⟨rfl,rfl,rfl,by decide +kernel,rfl,by decide +kernel,by decide +kernel⟩
abbrev wD:aT:=top 13
abbrev JF:List χ:=["clocks"]
theorem IL:bO JF ["clocks"] (ar wD):=⟨rfl,rfl,rfl,by decide +kernel,rfl,by decide +kernel,by decide +kernel⟩
abbrev wF:aT:=top 14
abbrev JG:List χ:=["clocks","clock"]
theorem IM:bO JG ["clocks","clock"] (ar wF):=⟨rfl,rfl,rfl,by decide +kernel,rfl,by decide +kernel,by decide +kernel⟩
abbrev nJ:aT:=top 16
abbrev uw:List χ:=["n","steps"]
theorem yU:bO uw ["n"] (ar nJ):=⟨rfl,rfl,rfl,by decide +kernel,rfl,by decide +kernel,by decide +kernel⟩
abbrev t4:aT:=top 17
abbrev Gx:List χ:=["steps","clocks","number","found","grown"]
theorem qu:bO Gx ["steps","clocks"] (ar t4):=⟨rfl,rfl,rfl,by decide +kernel,rfl,by decide +kernel,by decide +kernel⟩
abbrev nK:aT:=top 18
abbrev ux:List χ:=["steps","clocks","number","tried"]
theorem yW:bO ux ["steps","clocks","number"] (ar nK):=⟨rfl,rfl,rfl,by decide +kernel,rfl,by decide +kernel,by decide +kernel⟩
abbrev tX:aT:=top 19
abbrev Gu:List χ:=["clocks","clock","step","rest"]
theorem ub:bO Gu ["clocks","clock"] (ar tX):=⟨rfl,rfl,rfl,by decide +kernel,rfl,by decide +kernel,by decide +kernel⟩
abbrev wB:aT:=top 20
abbrev JD:List χ:=["n"]
theorem IJ:bO JD ["n"] (ar wB):=⟨rfl,rfl,rfl,by decide +kernel,rfl,by decide +kernel,by decide +kernel⟩
abbrev wC:aT:=top 22
abbrev JE:List χ:=["script","k"]
theorem IK:bO JE ["script","k"] (ar wC):=⟨rfl,rfl,rfl,by decide +kernel,rfl,by decide +kernel,by decide +kernel⟩
abbrev tW:aT:=top 23
abbrev Gs:List χ:=["seed"]
theorem yV:bO Gs ["seed"] (ar tW):=⟨rfl,rfl,rfl,by decide +kernel,rfl,by decide +kernel,by decide +kernel⟩
abbrev t5:aT:=top 24
abbrev Gy:List χ:=["cell","left"]
theorem yY:bO Gy ["cell"] (ar t5):=⟨rfl,rfl,rfl,by decide +kernel,rfl,by decide +kernel,by decide +kernel⟩
abbrev tY:aT:=top 25
abbrev Gv:List χ:=["pen","many","found"]
theorem yX:bO Gv ["pen","many"] (ar tY):=⟨rfl,rfl,rfl,by decide +kernel,rfl,by decide +kernel,by decide +kernel⟩
abbrev tZ:aT:=top 26
abbrev Gw:List χ:=["found"]
theorem E8:bO Gw ["found"] (ar tZ):=⟨rfl,rfl,rfl,by decide +kernel,rfl,by decide +kernel,by decide +kernel⟩
abbrev j9:aT:=top 27
abbrev og:List χ:=["n","left","found","step","own","rest"]
theorem nS:bO og ["n","left"] (ar j9):=⟨rfl,rfl,rfl,by decide +kernel,rfl,by decide +kernel,by decide +kernel⟩
abbrev sZ:aT:=top 28
abbrev Cy:List χ:=["found"]
theorem IQ:bO Cy ["found"] (ar sZ):=⟨rfl,rfl,rfl,by decide +kernel,rfl,by decide +kernel,by decide +kernel⟩
abbrev nL:aT:=top 29
abbrev uy:List χ:=["n","due","turn","found","many"]
theorem nR:bO uy ["n"] (ar nL):=⟨rfl,rfl,rfl,by decide +kernel,rfl,by decide +kernel,by decide +kernel⟩
abbrev t6:aT:=top 30
abbrev Gz:List χ:=["script","pen","first","turn","n","found"]
theorem lL:bO Gz ["script"] (ar t6):=⟨rfl,rfl,rfl,by decide +kernel,rfl,by decide +kernel,by decide +kernel⟩
set_option genInjectivity false in
structure Dc where
 Bu:ζ
 BI:aJ
 Bx:ζ
 BL:aJ
 Bz:ζ
 BN:aJ
 Bv:ζ
 BJ:aJ
 Bw:ζ
 BK:aJ
 xP:ζ
 yc:aJ
 Bs:ζ
 BG:aJ
 Bt:ζ
 BH:aJ
 xM:ζ
 x9:aJ
 tE:ζ
 tG:aJ
 xQ:ζ
 yd:aJ
 xO:ζ
 yb:aJ
 Bp:ζ
 BE:aJ
 Bq:ζ
 BF:aJ
 xN:ζ
 ya:aJ
 xU:ζ
 yh:aJ
 xR:ζ
 ye:aJ
 xT:ζ
 yg:aJ
 tD:ζ
 tF:aJ
 By:ζ
 BM:aJ
 xS:ζ
 yf:aJ
 xV:ζ
 qQ:aJ
 rn:Tok
structure Txt(K:η)(mg:χ->Option γ)(t:Dc):Prop where
 Iv:fg K "refuse_above" "refuse_above" wG t.Bu t.BI
 La:mg "refuse_above" = some (.ref t.Bu)
 LB:Binds K t.BI ["many","most"] []
 BW:fg K "common_divisor" "common_divisor" wJ t.Bx t.BL
 GC:mg "common_divisor" = some (.ref t.Bx)
 Ic:Binds K t.BL ["one","other"] []
 IA:fg K "common_multiple" "common_multiple" wK t.Bz t.BN
 Lf:mg "common_multiple" = some (.ref t.Bz)
 LG:Binds K t.BN ["numbers"] []
 Iw:fg K "counts_within" "counts_within" wH t.Bv t.BJ
 Lb:mg "counts_within" = some (.ref t.Bv)
 LC:Binds K t.BJ ["clocks","many"] []
 Iy:fg K "first_counted" "first_counted" wI t.Bw t.BK
 Lc:mg "first_counted" = some (.ref t.Bw)
 LD:Binds K t.BK ["clock","counts","many"] []
 C7:fg K "round_of" "round_of" qk t.xP t.yc
 JN:mg "round_of" = some (.ref t.xP)
 Kp:Binds K t.yc ["clocks"] []
 Ir:fg K "first_missed" "first_missed" wD t.Bs t.BG
 K8:mg "first_missed" = some (.ref t.Bs)
 Lz:Binds K t.BG ["clocks"] []
 Iu:fg K "first_within" "first_within" wF t.Bt t.BH
 K9:mg "first_within" = some (.ref t.Bt)
 LA:Binds K t.BH ["clocks","clock"] []
 yp:fg K "exact_of" "exact_of" nJ t.xM t.x9
 Cz:mg "exact_of" = some (.ref t.xM)
 CW:Binds K t.x9 ["n"] []
 yt:fg K "exact_from" "exact_from" t4 t.tE t.tG
 CC:mg "exact_from" = some (.ref t.tE)
 C0:Binds K t.tG ["steps","clocks"] []
 C8:fg K "grown_at" "grown_at" nK t.xQ t.yd
 JO:mg "grown_at" = some (.ref t.xQ)
 Kq:Binds K t.yd ["steps","clocks","number"] []
 C6:fg K "clear_of" "clear_of" tX t.xO t.yb
 JM:mg "clear_of" = some (.ref t.xO)
 Ko:Binds K t.yb ["clocks","clock"] []
 BV:fg K "exact_many" "exact_many" wB t.Bp t.BE
 GB:mg "exact_many" = some (.ref t.Bp)
 Ib:Binds K t.BE ["n"] []
 Iq:fg K "_law_cell_at" "_law_cell_at" wC t.Bq t.BF
 K7:mg "_law_cell_at" = some (.ref t.Bq)
 Ly:Binds K t.BF ["script","k"] []
 yq:fg K "_law_next" "_law_next" tW t.xN t.ya
 CA:mg "_law_next" = some (.ref t.xN)
 CY:Binds K t.ya ["seed"] []
 C9:fg K "_law_pen_of" "_law_pen_of" t5 t.xU t.yh
 JP:mg "_law_pen_of" = some (.ref t.xU)
 Kr:Binds K t.yh ["cell"] []
 tI:fg K "_law_draw" "_law_draw" tY t.xR t.ye
 xj:mg "_law_draw" = some (.ref t.xR)
 yj:Binds K t.ye ["pen","many"] []
 qZ:fg K "_law_whole" "_law_whole" tZ t.xT t.yg
 tv:mg "_law_whole" = some (.ref t.xT)
 tH:Binds K t.yg ["found"] []
 tJ:fg K "_law_filled" "_law_filled" j9 t.tD t.tF
 xk:mg "_law_filled" = some (.ref t.tD)
 yk:Binds K t.tF ["n","left"] []
 Iz:fg K "_law_clocks_are" "_law_clocks_are" sZ t.By t.BM
 Ld:mg "_law_clocks_are" = some (.ref t.By)
 LF:Binds K t.BM ["found"] []
 yr:fg K "_law_right" "_law_right" nL t.xS t.yf
 CB:mg "_law_right" = some (.ref t.xS)
 CZ:Binds K t.yf ["n"] []
 Kt:fg K "law" "law" t6 t.xV t.qQ
 JR:mg "law" = some (.ref t.xV)
 Mh:Binds K t.qQ ["script"] []
 rK:mg "MOST_NUMBERS" = some (.int 10000 t.rn)
 CF:mg "all" = none
 GD:mg "bool" = none
 CD:mg "int" = none
 gC:mg "isinstance" = none
 qE:mg "len" = none
 uB:mg "list" = none
 JQ:mg "max" = none
 gO:mg "range" = none
 mN:mg "sorted" = none
 o7:mg "tuple" = none
section
variable {P:aq} {w:aC} {K:η} {mg:χ->Option γ} {base:az} {t:Dc}
theorem GY:∀ds G Q,qm ds G Q->ds.length=2:=by
 intro ds G Q h;obtain⟨_,_,rfl,_⟩:=h;rfl
theorem Jt(T:Txt K mg t):cx P w K mg base 1 t.Bu t.BI ["many","most"] qm:=by
 refine fh (k:=0) (sp:=qm) T.Iv IP (by decide) GY B3 (fun cdv A outer s H E hr=>?_) Jb;refine aY (gM (dt Lj Jo (ι (pv 0)) (ι (pv 1)) (ee _)) (aY AU) fH)
theorem Hd:∀ds G Q,oV ds G Q->ds.length=2:=by
 intro ds G Q h;obtain⟨_,_,rfl,_⟩:=h;rfl
theorem Cw(T:Txt K mg t):cx P w K mg base 1 t.Bx t.BL ["one","other"] oV:=by
 refine fh (k:=0) (sp:=oV) T.BW td (by decide) Hd B6 (fun cdv A outer s H E hr=>?_) Je;refine aV ?_ (aY (bQ (ι (pv 0))));refine AR cA (dt Hh (zr hr.units) (ι (pv 1)) ax (ee _)) ?_;refine aV (dg (i:=2) td.nd (bY gQ fI (ι (pv 0)) (ι (pv 1)))) ?_;refine aV (dg (i:=0) td.nd (ι (pv 1))) (aY (dg (i:=1) td.nd (ι (pv 2))))
theorem Hf:∀ds G Q,qr ds G Q->ds.length=1:=by
 intro ds G Q h;obtain⟨_,_,rfl,_⟩:=h;rfl
theorem Jx(T:Txt K mg t):cx P w K mg base 2 t.Bz t.BN ["numbers"] qr:=by
 refine fh (k:=1) (sp:=qr) T.IA tf (by decide) Hf B7 (fun cdv A outer s H E hr=>?_) Jf;refine aV (dg (i:=1) tf.nd ax) (aV ?_ (aY (bQ (ι (pv 1)))));refine iy cA rfl (fk (ι (pv 0))) (cb (i:=2) tf.nd) (aY ?_);refine dg (i:=1) tf.nd (bY tw o6 (ι (pv 1)) (bY xt qa (ι (pv 2)) ?_));refine bq ((Cw T).mono (by decide)) hr T.GC T.BW.kp T.Ic ?_;refine π (ι (pv 1)) (π (ι (pv 2)) af)
theorem GZ:∀ds G Q,qo ds G Q->ds.length=2:=by
 intro ds G Q h;obtain⟨_,_,rfl,_⟩:=h;rfl
theorem Ju(T:Txt K mg t):cx P w K mg base 2 t.Bv t.BJ ["clocks","many"] qo:=by
 refine fh (k:=1) (sp:=qo) T.Iw qt (by decide) GZ B4 (fun cdv A outer s H E hr=>?_) Jc;refine aV (oZ ?_) ?_;refine bq ((Jt T).mono (by decide)) hr T.La T.Iv.kp T.LB ?_;refine π (ι (pv 1)) (π (DG T.rK) af);refine aV (dg (i:=2) qt.nd (bY tw o6 (jj (π ax af)) (ι (pv 1)))) ?_;refine aV ?_ (aY (bQ (ι (pv 2))));refine iy cA rfl (fk (ι (pv 0))) ?_ (aY ?_);refine ze rfl (mK (cb (i:=3) qt.nd) (mK (cb (i:=4) qt.nd) vJ));refine iy cA rfl (vH T.gO (π (ι (pv 4)) (π (ι (pv 1)) (π (ι (pv 3)) af)))) ?_ ?_;refine cb (i:=5) qt.nd;refine aY (wZ (ι (pv 2)) (ι (pv 5)) ax)
theorem Hc:∀ds G Q,qp ds G Q->ds.length=3:=by
 intro ds G Q h;obtain⟨_,_,_,_,_,rfl,_⟩:=h;rfl
theorem Jv(T:Txt K mg t):cx P w K mg base 1 t.Bw t.BK ["clock","counts","many"] qp:=by
 refine fh (k:=0) (sp:=qp) T.Iy Cb (by decide) Hc B5 (fun cdv A outer s H E hr=>?_) Jd;refine aV ?_ (aY (bQ zg));refine iy cA rfl (vH T.gO ?_) (cb (i:=3) Cb.nd) ?_;refine π (fD (ι (pv 0)) ax) (π (lP hr.units T.qE (π (ι (pv 1)) af)) (π (fD (ι (pv 0)) ax) af));refine aY (gM (dt kj (gB hr.units) (fD (ι (pv 1)) (ι (pv 3))) (ι (pv 2)) (ee _)) (aY (bQ (ι (pv 3)))) fH)
theorem Ed:∀ds G Q,nN ds G Q->ds.length=1:=by
 intro ds G Q h;obtain⟨_,rfl,_⟩:=h;rfl
theorem Gg(T:Txt K mg t):cx P w K mg base 3 t.xP t.yc ["clocks"] nN:=by
 refine fh (k:=2) (sp:=nN) T.C7 E7 (by decide) Ed yD (fun cdv A outer s H E hr=>?_) Fj;refine aY (bQ ?_);refine bq ((Jx T).mono (by decide)) hr T.Lf T.IA.kp T.LG (π ?_ af);refine gN rfl (show cN zz (ar qk) _ ["clock"] [] from⟨rfl,by decide +kernel,by decide +kernel,by decide +kernel,by decide +kernel,by decide +kernel⟩) ?_ ?_;refine fk (ι (pv 0));intro s0 H0 fp0;refine⟨(cb (i:=0) (show (["clock"]:List χ).Nodup by decide +kernel)),iV,(fD (ι (pv 0)) ax)⟩
theorem GX:∀ds G Q,eU ds G Q->ds.length=2:=by
 intro ds G Q h;obtain⟨_,_,rfl,_⟩:=h;rfl
theorem Js(T:Txt K mg t):cx P w K mg base 4 t.Bt t.BH ["clocks","clock"] eU:=by
 refine fh (k:=3) (sp:=eU) T.Iu IM (by decide) GX j7 (fun cdv A outer s H E hr=>?_) pW;refine aY (bQ ?_);refine bq ((Jv T).mono (by decide)) hr T.Lc T.Iy.kp T.LD ?_;refine π (ι (pv 1)) (π ?_ (π ax af));refine bq ((Ju T).mono (by decide)) hr T.Lb T.Iw.kp T.LC (π (ι (pv 0)) (π ?_ af));refine bq ((Gg T).mono (by decide)) hr T.JN T.C7.kp T.Kp ?_;refine π (bY iC fJ (ι (pv 0)) (iz (π (ι (pv 1)) af))) af
theorem GW:∀ds G Q,eV ds G Q->ds.length=1:=by
 intro ds G Q h;obtain⟨_,rfl,_⟩:=h;rfl
theorem Jr(T:Txt K mg t):cx P w K mg base 5 t.Bs t.BG ["clocks"] eV:=by
 refine fh (k:=4) (sp:=eV) T.Ir IL (by decide) GW j8 (fun cdv A outer s H E hr=>?_) pX;refine aY (bQ ?_);refine bq ((Js T).mono (by decide)) hr T.K9 T.Iu.kp T.LA ?_;refine π (ι (pv 0)) (π (iz (π ax (π ax af))) af)
theorem Ec:∀ds G Q,nM ds G Q->ds.length=2:=by
 intro ds G Q h;obtain⟨_,_,rfl,_⟩:=h;rfl
theorem Gf(T:Txt K mg t):cx P w K mg base 2 t.xO t.yb ["clocks","clock"] nM:=by
 refine fh (k:=1) (sp:=nM) T.C6 ub (by decide) Ec yC (fun cdv A outer s H E hr=>?_) Fi;refine aV ?_ (aY (bQ o4));refine iy cA rfl (fk (ι (pv 0))) ?_ (aY ?_);refine ze rfl (mK (cb (i:=2) ub.nd) (mK (cb (i:=3) ub.nd) vJ));refine gM (dt kj (gB hr.units) ?_ ax (ee _)) (aY (bQ o4)) fH;refine bY gQ fI (bY xp um (ι (pv 3)) (fD (ι (pv 1)) ax)) ?_;refine bq ((Cw T).mono (by decide)) hr T.GC T.BW.kp T.Ic ?_;refine π (ι (pv 2)) (π (fD (ι (pv 1)) ax) af)
theorem Ee:∀ds G Q,nO ds G Q->ds.length=3:=by
 intro ds G Q h;obtain⟨_,_,_,_,rfl,_⟩:=h;rfl
theorem Gh(T:Txt K mg t):cx P w K mg base 3 t.xQ t.yd ["steps","clocks","number"] nO:=by
 refine fh (k:=2) (sp:=nO) T.C8 yW (by decide) Ee yE (fun cdv A outer s H E hr=>?_) Fk;refine aV ?_ (aY (bQ ?_));refine mJ (i:=3) rfl yW.nd (show cN ux (ar nK) _ ["step"] [2] from⟨rfl,by decide +kernel,by decide +kernel,by decide +kernel,by decide +kernel,by decide +kernel⟩) ?_ ?_;refine fk (ι (pv 0));intro s0 H0 fp0;refine⟨(cb (i:=0) (show (["step","number"]:List χ).Nodup by decide +kernel)),iV,?_⟩;refine iz (π (ι (pv 0)) (π (bY gQ fI (ι (pv 1)) (ι (pv 0))) af));refine gN rfl (show cN ux (ar nK) _ ["clock"] [1] from⟨rfl,by decide +kernel,by decide +kernel,by decide +kernel,by decide +kernel,by decide +kernel⟩) ?_ ?_;refine fk (ι (pv 3));intro s0 H0 fp0;refine⟨(cb (i:=0) (show (["clock","clocks"]:List χ).Nodup by decide +kernel)),(lR ?_),?_⟩;refine jX (bq ((Gf T).mono (by decide)) hr T.JM T.C6.kp T.Ko (π (ι (pv 1)) (π (ι (pv 0)) af)));refine bY iC fJ (ι (pv 1)) (iz (π (ι (pv 0)) af))
theorem Ej(n:Nat):∀ds G Q,jh n ds G Q->ds.length=2:=by
 intro ds G Q h;obtain⟨_,_,_,rfl,_⟩:=h;rfl
theorem vP(T:Txt K mg t):∀n:Nat,cx P w K mg base (5+n) t.tE t.tG ["steps","clocks"] (jh n)
 |0=>uM Gr
 |n+1=>by
  have ih:=vP T n
  ·refine fh (k:=5+n) (sp:=jh (n+1)) T.yt qu (by decide) (Ej (n+1)) (yJ n) (fun cdv A outer s H E hr=>?_) (Fo n);refine aV (dg (i:=2) qu.nd ?_) ?_;refine bq ((Jr T).mono (aD (by decide:_≤5) (kG _ _))) hr T.K8 T.Ir.kp T.Lz ?_;refine π (ι (pv 1)) af;refine aV (gM (dt Li FY (ι (pv 2)) zg (ee _)) (aY (bQ (jj (π (ι (pv 1)) af)))) fH) ?_;refine aV (dg (i:=3) qu.nd (jj af)) (aV ?_ (aY (bQ (ι (pv 3)))));refine iy cA rfl (fk ?_) (cb (i:=4) qu.nd) (aY (oZ ?_));refine bq ((Gh T).mono (aD (by decide:_≤5) (kG _ _))) hr T.JO T.C8.kp T.Kq ?_;refine π (ι (pv 0)) (π (ι (pv 1)) (π (ι (pv 2)) af));refine ui sv kC kB sr (ι (pv 3)) ?_;refine π (bq (ih.mono (ω _)) hr T.CC T.yt.kp T.C0 (π (ι (pv 0)) (π (ι (pv 4)) af))) af
theorem Gi(T:Txt K mg t):cx P w K mg base 45 t.tE t.tG ["steps","clocks"] (jh 40):=(vP T 40)
theorem Ea:∀ds G Q,lG ds G Q->ds.length=1:=by
 intro ds G Q h;obtain⟨_,rfl,_⟩:=h;rfl
theorem zt(T:Txt K mg t):cx P w K mg base 46 t.xM t.x9 ["n"] lG:=by
 refine fh (k:=45) (sp:=lG) T.yp yU (by decide) Ea yA (fun cdv A outer s H E hr=>?_) Fg;refine aV ?_ (aY (bQ (nW hr.units T.mN (π ?_ af))));refine mJ (i:=1) rfl yU.nd (show cN uw (ar nJ) _ ["step"] [0] from⟨rfl,by decide +kernel,by decide +kernel,by decide +kernel,by decide +kernel,by decide +kernel⟩) ?_ ?_;refine vI T.gO (π ax (π (bY iC fJ (ι (pv 0)) ax) af));intro s0 H0 fp0;refine⟨(cb (i:=0) (show (["step","n"]:List χ).Nodup by decide +kernel)),?_,(ι (pv 0))⟩;refine lR (dt kj (gB hr.units) (bY gQ fI (ι (pv 1)) (ι (pv 0))) ax (ee _));refine gN rfl (show cN uw (ar nJ) _ ["clocks"] [] from⟨rfl,by decide +kernel,by decide +kernel,by decide +kernel,by decide +kernel,by decide +kernel⟩) ?_ ?_;refine fk ?_;refine bq ((Gi T).mono (by decide)) hr T.CC T.yt.kp T.C0 (π (ι (pv 1)) (π (iz af) af));intro s0 H0 fp0;refine⟨(cb (i:=0) (show (["clocks"]:List χ).Nodup by decide +kernel)),iV,?_⟩;refine sk hr.units T.o7 (π (uh hr.units (ι (pv 0)) T.mN) af)
theorem GU:∀ds G Q,oU ds G Q->ds.length=1:=by
 intro ds G Q h;obtain⟨_,rfl,_⟩:=h;rfl
theorem Cv(T:Txt K mg t):cx P w K mg base 47 t.Bp t.BE ["n"] oU:=by
 refine fh (k:=46) (sp:=oU) T.BV IJ (by decide) GU BZ (fun cdv A outer s H E hr=>?_) IZ;refine aY (bQ (lP hr.units T.qE ?_));refine π (bq ((zt T).mono (by decide)) hr T.Cz T.yp.kp T.CW (π (ι (pv 0)) af)) af
theorem GV:∀ds G Q,ql ds G Q->ds.length=2:=by
 intro ds G Q h;obtain⟨_,_,rfl,_⟩:=h;rfl
theorem Jq(T:Txt K mg t):cx P w K mg base 1 t.Bq t.BF ["script","k"] ql:=by
 refine fh (k:=0) (sp:=ql) T.Iq IK (by decide) GV B0 (fun cdv A outer s H E hr=>?_) Ja;refine aV ?_ (aY (bQ ax));refine gM (dt JV (FX hr.EI) (ι (pv 1)) (lP hr.units T.qE (π (ι (pv 0)) af)) (ee _)) ?_ fH;refine aY (bQ (fD (ι (pv 0)) (ι (pv 1))))
theorem Eb:∀ds G Q,lH ds G Q->ds.length=1:=by
 intro ds G Q h;obtain⟨_,rfl,_⟩:=h;rfl
theorem zu(T:Txt K mg t):cx P w K mg base 1 t.xN t.ya ["seed"] lH:=by
 refine fh (k:=0) (sp:=lH) T.yq yV (by decide) Eb yB (fun cdv A outer s H E hr=>?_) Fh;refine aV (dg (i:=0) yV.nd (bY gQ fI (bY iC fJ (ι (pv 0)) ax) ax)) ?_;refine aY (bQ (bY gQ fI ?_ ax));refine bY iC fJ (bY iC fJ (bY tw o6 (ι (pv 0)) (ι (pv 0))) (bY tw o6 ax (ι (pv 0)))) ax
theorem Ek:∀ds G Q,gL ds G Q->ds.length=1:=by
 intro ds G Q h;obtain⟨_,rfl,_⟩:=h;rfl
theorem Gj(T:Txt K mg t):cx P w K mg base 1 t.xU t.yh ["cell"] t8:=by
 refine gY.imp ?_ DP;refine fh (k:=0) (sp:=gL) T.C9 yY (by decide) Ek yK (fun cdv A outer s H E hr=>?_) rA;refine aV (dg (i:=1) yY.nd (DE hr.units T.JQ (π (ι (pv 0)) (π (bY xp um ax (ι (pv 0))) af)))) ?_;refine aY (bQ (jj (π (ι (pv 1)) ?_)));refine π (DF hr.units T.CD (π (uj Ll Jp (ι (pv 1)) (bY JU FV ax ax) (ee _)) af)) ?_;refine π (bY gQ fI (ι (pv 1)) ax) af
theorem Ef:∀ds G Q,iw ds G Q->ds.length=2:=by
 intro ds G Q h;obtain⟨_,_,_,_,_,rfl,_⟩:=h;rfl
theorem uo(T:Txt K mg t):cx P w K mg base 2 t.xR t.ye ["pen","many"] nP:=by
 refine gY.imp ?_ BD;refine fh (k:=1) (sp:=iw) T.tI yX (by decide) Ef yF (fun cdv A outer s H E hr=>?_) uf;refine aV ?_ ?_;refine gM (dt kj (gB hr.units) (fD (ι (pv 0)) ax) ax (ee _)) ?_ fH;refine aV (dg (i:=2) yX.nd (bY gQ fI (fD (ι (pv 0)) ax) (ι (pv 1)))) ?_;refine aV (zd (bY xt qa (fD (ι (pv 0)) ax) (ι (pv 1))) (zf (ι (pv 0)) ax)) (aY (bQ (ι (pv 2))));refine aV (zd ?_ (zf (ι (pv 0)) ax)) ?_;refine bq ((zu T).mono (by decide)) hr T.CA T.yq.kp T.CY (π ?_ af);refine bY iC fJ (bq ((zu T).mono (by decide)) hr T.CA T.yq.kp T.CY (π (fD (ι (pv 0)) ax) af)) (ax);refine aY (bQ (bY gQ fI (bY xt qa (fD (ι (pv 0)) ax) ax) (ι (pv 1))))
theorem Eh:∀ds G Q,ka ds G Q->ds.length=1:=by
 intro ds G Q h
 first
  | (rcases ds with _|⟨_,_|⟨_,_|⟨_,_|⟨_,_⟩⟩⟩⟩<;>first|rfl|exact h.elim)
  | (obtain⟨rfl,_⟩:=h;rfl)
  | (obtain⟨_,rfl,_⟩:=h;rfl)
  | (obtain⟨_,_,rfl,_⟩:=h;rfl)
  | (obtain⟨_,_,_,rfl,_⟩:=h;rfl)
  | (obtain⟨_,_,_,_,rfl,_⟩:=h;rfl)
  | (obtain⟨_,_,_,_,_,rfl,_⟩:=h;rfl)
  | (obtain⟨_,_,_,_,_,_,rfl,_⟩:=h;rfl)
  | (obtain⟨_,_,_,_,_,_,_,rfl,_⟩:=h;rfl)
  | (obtain⟨_,_,_,_,_,_,_,_,rfl,_⟩:=h;rfl)
theorem qC(T:Txt K mg t):cx P w K mg base 1 t.xT t.yg ["found"] ka:=by
 refine fh (k:=0) (sp:=ka) T.qZ E8 (by decide) Eh ES (fun cdv A outer s H E hr=>?_) Fm;refine aY (bQ ?_);refine nX (lQ Er rfl (ι (pv 0)) T.gC T.CD rfl (by decide) (by decide)) ?_;refine qx (FC (lQ Ba rfl (ι (pv 0)) T.gC T.GD rfl (by decide) (by decide)))
theorem Ei(n:Nat):∀ds G Q,iu n ds G Q->ds.length=2:=by
 intro ds G Q h
 first
  | (rcases ds with _|⟨_,_|⟨_,_|⟨_,_|⟨_,_⟩⟩⟩⟩<;>first|rfl|exact h.elim)
  | (obtain⟨rfl,_⟩:=h;rfl)
  | (obtain⟨_,rfl,_⟩:=h;rfl)
  | (obtain⟨_,_,rfl,_⟩:=h;rfl)
  | (obtain⟨_,_,_,rfl,_⟩:=h;rfl)
  | (obtain⟨_,_,_,_,rfl,_⟩:=h;rfl)
  | (obtain⟨_,_,_,_,_,rfl,_⟩:=h;rfl)
  | (obtain⟨_,_,_,_,_,_,rfl,_⟩:=h;rfl)
  | (obtain⟨_,_,_,_,_,_,_,rfl,_⟩:=h;rfl)
  | (obtain⟨_,_,_,_,_,_,_,_,rfl,_⟩:=h;rfl)
theorem vO(T:Txt K mg t):∀n:Nat,cx P w K mg base (0+n) t.tD t.tF ["n","left"] (iu n)
 |0=>uM Gq
 |n+1=>by
  have ih:=vO T n
  ·refine fh (k:=0+n) (sp:=iu (n+1)) T.tJ nS (by decide) (Ei (n+1)) (yI n) (fun cdv A outer s H E hr=>?_) (Fn n);refine aV (gM (dt kj (gB hr.units) (ι (pv 1)) (jj af) (ee _)) (aY (bQ (jj (π (iz af) af)))) fH) ?_;refine aV (dg (i:=2) nS.nd (jj af)) (aV ?_ (aY (bQ (ι (pv 2)))));refine iy cA rfl (vI T.gO (π ax (π (bY iC fJ (ι (pv 0)) ax) af))) (cb (i:=3) nS.nd) ?_;refine aY ?_;refine gM (dt kj (gB hr.units) (bY gQ fI (ι (pv 0)) (ι (pv 3))) ax (ee _)) ?_ fH;refine aV (dg (i:=4) nS.nd ?_) (aY ?_);refine gN rfl (show cN og (ar j9) _ ["number"] [1,3] from⟨rfl,by decide +kernel,by decide +kernel,by decide +kernel,by decide +kernel,by decide +kernel⟩) ?_ ?_;refine rB T.gO (π (ι (pv 0)) af);intro s0 H0 fp0;refine⟨(cb (i:=0) (show (["number","left","step"]:List χ).Nodup by decide +kernel)),(lR ?_),(ι (pv 0))⟩;refine dt kj (gB hr.units) (bY gQ fI (bY xp um (ι (pv 0)) (fD (ι (pv 1)) (zh ax))) (ι (pv 2))) ax (ee _);refine gM (dt kj (gB hr.units) ?_ (jj af) (ee _)) ?_ fH;refine gN rfl (show cN og (ar j9) _ ["number"] [1] from⟨rfl,by decide +kernel,by decide +kernel,by decide +kernel,by decide +kernel,by decide +kernel⟩) ?_ ?_;refine fk (ι (pv 4));intro s0 H0 fp0;refine⟨(cb (i:=0) (show (["number","left"]:List χ).Nodup by decide +kernel)),?_,(ι (pv 0))⟩;refine lR (dt CM (vN hr.units) (ι (pv 0)) (ι (pv 1)) (by with_unfolding_all rfl));refine aV ?_ (aY (oZ ?_));refine mJ (i:=5) rfl nS.nd (show cN og (ar j9) _ ["number"] [4] from⟨rfl,by decide +kernel,by decide +kernel,by decide +kernel,by decide +kernel,by decide +kernel⟩) ?_ ?_;refine fk (ι (pv 1));intro s0 H0 fp0;refine⟨(cb (i:=0) (show (["number","own"]:List χ).Nodup by decide +kernel)),?_,(ι (pv 0))⟩;refine lR (dt CM (vN hr.units) (ι (pv 0)) (ι (pv 1)) (by with_unfolding_all rfl));refine ui sv kC kB sr (ι (pv 2)) (π ?_ af);refine gN rfl (show cN og (ar j9) _ ["more"] [3,1] from⟨rfl,by decide +kernel,by decide +kernel,by decide +kernel,by decide +kernel,by decide +kernel⟩) ?_ ?_;refine fk (bq (ih.mono (ω _)) hr T.xk T.tJ.kp T.yk (π (ι (pv 0)) (π (ι (pv 5)) af)));intro s0 H0 fp0;refine⟨(cb (i:=0) (show (["more","step","left"]:List χ).Nodup by decide +kernel)),iV,(bY iC fJ (ι (pv 0)) ?_)⟩;refine iz (π (iz (π (ι (pv 1)) (π (bY gQ fI (fD (ι (pv 2)) (zh ax)) (ι (pv 1))) af))) af)
theorem zw(T:Txt K mg t):cx P w K mg base 40 t.tD t.tF ["n","left"] (iu 40):=(vO T 40)
theorem He:∀ds G Q,ed ds G Q->ds.length=1:=by
 intro ds G Q h;obtain⟨_,rfl,_⟩:=h;rfl
theorem Jw(T:Txt K mg t):cx P w K mg base 2 t.By t.BM ["found"] ed:=by
 refine fh (k:=1) (sp:=ed) T.Iz IQ (by decide) He jg (fun cdv A outer s H E hr=>?_) nU;refine aV (gM (lO (jX (lQ kit_tuple rfl (ι (pv 0)) T.gC T.o7 rfl (by decide) (by decide)))) (aY (bQ o4)) fH) ?_;refine aY (bQ (vK hr.units T.CF (π ?_ af)));refine gN rfl (show cN Cy (ar sZ) _ ["one"] [] from⟨rfl,by decide +kernel,by decide +kernel,by decide +kernel,by decide +kernel,by decide +kernel⟩) ?_ ?_;refine fk (ι (pv 0));intro s0 H0 fp0;refine⟨(cb (i:=0) (show (["one"]:List χ).Nodup by decide +kernel)),iV,?_⟩;refine nX (lQ kit_tuple rfl (ι (pv 0)) T.gC T.o7 rfl (by decide) (by decide)) ?_;refine nX (bq ((qC T).mono (by decide)) hr T.tv T.qZ.kp T.tH (π (fD (ι (pv 0)) ax) af)) ?_;refine qx (bq ((qC T).mono (by decide)) hr T.tv T.qZ.kp T.tH (π (fD (ι (pv 0)) ax) af))
theorem Eg:∀ds G Q,lJ ds G Q->ds.length=1:=by
 intro ds G Q h
 first
  | (rcases ds with _|⟨_,_|⟨_,_|⟨_,_|⟨_,_⟩⟩⟩⟩<;>first|rfl|exact h.elim)
  | (obtain⟨rfl,_⟩:=h;rfl)
  | (obtain⟨_,rfl,_⟩:=h;rfl)
  | (obtain⟨_,_,rfl,_⟩:=h;rfl)
  | (obtain⟨_,_,_,rfl,_⟩:=h;rfl)
  | (obtain⟨_,_,_,_,rfl,_⟩:=h;rfl)
  | (obtain⟨_,_,_,_,_,rfl,_⟩:=h;rfl)
  | (obtain⟨_,_,_,_,_,_,rfl,_⟩:=h;rfl)
  | (obtain⟨_,_,_,_,_,_,_,rfl,_⟩:=h;rfl)
  | (obtain⟨_,_,_,_,_,_,_,_,rfl,_⟩:=h;rfl)
theorem zv(T:Txt K mg t):cx P w K mg base 48 t.xS t.yf ["n"] lJ:=by
 refine fh (k:=47) (sp:=lJ) T.yr nR (by decide) Eg yG (fun cdv A outer s H E hr=>?_) Fl;refine aV ?_ ?_;refine dg (i:=1) nR.nd (nW hr.units T.mN (π ?_ af));refine gN rfl (show cN uy (ar nL) _ ["clocks"] [] from⟨rfl,by decide +kernel,by decide +kernel,by decide +kernel,by decide +kernel,by decide +kernel⟩) ?_ ?_;refine fk ?_;refine bq ((zw T).mono (by decide)) hr T.xk T.tJ.kp T.yk ?_;refine π (ι (pv 0)) (π (pJ rfl T.gO T.uB (π (ι (pv 0)) af)) af);intro s0 H0 fp0;refine⟨(cb (i:=0) (show (["clocks"]:List χ).Nodup by decide +kernel)),iV,?_⟩;refine sk hr.units T.o7 (π (uh hr.units (ι (pv 0)) T.mN) af);refine aV ?_ ?_;refine iy cA rfl (rB T.gO (π ax af)) (cb (i:=2) nR.nd) ?_;refine aV ?_ ?_;refine dg (i:=3) nR.nd (bq ((zt T).mono (by decide)) hr T.Cz T.yp.kp T.CW (π (ι (pv 0)) af));refine aV (gM (Cr ?_) (aY (bQ o4)) fH) ?_;refine zc (lO (jX (lQ A9 rfl (ι (pv 3)) T.gC T.uB rfl (by decide) (by decide)))) ?_;refine zc (dt Hh (zr hr.units) (ι (pv 3)) (ι (pv 1)) (ee _)) (DC (lO (jX (vK hr.units T.CF (π ?_ af)))));refine gN rfl (show cN uy (ar nL) _ ["clocks"] [] from⟨rfl,by decide +kernel,by decide +kernel,by decide +kernel,by decide +kernel,by decide +kernel⟩) ?_ ?_;refine fk (ι (pv 3));intro s0 H0 fp0;refine⟨(cb (i:=0) (show (["clocks"]:List χ).Nodup by decide +kernel)),iV,?_⟩;refine bq ((Jw T).mono (by decide)) hr T.Ld T.Iz.kp T.LF (π (ι (pv 0)) af);refine aY (oZ (ui zE PySem.F.slot_list_append PySem.F.type_list_append su (ι (pv 3)) (π (iz af) af)));refine aV ?_ (aY (bQ ?_));refine dg (i:=4) nR.nd (bq ((Cv T).mono (by decide)) hr T.GB T.BV.kp T.Ib (π (ι (pv 0)) af));refine nX (bq ((qC T).mono (by decide)) hr T.tv T.qZ.kp T.tH (π (ι (pv 4)) af)) ?_;refine qx (uj kj (gB hr.units) (ι (pv 4)) (lP hr.units T.qE (π (ι (pv 1)) af)) (ee _))
theorem El:∀ds G Q,ji ds G Q->ds.length=1:=by
 intro ds G Q h;obtain⟨_,rfl,_⟩:=h;rfl
theorem Gm(T:Txt K mg t):cx P w K mg base 49 t.xV t.qQ ["script"] ji:=by
 refine fh (k:=48) (sp:=ji) T.Kt lL (by decide) El yM (fun cdv A outer s H E hr=>?_) Fp;refine aV (dg (i:=1) lL.nd ?_) ?_;refine bq ((Gj T).mono (by decide)) hr T.JP T.C9.kp T.Kr ?_;refine π (bq ((Jq T).mono (by decide)) hr T.K7 T.Iq.kp T.Ly (π (ι (pv 0)) (π ax af))) (af);refine aV (dg (i:=2) lL.nd ?_) ?_;refine bq ((uo T).mono (by decide)) hr T.xj T.tI.kp T.yj (π (ι (pv 1)) (π ax af));refine aV ?_ ?_;refine iy cA rfl (rB T.gO (π ax af)) (cb (i:=3) lL.nd) ?_;refine aY (gM (lO (jX ?_)) (aY (bQ o4)) fH);refine bq ((zv T).mono (by decide)) hr T.CB T.yr.kp T.CZ ?_;refine π (bY iC fJ ax (bY gQ fI (bY iC fJ (ι (pv 2)) (ι (pv 3))) ax)) af;refine aV (gM (Cr ?_) (aY (bQ o4)) fH) ?_;refine DD (dt kj (gB hr.units) ?_ ax (ee _)) ?_;refine bq ((uo T).mono (by decide)) hr T.xj T.tI.kp T.yj (π (ι (pv 1)) (π ax af));refine AQ (lO (jX (bq ((zv T).mono (by decide)) hr T.CB T.yr.kp T.CZ (π ax af))));refine aV (dg (i:=4) lL.nd ?_) ?_;refine AV (π ax (π ax (π ax (π ax (π ax (π ax af)))))) ?_;refine bq ((uo T).mono (by decide)) hr T.xj T.tI.kp T.yj (π (ι (pv 1)) (π ax af));refine aV ?_ (aY (bQ ?_));refine dg (i:=5) lL.nd (bq ((Cv T).mono (by decide)) hr T.GB T.BV.kp T.Ib (π (ι (pv 4)) af));refine nX (bq ((qC T).mono (by decide)) hr T.tv T.qZ.kp T.tH (π (ι (pv 5)) af)) (qx ?_);refine uj kj (gB hr.units) (ι (pv 5)) (lP hr.units T.qE (π ?_ af)) (ee _);refine bq ((zw T).mono (by decide)) hr T.xk T.tJ.kp T.yk ?_;refine π (ι (pv 4)) (π (pJ rfl T.gO T.uB (π (ι (pv 4)) af)) af)
end
def gG(K:η)(nm:χ)(st:aT):Prop:=∃f d,fg K nm nm st f d/\cp K bh nm=some (some (.ref f))
theorem cO{K:η}{nm:χ}{st:aT}{f:ζ}{od an:Option ζ}{sl:Array (Option γ)}{oc kV dc pm cd ct:γ}(a:cp K bh nm=some (some (.ref f)))(l:K.lookup f=some ⟨oc,od,.func (fQ nm nm (lZ st) (ig st) (ar st) .none kV dc pm an cd ct),sl⟩)(c:i9 K cd nm=true)(k:fP K (.ref f)=true):gG K nm st:=⟨f,_,HG l c k,a⟩
theorem tM{K:η}{h:az}{mg:χ->Option γ}(X:K.In h)(G:h.Ns bh mg)
  (h0:gG K "refuse_above" wG)
  (h1:gG K "common_divisor" wJ)
  (h2:gG K "common_multiple" wK)
  (h3:gG K "counts_within" wH)
  (h4:gG K "first_counted" wI)
  (h5:gG K "round_of" qk)
  (h6:gG K "first_missed" wD)
  (h7:gG K "first_within" wF)
  (h8:gG K "exact_of" nJ)
  (h9:gG K "exact_from" t4)
  (L7:gG K "grown_at" nK)
  (L6:gG K "clear_of" tX)
  (L5:gG K "exact_many" wB)
  (L4:gG K "_law_cell_at" wC)
  (L1:gG K "_law_next" tW)
  (L0:gG K "_law_pen_of" t5)
  (LZ:gG K "_law_draw" tY)
  (LY:gG K "_law_whole" tZ)
  (LX:gG K "_law_filled" j9)
  (LW:gG K "_law_clocks_are" sZ)
  (LV:gG K "_law_right" nL)
  (LU:gG K "law" t6)
  {t0:Tok} (gint0:cp K bh "MOST_NUMBERS" = some (some (.int 10000 t0)))
  (z0:cp K bh "all" = some none)
  (z1:cp K bh "bool" = some none)
  (z2:cp K bh "int" = some none)
  (z3:cp K bh "isinstance" = some none)
  (z4:cp K bh "len" = some none)
  (z5:cp K bh "list" = some none)
  (z6:cp K bh "max" = some none)
  (z7:cp K bh "range" = some none)
  (z8:cp K bh "sorted" = some none)
  (z9:cp K bh "tuple" = some none)
  : ∃t:Dc,Txt K mg t/\∀(s:ε) (v:γ),mD s t.qQ ⟨[v],[]⟩ [("script",v)]:=by
 obtain⟨f0,d0,F0,a0⟩:=h0;obtain⟨f1,d1,F1,a1⟩:=h1;obtain⟨f2,d2,F2,a2⟩:=h2;obtain⟨f3,d3,F3,a3⟩:=h3;obtain⟨f4,d4,F4,a4⟩:=h4;obtain⟨f5,d5,F5,a5⟩:=h5;obtain⟨f6,d6,F6,a6⟩:=h6;obtain⟨f7,d7,F7,a7⟩:=h7;obtain⟨f8,d8,F8,a8⟩:=h8;obtain⟨f9,d9,F9,a9⟩:=h9;obtain⟨f10,d10,F10,a10⟩:=L7;obtain⟨f11,d11,F11,a11⟩:=L6;obtain⟨f12,d12,F12,a12⟩:=L5;obtain⟨f13,d13,F13,a13⟩:=L4;obtain⟨f14,d14,F14,a14⟩:=L1;obtain⟨f15,d15,F15,a15⟩:=L0;obtain⟨f16,d16,F16,a16⟩:=LZ;obtain⟨f17,d17,F17,a17⟩:=LY;obtain⟨f18,d18,F18,a18⟩:=LX;obtain⟨f19,d19,F19,a19⟩:=LW;obtain⟨f20,d20,F20,a20⟩:=LV;obtain⟨f21,d21,F21,a21⟩:=LU;exact⟨⟨f0,d0,f1,d1,f2,d2,f3,d3,f4,d4,f5,d5,f6,d6,f7,d7,f8,d8,f9,d9,f10,d10,f11,d11,f12,d12,f13,d13,f14,d14,f15,d15,f16,d16,f17,d17,f18,d18,f19,d19,f20,d20,f21,d21,t0⟩,⟨F0,
  aM X G a0,
  F0.binds (ps:=["many","most"]) fun _ _ _ _ _ _ us hl=>by obtain⟨_,_,rfl⟩:=ls hl;rfl,
  F1,
  aM X G a1,
  F1.binds (ps:=["one","other"]) fun _ _ _ _ _ _ us hl=>by obtain⟨_,_,rfl⟩:=ls hl;rfl,
  F2,
  aM X G a2,
  F2.binds (ps:=["numbers"]) fun _ _ _ _ _ _ us hl=>by obtain⟨_,rfl⟩:=jx hl;rfl,
  F3,
  aM X G a3,
  F3.binds (ps:=["clocks","many"]) fun _ _ _ _ _ _ us hl=>by obtain⟨_,_,rfl⟩:=ls hl;rfl,
  F4,
  aM X G a4,
  F4.binds (ps:=["clock","counts","many"]) fun _ _ _ _ _ _ us hl=>by obtain⟨_,_,_,rfl⟩:=Hg hl;rfl,
  F5,
  aM X G a5,
  F5.binds (ps:=["clocks"]) fun _ _ _ _ _ _ us hl=>by obtain⟨_,rfl⟩:=jx hl;rfl,
  F6,
  aM X G a6,
  F6.binds (ps:=["clocks"]) fun _ _ _ _ _ _ us hl=>by obtain⟨_,rfl⟩:=jx hl;rfl,
  F7,
  aM X G a7,
  F7.binds (ps:=["clocks","clock"]) fun _ _ _ _ _ _ us hl=>by obtain⟨_,_,rfl⟩:=ls hl;rfl,
  F8,
  aM X G a8,
  F8.binds (ps:=["n"]) fun _ _ _ _ _ _ us hl=>by obtain⟨_,rfl⟩:=jx hl;rfl,
  F9,
  aM X G a9,
  F9.binds (ps:=["steps","clocks"]) fun _ _ _ _ _ _ us hl=>by obtain⟨_,_,rfl⟩:=ls hl;rfl,
  F10,
  aM X G a10,
  F10.binds (ps:=["steps","clocks","number"]) fun _ _ _ _ _ _ us hl=>by obtain⟨_,_,_,rfl⟩:=Hg hl;rfl,
  F11,
  aM X G a11,
  F11.binds (ps:=["clocks","clock"]) fun _ _ _ _ _ _ us hl=>by obtain⟨_,_,rfl⟩:=ls hl;rfl,
  F12,
  aM X G a12,
  F12.binds (ps:=["n"]) fun _ _ _ _ _ _ us hl=>by obtain⟨_,rfl⟩:=jx hl;rfl,
  F13,
  aM X G a13,
  F13.binds (ps:=["script","k"]) fun _ _ _ _ _ _ us hl=>by obtain⟨_,_,rfl⟩:=ls hl;rfl,
  F14,
  aM X G a14,
  F14.binds (ps:=["seed"]) fun _ _ _ _ _ _ us hl=>by obtain⟨_,rfl⟩:=jx hl;rfl,
  F15,
  aM X G a15,
  F15.binds (ps:=["cell"]) fun _ _ _ _ _ _ us hl=>by obtain⟨_,rfl⟩:=jx hl;rfl,
  F16,
  aM X G a16,
  F16.binds (ps:=["pen","many"]) fun _ _ _ _ _ _ us hl=>by obtain⟨_,_,rfl⟩:=ls hl;rfl,
  F17,
  aM X G a17,
  F17.binds (ps:=["found"]) fun _ _ _ _ _ _ us hl=>by obtain⟨_,rfl⟩:=jx hl;rfl,
  F18,
  aM X G a18,
  F18.binds (ps:=["n","left"]) fun _ _ _ _ _ _ us hl=>by obtain⟨_,_,rfl⟩:=ls hl;rfl,
  F19,
  aM X G a19,
  F19.binds (ps:=["found"]) fun _ _ _ _ _ _ us hl=>by obtain⟨_,rfl⟩:=jx hl;rfl,
  F20,
  aM X G a20,
  F20.binds (ps:=["n"]) fun _ _ _ _ _ _ us hl=>by obtain⟨_,rfl⟩:=jx hl;rfl,
  F21,
  aM X G a21,
  F21.binds (ps:=["script"]) fun _ _ _ _ _ _ us hl=>by obtain⟨_,rfl⟩:=jx hl;rfl,
  aM X G gint0,
  b5 X G z0,
  b5 X G z1,
  b5 X G z2,
  b5 X G z3,
  b5 X G z4,
  b5 X G z5,
  b5 X G z6,
  b5 X G z7,
  b5 X G z8,
  b5 X G z9⟩,fun s v=>by
  obtain⟨_,_,_,_,_,_,_,_,_,rfl,_⟩:=F21.ex;exact .of_eq rfl⟩
theorem E2(K:η)(H:Hp)(a:ζ)(ns:List Int)(hl:ns.length≤63)(ho:yn H)(hS:fo K H a (ns.map V.int)):jM K ji [.ref a] H (fun v _=>v=.bl true) fun _ _ _=>False:=by
 refine⟨[.gf (ns.map .int)],fun _=>none,fun d _=>d=.bl true,.cons ?_ .nil,(fun _ _ e=>nomatch e),⟨ns,rfl,hl,rfl⟩,fun v H' d G' hv _ _ q=>?_⟩
 ·unfold Hv;refine⟨a,ns.map V.int,rfl,?_,aB.ints ns⟩;rcases hS with (h|h)|h
  ·rcases ho a with z|⟨o,xs,z⟩
   ·rw[z] at h;cases h
   ·rw[z] at h;cases h
  ·exact .inl h
  ·exact .inr h
 ·subst q;exact qL hv
theorem walk{l:rh}{q:aq}{loose:List χ}{XP:(χ->Option γ)->az->Prop}{YP:aC->az->Prop}{d:DefRec}{K:Params->η}(hn:l.most=some 63)(hdf:d.params.defaults=[])
  (hY:∀(w:aC) (h:az),YP w h->(K w.params).In h)
  (F:∀(w:aC) (mg:χ->Option γ) (fa:ζ) (h:az),(K w.params).In h->h.Ns bh mg->mg d.name=some (.ref fa) ->
   ∃fd:aJ,(∀(s:ε) (u:γ),mD s fd ⟨[u],[]⟩ [("script",u)])/\∀base:az,(K w.params).In base->base.Ns bh mg->gY l.prog w (K w.params) mg base sP 49 fa fd ["script"] (jM (K w.params) ji)):
  PySem.W.WalkO q loose XP YP l.row.toRowW d [] (fun f vs=>rb f vs):=
 L2.vp (n:=63) (k:=49) (x:="script") (CX:=fun _=>sP) (sp:=fun w=>jM (K w.params) ji) hn (by decide) hdf ⟨rfl,by decide,by decide⟩ hY F (fun w H a ns hl ho hS=>E2 (K w.params) H a ns hl ho hS) fun _ _ _ _ _ z=>z
end My
open PySem PySem.W PyProof.Rows
set_option maxRecDepth 100000 in
set_option maxHeartbeats 0 in
theorem PySem.Challenge.cw_coverclocks_k62_exact_clocks_of_a_round_holds : PySem.Challenge.rw_coverclocks_k62_exact_clocks_of_a_round.Holds := by
 w_on;o_law;k_head;(case hw=>w_witness2)
 k_fill
 refine My.walk (l:=PySem.Challenge.rw_coverclocks_k62_exact_clocks_of_a_round) rfl rfl (fun w h Y=>PySem.W.kIn_of Y) ?F
 case F=>
  intro w mg fa h KX G hmg
  refine' Exists.elim (My.tM KX G (My.cO ?a0 ?l0 ?c0 ?k0) (My.cO ?a1 ?l1 ?c1 ?k1) (My.cO ?a2 ?l2 ?c2 ?k2) (My.cO ?a3 ?l3 ?c3 ?k3) (My.cO ?a4 ?l4 ?c4 ?k4) (My.cO ?a5 ?l5 ?c5 ?k5) (My.cO ?a6 ?l6 ?c6 ?k6) (My.cO ?a7 ?l7 ?c7 ?k7) (My.cO ?a8 ?l8 ?c8 ?k8) (My.cO ?a9 ?l9 ?c9 ?k9) (My.cO ?a10 ?l10 ?c10 ?k10) (My.cO ?a11 ?l11 ?c11 ?k11) (My.cO ?a12 ?l12 ?c12 ?k12) (My.cO ?a13 ?l13 ?c13 ?k13) (My.cO ?a14 ?l14 ?c14 ?k14) (My.cO ?a15 ?l15 ?c15 ?k15) (My.cO ?a16 ?l16 ?c16 ?k16) (My.cO ?a17 ?l17 ?c17 ?k17) (My.cO ?a18 ?l18 ?c18 ?k18) (My.cO ?a19 ?l19 ?c19 ?k19) (My.cO ?a20 ?l20 ?c20 ?k20) (My.cO ?a21 ?l21 ?c21 ?k21) ?gint0 ?z0 ?z1 ?z2 ?z3 ?z4 ?z5 ?z6 ?z7 ?z8 ?z9) ?fin
  case a0|l0|c0|k0|a1|l1|c1|k1|a2|l2|c2|k2|a3|l3|c3|k3|a4|l4|c4|k4|a5|l5|c5|k5|a6|l6|c6|k6|a7|l7|c7|k7|a8|l8|c8|k8|a9|l9|c9|k9=>k_is
  case a10|l10|c10|k10|a11|l11|c11|k11|a12|l12|c12|k12|a13|l13|c13|k13|a14|l14|c14|k14|a15|l15|c15|k15|a16|l16|c16|k16|a17|l17|c17|k17|a18|l18|c18|k18|a19|l19|c19|k19=>k_is
  case a20|l20|c20|k20|a21|l21|c21|k21|gint0|z0|z1|z2|z3|z4|z5|z6|z7|z8|z9=>k_is
  case fin=>
   rintro t ⟨T,b⟩
   have e2:=hmg.symm.trans T.JR
   cases e2
   exact⟨t.qQ,b,fun base _ _=>My.Gm T⟩
