import PyProof.Rows.All
import Wide.All
import OpenK.AllK
import Wide.FinOn
import Lean
import PyProof.EqAt
import PyProof.EqKinds
import PyProof.TupleCall
import PyProof.NeKinds
import KE.KSortAsk
import PySem.SetTable
import PyProof.SetKind
import PyProof.TupleKey
import PyProof.IsRules
import PyProof.DictKinds
import PyProof.FactsAll.set
import PyProof.RangeIter
import PyProof.Seq
import PyProof.ForAny
import PyProof.WalksMore
import PyProof.CollectWalk
import PyProof.CollectIter
import PyProof.WalksS
import PyProof.Rows.SetFrom
import KE.KSortTup
import PyProof.Draws
import PyProof.Rows.Range3
import PyProof.ExcClass2
import PyProof.InstSpecial
import PyProof.RaisesMany
import PyProof.Rows.Own
import KE.KTryDeep
import PyProof.InstStoreFacts
import PyProof.ExcArgs
import PyProof.SetRoads
import PyProof.Rows.CallKwBuiltin
import KE.KMinKey
import PyProof.NsDelKeeps
import PySem.Challenge.RW_coverclocks_k02_clocks_made
set_option Elab.async false
set_option linter.all false
set_option maxRecDepth 100000
set_option maxHeartbeats 6400000
namespace PySem.W.Fast
def tw10919959403904536637:=0
def tw10967891161016938134:=0
def tw1130788693510441417:=0
def tw11315386394232998011:=0
def tw1219470469930343421:=0
def tw12313392888805236670:=0
def tw12552664189514462055:=0
def tw12618924480429444732:=0
def tw12792825743529534364:=0
def tw12825202896612130323:=0
def tw12862540893520944944:=0
def tw12978504861643290142:=0
def tw13059938759891823801:=0
def tw13628446766687927871:=0
def tw13748726152945548533:=0
def tw13937258879559885813:=0
def tw14717320139361282824:=0
def tw1472300896568765910:=0
def tw14802822270836737005:=0
def tw14883538266751370860:=0
def tw14918018387764418665:=0
def tw1503252608380116333:=0
def tw15183034103769834730:=0
def tw15435550848505752521:=0
def tw15446286756334954988:=0
def tw15572469979078180091:=0
def tw15612480528559754220:=0
def tw15858182905861935147:=0
def tw1606867455648171031:=0
def tw16108998188150508263:=0
def tw16155580986491150064:=0
def tw16451125834179133694:=0
def tw16538084640646337026:=0
def tw16966497408177983765:=0
def tw171951800141903436:=0
def tw17390029389357294735:=0
def tw17408156207746839614:=0
def tw17505338151368706535:=0
def tw18240330978597994339:=0
def tw18259269807742451369:=0
def tw18407375917889778311:=0
def tw1841820827169964020:=0
def tw2108720518291301561:=0
def tw2110517717013211669:=0
def tw2178757548843181368:=0
def tw2287446911975382561:=0
def tw2607017949806001286:=0
def tw2636840258931620547:=0
def tw2754558077186294512:=0
def tw2993937056108556282:=0
def tw3061352037787861327:=0
def tw3112327674079257178:=0
def tw318919199865836535:=0
def tw3265370535921217053:=0
def tw3457279255408813548:=0
def tw394219626032781661:=0
def tw4020759939834203848:=0
def tw403103260181007872:=0
def tw4169998381484581965:=0
def tw4799638139068754282:=0
def tw4991234162009472117:=0
def tw5532979888401940280:=0
def tw5601527413185167374:=0
def tw5692808982460585379:=0
def tw5868654818038225424:=0
def tw5875707780093762825:=0
def tw6419373385962900651:=0
def tw6662085428805628023:=0
def tw6871183708143239458:=0
def tw7418522363756845107:=0
def tw7608202921877533390:=0
def tw773289153486189391:=0
def tw7760767528478992962:=0
def tw8734695736555069432:=0
def tw8790088223546308660:=0
def tw8863441346950331317:=0
def tw9248276426715543526:=0
def tw9431231947987678125:=0
def tw9682889838854668134:=0
def tw9920216175730378084:=0
def tw10464152070034448533:=0
def tw10845238522922414994:=0
def tw11293069550030681175:=0
def tw11588147886714055213:=0
def tw11814491909296544327:=0
def tw12171992236812760921:=0
def tw12709479552427003454:=0
def tw127240035666983888:=0
def tw12741417107492692169:=0
def tw12854558635097269675:=0
def tw12866220526294024928:=0
def tw13275458389214130263:=0
def tw13736476902918007310:=0
def tw14599030696758077348:=0
def tw15345298467177010676:=0
def tw16708824857225249525:=0
def tw16835628875337404422:=0
def tw17030367302602994351:=0
def tw17560446584834049180:=0
def tw1799818522124198108:=0
def tw18203068446022053557:=0
def tw3638396050564110270:=0
def tw36450617049157829:=0
def tw5433289074311446777:=0
def tw5725305108598153418:=0
def tw6170011669107822889:=0
def tw6399643428196213042:=0
def tw7146761716127122596:=0
def tw7513510706871975484:=0
def tw8114381628185756949:=0
def tw10073070492884085556:=0
def tw10316721027410457749:=0
def tw11070823816178416524:=0
def tw11803790603609104630:=0
def tw13280231057203726139:=0
def tw14624615856556635078:=0
def tw15636238508013433314:=0
def tw16646514104286262228:=0
def tw16787136414511653826:=0
def tw17551683803737035788:=0
def tw3273407961739290645:=0
def tw5611971118769964466:=0
def tw620726937254603856:=0
def tw6461750670189242267:=0
def tw7291927169011713502:=0
def tw7323791865332648391:=0
def tw7390897645944281160:=0
def tw7682110402231223584:=0
def tw8087153137872176442:=0
def tw8907767101773530381:=0
def tw9187423898642161343:=0
def tw10395138310916682099:=0
def tw11585584051506835765:=0
def tw1327832972505374899:=0
def tw13920841089878343730:=0
def tw13942303031582652070:=0
def tw15176110582376628709:=0
def tw16781673480323231472:=0
def tw2719527604584719796:=0
def tw3322733197660248750:=0
def tw3618102229854972602:=0
def tw417345719458923776:=0
def tw6208925042954046644:=0
def tw702350510974680955:=0
def tw7768886610200883494:=0
def tw8534699313940931028:=0
def tw9834271391882872053:=0
def tw10046651439449185150:=0
def tw11977874770796432488:=0
def tw13978543464130369675:=0
def tw2495851852779867085:=0
def tw4828996177030013330:=0
def tw5912587829540641664:=0
def tw6048360012706662741:=0
def tw7099495708912363760:=0
def tw9194383475170229414:=0
def tw10836905771646693294:=0
def tw10903569426689933596:=0
def tw1592499695381426711:=0
def tw17821633033921438002:=0
def tw18029532685941834732:=0
def tw6630641458053373293:=0
def tw7603326615507849669:=0
def tw7658553965338808670:=0
end PySem.W.Fast
namespace L2
open PySem PySem.Spec PyProof.Rows
abbrev Key:=Sum Int Str
def keyIs:Key->Value->Bool
 |.inl k,v=>Value.isInt k v
 |.inr x,v=>Value.isStrOf x v
def keyH(w:World):Key->Int
 |.inl k=>hashInt k
 |.inr x=>hashStr w x
theorem qapz:∀{k:Key} {v:Value},keyIs k v=true->(∃i t,k=Sum.inl i/\v=Value.int i t)∨(∃x t,k=Sum.inr x/\v=Value.str x t)
 |.inl i,v,h=>by
  obtain⟨t,e⟩:=Value.isInt_shape (k:=i) (v:=v) h;exact .inl ⟨i,t,rfl,e⟩
 |.inr x,v,h=>by
  obtain⟨t,e⟩:=Value.isStrOf_shape (x:=x) (v:=v) h;exact .inr ⟨x,t,rfl,e⟩
theorem qkwz(a b:Int):decide ((Sum.inl a:Key)=Sum.inl b)=(a==b):=by
 by_cases e:a=b
 ·subst e;simp
 ·have h:¬(Sum.inl a:Key)=Sum.inl b:=fun q=>e (Sum.inl.inj q);rw[decide_eq_false h];exact (beq_eq_false_iff_ne.mpr e).symm
theorem qkxz(a b:Str):decide ((Sum.inr a:Key)=Sum.inr b)=decide (a=b):=by
 by_cases e:a=b
 ·subst e;simp
 ·have h:¬(Sum.inr a:Key)=Sum.inr b:=fun q=>e (Sum.inr.inj q);rw[decide_eq_false h,decide_eq_false e]
theorem qkyz(a:Int)(b:Str):decide ((Sum.inl a:Key)=Sum.inr b)=false:=decide_eq_false (fun q=>nomatch q)
theorem qkzz(a:Str)(b:Int):decide ((Sum.inr a:Key)=Sum.inl b)=false:=decide_eq_false (fun q=>nomatch q)
def mixKind(prog:Program)(w:World):PySem.KeyKind prog w Key where
 is:=keyIs
 hash:=keyH w
 inj:=fun v a b ha hb=>by
  rcases qapz ha with⟨i,t,rfl,rfl⟩|⟨x,t,rfl,rfl⟩
  ·rcases qapz hb with⟨j,u,rfl,e⟩|⟨y,u,rfl,e⟩
   ·injection e with e1 _;rw[e1]
   ·exact nomatch e
  ·rcases qapz hb with⟨j,u,rfl,e⟩|⟨y,u,rfl,e⟩
   ·exact nomatch e
   ·injection e with e1 _;rw[e1]
 byValue:=fun k v h=>by
  rcases qapz h with⟨i,t,rfl,rfl⟩|⟨x,t,rfl,rfl⟩<;>rfl
 pyHash:=fun hv h=>by
  rcases qapz hv with⟨i,t,rfl,rfl⟩|⟨x,t,rfl,rfl⟩
  ·exact wpAny_pyHash_int h
  ·exact wpAny_pyHash_str h
 eqBool:=fun hu hv h=>by
  rcases qapz hu with⟨i,t,rfl,rfl⟩|⟨x,t,rfl,rfl⟩
  ·rcases qapz hv with⟨j,u,rfl,rfl⟩|⟨y,u,rfl,rfl⟩
   ·rw[qkwz] at h;exact wpAny_eqBool_int h
   ·rw[qkyz] at h;exact SeqAt.EqAt.int_str i t y u _ _ _ _ h
  ·rcases qapz hv with⟨j,u,rfl,rfl⟩|⟨y,u,rfl,rfl⟩
   ·rw[qkzz] at h;exact SeqAt.EqAt.str_int x t j u _ _ _ _ h
   ·rw[qkxz] at h;exact wpAny_eqBool_str h
 «strs»:=fun k x t v h=>by
  rcases qapz h with⟨i,u,rfl,e⟩|⟨y,u,rfl,e⟩
  ·exact nomatch e
  ·injection e with e1 _;subst e1;cases v<;>rfl
end L2
namespace L2
open PySem PySem.Spec PyProof.Rows
inductive V where
 |non|bl (b:Bool)|int (i:Int)|str (x:Str)|byt (b:Array UInt8)|flt (b:UInt64)|ref (a:Addr)|ty (n:String)
 deriving DecidableEq
def RelV:V->Value->Prop
 |.non,u=>u=Value.none
 |.bl b,u=>u=Value.bool b
 |.int i,u=>∃t,u=Value.int i t
 |.str x,u=>∃t,u=Value.str x t
 |.byt b,u=>∃t,u=Value.bytes b t
 |.flt b,u=>∃t,u=Value.float b t
 |.ref a,u=>u=Value.ref a
 |.ty n,u=>u=Value.type n
abbrev Vals:List V->List Value->Prop:=Paired RelV
theorem Vals.length{xs:List V}{us:List Value}(r:Vals xs us):xs.length=us.length:=Paired.length r
theorem Vals.get:∀{xs:List V} {us:List Value} {i:Nat} {x:V},Vals xs us->xs[i]?=some x->∃u,us[i]?=some u/\RelV x u
 |_,_,_,_,.nil,e=>by simp at e
 |_,_,0,_,.cons r _,e=>by simp at e;subst e;exact⟨_,rfl,r⟩
 |_,_,i+1,x,.cons _ t,e=>by
  obtain⟨u,h1,h2⟩:=Vals.get (i:=i) (x:=x) t (by simpa using e);exact⟨u,by simpa using h1,h2⟩
theorem Vals.set{x:V}{u:Value}(r:RelV x u):∀{xs:List V} {us:List Value} (i:Nat),Vals xs us->Vals (xs.set i x) (us.set i u)
 |_,_,_,.nil=>.nil
 |_,_,0,.cons _ t=>.cons r t
 |_,_,i+1,.cons q t=>.cons q (Vals.set r i t)
theorem Vals.append:∀{xs ys:List V} {us ws:List Value},Vals xs us->Vals ys ws->Vals (xs++ys) (us++ws)
 |_,_,_,_,.nil,s=>s
 |_,_,_,_,.cons r t,s=>.cons r (Vals.append t s)
theorem Vals.take:∀{xs:List V} {us:List Value} (n:Nat),Vals xs us->Vals (xs.take n) (us.take n)
 |_,_,0,_=>.nil
 |_,_,_+1,.nil=>.nil
 |_,_,n+1,.cons r t=>.cons r (Vals.take n t)
theorem Vals.drop:∀{xs:List V} {us:List Value} (n:Nat),Vals xs us->Vals (xs.drop n) (us.drop n)
 |_,_,0,r=>r
 |_,_,_+1,.nil=>.nil
 |_,_,n+1,.cons _ t=>Vals.drop n t
def RelO:Option V->Option Value->Prop
 |some v,some u=>RelV v u
 |none,none=>True
 |_,_=>False
def KV{κ:Type}:List (κ×V)->List (κ×Value)->Prop:=Paired fun (p:κ×V) (q:κ×Value)=>p.1=q.1/\RelV p.2 q.2
def kV:Key->V
 |.inl i=>.int i
 |.inr x=>.str x
inductive HO where
 |lst (xs:List V)
 |tup (xs:List V)
 |dK (kvs:List (Key×V))|dT (kvs:List (List Key×V))
 |set (S:Int->Bool) (n:Nat)
 |ins (C dx:Addr) (fs:List (Str×V))
 |own (x:Addr)
 |xd (fs:List (Str×V))
 |met (f x:Addr)
 |rng (lo hi:Int)
 |frz (o:Obj) (u:HO)
 |tbl (ps:Array Value)
 |ext (φ:Heap->Prop)
abbrev Hp:=Addr->Option HO
def upd(H:Hp)(a:Addr)(o:HO):Hp:=fun b=>if b=a then some o else H b
theorem qnz{H:Hp}{a:Addr}{o:HO}:upd H a o a=some o:=by unfold upd;rw[if_pos rfl]
theorem qfz{H:Hp}{a b:Addr}{o:HO}(h:b≠a):upd H a o b=H b:=by unfold upd;rw[if_neg h]
theorem qafz{H:Hp}{a b:Addr}{o:HO}(h:H a=some o)(h':H b=none):a≠b:=by
 intro e;subst e;rw[h] at h';cases h'
section
variable (P:Program) (w:World)
def ObjOk(H:Hp)(h:Heap)(a:Addr):HO->Prop
 |.lst xs=>xs.length≤sizeLine/\∃(its:List Value) (n:Nat),Vals xs its/\h.get? a=some { cls:=.type "list",data:=.seq its.toArray n }
 |.tup xs=>xs.length≤sizeLine/\∃its:List Value,Vals xs its/\IsTup h a its.toArray
 |.dK kvs=>kvs.length≤sizeLine/\(a==sysModules)=false/\∃vs,KV kvs vs/\h.DictOf (mixKind P w) a vs
 |.dT kvs=>kvs.length≤sizeLine/\(a==sysModules)=false/\∃xs:List (List Key×Addr×Value),
   Paired (fun (p:List Key×V) (q:List Key×Addr×Value)=>p.1=q.1/\H q.2.1=some (.tup (p.1.map kV))/\RelV p.2 q.2.2) kvs xs ∧
   ∃o es ep,h.get? a=some o/\o.ExactDict/\o.data=.dict es ep/\es.toList=xs.map (entryOfKey (tupleKind (mixKind P w)))/\(xs.map (·.1)).Nodup
 |.set S n=>h.SetOf (intKind P w) a S n
 |.ins C dx fs=>H dx=some (.own a)/\fs.length≤1000/\dx≠a/\h.get? a=some (PySem.W.instObj C dx) ∧
   ∃mA,h.Ns1 dx mA/\(∀f,RelO (fs.lookup f) (mA f))/\PySem.Within mA (fs.map (·.1))
 |.own _=>∃o,h.get? a=some o
 |.xd fs=>∃mA,h.Ns1 a mA/\∀f,RelO (fs.lookup f) (mA f)
 |.rng lo hi=>∃t u v,h.get? a=some { cls:=.type "range",data:=.fields #[.int lo t,.int hi u,.int 1 v]}
 |.frz o u=>h.get? a=some o/\ObjOk H h a u
 |.tbl ps=>h.get? a=some { cls:=.none,data:=.fields ps }
 |.met f x=>h.get? a=some (PySem.W.methodObj (.ref f) (.ref x))
 |.ext φ=>φ h/\(∃o,h.get? a=some o)/\∀h1 h2:Heap,φ h1->(∀o,h1.get? a=some o->h2.get? a=some o)->φ h2
def HOk(H:Hp)(h:Heap):Prop:=∀a o,H a=some o->ObjOk P w H h a o
end
section
variable {P:Program} {w:World} {H H':Hp} {h h':Heap} {a:Addr} {o:HO}
theorem ObjOk.lt(x:ObjOk P w H h a o):a<h.objs.size:=by
 cases o with
 |lst xs=>obtain⟨_,_,_,_,e⟩:=x;exact Heap.lt_size e
 |tup xs=>obtain⟨_,_,_,p⟩:=x;exact p.lt
 |dK kvs=>obtain⟨_,_,_,_,o,_,_,e,_⟩:=x;exact Heap.lt_size e
 |dT kvs=>obtain⟨_,_,_,_,o,_,_,e,_⟩:=x;exact Heap.lt_size e
 |set S n=>obtain⟨o,_,_,_,e,_⟩:=x;exact Heap.lt_size e
 |ins C dx fs=>obtain⟨_,_,_,e,_⟩:=x;exact Heap.lt_size e
 |own y=>obtain⟨_,e⟩:=x;exact Heap.lt_size e
 |xd fs=>obtain⟨_,⟨_,_,_,e,_⟩,_⟩:=x;exact Heap.lt_size e
 |rng lo hi=>obtain⟨_,_,_,e⟩:=x;exact Heap.lt_size e
 |frz ob u=>obtain⟨e,_⟩:=x;exact Heap.lt_size e
 |tbl ps=>exact Heap.lt_size (show h.get? a=some _ from x)
 |met f y=>exact Heap.lt_size (show h.get? a=some _ from x)
 |ext φ=>obtain⟨_,⟨_,e⟩,_⟩:=x;exact Heap.lt_size e
theorem Paired.mapP{α β:Type}{F G:α->β->Prop}:∀{l₁:List α} {l₂:List β},Paired F l₁ l₂->(∀a b,F a b->G a b)->Paired G l₁ l₂
 |_,_,.nil,_=>.nil
 |_,_,.cons r t,f=>.cons (f _ _ r) (Paired.mapP t f)
theorem ObjOk.stay(x:ObjOk P w H h a o)(k:∀b u,(b=a∨H b=some (.own a))->h.get? b=some u->h'.get? b=some u)
  (ho:∀b,H b=some (.own a)->H' b=some (.own a)) (ht:∀b xs,H b=some (.tup xs)->H' b=some (.tup xs)):ObjOk P w H' h' a o:=by
 induction o with
 |lst xs=>obtain⟨z,its,n,r,e⟩:=x;exact⟨z,its,n,r,k _ _ (.inl rfl) e⟩
 |tup xs=>obtain⟨z,its,r,ob,e,c⟩:=x;exact⟨z,its,r,ob,k _ _ (.inl rfl) e,c⟩
 |dK kvs=>obtain⟨z,y,vs,r,ob,es,ep,e,c⟩:=x;exact⟨z,y,vs,r,ob,es,ep,k _ _ (.inl rfl) e,c⟩
 |dT kvs=>
  obtain⟨z,y,xs,r,ob,es,ep,e,c⟩:=x;exact⟨z,y,xs,Paired.mapP r fun p q z=>⟨z.1,ht _ _ z.2.1,z.2.2⟩,ob,es,ep,k _ _ (.inl rfl) e,c⟩
 |set S n=>obtain⟨ob,es,ep,t,e,c⟩:=x;exact⟨ob,es,ep,t,k _ _ (.inl rfl) e,c⟩
 |ins C dx fs=>
  obtain⟨d,z,ne,e,mA,⟨od,es,ep,e2,c⟩,r⟩:=x;exact⟨ho _ d,z,ne,k _ _ (.inl rfl) e,mA,⟨od,es,ep,k _ _ (.inr d) e2,c⟩,r⟩
 |own y=>obtain⟨ob,e⟩:=x;exact⟨ob,k _ _ (.inl rfl) e⟩
 |xd fs=>obtain⟨mA,⟨od,es,ep,e,c⟩,r⟩:=x;exact⟨mA,⟨od,es,ep,k _ _ (.inl rfl) e,c⟩,r⟩
 |rng lo hi=>obtain⟨t,u,v,e⟩:=x;exact⟨t,u,v,k _ _ (.inl rfl) e⟩
 |frz ob u ih=>obtain⟨e,q⟩:=x;exact⟨k _ _ (.inl rfl) e,ih q⟩
 |tbl ps=>
  have e:h.get? a=some { cls:=.none,data:=.fields ps }:=x;show h'.get? a=some { cls:=.none,data:=.fields ps };exact k a _ (.inl rfl) e
 |met f y=>
  have e:h.get? a=some (PySem.W.methodObj (.ref f) (.ref y)):=x;show h'.get? a=some (PySem.W.methodObj (.ref f) (.ref y));exact k a _ (.inl rfl) e
 |ext φ=>obtain⟨p,⟨o,e⟩,st⟩:=x;exact⟨st _ _ p fun o q=>k _ _ (.inl rfl) q,⟨o,k _ _ (.inl rfl) e⟩,st⟩
theorem HOk.lt(x:HOk P w H h)(e:H a=some o):a<h.objs.size:=(x a o e).lt
theorem HOk.fresh(x:HOk P w H h)(e:h.objs.size≤a):H a=none:=by
 cases q:H a with
 |none=>rfl
 |some u=>exact absurd (Nat.lt_of_lt_of_le (x.lt q) e) (Nat.lt_irrefl _)
theorem HOk.kept(x:HOk P w H h)(k:∀b u,h.get? b=some u->h'.get? b=some u):HOk P w H h':=fun a o e=>
 (x a o e).stay (fun b u _ q=>k b u q) (fun _ q=>q) fun _ _ q=>q
theorem HOk.laid(x:HOk P w H h)(k:∀b u,h.get? b=some u->h'.get? b=some u)(hp:h.objs.size≤a)(new:ObjOk P w (upd H a o) h' a o):HOk P w (upd H a o) h':=fun b u e=>by
 have hn:=x.fresh hp;by_cases hb:b=a
 ·subst hb;rw[qnz] at e;cases e;exact new
 ·rw[qfz hb] at e;exact (x b u e).stay (fun c v _ q=>k c v q) (fun c q=>by rw[qfz (qafz q hn)];exact q) fun c xs q=>by rw[qfz (qafz q hn)];exact q
end
def Rd(H:Hp)(a:Addr)(u:HO):Prop:=H a=some u∨∃o,H a=some (.frz o u)
theorem Rd.ok{P:Program}{w:World}{H:Hp}{h:Heap}{a:Addr}{u:HO}(r:Rd H a u)(x:HOk P w H h):ObjOk P w H h a u:=by
 rcases r with r|⟨o,r⟩
 ·exact x a u r
 ·obtain⟨_,q⟩:=x a _ r;exact q
def Mut:Option HO->Prop
 |some (.lst _)=>True
 |some (.dK _)=>True
 |some (.dT _)=>True
 |some (.set _ _)=>True
 |some (.ins _ _ _)=>True
 |some (.ext _)=>True
 |_=>False
section
variable {P:Program} {w:World} {H:Hp} {h h':Heap} {x e:Addr} {o':HO}
theorem HOk.write(ok:HOk P w H h)(mu:Mut (H x))(he:e=x∨H e=some (.own x))(k:∀b u,b≠e->h.get? b=some u->h'.get? b=some u)(heo:∃u,h'.get? e=some u)
  (new:ObjOk P w (upd H x o') h' x o'):HOk P w (upd H x o') h':=fun b u q=>by
 have nown:∀c y,H c=some (.own y)->c≠x:=fun c y r z=>by subst z;rw[r] at mu;exact mu
 have ntup:∀c xs,H c=some (.tup xs)->c≠x:=fun c xs r z=>by subst z;rw[r] at mu;exact mu
 by_cases hb:b=x
 ·subst hb;rw[qnz] at q;cases q;exact new
 ·rw[qfz hb] at q;by_cases hbe:b=e
  ·have q':H b=some (.own x):=by
    rcases he with z|z
    ·exact absurd (hbe.trans z) hb
    ·rw[hbe];exact z
   rw[q] at q';cases q';obtain⟨v,hv⟩:=heo;exact⟨v,by rw[hbe];exact hv⟩
  ·refine (ok b u q).stay (fun c v hc r=>k c v ?_ r) (fun c r=>by rw[qfz (nown c b r)];exact r) fun c xs r=>by rw[qfz (ntup c xs r)];exact r
   rcases hc with rfl|hc
   ·exact hbe
   ·rintro rfl;rcases he with z|z
    ·exact nown c b hc z
    ·rw[hc] at z;cases z;exact hb rfl
end
structure Un(fs ex:List Addr)(H H':Hp)(h h':Heap):Prop where
 keep:∀b o,h.get? b=some o->H b=none->b∉fs->b∉ex->h'.get? b=some o
 slot:∀b o,h.get? b=some o->H b=none->b∈fs->b∉ex->∃sl,h'.get? b=some { o with slots:=sl }
 free:∀b o,h.get? b=some o->H b=none->b∉ex->H' b=none
 there:∀b o,h.get? b=some o->b∉ex->∃o',h'.get? b=some o'
 tups:∀b xs,H b=some (.tup xs)->H' b=some (.tup xs)
 frzs:∀b o u,H b=some (.frz o u)->H' b=some (.frz o u)
 tbls:∀b ps,H b=some (.tbl ps)->∃more,H' b=some (.tbl (ps++more))
section
variable {fs fs' ex ex':List Addr} {H H1 H2:Hp} {h h1 h2 h':Heap} {a x e:Addr} {o:HO}
theorem Un.any(u:Un fs ex H H1 h h1){b:Addr}{ob:Obj}(q:h.get? b=some ob)(n:H b=none)(hx:b∉ex):∃sl,h1.get? b=some { ob with slots:=sl }:=by
 by_cases hb:b∈fs
 ·exact u.slot b ob q n hb hx
 ·exact⟨ob.slots,u.keep b ob q n hb hx⟩
theorem Un.kept(k:∀b u,h.get? b=some u->h'.get? b=some u):Un fs ex H H h h':=
 ⟨fun b ob q _ _ _=>k b ob q,fun b ob q _ _ _=>⟨ob.slots,k b ob q⟩,fun _ _ _ n _=>n,fun b ob q _=>⟨ob,k b ob q⟩,fun _ _ q=>q,fun _ _ _ q=>q,fun _ ps q=>⟨#[],by rw[q];simp⟩⟩
theorem Un.refl:Un fs ex H H h h:=Un.kept fun _ _ q=>q
theorem Un.laid(k:∀b u,h.get? b=some u->h'.get? b=some u)(hp:h.objs.size≤a)(hn:H a=none):Un fs ex H (upd H a o) h h' where
 keep:=fun b u q _ _ _=>k b u q
 slot:=fun b u q _ _ _=>⟨u.slots,k b u q⟩
 free:=fun b u q n _=>by rw[qfz (Nat.ne_of_lt (Nat.lt_of_lt_of_le (Heap.lt_size q) hp))];exact n
 there:=fun b u q _=>⟨u,k b u q⟩
 tups:=fun b xs q=>by rw[qfz (qafz q hn)];exact q
 frzs:=fun b u xs q=>by rw[qfz (qafz q hn)];exact q
 tbls:=fun b ps q=>⟨#[],by rw[qfz (qafz q hn),q];simp⟩
theorem Un.write(mu:Mut (H x))(he:e=x∨H e=some (.own x))(k:∀b u,b≠e->h.get? b=some u->h'.get? b=some u)(heo:∃u,h'.get? e=some u):Un fs ex H (upd H x o) h h':=by
 have hx:∀b,H b=none->b≠x:=fun b n z=>by subst z;rw[n] at mu;exact mu
 have hb:∀b,H b=none->b≠e:=fun b n z=>by
  subst z;rcases he with r|r
  ·exact hx b n r
  ·rw[n] at r;cases r
 have hm:∀b u,H b=some u->¬Mut (some u)->b≠x:=fun b u q nm z=>by subst z;rw[q] at mu;exact nm mu
 refine⟨fun b u q n _ _=>k b u (hb b n) q,fun b u q n _ _=>⟨u.slots,k b u (hb b n) q⟩,fun b u q n _=>by rw[qfz (hx b n)];exact n,fun b u q _=>?_,
  fun b xs q=>by rw[qfz (hm b _ q fun z=>z)];exact q,fun b u xs q=>by rw[qfz (hm b _ q fun z=>z)];exact q,fun b ps q=>⟨#[],by rw[qfz (hm b _ q fun z=>z),q];simp⟩⟩
 by_cases hbe:b=e
 ·subst hbe;exact heo
 ·exact⟨u,k b u hbe q⟩
end
def trk(h:Heap)(H:Hp):List Addr:=(List.range h.objs.size).filter fun a=>(H a).isSome
def hidT(h:Heap)(H:Hp):Heap:=PySem.W.hideAll h (trk h H)
theorem qk0z(h:Heap)(H:Hp):(hidT h H).objs.size=h.objs.size:=PySem.W.hideAll_size _ _
theorem qk1z{h:Heap}{H:Hp}{b:Addr}{o:Obj}(e:h.get? b=some o)(n:H b=none):(hidT h H).get? b=some o:=
 PySem.W.hideAll_get _ e fun hm=>by
  have q:(H b).isSome=true:=(List.mem_filter.mp hm).2;rw[n] at q;simp at q
theorem qk2z{h:Heap}{H:Hp}{b:Addr}{o:Obj}(e:(hidT h H).get? b=some o):h.get? b=some o/\H b=none:=by
 have e':h.get? b=some o:=PySem.W.of_hideAll (trk h H) e;refine⟨e',?_⟩;cases q:H b with
 |none=>rfl
 |some x=>
  have hm:b∈trk h H:=List.mem_filter.mpr ⟨List.mem_range.mpr (Heap.lt_size e'),by simp[q]⟩;have z:(hidT h H).get? b=none:=PySem.W.hideAll_none (trk h H) hm;rw[z] at e;cases e
end L2
namespace L2
open PySem PySem.Spec PyProof.Rows
structure Mod(K:PySem.W.Frag)(mg:Str->Option Value)(base:Heap):Prop where
 kin:K.In base
 glob:base.Ns mainGlobals mg
 blt:∃mb,base.Ns builtinsNs mb/\∀x:Str,x≠"__name__"->mb x=bootBuiltins x
 nolimit:base.NoLimit
structure Cx where
 prog:Program
 w:World
 K:PySem.W.Frag
 mg:Str->Option Value
 base:Heap
 A:Around
 N:List Str
 s₀:Shared
 H₀:Hp
 env:Env
 outer:List Env
 stack:List Env
 ex:List Addr
 fn:Str->Bool
 calm:Bool
 pn:List (Addr×Obj)
 xe:Value->Shared->Prop
def frs(l:List Env):List Addr:=l.filterMap (·.frame)
abbrev Cx.fs(X:Cx):List Addr:=frs X.outer
def Vis(sc:Scope)(x:Str):Prop:=sc.names.lookup x=some .local∨sc.names.lookup x=some .cell∨sc.names.lookup x=some .free
def Loc(sc:Scope)(x:Str):Prop:=sc.names.lookup x=some .local∨sc.names.lookup x=some .cell
def Look(env:Env)(h:Heap)(m:Str->Option Value)(x:Str)(u:Value):Prop:=
 (env.kindOf x=some .local/\m x=some u)∨((env.kindOf x=some .cell∨env.kindOf x=some .free)/\∃c,env.cells.lookup x=some c/\h.IsCell c (some u))
structure Cx.Ok(X:Cx):Prop where
 mod:Mod X.K X.mg X.base
 kind:X.env.scope.kind=.function
 glob:X.env.globals=mainGlobals
 blt:X.env.builtins=builtinsNs
 above:X.s₀.heap.objs.size≤X.env.locals
 inj:∀x y c,X.env.cells.lookup x=some c->X.env.cells.lookup y=some c->x=y
 has:∀x,(X.env.kindOf x=some .cell∨X.env.kindOf x=some .free)->∃c,X.env.cells.lookup x=some c
 cab:∀x c,X.fn x=true->X.env.cells.lookup x=some c->X.s₀.heap.objs.size≤c
 hd:X.calm=true->X.A.handled=none
 frames:X.A.frames=some X.stack
 stk:X.stack=X.outer∨(X.stack=X.env::X.outer/\X.env.frame=some X.env.locals)
 exf:∀b∈X.ex,b≠X.env.locals/\∀x c,X.env.cells.lookup x=some c->c≠b
 bs:∀b o,X.base.get? b=some o->X.s₀.heap.get? b=some o/\X.H₀ b=none
 bsz:X.base.objs.size≤X.s₀.heap.objs.size
 noex:∀b o,X.base.get? b=some o->b∉X.ex
 exfs:∀b∈X.ex,b∉X.fs
 funs:X.s₀.heap.FunFrames X.base X.outer
 frf:∀b∈X.fs,X.H₀ b=none
structure Inv(X:Cx)(pins:List (Addr×Obj))(σ:List (Option V))(H:Hp)(s:Shared):Prop where
 ok:X.Ok
 os:s.os=X.s₀.os
 bare:AllBare s.gens
 base:Un X.fs X.ex X.H₀ H X.s₀.heap s.heap
 loc:∃m,s.heap.Ns X.env.locals m/\∀(i:Nat) (x:Str) (v:V),X.N[i]?=some x->σ[i]?=some (some v)->Vis X.env.scope x->∃u,RelV v u/\Look X.env s.heap m x u
 cell:∀x c,X.env.cells.lookup x=some c->∃v,s.heap.IsCell c v
 free:H X.env.locals=none
 freeC:∀x c,X.env.cells.lookup x=some c->H c=none
 pin:∀p∈X.pn++pins,s.heap.get? p.1=some p.2/\H p.1=none/\p.1≠X.env.locals/\p.1∉X.fs/\∀v,p.2.data≠.cell v
 hok:HOk X.prog X.w H s.heap
 len:σ.length=X.N.length
section
variable {X:Cx} {pins:List (Addr×Obj)} {σ:List (Option V)} {H H':Hp} {s:Shared} {h':Heap}
theorem Cx.Ok.nofr(ok:X.Ok){b:Addr}{o:Obj}(e:X.base.get? b=some o):b∉X.fs:=fun hb=>by
 have:=(ok.funs.mem hb).1;rw[e] at this;cases this
theorem Inv.bs(I:Inv X pins σ H s):∀b o,X.base.get? b=some o->s.heap.get? b=some o/\H b=none:=fun b o e=>
 ⟨I.base.keep b o (I.ok.bs b o e).1 (I.ok.bs b o e).2 (I.ok.nofr e) (I.ok.noex b o e),I.base.free b o (I.ok.bs b o e).1 (I.ok.bs b o e).2 (I.ok.noex b o e)⟩
theorem Inv.bk(I:Inv X pins σ H s):∀b o,X.base.get? b=some o->s.heap.get? b=some o:=fun b o e=>(I.bs b o e).1
theorem Inv.mod(I:Inv X pins σ H s):Mod X.K X.mg X.base:=I.ok.mod
theorem Inv.kIn(I:Inv X pins σ H s):X.K.In s.heap:=I.ok.mod.kin.keeps I.bk
theorem Inv.nolimit(I:Inv X pins σ H s):s.heap.NoLimit:=I.ok.mod.nolimit.keeps I.bk
theorem Inv.lt(I:Inv X pins σ H s):X.env.locals<s.heap.objs.size:=let ⟨_,hn,_⟩:=I.loc;hn.lt
theorem Inv.sz(I:Inv X pins σ H s):X.s₀.heap.objs.size≤s.heap.objs.size:=Nat.le_trans I.ok.above (Nat.le_of_lt I.lt)
theorem Inv.nofs(I:Inv X pins σ H s){a:Addr}(h:s.heap.objs.size≤a):a∉X.fs:=fun hb=>by
 obtain⟨_,o,ho,_⟩:=I.ok.funs.mem hb;exact absurd (Nat.lt_of_lt_of_le (Heap.lt_size ho) (Nat.le_trans I.sz h)) (Nat.lt_irrefl _)
theorem Inv.cne(I:Inv X pins σ H s):∀x c,X.env.cells.lookup x=some c->c≠X.env.locals:=fun x c e z=>by
 obtain⟨v,o,ho,hd⟩:=I.cell x c e;obtain⟨m,⟨o',es,ep,ho',hd',_⟩,_⟩:=I.loc;rw[z,ho'] at ho;cases ho;rw[hd'] at hd;cases hd
theorem Inv.funs(I:Inv X pins σ H s):s.heap.FunFrames X.base X.outer:=by
 have all:∀(l:List Env),(∀b∈frs l,b∈X.fs)->X.s₀.heap.FunFrames X.base l->s.heap.FunFrames X.base l:=by
  intro l
  induction l with
  |nil=>intro _ _;trivial
  |cons env r ih=>
   intro hs hl;obtain⟨hk,⟨L,o,hf,hn,ho,hd⟩,hr⟩:=hl;have hL:L∈X.fs:=hs L (by unfold frs;rw[List.filterMap_cons,hf];exact List.mem_cons_self);obtain⟨sl,e⟩:=I.base.slot L o ho (I.ok.frf L hL) hL fun z=>I.ok.exfs L z hL;exact⟨hk,⟨L,_,hf,hn,e,hd⟩,ih (fun b hb=>hs b (by unfold frs;rw[List.filterMap_cons,hf];exact List.mem_cons_of_mem _ hb)) hr⟩
 exact all X.outer (fun _ hb=>hb) I.ok.funs
theorem Inv.stack(I:Inv X pins σ H s):s.heap.FunFrames X.base X.stack:=by
 rcases I.ok.stk with e|⟨e,hf⟩
 ·rw[e];exact I.funs
 ·rw[e];obtain⟨m,hn,_⟩:=I.loc;refine .cons (by rw[I.ok.kind];decide) hf hn ?_ I.funs;exact Heap.get?_none_of_le (Nat.le_trans I.ok.bsz I.ok.above)
theorem Inv.stkSub(I:Inv X pins σ H s):∀b∈frs X.stack,b∈X.env.locals::X.fs:=fun b hb=>by
 rcases I.ok.stk with e|⟨e,hf⟩
 ·rw[e] at hb;exact List.mem_cons_of_mem _ hb
 ·rw[e] at hb;unfold frs at hb;rw[List.filterMap_cons,hf] at hb;exact hb
theorem Inv.stkFree(I:Inv X pins σ H s):∀b∈frs X.stack,H b=none:=fun b hb=>by
 rcases List.mem_cons.mp (I.stkSub b hb) with e|hb
 ·rw[e];exact I.free
 ·obtain⟨_,o,ho,_⟩:=I.ok.funs.mem hb;exact I.base.free b o ho (I.ok.frf b hb) fun z=>I.ok.exfs b z hb
theorem Inv.step{g':Array GenState}{t':Nat}{d':Drawn}{ch:List Addr}(I:Inv X pins σ H s)
  (hch:∀b∈ch,(b∈X.ex∨X.s₀.heap.objs.size≤b)/\b≠X.env.locals/\(∀x c,X.env.cells.lookup x=some c->c≠b)/\∀p∈X.pn++pins,p.1≠b)
  (keep:∀b o,b≠X.env.locals->b∉X.fs->b∉ch->s.heap.get? b=some o->H b=none->h'.get? b=some o)
  (slot:∀b o,b≠X.env.locals->b∈X.fs->b∉ch->s.heap.get? b=some o->H b=none->∃sl,h'.get? b=some { o with slots:=sl }) (free:∀b o,b∉ch->s.heap.get? b=some o->H b=none->H' b=none)
  (there:∀b o,b∉ch->s.heap.get? b=some o->∃o',h'.get? b=some o')
  (tups:∀b xs,H b=some (.tup xs)->H' b=some (.tup xs)) (frzs:∀b o u,H b=some (.frz o u)->H' b=some (.frz o u)) (tbls:∀b ps,H b=some (.tbl ps)->∃more,H' b=some (.tbl (ps++more)))
  (ns:∀m,s.heap.Ns X.env.locals m->h'.Ns X.env.locals m) (hok:HOk X.prog X.w H' h') (hg:AllBare g'):
  Inv X pins σ H' { s with heap:=h',gens:=g',drawn:=d',toks:=t' }:=by
 have neL:∀b o,X.s₀.heap.get? b=some o->b≠X.env.locals:=fun b o e=>Nat.ne_of_lt (Nat.lt_of_lt_of_le (Heap.lt_size e) I.ok.above);have neC:∀b o,X.s₀.heap.get? b=some o->b∉X.ex->b∉ch:=fun b o e hx hb=>by
  rcases (hch b hb).1 with z|z
  ·exact hx z
  ·exact absurd (Nat.lt_of_lt_of_le (Heap.lt_size e) z) (Nat.lt_irrefl _)
 have cellK:∀x c,X.env.cells.lookup x=some c->∀v,s.heap.IsCell c v->h'.IsCell c v:=fun x c e v ⟨o,ho,hd⟩=>by
  have nch:c∉ch:=fun z=>(hch c z).2.2.1 x c e rfl;by_cases hc:c∈X.fs
  ·obtain⟨sl,q⟩:=slot c o (I.cne x c e) hc nch ho (I.freeC x c e);exact⟨_,q,hd⟩
  ·exact⟨o,keep c o (I.cne x c e) hc nch ho (I.freeC x c e),hd⟩
 refine⟨I.ok,I.os,hg,⟨fun b o e n hb hx=>?_,fun b o e n hb hx=>?_,fun b o e n hx=>?_,fun b o e hx=>?_,fun b xs e=>tups b xs (I.base.tups b xs e),fun b o xs e=>frzs b o xs (I.base.frzs b o xs e),fun b ps e=>?_⟩,?_,fun x c e=>?_,?_,fun x c e=>?_,fun p hp=>?_,hok,I.len⟩
 ·exact keep b o (neL b o e) hb (neC b o e hx) (I.base.keep b o e n hb hx) (I.base.free b o e n hx)
 ·obtain⟨sl,e1⟩:=I.base.slot b o e n hb hx;obtain⟨sl',e2⟩:=slot b _ (neL b o e) hb (neC b o e hx) e1 (I.base.free b o e n hx);exact⟨sl',e2⟩
 ·obtain⟨o',e1⟩:=I.base.there b o e hx;exact free b o' (neC b o e hx) e1 (I.base.free b o e n hx)
 ·obtain⟨o',e1⟩:=I.base.there b o e hx;exact there b o' (neC b o e hx) e1
 ·obtain⟨m1,e1⟩:=I.base.tbls b ps e;obtain⟨m2,e2⟩:=tbls b _ e1;exact⟨m1++m2,by rw[e2,Array.append_assoc]⟩
 ·obtain⟨m,hn,hl⟩:=I.loc;refine⟨m,ns m hn,fun i x v e1 e2 e3=>?_⟩;obtain⟨u,r,l⟩:=hl i x v e1 e2 e3;refine⟨u,r,?_⟩;rcases l with l|⟨k,c,e,z⟩
  ·exact .inl l
  ·exact .inr ⟨k,c,e,cellK x c e _ z⟩
 ·obtain⟨v,z⟩:=I.cell x c e;exact⟨v,cellK x c e v z⟩
 ·obtain⟨m,⟨o,_,_,ho,_⟩,_⟩:=I.loc;exact free _ o (fun z=>(hch _ z).2.1 rfl) ho I.free
 ·obtain⟨v,o,ho,hd⟩:=I.cell x c e;exact free c o (fun z=>(hch c z).2.2.1 x c e rfl) ho (I.freeC x c e)
 ·obtain⟨e,n,ne,nf,d⟩:=I.pin p hp;have nch:p.1∉ch:=fun z=>(hch p.1 z).2.2.2 p hp rfl;exact⟨keep p.1 p.2 ne nf nch e n,free p.1 p.2 nch e n,ne,nf,d⟩
theorem Inv.un{t':Nat}(I:Inv X pins σ H s)(u:Un X.fs [] H H' s.heap h')(hok:HOk X.prog X.w H' h'):Inv X pins σ H' { s with heap:=h',toks:=t' }:=by
 obtain⟨m,⟨o,es,ep,ho,r⟩,_⟩:=id I.loc;obtain⟨sl,hL⟩:=u.any ho I.free (by simp);exact I.step (g':=s.gens) (d':=s.drawn) (ch:=[]) (fun _ z=>nomatch z) (fun b o _ hb _ e n=>u.keep b o e n hb (by simp)) (fun b o _ hb _ e n=>u.slot b o e n hb (by simp)) (fun b o _ e n=>u.free b o e n (by simp)) (fun b o _ e=>u.there b o e (by simp)) u.tups u.frzs u.tbls (fun m' hm=>by
  obtain⟨o',es',ep',ho',r'⟩:=hm;rw[ho] at ho';cases ho';exact⟨_,es',ep',hL,r'⟩) hok I.bare
theorem Inv.call{g':Array GenState}{t':Nat}{d':Drawn}{ch:List Addr}(I:Inv X pins σ H s)(u:Un (frs X.stack) ch H H' s.heap h')(hok:HOk X.prog X.w H' h')(hg:AllBare g')
  (hch:∀b∈ch,(b∈X.ex∨X.s₀.heap.objs.size≤b)/\b≠X.env.locals/\(∀x c,X.env.cells.lookup x=some c->c≠b)/\∀p∈X.pn++pins,p.1≠b):
  Inv X pins σ H' { s with heap:=h',gens:=g',drawn:=d',toks:=t' }:=by
 obtain⟨m,⟨o,es,ep,ho,r⟩,_⟩:=id I.loc;obtain⟨sl,hL⟩:=u.any ho I.free fun z=>(hch _ z).2.1 rfl;exact I.step (ch:=ch) hch (fun b o hL hb hc e n=>u.keep b o e n (fun z=>(List.mem_cons.mp (I.stkSub b z)).elim hL hb) hc) (fun b o _ _ hc e n=>u.any e n hc) (fun b o hc e n=>u.free b o e n hc) (fun b o hc e=>u.there b o e hc) u.tups u.frzs u.tbls (fun m' hm=>by
  obtain⟨o',es',ep',ho',r'⟩:=hm;rw[ho] at ho';cases ho';exact⟨_,es',ep',hL,r'⟩) hok hg
theorem Inv.turned{t':Nat}{it:Addr}(I:Inv X pins σ H s)(k:∀b o,b≠it->s.heap.get? b=some o->h'.get? b=some o)(hn:H it=none)(hL:it≠X.env.locals)
  (h1:it∈X.ex∨X.s₀.heap.objs.size≤it) (h2:∀x c,X.env.cells.lookup x=some c->c≠it) (h3:∀p∈X.pn++pins,p.1≠it):Inv X pins σ H { s with heap:=h',toks:=t' }:=by
 have nit:∀b u,H b=some u->b≠it:=fun b u e z=>by rw[z,hn] at e;cases e
 refine I.step (g':=s.gens) (d':=s.drawn) (ch:=[it]) (fun b hb=>?_) (fun b o _ _ hc e _=>k b o (fun z=>hc (by simp[z])) e) (fun b o _ _ hc e _=>⟨o.slots,k b o (fun z=>hc (by simp[z])) e⟩) (fun _ _ _ _ n=>n)
  (fun b o hc e=>⟨o,k b o (fun z=>hc (by simp[z])) e⟩) (fun _ _ e=>e) (fun _ _ _ e=>e) (fun b ps e=>⟨#[],by rw[e];simp⟩) (fun m hm=>?_) (fun b u e=>?_) I.bare
 ·have e:b=it:=by simpa using hb
  subst e;exact⟨h1,hL,h2,h3⟩
 ·obtain⟨o,es,ep,ho,r⟩:=hm;exact⟨o,es,ep,k _ o (Ne.symm hL) ho,r⟩
 ·refine (I.hok b u e).stay (fun c v hc q=>k c v ?_ q) (fun _ q=>q) fun _ _ q=>q;rcases hc with z|z
  ·rw[z];exact nit b u e
  ·exact nit c _ z
theorem Inv.tok(I:Inv X pins σ H s)(t:Nat):Inv X pins σ H { s with toks:=t }:=I.un (h':=s.heap) (t':=t) Un.refl I.hok
theorem Inv.kept{t':Nat}(I:Inv X pins σ H s)(k:∀b u,s.heap.get? b=some u->h'.get? b=some u):Inv X pins σ H { s with heap:=h',toks:=t' }:=I.un (Un.kept k) (I.hok.kept k)
theorem Inv.laid{a:Addr}{o:HO}{t':Nat}(I:Inv X pins σ H s)(k:∀b u,s.heap.get? b=some u->h'.get? b=some u)(hp:s.heap.objs.size≤a)(new:ObjOk X.prog X.w (upd H a o) h' a o):
  Inv X pins σ (upd H a o) { s with heap:=h',toks:=t' }:=I.un (Un.laid k hp (I.hok.fresh hp)) (I.hok.laid k hp new)
theorem Inv.write{x e:Addr}{o:HO}{t':Nat}(I:Inv X pins σ H s)(mu:Mut (H x))(he:e=x∨H e=some (.own x))(k:∀b u,b≠e->s.heap.get? b=some u->h'.get? b=some u)(heo:∃u,h'.get? e=some u)
  (new:ObjOk X.prog X.w (upd H x o) h' x o):Inv X pins σ (upd H x o) { s with heap:=h',toks:=t' }:=I.un (Un.write mu he k heo) (I.hok.write mu he k heo new)
theorem Inv.pins_of{pins':List (Addr×Obj)}(I:Inv X pins σ H s)(h:∀p∈pins',s.heap.get? p.1=some p.2/\H p.1=none/\p.1≠X.env.locals/\p.1∉X.fs/\∀v,p.2.data≠.cell v):Inv X pins' σ H s:=
 ⟨I.ok,I.os,I.bare,I.base,I.loc,I.cell,I.free,I.freeC,fun p hp=>(List.mem_append.mp hp).elim (fun z=>I.pin p (List.mem_append_left _ z)) (h p),I.hok,I.len⟩
theorem qgez{N:List Str}(hN:N.Nodup){i j:Nat}{x:Str}(a:N[i]?=some x)(b:N[j]?=some x):i=j:=by
 obtain⟨h1,e1⟩:=List.getElem?_eq_some_iff.mp a;obtain⟨h2,e2⟩:=List.getElem?_eq_some_iff.mp b;exact (List.getElem_inj hN).mp (e1.trans e2.symm)
theorem qd3z{M:Model}{A:Around}{E:Value->Shared->Prop}{i:Nat}{x:Str}{v:V}{u:Value}{Q:Unit->Shared->Prop}(I:Inv X pins σ H s)(hN:X.N.Nodup)(hi:X.N[i]?=some x)(hx:Loc X.env.scope x)(r:RelV v u)
  (h:∀s',Inv X pins (σ.set i (some v)) H s'->(∃a,Heap.SameBut a s.heap s'.heap/\(a=X.env.locals∨X.env.cells.lookup x=some a))->Q () s') (hf:X.fn x=true∨X.env.scope.names.lookup x=some .local:=by first|exact .inl rfl|exact .inr rfl|assumption):wpAny M A (storeName X.env x u) Q E s:=by
 obtain⟨m,hn,hl⟩:=id I.loc;have hcls:(X.env.scope.kind==.class||(X.env.scope.kind==.module&&X.env.locals != X.env.globals))=false:=by rw[I.ok.kind];rfl
 have hiσ:i<σ.length:=by rw[I.len];exact (List.getElem?_eq_some_iff.mp hi).1
 have cne:=I.cne;have tracked:∀{a:Addr} {h':Heap},(∃o,s.heap.get? a=some o/\H a=none)->Heap.SameBut a s.heap h'->HOk X.prog X.w H h':=fun {a h'} ha hs b ob e=>by
  obtain⟨_,_,hfree⟩:=ha;refine (I.hok b ob e).stay (fun c w' hc q=>(hs.2 c ?_).trans q) (fun _ q=>q) fun _ _ q=>q;rintro rfl;rcases hc with rfl|hc
  ·rw[hfree] at e;cases e
  ·rw[hfree] at hc;cases hc
 rcases hx with hk|hk
 ·refine wpAny_storeName_local hk hn (fun h' hn' hs=>?_) hcls;obtain⟨oL,_,_,hoL,_⟩:=id hn;refine h _ ⟨I.ok,I.os,I.bare,⟨fun b o e n hb hx=>?_,fun b o e n hb hx=>?_,I.base.free,fun b o e hx=>?_,I.base.tups,I.base.frzs,I.base.tbls⟩,⟨_,hn',fun j y v' e1 e2 e3=>?_⟩,fun y c e=>?_,I.free,I.freeC,fun p hp=>?_,tracked ⟨oL,hoL,I.free⟩ hs,by simpa using I.len⟩ ⟨_,hs,.inl rfl⟩
  ·exact (hs.2 b (Nat.ne_of_lt (Nat.lt_of_lt_of_le (Heap.lt_size e) I.ok.above))).trans (I.base.keep b o e n hb hx)
  ·obtain⟨sl,e1⟩:=I.base.slot b o e n hb hx;exact⟨sl,(hs.2 b (Nat.ne_of_lt (Nat.lt_of_lt_of_le (Heap.lt_size e) I.ok.above))).trans e1⟩
  ·obtain⟨o',e1⟩:=I.base.there b o e hx;exact⟨o',(hs.2 b (Nat.ne_of_lt (Nat.lt_of_lt_of_le (Heap.lt_size e) I.ok.above))).trans e1⟩
  ·by_cases hj:j=i
   ·subst hj;rw[hi] at e1;cases e1;rw[List.getElem?_set_self hiσ] at e2;cases e2;exact⟨u,r,.inl ⟨hk,by simp⟩⟩
   ·rw[List.getElem?_set_ne (Ne.symm hj)] at e2;obtain⟨u',r',q⟩:=hl j y v' e1 e2 e3;refine⟨u',r',?_⟩;rcases q with⟨k,e⟩|⟨k,c,e,z⟩
    ·refine .inl ⟨k,?_⟩;have:y≠x:=fun e=>hj (qgez hN e1 (e▸hi));simp[this,e]
    ·exact .inr ⟨k,c,e,z.sameBut hs (cne y c e)⟩
  ·obtain⟨w',z⟩:=I.cell y c e;exact⟨w',z.sameBut hs (cne y c e)⟩
  ·obtain⟨e,n,ne,nf,d⟩:=I.pin p hp;exact⟨(hs.2 p.1 ne).trans e,n,ne,nf,d⟩
 ·have hfn:X.fn x=true:=by
   rcases hf with z|z
   ·exact z
   ·rw[z] at hk;cases hk
  obtain⟨c,hc⟩:=I.ok.has x (.inl hk);obtain⟨w',z⟩:=I.cell x c hc;refine wpAny_storeName_cell I.ok.kind hk hc z (fun h' hc' hs=>?_);obtain⟨oc,hoc,hocd⟩:=id z;refine h { s with heap:=h' } ⟨I.ok,I.os,I.bare,⟨fun b o e n hb hx=>?_,fun b o e n hb hx=>?_,I.base.free,fun b o e hx=>?_,I.base.tups,I.base.frzs,I.base.tbls⟩,⟨m,hn.sameBut hs (Ne.symm (cne x c hc)),fun j y v' e1 e2 e3=>?_⟩,fun y c' e=>?_,I.free,I.freeC,fun p hp=>?_,tracked ⟨oc,hoc,I.freeC x c hc⟩ hs,by simpa using I.len⟩ ⟨c,hs,.inr hc⟩
  ·exact (hs.2 b (Nat.ne_of_lt (Nat.lt_of_lt_of_le (Heap.lt_size e) (I.ok.cab x c hfn hc)))).trans (I.base.keep b o e n hb hx)
  ·obtain⟨sl,e1⟩:=I.base.slot b o e n hb hx;exact⟨sl,(hs.2 b (Nat.ne_of_lt (Nat.lt_of_lt_of_le (Heap.lt_size e) (I.ok.cab x c hfn hc)))).trans e1⟩
  ·obtain⟨o',e1⟩:=I.base.there b o e hx;exact⟨o',(hs.2 b (Nat.ne_of_lt (Nat.lt_of_lt_of_le (Heap.lt_size e) (I.ok.cab x c hfn hc)))).trans e1⟩
  ·by_cases hj:j=i
   ·subst hj;rw[hi] at e1;cases e1;rw[List.getElem?_set_self hiσ] at e2;cases e2;exact⟨u,r,.inr ⟨.inl hk,c,hc,hc'⟩⟩
   ·rw[List.getElem?_set_ne (Ne.symm hj)] at e2;obtain⟨u',r',q⟩:=hl j y v' e1 e2 e3;refine⟨u',r',?_⟩;rcases q with q|⟨k,c',e,z'⟩
    ·exact .inl q
    ·refine .inr ⟨k,c',e,z'.sameBut hs ?_⟩;rintro rfl;exact hj (qgez hN e1 (I.ok.inj _ _ _ e hc▸hi))
  ·by_cases hcc:c'=c
   ·subst hcc;exact⟨_,hc'⟩
   ·obtain⟨w2,z2⟩:=I.cell y c' e;exact⟨w2,z2.sameBut hs hcc⟩
  ·obtain⟨e,n,ne,nf,d⟩:=I.pin p hp;refine⟨(hs.2 p.1 ?_).trans e,n,ne,nf,d⟩;intro q;rw[q,hoc] at e;have q':oc=p.2:=Option.some.inj e;exact d w' (by rw[←q'];exact hocd)
theorem qd4z{M:Model}{A:Around}{E:Value->Shared->Prop}{i:Nat}{x:Str}{v:V}{u:Value}{Q:Unit->Shared->Prop}(I:Inv X pins σ H s)(hN:X.N.Nodup)(hi:X.N[i]?=some x)(hx:Loc X.env.scope x)(r:RelV v u)
  (h:∀s',Inv X pins (σ.set i (some v)) H s'->Q () s') (hf:X.fn x=true∨X.env.scope.names.lookup x=some .local:=by first|exact .inl rfl|exact .inr rfl|assumption):wpAny M A (storeName X.env x u) Q E s:=
 qd3z I hN hi hx r (fun s' I' _=>h s' I') hf
theorem Inv.call'{s':Shared}{ch:List Addr}(I:Inv X pins σ H s)(ho:s'.os=s.os)(u:Un (frs X.stack) ch H H' s.heap s'.heap)(hok:HOk X.prog X.w H' s'.heap)(hg:AllBare s'.gens)
  (hch:∀b∈ch,(b∈X.ex∨X.s₀.heap.objs.size≤b)/\b≠X.env.locals/\(∀x c,X.env.cells.lookup x=some c->c≠b)/\∀p∈X.pn++pins,p.1≠b):Inv X pins σ H' s':=by
 obtain⟨h',g',d',t',o'⟩:=s';have e:o'=s.os:=ho;subst e;exact I.call (g':=g') (t':=t') (d':=d') u hok hg hch
end
abbrev XK:=Value->Option Addr->Hp->Prop
abbrev St:=List (Option V)
abbrev VK:=V->Hp->Prop
abbrev TE:=St->Hp->VK->Prop
abbrev TT:=St->Hp->(Bool->Hp->Prop)->Prop
abbrev TA:=St->Hp->(List V->Hp->Prop)->Prop
structure Ends where
 nx:St->Hp->Prop
 rt:VK
 bk:St->Hp->Prop:=fun _ _=>False
 ct:St->Hp->Prop:=fun _ _=>False
abbrev TS:=Ends->St->Hp->Prop
def EP(X:Cx)(pins:List (Addr×Obj))(σ:St)(Q:VK)(u:Value)(s':Shared):Prop:=∃v H',Inv X pins σ H' s'/\RelV v u/\Q v H'
def TP(X:Cx)(pins:List (Addr×Obj))(σ:St)(Q:Bool->Hp->Prop)(b:Bool)(s':Shared):Prop:=∃H',Inv X pins σ H' s'/\Q b H'
def AP(X:Cx)(pins:List (Addr×Obj))(σ:St)(Q:List V->Hp->Prop)(us:List Value)(s':Shared):Prop:=∃vs H',Inv X pins σ H' s'/\Vals vs us/\Q vs H'
def SP(X:Cx)(pins:List (Addr×Obj))(D:Ends)(f:Flow)(s':Shared):Prop:=
 match f with
 |.next=>∃σ' H',Inv X pins σ' H' s'/\D.nx σ' H'
 |.brk=>∃σ' H',Inv X pins σ' H' s'/\D.bk σ' H'
 |.cont=>∃σ' H',Inv X pins σ' H' s'/\D.ct σ' H'
 |.ret u=>∃v σ' H',Inv X pins σ' H' s'/\RelV v u/\D.rt v H'
def PE(X:Cx)(e:Expr)(t:TE):Prop:=
 ∀(pins:List (Addr×Obj)) (s:Shared) (σ:St) (H:Hp) (Q:VK),Inv X pins σ H s->t σ H Q->wpAny (model X.prog X.w) X.A (eval e X.env) (EP X pins σ Q) X.xe s
def PT(X:Cx)(e:Expr)(t:TT):Prop:=
 ∀(pins:List (Addr×Obj)) (s:Shared) (σ:St) (H:Hp) (Q:Bool->Hp->Prop),Inv X pins σ H s->t σ H Q->wpAny (model X.prog X.w) X.A (isTrue e X.env (eval e X.env)) (TP X pins σ Q) X.xe s
def PW(X:Cx)(e:Expr)(t:TT):Prop:=
 ∀(whole:Sem Value) (pins:List (Addr×Obj)) (s:Shared) (σ:St) (H:Hp) (Q:Bool->Hp->Prop),Inv X pins σ H s->t σ H Q->wpAny (model X.prog X.w) X.A (isTrue e X.env whole) (TP X pins σ Q) X.xe s
theorem PW.pt{X:Cx}{e:Expr}{t:TT}(h:PW X e t):PT X e t:=h _
def PA(X:Cx)(es:List Expr)(t:TA):Prop:=
 ∀(pos:Pos) (pins:List (Addr×Obj)) (s:Shared) (σ:St) (H:Hp) (Q:List V->Hp->Prop),Inv X pins σ H s->t σ H Q->wpAny (model X.prog X.w) X.A (spliced (backTo pos (starEach es X.env))) (AP X pins σ Q) X.xe s
def PS(X:Cx)(st:Stmt)(t:TS):Prop:=
 ∀(pins:List (Addr×Obj)) (s:Shared) (σ:St) (H:Hp) (D:Ends),Inv X pins σ H s->t D σ H->wpAny (model X.prog X.w) X.A (exec st X.env) (SP X pins D) X.xe s
def PSs(X:Cx)(st:List Stmt)(t:TS):Prop:=
 ∀(pins:List (Addr×Obj)) (s:Shared) (σ:St) (H:Hp) (D:Ends),Inv X pins σ H s->t D σ H->wpAny (model X.prog X.w) X.A (execs st X.env) (SP X pins D) X.xe s
theorem thn{α:Type}{t:Sem α}{Q Q':α->Shared->Prop}{M:Model}{A:Around}{E:Value->Shared->Prop}{s:Shared}(h:wpAny M A t Q E s)(hQ:∀a s,Q a s->Q' a s):wpAny M A t Q' E s:=wpAny_mono h hQ fun _ _ x=>x
end L2
namespace L2
open PySem PySem.Spec PyProof.Rows
section
variable {X:Cx}
theorem bin{a b:Expr}{ta tb:TE}(ha:PE X a ta)(hb:PE X b tb){pins:List (Addr×Obj)}{s:Shared}{σ:St}{H:Hp}{R:V->V->Hp->Prop}(I:Inv X pins σ H s)(h:ta σ H fun x H1=>tb σ H1 fun y H2=>R x y H2)
  {α:Type} {Q:α->Shared->Prop} {f:Value->Value->Sem α}
  (hf:∀v u s2 x y H2,Inv X pins σ H2 s2->RelV x v->RelV y u->R x y H2->wpAny (model X.prog X.w) X.A (f v u) Q X.xe s2):
  wpAny (model X.prog X.w) X.A (eval a X.env) (fun v s₁=>wpAny (model X.prog X.w) X.A (eval b X.env) (fun u s₂=>wpAny (model X.prog X.w) X.A (f v u) Q X.xe s₂) X.xe s₁) X.xe s:=by
 refine thn (ha pins s σ H _ I h) fun v s1 ⟨x,H1,I1,r1,q1⟩=>?_;refine thn (hb pins s1 σ H1 _ I1 q1) fun u s2 ⟨y,H2,I2,r2,q2⟩=>?_;exact hf v u s2 x y H2 I2 r1 r2 q2
def tVar(i:Nat):TE:=fun σ H Q=>∃v,σ[i]?=some (some v)/\Q v H
def tC(v:V):TE:=fun _ H Q=>Q v H
theorem qk3z{i:Nat}{x:Str}{pos:Pos}(hN:X.N[i]?=some x)(hv:Vis X.env.scope x)(hd:(x==("__debug__":Str))=false:=by decide)(hcd:(x==("__classdict__":Str))=false:=by decide):PE X (.Name x pos) (tVar i):=by
 intro pins s σ H Q I h;obtain⟨v,e,h⟩:=h;obtain⟨m,hn,hl⟩:=I.loc;obtain⟨u,r,l⟩:=hl i x v hN e hv;have fin:EP X pins σ Q u s:=⟨v,H,I,r,h⟩;rcases l with⟨hk,hm⟩|⟨hk,c,hc,hcell⟩
 ·exact wpAny_Name (wpAny_loadName_local I.ok.kind hk hn hm fin) hd
 ·rcases hk with hk|hk
  ·exact wpAny_Name (wpAny_loadName_cell I.ok.kind hk hc hcell fin) hd
  ·exact wpAny_Name (wpAny_loadName_free I.ok.kind hk hc hcell fin hcd) hd
theorem qk4z{i j pos}:PE X (.Constant (.int i) j pos) (tC (.int i)):=fun _ _ _ H _ I h=>wpAny_Constant_int ⟨.int i,H,I.tok _,⟨_,rfl⟩,h⟩
theorem qk5z{b j pos}:PE X (.Constant (.bool b) j pos) (tC (.bl b)):=fun _ _ _ H _ I h=>Constant_bool ⟨.bl b,H,I,rfl,h⟩
theorem qk6z{j pos}:PE X (.Constant .none j pos) (tC .non):=fun _ _ _ H _ I h=>Constant_none ⟨.non,H,I,rfl,h⟩
theorem qk7z{x j pos}:PE X (.Constant (.str x) j pos) (tC (.str x)):=fun _ _ _ H _ I h=>Calls.Constant_str ⟨.str x,H,I.tok _,⟨_,rfl⟩,h⟩
def Gl(X:Cx)(x:Str):Prop:=X.env.kindOf x=some .globalImplicit
theorem qbnz{E:Value->Shared->Prop}{pins:List (Addr×Obj)}{s:Shared}{σ:St}{H:Hp}{x:Str}{u:Value}{pos:Pos}{Q:Value->Shared->Prop}(I:Inv X pins σ H s)(hg:Gl X x)(hm:X.mg x=some u)(h:Q u s)
  (hd:(x==("__debug__":Str))=false:=by decide):wpAny (model X.prog X.w) X.A (eval (.Name x pos) X.env) Q E s:=
 Calls.Name_function_global I.ok.kind hg (Calls.loadGlobal_global (by rw[I.ok.glob];exact I.mod.glob.keeps I.bk) hm h) hd
theorem qawz{E:Value->Shared->Prop}{pins:List (Addr×Obj)}{s:Shared}{σ:St}{H:Hp}{x:Str}{u:Value}{pos:Pos}{Q:Value->Shared->Prop}(I:Inv X pins σ H s)(hg:Gl X x)(hm:X.mg x=none)(hv:bootBuiltins x=some u)(h:Q u s)
  (hn:x≠"__name__":=by decide) (hd:(x==("__debug__":Str))=false:=by decide):wpAny (model X.prog X.w) X.A (eval (.Name x pos) X.env) Q E s:=by
 obtain⟨mb,h1,h2⟩:=I.mod.blt;exact Calls.Name_function_global I.ok.kind hg (Calls.loadGlobal_builtin (by rw[I.ok.glob];exact I.mod.glob.keeps I.bk) hm (by rw[I.ok.blt];exact h1.keeps I.bk) ((h2 x hn).trans hv) h) hd
theorem qgfz{x:Str}{v:V}{u:Value}{pos:Pos}(hg:Gl X x)(hm:X.mg x=some u)(r:RelV v u)(hd:(x==("__debug__":Str))=false:=by decide):PE X (.Name x pos) (tC v):=
 fun _ _ _ H _ I h=>qbnz I hg hm ⟨v,H,I,r,h⟩ hd
theorem qggz{x:Str}{v:V}{u:Value}{pos:Pos}(hg:Gl X x)(hm:X.mg x=none)(hv:bootBuiltins x=some u)(r:RelV v u)(hn:x≠"__name__":=by decide)(hd:(x==("__debug__":Str))=false:=by decide):PE X (.Name x pos) (tC v):=
 fun _ _ _ H _ I h=>qawz I hg hm hv ⟨v,H,I,r,h⟩ hn hd
variable {a b:Expr} {ta tb:TE} {pos:Pos}
def PC(X:Cx)(op:CmpOp)(a b:Expr)(t:TE):Prop:=
 ∀(pins:List (Addr×Obj)) (s:Shared) (σ:St) (H:Hp) (Q:VK),Inv X pins σ H s->t σ H Q ->
  wpAny (model X.prog X.w) X.A (eval a X.env) (fun v s₁=>wpAny (model X.prog X.w) X.A (eval b X.env) (fun u s₂=>wpAny (model X.prog X.w) X.A (compareOp op v u) (EP X pins σ Q) X.xe s₂) X.xe s₁) X.xe s
theorem qghz{op:CmpOp}{t:TE}(h:PC X op a b t)(h1:behindInMarks op b=false:=by first|exact nobehind _ (by decide) (by decide)|rfl):PE X (.Compare a [op] [b] pos) t:=fun pins s σ H Q I hw=>wpAny_Compare1 (h pins s σ H Q I hw) h1
variable {tA tB':TT} {rest:List Expr}
def tAnd(t u:TT):TT:=fun σ H Q=>t σ H fun c H1=>if c=true then u σ H1 Q else Q false H1
def tOr(t u:TT):TT:=fun σ H Q=>t σ H fun c H1=>if c=true then Q true H1 else u σ H1 Q
def tNot(t:TT):TT:=fun σ H Q=>t σ H fun c H1=>Q (!c) H1
theorem pw_and1(ha:PT X a tA):PW X (.BoolOp .And [a] pos) tA:=by
 intro wh pins s σ H Q I h;refine isTrue_and (thn (ha pins s σ H Q I h) fun c s1 e=>?_);cases c with
 |true=>exact isTrue_and_nil e
 |false=>exact e
theorem pw_or1(ha:PT X a tA):PW X (.BoolOp .Or [a] pos) tA:=by
 intro wh pins s σ H Q I h;refine isTrue_or (thn (ha pins s σ H Q I h) fun c s1 e=>?_);cases c with
 |false=>exact isTrue_or_nil e
 |true=>exact e
theorem pw_and(ha:PT X a tA)(hb:PW X (.BoolOp .And (b::rest) pos) tB'):PW X (.BoolOp .And (a::b::rest) pos) (tAnd tA tB'):=by
 intro wh pins s σ H Q I h;refine isTrue_and (thn (ha pins s σ H _ I h) fun c s1 ⟨H1,I1,q1⟩=>?_);cases c with
 |true=>exact hb wh pins s1 σ H1 Q I1 q1
 |false=>exact⟨H1,I1,q1⟩
theorem pw_or(ha:PT X a tA)(hb:PW X (.BoolOp .Or (b::rest) pos) tB'):PW X (.BoolOp .Or (a::b::rest) pos) (tOr tA tB'):=by
 intro wh pins s σ H Q I h;refine isTrue_or (thn (ha pins s σ H _ I h) fun c s1 ⟨H1,I1,q1⟩=>?_);cases c with
 |true=>exact⟨H1,I1,q1⟩
 |false=>exact hb wh pins s1 σ H1 Q I1 q1
theorem qk8z(ha:PT X a tA):PT X (.UnaryOp .Not a pos) (tNot tA):=by
 intro pins s σ H Q I h;exact isTrue_not (ha pins s σ H (fun c H1=>Q (!c) H1) I h)
def tAndV(ta tb:TE):TE:=fun σ H Q=>ta σ H fun x H1=>∃c,x=.bl c/\if c=true then tb σ H1 Q else Q (.bl false) H1
def tOrV(ta tb:TE):TE:=fun σ H Q=>ta σ H fun x H1=>∃c,x=.bl c/\if c=true then Q (.bl true) H1 else tb σ H1 Q
def tNotV(ta:TE):TE:=fun σ H Q=>ta σ H fun x H1=>∃c,x=.bl c/\Q (.bl (!c)) H1
theorem qk9z{op}{t:TE}(h:PE X a t):PE X (.BoolOp op [a] pos) t:=fun pins s σ H Q I hw=>BoolOp_one (h pins s σ H Q I hw)
theorem qlaz(ha:PE X a ta)(hb:PE X (.BoolOp .And (b::rest) pos) tb):PE X (.BoolOp .And (a::b::rest) pos) (tAndV ta tb):=by
 intro pins s σ H Q I h;refine BoolOp_and (thn (ha pins s σ H _ I h) fun v s1 ⟨x,H1,I1,r1,q1⟩=>?_);obtain⟨c,rfl,q1⟩:=q1;cases r1;refine wpAny_truthy_bool ?_;cases c with
 |true=>exact hb pins s1 σ H1 Q I1 q1
 |false=>exact⟨.bl false,H1,I1,rfl,q1⟩
theorem qlbz(ha:PE X a ta)(hb:PE X (.BoolOp .Or (b::rest) pos) tb):PE X (.BoolOp .Or (a::b::rest) pos) (tOrV ta tb):=by
 intro pins s σ H Q I h;refine BoolOp_or (thn (ha pins s σ H _ I h) fun v s1 ⟨x,H1,I1,r1,q1⟩=>?_);obtain⟨c,rfl,q1⟩:=q1;cases r1;refine wpAny_truthy_bool ?_;cases c with
 |false=>exact hb pins s1 σ H1 Q I1 q1
 |true=>exact⟨.bl true,H1,I1,rfl,q1⟩
theorem qlcz(ha:PE X a ta):PE X (.UnaryOp .Not a pos) (tNotV ta):=by
 intro pins s σ H Q I h;refine UnaryOp_ (thn (ha pins s σ H _ I h) fun v s1 ⟨x,H1,I1,r1,q1⟩=>?_);obtain⟨c,rfl,q1⟩:=q1;cases r1;exact not_of (wpAny_truthy_bool ⟨.bl (!c),H1,I1,rfl,q1⟩)
end
end L2
namespace L2
open PySem PySem.Spec PyProof.Rows
def SqL(K:PySem.W.Frag)(H:Hp)(a:Addr)(xs:List V):Prop:=
 Rd H a (.lst xs) ∨
  ∃(o:Obj) (its:Array Value) (n:Nat),K.lookup a=some o/\o.cls=.type "list"/\o.dict=none/\o.data=.seq its n/\its.size≤sizeLine/\Vals xs its.toList
def SqT(K:PySem.W.Frag)(H:Hp)(a:Addr)(xs:List V):Prop:=
 Rd H a (.tup xs) ∨
  ∃(o:Obj) (its:Array Value) (n:Nat),K.lookup a=some o/\o.cls=.type "tuple"/\o.data=.seq its n/\its.size≤sizeLine/\Vals xs its.toList
def absV:Value->Option V
 |.none=>some .non
 |.bool b=>some (.bl b)
 |.int i _=>some (.int i)
 |.str x _=>some (.str x)
 |.bytes b _=>some (.byt b)
 |.float b _=>some (.flt b)
 |.ref a=>some (.ref a)
 |.type n=>some (.ty n)
 |_=>none
theorem RelV.abs{x:V}{u:Value}(r:RelV x u):absV u=some x:=by
 cases x with
 |non=>cases r;rfl
 |bl _=>cases r;rfl
 |int _=>obtain⟨t,rfl⟩:=r;rfl
 |str _=>obtain⟨t,rfl⟩:=r;rfl
 |byt _=>obtain⟨t,rfl⟩:=r;rfl
 |flt _=>obtain⟨t,rfl⟩:=r;rfl
 |ref _=>cases r;rfl
 |ty _=>cases r;rfl
theorem RelV.inj{x y:V}{u:Value}(r:RelV x u)(q:RelV y u):x=y:=Option.some.inj (r.abs.symm.trans q.abs)
theorem Vals.inj:∀{xs ys:List V} {us:List Value},Vals xs us->Vals ys us->xs=ys
 |_,_,_,.nil,.nil=>rfl
 |_,_,_,.cons r t,.cons r' t'=>by rw[r.inj r',Vals.inj t t']
section
variable {X:Cx} {pins:List (Addr×Obj)} {σ:St} {H:Hp} {s:Shared} {a:Addr} {xs ys:List V}
theorem SqL.of{K:PySem.W.Frag}(h:H a=some (.lst xs)):SqL K H a xs:=.inl (.inl h)
theorem SqT.of{K:PySem.W.Frag}(h:H a=some (.tup xs)):SqT K H a xs:=.inl (.inl h)
theorem Inv.list(I:Inv X pins σ H s)(h:SqL X.K H a xs):∃its:List Value,Vals xs its/\PlainL s.heap a its.toArray/\xs.length≤sizeLine:=by
 rcases h with h|⟨o,its,n,hk,hc,hd,hs,hz,r⟩
 ·obtain⟨z,its,n,r,e⟩:=h.ok I.hok;exact⟨its,r,⟨_,n,e,rfl,rfl,rfl⟩,z⟩
 ·refine⟨its.toList,r,⟨o,n,I.kIn a o hk,hc,hd,by simpa using hs⟩,?_⟩;have e:=r.length;simp only[Array.length_toList] at e;lia
theorem Inv.tuple(I:Inv X pins σ H s)(h:SqT X.K H a xs):∃its:List Value,Vals xs its/\IsTup s.heap a its.toArray/\xs.length≤sizeLine:=by
 rcases h with h|⟨o,its,n,hk,hc,hs,hz,r⟩
 ·obtain⟨z,its,r,p⟩:=h.ok I.hok;exact⟨its,r,p,z⟩
 ·refine⟨its.toList,r,⟨o,I.kIn a o hk,hc,n,by simpa using hs⟩,?_⟩;have e:=r.length;simp only[Array.length_toList] at e;lia
theorem Inv.list_inj(I:Inv X pins σ H s)(h:SqL X.K H a xs)(h':SqL X.K H a ys):xs=ys:=by
 obtain⟨its,r,⟨o,n,e,_,_,d⟩,_⟩:=I.list h;obtain⟨its',r',⟨o',n',e',_,_,d'⟩,_⟩:=I.list h';rw[e] at e';cases e';rw[d] at d';injection d' with d1 _
 have:its=its':=by simpa using congrArg Array.toList d1
 subst this;exact r.inj r'
theorem Inv.tuple_inj(I:Inv X pins σ H s)(h:SqT X.K H a xs)(h':SqT X.K H a ys):xs=ys:=by
 obtain⟨its,r,⟨o,e,_,n,d⟩,_⟩:=I.tuple h;obtain⟨its',r',⟨o',e',_,n',d'⟩,_⟩:=I.tuple h';rw[e] at e';cases e';rw[d] at d';injection d' with d1 _
 have:its=its':=by simpa using congrArg Array.toList d1
 subst this;exact r.inj r'
end
abbrev Cx.wish(X:Cx)(E:Value->Shared->Prop):Cx:={ X with xe:=E }
abbrev Cx.nox(X:Cx):Cx:=X.wish fun _ _=>False
theorem Cx.Ok.wish{X:Cx}(ok:X.Ok)(E:Value->Shared->Prop):(X.wish E).Ok:=
 ⟨ok.mod,ok.kind,ok.glob,ok.blt,ok.above,ok.inj,ok.has,ok.cab,ok.hd,ok.frames,ok.stk,ok.exf,ok.bs,ok.bsz,ok.noex,ok.exfs,ok.funs,ok.frf⟩
theorem Cx.Ok.unwish{X:Cx}{E:Value->Shared->Prop}(ok:(X.wish E).Ok):X.Ok:=
 ⟨ok.mod,ok.kind,ok.glob,ok.blt,ok.above,ok.inj,ok.has,ok.cab,ok.hd,ok.frames,ok.stk,ok.exf,ok.bs,ok.bsz,ok.noex,ok.exfs,ok.funs,ok.frf⟩
section
variable {X:Cx} {pins:List (Addr×Obj)} {σ:St} {H:Hp} {s:Shared} {E:Value->Shared->Prop}
theorem Inv.wish(I:Inv X pins σ H s)(E:Value->Shared->Prop):Inv (X.wish E) pins σ H s:=⟨I.ok.wish E,I.os,I.bare,I.base,I.loc,I.cell,I.free,I.freeC,I.pin,I.hok,I.len⟩
theorem Inv.unwish(I:Inv (X.wish E) pins σ H s):Inv X pins σ H s:=⟨I.ok.unwish,I.os,I.bare,I.base,I.loc,I.cell,I.free,I.freeC,I.pin,I.hok,I.len⟩
theorem SP.unwish{D:Ends}{f:Flow}{s':Shared}(h:SP (X.wish E) pins D f s'):SP X pins D f s':=by
 cases f with
 |next=>obtain⟨σ',H',I,q⟩:=h;exact⟨σ',H',I.unwish,q⟩
 |brk=>obtain⟨σ',H',I,q⟩:=h;exact⟨σ',H',I.unwish,q⟩
 |cont=>obtain⟨σ',H',I,q⟩:=h;exact⟨σ',H',I.unwish,q⟩
 |ret u=>obtain⟨v,σ',H',I,r,q⟩:=h;exact⟨v,σ',H',I.unwish,r,q⟩
theorem PSs.nox{st:List Stmt}{t:TS}(h:PSs X.nox st t):PSs X st t:=fun pins s σ H D I hw=>
 wpAny_mono (h pins s σ H D (I.wish _) hw) (fun _ _ q=>q.unwish) fun _ _ z=>False.elim z
end
section
variable {X:Cx} {st:Stmt} {rest:List Stmt} {t u:TS} {e:Expr} {te:TE} {pos:Pos}
def tNext:TS:=fun D σ H=>D.nx σ H
def tSeq(t u:TS):TS:=fun D σ H=>t { D with nx:=u D } σ H
theorem qldz:PSs X [] tNext:=fun _ _ σ H _ I h=>wpAny_execs_nil ⟨σ,H,I,h⟩
theorem qlez(h1:PS X st t)(h2:PSs X rest u):PSs X (st::rest) (tSeq t u):=by
 intro pins s σ H D I h;refine wpAny_execs_cons (thn (h1 pins s σ H { D with nx:=u D } I h) fun f s1 q=>?_);cases f with
 |next=>
  obtain⟨σ',H',I',q⟩:=q;exact h2 pins s1 σ' H' D I' q
 |ret v=>exact q
 |brk=>exact q
 |cont=>exact q
theorem qlfz(h1:PS X st t):PSs X [st] t:=by
 intro pins s σ H D I h;refine wpAny_execs_cons (thn (h1 pins s σ H D I h) fun f s1 q=>?_);cases f with
 |next=>exact wpAny_execs_nil q
 |ret v=>exact q
 |brk=>exact q
 |cont=>exact q
theorem Inv.quiet{pins:List (Addr×Obj)}{σ:St}{H:Hp}{s:Shared}(I:Inv X pins σ H s):interactive X.env=false:=by simp[interactive,I.ok.kind]
def tDrop(te:TE):TS:=fun D σ H=>te σ H fun _ H1=>D.nx σ H1
theorem qlgz(he:PE X e te)(hs:swapsWith e none pos.line X.env=pure false:=by rfl):PS X (.Expr e pos) (tDrop te):=by
 intro pins s σ H D I h;exact wpAny_Expr_any (thn (he pins s σ H _ I h) fun v s1 ⟨x,H1,I1,r1,q1⟩=>⟨σ,H1,I1,q1⟩) I.quiet hs
def tRet(te:TE):TS:=fun D σ H=>te σ H D.rt
theorem qlhz(he:PE X e te):PS X (.Return (some e) pos) (tRet te):=by
 intro pins s σ H D I h;exact wpAny_Return_some (thn (he pins s σ H _ I h) fun v s1 ⟨x,H1,I1,r1,q1⟩=>⟨x,σ,H1,I1,r1,q1⟩)
def tIfS(c:TT)(t u:TS):TS:=fun D σ H=>c σ H fun b H1=>if b=true then t D σ H1 else u D σ H1
theorem qliz{c:Expr}{a b:List Stmt}{tc:TT}(hc:PT X c tc)(ha:PSs X a t)(hb:PSs X b u):PS X (.If c a b pos) (tIfS tc t u):=by
 intro pins s σ H D I h;refine wpAny_If (thn (hc pins s σ H _ I h) fun d s1 ⟨H1,I1,q1⟩=>?_);cases d with
 |true=>exact ha pins s1 σ H1 D I1 q1
 |false=>exact hb pins s1 σ H1 D I1 q1
end
abbrev TG:=V->St->Hp->(St->Hp->Prop)->Prop
abbrev TGs:=List V->St->Hp->(St->Hp->Prop)->Prop
def PG(X:Cx)(target:Expr)(t:TG):Prop:=
 ∀(pins:List (Addr×Obj)) (s:Shared) (σ:St) (H:Hp) (v:V) (u:Value) (Q:St->Hp->Prop),Inv X pins σ H s->RelV v u->t v σ H Q ->
  wpAny (model X.prog X.w) X.A (assign target X.env u) (fun _ s'=>∃σ' H',Inv X pins σ' H' s'/\Q σ' H') X.xe s
def PGs(X:Cx)(ts:List Expr)(t:TGs):Prop:=
 ∀(pins:List (Addr×Obj)) (s:Shared) (σ:St) (H:Hp) (vs:List V) (us:List Value) (Q:St->Hp->Prop),Inv X pins σ H s->Vals vs us->t vs σ H Q ->
  wpAny (model X.prog X.w) X.A (assignInOrder ((assignEach ts X.env).map (·.2)) us) (fun _ s'=>∃σ' H',Inv X pins σ' H' s'/\Q σ' H') X.xe s
abbrev TSet:=V->V->V->Hp->(Hp->Prop)->Prop
def PSet(X:Cx)(t:TSet):Prop:=
 ∀(pins:List (Addr×Obj)) (s:Shared) (σ:St) (H:Hp) (o i v:V) (ov iv u:Value) (Q:Hp->Prop),Inv X pins σ H s->RelV o ov->RelV i iv->RelV v u->t o i v H Q ->
  wpAny (model X.prog X.w) X.A (setItem ov iv u) (fun _ s'=>∃H',Inv X pins σ H' s'/\Q H') X.xe s
section
variable {X:Cx} {pos:Pos}
def gName(i:Nat):TG:=fun v σ H Q=>Q (σ.set i (some v)) H
theorem qljz{i:Nat}{x:Str}(hN:X.N.Nodup)(hi:X.N[i]?=some x)(hx:Loc X.env.scope x)(hf:X.fn x=true∨X.env.scope.names.lookup x=some .local:=by first|exact .inl rfl|exact .inr rfl|assumption):PG X (.Name x pos) (gName i):=by
 intro pins s σ H v u Q I r h;exact wpAny_assign_Name (qd4z I hN hi hx r (fun s' I'=>⟨_,H,I',h⟩) hf)
def gNil:TGs:=fun vs σ H Q=>vs=[]/\Q σ H
def gCons(t:TG)(u:TGs):TGs:=fun vs σ H Q=>∃v r,vs=v::r/\t v σ H fun σ' H'=>u r σ' H' Q
theorem qlkz:PGs X [] gNil:=by
 intro pins s σ H vs us Q I r h;obtain⟨e,h⟩:=h;subst e;cases r;exact assignInOrder_nil ⟨σ,H,I,h⟩
theorem qllz{e:Expr}{es:List Expr}{t:TG}{u:TGs}(h1:PG X e t)(h2:PGs X es u)
  (hs:(assignEach (e::es) X.env).map (·.2)=assign e X.env::(assignEach es X.env).map (·.2):=by rfl):PGs X (e::es) (gCons t u):=by
 intro pins s σ H vs us Q I r h;obtain⟨v,vr,e1,h⟩:=h;subst e1;cases r with
 |cons r rr=>
  rw[hs];refine assignInOrder_cons (thn (h1 pins s σ H _ _ _ I r h) fun _ s1 ⟨σ1,H1,I1,q1⟩=>?_);exact h2 pins s1 σ1 H1 _ _ Q I1 rr q1
def gTup(K:PySem.W.Frag)(n:Nat)(t:TGs):TG:=fun v σ H Q=>∃a xs,v=.ref a/\SqT K H a xs/\xs.length=n/\t xs σ H Q
theorem qlmz{es:List Expr}{k:Nat}{t:TGs}{n:Nat}(hc:X.calm=true)(h:PGs X es t)
  (hn:(assignEach es X.env).length=n:=by rfl) (hst:(assignEach es X.env).findIdx? (·.1)=none:=by rfl):PG X (.Tuple es k pos) (gTup X.K n t):=by
 intro pins s σ H v u Q I r hw;obtain⟨a,xs,e1,hq,hl,hw⟩:=hw;subst e1;cases r;obtain⟨its,rv,ht,hz⟩:=I.tuple hq;refine assign_Tuple_tuple (I.ok.hd hc) ht (by simp[hn,←hl,rv.length]) hst fun h' hx=>?_;have I1:Inv X pins σ H { s with heap:=h' }:=I.kept (t':=s.toks) fun b o e=>hx b o (Nat.ne_of_lt (Heap.lt_size e)) e
 exact h pins _ σ H xs _ Q I1 (by simpa using rv) hw
def gSub(to ti:TE)(t:TSet):TG:=fun v σ H Q=>to σ H fun o H1=>ti σ H1 fun i H2=>t o i v H2 fun H3=>Q σ H3
theorem qlnz{o i:Expr}{to ti:TE}{t:TSet}(ho:PE X o to)(hi:PE X i ti)(hs:PSet X t)
  (ha:∀v,assign (.Subscript o i pos) X.env v=(do
   let ov ←holding [v] (eval o X.env)
   let iv ←holding [v,ov] (eval i X.env)
   standAt pos
   holding [v,ov,iv] (setItem ov iv v)
   release [v,ov,iv] []):=by intro _;rfl):PG X (.Subscript o i pos) (gSub to ti t):=by
 intro pins s σ H v u Q I r h
 rw[ha]
 refine wpAny_bind (wpAny_holding (thn (ho pins s σ H _ I h) fun ov s1 ⟨x,H1,I1,r1,q1⟩=>?_))
 refine wpAny_bind (wpAny_holding (thn (hi pins s1 σ H1 _ I1 q1) fun iv s2 ⟨y,H2,I2,r2,q2⟩=>?_))
 refine wpAny_bind (wpAny_standAt (wpAny_bind (wpAny_holding (thn (hs pins s2 σ H2 x y v ov iv u _ I2 r1 r2 r q2) fun _ s3 ⟨H3,I3,q3⟩=>?_))))
 exact wpAny_release ⟨σ,H3,I3,q3⟩
def tAsg(te:TE)(g:TG):TS:=fun D σ H=>te σ H fun x H1=>g x σ H1 D.nx
theorem qloz{tg e:Expr}{te:TE}{g:TG}(he:PE X e te)(hg:PG X tg g)(hs:swapsWithSole [tg] e pos.line X.env=pure false:=by rfl)(hw:swappedStores [tg] e X.env=pure none:=by rfl)
  (h1:(assignEach [tg] X.env).map (·.2)=[assign tg X.env]:=by rfl):PS X (.Assign [tg] e pos) (tAsg te g):=by
 intro pins s σ H D I h;refine wpAny_Assign_stores (thn (he pins s σ H _ I h) fun v s1 ⟨x,H1,I1,r1,q1⟩=>?_) hs hw;rw[h1];exact thn (hg pins s1 σ H1 x v _ I1 r1 q1) fun _ s2 q=>q
theorem qlpz{i:Nat}{x:Str}{e:Expr}{te:TE}{pos':Pos}(hN:X.N.Nodup)(hi:X.N[i]?=some x)(hx:Loc X.env.scope x)(he:PE X e te)(hs:swapsWith e (some (.Name x pos')) pos.line X.env=pure false:=by rfl)(hf:X.fn x=true∨X.env.scope.names.lookup x=some .local:=by first|exact .inl rfl|exact .inr rfl|assumption):
  PS X (.Assign [.Name x pos'] e pos) (tAsg te (gName i)):=by
 intro pins s σ H D I h;refine wpAny_Assign_Name (thn (he pins s σ H _ I h) fun v s1 ⟨y,H1,I1,r1,q1⟩=>?_) hs;exact qd4z I1 hN hi hx r1 (fun s2 I2=>⟨_,H1,I2,q1⟩) hf
end
section
variable {X:Cx} {pos:Pos}
def tWhile(c:TT)(tb:TS):TS:=fun D σ H=>∃W:Nat->St->Hp->Prop,(∃m,W m σ H)/\∀m σ H,W m σ H ->
 c σ H fun b H1=>if b=true then ∃N:St->Hp->Prop,(∀σ' H',N σ' H'->∃m',m' < m/\W m' σ' H')/\tb { D with nx:=N,ct:=N,bk:=D.nx } σ H1 else D.nx σ H1
theorem qlqz{c:Expr}{body:List Stmt}{tc:TT}{tb:TS}(hp:PassesOwn (model X.prog X.w) X.A X.env X.xe)(hc:PT X c tc)(hb:PSs X body tb):PS X (.While c body [] pos) (tWhile tc tb):=by
 intro pins s σ H D I h;obtain⟨W,⟨m0,w0⟩,turn⟩:=h;refine wpAny_While (codeAny_whileLoop (fun n s'=>∃σ' H',Inv X pins σ' H' s'/\W n σ' H') ?_ m0 ⟨σ,H,I,w0⟩);rintro n s1 ⟨σ1,H1,I1,w1⟩;refine wpAny_passesOwn hp (thn (hc pins s1 σ1 H1 _ I1 (turn n σ1 H1 w1)) fun b s2 ⟨H2,I2,q2⟩=>?_);cases b with
 |true=>
  obtain⟨N,hN,q2⟩:=q2;rw[if_pos rfl];refine wpAny_passesOwn hp (thn (hb pins s2 σ1 H2 _ I2 q2) fun f s3 q3=>?_);cases f with
  |next=>
   obtain⟨σ3,H3,I3,n3⟩:=q3;obtain⟨m',hm,w3⟩:=hN σ3 H3 n3;exact⟨m',hm,σ3,H3,I3,w3⟩
  |cont=>
   obtain⟨σ3,H3,I3,n3⟩:=q3;obtain⟨m',hm,w3⟩:=hN σ3 H3 n3;exact⟨m',hm,σ3,H3,I3,w3⟩
  |brk=>exact q3
  |ret v=>exact q3
 |false=>
  rw[if_neg Bool.false_ne_true];exact wpAny_execs_nil ⟨σ1,H2,I2,q2⟩
end
structure It where
 go:Nat->Hp->Prop
 yld:Nat->Hp->V->Hp->Prop
 stop:Nat->Hp->Prop
def FpOk(X:Cx)(pins:List (Addr×Obj))(H:Hp)(b:Addr):Prop:=
 H b=none/\b≠X.env.locals/\b∉X.fs/\(b∈X.ex∨X.s₀.heap.objs.size≤b)/\(∀x c,X.env.cells.lookup x=some c->c≠b)/\∀p∈X.pn++pins,p.1≠b
theorem Inv.fpOk{X:Cx}{pins:List (Addr×Obj)}{σ:St}{H H':Hp}{s:Shared}{b:Addr}(I:Inv X pins σ H s)(hb:s.heap.objs.size≤b)(hn:H' b=none):FpOk X pins H' b:=by
 refine⟨hn,Nat.ne_of_gt (Nat.lt_of_lt_of_le I.lt hb),I.nofs hb,.inr (Nat.le_trans I.sz hb),fun x c e z=>?_,fun p hp z=>?_⟩
 ·obtain⟨v,q⟩:=I.cell x c e;exact absurd (Nat.lt_of_lt_of_le q.lt (by rw[z];exact hb)) (Nat.lt_irrefl _)
 ·exact absurd (Nat.lt_of_lt_of_le (Heap.lt_size (I.pin p hp).1) (by rw[z];exact hb)) (Nat.lt_irrefl _)
structure Turn(P:Program)(w:World)(K:PySem.W.Frag)(tg:Expr)(J:It)(fp:List Addr)(it:Addr)(tn:Nat->Heap->Prop):Prop where
 mem:it∈fp
 obj:∀i h,tn i h->∀b∈fp,∃o,h.get? b=some o/\∀v,o.data≠.cell v
 keep:∀i h h',tn i h->(∀b∈fp,∀o,h.get? b=some o->h'.get? b=some o)->tn i h'
 item:∀(X:Cx),X.prog=P->X.w=w->X.K=K->X.calm=true->∀(i:Nat) (pins:List (Addr×Obj)) (s:Shared) (σ:St) (H:Hp) (E:Value->Shared->Prop),Inv X pins σ H s->(∀b∈fp,FpOk X pins H b)->tn i s.heap->J.go i H ->
  wpAny (model P w) X.A (pyNext (.ref it)) (fun r s1=>∃u,r=some u ∧
   wpAny (model P w) X.A (letOwnedTupleGo tg (.ref it) u) (fun _ s2=>∃x H',Inv X pins σ H' s2/\RelV x u/\J.yld i H x H'/\tn (i+1) s2.heap/\∀b∈fp,H' b=none) E s1) E s
 done:∀(X:Cx),X.prog=P->X.w=w->X.K=K->X.calm=true->∀(i:Nat) (pins:List (Addr×Obj)) (s:Shared) (σ:St) (H:Hp) (E:Value->Shared->Prop),Inv X pins σ H s->(∀b∈fp,FpOk X pins H b)->tn i s.heap->J.stop i H ->
  wpAny (model P w) X.A (pyNext (.ref it)) (fun r s1=>r=none/\Inv X pins σ H s1) E s
 self:∀(A:Around) (i:Nat) (s:Shared) (Q:Value->Shared->Prop) (E:Value->Shared->Prop),tn i s.heap->Q (.ref it) s->wpAny (model P w) A (pyIter (.ref it)) Q E s
abbrev TI:=St->Hp->(It->Hp->Prop)->Prop
def PIE(X:Cx)(pins:List (Addr×Obj))(σ:St)(tg:Expr)(R:It->Hp->Prop)(itv:Value)(s2:Shared):Prop:=
 ∃(it:Addr) (fp:List Addr) (tn:Nat->Heap->Prop) (J:It) (H':Hp),itv=.ref it/\Inv X pins σ H' s2/\Turn X.prog X.w X.K tg J fp it tn/\tn 0 s2.heap/\(∀b∈fp,FpOk X pins H' b)/\R J H'
def PI(X:Cx)(tg iter:Expr)(wi:TI):Prop:=
 ∀(pins:List (Addr×Obj)) (s:Shared) (σ:St) (H:Hp) (R:It->Hp->Prop),Inv X pins σ H s->wi σ H R ->
  wpAny (model X.prog X.w) X.A (eval iter X.env) (fun v s1=>wpAny (model X.prog X.w) X.A (pyIter v) (PIE X pins σ tg R) X.xe s1) X.xe s
theorem qd5z{M:Model}{A:Around}{E:Value->Shared->Prop}{s:Shared}{tg:Expr}{it:Addr}{u:Value}{o:Obj}{n:String}{vs:Array Value}{Q:Unit->Shared->Prop}(ho:s.heap.get? it=some o)(hc:o.cls=.type n)(hd:o.data=.fields vs)
    (hn:["enumerate","zip","dict_itemiterator","dict_reverseitemiterator","odict_iterator","itertools.zip_longest","itertools.pairwise"].contains n=false) (hQ:Q () s):wpAny M A (letOwnedTupleGo tg (.ref it) u) Q E s:=by
  unfold letOwnedTupleGo;cases tg<;>first
    |exact wpAny_pure hQ
    | (cases u<;>first
        |exact wpAny_pure hQ
        | (refine wpAny_bind (wpAny_load ho ?_)
           rw[hc,hd];show wpAny M A (if (["enumerate","zip","dict_itemiterator","dict_reverseitemiterator","odict_iterator","itertools.zip_longest","itertools.pairwise"].contains n&&vs[0]?==some (rawInt _))=true then _ else _) Q E s;rw[if_neg (by intro h;rw[hn,Bool.false_and] at h;cases h)];exact wpAny_pure hQ))
def Itl(K:PySem.W.Frag)(a:Addr):It:=
 ⟨fun i H=>∃xs x,SqL K H a xs/\xs[i]?=some x,fun i H x H'=>H'=H/\∀xs,SqL K H a xs->xs[i]?=some x,fun i H=>∃xs,SqL K H a xs/\xs.length≤i⟩
def Itt(K:PySem.W.Frag)(a:Addr):It:=
 ⟨fun i H=>∃xs x,SqT K H a xs/\xs[i]?=some x,fun i H x H'=>H'=H/\∀xs,SqT K H a xs->xs[i]?=some x,fun i H=>∃xs,SqT K H a xs/\xs.length≤i⟩
def Itr(lo:Int)(n:Nat):It:=⟨fun i _=>i<n,fun i H x H'=>H'=H/\x=.int (lo+i),fun i _=>n≤i⟩
theorem qlrz{P:Program}{w:World}{K:PySem.W.Frag}{tg:Expr}(a it:Addr):Turn P w K tg (Itl K a) [it] it (fun i h=>h.IsListIter it a i) where
 mem:=by simp
 obj:=fun i h st b hb=>by
  have e:b=it:=by simpa using hb
  subst e;obtain⟨o,e,c,d⟩:=st;exact⟨o,e,fun v z=>by rw[d] at z;cases z⟩
 keep:=fun i h h' st k=>st.at fun o e=>k it (by simp) o e
 item:=by
  intro X hP hw hK hc i pins s σ H E I hf st hg;subst hP hw hK;obtain⟨xs,x,hq,hx⟩:=hg;obtain⟨its,rv,p,hz⟩:=I.list hq;obtain⟨u,hu,ru⟩:=rv.get hx;obtain⟨f0,f1,f2,f3,f4,f5⟩:=hf it (by simp);refine wpAny_pyNext_list_item st p.isList (x:=u) (by simpa using hu) fun h' st' sb=>?_;have I1:Inv X pins σ H { s with heap:=h' }:=I.turned (t':=s.toks) (fun b o hb e=>(sb.2 b hb).trans e) f0 f1 f3 f4 f5;obtain⟨o,e,c,d⟩:=id st';exact⟨u,rfl,qd5z (s:={ s with heap:=h' }) e c d (by decide) ⟨x,H,I1,ru,⟨rfl,fun ys hy=>by rw[I.list_inj hy hq];exact hx⟩,st',fun b hb=>(hf b hb).1⟩⟩
 done:=by
  intro X hP hw hK hc i pins s σ H E I hf st hg;subst hP hw hK;obtain⟨xs,hq,hx⟩:=hg;obtain⟨its,rv,p,hz⟩:=I.list hq;obtain⟨f0,f1,f2,f3,f4,f5⟩:=hf it (by simp);have hl:=rv.length;exact wpAny_pyNext_list_end (I.ok.hd hc) st p.isList (by simp;lia) fun h' eb=>⟨rfl,I.turned (t':=s.toks) (fun b o hb e=>eb b o hb e) f0 f1 f3 f4 f5⟩
 self:=fun _ _ _ _ _ st h=>wpAny_pyIter_listiter st h
theorem qlsz{P:Program}{w:World}{K:PySem.W.Frag}{tg:Expr}(a it:Addr):Turn P w K tg (Itt K a) [it] it (fun i h=>h.IsTupleIter it a i) where
 mem:=by simp
 obj:=fun i h st b hb=>by
  have e:b=it:=by simpa using hb
  subst e;obtain⟨o,e,c,d⟩:=st;exact⟨o,e,fun v z=>by rw[d] at z;cases z⟩
 keep:=fun i h h' st k=>st.at fun o e=>k it (by simp) o e
 item:=by
  intro X hP hw hK hc i pins s σ H E I hf st hg;subst hP hw hK;obtain⟨xs,x,hq,hx⟩:=hg;obtain⟨its,rv,p,hz⟩:=I.tuple hq;obtain⟨u,hu,ru⟩:=rv.get hx;obtain⟨f0,f1,f2,f3,f4,f5⟩:=hf it (by simp);refine wpAny_pyNext_tuple_item st (show s.heap.IsTuple a its.toArray from p) (x:=u) (by simpa using hu) fun h' st' sb=>?_;have I1:Inv X pins σ H { s with heap:=h' }:=I.turned (t':=s.toks) (fun b o hb e=>(sb.2 b hb).trans e) f0 f1 f3 f4 f5;obtain⟨o,e,c,d⟩:=id st';exact⟨u,rfl,qd5z (s:={ s with heap:=h' }) e c d (by decide) ⟨x,H,I1,ru,⟨rfl,fun ys hy=>by rw[I.tuple_inj hy hq];exact hx⟩,st',fun b hb=>(hf b hb).1⟩⟩
 done:=by
  intro X hP hw hK hc i pins s σ H E I hf st hg;subst hP hw hK;obtain⟨xs,hq,hx⟩:=hg;obtain⟨its,rv,p,hz⟩:=I.tuple hq;obtain⟨f0,f1,f2,f3,f4,f5⟩:=hf it (by simp);have hl:=rv.length;exact wpAny_pyNext_tuple_end (I.ok.hd hc) st (show s.heap.IsTuple a its.toArray from p) (by simp;lia) fun h' eb=>⟨rfl,I.turned (t':=s.toks) (fun b o hb e=>eb b o hb e) f0 f1 f3 f4 f5⟩
 self:=fun _ _ _ _ _ st h=>wpAny_pyIter_tupleiter st h
theorem qltz{P:Program}{w:World}{K:PySem.W.Frag}{tg:Expr}(it:Addr)(lo:Int)(n:Nat):Turn P w K tg (Itr lo n) [it] it (fun i h=>IsRangeIter h it (lo+(i:Nat)*1) ((n:Int)-(i:Nat)) 1) where
 mem:=by simp
 obj:=fun i h st b hb=>by
  have e:b=it:=by simpa using hb
  subst e;exact⟨_,st,fun v z=>by
   have z':Data.fields _=Data.cell v:=z;cases z'⟩
 keep:=fun i h h' st k=>k it (by simp) _ st
 item:=by
  intro X hP hw hK hc i pins s σ H E I hf st hg;subst hP hw hK;obtain⟨f0,f1,f2,f3,f4,f5⟩:=hf it (by simp);have W:=Walks.range (prog:=X.prog) (w:=X.w) (I.ok.hd hc) it lo 1 n;refine W.item i s _ _ hg st fun v h' tk hv st' kk=>?_;obtain⟨t,rfl⟩:=hv;have I1:Inv X pins σ H { s with heap:=h',toks:=tk }:=I.turned (fun b o hb e=>kk b o (by simpa using hb) e) f0 f1 f3 f4 f5;refine⟨_,rfl,qd5z (s:={ s with heap:=h',toks:=tk }) (n:="range_iterator") st' rfl rfl (by decide) ⟨.int (lo+i),H,I1,⟨t,?_⟩,⟨rfl,rfl⟩,st',fun b hb=>(hf b hb).1⟩⟩;rw[Int.mul_one]
 done:=by
  intro X hP hw hK hc i pins s σ H E I hf st hg;subst hP hw hK;obtain⟨f0,f1,f2,f3,f4,f5⟩:=hf it (by simp);exact wpAny_pyNext_range_end (I.ok.hd hc) st (by have:n≤i:=hg;lia) fun h' eb=>⟨rfl,I.turned (t':=s.toks) (fun b o hb e=>eb b o hb e) f0 f1 f3 f4 f5⟩
 self:=fun _ _ _ _ _ st h=>wpAny_pyIter_rangeiter st h
end L2
namespace L2
open PySem PySem.Spec PyProof.Rows
section
variable {X:Cx} {tg:Expr}
theorem qgiz{pins:List (Addr×Obj)}{σ:St}{H:Hp}{s:Shared}{R:It->Hp->Prop}{E:Value->Shared->Prop}{lo hi:Int}{t u v:Tok}{tk:Nat}(I:Inv X pins σ H s)(h1:-(2^62)≤lo)(h2:lo<2^62)(h3:-(2^62)≤hi)(h4:hi<2^62)
  (q:R (Itr lo (hi-lo).toNat) H):wpAny (model X.prog X.w) X.A (pyIter (.ref s.heap.objs.size)) (PIE X pins σ tg R) E { s with heap:=s.heap.push { cls:=.type "range",data:=.fields #[.int lo t,.int hi u,.int 1 v]},toks:=tk }:=by
 refine wpAny_pyIter_range (IsRange.new ..) (small_one h1 h2 h3 h4) ?_;have I1:Inv X pins σ H { s with heap:=s.heap.push { cls:=.type "range",data:=.fields #[.int lo t,.int hi u,.int 1 v]},toks:=tk }:=I.kept fun b o e=>Heap.get?_push_of_some _ e;refine⟨(s.heap.push { cls:=.type "range",data:=.fields #[.int lo t,.int hi u,.int 1 v]}).objs.size,[(s.heap.push { cls:=.type "range",data:=.fields #[.int lo t,.int hi u,.int 1 v]}).objs.size],_,_,H,rfl,
  I1.kept (t':=tk) fun b o e=>Heap.get?_push_of_some _ e,qltz _ lo (hi-lo).toNat,?_,fun b hb=>?_,q⟩
 ·have e1:lo+((0:Nat):Int)*1=lo:=by simp
  have e2:(((hi-lo).toNat:Nat):Int)-((0:Nat):Int)=Builtin.Range.rangeSize lo hi 1:=by rw[rangeSize_one];split<;>lia
  show IsRangeIter _ _ (lo+((0:Nat):Int)*1) ((((hi-lo).toNat:Nat):Int)-((0:Nat):Int)) 1;rw[e1,e2];exact Heap.get?_push_size _ rfl
 ·have e:b=(s.heap.push { cls:=.type "range",data:=.fields #[.int lo t,.int hi u,.int 1 v]}).objs.size:=by simpa using hb
  subst e;exact I1.fpOk (Nat.le_refl _) (I1.hok.fresh (Nat.le_refl _))
def iRng1(ta:TA):TI:=fun σ H R=>ta σ H fun vs H1=>∃j:Int,vs=[.int j]/\-(2^62)≤j/\j<2^62/\R (Itr 0 j.toNat) H1
def iRng2(ta:TA):TI:=fun σ H R=>ta σ H fun vs H1=>∃i j:Int,vs=[.int i,.int j]/\(-(2^62)≤i/\i<2^62/\-(2^62)≤j/\j<2^62)/\R (Itr i (j-i).toNat) H1
theorem qluz{a:Expr}{ta:TA}{p pos:Pos}(hg:Gl X "range")(hm:X.mg "range" = none)(ha:PA X [a] ta)(hs:starEach [a] X.env=[(false,eval a X.env)]:=by rfl):PI X tg (.Call (.Name "range" p) [a] [] pos) (iRng1 ta):=by
 intro pins s σ H R I h;refine Call_ (qawz I hg hm boot_range (PyProof.Rows.callWith_type1 (thn (ha pos pins s σ H _ I h) fun us s1 ⟨vs,H1,I1,r1,q1⟩=>?_) hs rfl));obtain⟨j,e,q1,q2,q⟩:=q1;subst e;cases r1 with
 |cons r rr=>
  cases rr;obtain⟨t,rfl⟩:=r;exact call_range_1 (qgiz I1 (by lia) (by lia) q1 q2 (by simpa using q))
theorem qlvz{a b:Expr}{ta:TA}{p pos:Pos}(hg:Gl X "range")(hm:X.mg "range" = none)(ha:PA X [a,b] ta)(hs:starEach [a,b] X.env=[(false,eval a X.env),(false,eval b X.env)]:=by rfl)(hs2:starEach [b] X.env=[(false,eval b X.env)]:=by rfl):
  PI X tg (.Call (.Name "range" p) [a,b] [] pos) (iRng2 ta):=by
 intro pins s σ H R I h;refine Call_ (qawz I hg hm boot_range (PyProof.Rows.callWith_type1 (thn (ha pos pins s σ H _ I h) fun us s1 ⟨vs,H1,I1,r1,q1⟩=>?_) (by rw[hs,hs2]) (by rw[hs2];rfl)));obtain⟨i,j,e,⟨q1,q2,q3,q4⟩,q⟩:=q1;subst e;cases r1 with
 |cons r rr=>
  cases rr with
  |cons r' rr=>
   cases rr;obtain⟨t,rfl⟩:=r;obtain⟨t',rfl⟩:=r';exact call_range_2 (qgiz I1 q1 q2 q3 q4 q)
def tFor(wi:TI)(g:TG)(tb:TS):TS:=fun D σ H=>wi σ H fun J H1=>∃W:Nat->Nat->St->Hp->Prop,(∃m,W 0 m σ H1)/\∀i m σ H,W i m σ H ->
 (J.stop i H/\D.nx σ H)∨(J.go i H/\∃N:St->Hp->Prop,(∀σ' H',N σ' H'->∃m',m' < m/\W (i+1) m' σ' H')/\∀x H',J.yld i H x H'->g x σ H' fun σ2 H2=>tb { D with nx:=N,ct:=N,bk:=D.nx } σ2 H2)
def pinsAt(fp:List Addr)(h:Heap):List (Addr×Obj):=fp.filterMap fun b=>(h.get? b).map fun o=>(b,o)
theorem qc2z{fp:List Addr}{h:Heap}{b:Addr}{o:Obj}(hb:b∈fp)(e:h.get? b=some o):(b,o)∈pinsAt fp h:=List.mem_filterMap.mpr ⟨b,hb,by rw[e];rfl⟩
theorem qlwz{fp:List Addr}{h:Heap}{p:Addr×Obj}(hp:p∈pinsAt fp h):p.1∈fp/\h.get? p.1=some p.2:=by
 obtain⟨b,hb,e⟩:=List.mem_filterMap.mp hp;cases q:h.get? b with
 |none=>rw[q] at e;cases e
 |some o=>
  rw[q] at e;have e':(b,o)=p:=Option.some.inj e;subst e';exact⟨hb,q⟩
theorem Inv.pinned{pins:List (Addr×Obj)}{σ:St}{H:Hp}{s:Shared}{fp:List Addr}(I:Inv X pins σ H s)(hf:∀b∈fp,FpOk X pins H b)(ho:∀b∈fp,∃o,s.heap.get? b=some o/\∀v,o.data≠.cell v):Inv X (pins++pinsAt fp s.heap) σ H s:=
 I.pins_of fun p hp=>(List.mem_append.mp hp).elim (fun z=>I.pin p (List.mem_append_right _ z)) fun z=>by
  obtain⟨hb,e⟩:=qlwz z;obtain⟨f0,f1,f2,_⟩:=hf p.1 hb;obtain⟨o,e',d⟩:=ho p.1 hb;rw[e] at e';cases e';exact⟨e,f0,f1,f2,d⟩
theorem Inv.unpinned{pins pl:List (Addr×Obj)}{σ:St}{H:Hp}{s:Shared}(I:Inv X (pins++pl) σ H s):Inv X pins σ H s:=I.pins_of fun p hp=>I.pin p (List.mem_append_right _ (List.mem_append_left _ hp))
theorem qlxz{iter:Expr}{body:List Stmt}{wi:TI}{g:TG}{tb:TS}{pos:Pos}(hp:PassesOwn (model X.prog X.w) X.A X.env X.xe)(hc:X.calm=true)(hi:PI X tg iter wi)(hg:PG X tg g)(hb:PSs X body tb)
  (hs:∀x,foldedSetIterable iter X.env x=pure x:=by intro _;rfl):PS X (.For tg iter body [] pos) (tFor wi g tb):=by
 intro pins s σ H D I h;refine wpAny_For (thn (hi pins s σ H _ I h) fun v s1 h1=>thn h1 fun itv s2 h2=>?_) hs;obtain⟨it,fp,tn,J,H2,e,I2,T,st2,f2,W,⟨m0,w0⟩,turn⟩:=h2;subst e
 -- what stays true of the iterator's objects through the loop
 have stat:∀{H':Hp},(∀b∈fp,H' b=none)->∀b∈fp,FpOk X pins H' b:=fun hn b hb=>⟨hn b hb,(f2 b hb).2⟩;refine codeAny_forLoop_any (fun n s'=>∃i σ' H',Inv X pins σ' H' s'/\tn i s'.heap/\(∀b∈fp,H' b=none)/\W i n σ' H') ?_ m0 ⟨0,σ,H2,I2,st2,fun b hb=>(f2 b hb).1,w0⟩;rintro n s3 ⟨i,σ3,H3,I3,st3,fr3,w3⟩;rcases turn i n σ3 H3 w3 with⟨stop,qn⟩|⟨go,N,hN,step⟩
 ·refine wpAny_passesOwn hp (thn (T.done X rfl rfl rfl hc i pins s3 σ3 H3 X.xe I3 (stat fr3) st3 stop) fun r s4 ⟨hr,I4⟩=>?_);subst hr;exact wpAny_execs_nil ⟨σ3,H3,I4,qn⟩
 ·refine wpAny_passesOwn hp (thn (T.item X rfl rfl rfl hc i pins s3 σ3 H3 X.xe I3 (stat fr3) st3 go) fun r s4 ⟨u,hr,h4⟩=>?_);subst hr;refine wpAny_passesOwn hp (thn h4 fun _ s5 ⟨x,H5,I5,r5,y5,st5,fr5⟩=>?_);have I5':=I5.pinned (stat fr5) (T.obj _ _ st5);refine wpAny_passesOwn hp (thn (hg _ s5 σ3 H5 x u _ I5' r5 (step x H5 y5)) fun _ s6 ⟨σ6,H6,I6,q6⟩=>?_);refine wpAny_passesOwn hp (thn (hb _ s6 σ6 H6 _ I6 q6) fun f s7 q7=>?_);have again:∀{σ7:St} {H7:Hp},Inv X (pins++pinsAt fp s5.heap) σ7 H7 s7->N σ7 H7->∃m,m<n/\∃i σ' H',Inv X pins σ' H' s7/\tn i s7.heap/\(∀b∈fp,H' b=none)/\W i m σ' H':=fun {σ7 H7} I7 n7=>by
   obtain⟨m',hm,w7⟩:=hN σ7 H7 n7;refine⟨m',hm,i+1,σ7,H7,I7.unpinned,T.keep _ _ _ st5 fun b hb o e=>(I7.pin (b,o) (List.mem_append_right _ (List.mem_append_right _ (qc2z hb e)))).1,fun b hb=>?_,w7⟩;obtain⟨o,e,d⟩:=T.obj _ _ st5 b hb;exact (I7.pin (b,o) (List.mem_append_right _ (List.mem_append_right _ (qc2z hb e)))).2.1
  cases f with
  |next=>obtain⟨σ7,H7,I7,n7⟩:=q7;exact again I7 n7
  |cont=>obtain⟨σ7,H7,I7,n7⟩:=q7;exact again I7 n7
  |brk=>obtain⟨σ7,H7,I7,q7⟩:=q7;exact⟨σ7,H7,I7.unpinned,q7⟩
  |ret v=>obtain⟨x7,σ7,H7,I7,r7,q7⟩:=q7;exact⟨x7,σ7,H7,I7.unpinned,r7,q7⟩
end
end L2
namespace L2
open PySem PySem.Spec PyProof.Rows
abbrev R2:=V->V->Hp->VK->Prop
def OpR(X:Cx)(f:Value->Value->Sem Value)(r:R2):Prop:=
 ∀(pins:List (Addr×Obj)) (s:Shared) (σ:St) (H:Hp) (x y:V) (v u:Value) (Q:VK),Inv X pins σ H s->RelV x v->RelV y u->r x y H Q ->
  wpAny (model X.prog X.w) X.A (f v u) (EP X pins σ Q) X.xe s
def UnR(X:Cx)(f:Value->Sem Value)(r:V->Hp->VK->Prop):Prop:=
 ∀(pins:List (Addr×Obj)) (s:Shared) (σ:St) (H:Hp) (x:V) (v:Value) (Q:VK),Inv X pins σ H s->RelV x v->r x H Q ->
  wpAny (model X.prog X.w) X.A (f v) (EP X pins σ Q) X.xe s
def CallR(X:Cx)(f:Value)(r:List V->Hp->VK->Prop):Prop:=
 ∀(pins:List (Addr×Obj)) (s:Shared) (σ:St) (H:Hp) (xs:List V) (us:List Value) (Q:VK),Inv X pins σ H s->Vals xs us->r xs H Q ->
  wpAny (model X.prog X.w) X.A (call f us) (EP X pins σ Q) X.xe s
def TruR(X:Cx)(r:V->Hp->(Bool->Hp->Prop)->Prop):Prop:=
 ∀(pins:List (Addr×Obj)) (s:Shared) (σ:St) (H:Hp) (x:V) (v:Value) (Q:Bool->Hp->Prop),Inv X pins σ H s->RelV x v->r x H Q ->
  wpAny (model X.prog X.w) X.A (truthy v) (TP X pins σ Q) X.xe s
def tOp(r:R2)(ta tb:TE):TE:=fun σ H Q=>ta σ H fun x H1=>tb σ H1 fun y H2=>r x y H2 Q
def tUn(r:V->Hp->VK->Prop)(ta:TE):TE:=fun σ H Q=>ta σ H fun x H1=>r x H1 Q
def rI(C:Int->Int->Prop)(g:Int->Int->V):R2:=fun x y H Q=>∃i j,x=.int i/\y=.int j/\C i j/\Q (g i j) H
def rI0(g:Int->Int->V):R2:=fun x y H Q=>∃i j,x=.int i/\y=.int j/\Q (g i j) H
def rU(g:Int->V):V->Hp->VK->Prop:=fun x H Q=>∃i,x=.int i/\Q (g i) H
section
variable {X:Cx} {a b c:Expr} {ta tb tc:TE} {pos:Pos}
theorem binT(ha:PE X a ta)(hb:PE X b tb){pins:List (Addr×Obj)}{s:Shared}{σ:St}{H:Hp}{R:V->V->Hp->Prop}(I:Inv X pins σ H s)
  (h:ta σ H fun x H1=>tb σ H1 fun y H2=>R x y H2) {Q:Value->Shared->Prop} {f:Value->Value->Sem Value}
  (hf:∀v u s2 x y H2,Inv X pins σ H2 s2->RelV x v->RelV y u->R x y H2->wpAny (model X.prog X.w) X.A (f v u) Q X.xe s2):
  wpAny (model X.prog X.w) X.A (eval a X.env) (fun v s₁=>wpAny (model X.prog X.w) X.A (eval b X.env) (fun u s₂=>wpAny (model X.prog X.w) X.A (f v u) Q X.xe s₂) X.xe s₁) X.xe s:=by
 refine thn (ha pins s σ H _ I h) fun v s1 ⟨x,H1,I1,r1,q1⟩=>?_;refine thn (hb pins s1 σ H1 _ I1 q1) fun u s2 ⟨y,H2,I2,r2,q2⟩=>?_;exact hf v u s2 x y H2 I2 r1 r2 q2
theorem qlyz{op:Operator}{r:R2}(ho:OpR X (binaryOp op) r)(ha:PE X a ta)(hb:PE X b tb):PE X (.BinOp a op b pos) (tOp r ta tb):=by
 intro pins s σ H Q I h;exact wpAny_BinOp (binT ha hb I h fun v u s2 x y H2 I2 rx ry q=>ho pins s2 σ H2 x y v u Q I2 rx ry q)
theorem qlzz{op:UnaryOp}{r:V->Hp->VK->Prop}(ho:UnR X (unaryOp op) r)(ha:PE X a ta):PE X (.UnaryOp op a pos) (tUn r ta):=by
 intro pins s σ H Q I h;exact UnaryOp_ (thn (ha pins s σ H _ I h) fun v s1 ⟨x,H1,I1,r1,q1⟩=>ho pins s1 σ H1 x v Q I1 r1 q1)
theorem opI{f:Value->Value->Sem Value}{C:Int->Int->Prop}{g:Int->Int->Int}
  (rule:∀(i j:Int) (t u:Tok) (s:Shared) (Q:Value->Shared->Prop) (E:Value->Shared->Prop),C i j->Q (.int (g i j) s.toks) { s with toks:=s.toks+1 }->wpAny (model X.prog X.w) X.A (f (.int i t) (.int j u)) Q E s):
  OpR X f (rI C fun i j=>.int (g i j)):=by
 intro pins s σ H x y v u Q I rx ry h;obtain⟨i,j,rfl,rfl,hc,q⟩:=h;obtain⟨t,rfl⟩:=rx;obtain⟨t',rfl⟩:=ry;exact rule i j t t' s _ _ hc ⟨.int (g i j),H,I.tok _,⟨_,rfl⟩,q⟩
theorem opI0{f:Value->Value->Sem Value}{g:Int->Int->Int}
  (rule:∀(i j:Int) (t u:Tok) (s:Shared) (Q:Value->Shared->Prop) (E:Value->Shared->Prop),Q (.int (g i j) s.toks) { s with toks:=s.toks+1 }->wpAny (model X.prog X.w) X.A (f (.int i t) (.int j u)) Q E s):
  OpR X f (rI0 fun i j=>.int (g i j)):=by
 intro pins s σ H x y v u Q I rx ry h;obtain⟨i,j,rfl,rfl,q⟩:=h;obtain⟨t,rfl⟩:=rx;obtain⟨t',rfl⟩:=ry;exact rule i j t t' s _ _ ⟨.int (g i j),H,I.tok _,⟨_,rfl⟩,q⟩
theorem opB0{f:Value->Value->Sem Value}{g:Int->Int->Bool}
  (rule:∀(i j:Int) (t u:Tok) (s:Shared) (Q:Value->Shared->Prop) (E:Value->Shared->Prop),Q (.bool (g i j)) s->wpAny (model X.prog X.w) X.A (f (.int i t) (.int j u)) Q E s):
  OpR X f (rI0 fun i j=>.bl (g i j)):=by
 intro pins s σ H x y v u Q I rx ry h;obtain⟨i,j,rfl,rfl,q⟩:=h;obtain⟨t,rfl⟩:=rx;obtain⟨t',rfl⟩:=ry;exact rule i j t t' s _ _ ⟨.bl (g i j),H,I,rfl,q⟩
def CPow(i j:Int):Prop:=0≤j/\j≤1000000/\i.natAbs<2^64
theorem op_add:OpR X (binaryOp .Add) (rI0 fun i j=>.int (i+j)):=opI0 fun _ _ _ _ _ _ _ q=>add_int q
theorem qc3z:OpR X (binaryOp .Sub) (rI0 fun i j=>.int (i-j)):=opI0 fun _ _ _ _ _ _ _ q=>sub_int q
theorem qb7z:OpR X (binaryOp .Mod) (rI (fun _ j=>0<j) fun i j=>.int (i%j)):=opI fun i j _ _ _ _ _ hc q=>by
 have h1:(0:Int)<j:=hc;exact mod_int' (by lia) (by rw[Int.fmod_eq_emod_of_nonneg i (by lia)];exact q)
theorem ql0z:OpR X (binaryOp .Pow) (rI CPow fun i j=>.int (i^j.toNat)):=opI fun _ _ _ _ _ _ _ hc q=>pow_int_small hc.1 hc.2.1 hc.2.2 q
theorem unI{f:Value->Sem Value}{g:Int->Int}
  (rule:∀(i:Int) (t:Tok) (s:Shared) (Q:Value->Shared->Prop) (E:Value->Shared->Prop),Q (.int (g i) s.toks) { s with toks:=s.toks+1 }->wpAny (model X.prog X.w) X.A (f (.int i t)) Q E s):
  UnR X f (rU fun i=>.int (g i)):=by
 intro pins s σ H x v Q I rx h;obtain⟨i,rfl,q⟩:=h;obtain⟨t,rfl⟩:=rx;exact rule i t s _ _ ⟨.int (g i),H,I.tok _,⟨_,rfl⟩,q⟩
theorem ql1z:UnR X (unaryOp .USub) (rU fun i=>.int (-i)):=unI fun _ _ _ _ _ q=>neg_int q
end
section
variable {X:Cx} {a b c:Expr} {ta tb tc:TE} {pos:Pos}
theorem qgjz{pins:List (Addr×Obj)}{σ:St}{H:Hp}{s:Shared}{Q:VK}{k k':Bool}(I:Inv X pins σ H s)(q:Q (.bl k) H)(e:k=k'):EP X pins σ Q (.bool k') s:=by
 subst e;exact⟨.bl k,H,I,rfl,q⟩
theorem op_lt:OpR X (compareOp .Lt) (rI0 fun i j=>.bl (decide (i<j))):=opB0 fun _ _ _ _ _ _ _ q=>lt_int q
theorem qd6z:OpR X (compareOp .LtE) (rI0 fun i j=>.bl (decide (i≤j))):=opB0 fun _ _ _ _ _ _ _ q=>le_int q
theorem qd7z:OpR X (compareOp .Gt) (rI0 fun i j=>.bl (decide (j<i))):=opB0 fun _ _ _ _ _ _ _ q=>gt_int q
theorem ql2z:OpR X (compareOp .GtE) (rI0 fun i j=>.bl (decide (j≤i))):=opB0 fun _ _ _ _ _ _ _ q=>ge_int q
theorem ql3z:OpR X (compareOp .Is) (fun x y H Q=>y=.non/\Q (.bl (decide (x=.non))) H):=by
 intro pins s σ H x y v u Q I rx ry h;obtain⟨rfl,q⟩:=h;cases ry;refine is_none_gen (qgjz I q ?_);cases x<;>first
  | (cases rx;rfl)
  | (obtain⟨t,rfl⟩:=rx;rfl)
theorem ql4z:OpR X (compareOp .IsNot) (fun x y H Q=>y=.non/\Q (.bl (!decide (x=.non))) H):=by
 intro pins s σ H x y v u Q I rx ry h;obtain⟨rfl,q⟩:=h;cases ry;refine isnot_none_gen (qgjz I q ?_);cases x<;>first
  | (cases rx;rfl)
  | (obtain⟨t,rfl⟩:=rx;rfl)
theorem OpR.or{f:Value->Value->Sem Value}{r r':R2}(h:OpR X f r)(h':OpR X f r'):OpR X f (fun x y H Q=>r x y H Q∨r' x y H Q):=by
 intro pins s σ H x y v u Q I rx ry q;rcases q with q|q
 ·exact h pins s σ H x y v u Q I rx ry q
 ·exact h' pins s σ H x y v u Q I rx ry q
theorem nomark(b:Expr){op:CmpOp}(h:op≠.In:=by decide)(h2:op≠.NotIn:=by decide):behindInMarks op b=false:=by
 have e1:(op==CmpOp.In)=false:=by cases op<;>first|rfl|exact absurd rfl h
 have e2:(op==CmpOp.NotIn)=false:=by cases op<;>first|rfl|exact absurd rfl h2
 cases b<;>simp[behindInMarks,e1,e2]
theorem ql5z{op:CmpOp}{r:R2}(ho:OpR X (compareOp op) r)(ha:PE X a ta)(hb:PE X b tb)(hm:behindInMarks op b=false):PE X (.Compare a [op] [b] pos) (tOp r ta tb):=by
 intro pins s σ H Q I h;exact wpAny_Compare1 (binT ha hb I h fun v u s2 x y H2 I2 rx ry q=>ho pins s2 σ H2 x y v u Q I2 rx ry q) hm
def tTest(t:TE):TT:=fun σ H Q=>t σ H fun x H'=>∃k,x=.bl k/\Q k H'
theorem ql6z{op:CmpOp}{r:R2}(ho:OpR X (compareOp op) r)(ha:PE X a ta)(hb:PE X b tb)(hm:behindInMarks op b=false):PT X (.Compare a [op] [b] pos) (tTest (tOp r ta tb)):=by
 intro pins s σ H Q I h;refine wpAny_isTrue_Compare1 (thn (ha pins s σ H _ I h) fun v s1 ⟨x,H1,I1,r1,q1⟩=>thn (hb pins s1 σ H1 _ I1 q1) fun u s2 ⟨y,H2,I2,r2,q2⟩=>
  thn (ho pins s2 σ H2 x y v u _ I2 r1 r2 q2) fun c s3 ⟨z,H3,I3,r3,k,e,q3⟩=>?_) hm
 subst e;cases r3;exact wpAny_truthy_bool ⟨H3,I3,q3⟩
def tChain(r r':R2)(ta tb tc:TE):TE:=fun σ H Q=>ta σ H fun x H1=>tb σ H1 fun y H2=>r x y H2 fun z H3=>∃k,z=.bl k ∧
 (if k=true then tc σ H3 fun w' H4=>r' y w' H4 Q else Q (.bl false) H3)
theorem ql7z{op op':CmpOp}{r r':R2}(ho:OpR X (compareOp op) r)(ho':OpR X (compareOp op') r')(ha:PE X a ta)(hb:PE X b tb)(hc:PE X c tc)
  (hm:lastMarks [op,op'] [b,c]=false:=by with_unfolding_all rfl):PE X (.Compare a [op,op'] [b,c] pos) (tChain r r' ta tb tc):=by
 intro pins s σ H Q I h;refine Compare_chain (thn (ha pins s σ H _ I h) fun v s1 ⟨x,H1,I1,r1,q1⟩=>chain_link (thn (hb pins s1 σ H1 _ I1 q1) fun u s2 ⟨y,H2,I2,r2,q2⟩=>
  thn (ho pins s2 σ H2 x y v u _ I2 r1 r2 q2) fun d s3 ⟨z,H3,I3,r3,k,e,q3⟩=>?_)) hm
 subst e;cases r3;refine wpAny_truthy_bool ?_;cases k with
 |false=>exact ite_ff ⟨.bl false,H3,I3,rfl,q3⟩
 |true=>exact ite_tt (chain_last (thn (hc pins s3 σ H3 _ I3 q3) fun w' s4 ⟨z',H4,I4,r4,q4⟩=>ho' pins s4 σ H4 y z' u w' Q I4 r2 r4 q4))
def TruV(K:PySem.W.Frag)(x:V)(H:Hp)(k:Bool):Prop:=
 match x with
 |.non=>k=false
 |.bl b=>k=b
 |.int i=>k=(i != 0)
 |.str y=>y.length≤sizeLine/\k=((y.length:Int) != 0)
 |.byt y=>y.size≤sizeLine/\k=((y.size:Int) != 0)
 |.ref p=>(∃xs,SqL K H p xs/\k = !xs.isEmpty)∨(∃xs,SqT K H p xs/\k = !xs.isEmpty)∨∃kvs,H p=some (.dK kvs)/\k = !kvs.isEmpty
 |_=>False
theorem ql8z{κ:Type}{kvs:List (κ×V)}{vs:List (κ×Value)}(r:KV kvs vs):(!vs.isEmpty) = !kvs.isEmpty:=by
 cases r<;>rfl
theorem qgkz{xs:List V}{its:List Value}(r:Vals xs its):(!its.toArray.isEmpty) = !xs.isEmpty:=by
 cases r<;>simp
theorem line63:(sizeLine:Nat)<2^63:=by rw[sizeLine_eq];decide
theorem ql9z:TruR X (fun x H Q=>∃k,TruV X.K x H k/\Q k H):=by
 intro pins s σ H x v Q I rx h;obtain⟨k,e,q⟩:=h;have hl:=line63;have hs:sizeLine=16777216:=sizeLine_eq;cases x with
 |non=>
  cases rx;have e':k=false:=e;subst e';exact truthy_none ⟨H,I,q⟩
 |bl b=>
  cases rx;have e':k=b:=e;subst e';exact wpAny_truthy_bool ⟨H,I,q⟩
 |int i=>
  obtain⟨t,rfl⟩:=rx;have e':k=(i != 0):=e;subst e';exact PySem.P.truthy_int ⟨H,I,q⟩
 |str y=>
  obtain⟨t,rfl⟩:=rx;obtain⟨hy,e'⟩:y.length≤sizeLine/\k=((y.length:Int) != 0):=e;subst e';exact PySem.P.truthy_str (by lia) ⟨H,I.tok _,q⟩
 |byt y=>
  obtain⟨t,rfl⟩:=rx;obtain⟨hy,e'⟩:y.size≤sizeLine/\k=((y.size:Int) != 0):=e;subst e';exact PySem.W.truthy_bytes (by lia) ⟨H,I.tok _,q⟩
 |ref p=>
  cases rx;have e':(∃xs,SqL X.K H p xs/\k = !xs.isEmpty)∨(∃xs,SqT X.K H p xs/\k = !xs.isEmpty)∨∃kvs,H p=some (.dK kvs)/\k = !kvs.isEmpty:=e;rcases e' with⟨xs,hx,e'⟩|⟨xs,hx,e'⟩|⟨kvs,hx,e'⟩
  ·subst e';obtain⟨its,r,pl,hz⟩:=I.list hx;have hlen:=r.length;exact wpAny_truthy_list pl.isList (by simp only[List.size_toArray];lia) ⟨H,I.tok _,by rw[qgkz r];exact q⟩
  ·subst e';obtain⟨its,r,pl,hz⟩:=I.tuple hx;have hlen:=r.length;exact truthy_tuple pl (by simp only[List.size_toArray];lia) ⟨H,I.tok _,by rw[qgkz r];exact q⟩
  ·subst e';obtain⟨hz,hS,vs,r,m⟩:kvs.length≤sizeLine/\(p==sysModules)=false/\∃vs,KV kvs vs/\s.heap.DictOf (mixKind X.prog X.w) p vs:=I.hok p _ hx;have hlen:kvs.length=vs.length:=Paired.length r;exact wpAny_truthy_dict hS m (by lia) ⟨H,I.tok _,by rw[ql8z r];exact q⟩
 |_=>exact (show False from e).elim
theorem qmaz(ha:PE X a ta)(he:∀whole,isTrue a X.env whole=(do let v ←whole;standAt a.pos;holding [v] (truthy v))):
  PT X a (fun σ H Q=>ta σ H fun x H'=>∃k,TruV X.K x H' k/\Q k H'):=by
 intro pins s σ H Q I h;exact isTrue_plain (thn (ha pins s σ H _ I h) fun v s1 ⟨x,H1,I1,r1,q1⟩=>ql9z pins s1 σ H1 x v Q I1 r1 q1) (he _)
theorem vals1{x:V}{us:List Value}(r:Vals [x] us):∃u,us=[u]/\RelV x u:=by
 cases r with
 |cons r1 r2=>cases r2;exact⟨_,rfl,r1⟩
theorem vals2{x y:V}{us:List Value}(r:Vals [x,y] us):∃u w',us=[u,w']/\RelV x u/\RelV y w':=by
 cases r with
 |cons r1 r2=>
  cases r2 with
  |cons r3 r4=>cases r4;exact⟨_,_,rfl,r1,r3⟩
theorem qmbz(hc:X.calm=true):CallR X (.builtin "max") (fun xs H Q=>∃i j,xs=[.int i,.int j]/\Q (.int (if j > i then j else i)) H):=by
 intro pins s σ H xs us Q I r h;obtain⟨i,j,rfl,q⟩:=h;obtain⟨u,w',rfl,⟨t,rfl⟩,⟨t',rfl⟩⟩:=vals2 r;refine max_two_ints (I.ok.hd hc) fun h' tk k=>⟨_,H,I.kept k,?_,q⟩;by_cases hj:j > i
 ·rw[if_pos hj,if_pos hj];exact⟨_,rfl⟩
 ·rw[if_neg hj,if_neg hj];exact⟨_,rfl⟩
theorem qmcz(hc:X.calm=true):CallR X (.builtin "min") (fun xs H Q=>∃i j,xs=[.int i,.int j]/\Q (.int (if j<i then j else i)) H):=by
 intro pins s σ H xs us Q I r h;obtain⟨i,j,rfl,q⟩:=h;obtain⟨u,w',rfl,⟨t,rfl⟩,⟨t',rfl⟩⟩:=vals2 r;refine min_two_ints (I.ok.hd hc) fun h' tk k=>⟨_,H,I.kept k,?_,q⟩;by_cases hj:j<i
 ·rw[if_pos hj,if_pos hj];exact⟨_,rfl⟩
 ·rw[if_neg hj,if_neg hj];exact⟨_,rfl⟩
theorem qmdz:CallR X (.type "int") (fun xs H Q=>(∃i,xs=[.int i]/\Q (.int i) H)∨∃k,xs=[.bl k]/\Q (.int (if k then 1 else 0)) H):=by
 intro pins s σ H xs us Q I r h;rcases h with⟨i,rfl,q⟩|⟨k,rfl,q⟩
 ·obtain⟨u,rfl,t,rfl⟩:=vals1 r;exact call_int_int ⟨.int i,H,I,⟨_,rfl⟩,q⟩
 ·obtain⟨u,rfl,r1⟩:=vals1 r;cases r1;exact call_int_bool ⟨.int (if k then 1 else 0),H,I.tok _,⟨_,rfl⟩,q⟩
end
end L2
namespace L2
open PySem PySem.Spec PyProof.Rows
theorem qmez{h:Heap}{dx:Addr}{mA:Str->Option Value}(n:h.Ns1 dx mA):∃od,h.get? dx=some od/\∀name,PySem.W.lookIn name od=some (mA name):=by
 obtain⟨o,es,ep,ho,hd,hk,_,hm⟩:=n;refine⟨o,ho,fun name=>?_⟩;have e:=hm name;unfold nsFind findBy at e;rw[←Array.find?_toList] at e;unfold PySem.W.lookIn;rw[hd];dsimp only;split
 ·rename_i y q;rw[q] at e;exact congrArg some e
 ·rename_i q;rw[q] at e;have a:es.toList.any (·.refKey)=false:=by
   rw[List.any_eq_false];intro y hy;obtain⟨z,t,hkey⟩:=hk y (Array.mem_toList_iff.mp hy);simp[DictEntry.refKey,hkey]
  have a':¬es.toList.any (·.refKey)=true:=by rw[a];exact Bool.false_ne_true
  rw[if_neg a'];exact congrArg some e
theorem RelO.some_of{v:V}{o:Option Value}(r:RelO (some v) o):∃u,o=some u/\RelV v u:=by
 cases o with
 |none=>exact (show False from r).elim
 |some u=>exact⟨u,rfl,r⟩
section
variable {X:Cx} {pins:List (Addr×Obj)} {σ:St} {H:Hp} {s:Shared} {a C dx:Addr} {fs:List (Str×V)} {f:Str} {v:V} {A:Around} {E:Value->Shared->Prop}
theorem qmfz{prog:Program}{w:World}{env:Env}{e:Expr}{f:Str}{pos:Pos}{s:Shared}{Q:Value->Shared->Prop}(hb:attributeBase e f env (eval e env)=eval e env)
  (h:wpAny (model prog w) A (eval e env) (fun o s₁=>wpAny (model prog w) A (getAttr o f true) Q E s₁) E s):wpAny (model prog w) A (eval (.Attribute e f pos) env) Q E s:=
 Attribute_any_ h (by rw[arm_eval_Attribute,hb])
end
end L2
namespace L2
open PySem PySem.Spec PyProof.Rows
structure Room(k:Nat)(A:Around):Prop where
 hd:A.handled=none
 dp:A.depth+3*k+5<recursionLimit
 un:A.units+16*k+200<cLine
theorem Room.mono{j k:Nat}{A:Around}(r:Room k A)(h:j≤k):Room j A:=⟨r.hd,by have:=r.dp;lia,by have:=r.un;lia⟩
theorem Room.deeper{k:Nat}{A:Around}(r:Room (k+1) A)(env:Env):Room k (A.deeper env):=
 ⟨r.hd,by have:=r.dp;show A.depth+1+3*k+5<_;lia,by have:=r.un;show A.units+3+16*k+200<_;lia⟩
theorem qmgz{A:Around}{C:Addr}{us:List Value}{kw:List (Str×Value)}:(A.under (.builtin "type.__call__" ⟨.ref C::us,kw⟩)).depth=A.depth+1:=by
 first|rfl|simp[Around.under,Code.weight,Code.isCreation,Code.isGuard,Code.isCaller,Code.frames,Code.isFrame,guardIds]
theorem Room.depth{k:Nat}{A:Around}(r:Room k A):A.depth<recursionLimit:=by have:=r.dp;lia
theorem Room.units{k:Nat}{A:Around}(r:Room k A):A.units+64<cLine:=by have:=r.un;lia
theorem Room.units0{k:Nat}{A:Around}(r:Room k A):A.units<cLine:=by have:=r.un;lia
def tNil:TA:=fun _ H Q=>Q [] H
def tCons(ta:TE)(tr:TA):TA:=fun σ H Q=>ta σ H fun x H1=>tr σ H1 fun xs H2=>Q (x::xs) H2
section
variable {X:Cx} {e:Expr} {es:List Expr} {te:TE} {t:TA} {pos:Pos}
theorem qboz:PA X [] tNil:=fun _ _ _ _ H Q I h=>Calls.spliced_nil ⟨[],H,I,.nil,h⟩
theorem qaqz(ha:PE X e te)(hr:PA X es t)(hs:starEach (e::es) X.env=(false,eval e X.env)::starEach es X.env:=by rfl):PA X (e::es) (tCons te t):=by
 intro pos pins s σ H Q I h;rw[hs];show wpAny _ _ (spliced ((false,eval e X.env)::backTo pos (starEach es X.env))) _ _ s;refine Calls.spliced_cons (thn (ha pins s σ H _ I h) fun u s1 ⟨x,H1,I1,r1,q1⟩=>?_);exact thn (hr pos pins s1 σ H1 _ I1 q1) fun us s2 ⟨xs,H2,I2,r2,q2⟩=>⟨x::xs,H2,I2,.cons r1 r2,q2⟩
def tTup(t:TA):TE:=fun σ H Q=>t σ H fun xs H1=>xs.length≤sizeLine/\∀p,H1 p=none->Q (.ref p) (upd H1 p (.tup xs))
def tLst(t:TA):TE:=fun σ H Q=>t σ H fun xs H1=>xs.length≤sizeLine/\∀p,H1 p=none->Q (.ref p) (upd H1 p (.lst xs))
theorem qmhz{x1}(h:PA X es t):PE X (.Tuple es x1 pos) (tTup t):=by
 intro pins s σ H Q I hq;refine wpAny_Tuple_spliced (thn (h pos pins s σ H _ I hq) fun us s1 ⟨xs,H1,I1,r,z,q⟩=>⟨by rw[←r.length];exact z,?_⟩);have hf:H1 s1.heap.objs.size=none:=I1.hok.fresh (Nat.le_refl _);refine⟨.ref s1.heap.objs.size,upd H1 s1.heap.objs.size (.tup xs),I1.laid (t':=s1.toks) (fun b u e=>Heap.get?_push_of_some _ e) (Nat.le_refl _) ?_,rfl,q _ hf⟩;exact⟨z,us,r,⟨_,Heap.get?_push_size _ rfl,rfl,_,rfl⟩⟩
theorem qglz(h:PA X es t):PE X (.List es pos) (tLst t):=by
 intro pins s σ H Q I hq;refine wpAny_List_spliced (thn (h pos pins s σ H _ I hq) fun us s1 ⟨xs,H1,I1,r,z,q⟩=>⟨by rw[←r.length];exact z,?_⟩);have hf:H1 s1.heap.objs.size=none:=I1.hok.fresh (Nat.le_refl _);refine⟨.ref s1.heap.objs.size,upd H1 s1.heap.objs.size (.lst xs),I1.laid (t':=s1.toks) (fun b u e=>Heap.get?_push_of_some _ e) (Nat.le_refl _) ?_,rfl,q _ hf⟩;exact⟨z,us,0,r,Heap.get?_push_size _ rfl⟩
end
abbrev Sp:=List V->Hp->VK->XK->Prop
abbrev CXT:=List Env->Hp->Shared->XK->Value->Shared->Prop
structure Env0(P:Program)(w:World)(K:PySem.W.Frag)(mg:Str->Option Value)(base:Heap)(A:Around)(outer:List Env)(s:Shared)(H:Hp):Prop where
 frames:A.frames=some outer
 mod:Mod K mg base
 bs:∀b o,base.get? b=some o->s.heap.get? b=some o/\H b=none
 bsz:base.objs.size≤s.heap.objs.size
 funs:s.heap.FunFrames base outer
 frf:∀b∈frs outer,H b=none
 hok:HOk P w H s.heap
 bare:AllBare s.gens
def CE(outer:List Env)(P:Program)(w:World)(H:Hp)(s:Shared)(Q:VK)(u:Value)(s':Shared):Prop:=
 ∃v H',s'.os=s.os/\AllBare s'.gens/\Un (frs outer) [] H H' s.heap s'.heap/\HOk P w H' s'.heap/\RelV v u/\Q v H'
def CR(CX:CXT)(outer:List Env)(P:Program)(w:World)(H:Hp)(s:Shared)(Q:VK)(E:XK)(r:Result)(s':Shared):Prop:=
 match r with
 |.ok (.ret u)=>CE outer P w H s Q u s'
 |.ok _=>False
 |.error e=>CX outer H s E e s'
structure FnOk(P:Program)(w:World)(K:PySem.W.Frag)(mg:Str->Option Value)(base:Heap)(CX:CXT)(k:Nat)(f:Addr)(fd:FuncData)(ps:List Str)(sp:Sp):Prop where
 len:∀vs H Q E,sp vs H Q E->vs.length=ps.length
 run:∀(A:Around) (outer:List Env) (s:Shared) (H:Hp) (args:Args) (us:List Value) (vs:List V) (Q:VK) (E:XK),Room k A->Env0 P w K mg base A outer s H->BindsTo s fd args (ps.zip us)->Vals vs us->sp vs H Q E ->
  codeAny (model P w) A (.call (.ref f) args) (CR CX outer P w H s Q E) s
theorem FnOk.mono{P:Program}{w:World}{K:PySem.W.Frag}{mg:Str->Option Value}{base:Heap}{CX:CXT}{j k:Nat}{f:Addr}{fd:FuncData}{ps:List Str}{sp:Sp}(F:FnOk P w K mg base CX j f fd ps sp)(h:j≤k):
  FnOk P w K mg base CX k f fd ps sp:=⟨F.len,fun A outer s H args us vs Q E hr=>F.run A outer s H args us vs Q E (hr.mono h)⟩
theorem FnOk.imp{P:Program}{w:World}{K:PySem.W.Frag}{mg:Str->Option Value}{base:Heap}{CX:CXT}{k:Nat}{f:Addr}{fd:FuncData}{ps:List Str}{sp sp':Sp}(F:FnOk P w K mg base CX k f fd ps sp)
  (h:∀vs H Q E,sp' vs H Q E->sp vs H Q E):FnOk P w K mg base CX k f fd ps sp':=
 ⟨fun vs H Q E q=>F.len vs H Q E (h _ _ _ _ q),fun A outer s H args us vs Q E hr he hb hv hs=>F.run A outer s H args us vs Q E hr he hb hv (h _ _ _ _ hs)⟩
section
variable {X:Cx} {pins:List (Addr×Obj)} {σ:St} {H:Hp} {s s':Shared}
theorem Inv.env0(I:Inv X pins σ H s):Env0 X.prog X.w X.K X.mg X.base X.A X.stack s H:=
 ⟨I.ok.frames,I.ok.mod,I.bs,Nat.le_trans I.ok.bsz I.sz,I.stack,I.stkFree,I.hok,I.bare⟩
theorem Inv.after{Q:VK}{u:Value}(I:Inv X pins σ H s)(h:CE X.stack X.prog X.w H s Q u s'):EP X pins σ Q u s':=by
 obtain⟨v,H',os,bare,un,hok,r,q⟩:=h;obtain⟨hh,g,d,t,os'⟩:=s';obtain rfl:os'=s.os:=os;exact⟨v,H',I.call (h':=hh) (g':=g) (d':=d) (t':=t) (ch:=[]) un hok bare (fun b z=>absurd z (by simp)),r,q⟩
end
def tCall(sp:Sp)(dvs:List V)(E:XK)(t:TA):TE:=fun σ H Q=>t σ H fun vs H1=>sp (vs++dvs) H1 Q E
def Binds(K:PySem.W.Frag)(fd:FuncData)(ps:List Str)(ds:List Value):Prop:=
 ∀(s:Shared) (us:List Value),K.In s.heap->(us++ds).length=ps.length->BindsTo s fd ⟨us,[]⟩ (ps.zip (us++ds))
theorem Binds.all{K:PySem.W.Frag}{fd:FuncData}{ps:List Str}(h:∀us:List Value,us.length=ps.length->bindArgs fd ⟨us,[]⟩=pure (ps.zip us)):Binds K fd ps []:=fun s us _ hl=>by
 rw[List.append_nil] at hl ⊢;exact .of_eq (h us hl)
def Passes(CX:CXT)(X:Cx)(E:XK):Prop:=∀(pins:List (Addr×Obj)) (σ:St) (H:Hp) (s:Shared) (e:Value) (s':Shared),Inv X pins σ H s->CX X.stack H s E e s'->X.xe e s'
section
variable {X:Cx} {CX:CXT} {k:Nat} {f C:Addr} {fd:FuncData} {ps:List Str} {sp:Sp} {dvs:List V} {ds:List Value} {E:XK} {x m:Str} {p pos apos:Pos} {e o:Expr} {es:List Expr} {ta:TE} {t:TA}
theorem qmiz{pins:List (Addr×Obj)}{σ:St}{H:Hp}{s:Shared}{Q:VK}{us:List Value}{vs:List V}(F:FnOk X.prog X.w X.K X.mg X.base CX k f fd ps sp)(hr:Room k X.A)(hb:Binds X.K fd ps ds)(hd:Vals dvs ds)(hx:Passes CX X E)
  (I:Inv X pins σ H s) (r:Vals vs us) (h:sp (vs++dvs) H Q E):wpAny (model X.prog X.w) X.A (call (.ref f) us) (EP X pins σ Q) X.xe s:=by
 have r2:Vals (vs++dvs) (us++ds):=r.append hd;have hl:(us++ds).length=ps.length:=by rw[←r2.length];exact F.len _ _ _ _ h
 refine wpAny_call (codeAny_mono (F.run X.A X.stack s H ⟨us,[]⟩ (us++ds) (vs++dvs) Q E hr I.env0 (hb s us I.kIn hl) r2 h) fun r s' hq=>?_);cases r with
 |error e=>exact hx pins σ H s e s' I hq
 |ok fl=>
  cases fl with
  |ret u=>exact I.after hq
  |next=>exact False.elim hq
  |brk=>exact False.elim hq
  |cont=>exact False.elim hq
theorem qmjz(F:FnOk X.prog X.w X.K X.mg X.base CX k f fd ps sp)(hr:Room k X.A)(hg:Gl X x)(hm:X.mg x=some (.ref f))(hk:PySem.W.keepIn X.K (.ref f)=true)(hb:Binds X.K fd ps ds)(hd:Vals dvs ds)(hx:Passes CX X E)
  (ha:PA X (e::es) t) (hdb:(x==("__debug__":Str))=false:=by decide) (he:starEach (e::es) X.env=(false,eval e X.env)::starEach es X.env:=by rfl) (hpl:(backTo pos (starEach es X.env)).any (·.1)=false:=by rfl):
  PE X (.Call (.Name x p) (e::es) [] pos) (tCall sp dvs E t):=by
 intro pins s σ H Q I h;refine wpAny_Call_Name_kw (qbnz I hg hm ?_ hdb);refine PySem.W.callWith_K (h₀:=X.base) I.ok.mod.kin hk (thn (ha pos pins s σ H _ I h) fun us s1 ⟨vs,H1,I1,r,q⟩=>⟨I1.kIn,?_⟩) he hpl;exact qmiz F hr hb hd hx I1 r q
end
structure FnScope(N P:List Str)(sc:Scope):Prop where
 kind:sc.kind=.function
 co:sc.isCoroutine=false
 gen:sc.isGenerator=false
 nd:N.Nodup
 pre:N.take P.length=P
 par:∀x∈P,sc.names.lookup x=some .local∨sc.names.lookup x=some .cell
 nofree:∀y∈sc.names,y.2≠.free
theorem qgmz{kindOf:Str->Option NameKind}{x:Str}:∀{binds:List (Str×Value)} {m:Str->Option Value},(∀v,(x,v)∉binds)->bindL kindOf binds m x=m x
 |[],_,_=>rfl
 | (n,v)::r,m,h=>by
  unfold bindL;rw[qgmz fun w hw=>h w (List.mem_cons_of_mem _ hw)];split
  ·have:x≠n:=by rintro rfl;exact h v List.mem_cons_self
   simp[this]
  ·rfl
theorem qgnz{kindOf:Str->Option NameKind}{x:Str}:∀{binds:List (Str×Value)} {m:Str->Option Value},(∀v,(x,v)∉binds)->bindC kindOf binds m x=m x
 |[],_,_=>rfl
 | (n,v)::r,m,h=>by
  unfold bindC;rw[qgnz fun w hw=>h w (List.mem_cons_of_mem _ hw)];split
  ·rfl
  ·have:x≠n:=by rintro rfl;exact h v List.mem_cons_self
   simp[this]
theorem qc4z{kindOf:Str->Option NameKind}{x:Str}{v:Value}:∀{P:List Str} {vs:List Value} {i:Nat} {m:Str->Option Value},P.Nodup->P[i]?=some x->vs[i]?=some v->kindOf x=some .local ->
  bindL kindOf (P.zip vs) m x=some v
 |[],_,_,_,_,h,_,_=>by simp at h
 |_::_,[],_,_,_,_,h,_=>by simp at h
 |p::P,w::vs,0,m,nd,h1,h2,hk=>by
  simp at h1 h2;subst h1;subst h2;show bindL kindOf ((p,w)::P.zip vs) m p=_;unfold bindL;rw[qgmz fun v hv=>(List.nodup_cons.mp nd).1 (List.of_mem_zip hv).1,if_pos hk];simp
 |p::P,w::vs,i+1,m,nd,h1,h2,hk=>by
  show bindL kindOf ((p,w)::P.zip vs) m x=_;unfold bindL;exact qc4z (i:=i) (List.nodup_cons.mp nd).2 (by simpa using h1) (by simpa using h2) hk
theorem qgoz{kindOf:Str->Option NameKind}{x:Str}{v:Value}:∀{P:List Str} {vs:List Value} {i:Nat} {m:Str->Option Value},P.Nodup->P[i]?=some x->vs[i]?=some v->kindOf x≠some .local ->
  bindC kindOf (P.zip vs) m x=some v
 |[],_,_,_,_,h,_,_=>by simp at h
 |_::_,[],_,_,_,_,h,_=>by simp at h
 |p::P,w::vs,0,m,nd,h1,h2,hk=>by
  simp at h1 h2;subst h1;subst h2;show bindC kindOf ((p,w)::P.zip vs) m p=_;unfold bindC;rw[qgnz fun v hv=>(List.nodup_cons.mp nd).1 (List.of_mem_zip hv).1,if_neg hk];simp
 |p::P,w::vs,i+1,m,nd,h1,h2,hk=>by
  show bindC kindOf ((p,w)::P.zip vs) m x=_;unfold bindC;exact qgoz (i:=i) (List.nodup_cons.mp nd).2 (by simpa using h1) (by simpa using h2) hk
def start(N:List Str)(vs:List V):St:=vs.map some++List.replicate (N.length-vs.length) none
def cxOf(CX:CXT)(P:Program)(w:World)(K:PySem.W.Frag)(mg:Str->Option Value)(base:Heap)(N:List Str)(qual:Str)(scope:Scope)(f:Addr)(cd:Value)(A:Around)(outer:List Env)(s:Shared)(H:Hp)(E:XK):Cx where
 prog:=P
 w:=w
 K:=K
 mg:=mg
 base:=base
 A:=A.deeper (envOfC qual scope s.heap.objs.size f cd)
 N:=N
 s₀:=s
 H₀:=H
 env:=envOfC qual scope s.heap.objs.size f cd
 outer:=outer
 stack:=envOfC qual scope s.heap.objs.size f cd::outer
 ex:=[]
 calm:=true
 fn:=fun _=>true
 pn:=[]
 xe:=fun e s'=>wpAny (model P w) (A.deeper (envOfC qual scope s.heap.objs.size f cd)) (leaving (envOfC qual scope s.heap.objs.size f cd) e) (fun _ s''=>CX outer H s E e s'') (fun e' s''=>CX outer H s E e' s'') s'
theorem qgpz{sc:Scope}{n:Nat}{x:Str}(h:sc.names.lookup x=some .cell):∃c,(cellsFrom n sc.names []).lookup x=some c:=by
 have q:=PySem.W.cellsFrom_some sc.names n [] (.inl h);exact Option.isSome_iff_exists.mp q
theorem qgqz{CX:CXT}{P:Program}{w:World}{K:PySem.W.Frag}{mg:Str->Option Value}{base:Heap}{N ps:List Str}{qual:Str}{scope:Scope}{f:Addr}{cd:Value}{A:Around}{outer:List Env}{s s1:Shared}{H:Hp}{E:XK}{us:List Value}{vs:List V}
  (S:FnScope N ps scope) (hd:A.handled=none) (e0:Env0 P w K mg base A outer s H) (hl:vs.length=ps.length) (r:Vals vs us)
  (x:InCallC s s.heap.objs.size (bindL (envOfC qual scope s.heap.objs.size f cd).kindOf (ps.zip us) fun _=>none) (cellsFrom (s.heap.objs.size+1) scope.names []) (bindC (envOfC qual scope s.heap.objs.size f cd).kindOf (ps.zip us) fun _=>none) s1):
  Inv (cxOf CX P w K mg base N qual scope f cd A outer s H E) [] (start N vs) H s1:=by
 have hpl:ps.length≤N.length:=by have:=congrArg List.length S.pre;rw[List.length_take] at this;lia
 obtain⟨h1,tk,rfl,hk⟩:=x.done;have noA:∀b:Addr,b∉(cxOf CX P w K mg base N qual scope f cd A outer s H E).ex:=fun b z=>absurd (show b∈([]:List Addr) from z) (by simp);refine⟨⟨e0.mod,S.kind,rfl,rfl,Nat.le_refl _,fun y z c h1 h2=>?_,fun y hy=>?_,fun y c _ h=>?_,fun _=>hd,Around.frames_deeper e0.frames,.inr ⟨rfl,rfl⟩,fun b z=>absurd z (noA b),e0.bs,e0.bsz,fun b _ _=>noA b,fun b z=>absurd z (noA b),e0.funs,e0.frf⟩,
  rfl,e0.bare,Un.kept hk,⟨_,x.toInCall.ns,fun i y v h1 h2 h3=>?_⟩,fun y c h=>⟨_,x.cell y c h⟩,e0.hok.fresh (Nat.le_refl _),fun y c h=>?_,fun p hp=>absurd (show p∈([]:List (Addr×Obj)) from hp) (by simp),e0.hok.kept hk,?_⟩
 ·exact name_of_addr x.apart (PySem.mem_of_lookup h1) (PySem.mem_of_lookup h2)
 ·have hy:scope.names.lookup y=some .cell∨scope.names.lookup y=some .free:=hy;rcases hy with hy|hy
  ·exact qgpz hy
  ·exact absurd rfl (S.nofree _ (PySem.mem_of_lookup hy))
 ·exact Nat.le_of_lt (x.above y c (PySem.mem_of_lookup h))
 ·have hi:i<vs.length:=by
   unfold start at h2;by_cases hi:i<vs.length
   ·exact hi
   ·rw[List.getElem?_append_right (by simpa using hi)] at h2;rw[List.getElem?_replicate] at h2;split at h2<;>cases h2
  have ha:vs[i]?=some v:=by
   unfold start at h2;rw[List.getElem?_append_left (by simpa using hi),List.getElem?_map] at h2;cases e:vs[i]? with
   |none=>rw[e] at h2;cases h2
   |some a=>rw[e] at h2;cases h2;rfl
  obtain⟨u,hu,rv⟩:=r.get ha;have hp:ps[i]?=some y:=by
   rw[←S.pre,List.getElem?_take_of_lt (by lia)];exact h1
  have ndP:ps.Nodup:=by rw[←S.pre];exact S.nd.sublist (List.take_sublist _ _)
  refine⟨u,rv,?_⟩;rcases S.par y (List.mem_of_getElem? hp) with k|k
  ·exact .inl ⟨k,qc4z ndP hp hu k⟩
  ·obtain⟨c,e⟩:=qgpz (n:=s.heap.objs.size+1) k;refine .inr ⟨.inl k,c,e,?_⟩;have q:=x.cell y c e;rw[qgoz ndP hp hu (by show scope.names.lookup y≠_;rw[k];decide)] at q;exact q
 ·exact e0.hok.fresh (Nat.le_of_lt (x.above y c (PySem.mem_of_lookup h)))
 ·unfold start;show _=N.length;rw[List.length_append,List.length_map,List.length_replicate];lia
theorem qgrz{CX:CXT}{P:Program}{w:World}{K:PySem.W.Frag}{mg:Str->Option Value}{base:Heap}{k:Nat}{f:Addr}{name qual:Str}{params:Arguments}{body:List Stmt}{scope:Scope}{dV kV doc pm cdv ct oc:Value}{an od:Option Addr}
  {osl:Array (Option Value)} {N ps:List Str} {sp:Sp} (lk:K.lookup f=some ⟨oc,od,.func (PySem.W.fnOf name qual params body scope dV kV doc pm an cdv ct),osl⟩) (hcd:PySem.W.codeIn K cdv qual=true) (S:FnScope N ps scope)
  (len:∀vs H Q E,sp vs H Q E->vs.length=ps.length)
  (hbody:∀(A:Around) (outer:List Env) (s:Shared) (H:Hp) (vs:List V) (Q:VK) (E:XK),Room k (A.deeper (envOfC qual scope s.heap.objs.size f cdv))->sp vs H Q E ->
   ∃t,PSs (cxOf CX P w K mg base N qual scope f cdv A outer s H E) body t/\t { nx:=fun _ H'=>Q .non H',rt:=Q } (start N vs) H):
  FnOk P w K mg base CX (k+1) f (PySem.W.fnOf name qual params body scope dV kV doc pm an cdv ct) ps sp:=by
 refine⟨len,fun A outer s H args us vs Q E hr e0 hb r hsp=>?_⟩;have hl:=len _ _ _ _ hsp;have KX:K.In s.heap:=e0.mod.kin.keeps fun b o e=>(e0.bs b o e).1;have lim:s.heap.NoLimit:=e0.mod.nolimit.keeps fun b o e=>(e0.bs b o e).1;have hkind:∀y∈ps.zip us,scope.names.lookup y.1=some .local∨(scope.names.lookup y.1=some .cell/\((cellsFrom (s.heap.objs.size+1) scope.names []).lookup y.1).isSome=true):=fun⟨n,v⟩ hy=>by
  rcases S.par n (List.of_mem_zip hy).1 with q|q
  ·exact .inl q
  ·exact .inr ⟨q,PySem.W.cellsFrom_some _ _ _ (.inl q)⟩
 refine codeAny_call_function hr.depth (KX _ _ lk) rfl S.co S.gen rfl (PySem.W.codeRec_of KX hcd) (hb _ _ _ _ ?_);refine wpAny_newFunctionEnv_cells S.kind hkind fun env he s1 x=>?_;subst he;refine⟨lim.keeps x.toInCall.keep,codeAny_func ?_⟩;obtain⟨t,ht,hq⟩:=hbody A outer s H vs Q E (hr.deeper _) hsp;have I:Inv (cxOf CX P w K mg base N qual scope f cdv A outer s H E) [] (start N vs) H s1:=qgqz S hr.hd e0 hl r x;refine wpAny_mono (ht [] s1 (start N vs) H _ I hq) (fun fl s' hs=>?_) fun e s' hs=>hs;have fin:∀{σ':St} {H':Hp} {v:V} {u:Value},Inv (cxOf CX P w K mg base N qual scope f cdv A outer s H E) [] σ' H' s'->RelV v u->Q v H'->CE outer P w H s Q u s':=
  fun {σ' H' v u} J rv q=>⟨v,H',J.os,J.bare,J.base,J.hok,rv,q⟩
 cases fl with
 |ret u=>
  obtain⟨v,σ',H',J,rv,q⟩:=hs;exact fin J rv q
 |next=>
  obtain⟨σ',H',J,q⟩:=hs;exact fin (v:=V.non) (u:=Value.none) J rfl q
 |brk=>
  obtain⟨_,_,_,q⟩:=hs;exact False.elim q
 |cont=>
  obtain⟨_,_,_,q⟩:=hs;exact False.elim q
end L2
namespace L2
open PySem PySem.Spec PyProof.Rows
section
variable {X:Cx} {x:Str} {p pos:Pos} {e:Expr} {es:List Expr} {t:TA} {id T:String} {r:List V->Hp->VK->Prop}
def tCB(r:List V->Hp->VK->Prop)(t:TA):TE:=fun σ H Q=>t σ H fun vs H1=>r vs H1 Q
theorem qarz(hc:CallR X (.builtin id) r)(hg:Gl X x)(hm:X.mg x=none)(hv:bootBuiltins x=some (.builtin id))(ha:PA X (e::es) t)(hn:x≠"__name__":=by decide)(hdb:(x==("__debug__":Str))=false:=by decide)
  (he:starEach (e::es) X.env=(false,eval e X.env)::starEach es X.env:=by rfl) (hpl:(backTo pos (starEach es X.env)).any (·.1)=false:=by rfl):PE X (.Call (.Name x p) (e::es) [] pos) (tCB r t):=by
 intro pins s σ H Q I h;refine wpAny_Call_Name_kw (qawz I hg hm hv ?_ hn hdb);exact PyProof.Rows.callWith_builtin1 (thn (ha pos pins s σ H _ I h) fun us s1 ⟨vs,H1,I1,r1,q1⟩=>hc pins s1 σ H1 vs us Q I1 r1 q1) he hpl
theorem qc5z(hc:CallR X (.type T) r)(hg:Gl X x)(hm:X.mg x=none)(hv:bootBuiltins x=some (.type T))(ha:PA X (e::es) t)(hn:x≠"__name__":=by decide)(hdb:(x==("__debug__":Str))=false:=by decide)
  (he:starEach (e::es) X.env=(false,eval e X.env)::starEach es X.env:=by rfl) (hpl:(backTo pos (starEach es X.env)).any (·.1)=false:=by rfl):PE X (.Call (.Name x p) (e::es) [] pos) (tCB r t):=by
 intro pins s σ H Q I h;refine wpAny_Call_Name_kw (qawz I hg hm hv ?_ hn hdb);exact PyProof.Rows.callWith_type1 (thn (ha pos pins s σ H _ I h) fun us s1 ⟨vs,H1,I1,r1,q1⟩=>hc pins s1 σ H1 vs us Q I1 r1 q1) he hpl
end
end L2
namespace HT
open PySem PyProof.Rows
def lexLt:List Int->List Int->Bool
 |[],[]=>false
 |[],_::_=>true
 |_::_,[]=>false
 |x::xs,y::ys=>if x=y then lexLt xs ys else decide (x<y)
theorem qmkz(x y:Int)(xs ys:List Int):lexLt (x::xs) (y::ys)=if x=y then lexLt xs ys else decide (x<y):=rfl
theorem qmlz:lexLt [] []=false:=rfl
theorem qmmz(y:Int)(ys:List Int):lexLt [] (y::ys)=true:=rfl
theorem qmnz(x:Int)(xs:List Int):lexLt (x::xs) []=false:=rfl
theorem qmoz(A:Around)(s:Shared)(a:Int)(t:Tok)(c:Int)(u:Tok):∃e,SeqAt.EqAt A s (.int a t) (.int c u) e/\(e=true↔a=c):=
 ⟨(a==c),SeqAt.EqAt.int_int a t c u,by simp⟩
theorem qmpz(A:Around)(s:Shared)(a:Int)(t:Tok)(c:Int)(u:Tok)(prog:Program)(w:World)(E:Value->Shared->Prop)(Q:Value->Shared->Prop)(h:Q (.bool (decide (a<c))) s):
  wpAny (model prog w) A (richCompare .Lt (.int a t) (.int c u)) Q E s:=
 (PyProof.Rows.lt_int h:wpAny (model prog w) A (compareOp .Lt (.int a t) (.int c u)) Q E s)
section
open PySem.SeqAt
open PySem.AutoSeq1 (wpAny_loadPart')
open PySem.MeetsSeq PySem.MeetsSeq2 PySem.MeetsSeq3
theorem qmqz(l b:Addr)(items items2:Array Value)(n n2:Nat)(dd dd2:Option Addr)(sl sl2:Array (Option Value))(ns ms:List Int)(hi:IntsAre items.toList ns)(hj:IntsAre items2.toList ms):
  Meets (Builtin.«tuple.__lt__» ⟨[.ref l,.ref b],[]⟩)
   (fun _ R s=>s.heap.get? l=some { cls:=.type "tuple",dict:=dd,data:=.seq items n,slots:=sl }/\s.heap.get? b=some { cls:=.type "tuple",dict:=dd2,data:=.seq items2 n2,slots:=sl2 } ∧
    R (.ok (.ret (.bool (lexLt ns ms)))) s):=
 .of_wp fun prog w A R s h=>by
  obtain⟨hp,g,d,tk,os⟩:=s;obtain⟨hl,hb,h⟩:=h;have f2:=AutoSeq1.sub_tuple_tuple;have z1:items.size=ns.length:=by rw[←hi.length];simp
  have z2:items2.size=ms.length:=by rw[←hj.length];simp
  wp_walk using wpAny_loadPart' hl,wpAny_loadPart' hb,wpAny_forIn_list _ (fun rest b s'=>b.1=none/\s'=⟨hp,g,d,tk,os⟩/\∃(vs ws:List Value) (ns' ms':List Int),rest=vs.zip ws ∧
   IntsAre vs ns'/\IntsAre ws ms'/\ns'.length+items2.size=ms'.length+items.size/\R (.ok (.ret (.bool (lexLt ns' ms')))) ⟨hp,g,d,tk,os⟩) _
  case turn=>
   rintro⟨y,x⟩ rest b s' ⟨hb',rfl,vs,ws,ns',ms',hz,hvi,hwi,hlen,hR⟩;cases hvi with
   |nil=>rw[List.zip_nil_left] at hz;cases hz
   |cons a t hvi'=>
    cases hwi with
    |nil=>rw[List.zip_nil_right] at hz;cases hz
    |cons c u hwi'=>
     rw[List.zip_cons_cons] at hz;injection hz with hyx hrest;injection hyx with hy hx;subst hy hx;rw[qmkz] at hR;simp only[List.length_cons] at hlen;obtain⟨e,he,hiff⟩:=qmoz A.in1 ⟨hp,g,d,tk,os⟩ a t c u;refine wpAny_bind (he prog w _ _ ?_);cases e with
     |true=>
      rw[if_pos (hiff.mp rfl)] at hR;wp_walk;exact⟨rfl,rfl,_,_,_,_,hrest,hvi',hwi',by lia,hR⟩
     |false=>
      rw[if_neg (fun q=>absurd (hiff.mpr q) Bool.false_ne_true)] at hR;have hri:=qmpz A.in1 ⟨hp,g,d,tk,os⟩ a t c u prog w;wp_walk using hri;exact⟨_,rfl,by simpa using hR⟩
  case fin=>
   rintro⟨b1,b2⟩ s' ⟨hb',rfl,vs,ws,ns',ms',hz,hvi,hwi,hlen,hR⟩;simp only at hb';subst hb';have hv:lexLt ns' ms'=decide (items.size<items2.size):=by
    cases hvi with
    |nil=>
     cases hwi with
     |nil=>
      simp only[List.length_nil] at hlen;rw[qmlz];exact (decide_eq_false (by lia)).symm
     |cons c u hw=>
      simp only[List.length_nil,List.length_cons] at hlen;rw[qmmz];exact (decide_eq_true (by lia)).symm
    |cons a t hv=>
     cases hwi with
     |nil=>
      simp only[List.length_nil,List.length_cons] at hlen;rw[qmnz];exact (decide_eq_false (by lia)).symm
     |cons c u hw=>
      rw[List.zip_cons_cons] at hz;cases hz
   rw[hv] at hR;wp_walk;exact⟨_,rfl,by simpa [Builtin.Tuple.tupleCompareSizes] using hR⟩
  case h=>
   exact⟨rfl,rfl,items.toList,items2.toList,ns,ms,rfl,hi,hj,by lia,h⟩
end
section
variable {prog:Program} {w:World} {A:Around} {E:Value->Shared->Prop} {s:Shared}
theorem lt_tupInts{l b:Addr}{items items2:Array Value}{ns ms:List Int}{Q:Value->Shared->Prop}(hl:IsTup s.heap l items)(hb:IsTup s.heap b items2)(hi:IntsAre items.toList ns)(hj:IntsAre items2.toList ms)
  (hu:A.units<cLine) (h:Q (.bool (lexLt ns ms)) s):wpAny (model prog w) A (compareOp .Lt (.ref l) (.ref b)) Q E s:=by
 obtain⟨⟨cls,dd,data,sl⟩,ho,hc,n,hd⟩:=id hl;obtain⟨⟨cls2,dd2,data2,sl2⟩,ho2,hc2,n2,hd2⟩:=id hb;simp only at hc hd hc2 hd2;subst hc hd hc2 hd2;exact richCompare_meets_room (op:=.Lt) ⟨_,ho,rfl⟩ ⟨_,ho2,rfl⟩ PySem.F.slot_tuple_lt PySem.F.entry_tuple_lt (PySem.F.args_tuple_lt_2 _ _) (qmqz l b items items2 n n2 dd dd2 sl sl2 ns ms hi hj)
  ⟨ho,ho2,show Value.bool (lexLt ns ms)≠Value.notImplemented/\Q (.bool (lexLt ns ms)) s from⟨(fun x=>nomatch x),h⟩⟩ hu
theorem cat_tup{t b:Addr}{vs ws:List Value}{Q:Value->Shared->Prop}(ht:IsTup s.heap t vs.toArray)(hb:IsTup s.heap b ws.toArray)(hv:vs≠[])
  (h1:ws=[]->Q (.ref t) s) (h2:ws≠[]->Q (.ref s.heap.objs.size) { s with heap:=s.heap.push { cls:=.type "tuple",data:=.seq (vs++ws).toArray }})
  (hsz:vs.length+ws.length≤sizeLine):wpAny (model prog w) A (binaryOp .Add (.ref t) (.ref b)) Q E s:=by
 obtain⟨⟨cls,dd,data,sl⟩,ho,hc,n,hd⟩:=id ht;obtain⟨⟨cls2,dd2,data2,sl2⟩,ho2,hc2,n2,hd2⟩:=id hb;simp only at hc hd hc2 hd2;subst hc hd hc2 hd2;have e:vs.toArray++ws.toArray=(vs++ws).toArray:=by simp
 by_cases hw:ws=[]
 ·exact concat_meets ⟨_,ho,rfl⟩ ⟨_,ho2,rfl⟩ noFill_tuple_add seq_tuple_add PySem.F.slot_tuple_add PySem.F.entry_tuple_add (PySem.F.args_tuple_add_2 _ _)
   (tuple_addW1 t b vs.toArray ws.toArray n n2 dd dd2 sl sl2 (by simpa using hv) (by simp[hw])) ⟨ho,ho2,h1 hw⟩
 ·refine concat_meets ⟨_,ho,rfl⟩ ⟨_,ho2,rfl⟩ noFill_tuple_add seq_tuple_add PySem.F.slot_tuple_add PySem.F.entry_tuple_add (PySem.F.args_tuple_add_2 _ _)
   (tuple_addW2 t b vs.toArray ws.toArray n n2 dd dd2 sl sl2 (by simpa using hv) (by simpa using hw) (by rw[List.size_toArray,List.size_toArray];exact hsz)) ⟨ho,ho2,?_⟩
  rw[e];exact h2 hw
def sIx(n d:Nat):Option Int->Nat
 |none=>d
 |some v=>if v<0 then (v+(n:Int)).toNat else min v.toNat n
theorem sIx_none(n d:Nat):sIx n d none=d:=rfl
theorem sIx_nat(n d k:Nat):sIx n d (some (k:Int))=min k n:=by
 show (if (k:Int)<0 then ((k:Int)+(n:Int)).toNat else min (k:Int).toNat n)=min k n;rw[if_neg (by lia),Int.toNat_natCast]
theorem qmrz(n d:Nat)(hd:d≤n)(o:Option Int):sIx n d o≤n:=by
 cases o with
 |none=>exact hd
 |some v=>
  show (if v<0 then (v+(n:Int)).toNat else min v.toNat n)≤n;by_cases hv:v<0
  ·rw[if_pos hv];lia
  ·rw[if_neg hv];exact Nat.min_le_right _ _
theorem qgsz(v:Int)(n d:Nat):(if v<0 then max (v+(n:Int)) 0 else min v (n:Int))=((sIx n d (some v):Nat):Int):=by
 show (if v<0 then max (v+(n:Int)) 0 else min v (n:Int))=(((if v<0 then (v+(n:Int)).toNat else min v.toNat n):Nat):Int);by_cases hv:v<0
 ·simp only[if_pos hv];lia
 ·simp only[if_neg hv];lia
theorem qmsz(lo hi:Option Int)(n:Nat):Builtin.Slice.sliceAdjust lo hi 1 (n:Int)=(((sIx n 0 lo:Nat):Int),((sIx n n hi:Nat):Int)):=by
 have h1:¬((1:Int)<0):=by lia
 unfold Builtin.Slice.sliceAdjust;simp only[h1,if_false];refine Prod.ext ?_ ?_
 ·cases lo with
  |none=>rfl
  |some v=>exact qgsz v n 0
 ·cases hi with
  |none=>rfl
  |some v=>exact qgsz v n n
theorem qmtz(i j:Nat):Builtin.Slice.slicePlaces (i:Int) (j:Int) 1=j-i:=by
 unfold Builtin.Slice.slicePlaces;have h1:(1:Int) > 0:=by lia
 simp only[h1,if_true,Int.ediv_one];split<;>lia
theorem qgtz{v:Value}{o:Option Int}{Q:Option Int->Shared->Prop}(p:IsPart v o)(h:Q o s):wpAny (model prog w) A (Builtin.Slice.slicePartIndex v) Q E s:=by
 cases p with
 |none=>exact slicePart_none h
 |int i t=>exact slicePart_int h
theorem sliceApplied_gen{sl:Addr}{vl vu:Value}{lo hi:Option Int}{n:Nat}{Q:Int×Int×Nat->Shared->Prop}(hs:s.heap.IsSliceOf sl vl vu .none)(pl:IsPart vl lo)(pu:IsPart vu hi)
  (h:Q (((sIx n 0 lo:Nat):Int),1,sIx n n hi-sIx n 0 lo) s):wpAny (model prog w) A (Builtin.Slice.sliceApplied (.ref sl) (pure (n:Int))) Q E s:=by
 obtain⟨os,hos,hcs,hds⟩:=id hs;unfold Builtin.Slice.sliceApplied Builtin.Slice.sliceFields;refine wpAny_bind (wpAny_bind (wpAny_field hos hds (x:=vl) rfl (wpAny_bind (wpAny_field hos hds (x:=vu) rfl (wpAny_bind (wpAny_field hos hds (x:=.none) rfl (wpAny_pure ?_)))))));refine wpAny_bind (slicePart_none ?_);show wpAny _ _ (if ((1:Int)==0)=true then _ else _) _ _ s;rw[if_neg (by decide)];refine wpAny_bind (qgtz pl (wpAny_bind (qgtz pu (wpAny_bind (wpAny_pure ?_)))));show wpAny _ _ (match Builtin.Slice.sliceAdjust lo hi 1 (n:Int) with|(lo,hi)=>pure (lo,(1:Int),Builtin.Slice.slicePlaces lo hi 1)) _ _ s
 rw[qmsz lo hi n];show wpAny _ _ (pure (((sIx n 0 lo:Nat):Int),(1:Int),Builtin.Slice.slicePlaces ((sIx n 0 lo:Nat):Int) ((sIx n n hi:Nat):Int) 1)) _ _ s;rw[qmtz];exact wpAny_pure h
theorem qmuz(xs:Array Value)(i k:Nat):((List.range k).filterMap fun (m:Nat)=>xs[((i:Int)+(m:Int)*1).toNat]?).toArray=((xs.toList.drop i).take k).toArray:=by
 have e:(fun (m:Nat)=>xs[((i:Int)+(m:Int)*1).toNat]?)=fun m=>xs[i+m]?:=by
  funext m;have:((i:Int)+(m:Int)*1).toNat=i+m:=by lia
  rw[this]
 rw[e];have:=pick_run xs i k;rw[List.filterMap_map] at this;have e2:((fun x=>xs[x]?) ∘ fun x=>i+x)=fun m=>xs[i+m]?:=rfl;rw[e2] at this;rw[this]
theorem getItem_tuple_cut{t sl:Addr}{items:Array Value}{vl vu:Value}{lo hi:Option Int}{Q:Value->Shared->Prop}(ht:IsTup s.heap t items)(hs:s.heap.IsSliceOf sl vl vu .none)(pl:IsPart vl lo)(pu:IsPart vu hi)
  (hw:¬(sIx items.size 0 lo=0/\sIx items.size items.size hi=items.size))
  (h:Q (.ref s.heap.objs.size) { s with heap:=s.heap.push { cls:=.type "tuple",data:=.seq ((items.toList.drop (sIx items.size 0 lo)).take (sIx items.size items.size hi-sIx items.size 0 lo)).toArray }})
  (hsz:items.size≤sizeLine):wpAny (model prog w) A (getItem (.ref t) (.ref sl)) Q E s:=by
 have htake:sizeOk (.seq ((items.toList.drop (sIx items.size 0 lo)).take (sIx items.size items.size hi-sIx items.size 0 lo)).toArray):=by
  show ((items.toList.drop (sIx items.size 0 lo)).take (sIx items.size items.size hi-sIx items.size 0 lo)).toArray.size≤sizeLine;rw[List.size_toArray,List.length_take,List.length_drop,Array.length_toList];lia
 have hj:sIx items.size items.size hi≤items.size:=qmrz _ _ (Nat.le_refl _) hi;obtain⟨os,hos,hcs,hds⟩:=id hs;have hTs:s.TypeIs (.ref sl) "slice":=⟨os,hos,hcs⟩;unfold getItem
 try with_reducible refine wpAny_holding ?_
 first|refine wpAny_bind (wpAny_pure ?_)|skip
 refine wpAny_bind (wpAny_sequenceKey ht.typeIs (by decide) ?_);refine wpAny_bind (wpAny_callSpecial?_slot (name:=Str.ofString "__getitem__") ht.typeIs PyProof.Rows.slot_tuple_getitem
  (wpAny_call_entry PyProof.Rows.slot_tuple_getitem ht.typeIs entry_tuple_getitem ?_ (args_tuple_getitem _ _)))
 show wpAny _ _ (Builtin.Tuple.tupleItemsOf (.ref t) >>= _) _ _ s;refine wpAny_bind (tupleItemsOf_ ht ?_);refine wpAny_bind (wpAny_typeOf hTs ?_);rw[if_pos (by decide)];refine wpAny_bind (sliceApplied_gen hs pl pu ?_);have hno:¬((((sIx items.size 0 lo:Nat):Int)==0&&(1:Int)==1&&(sIx items.size items.size hi-sIx items.size 0 lo)==items.size)=true):=by
  intro q;rw[Bool.and_eq_true,Bool.and_eq_true] at q;have q1:((sIx items.size 0 lo:Nat):Int)=0:=eq_of_beq q.1.1;have q2:sIx items.size items.size hi-sIx items.size 0 lo=items.size:=eq_of_beq q.2;exact hw ⟨by lia,by lia⟩
 show wpAny _ _ (if (((sIx items.size 0 lo:Nat):Int)==0&&(1:Int)==1&&(sIx items.size items.size hi-sIx items.size 0 lo)==items.size)=true then _ else _) _ _ s;rw[if_neg hno,qmuz]
 first
  |exact wpAny_bind (m:=Builtin.Tuple.tupleExact _) (wpAny_newObj_type (wpAny_pure ⟨_,rfl,wpAny_pure h⟩) htake)
  |exact wpAny_bind (m:=Builtin.Tuple.tupleExact _) (wpAny_newObj_type (wpAny_bind (wpAny_pure (wpAny_pure ⟨_,rfl,wpAny_pure h⟩))) htake)
  |exact wpAny_bind (wpAny_bind (m:=Builtin.Tuple.tupleExact _) (wpAny_newObj_type (wpAny_pure (wpAny_pure ⟨_,rfl,wpAny_pure h⟩)) htake))
  |exact wpAny_bind (wpAny_bind (m:=Builtin.Tuple.tupleExact _) (wpAny_newObj_type (wpAny_pure ⟨_,rfl,wpAny_pure h⟩) htake))
end
end HT
namespace L2
open PySem PySem.Spec PyProof.Rows
abbrev TO:=St->Hp->(Option Int->Hp->Prop)->Prop
def PO(X:Cx)(e:Option Expr)(t:TO):Prop:=
 ∀(pins:List (Addr×Obj)) (s:Shared) (σ:St) (H:Hp) (Q:Option Int->Hp->Prop),Inv X pins σ H s->t σ H Q ->
  wpAny (model X.prog X.w) X.A (evalPart e X.env) (fun u s'=>∃o H',Inv X pins σ H' s'/\IsPart u o/\Q o H') X.xe s
def tNoPart:TO:=fun _ H Q=>Q none H
def tPart(t:TE):TO:=fun σ H Q=>t σ H fun x H1=>∃i,x=.int i/\Q (some i) H1
theorem intsAre_of{ns:List Int}:∀{us:List Value},Vals (ns.map V.int) us->IntsAre us ns:=by
 induction ns with
 |nil=>intro us r;rw[List.map_nil] at r;cases r;exact .nil
 |cons n ns ih=>
  intro us r;rw[List.map_cons] at r;cases r with
  |cons r1 r2=>
   obtain⟨t,e⟩:=r1;subst e;exact .cons n t (ih r2)
section
variable {X:Cx} {e:Expr} {te:TE} {lo hi:Option Expr} {tl th:TO} {pos p2:Pos}
theorem qmvz:PO X none tNoPart:=by
 intro pins s σ H Q I h;rw[evalPart_none];exact wpAny_pure ⟨none,H,I,.none,h⟩
theorem qmwz(h:PE X e te):PO X (some e) (tPart te):=by
 intro pins s σ H Q I hw;rw[evalPart_some];refine thn (h pins s σ H _ I hw) fun u s1 ⟨x,H1,I1,r1,q1⟩=>?_;obtain⟨i,rfl,q⟩:=q1;obtain⟨t,rfl⟩:=r1;exact⟨some i,H1,I1,.int i t,q⟩
def SlR(X:Cx)(r:V->Option Int->Option Int->Hp->VK->Prop):Prop:=
 ∀(pins:List (Addr×Obj)) (s:Shared) (σ:St) (H:Hp) (x:V) (v vl vu:Value) (lo hi:Option Int) (sl:Addr) (Q:VK),Inv X pins σ H s->RelV x v->s.heap.IsSliceOf sl vl vu .none->IsPart vl lo->IsPart vu hi->r x lo hi H Q ->
  ∃T id,typeLookup (.type T) "__getitem__" = pure (some (.builtin id))/\s.TypeIs v T/\wpAny (model X.prog X.w) X.A (getItem v (.ref sl)) (EP X pins σ Q) X.xe s
theorem SlR.or{r r':V->Option Int->Option Int->Hp->VK->Prop}(h:SlR X r)(h':SlR X r'):SlR X (fun x lo hi H Q=>r x lo hi H Q∨r' x lo hi H Q):=by
 intro pins s σ H x v vl vu lo hi sl Q I rx hs pl pu q;rcases q with q|q
 ·exact h pins s σ H x v vl vu lo hi sl Q I rx hs pl pu q
 ·exact h' pins s σ H x v vl vu lo hi sl Q I rx hs pl pu q
def tSl(r:V->Option Int->Option Int->Hp->VK->Prop)(te:TE)(tl th:TO):TE:=fun σ H Q=>te σ H fun x H1=>tl σ H1 fun l H2=>th σ H2 fun u H3=>r x l u H3 Q
theorem qmxz{r:V->Option Int->Option Int->Hp->VK->Prop}(hr:SlR X r)(he:PE X e te)(hl:PO X lo tl)(hu:PO X hi th):PE X (.Subscript e (.Slice lo hi none p2) pos) (tSl r te tl th):=by
 intro pins s σ H Q I h;refine Subscript_ (thn (he pins s σ H _ I h) fun v s1 ⟨x,H1,I1,r1,q1⟩=>?_);refine wpAny_Slice (thn (hl pins s1 σ H1 _ I1 q1) fun vl s2 ⟨l,H2,I2,pl,q2⟩=>thn (hu pins s2 σ H2 _ I2 q2) fun vu s3 ⟨u,H3,I3,pu,q3⟩=>?_);rw[evalPart_none];refine wpAny_pure ?_;have I4:Inv X pins σ H3 { s3 with heap:=s3.heap.push { cls:=.type "slice",data:=.fields #[vl,vu,.none]}}:=I3.kept (t':=s3.toks) fun b ob q=>Heap.get?_push_of_some _ q;obtain⟨T,id,hT,ht,hg⟩:=hr pins { s3 with heap:=s3.heap.push { cls:=.type "slice",data:=.fields #[vl,vu,.none]}} σ H3 x v vl vu l u s3.heap.objs.size Q I4 r1 (Heap.IsSliceOf.new ..) pl pu q3;show wpAny (model X.prog X.w) X.A (subscriptTail e (.Slice lo hi none p2) v (.ref s3.heap.objs.size)) (EP X pins σ Q) X.xe { s3 with heap:=s3.heap.push { cls:=.type "slice",data:=.fields #[vl,vu,.none]}};exact tail_any (ops:=[.ref s3.heap.objs.size,v]) ht hT hg (by with_unfolding_all rfl)
def cutV(xs:List V)(lo hi:Option Int):List V:=(xs.drop (HT.sIx xs.length 0 lo)).take (HT.sIx xs.length xs.length hi-HT.sIx xs.length 0 lo)
theorem qguz(xs:List V)(lo hi:Option Int):(cutV xs lo hi).length≤xs.length:=by
 unfold cutV;rw[List.length_take,List.length_drop];lia
def rSlT(K:PySem.W.Frag):V->Option Int->Option Int->Hp->VK->Prop:=fun x lo hi H Q=>∃a xs,x=.ref a/\SqT K H a xs ∧
 ¬(HT.sIx xs.length 0 lo=0/\HT.sIx xs.length xs.length hi=xs.length)/\∀p,H p=none->Q (.ref p) (upd H p (.tup (cutV xs lo hi)))
theorem sl_tup:SlR X (rSlT X.K):=by
 intro pins s σ H x v vl vu lo hi sl Q I rx hs pl pu h;obtain⟨a,xs,rfl,hx,hw,q⟩:=h;cases rx;obtain⟨its,r,ht,hz⟩:=I.tuple hx;have hlen:its.toArray.size=xs.length:=by rw[List.size_toArray];exact r.length.symm
 refine⟨"tuple",_,PyProof.Rows.slot_tuple_getitem.lookup,ht.typeIs,?_⟩;refine HT.getItem_tuple_cut ht hs pl pu (by rw[hlen];exact hw) ?_ (by rw[hlen];exact hz);rw[hlen];refine⟨.ref s.heap.objs.size,_,I.laid (t':=s.toks) (o:=.tup (cutV xs lo hi)) (fun b ob q=>Heap.get?_push_of_some _ q) (Nat.le_refl _) ?_,rfl,q _ (I.hok.fresh (Nat.le_refl _))⟩;exact⟨Nat.le_trans (qguz xs lo hi) hz,_,(r.drop (HT.sIx xs.length 0 lo)).take (HT.sIx xs.length xs.length hi-HT.sIx xs.length 0 lo),IsTup.new _ _⟩
def rLtT(K:PySem.W.Frag):R2:=fun x y H Q=>∃a b ns ms,x=.ref a/\y=.ref b/\SqT K H a (ns.map V.int)/\SqT K H b (ms.map V.int)/\Q (.bl (HT.lexLt ns ms)) H
theorem qmyz(hu:X.A.units<cLine):OpR X (compareOp .Lt) (rLtT X.K):=by
 intro pins s σ H x y v u Q I rx ry h;obtain⟨a,b,ns,ms,rfl,rfl,ha,hb,q⟩:=h;cases rx;cases ry;obtain⟨its,r1,p1,_⟩:=I.tuple ha;obtain⟨its2,r2,p2,_⟩:=I.tuple hb;have i1:IntsAre its.toArray.toList ns:=intsAre_of r1;have i2:IntsAre its2.toArray.toList ms:=intsAre_of r2;exact HT.lt_tupInts p1 p2 i1 i2 hu ⟨.bl (HT.lexLt ns ms),H,I,rfl,q⟩
def rCatT(K:PySem.W.Frag):R2:=fun x y H Q=>∃a b xs ys,x=.ref a/\y=.ref b/\SqT K H a xs/\SqT K H b ys/\xs≠[]/\xs.length+ys.length≤sizeLine ∧
 (ys=[]->Q (.ref a) H)/\(ys≠[]->∀p,H p=none->Q (.ref p) (upd H p (.tup (xs++ys))))
theorem Vals.nil_iff{xs:List V}{us:List Value}(r:Vals xs us):us=[]↔xs=[]:=by
 cases r with
 |nil=>simp
 |cons _ _=>simp
theorem op_catT:OpR X (binaryOp .Add) (rCatT X.K):=by
 intro pins s σ H x y v u Q I rx ry h;obtain⟨a,b,xs,ys,rfl,rfl,ha,hb,hx,hz,q1,q2⟩:=h;cases rx;cases ry;obtain⟨its,r1,p1,_⟩:=I.tuple ha;obtain⟨its2,r2,p2,_⟩:=I.tuple hb;refine HT.cat_tup p1 p2 (fun z=>hx (r1.nil_iff.mp z)) (fun z=>⟨.ref a,H,I,rfl,q1 (r2.nil_iff.mp z)⟩) (fun z=>?_) (by rw[←r1.length,←r2.length];exact hz);refine⟨.ref s.heap.objs.size,_,I.laid (t':=s.toks) (o:=.tup (xs++ys)) (fun b ob q=>Heap.get?_push_of_some _ q) (Nat.le_refl _) ?_,rfl,q2 (fun w=>z (r2.nil_iff.mpr w)) _ (I.hok.fresh (Nat.le_refl _))⟩;exact⟨by rw[List.length_append];exact hz,_,r1.append r2,IsTup.new _ _⟩
end
end L2
namespace L2
open PySem PySem.Spec PyProof.Rows
def ixN(n:Nat)(i:Int):Option Nat:=if 0≤i then (if i<n then some i.toNat else none) else if -(n:Int)≤i then some (i+n).toNat else none
def atI{α:Type}(xs:List α)(i:Int):Option α:=(ixN xs.length i).bind fun j=>xs[j]?
theorem qgvz{n:Nat}{i:Int}{j:Nat}(h:ixN n i=some j):seqIndex? i n=some j/\j<n/\-(n:Int)≤i/\i<n:=by
 unfold ixN at h;by_cases h0:0≤i
 ·rw[if_pos h0] at h;by_cases h1:i<n
  ·rw[if_pos h1] at h;have e:i.toNat=j:=Option.some.inj h;exact⟨by rw[seqIndex_of h0 h1,e],by lia,by lia,h1⟩
  ·rw[if_neg h1] at h;cases h
 ·rw[if_neg h0] at h;by_cases h1:-(n:Int)≤i
  ·rw[if_pos h1] at h;have e:(i+n).toNat=j:=Option.some.inj h;exact⟨by rw[seqIndex_neg (by lia) h1,e],by lia,h1,by lia⟩
  ·rw[if_neg h1] at h;cases h
theorem qd8z{α:Type}{xs:List α}{i:Int}{v:α}(h:atI xs i=some v):∃j,seqIndex? i xs.length=some j/\xs[j]?=some v/\j<xs.length/\-(xs.length:Int)≤i/\i<xs.length:=by
 unfold atI at h;cases e:ixN xs.length i with
 |none=>rw[e] at h;cases h
 |some j=>
  rw[e] at h;obtain⟨h1,h2,h3,h4⟩:=qgvz e;exact⟨j,h1,h,h2,h3,h4⟩
theorem qc6z{α:Type}{xs:List α}{j:Nat}{v:α}(h:xs[j]?=some v):atI xs (j:Int)=some v:=by
 have hj:j<xs.length:=(List.getElem?_eq_some_iff.mp h).1;have e:ixN xs.length (j:Int)=some j:=by
  unfold ixN;rw[if_pos (by lia),if_pos (by lia)];simp
 unfold atI;rw[e];exact h
def PlainIx(b:Expr):Prop:=∀o i,subscripted b false o i=operate [o,i] (getItem o i)
def IxR(X:Cx)(r:R2):Prop:=
 ∀(value slice:Expr) (pins:List (Addr×Obj)) (s:Shared) (σ:St) (H:Hp) (x y:V) (v u:Value) (Q:VK),Inv X pins σ H s->RelV x v->RelV y u->r x y H Q ->
  subscripted slice false v u=operate [v,u] (getItem v u)->wpAny (model X.prog X.w) X.A (subscriptTail value slice v u) (EP X pins σ Q) X.xe s
def MtR(X:Cx)(id:String)(r:V->List V->Hp->VK->Prop):Prop:=
 ∀(pins:List (Addr×Obj)) (s:Shared) (σ:St) (H:Hp) (x:V) (xs:List V) (v:Value) (us:List Value) (Q:VK),Inv X pins σ H s->RelV x v->Vals xs us->r x xs H Q ->
  wpAny (model X.prog X.w) X.A (call (.builtin id) (v::us)) (EP X pins σ Q) X.xe s
section
variable {X:Cx} {a b:Expr} {ta tb:TE} {pos:Pos}
theorem IxR.or{r r':R2}(h:IxR X r)(h':IxR X r'):IxR X (fun x y H Q=>r x y H Q∨r' x y H Q):=by
 intro value slice pins s σ H x y v u Q I rx ry q hs;rcases q with q|q
 ·exact h value slice pins s σ H x y v u Q I rx ry q hs
 ·exact h' value slice pins s σ H x y v u Q I rx ry q hs
theorem qgwz{r:R2}(hr:IxR X r)(ha:PE X a ta)(hb:PE X b tb)(hs:PlainIx b):PE X (.Subscript a b pos) (tOp r ta tb):=by
 intro pins s σ H Q I h;exact Subscript_ (binT ha hb I h fun v u s2 x y H2 I2 rx ry q=>hr a b pins s2 σ H2 x y v u Q I2 rx ry q (hs _ _))
def rIxL(K:PySem.W.Frag):R2:=fun x y H Q=>∃p xs i v,x=.ref p/\y=.int i/\SqL K H p xs/\atI xs i=some v/\Q v H
def rIxT(K:PySem.W.Frag):R2:=fun x y H Q=>∃p xs i v,x=.ref p/\y=.int i/\SqT K H p xs/\atI xs i=some v/\Q v H
def rIxS:R2:=fun x y H Q=>∃z i c,x=.str z/\y=.int i/\z.length≤sizeLine/\atI z.cps.toList i=some c/\Q (.str ⟨#[c]⟩) H
theorem ix_list:IxR X (rIxL X.K):=by
 intro value slice pins s σ H x y v u Q I rx ry h hs;obtain⟨p,xs,i,z,rfl,rfl,hq,he,q⟩:=h;cases rx;obtain⟨t,rfl⟩:=ry;obtain⟨its,r,pl,hz⟩:=I.list hq;obtain⟨j,h1,h2,h3,h4,h5⟩:=qd8z he;obtain⟨w,ew,rw'⟩:=r.get h2;have hl:=r.length;have hn:=line63;have fin:EP X pins σ Q w s:=⟨z,H,I,rw',q⟩;by_cases h0:0≤i
 ·have hj:i.toNat=j:=by
   rw[seqIndex_of h0 h5] at h1;exact Option.some.inj h1
  exact item_listR pl.isList h0 (by lia) (by rw[hj];simpa using ew) fin hs
 ·have hj:(i+(its.toArray.size:Int)).toNat=j:=by
   rw[seqIndex_neg (by lia) h4] at h1;rw[List.size_toArray,←hl];exact Option.some.inj h1
  exact subscriptTail_builtinR (x:=w) pl.isList.typeIs slot_list_getitem.lookup
   (wpAny_getItem_list_neg (Q:=fun r s'=>r=w/\EP X pins σ Q r s') pl.isList (by lia) (by rw[List.size_toArray]<;>lia) (by lia) (by rw[hj];simpa using ew) ⟨rfl,fin⟩) hs
theorem ix_tup:IxR X (rIxT X.K):=by
 intro value slice pins s σ H x y v u Q I rx ry h hs;obtain⟨p,xs,i,z,rfl,rfl,hq,he,q⟩:=h;cases rx;obtain⟨t,rfl⟩:=ry;obtain⟨its,r,pl,hz⟩:=I.tuple hq;obtain⟨j,h1,h2,h3,h4,h5⟩:=qd8z he;obtain⟨w,ew,rw'⟩:=r.get h2;have hl:=r.length;have hn:=line63;have fin:EP X pins σ Q w s:=⟨z,H,I,rw',q⟩;exact subscriptTail_builtinR (x:=w) pl.typeIs slot_tuple_getitem.lookup
  (getItem_tuple (j:=j) (Q:=fun r s'=>r=w/\EP X pins σ Q r s') pl (by lia) (by lia) (by rw[List.size_toArray,←hl];exact h1) (by simpa using ew) ⟨rfl,fin⟩) hs
theorem qmzz:IxR X rIxS:=by
 intro value slice pins s σ H x y v u Q I rx ry h hs;obtain⟨z,i,c,rfl,rfl,hz,he,q⟩:=h;obtain⟨t,rfl⟩:=rx;obtain⟨t',rfl⟩:=ry;obtain⟨j,h1,h2,h3,h4,h5⟩:=qd8z he;have hl:z.cps.toList.length=z.length:=by simp[Str.length]
 rw[hl] at h1 h4 h5;have hn:=line63;exact tail_any (typeIs_str s z t) slot_str_getitem.lookup (getItem_str (c:=c) (by
  have e1:decide (i < -(2^63:Int))=false:=decide_eq_false (by lia);have e2:decide (i≥2^63)=false:=decide_eq_false (by lia);rw[e1,e2,Bool.or_false]) (by rw[h1];simpa using h2) ⟨.str ⟨#[c]⟩,H,I.tok _,⟨_,rfl⟩,q⟩) hs
def rIx(K:PySem.W.Frag):R2:=fun x y H Q=>rIxL K x y H Q∨rIxT K x y H Q∨rIxS x y H Q
theorem qgxz:IxR X (rIx X.K):=ix_list.or (ix_tup.or qmzz)
theorem qm0z(its:List Value)(n j:Nat)(u:Value):Obj.mapSeq (·.setIfInBounds j u) { cls:=.type "list",data:=.seq its.toArray n }={ cls:=.type "list",data:=.seq (its.set j u).toArray n }:=by
 simp[Obj.mapSeq]
theorem Inv.lst{pins:List (Addr×Obj)}{σ:St}{H:Hp}{s:Shared}{p:Addr}{xs:List V}(I:Inv X pins σ H s)(h:H p=some (.lst xs)):
  ∃(its:List Value) (n:Nat),Vals xs its/\s.heap.get? p=some { cls:=.type "list",data:=.seq its.toArray n }/\xs.length≤sizeLine:=by
 obtain⟨z,its,n,r,e⟩:=I.hok p _ h;exact⟨its,n,r,e,z⟩
theorem Inv.lstUpd{pins:List (Addr×Obj)}{σ:St}{H:Hp}{s:Shared}{p:Addr}{xs ys:List V}{its its':List Value}{n n':Nat}{f:Obj->Obj}(I:Inv X pins σ H s)(h:H p=some (.lst xs))
  (ho:s.heap.get? p=some { cls:=.type "list",data:=.seq its.toArray n }) (hf:f { cls:=.type "list",data:=.seq its.toArray n }={ cls:=.type "list",data:=.seq its'.toArray n' }) (r:Vals ys its') (hz:ys.length≤sizeLine) (t:Nat):
  Inv X pins σ (upd H p (.lst ys)) { s with heap:=s.heap.update p f,toks:=t }:=by
 have e:(s.heap.update p f).get? p=some { cls:=.type "list",data:=.seq its'.toArray n' }:=by
  rw[Heap.get?_update_self f ho (by rw[hf]<;>rfl),hf]
 refine I.write (x:=p) (e:=p) (by rw[h];trivial) (.inl rfl) (fun b u hb q=>(Heap.get?_update_other _ _ (Ne.symm hb)).trans q) ⟨_,e⟩ ?_;exact⟨hz,its',n',r,e⟩
def rSetL:V->V->V->Hp->(Hp->Prop)->Prop:=fun o i v H Q=>∃p xs k j,o=.ref p/\i=.int k/\H p=some (.lst xs)/\ixN xs.length k=some j/\Q (upd H p (.lst (xs.set j v)))
theorem set_list:PSet X rSetL:=by
 intro pins s σ H o i v ov iv u Q I ro ri rv h;obtain⟨p,xs,k,j,rfl,rfl,hp,hj,q⟩:=h;cases ro;obtain⟨t,rfl⟩:=ri;obtain⟨its,n,r,ho,hz⟩:=I.lst hp;obtain⟨h1,h2,h3,h4⟩:=qgvz hj;have hl:=r.length;have hn:=line63;have I':Inv X pins σ (upd H p (.lst (xs.set j v))) { s with heap:=s.heap.update p (Obj.mapSeq (·.setIfInBounds j u))}:=
  I.lstUpd hp ho (qm0z its n j u) (r.set rv j) (by rw[List.length_set];exact hz) s.toks
 by_cases h0:0≤k
 ·have hk:k.toNat=j:=by
   rw[seqIndex_of h0 h4] at h1;exact Option.some.inj h1
  exact PySem.W.ki_setAt ho h0 (by lia) (by rw[List.size_toArray,←hl];exact h4) (by rw[hk];exact⟨_,I',q⟩)
 ·have hk:(k+(its.toArray.size:Int)).toNat=j:=by
   rw[seqIndex_neg (by lia) h3] at h1;rw[List.size_toArray,←hl];exact Option.some.inj h1
  exact PySem.W.ki_setBack ho (by lia) (by rw[List.size_toArray,←hl];exact h3) (by lia) (by rw[hk];exact⟨_,I',q⟩)
theorem qm1z(lo hi:Option Int)(n:Nat):(sliceBounds lo hi none n).1=((HT.sIx n 0 lo:Nat):Int)/\(sliceBounds lo hi none n).2.1=((HT.sIx n n hi:Nat):Int)/\(sliceBounds lo hi none n).2.2=1:=by
 refine⟨?_,?_,rfl⟩
 ·cases lo with
  |none=>simp[sliceBounds,HT.sIx]
  |some i=>
   simp only[sliceBounds,HT.sIx,Option.getD_none,show (1:Int) > 0 by decide,if_true];by_cases h:i<0
   ·simp only[h,if_true]<;>lia
   ·simp only[h,if_false]<;>lia
 ·cases hi with
  |none=>simp[sliceBounds,HT.sIx]
  |some i=>
   simp only[sliceBounds,HT.sIx,Option.getD_none,show (1:Int) > 0 by decide,if_true];by_cases h:i<0
   ·simp only[h,if_true]<;>lia
   ·simp only[h,if_false]<;>lia
theorem qm2z(its:List Value)(lo hi:Option Int):slicePick its.toArray lo hi none=((its.drop (HT.sIx its.length 0 lo)).take (HT.sIx its.length its.length hi-HT.sIx its.length 0 lo)).toArray:=by
 obtain⟨h1,h2,h3⟩:=qm1z lo hi its.toArray.size;unfold slicePick;rw[h1,h2,h3];simp only[sliceRange_one,pick_run,List.size_toArray]<;>rfl
def rSlL(K:PySem.W.Frag):V->Option Int->Option Int->Hp->VK->Prop:=fun x lo hi H Q=>∃a xs,x=.ref a/\SqL K H a xs/\∀p,H p=none->Q (.ref p) (upd H p (.lst (cutV xs lo hi)))
theorem qm3z:SlR X (rSlL X.K):=by
 intro pins s σ H x v vl vu lo hi sl Q I rx hs pl pu h;obtain⟨a,xs,rfl,hx,q⟩:=h;cases rx;obtain⟨its,r,ht,hz⟩:=I.list hx;have hlen:=r.length;refine⟨"list",_,slot_list_getitem.lookup,ht.isList.typeIs,?_⟩;refine wpAny_getItem_list_slice ht.isList hs pl pu .none (by simp) ?_ (by rw[List.size_toArray]<;>lia)
 rw[qm2z,←hlen];refine⟨.ref s.heap.objs.size,_,I.laid (t':=s.toks) (o:=.lst (cutV xs lo hi)) (fun b ob q=>Heap.get?_push_of_some _ q) (Nat.le_refl _) ?_,rfl,q _ (I.hok.fresh (Nat.le_refl _))⟩;exact⟨Nat.le_trans (qguz xs lo hi) hz,_,0,(r.drop (HT.sIx xs.length 0 lo)).take (HT.sIx xs.length xs.length hi-HT.sIx xs.length 0 lo),Heap.get?_push_size _ rfl⟩
theorem qm4z:CallR X (.builtin "len") (fun xs H Q=>∃p ys,xs=[.ref p]/\(SqL X.K H p ys∨SqT X.K H p ys)/\Q (.int ys.length) H):=by
 intro pins s σ H xs us Q I r h;obtain⟨p,ys,rfl,hq,q⟩:=h;obtain⟨u,rfl,rx⟩:=vals1 r;cases rx;have hn:=line63;rcases hq with hq|hq
 ·obtain⟨its,r',pl,hz⟩:=I.list hq;have hlen:=r'.length;exact Calls.call_len_list pl.isList (by simp only[List.size_toArray]<;>lia) ⟨.int ys.length,H,I.tok _,⟨s.toks+1,by rw[List.size_toArray,hlen]⟩,q⟩
 ·obtain⟨its,r',pl,hz⟩:=I.tuple hq;have hlen:=r'.length;exact len_tuple pl (by simp only[List.size_toArray]<;>lia) ⟨.int ys.length,H,I.tok _,⟨s.toks+1,by rw[List.size_toArray,hlen]⟩,q⟩
theorem qm5z:CallR X (.type "list") (fun xs H Q=>∃p ys,xs=[.ref p]/\(SqL X.K H p ys∨SqT X.K H p ys)/\∀l,H l=none->Q (.ref l) (upd H l (.lst ys))):=by
 intro pins s σ H xs us Q I r h;obtain⟨p,ys,rfl,hq,q⟩:=h;obtain⟨u,rfl,rx⟩:=vals1 r;cases rx;have fin:∀(its:List Value),Vals ys its->ys.length≤sizeLine->∀(h':Heap) (c':Nat),(∀b o',s.heap.get? b=some o'->h'.get? b=some o') ->
   h'.get? s.heap.objs.size=some { cls:=.type "list",dict:=none,data:=.seq its.toArray c',slots:=#[]}->EP X pins σ Q (.ref s.heap.objs.size) { s with heap:=h' }:=fun its r' hz h' c' kp e=>
  ⟨.ref s.heap.objs.size,_,I.laid (t':=s.toks) kp (Nat.le_refl _) (show ObjOk X.prog X.w _ h' _ (.lst ys) from⟨hz,its,c',r',e⟩),rfl,q _ (I.hok.fresh (Nat.le_refl _))⟩
 rcases hq with hq|hq
 ·obtain⟨its,r',pl,hz⟩:=I.list hq;have hlen:=r'.length;obtain⟨o,ho,hc,n,hd⟩:=pl.isList;exact call_list_seq p (.inl rfl) ho hc hd (fun h' c' kp e=>fin its r' hz h' c' kp e) (by simp only[List.size_toArray]<;>lia)
 ·obtain⟨its,r',pl,hz⟩:=I.tuple hq;have hlen:=r'.length;obtain⟨o,ho,hc,n,hd⟩:=pl;exact call_list_seq p (.inr rfl) ho hc hd (fun h' c' kp e=>fin its r' hz h' c' kp e) (by simp only[List.size_toArray]<;>lia)
theorem qm6z:CallR X (.type "tuple") (fun xs H Q=>∃p ys,xs=[.ref p]/\((SqL X.K H p ys/\∀l,H l=none->Q (.ref l) (upd H l (.tup ys)))∨(SqT X.K H p ys/\Q (.ref p) H))):=by
 intro pins s σ H xs us Q I r h;obtain⟨p,ys,rfl,h⟩:=h;obtain⟨u,rfl,rx⟩:=vals1 r;cases rx;rcases h with⟨hq,q⟩|⟨hq,q⟩
 ·obtain⟨its,r',pl,hz⟩:=I.list hq;have hlen:=r'.length;refine call_tuple_list pl.isList (fun h' kp=>?_) (by simp only[List.size_toArray]<;>lia)
  have I1:Inv X pins σ H { s with heap:=h' }:=I.kept (t':=s.toks) kp;have I2:Inv X pins σ (upd H h'.objs.size (.tup ys)) { s with heap:=h'.push { cls:=.type "tuple",data:=.seq its.toArray }}:=
   I1.laid (t':=s.toks) (fun b o e=>Heap.get?_push_of_some _ e) (Nat.le_refl _) (show ObjOk X.prog X.w _ _ _ (.tup ys) from⟨hz,its,r',IsTup.new _ _⟩)
  exact⟨.ref h'.objs.size,_,I2,rfl,q _ (I1.hok.fresh (Nat.le_refl _))⟩
 ·obtain⟨its,r',pl,hz⟩:=I.tuple hq;exact call_tuple_same pl ⟨.ref p,H,I,rfl,q⟩
def tyV(K:PySem.W.Frag)(T:String)(x:V)(H:Hp):Prop:=match x with
 |.str _=>T="str"
 |.int _=>T="int"
 |.ref p=>(T="list"/\∃xs,SqL K H p xs)∨(T="tuple"/\∃o,K.lookup p=some o/\o.cls=.type "tuple"/\o.dict=none) ∨
   (T="dict"/\((∃kvs,H p=some (.dK kvs))∨∃kvs,H p=some (.dT kvs)))∨(T="set"/\∃S n,H p=some (.set S n))
 |_=>False
theorem qm7z{pins:List (Addr×Obj)}{σ:St}{H:Hp}{s:Shared}{T:String}{x:V}{v:Value}(I:Inv X pins σ H s)(r:RelV x v)(ty:tyV X.K T x H):
  s.TypeIs v T/\∀a,v=.ref a->∃ob,s.heap.get? a=some ob/\ob.dict=none:=by
 cases x with
 |str z=>
  obtain⟨t,rfl⟩:=r;cases (show T="str" from ty);exact⟨typeIs_str s z t,fun _ e=>nomatch e⟩
 |int i=>
  obtain⟨t,rfl⟩:=r;cases (show T="int" from ty);exact⟨typeIs_int s i t,fun _ e=>nomatch e⟩
 |ref p=>
  cases r;rcases ty with⟨rfl,xs,hq⟩|⟨rfl,o,hk,hc,hd⟩|⟨rfl,hk⟩|⟨rfl,S,n,hk⟩
  ·obtain⟨its,_,pl,_⟩:=I.list hq;refine⟨pl.isList.typeIs,fun a e=>?_⟩;cases e;obtain⟨o,n,e,c,hd,_⟩:=pl;exact⟨o,e,hd⟩
  ·refine⟨⟨o,I.kIn p o hk,hc⟩,fun a e=>?_⟩;cases e;exact⟨o,I.kIn _ o hk,hd⟩
  ·have z:∃o,s.heap.get? p=some o/\o.ExactDict:=by
    rcases hk with⟨kvs,hk⟩|⟨kvs,hk⟩
    ·obtain⟨_,_,_,_,o,_,_,e,ex,_⟩:=I.hok p _ hk;exact⟨o,e,ex⟩
    ·obtain⟨_,_,_,_,o,_,_,e,ex,_⟩:=I.hok p _ hk;exact⟨o,e,ex⟩
   obtain⟨o,e,ex⟩:=z;refine⟨⟨o,e,ex.1⟩,fun a e2=>?_⟩;cases e2;exact⟨o,e,ex.2.1⟩
  ·obtain⟨o,_,_,_,e,ex,_⟩:=I.hok p _ hk;refine⟨⟨o,e,ex.1⟩,fun a e2=>?_⟩;cases e2;exact⟨o,e,ex.2.1⟩
 |_=>exact False.elim ty
def tBM(K:PySem.W.Frag)(T:String)(r:V->List V->Hp->VK->Prop)(to:TE)(t:TA):TE:=fun σ H Q=>to σ H fun x H1=>tyV K T x H1/\t σ H1 fun xs H2=>r x xs H2 Q
variable {o e:Expr} {es:List Expr} {to:TE} {t:TA} {name:Str} {apos cpos:Pos} {T id:String} {r:V->List V->Hp->VK->Prop}
theorem qm8z(pa:PlainAttrs T)(slot:Slot T name id)(hty:typeOf (.builtin id)=pure (.type "method_descriptor"))(hm:MtR X id r)(ho:PE X o to)(ha:PA X (e::es) t)
  (hbase:attributeBase o name X.env (eval o X.env)=eval o X.env:=by rfl)
  (hfew:((backTo cpos (starEach (e::es) X.env)).all (fun x=>!x.1)&&(backToKw cpos (keywordEach [] X.env)).all (fun x=>x.1.isSome)
   && decide ((e::es).length+([]:List Keyword).length+(if ([]:List Keyword).isEmpty then 0 else 1)<30))=true:=by rfl)
  (hline:(apos.endLine==cpos.line)=true:=by rfl) (hs:starEach (e::es) X.env=(false,eval e X.env)::starEach es X.env:=by rfl) (hplain:(backTo cpos (starEach es X.env)).any (·.1)=false:=by rfl):
  PE X (.Call (.Attribute o name apos) (e::es) [] cpos) (tBM X.K T r to t):=by
 intro pins s σ H Q I h;refine wpAny_Call_method_late hbase hfew hline rfl (thn (ho pins s σ H _ I h) fun v s1 ⟨x,H1,I1,r1,ty,q1⟩=>?_);obtain⟨h1,h2⟩:=qm7z I1 r1 ty;refine⟨T,id,pa,slot,hty,h1,h2,?_⟩;have hA:=ha cpos pins s1 σ H1 _ I1 q1;rw[hs] at hA ⊢;refine Calls.callWith_builtin (by show (false||(backTo cpos (starEach es X.env)).any (·.1))=false;rw[hplain]<;>rfl) (Calls.evalArgs_plain ?_)
 exact thn hA fun us s2 ⟨vs,H2,I2,r2,q2⟩=>hm pins s2 σ H2 x vs v us Q I2 r1 r2 q2
/- xs.append(e),list.index on a module's tuple .. are MtR facts of 06m -/
end
end L2
namespace L2
open PySem PySem.Spec PyProof.Rows
def MtM(X:Cx)(id:String)(r:V->List V->Hp->VK->Prop):Prop:=
 ∀(pins:List (Addr×Obj)) (s:Shared) (σ:St) (H:Hp) (x:V) (xs:List V) (v:Value) (us:List Value) (Q:VK),Inv X pins σ H s->RelV x v->Vals xs us->r x xs H Q ->
  wpAny (model X.prog X.w) X.A (call (.builtin id) (v::us)) (EP X pins σ Q) X.xe s
theorem Vals.one:∀{x:V} {us:List Value},Vals [x] us->∃u,us=[u]/\RelV x u
 |_,_,.cons r .nil=>⟨_,rfl,r⟩
theorem Vals.zero:∀{us:List Value},Vals [] us->us=[]
 |_,.nil=>rfl
theorem Vals.eraseIdx:∀{xs:List V} {us:List Value} (i:Nat),Vals xs us->Vals (xs.eraseIdx i) (us.eraseIdx i)
 |_,_,_,.nil=>.nil
 |_,_,0,.cons _ t=>t
 |_,_,i+1,.cons r t=>.cons r (Vals.eraseIdx i t)
theorem Vals.rep{xs:List V}{us:List Value}(h:Vals xs us):∀k:Nat,Vals (List.replicate k xs).flatten (List.replicate k us).flatten
 |0=>.nil
 |k+1=>by
  rw[List.replicate_succ,List.replicate_succ,List.flatten_cons,List.flatten_cons];exact Vals.append h (Vals.rep h k)
theorem qd9z{α:Type}:∀(l:List α) (i:Nat),(l.eraseIdx i).length≤l.length
 |[],_=>Nat.le_refl _
 |_::_,0=>Nat.le_succ _
 |_::r,i+1=>Nat.succ_le_succ (qd9z r i)
theorem foldl_rep(its:List Value):∀(k:Nat) (acc:List Value),
  List.foldl (fun x1 x2=>x1++x2) acc.toArray (List.replicate k its.toArray)=(acc++(List.replicate k its).flatten).toArray
 |0,acc=>by simp
 |k+1,acc=>by
  have e:acc.toArray++its.toArray=(acc++its).toArray:=by simp
  have e2:(acc++its)++(List.replicate k its).flatten=acc++(List.replicate (k+1) its).flatten:=by
   rw[List.replicate_succ,List.flatten_cons,List.append_assoc]
  rw[←e2,←foldl_rep its k (acc++its),←e,List.replicate_succ,List.foldl_cons]
section
variable {X:Cx} {pins:List (Addr×Obj)} {σ:St} {H:Hp} {s:Shared} {l b:Addr} {xs ys zs:List V}
theorem Inv.lset{its its':List Value}{n:Nat}{f:Array Value->Array Value}{t':Nat}(I:Inv X pins σ H s)(hH:H l=some (.lst xs))
  (e:s.heap.get? l=some { cls:=.type "list",data:=.seq its.toArray n }) (hf:f its.toArray=its'.toArray) (hv:Vals ys its') (hz:ys.length≤sizeLine):
  Inv X pins σ (upd H l (.lst ys)) { s with heap:=s.heap.update l (Obj.mapSeq f),toks:=t' }:=by
 have q:=PySem.IsL.update e f;rw[hf] at q;refine I.write (x:=l) (e:=l) (by rw[hH];exact trivial) (.inl rfl) (fun b' u hb hu=>(Heap.get?_update_other s.heap (Obj.mapSeq f) (Ne.symm hb)).trans hu) ⟨_,q⟩ ?_;exact⟨hz,its',_,hv,q⟩
theorem Inv.lnew{its:List Value}{t':Nat}(I:Inv X pins σ H s)(hv:Vals ys its)(hz:ys.length≤sizeLine):
  Inv X pins σ (upd H s.heap.objs.size (.lst ys)) { s with heap:=s.heap.push { cls:=.type "list",data:=.seq its.toArray },toks:=t' }:=
 I.laid (fun _ _ q=>Heap.get?_push_of_some _ q) (Nat.le_refl _) ⟨hz,its,0,hv,Heap.get?_push_size _ rfl⟩
theorem Inv.fresh(I:Inv X pins σ H s):H s.heap.objs.size=none:=I.hok.fresh (Nat.le_refl _)
theorem Inv.lstM(I:Inv X pins σ H s)(hH:H l=some (.lst xs)):xs.length≤sizeLine/\∃(its:List Value) (n:Nat),Vals xs its/\xs.length=its.length/\s.heap.get? l=some { cls:=.type "list",data:=.seq its.toArray n }:=by
 obtain⟨z,its,n,r,e⟩:=I.hok l _ hH;exact⟨z,its,n,r,r.length,e⟩
theorem notLongL{n:Nat}(h:n≤sizeLine):Builtin.List.listTooLong n=false:=by
 unfold Builtin.List.listTooLong;exact decide_eq_false (by lia)
end
section
variable {X:Cx}
def rAppend:V->List V->Hp->VK->Prop:=fun x vs H Q=>∃l xs y,x=.ref l/\vs=[y]/\H l=some (.lst xs)/\xs.length<sizeLine/\Q .non (upd H l (.lst (xs++[y])))
theorem qb8z:MtM X "list.append" rAppend:=by
 intro pins s σ H x vs v us Q I rx rv h;obtain⟨l,xs,y,rfl,rfl,hH,hz,q⟩:=h;cases rx;obtain⟨u,rfl,ru⟩:=rv.one;obtain⟨z,its,n,r,hl,e⟩:=I.lstM hH;refine call_meets F.slot_list_append ⟨_,e,rfl⟩ F.entry_list_append (F.args_list_append_2 _ _) (PySem.list_append l its.toArray n u (by rw[List.size_toArray];lia)) ⟨e,?_⟩;refine⟨.non,_,I.lset (its':=its++[u]) hH e (by simp) (r.append (.cons ru .nil)) ?_,rfl,q⟩;rw[List.length_append,List.length_singleton];lia
def rExtend:V->List V->Hp->VK->Prop:=fun x vs H Q=>∃l b xs zs,x=.ref l/\vs=[.ref b]/\H l=some (.lst xs)/\H b=some (.lst zs)/\xs.length+zs.length≤sizeLine/\Q .non (upd H l (.lst (xs++zs)))
theorem qxtz:MtM X "list.extend" rExtend:=by
 intro pins s σ H x vs v us Q I rx rv h;obtain⟨l,b,xs,zs,rfl,rfl,hH,hB,hz,q⟩:=h;cases rx;obtain⟨u,rfl,ru⟩:=rv.one;cases ru;obtain⟨z,its,n,r,hl,e⟩:=I.lstM hH;obtain⟨z2,its2,n2,r2,hl2,e2⟩:=I.lstM hB;have hsz:its.toArray.size+its2.toArray.size≤sizeLine:=by rw[List.size_toArray,List.size_toArray];lia
 have hlong:¬(!its.toArray.isEmpty&&Builtin.List.listTooLong (its.toArray.size+its2.toArray.size))=true:=by
  rw[notLongL hsz,Bool.and_false];exact Bool.false_ne_true
 refine call_meets F.slot_list_extend ⟨_,e,rfl⟩ F.entry_list_extend (F.args_list_extend_2 _ _)
  (AutoSeq1.list_extend_list_list_0 l its.toArray n b its2.toArray n2 hlong (by rw[List.size_toArray];lia) (by lia)) ⟨e,e2,?_⟩
 refine⟨.non,_,I.lset (its':=its++its2) hH e (by simp) (r.append r2) ?_,rfl,q⟩;rw[List.length_append];lia
def rPopAt:V->List V->Hp->VK->Prop:=fun x vs H Q=>∃l xs i k y,x=.ref l/\vs=[.int i]/\H l=some (.lst xs)/\-(2^63)≤i/\i<2^63/\seqIndex? i xs.length=some k/\xs[k]?=some y/\Q y (upd H l (.lst (xs.eraseIdx k)))
theorem qeaz:MtM X "list.pop" rPopAt:=by
 intro pins s σ H x vs v us Q I rx rv h;obtain⟨l,xs,i,k,y,rfl,rfl,hH,h1,h2,hk,hy,q⟩:=h;cases rx;obtain⟨u,rfl,ru⟩:=rv.one;obtain⟨t,rfl⟩:=ru;obtain⟨z,its,n,r,hl,e⟩:=I.lstM hH;obtain⟨w,hw,rw'⟩:=r.get hy;refine call_meets F.slot_list_pop ⟨_,e,rfl⟩ F.entry_list_pop (F.args_list_pop_2 _ _)
  (MeetsSeq.list_pop_at l its.toArray n i t k w (fitsIndex_both h1 h2) (by rw[List.size_toArray,←hl];exact hk) (by rw[←Array.getElem?_toList];exact hw) (by rw[List.size_toArray];lia)) ⟨e,?_⟩
 refine⟨y,_,I.lset (its':=its.eraseIdx k) hH e ?_ (r.eraseIdx k) ?_,rw',q⟩
 ·show its.toArray.eraseIdxIfInBounds k=(its.eraseIdx k).toArray;rw[List.eraseIdxIfInBounds_toArray]
 ·have:=qd9z xs k;lia
def rCat:R2:=fun x y H Q=>∃l b xs zs,x=.ref l/\y=.ref b/\H l=some (.lst xs)/\H b=some (.lst zs)/\xs.length+zs.length≤sizeLine/\∀p,H p=none->Q (.ref p) (upd H p (.lst (xs++zs)))
theorem op_cat:OpR X (binaryOp .Add) rCat:=by
 intro pins s σ H x y v u Q I rx ry h;obtain⟨l,b,xs,zs,rfl,rfl,hH,hB,hz,q⟩:=h;cases rx;cases ry;obtain⟨z,its,n,r,hl,e⟩:=I.lstM hH;obtain⟨z2,its2,n2,r2,hl2,e2⟩:=I.lstM hB;refine PySem.P.add_list e e2 ?_ (by rw[List.size_toArray,List.size_toArray];lia);have ea:its.toArray++its2.toArray=(its++its2).toArray:=by simp
 rw[ea];exact⟨.ref _,_,I.lnew (t':=s.toks) (r.append r2) (by rw[List.length_append];lia),rfl,q _ I.fresh⟩
def rRep:R2:=fun x y H Q=>∃l k xs,x=.ref l/\y=.int k/\H l=some (.lst xs)/\-(2^63)≤k/\k<2^63/\xs.length*k.toNat≤sizeLine ∧
 ∀p,H p=none->Q (.ref p) (upd H p (.lst (List.replicate k.toNat xs).flatten))
theorem len_rep{α:Type}(xs:List α)(k:Nat):(List.replicate k xs).flatten.length=k*xs.length:=by
 induction k with
 |zero=>simp
 |succ k ih=>rw[List.replicate_succ,List.flatten_cons,List.length_append,ih,Nat.succ_mul,Nat.add_comm]
theorem qm9z:OpR X (binaryOp .Mult) rRep:=by
 intro pins s σ H x y v u Q I rx ry h;obtain⟨l,k,xs,rfl,rfl,hH,h1,h2,hz,q⟩:=h;cases rx;obtain⟨t,rfl⟩:=ry;obtain⟨z,its,n,r,hl,e⟩:=I.lstM hH;have hlen:its.toArray.size*k.toNat≤sizeLine:=by rw[List.size_toArray,←hl];exact hz
 have hcap:¬its.toArray.size*k.toNat > (2^63-1) / 8:=by
  have:(sizeLine:Nat)≤(2^63-1) / 8:=by decide
  lia
 have hfit:¬(!Builtin.List.listFitsIndex k)=true:=by
  rw[fitsIndex_both h1 h2];exact Bool.false_ne_true
 have hlong:¬Builtin.List.listTooLong (its.toArray.size*k.toNat)=true:=by
  rw[notLongL hlen];exact Bool.false_ne_true
 have hnew:List.foldl (fun x1 x2=>x1++x2) #[] (List.replicate (if its.toArray.isEmpty=true then 0 else k.toNat) its.toArray)=(List.replicate k.toNat its).flatten.toArray:=by
  have f0:∀m:Nat,List.foldl (fun x1 x2=>x1++x2) #[] (List.replicate m its.toArray)=(List.replicate m its).flatten.toArray:=fun m=>by
   have:=foldl_rep its m [];rw[List.nil_append] at this;exact this
  rw[f0];cases its with
  |nil=>simp
  |cons a r'=>rw[if_neg (by simp)]
 refine wpAny_binaryOp_repeat_ref (T:="list") (U:="int") (by decide) ⟨_,e,rfl⟩ (fun s'=>typeIs_int s' k t) noFill_list_mul F.fills_int_mul F.slot_int_rmul repeat_list F.slot_int_index.lookup
  (call_meets F.slot_int_rmul (typeIs_int s k t) F.entry_int_rmul (F.args_int_rmul_2 _ _) (int___rmul___int_list k t l its.toArray n)
   ⟨e,rfl,⟨_,e,rfl⟩,call_meets F.slot_list_mul ⟨_,e,rfl⟩ F.entry_list_mul (F.args_list_mul_2 _ _) (AutoListH.list___mul___list_int_3 l its.toArray n k t hfit hcap hlong) ⟨e,?_⟩⟩)
 rw[hnew];exact⟨.ref _,_,I.lnew (t':=s.toks) (r.rep k.toNat) (by rw[len_rep,Nat.mul_comm];exact hz),rfl,q _ I.fresh⟩
end
end L2
namespace Att
open PySem PySem.W PySem.Calls PyProof.Rows
theorem qnaz{P:Params}{h:Heap}:∀(ns:List Int) (vs:List Value),WellAll P h vs (ns.map WData.int)->IntsAre vs ns:=by
 intro ns
 induction ns with
 |nil=>
  intro vs w;rw[List.map_nil] at w;cases w;exact .nil
 |cons n ns ih=>
  intro vs w;rw[List.map_cons] at w;cases w with
  |cons a b=>
   cases a;exact .cons _ _ (ih _ b)
theorem qnbz{l:OpenLaw}{n:Nat}(hn:l.most=some n){P:Params}{h:Heap}{args:List WData}{vals:List Value}
  (hpre:l.row.toRowW.claim.pre args=true) (hwl:WellAll P h vals args):
  ∃a vs ns,vals=[Value.ref a]/\args=[WData.list (ns.map WData.int)]/\h.get? a=some { cls:=.type "list",data:=.seq vs.toArray }/\IntsAre vs ns/\ns.length≤n:=by
 have hsh:WShape.hasAll [] args [.list .int]=true:=(pre_splitW hpre).1;have hc:l.pre.holds [] { args:=args }=true:=(pre_splitW hpre).2;obtain⟨d,r,rfl,h1,h2⟩:=hasAllW_cons hsh;obtain rfl:=hasAllW_nil h2;obtain⟨xs,rfl,h3⟩:=hasW_list h1;obtain⟨ns,rfl⟩:=items_int h3;have hlen:ns.length≤n:=by
  unfold OpenLaw.pre at hc;have h4:(WTm.not (.lt (.lit (.int (n:Int))) (.len (.arg 0)))).holds [] { args:=[.list (ns.map .int)]}=true:=by
   have h4:=(holds_andW hc).1;rw[hn] at h4;exact h4
  have h5:=condW_of h4 (w_not (w_lt w_lit (w_len_list (w_arg rfl))));rw[List.length_map] at h5;refine Nat.le_of_not_lt fun q=>?_;have q':(n:Int)<((ns.length:Nat):Int):=by lia
  first
   | (rw[decide_eq_true q'] at h5;exact absurd h5 (by decide))
   | (simp at h5;lia)
 cases hwl with
 |cons w1 w2=>
  cases w2;cases w1 with
  |list ho hall=>exact⟨_,_,ns,rfl,rfl,ho,qnaz ns _ hall,hlen⟩
theorem qncz(l:OpenLaw)(args:List WData):l.row.toRowW.claim.post args (.bool true) args=true:=
 postW_of (r:=l.row.toRowW) (X:=(true==true))
  (show WShape.has [] (.bool true) .bool=true by first|rfl|decide|simp[WShape.has,WShape.arms,WShape.armsAll])
  (show (WTm.eq .res (.lit (.bool true))).value [] { args:=args,res:=some (.bool true),after:=args }=some (.bool (true==true)) from w_eq_bool (w_res rfl) w_lit) rfl
theorem attach_call{l:OpenLaw}{n:Nat}{q:Program}{loose:List Str}{XP:(Str->Option Value)->Heap->Prop}{YP:World->Heap->Prop}{d:DefRec}
  (hn:l.most=some n) (hdf:d.params.defaults=[])
  (call:∀(w:World) (s₀ s₁:Shared) (mg mb:Str->Option Value) (fa:Addr) (o:Obj) (pm cd doc:Value) (a:Addr) (vs:List Value) (ns:List Int),
   Ground q loose [] XP w s₀ mg mb s₁.heap->YP w s₁.heap ->
   s₁.heap.get? fa=some o->o.data=.func (docDef d.name d.params d.body d.scope pm cd doc)->s₁.heap.CodeRec cd d.name->mg d.name=some (.ref fa) ->
   s₁.heap.get? a=some { cls:=.type "list",data:=.seq vs.toArray }->IntsAre vs ns->ns.length≤n->s₁.gens = #[] ->
   codeAny (model l.prog w) callerA (.call (.ref fa) ⟨[.ref a],[]⟩) (fun r s'=>r=.ok (.ret (.bool true))/\OldK s₁.heap s'.heap/\s'.os=s₁.os/\AllBare s'.gens) s₁):
  WalkO q loose XP YP l.row.toRowW d [] (fun f vs=>PySem.call f vs):=by
 intro w s₀ s₁ mg mb G Y fa o pm cd doc dV kV ho hd hcd hD hmg hg args vals as hpre hlay hrd hwl hlo;obtain rfl:dV=.none:=Dflts.none hD hdf;obtain rfl:kV=.none:=Dflts.noKw hD;obtain⟨a,vs,ns,rfl,rfl,hobj,hints,hlen⟩:=qnbz hn hpre hwl;refine enter_call (codeAny_mono (call w s₀ s₁ mg mb fa o pm cd doc a vs ns G Y ho (fd_plain hd) hcd hmg hobj hints hlen hg) fun r s' hq=>?_);obtain⟨rfl,h2,h3,h4⟩:=hq;exact⟨.inl ⟨.bool true,.bool true,[],rfl,fun _=>rfl,.bool true,qncz l _,fun _=>⟨List.Pairwise.nil,fun _ hm=>(nomatch hm)⟩⟩,h2,h3,h4⟩
end Att
namespace L2
open PySem PySem.Spec PyProof.Rows
theorem qgyz:∀{vs:List Value} {ns:List Int},IntsAre vs ns->Vals (ns.map V.int) vs
 |_,_,.nil=>.nil
 |_,_,.cons n t h=>.cons ⟨t,rfl⟩ (qgyz h)
def Only(H:Hp):Prop:=∀b,H b=none∨∃o xs,H b=some (.frz o (.lst xs))
theorem qndz{P:Program}{w:World}{K:PySem.W.Frag}{mg mb:Str->Option Value}{CX:CXT}{k:Nat}{fa a:Addr}{fd:FuncData}{x:Str}{sp:Sp}{s₁:Shared}{vs:List Value}{ns:List Int}
  (KX:K.In s₁.heap) (hns:s₁.heap.Ns mainGlobals mg) (hb:s₁.heap.Ns builtinsNs mb) (hbb:∀x:Str,x≠"__name__"->mb x=bootBuiltins x) (hlim:s₁.heap.NoLimit) (hg:s₁.gens = #[])
  (ha:s₁.heap.get? a=some { cls:=.type "list",data:=.seq vs.toArray }) (hi:IntsAre vs ns) (hl:ns.length≤sizeLine) (hr:Room k callerA)
  (F:∀base:Heap,K.In base->base.Ns mainGlobals mg->FnOk P w K mg base CX k fa fd [x] sp) (hbind:∀(s:Shared) (u:Value),BindsTo s fd ⟨[u],[]⟩ [(x,u)])
  (hsp:∀H:Hp,Only H->SqL K H a (ns.map V.int)->sp [.ref a] H (fun v _=>v=.bl true) fun _ _ _=>False)
  (hCX:∀H e s',CX [] H s₁ (fun _ _ _=>False) e s'->False):
  codeAny (model P w) callerA (.call (.ref fa) ⟨[.ref a],[]⟩) (fun r s'=>r=.ok (.ret (.bool true))/\OldK s₁.heap s'.heap/\s'.os=s₁.os/\AllBare s'.gens) s₁:=by
 have rv:=qgyz hi;have lenV:=hi.length
 -- from an abstract heap in which nothing but the script may be tracked
 have core:∀H:Hp,Only H->SqL K H a (ns.map V.int)->HOk P w H s₁.heap->(∀b,H b≠none->b=a)->(H a≠none->K.lookup a=none) ->
   codeAny (model P w) callerA (.call (.ref fa) ⟨[.ref a],[]⟩) (fun r s'=>r=.ok (.ret (.bool true))/\OldK s₁.heap s'.heap/\s'.os=s₁.os/\AllBare s'.gens) s₁:=by
  intro H hO hS hok hA hK;have base_of:∀{b:Addr} {o:Obj},s₁.heap.get? b=some o->H b=none->(hidT s₁.heap H).get? b=some o:=fun e n=>qk1z e n;have noA:∀{b:Addr} {o:Obj} {es:Array DictEntry} {ep:Nat},s₁.heap.get? b=some o->o.data=.dict es ep->H b=none:=fun {b o es ep} e d=>by
   cases q:H b with
   |none=>rfl
   |some u=>
    have e':b=a:=hA b (by rw[q];simp);subst e';rw[ha] at e;cases e;have d':Data.seq vs.toArray _=Data.dict es ep:=d;cases d'
  have nsK:∀{b:Addr} {m:Str->Option Value},s₁.heap.Ns b m->(hidT s₁.heap H).Ns b m:=fun {b m} ⟨o,es,ep,e,d,r⟩=>⟨o,es,ep,base_of e (noA e d),d,r⟩;have hKb:K.In (hidT s₁.heap H):=fun b o e=>base_of (KX b o e) (by
   cases q:H b with
   |none=>rfl
   |some u=>
    have e':b=a:=hA b (by rw[q];simp);subst e';rw[hK (by rw[q];simp)] at e;cases e)
  have hM:Mod K mg (hidT s₁.heap H):=⟨hKb,nsK hns,⟨mb,nsK hb,hbb⟩,let ⟨mc,h1,h2⟩:=hlim;⟨mc,nsK h1,h2⟩⟩
  have e0:Env0 P w K mg (hidT s₁.heap H) callerA [] s₁ H:=⟨rfl,hM,fun b o e=>qk2z e,Nat.le_of_eq (qk0z _ _),trivial,fun b hb=>absurd (show b∈([]:List Addr) from hb) (by simp),hok,.of_eq hg⟩;refine codeAny_mono ((F _ hKb (nsK hns)).run callerA [] s₁ H ⟨[.ref a],[]⟩ [.ref a] [.ref a] _ _ hr e0 (hbind s₁ (.ref a)) (.cons rfl .nil) (hsp H hO hS)) fun r s' h=>?_;cases r with
  |error e=>exact (hCX H e s' h).elim
  |ok fl=>
   cases fl with
   |next=>exact False.elim h
   |brk=>exact False.elim h
   |cont=>exact False.elim h
   |ret u=>
    obtain⟨v,H',os,bare,un,hok',r',q⟩:=h;have q':v=.bl true:=q;subst q';obtain rfl:u=Value.bool true:=r';refine⟨rfl,OldK.of_keep fun b o e=>?_,os,bare⟩;cases q:H b with
    |none=>exact un.keep b o e q (by intro z;exact absurd (show b∈([]:List Addr) from z) (by simp)) (by simp)
    |some u=>
     rcases hO b with z|⟨ob,xs,z⟩
     ·rw[q] at z;cases z
     ·have z2:=un.frzs b ob _ z;obtain⟨e1,_⟩:=hok b _ z;obtain⟨e2,_⟩:=hok' b _ z2;rw[e] at e1;cases e1;exact e2
 cases hk:K.lookup a with
 |some o=>
  -- the script is one of the module's own objects
  have e:=KX a o hk;rw[ha] at e;cases e;refine core (fun _=>none) (fun _=>.inl rfl) (.inr ⟨_,vs.toArray,_,hk,rfl,rfl,rfl,by rw[List.size_toArray,lenV];exact hl,by simpa using rv⟩) (fun b u z=>by have z':(none:Option HO)=some u:=z;cases z') (fun b z=>absurd rfl z) fun z=>absurd rfl z
 |none=>
  refine core (fun b=>if b=a then some (.frz { cls:=.type "list",data:=.seq vs.toArray } (.lst (ns.map V.int))) else none) (fun b=>?_) (.inl (.inr ⟨{ cls:=.type "list",data:=.seq vs.toArray },if_pos rfl⟩)) (fun b u z=>?_) (fun b z=>?_) fun _=>hk
  ·by_cases hb:b=a
   ·exact .inr ⟨_,_,if_pos hb⟩
   ·exact .inl (if_neg hb)
  ·by_cases hb:b=a
   ·have z':=(if_pos hb).symm.trans z;cases z';subst hb;exact⟨ha,by rw[List.length_map];exact hl,vs,_,rv,ha⟩
   ·have z':=(if_neg hb).symm.trans z;cases z'
  ·by_cases hb:b=a
   ·exact hb
   ·exact absurd (if_neg hb) z
end L2
namespace L2
open PySem PySem.Spec PyProof.Rows
theorem walk_of{l:PySem.W.OpenLaw}{n k:Nat}{q:Program}{loose:List Str}{XP:(Str->Option Value)->Heap->Prop}{YP:World->Heap->Prop}{d:DefRec}{K:Params->PySem.W.Frag}{CX:World->CXT}{sp:World->Sp}{x:Str}
  (hn:l.most=some n) (hn2:n≤sizeLine) (hdf:d.params.defaults=[]) (hr:Room k callerA)
  (hY:∀(w:World) (h:Heap),YP w h->(K w.params).In h)
  (F:∀(w:World) (mg:Str->Option Value) (fa:Addr) (h:Heap),(K w.params).In h->h.Ns mainGlobals mg->mg d.name=some (.ref fa) ->
   ∃fd:FuncData,(∀(s:Shared) (u:Value),BindsTo s fd ⟨[u],[]⟩ [(x,u)]) ∧
    ∀base:Heap,(K w.params).In base->base.Ns mainGlobals mg->FnOk l.prog w (K w.params) mg base (CX w) k fa fd [x] (sp w))
  (hsp:∀(w:World) (H:Hp) (a:Addr) (ns:List Int),ns.length≤n->Only H->SqL (K w.params) H a (ns.map V.int)->sp w [.ref a] H (fun v _=>v=.bl true) fun _ _ _=>False)
  (hCX:∀(w:World) (H:Hp) (s:Shared) (e:Value) (s':Shared),CX w [] H s (fun _ _ _=>False) e s'->False):
  PySem.W.WalkO q loose XP YP l.row.toRowW d [] (fun f vs=>PySem.call f vs):=by
 refine Att.attach_call hn hdf fun w s₀ s₁ mg mb fa o pm cd doc a vs ns G Y ho hd hcd hmg hobj hints hlen hg=>?_;have KX:=hY w _ Y;obtain⟨fd,hb,hF⟩:=F w mg fa _ KX G.T.g hmg;exact qndz KX G.T.g G.T.b G.T.builtins G.T.nolimit hg hobj hints (Nat.le_trans hlen hn2) hr hF hb (fun H hO hS=>hsp w H a ns hlen hO hS) fun H e s'=>hCX w H s₁ e s'
end L2
/- THE LAST THEOREM (shape;LID,My.* are yours):
  My.Adr: a structure of the addresses that your layer names (classes,functions);My.Txt K t: a structure (Prop) of the equations over K;
  My.txt_mk:{K} {implicit addresses ..} (e1:nsIn K mainGlobals "law" = some (some (.ref f))) (e2:K.lookup f=some ⟨oc,od,.func (fnOf "law" "law" params body scope dV kV doc pm an cdv ct),sl⟩) (e3:codeIn K cdv "law" = true) ..:∃t,My.Txt K t
set_option maxRecDepth 100000 in
set_option maxHeartbeats 0 in
theorem PySem.Challenge.cw_LID_holds : PySem.Challenge.rw_LID.Holds := by
 w_on;o_law;k_head;(case hw=>w_witness2)
 k_fill
 refine L2.walk_of (l:=PySem.Challenge.rw_LID) (n:=63) (k:=40) (x:="script") (CX:=fun w=>..) (sp:=fun _=>My.sp_law) rfl (by decide) rfl ⟨rfl,by decide,by decide⟩ (fun w h Y=>PySem.W.kIn_of Y) ?F ?S ?C
 case F=>
  intro w mg fa h KX G hmg
  have T:∃t,My.Txt (L2.KOf KX) t:=by
   dsimp only[L2.KOf]                          -- K must stand as «<heap const> w.params» for k_is
   refine' My.txt_mk ?e1 ?e2 ?e3 ..
   (case e1=>PySem.W.k_is)                    -- in the order: a name -> its address -> its object -> its parts
   (case e2=>PySem.W.k_is)
   ..
  obtain⟨t,T⟩:=T
  have e0:=hmg.symm.trans (PySem.W.mg_of KX G T.law)
  cases e0                                       -- fa is the law's own address
  exact⟨_,fun s u=>.of_eq rfl,fun base kb nb=>My.law_fn T kb nb⟩     -- if «.of_eq rfl» comes too early: refine' ⟨_,?b,fun base kb nb=>My.law_fn T kb nb⟩;exact fun s u=>.of_eq rfl
 case S=>exact fun w H a ns hl hO hS=>..
 case C=>exact ..
(the tactic k_is has no namespace: write k_is) -/
namespace L2
open PySem PySem.Spec PyProof.Rows
def defArgs(s:Stmt):Arguments:=match s with
 |.FunctionDef _ a _ _ _ _ _ _ _ _=>a
 |_=>{ posonlyargs:=[],args:=[],vararg:=none,kwonlyargs:=[],kw_defaults:=[],kwarg:=none,defaults:=[]}
def defBody(s:Stmt):List Stmt:=match s with
 |.FunctionDef _ _ b _ _ _ _ _ _ _=>b
 |_=>[]
def defScope(s:Stmt):Scope:=match s with
 |.FunctionDef _ _ _ _ _ _ sc _ _ _=>sc
 |_=>{ kind:=.function,names:=[],isGenerator:=false,isCoroutine:=false }
abbrev CX0:CXT:=fun _ _ _ _ _ _=>False
abbrev E0:XK:=fun _ _ _=>False
theorem pass0{X:Cx}:Passes CX0 X E0:=fun _ _ _ _ _ _ _ h=>h.elim
structure Fun(K:PySem.W.Frag)(x qual:Str)(st:Stmt)(f:Addr)(fd:FuncData):Prop where
 ex:∃(oc:Value) (od:Option Addr) (kV doc pm:Value) (an:Option Addr) (cdv ct:Value) (osl:Array (Option Value)),
  fd=PySem.W.fnOf x qual (defArgs st) (defBody st) (defScope st) .none kV doc pm an cdv ct/\K.lookup f=some ⟨oc,od,.func fd,osl⟩/\PySem.W.codeIn K cdv qual=true
 kp:PySem.W.keepIn K (.ref f)=true
section
variable {P:Program} {w:World} {K:PySem.W.Frag} {mg:Str->Option Value} {base:Heap}
theorem Fun.ok{x qual:Str}{st:Stmt}{f:Addr}{fd:FuncData}{N ps:List Str}{k:Nat}{sp:Sp}(F:Fun K x qual st f fd)(S:FnScope N ps (defScope st))(len:∀vs H Q E,sp vs H Q E->vs.length=ps.length)
  (hbody:∀(cdv:Value) (A:Around) (outer:List Env) (s:Shared) (H:Hp) (vs:List V) (Q:VK) (E:XK),Room k (A.deeper (envOfC qual (defScope st) s.heap.objs.size f cdv))->sp vs H Q E ->
   ∃t,PSs (cxOf CX0 P w K mg base N qual (defScope st) f cdv A outer s H E).nox (defBody st) t/\t { nx:=fun _ H'=>Q .non H',rt:=Q } (start N vs) H):FnOk P w K mg base CX0 (k+1) f fd ps sp:=by
 obtain⟨oc,od,kV,doc,pm,an,cdv,ct,osl,rfl,lk,hcd⟩:=F.ex;refine qgrz lk hcd S len fun A outer s H vs Q E hr hsp=>?_;obtain⟨t,h,q⟩:=hbody cdv A outer s H vs Q E hr hsp;exact⟨t,h.nox,q⟩
theorem Fun.binds{x qual:Str}{st:Stmt}{f:Addr}{fd:FuncData}{ps:List Str}(F:Fun K x qual st f fd)
  (h:∀(kV doc pm:Value) (an:Option Addr) (cdv ct:Value) (us:List Value),us.length=ps.length->bindArgs (PySem.W.fnOf x qual (defArgs st) (defBody st) (defScope st) .none kV doc pm an cdv ct) ⟨us,[]⟩=pure (ps.zip us)):Binds K fd ps []:=by
 obtain⟨oc,od,kV,doc,pm,an,cdv,ct,osl,rfl,lk,hcd⟩:=F.ex;exact .all (h kV doc pm an cdv ct)
theorem qgzz{x qual:Str}{st:Stmt}{f:Addr}{oc:Value}{od an:Option Addr}{osl:Array (Option Value)}{kV doc pm cdv ct:Value}(l:K.lookup f=some ⟨oc,od,.func (PySem.W.fnOf x qual (defArgs st) (defBody st) (defScope st) .none kV doc pm an cdv ct),osl⟩)
  (c:PySem.W.codeIn K cdv qual=true) (k:PySem.W.keepIn K (.ref f)=true):Fun K x qual st f (PySem.W.fnOf x qual (defArgs st) (defBody st) (defScope st) .none kV doc pm an cdv ct):=⟨⟨oc,od,kV,doc,pm,an,cdv,ct,osl,rfl,l,c⟩,k⟩
end
section
variable {X:Cx}
theorem pv(i:Nat){x:Str}{pos:Pos}(hN:X.N[i]?=some x:=by rfl)(hv:Vis X.env.scope x:=by first|exact Or.inl rfl|exact Or.inr (Or.inl rfl)|exact Or.inr (Or.inr rfl))(hd:(x==("__debug__":Str))=false:=by decide)
  (hcd:(x==("__classdict__":Str))=false:=by decide):PE X (.Name x pos) (tVar i):=qk3z hN hv hd hcd
end
end L2
namespace L3
open PySem PySem.Spec PyProof.Rows L2
inductive D where
 |non|bl (b:Bool)|int (i:Int)|str (x:Str)|tup (xs:List D)|scr (xs:List D)|obj (a:Addr)|dc (a:Addr)
def SqF(K:PySem.W.Frag)(H:Hp)(a:Addr)(xs:List V):Prop:=
 (∃o,H a=some (.frz o (.lst xs))) ∨
  ∃(o:Obj) (its:Array Value) (n:Nat),K.lookup a=some o/\o.cls=.type "list"/\o.dict=none/\o.data=.seq its n/\its.size≤sizeLine/\Vals xs its.toList
theorem SqF.l{K:PySem.W.Frag}{H:Hp}{a:Addr}{xs:List V}(h:SqF K H a xs):SqL K H a xs:=by
 rcases h with h|h
 ·exact .inl (.inr h)
 ·exact .inr h
mutual
def Hv(K:PySem.W.Frag)(H:Hp):D->V->Prop
 |.non,v=>v=.non
 |.bl b,v=>v=.bl b
 |.int i,v=>v=.int i
 |.str x,v=>v=.str x
 |.tup ds,v=>∃a vs,v=.ref a/\SqT K H a vs/\Hvs K H ds vs
 |.scr ds,v=>∃a vs,v=.ref a/\SqF K H a vs/\Hvs K H ds vs
 |.obj a,v=>v=.ref a
 |.dc a,v=>v=.ref a/\∃ob φ,H a=some (.frz ob (.ext φ))/\ob.cls=.type "dict"
def Hvs(K:PySem.W.Frag)(H:Hp):List D->List V->Prop
 |[],vs=>vs=[]
 |d::ds,vs=>∃v r,vs=v::r/\Hv K H d v/\Hvs K H ds r
end
inductive GO where
 |lst (ds:List D)|pen|dct
 |gen (R:PySem.W.Frag->Addr->Hp->Prop)
def GO.plain:GO->Prop
 |.gen _=>False
 |_=>True
abbrev Gp:=Addr->Option GO
def upd3(G:Gp)(a:Addr)(o:GO):Gp:=fun b=>if b=a then some o else G b
theorem qabz{G:Gp}{a:Addr}{o:GO}:upd3 G a o a=some o:=by simp[upd3]
theorem q5z{G:Gp}{a b:Addr}{o:GO}(h:b≠a):upd3 G a o b=G b:=by simp[upd3,h]
theorem qnez{G:Gp}{a b:Addr}{o u:GO}(hn:G a=none)(h:G b=some u):upd3 G a o b=some u:=by
 rw[q5z]
 ·exact h
 ·intro e;rw[e,hn] at h;cases h
theorem qnfz{G:Gp}{a:Addr}{o u:GO}:upd3 (upd3 G a o) a u=upd3 G a u:=by
 funext b;unfold upd3;by_cases h:b=a
 ·rw[if_pos h,if_pos h]
 ·rw[if_neg h,if_neg h,if_neg h]
def PenOk(a b c:Int):Prop:=0≤a/\0≤c/\c<2147483647
def GOk(K:PySem.W.Frag)(H:Hp)(a:Addr):GO->Prop
 |.lst ds=>∃vs,H a=some (.lst vs)/\Hvs K H ds vs
 |.pen=>∃i j k,H a=some (.lst [.int i,.int j,.int k])/\PenOk i j k
 |.dct=>H a=some (.ext fun h=>∃o,h.get? a=some o/\o.cls=.type "dict")
 |.gen R=>R K a H/\(∃o,H a=some o/\(∀xs,o≠.tup xs)/\∀ob u,o≠.frz ob u)/\∀H1 H2:Hp,(∀b xs,H1 b=some (.tup xs)->H2 b=some (.tup xs))->(∀b o u,H1 b=some (.frz o u)->H2 b=some (.frz o u))->H2 a=H1 a->R K a H1->R K a H2
def RepG(K:PySem.W.Frag)(G:Gp)(H:Hp):Prop:=∀a o,G a=some o->GOk K H a o
structure Ext(H H':Hp):Prop where
 tup:∀b xs,H b=some (.tup xs)->H' b=some (.tup xs)
 frz:∀b o u,H b=some (.frz o u)->H' b=some (.frz o u)
theorem Ext.refl(H:Hp):Ext H H:=⟨fun _ _ h=>h,fun _ _ _ h=>h⟩
theorem Ext.trans{H H1 H2:Hp}(a:Ext H H1)(b:Ext H1 H2):Ext H H2:=⟨fun c x h=>b.tup c x (a.tup c x h),fun c o u h=>b.frz c o u (a.frz c o u h)⟩
structure Step(H:Hp)(G:Gp)(H':Hp)(G':Gp):Prop where
 fr:∀a o,H a=some o->G a=none->H' a=some o
 trk:∀a,H a≠none->H' a≠none
 new:∀a,G a=none->G' a≠none->H a=none
theorem Step.refl(H:Hp)(G:Gp):Step H G H G:=⟨fun _ _ h _=>h,fun _ h=>h,fun _ h1 h2=>absurd h1 h2⟩
theorem Step.trans{H H1 H2:Hp}{G G1 G2:Gp}(a:Step H G H1 G1)(b:Step H1 G1 H2 G2):Step H G H2 G2 where
 fr:=fun c o h n=>b.fr c o (a.fr c o h n) (by
  refine Classical.byContradiction fun q=>?_;rw[a.new c n q] at h;cases h)
 trk:=fun c h=>b.trk c (a.trk c h)
 new:=fun c n q=>by
  by_cases h1:G1 c=none
  ·have h2:=b.new c h1 q;refine Classical.byContradiction fun z=>?_;exact a.trk c z h2
  ·exact a.new c n h1
def Sub(G' G:Gp):Prop:=∀a o,G' a=some o->G a=some o
theorem Sub.refl(G:Gp):Sub G G:=fun _ _ h=>h
theorem Sub.trans{A B C:Gp}(a:Sub A B)(b:Sub B C):Sub A C:=fun x o h=>b x o (a x o h)
theorem Sub.upd{G:Gp}{a:Addr}{o:GO}(h:G a=none):Sub G (upd3 G a o):=fun _ _ e=>qnez h e
theorem Sub.of_none{G' G:Gp}(s:Sub G' G){a:Addr}(h:G a=none):G' a=none:=by
 cases e:G' a with
 |none=>rfl
 |some o=>
  rw[s a o e] at h;cases h
structure New(G:Gp)(p:Addr)(o:GO)(G':Gp):Prop where
 non:G p=none
 sub:Sub G G'
 at_:G' p=some o
theorem New.mk'{G:Gp}{p:Addr}{o:GO}(h:G p=none):New G p o (upd3 G p o):=⟨h,Sub.upd h,qabz⟩
theorem Step.sub{H:Hp}{G G':Gp}(s:Sub G' G):Step H G H G':=⟨fun _ _ h _=>h,fun _ h=>h,fun a n q=>by
 exact absurd (s.of_none n) q⟩
section
variable {K:PySem.W.Frag} {H H':Hp} {G G':Gp}
theorem RepG.sub(R:RepG K G H)(s:Sub G' G):RepG K G' H:=fun a o e=>R a o (s a o e)
theorem GOk.mut{a:Addr}{o:GO}(h:GOk K H a o):∃o,H a=some o/\(∀xs,o≠.tup xs)/\∀ob u,o≠.frz ob u:=by
 cases o with
 |lst ds=>obtain⟨vs,e,_⟩:=h;exact⟨_,e,fun _=>nofun,fun _ _=>nofun⟩
 |pen=>obtain⟨i,j,k,e,_⟩:=h;exact⟨_,e,fun _=>nofun,fun _ _=>nofun⟩
 |dct=>exact⟨_,h,fun _=>nofun,fun _ _=>nofun⟩
 |gen R=>exact h.2.1
theorem RepG.outT(R:RepG K G H){a:Addr}{xs:List V}(e:H a=some (.tup xs)):G a=none:=by
 cases q:G a with
 |none=>rfl
 |some u=>
  obtain⟨o,z,h1,_⟩:=(R a u q).mut;rw[e] at z;exact absurd (Option.some.inj z).symm (h1 xs)
theorem RepG.outF(R:RepG K G H){a:Addr}{ob:Obj}{u:HO}(e:H a=some (.frz ob u)):G a=none:=by
 cases q:G a with
 |none=>rfl
 |some g=>
  obtain⟨o,z,_,h1⟩:=(R a g q).mut;rw[e] at z;exact absurd (Option.some.inj z).symm (h1 ob u)
theorem RepG.free(R:RepG K G H){a:Addr}(e:H a=none):G a=none:=by
 cases q:G a with
 |none=>rfl
 |some u=>
  obtain⟨o,z,_⟩:=(R a u q).mut;rw[e] at z;cases z
theorem Step.ext(S:Step H G H' G')(R:RepG K G H):Ext H H':=⟨fun b xs h=>S.fr b _ h (R.outT h),fun b o u h=>S.fr b _ h (R.outF h)⟩
theorem SqT.ext{a:Addr}{xs:List V}(E:Ext H H')(h:SqT K H a xs):SqT K H' a xs:=by
 rcases h with (h|⟨o,h⟩)|h
 ·exact .inl (.inl (E.tup _ _ h))
 ·exact .inl (.inr ⟨o,E.frz _ _ _ h⟩)
 ·exact .inr h
theorem SqF.ext{a:Addr}{xs:List V}(E:Ext H H')(h:SqF K H a xs):SqF K H' a xs:=by
 rcases h with⟨o,h⟩|h
 ·exact .inl ⟨o,E.frz _ _ _ h⟩
 ·exact .inr h
mutual
theorem Hv.ext(E:Ext H H'):∀{d:D} {v:V},Hv K H d v->Hv K H' d v
 |.non,_,h=>by simpa [Hv] using h
 |.bl _,_,h=>by simpa [Hv] using h
 |.int _,_,h=>by simpa [Hv] using h
 |.str _,_,h=>by simpa [Hv] using h
 |.obj _,_,h=>by simpa [Hv] using h
 |.dc a,v,h=>by
  unfold Hv at h ⊢;obtain⟨e,ob,φ,q,c⟩:=h;exact⟨e,ob,φ,E.frz _ _ _ q,c⟩
 |.tup ds,v,h=>by
  unfold Hv at h ⊢;obtain⟨a,vs,e,q,r⟩:=h;exact⟨a,vs,e,SqT.ext E q,Hvs.ext E r⟩
 |.scr ds,v,h=>by
  unfold Hv at h ⊢;obtain⟨a,vs,e,q,r⟩:=h;exact⟨a,vs,e,SqF.ext E q,Hvs.ext E r⟩
theorem Hvs.ext(E:Ext H H'):∀{ds:List D} {vs:List V},Hvs K H ds vs->Hvs K H' ds vs
 |[],_,h=>by simpa [Hvs] using h
 |d::ds,vs,h=>by
  unfold Hvs at h ⊢;obtain⟨v,r,e,q,z⟩:=h;exact⟨v,r,e,Hv.ext E q,Hvs.ext E z⟩
end
theorem Hvs.nil:Hvs K H [] []:=by simp[Hvs]
theorem Hvs.cons{d:D}{v:V}{ds:List D}{vs:List V}(h:Hv K H d v)(r:Hvs K H ds vs):Hvs K H (d::ds) (v::vs):=by
 unfold Hvs;exact⟨v,vs,rfl,h,r⟩
theorem Hvs.inv{d:D}{ds:List D}{vs:List V}(h:Hvs K H (d::ds) vs):∃v r,vs=v::r/\Hv K H d v/\Hvs K H ds r:=by
 unfold Hvs at h;exact h
theorem Hvs.inv0{vs:List V}(h:Hvs K H [] vs):vs=[]:=by
 unfold Hvs at h;exact h
theorem Hvs.length:∀{ds:List D} {vs:List V},Hvs K H ds vs->ds.length=vs.length
 |[],_,h=>by rw[h.inv0];rfl
 |d::ds,vs,h=>by
  obtain⟨v,r,rfl,_,q⟩:=h.inv;simp[q.length]
theorem Hvs.get:∀{ds:List D} {vs:List V} {i:Nat} {d:D},Hvs K H ds vs->ds[i]?=some d->∃v,vs[i]?=some v/\Hv K H d v
 |[],_,_,_,_,e=>by simp at e
 |x::ds,vs,0,d,h,e=>by
  obtain⟨v,r,rfl,q,_⟩:=h.inv;simp at e;subst e;exact⟨v,rfl,q⟩
 |x::ds,vs,i+1,d,h,e=>by
  obtain⟨v,r,rfl,_,q⟩:=h.inv;simp at e;obtain⟨u,e2,q2⟩:=q.get e;exact⟨u,by simpa using e2,q2⟩
theorem Hvs.append:∀{ds es:List D} {vs us:List V},Hvs K H ds vs->Hvs K H es us->Hvs K H (ds++es) (vs++us)
 |[],es,_,_,h,q=>by rw[h.inv0];exact q
 |d::ds,es,vs,us,h,q=>by
  obtain⟨v,r,rfl,z,w⟩:=h.inv;exact .cons z (w.append q)
theorem Hvs.drop:∀{ds:List D} {vs:List V} (n:Nat),Hvs K H ds vs->Hvs K H (ds.drop n) (vs.drop n)
 |ds,vs,0,h=>h
 |[],_,n+1,h=>by rw[h.inv0];exact .nil
 |d::ds,vs,n+1,h=>by
  obtain⟨v,r,rfl,_,q⟩:=h.inv;exact q.drop n
theorem Hvs.take:∀{ds:List D} {vs:List V} (n:Nat),Hvs K H ds vs->Hvs K H (ds.take n) (vs.take n)
 |ds,vs,0,h=>by simpa using Hvs.nil
 |[],_,n+1,h=>by rw[h.inv0];exact .nil
 |d::ds,vs,n+1,h=>by
  obtain⟨v,r,rfl,q,z⟩:=h.inv;exact .cons q (z.take n)
theorem Hvs.set:∀{ds:List D} {vs:List V} (i:Nat) {d:D} {v:V},Hvs K H ds vs->Hv K H d v->Hvs K H (ds.set i d) (vs.set i v)
 |[],_,i,d,v,h,_=>by rw[h.inv0];exact .nil
 |x::ds,vs,0,d,v,h,q=>by
  obtain⟨u,r,rfl,_,z⟩:=h.inv;exact .cons q z
 |x::ds,vs,i+1,d,v,h,q=>by
  obtain⟨u,r,rfl,y,z⟩:=h.inv;exact .cons y (z.set i q)
theorem Hvs.erase:∀{ds:List D} {vs:List V} (i:Nat),Hvs K H ds vs->Hvs K H (ds.eraseIdx i) (vs.eraseIdx i)
 |[],_,i,h=>by rw[h.inv0];exact .nil
 |x::ds,vs,0,h=>by
  obtain⟨u,r,rfl,_,z⟩:=h.inv;exact z
 |x::ds,vs,i+1,h=>by
  obtain⟨u,r,rfl,y,z⟩:=h.inv;exact .cons y (z.erase i)
theorem Hvs.rep{ds:List D}{vs:List V}(h:Hvs K H ds vs):∀k:Nat,Hvs K H (List.replicate k ds).flatten (List.replicate k vs).flatten
 |0=>.nil
 |k+1=>by
  simp only[List.replicate_succ,List.flatten_cons];exact h.append (h.rep k)
theorem Hvs.ints:∀(ns:List Int),Hvs K H (ns.map D.int) (ns.map V.int)
 |[]=>.nil
 |n::ns=>.cons (by simp[Hv]) (Hvs.ints ns)
theorem Ext.laid{p:Addr}{o:HO}(h:H p=none):Ext H (upd H p o):=⟨fun b xs e=>by rw[qfz (qafz e h)];exact e,fun b x u e=>by rw[qfz (qafz e h)];exact e⟩
theorem GOk.ext{a:Addr}{o:GO}(h:GOk K H a o)(E:Ext H H')(e:H' a=H a):GOk K H' a o:=by
 cases o with
 |lst ds=>
  obtain⟨vs,z,q⟩:=h;exact⟨vs,e.trans z,q.ext E⟩
 |pen=>
  obtain⟨i,j,k,z,q⟩:=h;exact⟨i,j,k,e.trans z,q⟩
 |dct=>exact e.trans h
 |gen R=>
  obtain⟨h1,h2,h3⟩:=h;exact⟨h3 H H' E.tup E.frz e h1,by rw[e];exact h2,h3⟩
theorem RepG.laid{p:Addr}{o:HO}(R:RepG K G H)(h:H p=none):RepG K G (upd H p o):=fun a u e=>by
 have hne:a≠p:=fun z=>by
  rw[z,R.free h] at e;cases e
 exact (R a u e).ext (Ext.laid h) (qfz hne)
theorem RepG.laidG{p:Addr}{o:HO}{g:GO}(R:RepG K G H)(h:H p=none)(new:GOk K (upd H p o) p g):RepG K (upd3 G p g) (upd H p o):=fun a u e=>by
 by_cases z:a=p
 ·subst z;rw[qabz] at e;cases e;exact new
 ·rw[q5z z] at e;exact (R.laid h) a u e
theorem Step.laid{p:Addr}{o:HO}(h:H p=none):Step H G (upd H p o) G:=⟨fun a u e _=>by rw[qfz (qafz e h)];exact e,fun a q=>by
 by_cases z:a=p
 ·rw[z,qnz];simp
 ·rw[qfz z];exact q,fun a n q=>absurd n q⟩
theorem Step.laidG{p:Addr}{o:HO}{g:GO}(h:H p=none):Step H G (upd H p o) (upd3 G p g):=⟨(Step.laid (G:=G) h).fr,(Step.laid (G:=G) h).trk,fun a n q=>by
 by_cases z:a=p
 ·rw[z];exact h
 ·rw[q5z z] at q;exact absurd n q⟩
theorem qngz{p b:Addr}{xs ys:List V}(h:H p=some (.lst xs))(e:H b=some (.tup ys)):b≠p:=fun z=>by
 rw[z,h] at e;cases e
theorem qnhz{p b:Addr}{xs:List V}{o:Obj}{u:HO}(h:H p=some (.lst xs))(e:H b=some (.frz o u)):b≠p:=fun z=>by
 rw[z,h] at e;cases e
theorem Ext.wrote{p:Addr}{xs:List V}{o:HO}(h:H p=some (.lst xs)):Ext H (upd H p o):=
 ⟨fun b ys e=>by rw[qfz (qngz h e)];exact e,fun b x u e=>by rw[qfz (qnhz h e)];exact e⟩
theorem RepG.wrote{p:Addr}{xs:List V}{o:HO}{g:GO}(R:RepG K G H)(h:H p=some (.lst xs))(new:GOk K (upd H p o) p g):RepG K (upd3 G p g) (upd H p o):=fun a u e=>by
 by_cases z:a=p
 ·subst z;rw[qabz] at e;cases e;exact new
 ·rw[q5z z] at e;exact (R a u e).ext (Ext.wrote h) (qfz z)
theorem RepG.newL{p:Addr}{xs:List V}{ds:List D}(R:RepG K G H)(h:H p=none)(hv:Hvs K H ds xs):RepG K (upd3 G p (.lst ds)) (upd H p (.lst xs)):=R.laidG h ⟨xs,qnz,hv.ext (.laid h)⟩
theorem RepG.wroteL{p:Addr}{xs ys:List V}{ds:List D}(R:RepG K G H)(e:H p=some (.lst xs))(hv:Hvs K H ds ys):RepG K (upd3 G p (.lst ds)) (upd H p (.lst ys)):=R.wrote e ⟨ys,qnz,hv.ext (.wrote e)⟩
theorem Step.wrote{p:Addr}{o:HO}{g u:GO}(h:G p=some u):Step H G (upd H p o) (upd3 G p g):=⟨fun a x e n=>by
 have hne:a≠p:=fun z=>by
  rw[z,h] at n;cases n
 rw[qfz hne];exact e,fun a q=>by
 by_cases z:a=p
 ·rw[z,qnz];simp
 ·rw[qfz z];exact q,fun a n q=>by
 have hne:a≠p:=fun z=>by
  rw[z,h] at n;cases n
 rw[q5z hne] at q;exact absurd n q⟩
end
abbrev S3:=List (Option D)
def at3:S3->Nat->Option D
 |[],_=>none
 |x::_,0=>x
 |_::r,n+1=>at3 r n
def set3:S3->Nat->D->S3
 |[],_,_=>[]
 |_::r,0,d=>some d::r
 |x::r,n+1,d=>x::set3 r n d
structure RepS(K:PySem.W.Frag)(τ:S3)(σ:L2.St)(H:Hp):Prop where
 len:τ.length=σ.length
 at_:∀(i:Nat) d,at3 τ i=some d->∃v,σ[i]?=some (some v)/\Hv K H d v
theorem qg0z:∀(τ:S3) (i:Nat) (d:D),(set3 τ i d).length=τ.length
 |[],_,_=>rfl
 |_::r,0,d=>rfl
 |x::r,n+1,d=>by simp[set3,qg0z r n d]
theorem qg1z:∀(τ:S3) (i j:Nat) (d:D),at3 (set3 τ i d) j=if j=i/\i<τ.length then some d else at3 τ j
 |[],i,j,d=>by simp[set3,at3]
 |x::r,0,0,d=>by simp[set3,at3]
 |x::r,0,j+1,d=>by simp[set3,at3]
 |x::r,i+1,0,d=>by simp[set3,at3]
 |x::r,i+1,j+1,d=>by
  simp only[set3,at3,qg1z r i j d,List.length_cons];by_cases h:j=i/\i<r.length
  ·rw[if_pos h,if_pos (by lia)]
  ·rw[if_neg h,if_neg (by lia)]
section
variable {K:PySem.W.Frag} {τ:S3} {σ:L2.St} {H H':Hp}
theorem RepS.ext(R:RepS K τ σ H)(E:Ext H H'):RepS K τ σ H':=⟨R.len,fun i d h=>by
 obtain⟨v,e,q⟩:=R.at_ i d h;exact⟨v,e,q.ext E⟩⟩
theorem RepS.set(R:RepS K τ σ H){i:Nat}{d:D}{v:V}(h:Hv K H d v):RepS K (set3 τ i d) (σ.set i (some v)) H:=⟨by rw[qg0z,List.length_set];exact R.len,fun j e q=>by
 rw[qg1z] at q;by_cases c:j=i/\i<τ.length
 ·rw[if_pos c] at q;cases q;refine⟨v,?_,h⟩;rw[c.1,List.getElem?_set_self (by rw[←R.len];exact c.2)]
 ·rw[if_neg c] at q;obtain⟨u,e1,e2⟩:=R.at_ j e q;refine⟨u,?_,e2⟩;by_cases hij:i=j
  ·subst hij;have:σ.length≤i:=by
    have:=R.len;have:¬i<τ.length:=fun z=>c ⟨rfl,z⟩;lia
   rw[List.getElem?_eq_none_iff.mpr this] at e1;cases e1
  ·rw[List.getElem?_set_ne hij];exact e1⟩
end
def start3:List Str->List D->S3
 |[],_=>[]
 |_::N,[]=>none::start3 N []
 |_::N,d::ds=>some d::start3 N ds
theorem qebz:∀(N:List Str) (ds:List D),(start3 N ds).length=N.length
 |[],_=>rfl
 |_::N,[]=>by simp[start3,qebz N []]
 |_::N,d::ds=>by simp[start3,qebz N ds]
theorem qg2z:∀(N:List Str) (i:Nat),at3 (start3 N []) i=none
 |[],i=>rfl
 |_::N,0=>rfl
 |_::N,i+1=>qg2z N i
theorem qg3z:∀(N:List Str) (ds:List D) (i:Nat) (d:D),at3 (start3 N ds) i=some d->ds[i]?=some d
 |[],_,_,_,h=>by cases h
 |_::N,[],i,d,h=>by
  rw[qg2z] at h;cases h
 |_::N,x::ds,0,d,h=>by
  simp only[start3,at3] at h;simpa using h
 |_::N,x::ds,i+1,d,h=>by
  simp only[start3,at3] at h;simpa using qg3z N ds i d h
theorem RepS.start{K:PySem.W.Frag}{N:List Str}{ds:List D}{vs:List V}{H:Hp}(h:Hvs K H ds vs)(hl:vs.length≤N.length):RepS K (start3 N ds) (L2.start N vs) H:=⟨by
 rw[qebz];simp[L2.start];lia,fun i d e=>by
 obtain⟨v,e1,q⟩:=h.get (qg3z N ds i d e);refine⟨v,?_,q⟩;unfold L2.start;have hi:i<vs.length:=(List.getElem?_eq_some_iff.mp e1).1;rw[List.getElem?_append_left (by simpa using hi),List.getElem?_map,e1];rfl⟩
abbrev V3:=D->Gp->Prop
abbrev TE3:=S3->Gp->V3->Prop
abbrev TT3:=S3->Gp->(Bool->Gp->Prop)->Prop
abbrev TA3:=S3->Gp->(List D->Gp->Prop)->Prop
structure Ends3 where
 nx:S3->Gp->Prop
 rt:V3
 bk:S3->Gp->Prop:=fun _ _=>False
 ct:S3->Gp->Prop:=fun _ _=>False
abbrev TS3:=Ends3->S3->Gp->Prop
def low(K:PySem.W.Frag)(t:TE3):TE:=fun σ H Q=>∃τ G Q3,RepS K τ σ H/\RepG K G H/\t τ G Q3/\∀v H' d G',Hv K H' d v->Step H G H' G'->RepG K G' H'->Q3 d G'->Q v H'
def lowT(K:PySem.W.Frag)(t:TT3):TT:=fun σ H Q=>∃τ G Q3,RepS K τ σ H/\RepG K G H/\t τ G Q3/\∀b H' G',Step H G H' G'->RepG K G' H'->Q3 b G'->Q b H'
def lowA(K:PySem.W.Frag)(t:TA3):TA:=fun σ H Q=>∃τ G Q3,RepS K τ σ H/\RepG K G H/\t τ G Q3/\∀vs H' ds G',Hvs K H' ds vs->Step H G H' G'->RepG K G' H'->Q3 ds G'->Q vs H'
structure EndsLow(K:PySem.W.Frag)(H:Hp)(G:Gp)(D3:Ends3)(D2:Ends):Prop where
 nx:∀τ σ G' H',RepS K τ σ H'->Step H G H' G'->RepG K G' H'->D3.nx τ G'->D2.nx σ H'
 bk:∀τ σ G' H',RepS K τ σ H'->Step H G H' G'->RepG K G' H'->D3.bk τ G'->D2.bk σ H'
 ct:∀τ σ G' H',RepS K τ σ H'->Step H G H' G'->RepG K G' H'->D3.ct τ G'->D2.ct σ H'
 rt:∀d v G' H',Hv K H' d v->Step H G H' G'->RepG K G' H'->D3.rt d G'->D2.rt v H'
theorem EndsLow.step{K:PySem.W.Frag}{H H1:Hp}{G G1:Gp}{D3:Ends3}{D2:Ends}(E:EndsLow K H G D3 D2)(S:Step H G H1 G1):EndsLow K H1 G1 D3 D2:=
 ⟨fun τ σ G' H' a b c q=>E.nx τ σ G' H' a (S.trans b) c q,fun τ σ G' H' a b c q=>E.bk τ σ G' H' a (S.trans b) c q,fun τ σ G' H' a b c q=>E.ct τ σ G' H' a (S.trans b) c q,fun d v G' H' a b c q=>E.rt d v G' H' a (S.trans b) c q⟩
def lowS(K:PySem.W.Frag)(t:TS3):TS:=fun D2 σ H=>∃τ G D3,RepS K τ σ H/\RepG K G H/\t D3 τ G/\EndsLow K H G D3 D2
abbrev PE3(X:Cx)(e:Expr)(t:TE3):Prop:=PE X e (low X.K t)
abbrev PT3(X:Cx)(e:Expr)(t:TT3):Prop:=PT X e (lowT X.K t)
abbrev PW3(X:Cx)(e:Expr)(t:TT3):Prop:=PW X e (lowT X.K t)
abbrev PA3(X:Cx)(es:List Expr)(t:TA3):Prop:=PA X es (lowA X.K t)
abbrev PS3(X:Cx)(st:Stmt)(t:TS3):Prop:=PS X st (lowS X.K t)
abbrev PSs3(X:Cx)(st:List Stmt)(t:TS3):Prop:=PSs X st (lowS X.K t)
section
variable {X:Cx} {e:Expr}
theorem qoz{t t':TE}(h:PE X e t)(f:∀σ H Q,t' σ H Q->t σ H Q):PE X e t':=fun pins s σ H Q I q=>h pins s σ H Q I (f σ H Q q)
theorem qecz{t t':TT}(h:PT X e t)(f:∀σ H Q,t' σ H Q->t σ H Q):PT X e t':=fun pins s σ H Q I q=>h pins s σ H Q I (f σ H Q q)
theorem pw_of{t t':TT}(h:PW X e t)(f:∀σ H Q,t' σ H Q->t σ H Q):PW X e t':=fun w pins s σ H Q I q=>h w pins s σ H Q I (f σ H Q q)
theorem qg4z{es:List Expr}{t t':TA}(h:PA X es t)(f:∀σ H Q,t' σ H Q->t σ H Q):PA X es t':=fun p pins s σ H Q I q=>h p pins s σ H Q I (f σ H Q q)
theorem qaxz{st:Stmt}{t t':TS}(h:PS X st t)(f:∀D σ H,t' D σ H->t D σ H):PS X st t':=fun pins s σ H Q I q=>h pins s σ H Q I (f Q σ H q)
theorem qg5z{st:List Stmt}{t t':TS}(h:PSs X st t)(f:∀D σ H,t' D σ H->t D σ H):PSs X st t':=fun pins s σ H Q I q=>h pins s σ H Q I (f Q σ H q)
end
def Br(b:Bool)(A B:Prop):Prop:=(b=true->A)/\(b=false->B)
theorem Br.ite{b:Bool}{A B A' B':Prop}(h:Br b A B)(f:A->A')(g:B->B'):if b=true then A' else B':=by
 cases b with
 |true=>rw[if_pos rfl];exact f (h.1 rfl)
 |false=>rw[if_neg Bool.false_ne_true];exact g (h.2 rfl)
section
variable {X:Cx} {a b e c:Expr} {ta tb te:TE3} {tA tB:TT3} {pos:Pos} {es rest:List Expr}
def eC(d:D):TE3:=fun _ G Q=>Q d G
def eVar(i:Nat):TE3:=fun τ G Q=>match at3 τ i with
 |some d=>Q d G
 |none=>False
theorem qniz{i:Nat}{x:Str}(h:PE X (.Name x pos) (tVar i)):PE3 X (.Name x pos) (eVar i):=qoz h fun σ H Q ⟨τ,G,Q3,RS,RG,h,k⟩=>by
 unfold eVar at h;cases hd:at3 τ i with
 |none=>rw[hd] at h;exact h.elim
 |some d=>
  rw[hd] at h;obtain⟨v,e1,e2⟩:=RS.at_ i d hd;exact⟨v,e1,k v H d G e2 (.refl H G) RG h⟩
theorem qb9z{v:V}{d:D}(h:PE X e (tC v))(r:∀H,Hv X.K H d v):PE3 X e (eC d):=qoz h fun σ H Q ⟨τ,G,Q3,RS,RG,h,k⟩=>k v H d G (r H) (.refl H G) RG h
theorem qnjz{i:Int}{j}:PE3 X (.Constant (.int i) j pos) (eC (.int i)):=qb9z qk4z fun H=>by simp[Hv]
theorem e_bl{i:Bool}{j}:PE3 X (.Constant (.bool i) j pos) (eC (.bl i)):=qb9z qk5z fun H=>by simp[Hv]
theorem qnkz{j}:PE3 X (.Constant .none j pos) (eC .non):=qb9z qk6z fun H=>by simp[Hv]
theorem qnlz{x:Str}{j}:PE3 X (.Constant (.str x) j pos) (eC (.str x)):=qb9z qk7z fun H=>by simp[Hv]
theorem qnmz{x:Str}{i:Int}{u:Tok}(hm:X.mg x=some (.int i u))(hg:Gl X x:=by rfl)(hd:(x==("__debug__":Str))=false:=by decide):PE3 X (.Name x pos) (eC (.int i)):=qb9z (v:=.int i) (qgfz hg hm ⟨u,rfl⟩ hd) fun H=>by simp[Hv]
abbrev R3:=D->D->Gp->V3->Prop
def eOp(r:R3)(ta tb:TE3):TE3:=fun τ G Q=>ta τ G fun x G1=>tb τ G1 fun y G2=>r x y G2 Q
def LowR(K:PySem.W.Frag)(r:R3)(r2:R2):Prop:=∀x y vx vy G H Q3 Q,Hv K H x vx->Hv K H y vy->RepG K G H->r x y G Q3->(∀v H' d G',Hv K H' d v->Step H G H' G'->RepG K G' H'->Q3 d G'->Q v H')->r2 vx vy H Q
theorem qc7z{K:PySem.W.Frag}{r:R3}{r2:R2}(L:LowR K r r2){σ:L2.St}{H:Hp}{Q:VK}(h:low K (eOp r ta tb) σ H Q):tOp r2 (low K ta) (low K tb) σ H Q:=by
 obtain⟨τ,G,Q3,RS,RG,h,k⟩:=h;refine⟨τ,G,_,RS,RG,h,fun v1 H1 d1 G1 h1 S1 R1 q1=>?_⟩;refine⟨τ,G1,_,RS.ext (S1.ext RG),R1,q1,fun v2 H2 d2 G2 h2 S2 R2 q2=>?_⟩;exact L _ _ _ _ _ _ _ _ (h1.ext (S2.ext R1)) h2 R2 q2 fun v H' d G' z1 z2 z3 z4=>k v H' d G' z1 ((S1.trans S2).trans z2) z3 z4
theorem e_op{op:Operator}{r:R3}{r2:R2}(L:LowR X.K r r2)(ho:OpR X (binaryOp op) r2)(ha:PE3 X a ta)(hb:PE3 X b tb):PE3 X (.BinOp a op b pos) (eOp r ta tb):=
 qoz (qlyz ho ha hb) fun _ _ _ h=>qc7z L h
theorem qnnz{op:CmpOp}{r:R3}{r2:R2}(L:LowR X.K r r2)(ho:OpR X (compareOp op) r2)(ha:PE3 X a ta)(hb:PE3 X b tb)(hm:behindInMarks op b=false):PE3 X (.Compare a [op] [b] pos) (eOp r ta tb):=
 qoz (ql5z ho ha hb hm) fun _ _ _ h=>qc7z L h
def eTest(t:TE3):TT3:=fun τ G Q=>t τ G fun x G1=>match x with
 |.bl k=>Q k G1
 |_=>False
theorem qg6z{K:PySem.W.Frag}{t:TE3}{σ:L2.St}{H:Hp}{Q:Bool->Hp->Prop}(h:lowT K (eTest t) σ H Q):tTest (low K t) σ H Q:=by
 obtain⟨τ,G,Q3,RS,RG,h,k⟩:=h;refine⟨τ,G,_,RS,RG,h,fun v H' d G' h1 h2 h3 h4=>?_⟩;cases d with
 |bl c=>
  unfold Hv at h1;exact⟨c,h1,k c H' G' h2 h3 h4⟩
 |_=>exact h4.elim
theorem qnoz{op:CmpOp}{r:R3}{r2:R2}(L:LowR X.K r r2)(ho:OpR X (compareOp op) r2)(ha:PE3 X a ta)(hb:PE3 X b tb)(hm:behindInMarks op b=false):PT3 X (.Compare a [op] [b] pos) (eTest (eOp r ta tb)):=
 qecz (ql6z ho ha hb hm) fun σ H Q h=>by
  obtain⟨τ,G,Q3,RS,RG,h,k⟩:=qg6z h;exact qc7z L ⟨τ,G,Q3,RS,RG,h,k⟩
theorem qnpz(h:PE3 X a ta)(he:∀whole,isTrue a X.env whole=(do let v ←whole;standAt a.pos;holding [v] (truthy v)):=by intro _;rfl):PT3 X a (eTest ta):=
 qecz (qmaz h he) fun σ H Q h=>by
  obtain⟨τ,G,Q3,RS,RG,h,k⟩:=qg6z h;refine⟨τ,G,Q3,RS,RG,h,fun v H' d G' h1 h2 h3 h4=>?_⟩;obtain⟨c,rfl,q⟩:=k v H' d G' h1 h2 h3 h4;exact⟨c,rfl,q⟩
def eChain(r r':R3)(ta tb tc:TE3):TE3:=fun τ G Q=>ta τ G fun x G1=>tb τ G1 fun y G2=>r x y G2 fun z G3=>match z with
 |.bl k=>Br k (tc τ G3 fun w G4=>r' y w G4 Q) (Q (.bl false) G3)
 |_=>False
theorem qnqz{K:PySem.W.Frag}{r r':R3}{r2 r2':R2}(L:LowR K r r2)(L':LowR K r' r2'){tc:TE3}{σ:L2.St}{H:Hp}{Q:VK}(h:low K (eChain r r' ta tb tc) σ H Q):tChain r2 r2' (low K ta) (low K tb) (low K tc) σ H Q:=by
 obtain⟨τ,G,Q3,RS,RG,h,k⟩:=h;refine⟨τ,G,_,RS,RG,h,fun v1 H1 d1 G1 h1 S1 R1 q1=>?_⟩;refine⟨τ,G1,_,RS.ext (S1.ext RG),R1,q1,fun v2 H2 d2 G2 h2 S2 R2 q2=>?_⟩;refine L _ _ _ _ _ _ _ _ (h1.ext (S2.ext R1)) h2 R2 q2 fun v H3 d G3 z1 S3 R3 z4=>?_;cases d with
 |bl c=>
  unfold Hv at z1;refine⟨c,z1,Br.ite z4 (fun q=>?_) fun q=>?_⟩
  ·refine⟨τ,G3,_,((RS.ext (S1.ext RG)).ext (S2.ext R1)).ext (S3.ext R2),R3,q,fun v4 H4 d4 G4 h4 S4 R4 q4=>?_⟩;exact L' _ _ _ _ _ _ _ _ ((h2.ext (S3.ext R2)).ext (S4.ext R3)) h4 R4 q4 fun v H' d G' y1 y2 y3 y4=>k v H' d G' y1 ((((S1.trans S2).trans S3).trans S4).trans y2) y3 y4
  ·exact k _ H3 (.bl false) G3 (by simp[Hv]) ((S1.trans S2).trans S3) R3 q
 |_=>exact z4.elim
theorem qnrz{op op':CmpOp}{r r':R3}{r2 r2':R2}{tc:TE3}(L:LowR X.K r r2)(L':LowR X.K r' r2')(h:PE X e (tChain r2 r2' (low X.K ta) (low X.K tb) (low X.K tc))):PE3 X e (eChain r r' ta tb tc):=
 qoz h fun _ _ _ h=>qnqz L L' h
def eUn(r:D->Gp->V3->Prop)(ta:TE3):TE3:=fun τ G Q=>ta τ G fun x G1=>r x G1 Q
def rNeg3:D->Gp->V3->Prop:=fun x G Q=>match x with
 |.int i=>Q (.int (-i)) G
 |_=>False
theorem qnsz(ha:PE3 X a ta):PE3 X (.UnaryOp .USub a pos) (eUn rNeg3 ta):=qoz (qlzz ql1z ha) fun σ H Q h=>by
 obtain⟨τ,G,Q3,RS,RG,h,k⟩:=h;refine⟨τ,G,_,RS,RG,h,fun v H' d G' h1 h2 h3 h4=>?_⟩;cases d with
 |int i=>
  unfold Hv at h1;exact⟨i,h1,k _ H' (.int (-i)) G' (by simp[Hv]) h2 h3 h4⟩
 |_=>exact h4.elim
def eAnd(t u:TT3):TT3:=fun τ G Q=>t τ G fun c G1=>Br c (u τ G1 Q) (Q false G1)
def eOr(t u:TT3):TT3:=fun τ G Q=>t τ G fun c G1=>Br c (Q true G1) (u τ G1 Q)
def eNot(t:TT3):TT3:=fun τ G Q=>t τ G fun c G1=>Q (!c) G1
theorem qntz(ha:PT3 X a tA):PW3 X (.BoolOp .And [a] pos) tA:=pw_and1 ha
theorem qnuz(ha:PT3 X a tA):PW3 X (.BoolOp .Or [a] pos) tA:=pw_or1 ha
theorem qnvz(ha:PT3 X a tA)(hb:PW3 X (.BoolOp .And (b::rest) pos) tB):PW3 X (.BoolOp .And (a::b::rest) pos) (eAnd tA tB):=pw_of (pw_and ha hb) fun σ H Q h=>by
 obtain⟨τ,G,Q3,RS,RG,h,k⟩:=h;refine⟨τ,G,_,RS,RG,h,fun c H1 G1 S1 R1 q1=>?_⟩;exact Br.ite q1 (fun q=>⟨τ,G1,Q3,RS.ext (S1.ext RG),R1,q,fun b' H' G' y1 y2 y3=>k b' H' G' (S1.trans y1) y2 y3⟩) fun q=>k false H1 G1 S1 R1 q
theorem qnwz(ha:PT3 X a tA)(hb:PW3 X (.BoolOp .Or (b::rest) pos) tB):PW3 X (.BoolOp .Or (a::b::rest) pos) (eOr tA tB):=pw_of (pw_or ha hb) fun σ H Q h=>by
 obtain⟨τ,G,Q3,RS,RG,h,k⟩:=h;refine⟨τ,G,_,RS,RG,h,fun c H1 G1 S1 R1 q1=>?_⟩;exact Br.ite q1 (fun q=>k true H1 G1 S1 R1 q) fun q=>⟨τ,G1,Q3,RS.ext (S1.ext RG),R1,q,fun b' H' G' y1 y2 y3=>k b' H' G' (S1.trans y1) y2 y3⟩
theorem tt_w(h:PW3 X a tA):PT3 X a tA:=h.pt
theorem qnxz(ha:PT3 X a tA):PT3 X (.UnaryOp .Not a pos) (eNot tA):=qecz (qk8z ha) fun σ H Q h=>by
 obtain⟨τ,G,Q3,RS,RG,h,k⟩:=h;exact⟨τ,G,_,RS,RG,h,fun c H1 G1 S1 R1 q1=>k _ H1 G1 S1 R1 q1⟩
def eAndV(ta tb:TE3):TE3:=fun τ G Q=>ta τ G fun x G1=>match x with
 |.bl c=>Br c (tb τ G1 Q) (Q (.bl false) G1)
 |_=>False
def eOrV(ta tb:TE3):TE3:=fun τ G Q=>ta τ G fun x G1=>match x with
 |.bl c=>Br c (Q (.bl true) G1) (tb τ G1 Q)
 |_=>False
def eNotV(ta:TE3):TE3:=fun τ G Q=>ta τ G fun x G1=>match x with
 |.bl c=>Q (.bl (!c)) G1
 |_=>False
theorem qnyz{op}(h:PE3 X a ta):PE3 X (.BoolOp op [a] pos) ta:=qk9z h
theorem qnzz(ha:PE3 X a ta)(hb:PE3 X (.BoolOp .And (b::rest) pos) tb):PE3 X (.BoolOp .And (a::b::rest) pos) (eAndV ta tb):=qoz (qlaz ha hb) fun σ H Q h=>by
 obtain⟨τ,G,Q3,RS,RG,h,k⟩:=h;refine⟨τ,G,_,RS,RG,h,fun v H1 d G1 h1 S1 R1 q1=>?_⟩;cases d with
 |bl c=>
  unfold Hv at h1;exact⟨c,h1,Br.ite q1 (fun q=>⟨τ,G1,Q3,RS.ext (S1.ext RG),R1,q,fun b' H' d' G' y0 y1 y2 y3=>k b' H' d' G' y0 (S1.trans y1) y2 y3⟩) fun q=>k _ H1 (.bl false) G1 (by simp[Hv]) S1 R1 q⟩
 |_=>exact q1.elim
theorem e_or(ha:PE3 X a ta)(hb:PE3 X (.BoolOp .Or (b::rest) pos) tb):PE3 X (.BoolOp .Or (a::b::rest) pos) (eOrV ta tb):=qoz (qlbz ha hb) fun σ H Q h=>by
 obtain⟨τ,G,Q3,RS,RG,h,k⟩:=h;refine⟨τ,G,_,RS,RG,h,fun v H1 d G1 h1 S1 R1 q1=>?_⟩;cases d with
 |bl c=>
  unfold Hv at h1;exact⟨c,h1,Br.ite q1 (fun q=>k _ H1 (.bl true) G1 (by simp[Hv]) S1 R1 q) fun q=>⟨τ,G1,Q3,RS.ext (S1.ext RG),R1,q,fun b' H' d' G' y0 y1 y2 y3=>k b' H' d' G' y0 (S1.trans y1) y2 y3⟩⟩
 |_=>exact q1.elim
theorem qn0z(ha:PE3 X a ta):PE3 X (.UnaryOp .Not a pos) (eNotV ta):=qoz (qlcz ha) fun σ H Q h=>by
 obtain⟨τ,G,Q3,RS,RG,h,k⟩:=h;refine⟨τ,G,_,RS,RG,h,fun v H1 d G1 h1 S1 R1 q1=>?_⟩;cases d with
 |bl c=>
  unfold Hv at h1;exact⟨c,h1,k _ H1 (.bl (!c)) G1 (by simp[Hv]) S1 R1 q1⟩
 |_=>exact q1.elim
def notStar:Expr->Bool
 |.Starred ..=>false
 |_=>true
theorem qjz{e:Expr}{es:List Expr}{env:Env}(h:notStar e=true):starEach (e::es) env=(false,eval e env)::starEach es env:=by
 cases e<;>first|rfl|(simp[notStar] at h)
theorem qvz{pos:Pos}{env:Env}:∀{es:List Expr},es.all notStar=true->(backTo pos (starEach es env)).any (·.1)=false
 |[],_=>rfl
 |e::es,h=>by
  rw[List.all_cons,Bool.and_eq_true] at h;rw[qjz h.1];show (false||(backTo pos (starEach es env)).any (·.1))=false;rw[qvz h.2];rfl
def aNil:TA3:=fun _ G Q=>Q [] G
def aCons(ta:TE3)(tr:TA3):TA3:=fun τ G Q=>ta τ G fun x G1=>tr τ G1 fun xs G2=>Q (x::xs) G2
theorem qn1z:PA3 X [] aNil:=qg4z qboz fun σ H Q ⟨τ,G,Q3,RS,RG,h,k⟩=>k [] H [] G .nil (.refl H G) RG h
theorem qn2z{tr:TA3}(ha:PE3 X a ta)(hr:PA3 X es tr)(hs:notStar a=true:=by rfl):PA3 X (a::es) (aCons ta tr):=qg4z (qaqz ha hr (qjz hs)) fun σ H Q h=>by
 obtain⟨τ,G,Q3,RS,RG,h,k⟩:=h;refine⟨τ,G,_,RS,RG,h,fun v1 H1 d1 G1 h1 S1 R1 q1=>?_⟩;refine⟨τ,G1,_,RS.ext (S1.ext RG),R1,q1,fun vs H2 ds G2 h2 S2 R2 q2=>?_⟩;exact k _ H2 _ G2 (.cons (h1.ext (S2.ext R1)) h2) (S1.trans S2) R2 q2
def smallL{α:Type}(P:Prop):List α->Nat->Prop
 |[],_=>P
 |_::_,0=>False
 |_::xs,n+1=>smallL P xs n
theorem qc8z{α:Type}{P:Prop}:∀{xs:List α} {n:Nat},smallL P xs n->xs.length≤n/\P
 |[],n,h=>⟨Nat.zero_le _,h⟩
 |_::_,0,h=>h.elim
 |_::xs,n+1,h=>by
  obtain⟨h1,h2⟩:=qc8z (xs:=xs) (n:=n) h;exact⟨Nat.succ_le_succ h1,h2⟩
theorem line64{n:Nat}(h:n≤64):n≤sizeLine:=Nat.le_trans h (by decide)
def eTup(t:TA3):TE3:=fun τ G Q=>t τ G fun ds G1=>smallL (Q (.tup ds) G1) ds 64
def eLst(t:TA3):TE3:=fun τ G Q=>t τ G fun ds G1=>smallL (∀p G2,New G1 p (.lst ds) G2->Q (.obj p) G2) ds 64
theorem qn3z{t:TA3}{x1}(h:PA3 X es t):PE3 X (.Tuple es x1 pos) (eTup t):=qoz (qmhz h) fun σ H Q h=>by
 obtain⟨τ,G,Q3,RS,RG,h,k⟩:=h;refine⟨τ,G,_,RS,RG,h,fun vs H1 ds G1 h1 S1 R1 q1=>?_⟩;obtain⟨z,q1⟩:=qc8z q1;refine⟨by rw[←h1.length];exact line64 z,fun p hp=>?_⟩;refine k _ _ (.tup ds) G1 ?_ (S1.trans (.laid hp)) (R1.laid hp) q1;unfold Hv;exact⟨p,vs,rfl,.of qnz,h1.ext (.laid hp)⟩
theorem qn4z{t:TA3}(h:PA3 X es t):PE3 X (.List es pos) (eLst t):=qoz (qglz h) fun σ H Q h=>by
 obtain⟨τ,G,Q3,RS,RG,h,k⟩:=h;refine⟨τ,G,_,RS,RG,h,fun vs H1 ds G1 h1 S1 R1 q1=>?_⟩;obtain⟨z,q1⟩:=qc8z q1;refine⟨by rw[←h1.length];exact line64 z,fun p hp=>?_⟩;exact k _ _ (.obj p) (upd3 G1 p (.lst ds)) (by simp[Hv]) (S1.trans (.laidG hp)) (R1.laidG hp ⟨vs,qnz,h1.ext (.laid hp)⟩) (q1 p _ (.mk' (R1.free hp)))
end
end L3
namespace L2
open PySem PySem.Spec PyProof.Rows
def clos(env:Env):List (Str×NameKind)->List (Str×Addr)->List (Str×Addr)
 |[],acc=>acc
 | (n,k)::r,acc=>clos env r (if k=.free then (n,(env.cells.lookup n).getD 0)::acc else acc)
theorem qg7z{scope:Scope}{env:Env}(h:∀y∈scope.names,y.2=.free->∃c,env.cells.lookup y.1=some c):closureFor scope env=pure (clos env scope.names []):=by
 have key:∀(l:List (Str×NameKind)) (acc:List (Str×Addr)),(∀y∈l,y.2=.free->∃c,env.cells.lookup y.1=some c) ->
   (forIn l acc fun (x:Str×NameKind) (r:List (Str×Addr))=>(do
    if (x.2==NameKind.free)=true then do
     let a ←cellOf env x.1
     pure (ForInStep.yield ((x.1,a)::r))
    else pure (ForInStep.yield r):Sem (ForInStep (List (Str×Addr)))))=pure (clos env l acc):=by
  intro l
  induction l with
  |nil=>intro acc _;rfl
  |cons y r ih=>
   intro acc hy;obtain⟨n,k⟩:=y;rw[List.forIn_cons];by_cases hk:k=.free
   ·obtain⟨c,hc⟩:=hy (n,k) List.mem_cons_self hk;have e1:cellOf env n=pure c:=by unfold cellOf;rw[show env.cells.lookup n=some c from hc]
    subst hk;simp only[beq_self_eq_true,if_true,e1,pure_bind];rw[ih _ fun y hy'=>hy y (List.mem_cons_of_mem _ hy')];show _=pure (clos env r (if NameKind.free=NameKind.free then (n,(env.cells.lookup n).getD 0)::acc else acc));rw[if_pos rfl,show env.cells.lookup n=some c from hc];rfl
   ·have hb:(k==NameKind.free)=false:=by simpa using hk
    simp only[hb,Bool.false_eq_true,if_false,pure_bind];rw[ih _ fun y hy'=>hy y (List.mem_cons_of_mem _ hy')];show _=pure (clos env r (if k=NameKind.free then (n,(env.cells.lookup n).getD 0)::acc else acc));rw[if_neg hk]
 have:=key scope.names [] h;unfold closureFor
 first
  |exact (by simpa using this)
  | (simp only[bind_pure];exact this)
theorem qg8z{env:Env}{x:Str}{c:Addr}:∀(l:List (Str×NameKind)) (acc:List (Str×Addr)),(clos env l acc).lookup x=some c ->
  acc.lookup x=some c∨((x,NameKind.free)∈l/\c=(env.cells.lookup x).getD 0)
 |[],_,h=>.inl h
 | (n,k)::r,acc,h=>by
  rcases qg8z r _ h with q|⟨q1,q2⟩
  ·by_cases hk:k=.free
   ·rw[if_pos hk,List.lookup_cons] at q;by_cases hx:(x==n)=true
    ·rw[hx] at q;have hx':x=n:=by simpa using hx
     subst hx' hk;exact .inr ⟨List.mem_cons_self,(Option.some.inj q).symm⟩
    ·have hx2:(x==n)=false:=by simpa using hx
     rw[hx2] at q;exact .inl q
   ·rw[if_neg hk] at q;exact .inl q
  ·exact .inr ⟨List.mem_cons_of_mem _ q1,q2⟩
theorem qg9z{env:Env}{x:Str}:∀(l:List (Str×NameKind)) (acc:List (Str×Addr)),acc.lookup x=some ((env.cells.lookup x).getD 0)->(clos env l acc).lookup x=some ((env.cells.lookup x).getD 0)
 |[],_,h=>h
 | (n,k)::r,acc,h=>by
  refine qg9z r _ ?_;by_cases hk:k=.free
  ·rw[if_pos hk,List.lookup_cons];by_cases hx:(x==n)=true
   ·rw[hx];have hx':x=n:=by simpa using hx
    rw[hx']
   ·have hx2:(x==n)=false:=by simpa using hx
    rw[hx2];exact h
  ·rw[if_neg hk];exact h
theorem qhaz{env:Env}{x:Str}:∀(l:List (Str×NameKind)) (acc:List (Str×Addr)),(x,NameKind.free)∈l->(clos env l acc).lookup x=some ((env.cells.lookup x).getD 0)
 |[],_,h=>by cases h
 | (n,k)::r,acc,h=>by
  rcases List.mem_cons.mp h with e|e
  ·cases e;refine qg9z r _ ?_;rw[if_pos rfl,List.lookup_cons,beq_self_eq_true]
  ·exact qhaz r _ e
structure CmpOk(N:List Str)(sc scope:Scope)(own:List Str)(js:List Nat):Prop where
 kind:scope.kind=.function
 nocell:∀y∈scope.names,y.2≠.cell
 names:∀y∈scope.names,y.2=.local->scope.names.lookup y.1=some .local
 free:∀y∈scope.names,y.2=.free->sc.names.lookup y.1=some .cell/\own.contains y.1=false
 only:∀y∈scope.names,y.2=.free->scope.names.lookup y.1=some .free
 js:∀j∈js,j<N.length/\(N.getD j Str.empty,NameKind.free)∈scope.names
def cmpN(N own:List Str)(js:List Nat):List Str:=own++js.map fun j=>N.getD j Str.empty
def cmpSt(own:List Str)(js:List Nat)(σ:St):St:=List.replicate own.length none++js.map fun j=>(σ[j]?).getD none
def Cx.cmp(X:Cx)(scope:Scope)(own:List Str)(js:List Nat)(s:Shared)(H:Hp)(fp:List Addr):Cx:=
 { X with N:=cmpN X.N own js,s₀:=s,H₀:=H,env:=compEnvC scope (clos X.env scope.names []) s.heap.objs.size X.env,outer:=X.stack,ex:=fp,fn:=fun x=>own.contains x,pn:=[],xe:=fun _ _=>False }
theorem qc9z{sc:Scope}{env:Env}{x:Str}{k:NameKind}:∀(names:List (Str×NameKind)),
  (names.map fun (n,k)=>if (k==NameKind.free&&env.scope.kind==.function&&env.kindOf n==some .cell) then (n,NameKind.cell) else (n,k)).lookup x=some k ->
  (names.lookup x=some k/\(k≠.free∨k=.free))∨(k=.cell/\names.lookup x=some .free)
 |[],h=>by simp at h
 | (n,k')::r,h=>by
  have ih:=@qc9z sc env x k r;have h':List.lookup x ((if (k'==NameKind.free&&env.scope.kind==.function&&env.kindOf n==some .cell)=true then (n,NameKind.cell) else (n,k'))::_)=some k:=h;rw[List.lookup_cons];by_cases hc:(k'==NameKind.free&&env.scope.kind==.function&&env.kindOf n==some .cell)=true
  ·rw[if_pos hc,List.lookup_cons] at h';cases hx:x==n with
   |true=>
    rw[hx] at h';have e:NameKind.cell=k:=Option.some.inj h';have hk':k'=.free:=by
     rw[Bool.and_eq_true,Bool.and_eq_true] at hc;simpa using hc.1.1
    exact .inr ⟨e.symm,by rw[hk']⟩
   |false=>
    rw[hx] at h';exact ih h'
  ·rw[if_neg hc,List.lookup_cons] at h';cases hx:x==n with
   |true=>
    rw[hx] at h';have e:k'=k:=Option.some.inj h';subst e;exact .inl ⟨rfl,by by_cases z:k'=.free;exact .inr z;exact .inl z⟩
   |false=>
    rw[hx] at h';exact ih h'
theorem qedz{x:Str}{k:NameKind}{l:List (Str×NameKind)}(h:l.lookup x=some k):(x,k)∈l:=PySem.mem_of_lookup h
section
variable {X:Cx} {pins:List (Addr×Obj)} {σ:St} {H:Hp} {s:Shared} {scope:Scope} {own:List Str} {js:List Nat} {fp:List Addr}
theorem CmpOk.cells(C:CmpOk X.N X.env.scope scope own js)(ok:X.Ok):∀y∈scope.names,y.2=.free->∃c,X.env.cells.lookup y.1=some c:=fun y hy e=>
 ok.has y.1 (.inl (C.free y hy e).1)
theorem CmpOk.cl_of(C:CmpOk X.N X.env.scope scope own js)(ok:X.Ok){x:Str}{c:Addr}(h:(clos X.env scope.names []).lookup x=some c):(x,NameKind.free)∈scope.names/\X.env.cells.lookup x=some c:=by
 rcases qg8z scope.names [] h with q|⟨q1,q2⟩
 ·cases q
 ·obtain⟨c',e⟩:=C.cells ok _ q1 rfl;refine⟨q1,?_⟩;rw[q2,show X.env.cells.lookup x=some c' from e];rfl
theorem CmpOk.cl_has(C:CmpOk X.N X.env.scope scope own js)(ok:X.Ok){x:Str}(h:(x,NameKind.free)∈scope.names):∃c,(clos X.env scope.names []).lookup x=some c/\X.env.cells.lookup x=some c:=by
 obtain⟨c,e⟩:=C.cells ok _ h rfl;refine⟨c,?_,e⟩;rw[qhaz scope.names [] h,show X.env.cells.lookup x=some c from e];rfl
theorem Inv.cmpOk(I:Inv X pins σ H s)(C:CmpOk X.N X.env.scope scope own js)(hf:∀b∈fp,FpOk X pins H b/\b<s.heap.objs.size):(X.cmp scope own js s H fp).Ok where
 mod:=I.ok.mod
 kind:=C.kind
 glob:=I.ok.glob
 blt:=I.ok.blt
 above:=Nat.le_refl _
 inj:=fun x y c h1 h2=>I.ok.inj x y c (C.cl_of I.ok h1).2 (C.cl_of I.ok h2).2
 has:=fun x h=>by
  have hfree:(x,NameKind.free)∈scope.names:=by
   rcases h with h|h
   ·rcases qc9z (sc:=scope) (env:=X.env) scope.names h with⟨q,_⟩|⟨_,q⟩
    ·exact absurd rfl (C.nocell _ (qedz q))
    ·exact qedz q
   ·rcases qc9z (sc:=scope) (env:=X.env) scope.names h with⟨q,_⟩|⟨q,_⟩
    ·exact qedz q
    ·cases q
  obtain⟨c,e,_⟩:=C.cl_has I.ok hfree;exact⟨c,e⟩
 cab:=fun x c h1 h2=>by
  have q:=(C.free _ (C.cl_of I.ok h2).1 rfl).2;have h1':own.contains x=true:=h1;rw[q] at h1';cases h1'
 hd:=I.ok.hd
 frames:=I.ok.frames
 stk:=.inl rfl
 exf:=fun b hb=>⟨Nat.ne_of_lt (hf b hb).2,fun x c e=>(hf b hb).1.2.2.2.2.1 x c (C.cl_of I.ok e).2⟩
 bs:=I.bs
 bsz:=Nat.le_trans I.ok.bsz I.sz
 noex:=fun b o e hb=>by
  rcases (hf b hb).1.2.2.2.1 with z|z
  ·exact I.ok.noex b o e z
  ·exact absurd (Nat.lt_of_lt_of_le (Heap.lt_size e) (Nat.le_trans I.ok.bsz z)) (Nat.lt_irrefl _)
 exfs:=fun b hb z=>by
  rcases List.mem_cons.mp (I.stkSub b z) with e|e
  ·exact (hf b hb).1.2.1 e
  ·exact (hf b hb).1.2.2.1 e
 funs:=I.stack
 frf:=I.stkFree
theorem qn5z{N:List Str}{js:List Nat}{i:Nat}{x:Str}(h:(js.map fun j=>N.getD j Str.empty)[i]?=some x):∃j,js[i]?=some j/\x=N.getD j Str.empty:=by
 rw[List.getElem?_map] at h;cases e:js[i]? with
 |none=>rw[e] at h;cases h
 |some j=>rw[e] at h;exact⟨j,rfl,(Option.some.inj h).symm⟩
theorem Inv.cmp(I:Inv X pins σ H s)(C:CmpOk X.N X.env.scope scope own js)(hf:∀b∈fp,FpOk X pins H b/\b<s.heap.objs.size){h':Heap}{tk:Nat}(hn:h'.Ns s.heap.objs.size fun _=>none)
  (kept:∀b o,s.heap.get? b=some o->h'.get? b=some o):Inv (X.cmp scope own js s H fp) [] (cmpSt own js σ) H { s with heap:=h',toks:=tk }:=by
 have ok:=I.cmpOk C hf;refine⟨ok,rfl,I.bare,Un.kept kept,⟨_,hn,fun i x v h1 h2 h3=>?_⟩,fun x c e=>?_,I.hok.fresh (Nat.le_refl _),fun x c e=>I.freeC x c (C.cl_of I.ok e).2,fun p hp=>?_,I.hok.kept kept,?_⟩
 ·have h1':(own++js.map fun j=>X.N.getD j Str.empty)[i]?=some x:=h1;have h2':(List.replicate own.length none++js.map fun j=>(σ[j]?).getD none)[i]?=some (some v):=h2;by_cases hi:i<own.length
  ·rw[List.getElem?_append_left (by simpa using hi),List.getElem?_replicate,if_pos hi] at h2';cases h2'
  ·rw[List.getElem?_append_right (by lia)] at h1';rw[List.getElem?_append_right (by simp;lia),List.length_replicate] at h2';obtain⟨j,hj,rfl⟩:=qn5z h1';rw[List.getElem?_map,hj] at h2';have h2'':(σ[j]?).getD none=some v:=Option.some.inj h2';have hσ:σ[j]?=some (some v):=by
    cases e:σ[j]? with
    |none=>rw[e] at h2'';cases h2''
    |some o=>
     rw[e] at h2'';have:o=some v:=h2'';rw[this]
   obtain⟨jl,jf⟩:=C.js j (List.mem_of_getElem? hj);have hN:X.N[j]?=some (X.N.getD j Str.empty):=by
    rw[List.getD_eq_getElem?_getD,List.getElem?_eq_getElem jl];rfl
   have hcell:=(C.free _ jf rfl).1;obtain⟨m,hm,hl⟩:=I.loc;obtain⟨u,ru,lk⟩:=hl j _ v hN hσ (.inr (.inl hcell));refine⟨u,ru,?_⟩;obtain⟨c,e1,e2⟩:=C.cl_has I.ok jf;rcases lk with⟨z,_⟩|⟨_,c',z1,z2⟩
   ·have z':X.env.scope.names.lookup (X.N.getD j Str.empty)=some .local:=z;rw[show X.env.scope.names.lookup (X.N.getD j Str.empty)=some .cell from hcell] at z';cases z'
   ·rw[e2] at z1;cases z1;have ic:h'.IsCell c (some u):=by
     obtain⟨o,q1,q2⟩:=z2;exact⟨o,kept _ _ q1,q2⟩
    rcases h3 with h3|h3|h3
    ·exfalso;rcases qc9z (sc:=scope) (env:=X.env) scope.names h3 with⟨q,_⟩|⟨q,_⟩
     ·have z:=C.only _ jf rfl;rw[q] at z;cases z
     ·cases q
    ·exact .inr ⟨.inl h3,c,e1,ic⟩
    ·exact .inr ⟨.inr h3,c,e1,ic⟩
 ·obtain⟨v,o,q1,q2⟩:=I.cell x c (C.cl_of I.ok e).2;exact⟨v,o,kept _ _ q1,q2⟩
 ·exact absurd (show p∈([]:List (Addr×Obj)) from hp) (by simp)
 ·show (List.replicate own.length none++js.map fun j=>(σ[j]?).getD none).length=(own++js.map fun j=>X.N.getD j Str.empty).length;simp
theorem Inv.uncmp{σ':St}{H':Hp}{s':Shared}{pl:List (Addr×Obj)}(I:Inv X pins σ H s)(hf:∀b∈fp,FpOk X pins H b/\b<s.heap.objs.size)(J:Inv (X.cmp scope own js s H fp) pl σ' H' s'):Inv X pins σ H' s':=by
 refine I.call' (ch:=fp) J.os J.base J.hok J.bare fun b hb=>?_;obtain⟨f0,f1,f2,f3,f4,f5⟩:=(hf b hb).1;exact⟨f3,f1,f4,f5⟩
theorem Inv.other{H':Hp}{s':Shared}{h':Heap}{b:Addr}(I0:Inv X pins σ H s)(I:Inv X pins σ H' s')(hb:s.heap.objs.size≤b)(hn:H' b=none)(sb:Heap.SameBut b s'.heap h'):Inv X pins σ H' { s' with heap:=h' }:=by
 obtain⟨f0,f1,f2,f3,f4,f5⟩:=I0.fpOk hb hn;exact I.turned (t':=s'.toks) (fun c o hc e=>(sb.2 c hc).trans e) f0 f1 f3 f4 f5
end
def PCt(X:Cx)(ifs:List Expr)(t:TT):Prop:=
 ∀(pins:List (Addr×Obj)) (s:Shared) (σ:St) (H:Hp) (Q:Bool->Hp->Prop),Inv X pins σ H s->t σ H Q ->
  wpAny (model X.prog X.w) X.A (forIn ifs true fun c r=>if r=true then do let ok ←isTrue c X.env (eval c X.env);pure (ForInStep.yield ok) else pure (ForInStep.yield r)) (TP X pins σ Q) X.xe s
def tNoTest:TT:=fun _ H Q=>Q true H
theorem qn6z{X:Cx}:PCt X [] tNoTest:=fun _ _ _ H _ I h=>wpAny_tests_nil ⟨H,I,h⟩
section
variable {prog:Program} {w:World} {A:Around} {R:Result->Shared->Prop} {s:Shared}
theorem qn7z{elt target iter:Expr}{ifs:List Expr}{scope:Scope}{pos:Pos}{it acc:Value}{env:Env}(I:Nat->Shared->Prop)
  (turn:∀n s,I n s->wpAny (model prog w) A (pyNext it) (fun r s₁=>match r with
   |none=>R (.ok .next) s₁
   | some v=>wpAny (model prog w) A (letOwnedTupleGo target it v) (fun _ s₁'=>wpAny (model prog w) A (assign target env v) (fun _ s₂=>
     wpAny (model prog w) A (forIn ifs true fun c r=>if r=true then do let ok ←isTrue c env (eval c env);pure (ForInStep.yield ok) else pure (ForInStep.yield r)) (fun ok s₃=>
      if ok=true then wpAny (model prog w) A (eval elt env) (fun x s₄=>
       wpAny (model prog w) A (call (.builtin "list.append") [acc,x]) (fun _ s₅=>∃m,m<n/\I m s₅) (fun _ _=>False) s₄) (fun _ _=>False) s₃
      else ∃m,m<n/\I m s₃) (fun _ _=>False) s₂) (fun _ _=>False) s₁') (fun _ _=>False) s₁) (fun _ _=>False) s)
  (n:Nat) (h:I n s):
  codeAny (model prog w) A (.compLoop (.ListComp elt [⟨target,iter,ifs,0⟩] scope pos) 0 it acc env) R s:=by
 refine codeAny_loop rfl I (fun n s hI=>?_) n h;show wpAny _ A ((compTurn (.ListComp elt [⟨target,iter,ifs,0⟩] scope pos) 0 it acc env).onRaise (fun x=>do noteFrame x env;theTreesLotGoes x)) _ _ s
 refine wpAny_noted ?_;rw[compTurn_list];refine wpAny_bind (wpAny_standAt (wpAny_bind (wpAny_mono (turn n s hI) (fun r s₁ h₁=>?_) fun _ _ h'=>h'.elim)));cases r with
 |none=>exact wpAny_pure h₁
 |some v=>
  refine wpAny_bind (wpAny_mono h₁ (fun _ s₁' h₁'=>?_) fun _ _ h'=>h'.elim);refine wpAny_bind (wpAny_mono h₁' (fun _ s₂ h₂=>wpAny_bind (wpAny_mono h₂ (fun ok s₃ h₃=>?_) fun _ _ h'=>h'.elim)) fun _ _ h'=>h'.elim);cases ok with
  |false=>exact wpAny_pure ⟨rfl,h₃⟩
  |true=>
   exact wpAny_bind (wpAny_bind (wpAny_mono h₃ (fun x s₄ h₄=>wpAny_bind (wpAny_mono h₄ (fun _ s₅ h₅=>wpAny_pure (wpAny_pure ⟨rfl,h₅⟩)) fun _ _ h'=>h'.elim)) fun _ _ h'=>h'.elim))
end
def LcRd(own:List Str)(js:List Nat)(g:TG)(tc:TT)(te:TE)(J:It)(σ:St)(H:Hp)(Q:VK):Prop:=
 ∀D,H D=none->∃W:Nat->Nat->List V->St->Hp->Prop,(∃m,W 0 m [] (cmpSt own js σ) (upd H D (.lst [])))/\∀i m ys σ' H',W i m ys σ' H'->H' D=some (.lst ys) ∧
  ((J.stop i H'/\Q (.ref D) H')∨(J.go i H'/\ys.length<sizeLine/\∀x H2,J.yld i H' x H2->g x σ' H2 fun σ2 H3=>tc σ2 H3 fun b H4=>
   if b=true then te σ2 H4 fun v H5=>H5 D=some (.lst ys)/\∃m',m' < m/\W (i+1) m' (ys++[v]) σ2 (upd H5 D (.lst (ys++[v]))) else ∃m',m' < m/\W (i+1) m' ys σ2 H4))
def tLc(own:List Str)(js:List Nat)(wi:TI)(g:TG)(tc:TT)(te:TE):TE:=fun σ H Q=>wi σ H fun J H1=>LcRd own js g tc te J σ H1 Q
section
variable {X:Cx} {tg iter elt:Expr} {ifs:List Expr} {scope:Scope} {pos:Pos} {own:List Str} {js:List Nat} {g:TG} {tc:TT} {te:TE}
theorem qhbz{pins:List (Addr×Obj)}{σ:St}{H:Hp}{s:Shared}{Q:VK}{it:Addr}{fp:List Addr}{tn:Nat->Heap->Prop}{J:It}{E:Value->Shared->Prop}{RR:Value->Addr->Result->Shared->Prop}
  (hc:X.calm=true) (C:CmpOk X.N X.env.scope scope own js)
  (hb:∀s H fp,PG (X.cmp scope own js s H fp) tg g/\PCt (X.cmp scope own js s H fp) ifs tc/\PE (X.cmp scope own js s H fp) elt te)
  (I:Inv X pins σ H s) (T:Turn X.prog X.w X.K tg J fp it tn) (st:tn 0 s.heap) (hf:∀b∈fp,FpOk X pins H b) (rd:LcRd own js g tc te J σ H Q)
  (hRR:∀D N s' H',Inv X pins σ H' s'->Q (.ref D) H'->s.heap.objs.size≤N->H' N=none->(∃m,s'.heap.Ns N m)->RR (.ref D) N (.ok .next) s'):
  wpAny (model X.prog X.w) X.A (newList []) (fun acc s₃=>wpAny (model X.prog X.w) X.A (newFunctionEnv scope X.env.globals (clos X.env scope.names []) [] X.env.qual none .none (some X.env)) (fun cenv s₄=>
   codeAny (model X.prog X.w) X.A (.compStart (.ListComp elt [⟨tg,iter,ifs,0⟩] scope pos) 0 (.ref it) acc { cenv with scope:=relabel scope X.env }) (RR acc cenv.locals) s₄) E s₃) E s:=by
 have hD:H s.heap.objs.size=none:=I.fresh;obtain⟨W,⟨m0,w0⟩,turn⟩:=rd s.heap.objs.size hD;refine wpAny_newObj_type ?_;have hI3:Inv X pins σ (upd H s.heap.objs.size (.lst [])) { s with heap:=s.heap.push { cls:=.type "list",data:=.seq ([]:List Value).toArray }}:=
  I.lnew (t':=s.toks) (its:=[]) (ys:=[]) .nil (Nat.zero_le _)
 have hlt:∀b∈fp,b<s.heap.objs.size:=fun b hb=>by
  obtain⟨o,e,_⟩:=T.obj 0 _ st b hb;exact Heap.lt_size e
 have st3:tn 0 (s.heap.push { cls:=.type "list",data:=.seq ([]:List Value).toArray }):=T.keep 0 _ _ st fun b _ o e=>Heap.get?_push_of_some _ e;generalize hs3:({ s with heap:=s.heap.push { cls:=.type "list",data:=.seq ([]:List Value).toArray }}:Shared)=s3 at hI3 ⊢;have hsz3:s3.heap.objs.size=s.heap.objs.size+1:=by rw[←hs3];exact Heap.size_push ..
 have st3':tn 0 s3.heap:=by rw[←hs3];exact st3
 have hf3:∀b∈fp,FpOk X pins (upd H s.heap.objs.size (.lst [])) b/\b<s3.heap.objs.size:=fun b hb=>by
  obtain⟨f0,f1⟩:=hf b hb;refine⟨⟨?_,f1⟩,by rw[hsz3];exact Nat.lt_succ_of_lt (hlt b hb)⟩;rw[qfz (Nat.ne_of_lt (hlt b hb))];exact f0
 refine wpAny_newFunctionEnv C.nocell (by intro y hy;simp at hy) (fun h₁ hns₁ hsb₁=>?_) C.kind;have kept1:∀b o,s3.heap.get? b=some o->h₁.get? b=some o:=fun b o e=>(hsb₁.2 b (Nat.ne_of_lt (Heap.lt_size e))).trans (Heap.get?_push_of_some _ e);have I4:Inv (X.cmp scope own js s3 (upd H s.heap.objs.size (.lst [])) fp) [] (cmpSt own js σ) (upd H s.heap.objs.size (.lst [])) { s3 with heap:=h₁,toks:=s3.toks+([]:List (Str×Value)).length }:=
  hI3.cmp C hf3 hns₁ kept1
 have st4:tn 0 h₁:=T.keep 0 _ _ st3' fun b _ o e=>kept1 b o e;obtain⟨hg,ht,he⟩:=hb s3 (upd H s.heap.objs.size (.lst [])) fp
 -- the iterator's objects in the block's context
 have stat:∀{H':Hp},(∀b∈fp,H' b=none)->∀b∈fp,FpOk (X.cmp scope own js s3 (upd H s.heap.objs.size (.lst [])) fp) [] H' b:=fun {H'} hn b hb=>by
  have q:=I4.ok;exact⟨hn b hb,(q.exf b hb).1,q.exfs b hb,.inl hb,(q.exf b hb).2,fun p hp=>absurd (show p∈([]:List (Addr×Obj)) from hp) (by simp)⟩
 have loop:codeAny (model X.prog X.w) X.A (.compLoop (.ListComp elt [⟨tg,iter,ifs,0⟩] scope pos) 0 (.ref it) (.ref s.heap.objs.size) (compEnvC scope (clos X.env scope.names []) s3.heap.objs.size X.env))
   (RR (.ref s.heap.objs.size) s3.heap.objs.size) { s3 with heap:=h₁,toks:=s3.toks+([]:List (Str×Value)).length }:=by
  refine qn7z (fun n s'=>∃i ys σ' H',Inv (X.cmp scope own js s3 (upd H s.heap.objs.size (.lst [])) fp) [] σ' H' s'/\tn i s'.heap/\(∀b∈fp,H' b=none)/\W i n ys σ' H') ?_ m0
   ⟨0,[],_,_,I4,st4,fun b hb=>(hf3 b hb).1.1,w0⟩
  rintro n s5 ⟨i,ys,σ5,H5,I5,st5,fr5,w5⟩;obtain⟨hacc,hcase⟩:=turn i n ys σ5 H5 w5;rcases hcase with⟨stop,qn⟩|⟨go,hys,step⟩
  ·refine thn (T.done (X.cmp scope own js s3 (upd H s.heap.objs.size (.lst [])) fp) rfl rfl rfl hc i [] s5 σ5 H5 (fun _ _=>False) I5 (stat fr5) st5 stop) fun r s6 ⟨hr,I6⟩=>?_;subst hr;have I7:=hI3.uncmp hf3 I6;obtain⟨m,hm,_⟩:=I6.loc;exact hRR _ _ _ _ I7 qn (by rw[hsz3];exact Nat.le_succ _) I6.free ⟨m,hm⟩
  ·refine thn (T.item (X.cmp scope own js s3 (upd H s.heap.objs.size (.lst [])) fp) rfl rfl rfl hc i [] s5 σ5 H5 (fun _ _=>False) I5 (stat fr5) st5 go) fun r s6 ⟨u,hr,h6⟩=>?_;subst hr;refine thn h6 fun _ s7 ⟨x,H7,I7,r7,y7,st7,fr7⟩=>?_;have I7':=I7.pinned (stat fr7) (T.obj _ _ st7);refine thn (hg _ s7 σ5 H7 x u _ I7' r7 (step x H7 y7)) fun _ s8 ⟨σ8,H8,I8,q8⟩=>?_;refine thn (ht _ s8 σ8 H8 _ I8 q8) fun ok s9 ⟨H9,I9,q9⟩=>?_;have back:∀{σ':St} {H':Hp} {s':Shared} {ys':List V},Inv (X.cmp scope own js s3 (upd H s.heap.objs.size (.lst [])) fp) ([]++pinsAt fp s7.heap) σ' H' s'->(∃m',m' < n/\W (i+1) m' ys' σ' H') ->
     ∃m',m' < n/\∃i ys σ' H',Inv (X.cmp scope own js s3 (upd H s.heap.objs.size (.lst [])) fp) [] σ' H' s'/\tn i s'.heap/\(∀b∈fp,H' b=none)/\W i m' ys σ' H':=fun {σ' H' s' ys'} I' ⟨m',hm,w'⟩=>by
    refine⟨m',hm,i+1,ys',σ',H',I'.unpinned,T.keep _ _ _ st7 fun b hb o e=>(I'.pin (b,o) (List.mem_append_right _ (List.mem_append_right _ (qc2z hb e)))).1,fun b hb=>?_,w'⟩;obtain⟨o,e,d⟩:=T.obj _ _ st7 b hb;exact (I'.pin (b,o) (List.mem_append_right _ (List.mem_append_right _ (qc2z hb e)))).2.1
   cases ok with
   |false=>
    rw[if_neg Bool.false_ne_true] at q9 ⊢;exact back I9 q9
   |true=>
    rw[if_pos rfl] at q9 ⊢;refine thn (he _ s9 σ8 H9 _ I9 q9) fun xv s10 ⟨v,H10,I10,r10,hD10,q10⟩=>?_;refine thn (qb8z (X:=X.cmp scope own js s3 (upd H s.heap.objs.size (.lst [])) fp) _ s10 σ8 H10 (.ref s.heap.objs.size) [v] (.ref s.heap.objs.size) [xv] (fun _ H'=>H'=upd H10 s.heap.objs.size (.lst (ys++[v]))) I10 rfl (.cons r10 .nil)
     ⟨_,ys,v,rfl,rfl,hD10,hys,rfl⟩) fun _ s11 ⟨_,H11,I11,_,e11⟩=>?_
    subst e11;exact back I11 q10
 exact codeAny_compStart_list loop (T.self _ 0 _ _ _ st4 loop)
theorem qn8z{wi:TI}(hc:X.calm=true)(C:CmpOk X.N X.env.scope scope own js)(hi:PI X tg iter wi)
  (hb:∀s H fp,PG (X.cmp scope own js s H fp) tg g/\PCt (X.cmp scope own js s H fp) ifs tc/\PE (X.cmp scope own js s H fp) elt te)
  (hs:∀x,foldedSetIterable iter X.env x=pure x:=by intro _;rfl):PE X (.ListComp elt [⟨tg,iter,ifs,0⟩] scope pos) (tLc own js wi g tc te):=by
 intro pins s σ H Q I h;rw[eval_ListComp];refine wpAny_comprehension_free (use:=none) rfl hs (qg7z (C.cells I.ok)) C.kind C.names (thn (hi pins s σ H _ I h) fun xv s₁ h₁=>thn h₁ fun itv s₂ h₂=>?_);obtain⟨it,fp,tn,J,H2,e,I2,T,st2,f2,rd⟩:=h₂;subst e;refine qhbz (RR:=fun acc C'=>compPost (model X.prog X.w) X.A X.xe none (EP X pins σ Q) acc C') hc C hb I2 T st2 f2 rd fun D N s' H' I' q hN hHN ⟨m,hm⟩=>?_;exact⟨m,hm,fun h' sb=>⟨.ref D,H',I2.other I' hN hHN sb,rfl,q⟩⟩
theorem qn9z{wi:TI}{i:Nat}{y:Str}{py spos:Pos}(hc:X.calm=true)(hN:X.N.Nodup)(hy:X.N[i]?=some y)(hyl:X.env.scope.names.lookup y=some .local)(C:CmpOk X.N X.env.scope scope own js)(hi:PI X tg iter wi)
  (hb:∀s H fp,PG (X.cmp scope own js s H fp) tg g/\PCt (X.cmp scope own js s H fp) ifs tc/\PE (X.cmp scope own js s H fp) elt te)
  (hsw:swapsWith (.ListComp elt [⟨tg,iter,ifs,0⟩] scope pos) (some (.Name y py)) spos.line X.env=pure true:=by rfl)
  (hs:∀x,foldedSetIterable iter X.env x=pure x:=by intro _;rfl):PS X (.Assign [.Name y py] (.ListComp elt [⟨tg,iter,ifs,0⟩] scope pos) spos) (tAsg (tLc own js wi g tc te) (gName i)):=by
 intro pins s σ H D I h;rw[exec_Assign_Name_used _ _ _ _ hsw];refine wpAny_bind (wpAny_standAt (wpAny_bind ?_));show wpAny _ X.A (do let _ ←comprehension (.ListComp elt [⟨tg,iter,ifs,0⟩] scope pos) scope X.env _ (newList []) false (eval iter X.env) (some (assign (.Name y py) X.env))) _ _ s;refine wpAny_bind (wpAny_mono (wpAny_comprehension_free (use:=some (assign (.Name y py) X.env)) (Q:=fun _ s'=>SP X pins D .next s') rfl hs (qg7z (C.cells I.ok)) C.kind C.names
  (thn (hi pins s σ H _ I h) fun xv s₁ h₁=>thn h₁ fun itv s₂ h₂=>?_)) (fun _ s' hq=>wpAny_pure (wpAny_pure hq)) fun _ _ e=>e)
 obtain⟨it,fp,tn,J,H2,e,I2,T,st2,f2,rd⟩:=h₂;subst e;refine qhbz (RR:=fun acc C'=>compPost (model X.prog X.w) X.A X.xe (some (assign (.Name y py) X.env)) (fun _ s'=>SP X pins D .next s') acc C') hc C hb I2 T st2 f2 rd fun L N s' H' I' q hN' hHN ⟨m,hm⟩=>?_
 show wpAny _ _ (assign (.Name y py) X.env (.ref L)) _ _ _;refine wpAny_assign_Name (qd3z I' hN hy (.inl hyl) (v:=.ref L) rfl (fun s'' I'' ⟨a,sb,ha⟩=>?_) (.inr hyl));have hNa:N≠a:=by
  obtain⟨f0,f1,f2,f3,f4,f5⟩:=I2.fpOk hN' hHN;rcases ha with rfl|ha
  ·exact f1
  ·exact Ne.symm (f4 _ _ ha)
 refine⟨m,hm.sameBut sb hNa,fun h'' sb''=>?_⟩;refine⟨σ.set i (some (.ref L)),H',?_,q⟩;obtain⟨f0,f1,f2,f3,f4,f5⟩:=I2.fpOk hN' hHN;exact I''.turned (t':=s''.toks) (fun c o hc e=>(sb''.2 c hc).trans e) f0 f1 f3 f4 f5
end
end L2
namespace L3
open PySem PySem.Spec PyProof.Rows L2
section
variable {X:Cx} {st:Stmt} {rest:List Stmt} {t u:TS3} {e c:Expr} {te:TE3} {tc:TT3} {pos:Pos}
def sNext:TS3:=fun D τ G=>D.nx τ G
def sSeq(t u:TS3):TS3:=fun D τ G=>t { D with nx:=u D } τ G
theorem qoaz:PSs3 X [] sNext:=qg5z qldz fun D σ H ⟨τ,G,D3,RS,RG,h,k⟩=>k.nx τ σ G H RS (.refl H G) RG h
theorem qobz(h1:PS3 X st t)(h2:PSs3 X rest u):PSs3 X (st::rest) (sSeq t u):=qg5z (qlez h1 h2) fun D σ H ⟨τ,G,D3,RS,RG,h,k⟩=>
 ⟨τ,G,{ D3 with nx:=u D3 },RS,RG,h,⟨fun τ' σ' G' H' a b c q=>⟨τ',G',D3,a,c,q,k.step b⟩,k.bk,k.ct,k.rt⟩⟩
theorem qocz(h1:PS3 X st t):PSs3 X [st] t:=qlfz h1
def sDrop(te:TE3):TS3:=fun D τ G=>te τ G fun _ G1=>D.nx τ G1
theorem qodz(he:PE3 X e te)(hs:swapsWith e none pos.line X.env=pure false:=by rfl):PS3 X (.Expr e pos) (sDrop te):=qaxz (qlgz he hs) fun D σ H ⟨τ,G,D3,RS,RG,h,k⟩=>
 ⟨τ,G,_,RS,RG,h,fun v H1 d G1 h1 S1 R1 q1=>k.nx τ σ G1 H1 (RS.ext (S1.ext RG)) S1 R1 q1⟩
def sRet(te:TE3):TS3:=fun D τ G=>te τ G D.rt
theorem qoez(he:PE3 X e te):PS3 X (.Return (some e) pos) (sRet te):=qaxz (qlhz he) fun D σ H ⟨τ,G,D3,RS,RG,h,k⟩=>
 ⟨τ,G,D3.rt,RS,RG,h,fun v H1 d G1 h1 S1 R1 q1=>k.rt d v G1 H1 h1 S1 R1 q1⟩
def sIf(c:TT3)(t u:TS3):TS3:=fun D τ G=>c τ G fun b G1=>Br b (t D τ G1) (u D τ G1)
theorem s_if{a b:List Stmt}(hc:PT3 X c tc)(ha:PSs3 X a t)(hb:PSs3 X b u):PS3 X (.If c a b pos) (sIf tc t u):=qaxz (qliz hc ha hb) fun D σ H ⟨τ,G,D3,RS,RG,h,k⟩=>
 ⟨τ,G,_,RS,RG,h,fun b H1 G1 S1 R1 q1=>Br.ite q1 (fun q=>⟨τ,G1,D3,RS.ext (S1.ext RG),R1,q,k.step S1⟩) fun q=>⟨τ,G1,D3,RS.ext (S1.ext RG),R1,q,k.step S1⟩⟩
end
abbrev TG3:=D->S3->Gp->(S3->Gp->Prop)->Prop
abbrev TGs3:=List D->S3->Gp->(S3->Gp->Prop)->Prop
def lowG(K:PySem.W.Frag)(t:TG3):TG:=fun v σ H Q=>∃d τ G Q3,Hv K H d v/\RepS K τ σ H/\RepG K G H/\t d τ G Q3/\∀τ' σ' G' H',RepS K τ' σ' H'->Step H G H' G'->RepG K G' H'->Q3 τ' G'->Q σ' H'
def lowGs(K:PySem.W.Frag)(t:TGs3):TGs:=fun vs σ H Q=>∃ds τ G Q3,Hvs K H ds vs/\RepS K τ σ H/\RepG K G H/\t ds τ G Q3/\∀τ' σ' G' H',RepS K τ' σ' H'->Step H G H' G'->RepG K G' H'->Q3 τ' G'->Q σ' H'
abbrev PG3(X:Cx)(tg:Expr)(t:TG3):Prop:=PG X tg (lowG X.K t)
abbrev PGs3(X:Cx)(tgs:List Expr)(t:TGs3):Prop:=PGs X tgs (lowGs X.K t)
section
variable {X:Cx} {pos:Pos} {e:Expr} {es:List Expr}
theorem qeez{t t':TG}(h:PG X e t)(f:∀v σ H Q,t' v σ H Q->t v σ H Q):PG X e t':=fun pins s σ H v u Q I r q=>h pins s σ H v u Q I r (f v σ H Q q)
theorem qhcz{t t':TGs}(h:PGs X es t)(f:∀v σ H Q,t' v σ H Q->t v σ H Q):PGs X es t':=fun pins s σ H v u Q I r q=>h pins s σ H v u Q I r (f v σ H Q q)
def hName(i:Nat):TG3:=fun d τ G Q=>Q (set3 τ i d) G
theorem qofz{i:Nat}{x:Str}(hN:X.N.Nodup)(hi:X.N[i]?=some x:=by rfl)(hx:Loc X.env.scope x:=by first|exact Or.inl rfl|exact Or.inr rfl)(hf:X.fn x=true∨X.env.scope.names.lookup x=some .local:=by first|exact .inl rfl|exact .inr rfl|assumption):PG3 X (.Name x pos) (hName i):=
 qeez (qljz hN hi hx hf) fun v σ H Q ⟨d,τ,G,Q3,hd,RS,RG,h,k⟩=>k _ _ G H (RS.set hd) (.refl H G) RG h
def hNil:TGs3:=fun ds τ G Q=>match ds with
 |[]=>Q τ G
 |_::_=>False
def hCons(t:TG3)(u:TGs3):TGs3:=fun ds τ G Q=>match ds with
 |[]=>False
 |d::r=>t d τ G fun τ' G'=>u r τ' G' Q
theorem qogz:PGs3 X [] hNil:=qhcz qlkz fun vs σ H Q ⟨ds,τ,G,Q3,hd,RS,RG,h,k⟩=>by
 cases ds with
 |nil=>exact⟨hd.inv0,k _ _ G H RS (.refl H G) RG h⟩
 |cons d r=>exact h.elim
theorem qohz{t:TG3}{u:TGs3}(h1:PG3 X e t)(h2:PGs3 X es u)(hs:(assignEach (e::es) X.env).map (·.2)=assign e X.env::(assignEach es X.env).map (·.2):=by rfl):PGs3 X (e::es) (hCons t u):=
 qhcz (qllz h1 h2 hs) fun vs σ H Q ⟨ds,τ,G,Q3,hd,RS,RG,h,k⟩=>by
  cases ds with
  |nil=>exact h.elim
  |cons d r=>
   obtain⟨v,vr,rfl,q1,q2⟩:=hd.inv;refine⟨v,vr,rfl,d,τ,G,_,q1,RS,RG,h,fun τ' σ' G' H' a b c q=>?_⟩;exact⟨r,τ',G',Q3,q2.ext (b.ext RG),a,c,q,fun τ2 σ2 G2 H2 a2 b2 c2=>k τ2 σ2 G2 H2 a2 (b.trans b2) c2⟩
def hTup(n:Nat)(t:TGs3):TG3:=fun d τ G Q=>match d with
 |.tup ds=>ds.length=n/\t ds τ G Q
 |_=>False
theorem qoiz{k:Nat}{t:TGs3}{n:Nat}(hc:X.calm=true)(h:PGs3 X es t)(hn:(assignEach es X.env).length=n:=by rfl)(hst:(assignEach es X.env).findIdx? (·.1)=none:=by rfl):PG3 X (.Tuple es k pos) (hTup n t):=
 qeez (qlmz hc h hn hst) fun v σ H Q ⟨d,τ,G,Q3,hd,RS,RG,h,k⟩=>by
  cases d with
  |tup ds=>
   unfold Hv at hd;obtain⟨a,vs,e1,e2,e3⟩:=hd;exact⟨a,vs,e1,e2,by rw[←e3.length];exact h.1,ds,τ,G,Q3,e3,RS,RG,h.2,k⟩
  |_=>exact h.elim
def sAsg(te:TE3)(g:TG3):TS3:=fun D τ G=>te τ G fun x G1=>g x τ G1 D.nx
theorem qojz{tg:Expr}{te:TE3}{g:TG3}(he:PE3 X e te)(hg:PG3 X tg g)(hs:swapsWithSole [tg] e pos.line X.env=pure false:=by rfl)(hw:swappedStores [tg] e X.env=pure none:=by rfl)
  (h1:(assignEach [tg] X.env).map (·.2)=[assign tg X.env]:=by rfl):PS3 X (.Assign [tg] e pos) (sAsg te g):=qaxz (qloz he hg hs hw h1) fun D σ H ⟨τ,G,D3,RS,RG,h,k⟩=>
 ⟨τ,G,_,RS,RG,h,fun v H1 d G1 h1 S1 R1 q1=>⟨d,τ,G1,D3.nx,h1,RS.ext (S1.ext RG),R1,q1,fun τ' σ' G' H' a b c q=>k.nx τ' σ' G' H' a (S1.trans b) c q⟩⟩
theorem qokz{i:Nat}{x:Str}{te:TE3}{pos':Pos}(hN:X.N.Nodup)(he:PE3 X e te)(hi:X.N[i]?=some x:=by rfl)(hx:Loc X.env.scope x:=by first|exact Or.inl rfl|exact Or.inr rfl)(hs:swapsWith e (some (.Name x pos')) pos.line X.env=pure false:=by rfl)
  (hf:X.fn x=true∨X.env.scope.names.lookup x=some .local:=by first|exact .inl rfl|exact .inr rfl|assumption):PS3 X (.Assign [.Name x pos'] e pos) (sAsg te (hName i)):=qaxz (qlpz hN hi hx he hs hf) fun D σ H ⟨τ,G,D3,RS,RG,h,k⟩=>
 ⟨τ,G,_,RS,RG,h,fun v H1 d G1 h1 S1 R1 q1=>k.nx _ _ G1 H1 ((RS.ext (S1.ext RG)).set h1) S1 R1 q1⟩
def rSet3:D->D->D->Gp->(Gp->Prop)->Prop:=fun o i v G Q=>match o,i with
 |.obj p,.int k=>∃ds j,G p=some (.lst ds)/\ixN ds.length k=some j/\Q (upd3 G p (.lst (ds.set j v)))
 |_,_=>False
def hSub(to ti:TE3):TG3:=fun v τ G Q=>to τ G fun o G1=>ti τ G1 fun i G2=>rSet3 o i v G2 fun G3=>Q τ G3
theorem qolz{K:PySem.W.Frag}{o i v:D}{vo vi vv:V}{G:Gp}{H:Hp}{Q3:Gp->Prop}{Q:Hp->Prop}(ho:Hv K H o vo)(hi:Hv K H i vi)(hv:Hv K H v vv)(RG:RepG K G H)(h:rSet3 o i v G Q3)
  (k:∀H' G',Step H G H' G'->RepG K G' H'->Q3 G'->Q H'):rSetL vo vi vv H Q:=by
 match o,i,ho,hi,h with
 |.obj p,.int j,ho,hi,h=>
  unfold Hv at ho hi;obtain⟨ds,n,e1,e2,q⟩:=h;obtain⟨vs,e3,e4⟩:=RG p _ e1;refine⟨p,vs,j,n,ho,hi,e3,by rw[←e4.length];exact e2,k _ _ (Step.wrote (g:=.lst (ds.set n v)) e1) (RG.wrote e3 ⟨_,qnz,?_⟩) q⟩;exact (e4.ext (Ext.wrote e3)).set n (hv.ext (Ext.wrote e3))
 |.obj _,.non,_,_,h=>exact h.elim
 |.obj _,.bl _,_,_,h=>exact h.elim
 |.obj _,.str _,_,_,h=>exact h.elim
 |.obj _,.tup _,_,_,h=>exact h.elim
 |.obj _,.scr _,_,_,h=>exact h.elim
 |.obj _,.obj _,_,_,h=>exact h.elim
 |.obj _,.dc _,_,_,h=>exact h.elim
 |.dc _,_,_,_,h=>exact h.elim
 |.non,_,_,_,h=>exact h.elim
 |.bl _,_,_,_,h=>exact h.elim
 |.int _,_,_,_,h=>exact h.elim
 |.str _,_,_,_,h=>exact h.elim
 |.tup _,_,_,_,h=>exact h.elim
 |.scr _,_,_,_,h=>exact h.elim
theorem qomz{o i:Expr}{to ti:TE3}(ho:PE3 X o to)(hi:PE3 X i ti)
  (ha:∀v,assign (.Subscript o i pos) X.env v=(do
   let ov ←holding [v] (eval o X.env)
   let iv ←holding [v,ov] (eval i X.env)
   standAt pos
   holding [v,ov,iv] (setItem ov iv v)
   release [v,ov,iv] []):=by intro _;rfl):PG3 X (.Subscript o i pos) (hSub to ti):=qeez (qlnz ho hi set_list ha) fun v σ H Q ⟨d,τ,G,Q3,hd,RS,RG,h,k⟩=>
 ⟨τ,G,_,RS,RG,h,fun v1 H1 d1 G1 h1 S1 R1 q1=>⟨τ,G1,_,RS.ext (S1.ext RG),R1,q1,fun v2 H2 d2 G2 h2 S2 R2 q2=>
  qolz (h1.ext (S2.ext R1)) h2 ((hd.ext (S1.ext RG)).ext (S2.ext R1)) R2 q2 fun H' G' y1 y2 y3=>k _ _ G' H' (((RS.ext (S1.ext RG)).ext (S2.ext R1)).ext (y1.ext R2)) ((S1.trans S2).trans y1) y2 y3⟩⟩
def sWhile(c:TT3)(tb:TS3):TS3:=fun D τ G=>∃W:Nat->S3->Gp->Prop,(∃m,W m τ G)/\∀m τ G,W m τ G ->
 c τ G fun b G1=>Br b (tb { D with nx:=fun τ' G'=>∃m',m' < m/\W m' τ' G',ct:=fun τ' G'=>∃m',m' < m/\W m' τ' G',bk:=D.nx } τ G1) (D.nx τ G1)
theorem qonz{c:Expr}{body:List Stmt}{tc:TT3}{tb:TS3}(hp:PassesOwn (model X.prog X.w) X.A X.env X.xe)(hc:PT3 X c tc)(hb:PSs3 X body tb):PS3 X (.While c body [] pos) (sWhile tc tb):=
 qaxz (qlqz hp hc hb) fun D σ H ⟨τ,G,D3,RS,RG,⟨W,⟨m0,w0⟩,turn⟩,k⟩=>by
  refine⟨fun m σ' H'=>∃τ' G',W m τ' G'/\RepS X.K τ' σ' H'/\RepG X.K G' H'/\Step H G H' G',⟨m0,τ,G,w0,RS,RG,.refl H G⟩,fun m σ1 H1 ⟨τ1,G1,w1,RS1,RG1,S1⟩=>?_⟩;refine⟨τ1,G1,_,RS1,RG1,turn m τ1 G1 w1,fun b H2 G2 S2 R2 q2=>Br.ite q2 (fun q=>?_) fun q=>k.nx _ _ G2 H2 (RS1.ext (S2.ext RG1)) (S1.trans S2) R2 q⟩;refine⟨fun σ' H'=>∃τ' G',(∃m',m' < m/\W m' τ' G')/\RepS X.K τ' σ' H'/\RepG X.K G' H'/\Step H G H' G',fun σ' H' ⟨τ',G',⟨m',hm,w'⟩,a,b,c⟩=>⟨m',hm,τ',G',w',a,b,c⟩,?_⟩;refine⟨τ1,G2,_,RS1.ext (S2.ext RG1),R2,q,⟨?_,?_,?_,?_⟩⟩
  ·exact fun τ' σ' G' H' a b c q=>⟨τ',G',q,a,c,(S1.trans S2).trans b⟩
  ·exact fun τ' σ' G' H' a b c q=>k.nx τ' σ' G' H' a ((S1.trans S2).trans b) c q
  ·exact fun τ' σ' G' H' a b c q=>⟨τ',G',q,a,c,(S1.trans S2).trans b⟩
  ·exact fun d v G' H' a b c q=>k.rt d v G' H' a ((S1.trans S2).trans b) c q
end
abbrev Sp3:=List D->Gp->V3->Prop
def lowSp(K:PySem.W.Frag)(sp:Sp3):Sp:=fun vs H Q _=>∃ds G Q3,Hvs K H ds vs/\RepG K G H/\sp ds G Q3/\∀v H' d G',Hv K H' d v->Step H G H' G'->RepG K G' H'->Q3 d G'->Q v H'
abbrev FnOk3(P:Program)(w:World)(K:PySem.W.Frag)(mg:Str->Option Value)(base:Heap)(k:Nat)(f:Addr)(fd:FuncData)(ps:List Str)(sp:Sp3):Prop:=FnOk P w K mg base CX0 k f fd ps (lowSp K sp)
def eCall(sp:Sp3)(t:TA3):TE3:=fun τ G Q=>t τ G fun ds G1=>sp ds G1 Q
section
variable {X:Cx} {k:Nat} {f:Addr} {fd:FuncData} {ps:List Str} {sp:Sp3} {x:Str} {p pos:Pos} {e:Expr} {es:List Expr} {t:TA3}
theorem qhdz{K:PySem.W.Frag}{σ:L2.St}{H:Hp}{Q:VK}{E:XK}(h:low K (eCall sp t) σ H Q):tCall (lowSp K sp) [] E (lowA K t) σ H Q:=by
 obtain⟨τ,G,Q3,RS,RG,h,k⟩:=h;refine⟨τ,G,_,RS,RG,h,fun vs H1 ds G1 h1 S1 R1 q1=>?_⟩;refine⟨ds,G1,Q3,by rw[List.append_nil];exact h1,R1,q1,fun v H' d G' z1 z2 z3 z4=>k v H' d G' z1 (S1.trans z2) z3 z4⟩
theorem qooz(F:FnOk3 X.prog X.w X.K X.mg X.base k f fd ps sp)(hr:Room k X.A)(hm:X.mg x=some (.ref f))(hk:PySem.W.keepIn X.K (.ref f)=true)(hb:Binds X.K fd ps [])(ha:PA3 X (e::es) t)(hg:Gl X x:=by rfl)
  (hdb:(x==("__debug__":Str))=false:=by decide) (he:notStar e=true:=by rfl) (hpl:es.all notStar=true:=by rfl):
  PE3 X (.Call (.Name x p) (e::es) [] pos) (eCall sp t):=qoz (qmjz (E:=E0) F hr hg hm hk hb .nil pass0 ha hdb (qjz he) (qvz hpl)) fun σ H Q h=>qhdz h
end
section
variable {P:Program} {w:World} {K:PySem.W.Frag} {mg:Str->Option Value} {base:Heap}
def endsOf(Q:V3):Ends3:={ nx:=fun _ G'=>∃G0,Sub G0 G'/\Q .non G0,rt:=fun d G'=>∃G0,Sub G0 G'/\Q d G0 }
theorem fn3{x qual:Str}{st:Stmt}{f:Addr}{fd:FuncData}{N ps:List Str}{k:Nat}{sp:Sp3}(F:Fun K x qual st f fd)(S:FnScope N ps (defScope st))(hN:ps.length≤N.length)(len:∀ds G Q,sp ds G Q->ds.length=ps.length)(tb:TS3)
  (hbody:∀(cdv:Value) (A:Around) (outer:List Env) (s:Shared) (H:Hp) (E:XK),Room k (A.deeper (envOfC qual (defScope st) s.heap.objs.size f cdv)) ->
   PSs3 (cxOf CX0 P w K mg base N qual (defScope st) f cdv A outer s H E).nox (defBody st) tb)
  (hrd:∀ds G Q,sp ds G Q->tb (endsOf Q) (start3 N ds) G):FnOk3 P w K mg base (k+1) f fd ps sp:=by
 refine F.ok S (fun vs H Q E h=>?_) (fun cdv A outer s H vs Q E hr h=>?_)
 ·obtain⟨ds,G,Q3,h1,h2,h3,h4⟩:=h;rw[←h1.length];exact len _ _ _ h3
 ·obtain⟨ds,G,Q3,h1,h2,h3,h4⟩:=h;refine⟨_,hbody cdv A outer s H E hr,start3 N ds,G,endsOf Q3,.start h1 ?_,h2,hrd _ _ _ h3,⟨?_,?_,?_,?_⟩⟩
  ·rw[←h1.length,len _ _ _ h3];exact hN
  ·exact fun τ σ G' H' a b c ⟨G0,s0,q⟩=>h4 _ H' .non G0 (by simp[Hv]) (b.trans (.sub s0)) (c.sub s0) q
  ·exact fun τ σ G' H' a b c q=>q.elim
  ·exact fun τ σ G' H' a b c q=>q.elim
  ·exact fun d v G' H' a b c ⟨G0,s0,q⟩=>h4 _ H' d G0 a (b.trans (.sub s0)) (c.sub s0) q
end
end L3
namespace L3
open PySem PySem.Spec PyProof.Rows L2
structure Src where
 items:List D
 guard:Gp->Prop
structure SrcOk(K:PySem.W.Frag)(H0:Hp)(J:It)(S:Src):Prop where
 go:∀(i:Nat) d H G,Ext H0 H->RepG K G H->S.guard G->S.items[i]?=some d->J.go i H/\∀x H',J.yld i H x H'->Hv K H' d x/\Step H G H' G/\RepG K G H'
 stop:∀(i:Nat) H G,Ext H0 H->RepG K G H->S.guard G->S.items.length≤i->J.stop i H
abbrev TI3:=S3->Gp->(Src->Gp->Prop)->Prop
def lowI(K:PySem.W.Frag)(ti:TI3):TI:=fun σ H R=>∃τ G R3,RepS K τ σ H/\RepG K G H/\ti τ G R3/\∀J H' S G',SrcOk K H' J S->Step H G H' G'->RepG K G' H'->R3 S G'->R J H'
abbrev PI3(X:Cx)(tg iter:Expr)(ti:TI3):Prop:=PI X tg iter (lowI X.K ti)
section
variable {X:Cx} {tg iter:Expr} {pos p:Pos}
theorem qefz{t t':TI}(h:PI X tg iter t)(f:∀σ H R,t' σ H R->t σ H R):PI X tg iter t':=fun pins s σ H R I q=>h pins s σ H R I (f σ H R q)
def iSeq(te:TE3):TI3:=fun τ G R=>te τ G fun x G1=>match x with
 |.obj p=>∃ds,G1 p=some (.lst ds)/\R ⟨ds,fun G=>G p=some (.lst ds)⟩ G1
 |.tup ds=>R ⟨ds,fun _=>True⟩ G1
 |.scr ds=>R ⟨ds,fun _=>True⟩ G1
 |_=>False
theorem qopz{l:Expr}{te:TE3}(hl:PE3 X l te):PI3 X tg l (iSeq te):=by
 intro pins s σ H R I h;obtain⟨τ,G,R3,RS,RG,h,k⟩:=h
 -- the state carries what a list of the heap is
 refine thn (hl pins s σ H (fun v H'=>∃d G',Hv X.K H' d v/\Step H G H' G'/\RepG X.K G' H'/\(match d with
  |.obj p=>∃ds,G' p=some (.lst ds)/\R3 ⟨ds,fun G=>G p=some (.lst ds)⟩ G'
  |.tup ds=>R3 ⟨ds,fun _=>True⟩ G'
  |.scr ds=>R3 ⟨ds,fun _=>True⟩ G'
  | _=>False)) I ⟨τ,G,_,RS,RG,h,fun v H' d G' a b c q=>⟨d,G',a,b,c,q⟩⟩) fun v s1 ⟨x,H1,I1,r1,d,G1,hv,S1,R1,q⟩=>?_
 have hlist:∀(a:Addr) (its:List Value) (xs:List V),Vals xs its->PlainL s1.heap a its.toArray->R (Itl X.K a) H1->wpAny (model X.prog X.w) X.A (pyIter (.ref a)) (PIE X pins σ tg R) X.xe s1:=by
  intro a its xs rv p q;refine wpAny_pyIter_list p.isList ?_;refine⟨s1.heap.objs.size,[s1.heap.objs.size],_,_,H1,rfl,I1.kept (t':=s1.toks) fun b o e=>Heap.get?_push_of_some _ e,qlrz a _,⟨_,Heap.get?_push_size _ rfl,rfl,rfl⟩,fun b hb=>?_,q⟩;have e:b=s1.heap.objs.size:=by simpa using hb
  subst e;exact I1.fpOk (Nat.le_refl _) (I1.hok.fresh (Nat.le_refl _))
 cases d with
 |obj a=>
  unfold Hv at hv;subst hv;cases r1;obtain⟨ds,e1,q⟩:=q;obtain⟨vs,e2,e3⟩:=R1 a _ e1;obtain⟨its,rv,p,hz⟩:=I1.list (SqL.of e2);refine hlist a its vs rv p (k _ _ _ _ ⟨?_,?_⟩ S1 R1 q)
  ·intro i d H' G' E' RG' hg hi;obtain⟨vs',z1,z2⟩:=RG' a _ hg;obtain⟨v',y1,y2⟩:=z2.get hi;refine⟨⟨vs',v',.of z1,y1⟩,fun x H'' hy=>?_⟩;obtain⟨rfl,hy⟩:=hy;have:=hy vs' (.of z1);rw[y1] at this;cases this;exact⟨y2,.refl _ _,RG'⟩
  ·intro i H' G' E' RG' hg hi;obtain⟨vs',z1,z2⟩:=RG' a _ hg;exact⟨vs',.of z1,by rw[←z2.length];exact hi⟩
 |tup ds=>
  unfold Hv at hv;obtain⟨a,vs,rfl,e2,e3⟩:=hv;cases r1;obtain⟨its,rv,p,hz⟩:=I1.tuple e2;have hq:R (Itt X.K a) H1:=by
   refine k _ _ _ _ ⟨?_,?_⟩ S1 R1 q
   ·intro i d H' G' E' RG' hg hi;obtain⟨v',y1,y2⟩:=e3.get hi;refine⟨⟨vs,v',SqT.ext E' e2,y1⟩,fun x H'' hy=>?_⟩;obtain⟨rfl,hy⟩:=hy;have:=hy vs (SqT.ext E' e2);rw[y1] at this;cases this;exact⟨y2.ext E',.refl _ _,RG'⟩
   ·intro i H' G' E' RG' hg hi;exact⟨vs,SqT.ext E' e2,by rw[←e3.length];exact hi⟩
  refine wpAny_pyIter_tuple (show s1.heap.IsTuple a its.toArray from p) ?_;refine⟨s1.heap.objs.size,[s1.heap.objs.size],_,_,H1,rfl,I1.kept (t':=s1.toks) fun b o e=>Heap.get?_push_of_some _ e,qlsz a _,⟨_,Heap.get?_push_size _ rfl,rfl,rfl⟩,fun b hb=>?_,hq⟩;have e:b=s1.heap.objs.size:=by simpa using hb
  subst e;exact I1.fpOk (Nat.le_refl _) (I1.hok.fresh (Nat.le_refl _))
 |scr ds=>
  unfold Hv at hv;obtain⟨a,vs,rfl,e2,e3⟩:=hv;cases r1;obtain⟨its,rv,p,hz⟩:=I1.list e2.l;refine hlist a its vs rv p (k _ _ _ _ ⟨?_,?_⟩ S1 R1 q)
  ·intro i d H' G' E' RG' hg hi;obtain⟨v',y1,y2⟩:=e3.get hi;refine⟨⟨vs,v',(SqF.ext E' e2).l,y1⟩,fun x H'' hy=>?_⟩;obtain⟨rfl,hy⟩:=hy;have:=hy vs (SqF.ext E' e2).l;rw[y1] at this;cases this;exact⟨y2.ext E',.refl _ _,RG'⟩
  ·intro i H' G' E' RG' hg hi;exact⟨vs,(SqF.ext E' e2).l,by rw[←e3.length];exact hi⟩
 |non=>exact q.elim
 |bl _=>exact q.elim
 |int _=>exact q.elim
 |str _=>exact q.elim
 |dc _=>exact q.elim
def rngL(lo:Int)(n:Nat):List D:=(List.range n).map fun i:Nat=>.int (lo+(i:Int))
theorem qhez{lo:Int}{n i:Nat}{d:D}(h:(rngL lo n)[i]?=some d):i<n/\d=.int (lo+(i:Int)):=by
 unfold rngL at h;rw[List.getElem?_map] at h;by_cases hi:i<n
 ·rw[List.getElem?_range hi] at h;simp at h;exact⟨hi,h.symm⟩
 ·rw[List.getElem?_eq_none_iff.mpr (by simpa using hi)] at h;cases h
theorem qa5z(lo:Int)(n:Nat):(rngL lo n).length=n:=by simp[rngL]
theorem qhfz{K:PySem.W.Frag}{H:Hp}(lo:Int)(n:Nat):SrcOk K H (Itr lo n) ⟨rngL lo n,fun _=>True⟩:=⟨by
 intro i d H' G' _ RG _ hi;obtain⟨h1,h2⟩:=qhez hi;refine⟨h1,fun x H'' hy=>?_⟩;obtain⟨rfl,rfl⟩:=hy;exact⟨by rw[h2];simp[Hv],.refl _ _,RG⟩,by
 intro i H' G' _ RG _ hi;rw[qa5z] at hi;exact hi⟩
def iRng1(ta:TA3):TI3:=fun τ G R=>ta τ G fun ds G1=>match ds with
 |[.int j]=>(-(2^62)≤j/\j<2^62)/\R ⟨rngL 0 j.toNat,fun _=>True⟩ G1
 |_=>False
def iRng2(ta:TA3):TI3:=fun τ G R=>ta τ G fun ds G1=>match ds with
 |[.int i,.int j]=>(-(2^62)≤i/\i<2^62/\-(2^62)≤j/\j<2^62)/\R ⟨rngL i (j-i).toNat,fun _=>True⟩ G1
 |_=>False
theorem qoqz{a:Expr}{ta:TA3}(hm:X.mg "range" = none)(ha:PA3 X [a] ta)(hg:Gl X "range":=by rfl)(hs:notStar a=true:=by rfl):PI3 X tg (.Call (.Name "range" p) [a] [] pos) (iRng1 ta):=
 qefz (qluz hg hm ha (qjz hs)) fun σ H R ⟨τ,G,R3,RS,RG,h,k⟩=>⟨τ,G,_,RS,RG,h,fun vs H1 ds G1 h1 S1 R1 q1=>by
  rcases ds with _|⟨d,_|⟨d2,ds⟩⟩
  ·exact q1.elim
  ·cases d with
   |int j=>
    obtain⟨v,r,rfl,z1,z2⟩:=h1.inv;cases z2.inv0;unfold Hv at z1;exact⟨j,by rw[z1],q1.1.1,q1.1.2,k _ _ _ _ (qhfz 0 _) S1 R1 q1.2⟩
   |_=>exact q1.elim
  ·cases d<;>exact q1.elim⟩
theorem qorz{a b:Expr}{ta:TA3}(hm:X.mg "range" = none)(ha:PA3 X [a,b] ta)(hg:Gl X "range":=by rfl)(hs:notStar a=true:=by rfl)(hs2:notStar b=true:=by rfl):
  PI3 X tg (.Call (.Name "range" p) [a,b] [] pos) (iRng2 ta):=
 qefz (qlvz hg hm ha (by rw[qjz hs,qjz hs2];rfl) (qjz hs2)) fun σ H R ⟨τ,G,R3,RS,RG,h,k⟩=>⟨τ,G,_,RS,RG,h,fun vs H1 ds G1 h1 S1 R1 q1=>by
  rcases ds with _|⟨d,_|⟨d2,_|⟨d3,ds⟩⟩⟩
  ·exact q1.elim
  ·cases d<;>exact q1.elim
  ·cases d with
   |int i=>
    cases d2 with
    |int j=>
     obtain⟨v,r,rfl,z1,z2⟩:=h1.inv;obtain⟨v',r',rfl,z3,z4⟩:=z2.inv;cases z4.inv0;unfold Hv at z1 z3;exact⟨i,j,by rw[z1,z3],q1.1,k _ _ _ _ (qhfz i _) S1 R1 q1.2⟩
    |_=>exact q1.elim
   |_=>exact q1.elim
  ·cases d with
   |int i=>cases d2<;>exact q1.elim
   |_=>exact q1.elim⟩
def forGo(guard:Gp->Prop)(g:TG3)(tb:TS3)(D3:Ends3):List D->S3->Gp->Prop
 |[],τ,G=>guard G/\D3.nx τ G
 |d::ds,τ,G=>guard G/\g d τ G fun τ2 G2=>tb { D3 with nx:=forGo guard g tb D3 ds,ct:=forGo guard g tb D3 ds,bk:=D3.nx } τ2 G2
def sFor(ti:TI3)(g:TG3)(tb:TS3):TS3:=fun D3 τ G=>ti τ G fun S G1=>forGo S.guard g tb D3 S.items τ G1
theorem qosz{body:List Stmt}{ti:TI3}{g:TG3}{tb:TS3}(hp:PassesOwn (model X.prog X.w) X.A X.env X.xe)(hc:X.calm=true)(hi:PI3 X tg iter ti)(hg:PG3 X tg g)(hb:PSs3 X body tb)
  (hs:∀x,foldedSetIterable iter X.env x=pure x:=by intro _;rfl):PS3 X (.For tg iter body [] pos) (sFor ti g tb):=qaxz (qlxz hp hc hi hg hb hs) fun D2 σ H ⟨τ,G,D3,RS,RG,h,k⟩=>by
 refine⟨τ,G,_,RS,RG,h,fun J H1 S G1 ok S1 R1 q1=>?_⟩;refine⟨fun i m σ' H'=>∃τ' G',RepS X.K τ' σ' H'/\RepG X.K G' H'/\Step H G H' G'/\Ext H1 H'/\forGo S.guard g tb D3 (S.items.drop i) τ' G'/\m+i=S.items.length,⟨S.items.length,τ,G1,RS.ext (S1.ext RG),R1,S1,.refl H1,by simpa using q1,by lia⟩,?_⟩;rintro i m σ' H' ⟨τ',G',RS',RG',S',E',q,hm⟩;by_cases hlt:i<S.items.length
 ·have hd:S.items.drop i=S.items[i]::S.items.drop (i+1):=List.drop_eq_getElem_cons hlt;have hget:S.items[i]?=some S.items[i]:=List.getElem?_eq_getElem hlt;rw[hd] at q;obtain⟨hgd,q⟩:=q;obtain⟨z1,z2⟩:=ok.go i _ H' G' E' RG' hgd hget;refine .inr ⟨z1,fun σ2 H2=>∃τ2 G2,RepS X.K τ2 σ2 H2/\RepG X.K G2 H2/\Step H G H2 G2/\Ext H1 H2/\forGo S.guard g tb D3 (S.items.drop (i+1)) τ2 G2,fun σ2 H2 ⟨τ2,G2,a1,a2,a3,a4,a5⟩=>⟨m-1,by lia,τ2,G2,a1,a2,a3,a4,a5,by lia⟩,fun x H2 hy=>?_⟩;obtain⟨y1,y2,y3⟩:=z2 x H2 hy;refine⟨S.items[i],τ',G',_,y1,RS'.ext (y2.ext RG'),y3,q,fun τ3 σ3 G3 H3 b1 b2 b3 b4=>?_⟩;refine⟨τ3,G3,_,b1,b3,b4,⟨?_,?_,?_,?_⟩⟩
  ·exact fun τ4 σ4 G4 H4 c1 c2 c3 c4=>⟨τ4,G4,c1,c3,((S'.trans y2).trans b2).trans c2,((E'.trans (y2.ext RG')).trans (b2.ext y3)).trans (c2.ext b3),c4⟩
  ·exact fun τ4 σ4 G4 H4 c1 c2 c3 c4=>k.nx τ4 σ4 G4 H4 c1 (((S'.trans y2).trans b2).trans c2) c3 c4
  ·exact fun τ4 σ4 G4 H4 c1 c2 c3 c4=>⟨τ4,G4,c1,c3,((S'.trans y2).trans b2).trans c2,((E'.trans (y2.ext RG')).trans (b2.ext y3)).trans (c2.ext b3),c4⟩
  ·exact fun d v G4 H4 c1 c2 c3 c4=>k.rt d v G4 H4 c1 (((S'.trans y2).trans b2).trans c2) c3 c4
 ·have hd:S.items.drop i=[]:=List.drop_eq_nil_of_le (by lia);rw[hd] at q;exact .inl ⟨ok.stop i H' G' E' RG' q.1 (by lia),k.nx τ' σ' G' H' RS' S' RG' q.2⟩
def compGo(guard:Gp->Prop)(g:TG3)(tc:TT3)(te:TE3)(Q:List D->Gp->Prop):List D->List D->S3->Gp->Prop
 |[],acc,τ,G=>guard G/\Q acc G
 |d::ds,acc,τ,G=>guard G/\g d τ G fun τ2 G2=>tc τ2 G2 fun b G3=>Br b (te τ2 G3 fun v G4=>compGo guard g tc te Q ds (acc++[v]) τ2 G4) (compGo guard g tc te Q ds acc τ2 G3)
def cmp3(own:List Str)(js:List Nat)(τ:S3):S3:=(own.map fun _=>none)++js.map fun j=>at3 τ j
def eComp(own:List Str)(js:List Nat)(ti:TI3)(g:TG3)(tc:TT3)(te:TE3):TE3:=fun τ G Q=>ti τ G fun S G1=>S.items.length≤sizeLine ∧
 compGo S.guard g tc te (fun ds G2=>∀p G3,New G2 p (.lst ds) G3->Q (.obj p) G3) S.items [] (cmp3 own js τ) G1
theorem qdaz:∀(τ:S3) (i:Nat),at3 τ i=(τ[i]?).getD none
 |[],i=>by simp[at3]
 |x::r,0=>by simp[at3]
 |x::r,i+1=>by simp[at3,qdaz r i]
theorem RepS.cmp{K:PySem.W.Frag}{τ:S3}{σ:L2.St}{H:Hp}(own:List Str)(js:List Nat)(R:RepS K τ σ H):RepS K (cmp3 own js τ) (cmpSt own js σ) H:=⟨by simp[cmp3,cmpSt],fun i d h=>by
 rw[qdaz] at h;unfold cmp3 at h;by_cases hi:i<own.length
 ·rw[List.getElem?_append_left (by simpa using hi)] at h;rw[List.getElem?_map,List.getElem?_eq_getElem hi] at h;cases h
 ·rw[List.getElem?_append_right (by simpa using hi),List.getElem?_map] at h;simp only[List.length_map] at h;cases hj:js[i-own.length]? with
  |none=>rw[hj] at h;cases h
  |some j=>
   rw[hj] at h;have h':at3 τ j=some d:=h;obtain⟨v,e1,e2⟩:=R.at_ j d h';refine⟨v,?_,e2⟩;unfold cmpSt;rw[List.getElem?_append_right (by simpa using hi),List.getElem?_map];simp only[List.length_replicate,hj,Option.map_some,e1,Option.getD_some]⟩
def tNoTest3:TT3:=fun _ G Q=>Q true G
theorem qotz:PCt X [] (lowT X.K tNoTest3):=fun pins s σ H Q I ⟨τ,G,Q3,RS,RG,h,k⟩=>qn6z pins s σ H Q I (k true H G (.refl H G) RG h)
theorem qhgz{K:PySem.W.Frag}{own:List Str}{js:List Nat}{ti:TI3}{g:TG3}{tc:TT3}{te:TE3}{σ:L2.St}{H:Hp}{Q:VK}(h:low K (eComp own js ti g tc te) σ H Q):tLc own js (lowI K ti) (lowG K g) (lowT K tc) (low K te) σ H Q:=by
 obtain⟨τ,G,Q3,RS,RG,h,k⟩:=h;refine⟨τ,G,_,RS,RG,h,fun J H1 S G1 ok S1 R1 q1=>?_⟩;obtain⟨hz,q1⟩:=q1;intro p hp;have hGp:G1 p=none:=R1.free hp;refine⟨fun i m ys σ' H'=>∃τ' G' acc,RepS K τ' σ' H'/\RepG K G' H'/\Step H G H' G'/\Ext H1 H'/\H' p=some (.lst ys)/\G' p=none/\Hvs K H' acc ys ∧
  compGo S.guard g tc te (fun ds G2=>∀p G3,New G2 p (.lst ds) G3->Q3 (.obj p) G3) (S.items.drop i) acc τ' G'/\m+i=S.items.length/\ys.length≤i,?_,?_⟩
 ·have E1:Ext H1 (upd H1 p (.lst [])):=.laid hp;exact⟨S.items.length,cmp3 own js τ,G1,[],((RS.ext (S1.ext RG)).cmp own js).ext E1,R1.laid hp,S1.trans (.laid hp),E1,qnz,hGp,.nil,by simpa using q1,by lia,Nat.zero_le _⟩
 rintro i m ys σ' H' ⟨τ',G',acc,RS',RG',S',E',hpl,hG',hacc,q,hm,hy⟩;refine⟨hpl,?_⟩;by_cases hlt:i<S.items.length
 ·have hd:S.items.drop i=S.items[i]::S.items.drop (i+1):=List.drop_eq_getElem_cons hlt;have hget:S.items[i]?=some S.items[i]:=List.getElem?_eq_getElem hlt;rw[hd] at q;obtain⟨hgd,q⟩:=q;obtain⟨z1,z2⟩:=ok.go i _ H' G' E' RG' hgd hget;refine .inr ⟨z1,by lia,fun x H2 hyl=>?_⟩;obtain⟨y1,y2,y3⟩:=z2 x H2 hyl
  -- what is not in G stays
  have keep:∀{Ha Hb:Hp} {Ga Gb:Gp},Step Ha Ga Hb Gb->Ha p=some (.lst ys)->Ga p=none->Hb p=some (.lst ys)/\Gb p=none:=fun {Ha Hb Ga Gb} st e n=>by
   refine⟨st.fr p _ e n,?_⟩;refine Classical.byContradiction fun z=>?_;rw[st.new p n z] at e;cases e
  obtain⟨p2,n2⟩:=keep y2 hpl hG';refine⟨S.items[i],τ',G',_,y1,RS'.ext (y2.ext RG'),y3,q,fun τ3 σ3 G3 H3 b1 b2 b3 b4=>?_⟩;obtain⟨p3,n3⟩:=keep b2 p2 n2;refine⟨τ3,G3,_,b1,b3,b4,fun bb H4 G4 c1 c2 c3=>?_⟩;obtain⟨p4,n4⟩:=keep c1 p3 n3;have E4:Ext H' H4:=((y2.ext RG').trans (b2.ext y3)).trans (c1.ext b3);have S4:Step H G H4 G4:=((S'.trans y2).trans b2).trans c1;have RS4:=b1.ext (c1.ext b3);refine Br.ite c3 (fun c3=>?_) fun c3=>?_
  ·refine⟨τ3,G4,_,RS4,c2,c3,fun v H5 d G5 e1 e2 e3 e4=>?_⟩;obtain⟨p5,n5⟩:=keep e2 p4 n4;refine⟨p5,m-1,by lia,τ3,G5,acc++[d],?_,?_,?_,?_,qnz,n5,?_,e4,by lia,by rw[List.length_append];simp;lia⟩
   ·exact (RS4.ext (e2.ext c2)).ext (.wrote p5)
   ·intro a o e;have hne:a≠p:=fun z=>by
     rw[z,n5] at e;cases e
    exact (e3 a o e).ext (.wrote p5) (qfz hne)
   ·refine⟨fun a o e n=>?_,fun a q=>?_,fun a n q=>((S4.trans e2).new a n q)⟩
    ·by_cases hne:a=p
     ·exfalso;rw[hne] at e n;have hh:=S1.fr p o e n;rw[hp] at hh;cases hh
     ·rw[qfz hne];exact (S4.trans e2).fr a o e n
    ·by_cases hne:a=p
     ·rw[hne,qnz];simp
     ·rw[qfz hne];exact (S4.trans e2).trk a q
   ·exact ((E'.trans E4).trans (e2.ext c2)).trans (.wrote p5)
   ·have E5:Ext H' (upd H5 p (.lst (ys++[v]))):=(E4.trans (e2.ext c2)).trans (.wrote p5);exact (hacc.ext E5).append (.cons (e1.ext (.wrote p5)) .nil)
  ·exact⟨m-1,by lia,τ3,G4,acc,RS4,c2,S4,E'.trans E4,p4,n4,hacc.ext E4,c3,by lia,by lia⟩
 ·have hd:S.items.drop i=[]:=List.drop_eq_nil_of_le (by lia);rw[hd] at q;refine .inl ⟨ok.stop i H' G' E' RG' q.1 (by lia),?_⟩;refine k _ H' (.obj p) (upd3 G' p (.lst acc)) (by simp[Hv]) ?_ ?_ (q.2 p _ (.mk' hG'))
  ·refine⟨S'.fr,S'.trk,fun a n z=>?_⟩;by_cases hne:a=p
   ·rw[hne];cases hh:H p with
    |none=>rfl
    |some o=>
     exfalso;rw[hne] at n;have:=S1.fr p o hh n;rw[hp] at this;cases this
   ·rw[q5z hne] at z;exact S'.new a n z
  ·intro a o e;by_cases hne:a=p
   ·rw[hne,qabz] at e;cases e;rw[hne];exact⟨ys,hpl,hacc⟩
   ·rw[q5z hne] at e;exact RG' a o e
theorem qouz{elt:Expr}{ifs:List Expr}{scope:Scope}{own:List Str}{js:List Nat}{ti:TI3}{g:TG3}{tc:TT3}{te:TE3}(hc:X.calm=true)(C:CmpOk X.N X.env.scope scope own js)(hi:PI3 X tg iter ti)
  (hb:∀s H fp,PG3 (X.cmp scope own js s H fp) tg g/\PCt (X.cmp scope own js s H fp) ifs (lowT X.K tc)/\PE3 (X.cmp scope own js s H fp) elt te)
  (hs:∀x,foldedSetIterable iter X.env x=pure x:=by intro _;rfl):PE3 X (.ListComp elt [⟨tg,iter,ifs,0⟩] scope pos) (eComp own js ti g tc te):=
 qoz (qn8z hc C hi hb hs) fun σ H Q h=>qhgz h
theorem qovz{elt:Expr}{ifs:List Expr}{scope:Scope}{own:List Str}{js:List Nat}{ti:TI3}{g:TG3}{tc:TT3}{te:TE3}{i:Nat}{y:Str}{py spos:Pos}(hc:X.calm=true)(hN:X.N.Nodup)(C:CmpOk X.N X.env.scope scope own js)(hi:PI3 X tg iter ti)
  (hb:∀s H fp,PG3 (X.cmp scope own js s H fp) tg g/\PCt (X.cmp scope own js s H fp) ifs (lowT X.K tc)/\PE3 (X.cmp scope own js s H fp) elt te) (hy:X.N[i]?=some y:=by rfl) (hyl:X.env.scope.names.lookup y=some .local:=by rfl)
  (hsw:swapsWith (.ListComp elt [⟨tg,iter,ifs,0⟩] scope pos) (some (.Name y py)) spos.line X.env=pure true:=by rfl)
  (hs:∀x,foldedSetIterable iter X.env x=pure x:=by intro _;rfl):PS3 X (.Assign [.Name y py] (.ListComp elt [⟨tg,iter,ifs,0⟩] scope pos) spos) (sAsg (eComp own js ti g tc te) (hName i)):=
 qaxz (qn9z hc hN hy hyl C hi hb hsw hs) fun D2 σ H ⟨τ,G,D3,RS,RG,h,k⟩=>
  qhgz ⟨τ,G,_,RS,RG,h,fun v H1 d G1 h1 S1 R1 q1=>k.nx _ _ G1 H1 ((RS.ext (S1.ext RG)).set h1) S1 R1 q1⟩
theorem qowz{guard:Gp->Prop}{g:TG3}{tb:TS3}{D3:Ends3}(I:List D->S3->Gp->Prop)(hg:∀ds τ G,I ds τ G->guard G)
  (step:∀d ds τ G,I (d::ds) τ G->g d τ G fun τ2 G2=>tb { D3 with nx:=I ds,ct:=I ds,bk:=D3.nx } τ2 G2) (hend:∀τ G,I [] τ G->D3.nx τ G)
  (mono:∀(N N':S3->Gp->Prop),(∀τ G,N τ G->N' τ G)->∀d τ G,(g d τ G fun τ2 G2=>tb { D3 with nx:=N,ct:=N,bk:=D3.nx } τ2 G2)->g d τ G fun τ2 G2=>tb { D3 with nx:=N',ct:=N',bk:=D3.nx } τ2 G2):
  ∀ds τ G,I ds τ G->forGo guard g tb D3 ds τ G
 |[],τ,G,h=>⟨hg _ _ _ h,hend _ _ h⟩
 |d::ds,τ,G,h=>⟨hg _ _ _ h,mono (I ds) _ (fun τ G q=>qowz I hg step hend mono ds τ G q) d τ G (step d ds τ G h)⟩
theorem qcaz{guard:Gp->Prop}{g:TG3}{tb:TS3}{D3:Ends3}(I:List D->S3->Gp->Prop)(hg:∀ds τ G,I ds τ G->guard G)
  (step:∀d ds τ G (N:S3->Gp->Prop),I (d::ds) τ G->(∀τ' G',I ds τ' G'->N τ' G')->g d τ G fun τ2 G2=>tb { D3 with nx:=N,ct:=N,bk:=D3.nx } τ2 G2) (hend:∀τ G,I [] τ G->D3.nx τ G):
  ∀ds τ G,I ds τ G->forGo guard g tb D3 ds τ G
 |[],τ,G,h=>⟨hg _ _ _ h,hend _ _ h⟩
 |d::ds,τ,G,h=>⟨hg _ _ _ h,step d ds τ G _ h fun τ' G' q=>qcaz I hg step hend ds τ' G' q⟩
end
end L3
namespace Dat
open PySem PySem.SeqAt
inductive D where
 |non|bl (b:Bool)|int (i:Int)|str (x:Str)|tup (xs:List D)|lst (xs:List D)|dct
mutual
def D.eqb:D->D->Bool
 |.non,.non=>true
 |.bl a,.bl b=>a==b
 |.bl a,.int b=>(if a then 1 else 0)==b
 |.int a,.bl b=>a==(if b then 1 else 0)
 |.int a,.int b=>a==b
 |.str a,.str b=>a==b
 |.tup xs,.tup ys=>eqbs xs ys
 |.lst xs,.lst ys=>eqbs xs ys
 |_,_=>false
def eqbs:List D->List D->Bool
 |[],[]=>true
 |x::xs,y::ys=>x.eqb y&&eqbs xs ys
 |_,_=>false
end
mutual
def D.dep:D->Nat
 |.tup xs=>deps xs+1
 |.lst xs=>deps xs+1
 |_=>0
def deps:List D->Nat
 |[]=>0
 |x::xs=>max x.dep (deps xs)
end
theorem dep_mem{d:D}:∀{xs:List D},d∈xs->d.dep≤deps xs
 |x::xs,h=>by
  unfold deps;rcases List.mem_cons.mp h with e|e
  ·rw[e];exact Nat.le_max_left _ _
  ·exact Nat.le_trans (dep_mem e) (Nat.le_max_right _ _)
mutual
def Hv(h:Heap):D->Value->Prop
 |.non,u=>u=.none
 |.bl b,u=>u=.bool b
 |.int i,u=>∃t,u=.int i t
 |.str x,u=>∃t,u=.str x t
 |.tup ds,u=>∃(a:Addr) (its:List Value),u=.ref a/\h.IsTuple a its.toArray/\Hvs h ds its
 |.lst ds,u=>∃(a:Addr) (its:List Value),u=.ref a/\h.IsList a its.toArray/\Hvs h ds its
 |.dct,_=>False
def Hvs(h:Heap):List D->List Value->Prop
 |[],us=>us=[]
 |d::ds,us=>∃u r,us=u::r/\Hv h d u/\Hvs h ds r
end
theorem Hvs.length{h:Heap}:∀{ds:List D} {us:List Value},Hvs h ds us->us.length=ds.length
 |[],us,e=>by
  unfold Hvs at e;rw[e];rfl
 |d::ds,us,e=>by
  unfold Hvs at e;obtain⟨u,r,rfl,_,e2⟩:=e;rw[List.length_cons,List.length_cons,e2.length]
theorem Hvs.get{h:Heap}:∀{ds:List D} {us:List Value} {j:Nat} {d:D} {u:Value},Hvs h ds us->ds[j]?=some d->us[j]?=some u->Hv h d u
 |[],_,_,_,_,_,e,_=>by simp at e
 |d::ds,us,0,_,_,q,e1,e2=>by
  unfold Hvs at q;obtain⟨u,r,rfl,q1,_⟩:=q;simp at e1 e2;rw[←e1,←e2];exact q1
 |d::ds,us,j+1,_,_,q,e1,e2=>by
  unfold Hvs at q;obtain⟨u,r,rfl,_,q2⟩:=q;exact q2.get (j:=j) (by simpa using e1) (by simpa using e2)
theorem qhhz{h:Heap}{a:Addr}{xs ys:Array Value}(hl:h.IsList a xs)(ht:h.IsTuple a ys):False:=by
 obtain⟨o,ho,hc,_⟩:=hl;obtain⟨o',ho',hc',_⟩:=ht;rw[ho] at ho';cases ho';rw[hc] at hc';exact absurd hc' (by decide)
mutual
theorem Hv.inj{h:Heap}:∀{d e:D} {u:Value},Hv h d u->Hv h e u->d=e
 |d,e,u,p,q=>by
  cases d with
  |non=>unfold Hv at p;subst p;cases e<;>unfold Hv at q<;>first|rfl|(simp at q)
  |bl b=>unfold Hv at p;subst p;cases e<;>unfold Hv at q<;>first|(simp at q;rw[q])|(simp at q)
  |int b=>unfold Hv at p;obtain⟨t,rfl⟩:=p;cases e<;>unfold Hv at q<;>first|(simp at q;rw[q])|(simp at q)
  |str b=>unfold Hv at p;obtain⟨t,rfl⟩:=p;cases e<;>unfold Hv at q<;>first|(simp at q;rw[q])|(simp at q)
  |dct=>unfold Hv at p;exact p.elim
  |tup ds=>
   unfold Hv at p;obtain⟨a,its,rfl,ha,p⟩:=p;cases e with
   |tup es=>
    unfold Hv at q;obtain⟨a',its',e1,ha',q⟩:=q;cases e1;have e2:its=its':=by
     obtain⟨o,ho,_,n,hd⟩:=ha;obtain⟨o',ho',_,n',hd'⟩:=ha';rw[ho] at ho';cases ho';rw[hd] at hd';injection hd' with e3 _
     simpa using congrArg Array.toList e3
    subst e2;rw[Hvs.inj p q]
   |lst es=>
    unfold Hv at q;obtain⟨a',its',e1,ha',q⟩:=q;cases e1;exact (qhhz ha' ha).elim
   |_=>unfold Hv at q<;>simp at q
  |lst ds=>
   unfold Hv at p;obtain⟨a,its,rfl,ha,p⟩:=p;cases e with
   |lst es=>
    unfold Hv at q;obtain⟨a',its',e1,ha',q⟩:=q;cases e1;have e2:its=its':=by
     obtain⟨o,ho,_,n,hd⟩:=ha;obtain⟨o',ho',_,n',hd'⟩:=ha';rw[ho] at ho';cases ho';rw[hd] at hd';injection hd' with e3 _
     simpa using congrArg Array.toList e3
    subst e2;rw[Hvs.inj p q]
   |tup es=>
    unfold Hv at q;obtain⟨a',its',e1,ha',q⟩:=q;cases e1;exact (qhhz ha ha').elim
   |_=>unfold Hv at q<;>simp at q
theorem Hvs.inj{h:Heap}:∀{ds es:List D} {us:List Value},Hvs h ds us->Hvs h es us->ds=es
 |[],[],_,_,_=>rfl
 |[],e::es,us,p,q=>by
  unfold Hvs at p q;subst p;obtain⟨_,_,e1,_⟩:=q;cases e1
 |d::ds,[],us,p,q=>by
  unfold Hvs at p q;subst q;obtain⟨_,_,e1,_⟩:=p;cases e1
 |d::ds,e::es,us,p,q=>by
  unfold Hvs at p q;obtain⟨u,r,rfl,p1,p2⟩:=p;obtain⟨u',r',e1,q1,q2⟩:=q;cases e1;rw[Hv.inj p1 q1,Hvs.inj p2 q2]
end
theorem qa6z:∀(ds es:List D),((List.range (min ds.length es.length)).all (fun j=>(ds.getD j .non).eqb (es.getD j .non))&&ds.length==es.length)=eqbs ds es
 |[],[]=>by simp[eqbs]
 |[],e::es=>by simp[eqbs]
 |d::ds,[]=>by simp[eqbs]
 |d::ds,e::es=>by
  have ih:=qa6z ds es;unfold eqbs;rw[←ih];rw[List.length_cons,List.length_cons,show min (ds.length+1) (es.length+1)=min ds.length es.length+1 by lia,List.range_succ_eq_map,List.all_cons,List.all_map];have e1:((ds.length+1==es.length+1):Bool)=(ds.length==es.length):=by simp
  rw[e1,Bool.and_assoc];rfl
theorem qdbz:∀(ds es:List D),ds.length≠es.length->eqbs ds es=false
 |[],[],h=>absurd rfl h
 |[],e::es,_=>rfl
 |d::ds,[],_=>rfl
 |d::ds,e::es,h=>by
  unfold eqbs;rw[qdbz ds es (by simpa using h),Bool.and_false]
mutual
theorem Hv.refl{h:Heap}:∀{d:D} {u:Value},Hv h d u->d.eqb d=true
 |.non,_,_=>rfl
 |.bl b,_,_=>by unfold D.eqb;simp
 |.int b,_,_=>by unfold D.eqb;simp
 |.str b,_,_=>by unfold D.eqb;simp
 |.dct,_,p=>by unfold Hv at p;exact p.elim
 |.tup ds,_,p=>by
  unfold Hv at p;obtain⟨_,_,_,_,p⟩:=p;unfold D.eqb;exact Hvs.refl p
 |.lst ds,_,p=>by
  unfold Hv at p;obtain⟨_,_,_,_,p⟩:=p;unfold D.eqb;exact Hvs.refl p
theorem Hvs.refl{h:Heap}:∀{ds:List D} {us:List Value},Hvs h ds us->eqbs ds ds=true
 |[],_,_=>rfl
 |d::ds,us,p=>by
  unfold Hvs at p;obtain⟨u,r,_,p1,p2⟩:=p;unfold eqbs;rw[Hv.refl p1,Hvs.refl p2];rfl
end
theorem q0z{h:Heap}{ds:List D}{us:List Value}(p:Hvs h ds us){j:Nat}(hj:j<us.toArray.size):Hv h (ds.getD j .non) (us.toArray[j])/\ds.getD j .non∈ds:=by
 have hl:=p.length;have hj':j<ds.length:=by simp at hj;lia
 have e1:ds[j]?=some (ds.getD j .non):=by simp[hj']
 exact⟨p.get e1 (by simp at hj;simp[hj]),List.mem_of_getElem? e1⟩
theorem eqAt{s:Shared}:∀(d e:D) (u v:Value) (A:Around),Hv s.heap d u->Hv s.heap e v->A.units+d.dep+1<cLine->EqAt A s u v (d.eqb e)
 |.non,.non,u,v,A,p1,p2,hu=>by
  unfold Hv at p1;subst p1;unfold Hv at p2;subst p2;exact EqAt.same _
 |.non,.bl b2,u,v,A,p1,p2,hu=>by
  unfold Hv at p1;subst p1;unfold Hv at p2;subst p2;exact EqAt.none_bool  b2
 |.non,.int b2,u,v,A,p1,p2,hu=>by
  unfold Hv at p1;subst p1;unfold Hv at p2;obtain⟨t2,rfl⟩:=p2;exact EqAt.none_int  b2 t2
 |.non,.str b2,u,v,A,p1,p2,hu=>by
  unfold Hv at p1;subst p1;unfold Hv at p2;obtain⟨t2,rfl⟩:=p2;exact EqAt.none_str  b2 t2
 |.non,.tup ds2,u,v,A,p1,p2,hu=>by
  unfold Hv at p1;subst p1;unfold Hv at p2;obtain⟨a2,its2,rfl,l2,p2⟩:=p2;exact EqAt.none_tuple  l2 (by lia)
 |.non,.lst ds2,u,v,A,p1,p2,hu=>by
  unfold Hv at p1;subst p1;unfold Hv at p2;obtain⟨a2,its2,rfl,l2,p2⟩:=p2;exact EqAt.none_list  l2 (by lia)
 |.bl b1,.non,u,v,A,p1,p2,hu=>by
  unfold Hv at p1;subst p1;unfold Hv at p2;subst p2;exact EqAt.bool_none b1
 |.bl b1,.bl b2,u,v,A,p1,p2,hu=>by
  unfold Hv at p1;subst p1;unfold Hv at p2;subst p2;exact EqAt.bool_bool b1 b2
 |.bl b1,.int b2,u,v,A,p1,p2,hu=>by
  unfold Hv at p1;subst p1;unfold Hv at p2;obtain⟨t2,rfl⟩:=p2;exact EqAt.bool_int b1 b2 t2
 |.bl b1,.str b2,u,v,A,p1,p2,hu=>by
  unfold Hv at p1;subst p1;unfold Hv at p2;obtain⟨t2,rfl⟩:=p2;exact EqAt.bool_str b1 b2 t2
 |.bl b1,.tup ds2,u,v,A,p1,p2,hu=>by
  unfold Hv at p1;subst p1;unfold Hv at p2;obtain⟨a2,its2,rfl,l2,p2⟩:=p2;exact EqAt.bool_tuple b1 l2 (by lia)
 |.bl b1,.lst ds2,u,v,A,p1,p2,hu=>by
  unfold Hv at p1;subst p1;unfold Hv at p2;obtain⟨a2,its2,rfl,l2,p2⟩:=p2;exact EqAt.bool_list b1 l2 (by lia)
 |.int b1,.non,u,v,A,p1,p2,hu=>by
  unfold Hv at p1;obtain⟨t1,rfl⟩:=p1;unfold Hv at p2;subst p2;exact EqAt.int_none b1 t1
 |.int b1,.bl b2,u,v,A,p1,p2,hu=>by
  unfold Hv at p1;obtain⟨t1,rfl⟩:=p1;unfold Hv at p2;subst p2;exact EqAt.int_bool b1 t1 b2
 |.int b1,.int b2,u,v,A,p1,p2,hu=>by
  unfold Hv at p1;obtain⟨t1,rfl⟩:=p1;unfold Hv at p2;obtain⟨t2,rfl⟩:=p2;exact EqAt.int_int b1 t1 b2 t2
 |.int b1,.str b2,u,v,A,p1,p2,hu=>by
  unfold Hv at p1;obtain⟨t1,rfl⟩:=p1;unfold Hv at p2;obtain⟨t2,rfl⟩:=p2;exact EqAt.int_str b1 t1 b2 t2
 |.int b1,.tup ds2,u,v,A,p1,p2,hu=>by
  unfold Hv at p1;obtain⟨t1,rfl⟩:=p1;unfold Hv at p2;obtain⟨a2,its2,rfl,l2,p2⟩:=p2;exact EqAt.int_tuple b1 t1 l2 (by lia)
 |.int b1,.lst ds2,u,v,A,p1,p2,hu=>by
  unfold Hv at p1;obtain⟨t1,rfl⟩:=p1;unfold Hv at p2;obtain⟨a2,its2,rfl,l2,p2⟩:=p2;exact EqAt.int_list b1 t1 l2 (by lia)
 |.str b1,.non,u,v,A,p1,p2,hu=>by
  unfold Hv at p1;obtain⟨t1,rfl⟩:=p1;unfold Hv at p2;subst p2;exact EqAt.str_none b1 t1
 |.str b1,.bl b2,u,v,A,p1,p2,hu=>by
  unfold Hv at p1;obtain⟨t1,rfl⟩:=p1;unfold Hv at p2;subst p2;exact EqAt.str_bool b1 t1 b2
 |.str b1,.int b2,u,v,A,p1,p2,hu=>by
  unfold Hv at p1;obtain⟨t1,rfl⟩:=p1;unfold Hv at p2;obtain⟨t2,rfl⟩:=p2;exact EqAt.str_int b1 t1 b2 t2
 |.str b1,.str b2,u,v,A,p1,p2,hu=>by
  unfold Hv at p1;obtain⟨t1,rfl⟩:=p1;unfold Hv at p2;obtain⟨t2,rfl⟩:=p2;exact EqAt.str_str b1 t1 b2 t2
 |.str b1,.tup ds2,u,v,A,p1,p2,hu=>by
  unfold Hv at p1;obtain⟨t1,rfl⟩:=p1;unfold Hv at p2;obtain⟨a2,its2,rfl,l2,p2⟩:=p2;exact EqAt.str_tuple b1 t1 l2 (by lia)
 |.str b1,.lst ds2,u,v,A,p1,p2,hu=>by
  unfold Hv at p1;obtain⟨t1,rfl⟩:=p1;unfold Hv at p2;obtain⟨a2,its2,rfl,l2,p2⟩:=p2;exact EqAt.str_list b1 t1 l2 (by lia)
 |.tup ds1,.non,u,v,A,p1,p2,hu=>by
  unfold Hv at p1;obtain⟨a1,its1,rfl,l1,p1⟩:=p1;unfold Hv at p2;subst p2;exact EqAt.tuple_none  l1 (by lia)
 |.tup ds1,.bl b2,u,v,A,p1,p2,hu=>by
  unfold Hv at p1;obtain⟨a1,its1,rfl,l1,p1⟩:=p1;unfold Hv at p2;subst p2;exact EqAt.tuple_bool b2 l1 (by lia)
 |.tup ds1,.int b2,u,v,A,p1,p2,hu=>by
  unfold Hv at p1;obtain⟨a1,its1,rfl,l1,p1⟩:=p1;unfold Hv at p2;obtain⟨t2,rfl⟩:=p2;exact EqAt.tuple_int b2 t2 l1 (by lia)
 |.tup ds1,.str b2,u,v,A,p1,p2,hu=>by
  unfold Hv at p1;obtain⟨a1,its1,rfl,l1,p1⟩:=p1;unfold Hv at p2;obtain⟨t2,rfl⟩:=p2;exact EqAt.tuple_str b2 t2 l1 (by lia)
 |.tup ds1,.tup ds2,u,v,A,p1,p2,hu=>by
  unfold Hv at p1;obtain⟨a1,its1,rfl,l1,p1⟩:=p1;unfold Hv at p2;obtain⟨a2,its2,rfl,l2,p2⟩:=p2;unfold D.eqb;by_cases ha:a1=a2
  ·subst ha;have e0:(.tup ds1:D)=.tup ds2:=Hv.inj (h:=s.heap) (u:=.ref a1) (by unfold Hv;exact⟨a1,its1,rfl,l1,p1⟩) (by unfold Hv;exact⟨a1,its2,rfl,l2,p2⟩);injection e0 with e0;subst e0;rw[p1.refl];exact EqAt.same _
  ·refine EqAt.of_refs ha ?_;have hdep:A.units+deps ds1+1+1<cLine:=by
    have e9:(.tup ds1:D).dep=deps ds1+1:=by first|rfl|(unfold D.dep;rfl)
    lia
   have q:=RcAt.tuples (e:=fun j=>(ds1.getD j .non).eqb (ds2.getD j .non)) l1 l2 (by lia) fun j h1 h2=>
    have m:=(q0z p1 h1).2
    eqAt (ds1.getD j .non) (ds2.getD j .non) _ _ A.in1 (q0z p1 h1).1 (q0z p2 h2).1 (by
     have:=dep_mem m;show A.units+1+_+1<cLine;lia)
   rw[List.size_toArray,List.size_toArray,p1.length,p2.length,qa6z] at q;exact q
 |.tup ds1,.lst ds2,u,v,A,p1,p2,hu=>by
  unfold Hv at p1;obtain⟨a1,its1,rfl,l1,p1⟩:=p1;unfold Hv at p2;obtain⟨a2,its2,rfl,l2,p2⟩:=p2;exact EqAt.tuple_list l1 l2 (by lia)
 |.lst ds1,.non,u,v,A,p1,p2,hu=>by
  unfold Hv at p1;obtain⟨a1,its1,rfl,l1,p1⟩:=p1;unfold Hv at p2;subst p2;exact EqAt.list_none  l1 (by lia)
 |.lst ds1,.bl b2,u,v,A,p1,p2,hu=>by
  unfold Hv at p1;obtain⟨a1,its1,rfl,l1,p1⟩:=p1;unfold Hv at p2;subst p2;exact EqAt.list_bool b2 l1 (by lia)
 |.lst ds1,.int b2,u,v,A,p1,p2,hu=>by
  unfold Hv at p1;obtain⟨a1,its1,rfl,l1,p1⟩:=p1;unfold Hv at p2;obtain⟨t2,rfl⟩:=p2;exact EqAt.list_int b2 t2 l1 (by lia)
 |.lst ds1,.str b2,u,v,A,p1,p2,hu=>by
  unfold Hv at p1;obtain⟨a1,its1,rfl,l1,p1⟩:=p1;unfold Hv at p2;obtain⟨t2,rfl⟩:=p2;exact EqAt.list_str b2 t2 l1 (by lia)
 |.lst ds1,.tup ds2,u,v,A,p1,p2,hu=>by
  unfold Hv at p1;obtain⟨a1,its1,rfl,l1,p1⟩:=p1;unfold Hv at p2;obtain⟨a2,its2,rfl,l2,p2⟩:=p2;exact EqAt.list_tuple l1 l2 (by lia)
 |.lst ds1,.lst ds2,u,v,A,p1,p2,hu=>by
  unfold Hv at p1;obtain⟨a1,its1,rfl,l1,p1⟩:=p1;unfold Hv at p2;obtain⟨a2,its2,rfl,l2,p2⟩:=p2;unfold D.eqb;by_cases ha:a1=a2
  ·subst ha;have e0:(.lst ds1:D)=.lst ds2:=Hv.inj (h:=s.heap) (u:=.ref a1) (by unfold Hv;exact⟨a1,its1,rfl,l1,p1⟩) (by unfold Hv;exact⟨a1,its2,rfl,l2,p2⟩);injection e0 with e0;subst e0;rw[p1.refl];exact EqAt.same _
  ·refine EqAt.of_refs ha ?_;have hdep:A.units+deps ds1+1+1<cLine:=by
    have e9:(.lst ds1:D).dep=deps ds1+1:=by first|rfl|(unfold D.dep;rfl)
    lia
   by_cases hn:ds1.length=ds2.length
   ·have q:=RcAt.lists (e:=fun j=>(ds1.getD j .non).eqb (ds2.getD j .non)) l1 l2 (by simp[p1.length,p2.length,hn]) (by lia) fun j h1 h2=>
     have m:=(q0z p1 h1).2
     eqAt (ds1.getD j .non) (ds2.getD j .non) _ _ A.in1 (q0z p1 h1).1 (q0z p2 h2).1 (by
      have:=dep_mem m;show A.units+1+_+1<cLine;lia)
    have q2:=qa6z ds1 ds2;rw[hn,Nat.min_self,beq_self_eq_true,Bool.and_true] at q2;rw[List.size_toArray,p1.length,hn,q2] at q;exact q
   ·rw[qdbz _ _ hn];exact RcAt.lists_lengths l1 l2 (by simp[p1.length,p2.length,hn]) (by lia)
 |.non,.dct,u,v,A,p1,p2,hu=>by
  unfold Hv at p2;exact p2.elim
 |.bl b1,.dct,u,v,A,p1,p2,hu=>by
  unfold Hv at p2;exact p2.elim
 |.int b1,.dct,u,v,A,p1,p2,hu=>by
  unfold Hv at p2;exact p2.elim
 |.str b1,.dct,u,v,A,p1,p2,hu=>by
  unfold Hv at p2;exact p2.elim
 |.tup ds1,.dct,u,v,A,p1,p2,hu=>by
  unfold Hv at p2;exact p2.elim
 |.lst ds1,.dct,u,v,A,p1,p2,hu=>by
  unfold Hv at p2;exact p2.elim
 |.dct,e,u,v,A,p1,p2,hu=>by
  unfold Hv at p1;exact p1.elim
termination_by d=>sizeOf d
decreasing_by
 all_goals (have:=List.sizeOf_lt_of_mem m;first|(rw[D.tup.sizeOf_spec];lia)|(rw[D.lst.sizeOf_spec];lia))
theorem rcAt{s:Shared}(d e:D)(u v:Value)(A:Around)(p1:Hv s.heap d u)(p2:Hv s.heap e v)(hu:A.units+d.dep+1<cLine):RcAt A s u v (d.eqb e):=
 match d,e,p1,p2,hu with
 |.non,.non,p1,p2,hu=>by
  unfold Hv at p1;subst p1;unfold Hv at p2;subst p2;exact RcAt.none_none
 |.non,.bl b2,p1,p2,hu=>by
  unfold Hv at p1;subst p1;unfold Hv at p2;subst p2;exact RcAt.none_bool  b2
 |.non,.int b2,p1,p2,hu=>by
  unfold Hv at p1;subst p1;unfold Hv at p2;obtain⟨t2,rfl⟩:=p2;exact RcAt.none_int  b2 t2
 |.non,.str b2,p1,p2,hu=>by
  unfold Hv at p1;subst p1;unfold Hv at p2;obtain⟨t2,rfl⟩:=p2;exact RcAt.none_str  b2 t2
 |.non,.tup ds2,p1,p2,hu=>by
  unfold Hv at p1;subst p1;unfold Hv at p2;obtain⟨a2,its2,rfl,l2,p2⟩:=p2;exact RcAt.none_tuple  l2 (by lia)
 |.non,.lst ds2,p1,p2,hu=>by
  unfold Hv at p1;subst p1;unfold Hv at p2;obtain⟨a2,its2,rfl,l2,p2⟩:=p2;exact RcAt.none_list  l2 (by lia)
 |.bl b1,.non,p1,p2,hu=>by
  unfold Hv at p1;subst p1;unfold Hv at p2;subst p2;exact RcAt.bool_none b1
 |.bl b1,.bl b2,p1,p2,hu=>by
  unfold Hv at p1;subst p1;unfold Hv at p2;subst p2;exact RcAt.bool_bool b1 b2
 |.bl b1,.int b2,p1,p2,hu=>by
  unfold Hv at p1;subst p1;unfold Hv at p2;obtain⟨t2,rfl⟩:=p2;exact RcAt.bool_int b1 b2 t2
 |.bl b1,.str b2,p1,p2,hu=>by
  unfold Hv at p1;subst p1;unfold Hv at p2;obtain⟨t2,rfl⟩:=p2;exact RcAt.bool_str b1 b2 t2
 |.bl b1,.tup ds2,p1,p2,hu=>by
  unfold Hv at p1;subst p1;unfold Hv at p2;obtain⟨a2,its2,rfl,l2,p2⟩:=p2;exact RcAt.bool_tuple b1 l2 (by lia)
 |.bl b1,.lst ds2,p1,p2,hu=>by
  unfold Hv at p1;subst p1;unfold Hv at p2;obtain⟨a2,its2,rfl,l2,p2⟩:=p2;exact RcAt.bool_list b1 l2 (by lia)
 |.int b1,.non,p1,p2,hu=>by
  unfold Hv at p1;obtain⟨t1,rfl⟩:=p1;unfold Hv at p2;subst p2;exact RcAt.int_none b1 t1
 |.int b1,.bl b2,p1,p2,hu=>by
  unfold Hv at p1;obtain⟨t1,rfl⟩:=p1;unfold Hv at p2;subst p2;exact RcAt.int_bool b1 t1 b2
 |.int b1,.int b2,p1,p2,hu=>by
  unfold Hv at p1;obtain⟨t1,rfl⟩:=p1;unfold Hv at p2;obtain⟨t2,rfl⟩:=p2;exact RcAt.int_int b1 t1 b2 t2
 |.int b1,.str b2,p1,p2,hu=>by
  unfold Hv at p1;obtain⟨t1,rfl⟩:=p1;unfold Hv at p2;obtain⟨t2,rfl⟩:=p2;exact RcAt.int_str b1 t1 b2 t2
 |.int b1,.tup ds2,p1,p2,hu=>by
  unfold Hv at p1;obtain⟨t1,rfl⟩:=p1;unfold Hv at p2;obtain⟨a2,its2,rfl,l2,p2⟩:=p2;exact RcAt.int_tuple b1 t1 l2 (by lia)
 |.int b1,.lst ds2,p1,p2,hu=>by
  unfold Hv at p1;obtain⟨t1,rfl⟩:=p1;unfold Hv at p2;obtain⟨a2,its2,rfl,l2,p2⟩:=p2;exact RcAt.int_list b1 t1 l2 (by lia)
 |.str b1,.non,p1,p2,hu=>by
  unfold Hv at p1;obtain⟨t1,rfl⟩:=p1;unfold Hv at p2;subst p2;exact RcAt.str_none b1 t1
 |.str b1,.bl b2,p1,p2,hu=>by
  unfold Hv at p1;obtain⟨t1,rfl⟩:=p1;unfold Hv at p2;subst p2;exact RcAt.str_bool b1 t1 b2
 |.str b1,.int b2,p1,p2,hu=>by
  unfold Hv at p1;obtain⟨t1,rfl⟩:=p1;unfold Hv at p2;obtain⟨t2,rfl⟩:=p2;exact RcAt.str_int b1 t1 b2 t2
 |.str b1,.str b2,p1,p2,hu=>by
  unfold Hv at p1;obtain⟨t1,rfl⟩:=p1;unfold Hv at p2;obtain⟨t2,rfl⟩:=p2;exact RcAt.str_str b1 t1 b2 t2
 |.str b1,.tup ds2,p1,p2,hu=>by
  unfold Hv at p1;obtain⟨t1,rfl⟩:=p1;unfold Hv at p2;obtain⟨a2,its2,rfl,l2,p2⟩:=p2;exact RcAt.str_tuple b1 t1 l2 (by lia)
 |.str b1,.lst ds2,p1,p2,hu=>by
  unfold Hv at p1;obtain⟨t1,rfl⟩:=p1;unfold Hv at p2;obtain⟨a2,its2,rfl,l2,p2⟩:=p2;exact RcAt.str_list b1 t1 l2 (by lia)
 |.tup ds1,.non,p1,p2,hu=>by
  unfold Hv at p1;obtain⟨a1,its1,rfl,l1,p1⟩:=p1;unfold Hv at p2;subst p2;exact RcAt.tuple_none  l1 (by lia)
 |.tup ds1,.bl b2,p1,p2,hu=>by
  unfold Hv at p1;obtain⟨a1,its1,rfl,l1,p1⟩:=p1;unfold Hv at p2;subst p2;exact RcAt.tuple_bool b2 l1 (by lia)
 |.tup ds1,.int b2,p1,p2,hu=>by
  unfold Hv at p1;obtain⟨a1,its1,rfl,l1,p1⟩:=p1;unfold Hv at p2;obtain⟨t2,rfl⟩:=p2;exact RcAt.tuple_int b2 t2 l1 (by lia)
 |.tup ds1,.str b2,p1,p2,hu=>by
  unfold Hv at p1;obtain⟨a1,its1,rfl,l1,p1⟩:=p1;unfold Hv at p2;obtain⟨t2,rfl⟩:=p2;exact RcAt.tuple_str b2 t2 l1 (by lia)
 |.tup ds1,.tup ds2,p1,p2,hu=>by
  unfold Hv at p1;obtain⟨a1,its1,rfl,l1,p1⟩:=p1;unfold Hv at p2;obtain⟨a2,its2,rfl,l2,p2⟩:=p2;unfold D.eqb;have hdep:A.units+deps ds1+1+1<cLine:=by
   have e9:(.tup ds1:D).dep=deps ds1+1:=by first|rfl|(unfold D.dep;rfl)
   lia
  have q:=RcAt.tuples (e:=fun j=>(ds1.getD j .non).eqb (ds2.getD j .non)) l1 l2 (by lia) fun j h1 h2=>
   eqAt (ds1.getD j .non) (ds2.getD j .non) _ _ A.in1 (q0z p1 h1).1 (q0z p2 h2).1 (by
    have:=dep_mem (q0z p1 h1).2;show A.units+1+_+1<cLine;lia)
  rw[List.size_toArray,List.size_toArray,p1.length,p2.length,qa6z] at q;exact q
 |.tup ds1,.lst ds2,p1,p2,hu=>by
  unfold Hv at p1;obtain⟨a1,its1,rfl,l1,p1⟩:=p1;unfold Hv at p2;obtain⟨a2,its2,rfl,l2,p2⟩:=p2;exact RcAt.tuple_list l1 l2 (by lia)
 |.lst ds1,.non,p1,p2,hu=>by
  unfold Hv at p1;obtain⟨a1,its1,rfl,l1,p1⟩:=p1;unfold Hv at p2;subst p2;exact RcAt.list_none  l1 (by lia)
 |.lst ds1,.bl b2,p1,p2,hu=>by
  unfold Hv at p1;obtain⟨a1,its1,rfl,l1,p1⟩:=p1;unfold Hv at p2;subst p2;exact RcAt.list_bool b2 l1 (by lia)
 |.lst ds1,.int b2,p1,p2,hu=>by
  unfold Hv at p1;obtain⟨a1,its1,rfl,l1,p1⟩:=p1;unfold Hv at p2;obtain⟨t2,rfl⟩:=p2;exact RcAt.list_int b2 t2 l1 (by lia)
 |.lst ds1,.str b2,p1,p2,hu=>by
  unfold Hv at p1;obtain⟨a1,its1,rfl,l1,p1⟩:=p1;unfold Hv at p2;obtain⟨t2,rfl⟩:=p2;exact RcAt.list_str b2 t2 l1 (by lia)
 |.lst ds1,.tup ds2,p1,p2,hu=>by
  unfold Hv at p1;obtain⟨a1,its1,rfl,l1,p1⟩:=p1;unfold Hv at p2;obtain⟨a2,its2,rfl,l2,p2⟩:=p2;exact RcAt.list_tuple l1 l2 (by lia)
 |.lst ds1,.lst ds2,p1,p2,hu=>by
  unfold Hv at p1;obtain⟨a1,its1,rfl,l1,p1⟩:=p1;unfold Hv at p2;obtain⟨a2,its2,rfl,l2,p2⟩:=p2;unfold D.eqb;have hdep:A.units+deps ds1+1+1<cLine:=by
   have e9:(.lst ds1:D).dep=deps ds1+1:=by first|rfl|(unfold D.dep;rfl)
   lia
  by_cases hn:ds1.length=ds2.length
  ·have q:=RcAt.lists (e:=fun j=>(ds1.getD j .non).eqb (ds2.getD j .non)) l1 l2 (by simp[p1.length,p2.length,hn]) (by lia) fun j h1 h2=>
    eqAt (ds1.getD j .non) (ds2.getD j .non) _ _ A.in1 (q0z p1 h1).1 (q0z p2 h2).1 (by
     have:=dep_mem (q0z p1 h1).2;show A.units+1+_+1<cLine;lia)
   have q2:=qa6z ds1 ds2;rw[hn,Nat.min_self,beq_self_eq_true,Bool.and_true] at q2;rw[List.size_toArray,p1.length,hn,q2] at q;exact q
  ·rw[qdbz _ _ hn];exact RcAt.lists_lengths l1 l2 (by simp[p1.length,p2.length,hn]) (by lia)
 |d,.dct,p1,p2,hu=>by
  unfold Hv at p2;exact p2.elim
 |.dct,e,p1,p2,hu=>by
  unfold Hv at p1;exact p1.elim
theorem rcNe{s:Shared}(d e:D)(u v:Value)(A:Around)(p1:Hv s.heap d u)(p2:Hv s.heap e v)(hu:A.units+d.dep+1<cLine):RcNeAt A s u v (!d.eqb e):=
 match d,e,p1,p2,hu with
 |.non,.non,p1,p2,hu=>by
  unfold Hv at p1;subst p1;unfold Hv at p2;subst p2;exact RcNeAt.none_none
 |.non,.bl b2,p1,p2,hu=>by
  unfold Hv at p1;subst p1;unfold Hv at p2;subst p2;exact RcNeAt.none_bool  b2
 |.non,.int b2,p1,p2,hu=>by
  unfold Hv at p1;subst p1;unfold Hv at p2;obtain⟨t2,rfl⟩:=p2;exact RcNeAt.none_int  b2 t2
 |.non,.str b2,p1,p2,hu=>by
  unfold Hv at p1;subst p1;unfold Hv at p2;obtain⟨t2,rfl⟩:=p2;exact RcNeAt.none_str  b2 t2
 |.non,.tup ds2,p1,p2,hu=>by
  unfold Hv at p1;subst p1;unfold Hv at p2;obtain⟨a2,its2,rfl,l2,p2⟩:=p2;exact RcNeAt.none_tuple  l2 (by lia)
 |.non,.lst ds2,p1,p2,hu=>by
  unfold Hv at p1;subst p1;unfold Hv at p2;obtain⟨a2,its2,rfl,l2,p2⟩:=p2;exact RcNeAt.none_list  l2 (by lia)
 |.bl b1,.non,p1,p2,hu=>by
  unfold Hv at p1;subst p1;unfold Hv at p2;subst p2;exact RcNeAt.bool_none b1
 |.bl b1,.bl b2,p1,p2,hu=>by
  unfold Hv at p1;subst p1;unfold Hv at p2;subst p2;exact RcNeAt.bool_bool b1 b2
 |.bl b1,.int b2,p1,p2,hu=>by
  unfold Hv at p1;subst p1;unfold Hv at p2;obtain⟨t2,rfl⟩:=p2;exact RcNeAt.bool_int b1 b2 t2
 |.bl b1,.str b2,p1,p2,hu=>by
  unfold Hv at p1;subst p1;unfold Hv at p2;obtain⟨t2,rfl⟩:=p2;exact RcNeAt.bool_str b1 b2 t2
 |.bl b1,.tup ds2,p1,p2,hu=>by
  unfold Hv at p1;subst p1;unfold Hv at p2;obtain⟨a2,its2,rfl,l2,p2⟩:=p2;exact RcNeAt.bool_tuple b1 l2 (by lia)
 |.bl b1,.lst ds2,p1,p2,hu=>by
  unfold Hv at p1;subst p1;unfold Hv at p2;obtain⟨a2,its2,rfl,l2,p2⟩:=p2;exact RcNeAt.bool_list b1 l2 (by lia)
 |.int b1,.non,p1,p2,hu=>by
  unfold Hv at p1;obtain⟨t1,rfl⟩:=p1;unfold Hv at p2;subst p2;exact RcNeAt.int_none b1 t1
 |.int b1,.bl b2,p1,p2,hu=>by
  unfold Hv at p1;obtain⟨t1,rfl⟩:=p1;unfold Hv at p2;subst p2;exact RcNeAt.int_bool b1 t1 b2
 |.int b1,.int b2,p1,p2,hu=>by
  unfold Hv at p1;obtain⟨t1,rfl⟩:=p1;unfold Hv at p2;obtain⟨t2,rfl⟩:=p2;exact RcNeAt.int_int b1 t1 b2 t2
 |.int b1,.str b2,p1,p2,hu=>by
  unfold Hv at p1;obtain⟨t1,rfl⟩:=p1;unfold Hv at p2;obtain⟨t2,rfl⟩:=p2;exact RcNeAt.int_str b1 t1 b2 t2
 |.int b1,.tup ds2,p1,p2,hu=>by
  unfold Hv at p1;obtain⟨t1,rfl⟩:=p1;unfold Hv at p2;obtain⟨a2,its2,rfl,l2,p2⟩:=p2;exact RcNeAt.int_tuple b1 t1 l2 (by lia)
 |.int b1,.lst ds2,p1,p2,hu=>by
  unfold Hv at p1;obtain⟨t1,rfl⟩:=p1;unfold Hv at p2;obtain⟨a2,its2,rfl,l2,p2⟩:=p2;exact RcNeAt.int_list b1 t1 l2 (by lia)
 |.str b1,.non,p1,p2,hu=>by
  unfold Hv at p1;obtain⟨t1,rfl⟩:=p1;unfold Hv at p2;subst p2;exact RcNeAt.str_none b1 t1
 |.str b1,.bl b2,p1,p2,hu=>by
  unfold Hv at p1;obtain⟨t1,rfl⟩:=p1;unfold Hv at p2;subst p2;exact RcNeAt.str_bool b1 t1 b2
 |.str b1,.int b2,p1,p2,hu=>by
  unfold Hv at p1;obtain⟨t1,rfl⟩:=p1;unfold Hv at p2;obtain⟨t2,rfl⟩:=p2;exact RcNeAt.str_int b1 t1 b2 t2
 |.str b1,.str b2,p1,p2,hu=>by
  unfold Hv at p1;obtain⟨t1,rfl⟩:=p1;unfold Hv at p2;obtain⟨t2,rfl⟩:=p2;exact RcNeAt.str_str b1 t1 b2 t2
 |.str b1,.tup ds2,p1,p2,hu=>by
  unfold Hv at p1;obtain⟨t1,rfl⟩:=p1;unfold Hv at p2;obtain⟨a2,its2,rfl,l2,p2⟩:=p2;exact RcNeAt.str_tuple b1 t1 l2 (by lia)
 |.str b1,.lst ds2,p1,p2,hu=>by
  unfold Hv at p1;obtain⟨t1,rfl⟩:=p1;unfold Hv at p2;obtain⟨a2,its2,rfl,l2,p2⟩:=p2;exact RcNeAt.str_list b1 t1 l2 (by lia)
 |.tup ds1,.non,p1,p2,hu=>by
  unfold Hv at p1;obtain⟨a1,its1,rfl,l1,p1⟩:=p1;unfold Hv at p2;subst p2;exact RcNeAt.tuple_none  l1 (by lia)
 |.tup ds1,.bl b2,p1,p2,hu=>by
  unfold Hv at p1;obtain⟨a1,its1,rfl,l1,p1⟩:=p1;unfold Hv at p2;subst p2;exact RcNeAt.tuple_bool b2 l1 (by lia)
 |.tup ds1,.int b2,p1,p2,hu=>by
  unfold Hv at p1;obtain⟨a1,its1,rfl,l1,p1⟩:=p1;unfold Hv at p2;obtain⟨t2,rfl⟩:=p2;exact RcNeAt.tuple_int b2 t2 l1 (by lia)
 |.tup ds1,.str b2,p1,p2,hu=>by
  unfold Hv at p1;obtain⟨a1,its1,rfl,l1,p1⟩:=p1;unfold Hv at p2;obtain⟨t2,rfl⟩:=p2;exact RcNeAt.tuple_str b2 t2 l1 (by lia)
 |.tup ds1,.tup ds2,p1,p2,hu=>by
  unfold Hv at p1;obtain⟨a1,its1,rfl,l1,p1⟩:=p1;unfold Hv at p2;obtain⟨a2,its2,rfl,l2,p2⟩:=p2;unfold D.eqb;have hdep:A.units+deps ds1+1+1<cLine:=by
   have e9:(.tup ds1:D).dep=deps ds1+1:=by first|rfl|(unfold D.dep;rfl)
   lia
  have q:=RcNeAt.tuples (e:=fun j=>(ds1.getD j .non).eqb (ds2.getD j .non)) l1 l2 (by lia) fun j h1 h2=>
   eqAt (ds1.getD j .non) (ds2.getD j .non) _ _ A.in1 (q0z p1 h1).1 (q0z p2 h2).1 (by
    have:=dep_mem (q0z p1 h1).2;show A.units+1+_+1<cLine;lia)
  rw[List.size_toArray,List.size_toArray,p1.length,p2.length,qa6z] at q;exact q
 |.tup ds1,.lst ds2,p1,p2,hu=>by
  unfold Hv at p1;obtain⟨a1,its1,rfl,l1,p1⟩:=p1;unfold Hv at p2;obtain⟨a2,its2,rfl,l2,p2⟩:=p2;exact RcNeAt.tuple_list l1 l2 (by lia)
 |.lst ds1,.non,p1,p2,hu=>by
  unfold Hv at p1;obtain⟨a1,its1,rfl,l1,p1⟩:=p1;unfold Hv at p2;subst p2;exact RcNeAt.list_none  l1 (by lia)
 |.lst ds1,.bl b2,p1,p2,hu=>by
  unfold Hv at p1;obtain⟨a1,its1,rfl,l1,p1⟩:=p1;unfold Hv at p2;subst p2;exact RcNeAt.list_bool b2 l1 (by lia)
 |.lst ds1,.int b2,p1,p2,hu=>by
  unfold Hv at p1;obtain⟨a1,its1,rfl,l1,p1⟩:=p1;unfold Hv at p2;obtain⟨t2,rfl⟩:=p2;exact RcNeAt.list_int b2 t2 l1 (by lia)
 |.lst ds1,.str b2,p1,p2,hu=>by
  unfold Hv at p1;obtain⟨a1,its1,rfl,l1,p1⟩:=p1;unfold Hv at p2;obtain⟨t2,rfl⟩:=p2;exact RcNeAt.list_str b2 t2 l1 (by lia)
 |.lst ds1,.tup ds2,p1,p2,hu=>by
  unfold Hv at p1;obtain⟨a1,its1,rfl,l1,p1⟩:=p1;unfold Hv at p2;obtain⟨a2,its2,rfl,l2,p2⟩:=p2;exact RcNeAt.list_tuple l1 l2 (by lia)
 |.lst ds1,.lst ds2,p1,p2,hu=>by
  unfold Hv at p1;obtain⟨a1,its1,rfl,l1,p1⟩:=p1;unfold Hv at p2;obtain⟨a2,its2,rfl,l2,p2⟩:=p2;unfold D.eqb;have hdep:A.units+deps ds1+1+1<cLine:=by
   have e9:(.lst ds1:D).dep=deps ds1+1:=by first|rfl|(unfold D.dep;rfl)
   lia
  by_cases hn:ds1.length=ds2.length
  ·have q:=RcNeAt.lists (e:=fun j=>(ds1.getD j .non).eqb (ds2.getD j .non)) l1 l2 (by simp[p1.length,p2.length,hn]) (by lia) fun j h1 h2=>
    eqAt (ds1.getD j .non) (ds2.getD j .non) _ _ A.in1 (q0z p1 h1).1 (q0z p2 h2).1 (by
     have:=dep_mem (q0z p1 h1).2;show A.units+1+_+1<cLine;lia)
   have q2:=qa6z ds1 ds2;rw[hn,Nat.min_self,beq_self_eq_true,Bool.and_true] at q2;rw[List.size_toArray,p1.length,hn,q2] at q;exact q
  ·rw[qdbz _ _ hn];exact RcNeAt.lists_lengths l1 l2 (by simp[p1.length,p2.length,hn]) (by lia)
 |d,.dct,p1,p2,hu=>by
  unfold Hv at p2;exact p2.elim
 |.dct,e,p1,p2,hu=>by
  unfold Hv at p1;exact p1.elim
end Dat
namespace L3
open PySem PySem.Spec PyProof.Rows L2
section
variable {X:Cx} {K:PySem.W.Frag}
def rI3(f:Int->Int->D):R3:=fun x y G Q=>match x,y with
 |.int i,.int j=>Q (f i j) G
 |_,_=>False
theorem qsz{H:Hp}{i:Int}{v:V}(h:Hv K H (.int i) v):v=.int i:=by unfold Hv at h;exact h
theorem qa7z{H:Hp}{i:Bool}{v:V}(h:Hv K H (.bl i) v):v=.bl i:=by unfold Hv at h;exact h
theorem qpz{H:Hp}{a:Addr}{v:V}(h:Hv K H (.obj a) v):v=.ref a:=by unfold Hv at h;exact h
theorem qagz{H:Hp}{ds:List D}{v:V}(h:Hv K H (.tup ds) v):∃a vs,v=.ref a/\SqT K H a vs/\Hvs K H ds vs:=by unfold Hv at h;exact h
theorem qayz{H:Hp}{ds:List D}{v:V}(h:Hv K H (.scr ds) v):∃a vs,v=.ref a/\SqF K H a vs/\Hvs K H ds vs:=by unfold Hv at h;exact h
theorem q9z{H:Hp}{i:Int}:Hv K H (.int i) (.int i):=by simp[Hv]
theorem q6z{H:Hp}{i:Bool}:Hv K H (.bl i) (.bl i):=by simp[Hv]
theorem qa8z{H:Hp}{a:Addr}:Hv K H (.obj a) (.ref a):=by simp[Hv]
theorem qasz{H:Hp}{ds:List D}{a:Addr}{vs:List V}(h:SqT K H a vs)(q:Hvs K H ds vs):Hv K H (.tup ds) (.ref a):=by
 unfold Hv;exact⟨a,vs,rfl,h,q⟩
theorem low_ints{f:Int->Int->D}{g:Int->Int->V}(hf:∀i j H,Hv K H (f i j) (g i j)):LowR K (rI3 f) (rI0 g):=fun x y vx vy G H Q3 Q hx hy RG h k=>by
 cases x with
 |int i=>
  cases y with
  |int j=>
   rw[qsz hx,qsz hy];exact⟨i,j,rfl,rfl,k _ H _ G (hf i j H) (.refl H G) RG h⟩
  |_=>exact h.elim
 |_=>exact h.elim
abbrev rSub3:R3:=rI3 fun i j=>.int (i-j)
theorem qdcz:LowR K rSub3 (rI0 fun i j=>.int (i-j)):=low_ints fun _ _ _=>q9z
abbrev rLe3:R3:=rI3 fun i j=>.bl (decide (i≤j))
theorem l_le:LowR K rLe3 (rI0 fun i j=>.bl (decide (i≤j))):=low_ints fun _ _ _=>q6z
abbrev rGt3:R3:=rI3 fun i j=>.bl (decide (j<i))
theorem l_gt:LowR K rGt3 (rI0 fun i j=>.bl (decide (j<i))):=low_ints fun _ _ _=>q6z
abbrev rGe3:R3:=rI3 fun i j=>.bl (decide (j≤i))
theorem l_ge:LowR K rGe3 (rI0 fun i j=>.bl (decide (j≤i))):=low_ints fun _ _ _=>q6z
def Big(i:Int):Prop:=i.natAbs<2^4000
theorem qhiz{i:Int}(h:Big i):i.natAbs.log2<4000:=by
 by_cases h0:i.natAbs=0
 ·rw[h0];decide
 ·exact (Nat.log2_lt h0).mpr h
theorem qhjz{i:Int}(h:Big i):Builtin.Int.intBits i≤4000:=by
 unfold Builtin.Int.intBits;split
 ·exact Nat.zero_le _
 ·exact qhiz h
theorem qoxz{i j:Int}(h1:Big i)(h2:Big j):IntMulOk i j:=by
 unfold IntMulOk Builtin.Int.intTooBig;have b1:=qhjz h1;have b2:=qhjz h2;have:¬((Builtin.Int.intBits i:Int)+(Builtin.Int.intBits j:Int) > (bitsLine:Int)):=by
  have:(bitsLine:Int)=134217728:=by decide
  lia
 rw[decide_eq_false this];simp
theorem qhkz:OpR X (binaryOp .FloorDiv) (rI (fun _ j=>0<j/\Big j) fun i j=>.int (i / j)):=opI fun i j _ _ _ _ _ hc q=>by
 have h1:(0:Int)<j:=hc.1;exact floordiv_int (by lia) (by rw[Int.fdiv_eq_ediv_of_nonneg i (by lia)];exact q) (.inl (PyProof.noPylong_of_log2 (Nat.lt_trans (qhiz hc.2) (by decide))))
theorem op_mulB:OpR X (binaryOp .Mult) (rI (fun i j=>Big i/\Big j) fun i j=>.int (i*j)):=opI fun _ _ _ _ _ _ _ hc q=>mul_int q (qoxz hc.1 hc.2)
def rIC3(C:Int->Int->Prop)(f:Int->Int->D):R3:=fun x y G Q=>match x,y with
 |.int i,.int j=>C i j/\Q (f i j) G
 |_,_=>False
theorem qegz{C:Int->Int->Prop}{f:Int->Int->D}{g:Int->Int->V}(hf:∀i j H,Hv K H (f i j) (g i j)):LowR K (rIC3 C f) (rI C g):=fun x y vx vy G H Q3 Q hx hy RG h k=>by
 cases x with
 |int i=>
  cases y with
  |int j=>
   rw[qsz hx,qsz hy];exact⟨i,j,rfl,rfl,h.1,k _ H _ G (hf i j H) (.refl H G) RG h.2⟩
  |_=>exact h.elim
 |_=>exact h.elim
abbrev rDiv3:R3:=rIC3 (fun _ j=>0<j/\Big j) fun i j=>.int (i / j)
theorem qhlz:LowR K rDiv3 (rI (fun _ j=>0<j/\Big j) fun i j=>.int (i / j)):=qegz fun _ _ _=>q9z
abbrev rMod3:R3:=rIC3 (fun _ j=>0<j) fun i j=>.int (i%j)
theorem qcbz:LowR K rMod3 (rI (fun _ j=>0<j) fun i j=>.int (i%j)):=qegz fun _ _ _=>q9z
abbrev rPow3:R3:=rIC3 CPow fun i j=>.int (i^j.toNat)
theorem qoyz:LowR K rPow3 (rI CPow fun i j=>.int (i^j.toNat)):=qegz fun _ _ _=>q9z
theorem qozz{prog:Program}{w:World}{A:Around}{E:Value->Shared->Prop}{s:Shared}{t b:Addr}{ws:List Value}{Q:Value->Shared->Prop}(ht:IsTup s.heap t #[])(hb:IsTup s.heap b ws.toArray)(h1:Q (.ref b) s):
  wpAny (model prog w) A (binaryOp .Add (.ref t) (.ref b)) Q E s:=by
 obtain⟨⟨cls,dd,data,sl⟩,ho,hc,n,hd⟩:=id ht;obtain⟨⟨cls2,dd2,data2,sl2⟩,ho2,hc2,n2,hd2⟩:=id hb;simp only at hc hd hc2 hd2;subst hc hd hc2 hd2;exact concat_meets ⟨_,ho,rfl⟩ ⟨_,ho2,rfl⟩ noFill_tuple_add seq_tuple_add PySem.F.slot_tuple_add PySem.F.entry_tuple_add (PySem.F.args_tuple_add_2 _ _)
   (tuple_addW0 t b #[] ws.toArray n n2 dd dd2 sl sl2 rfl) ⟨ho,ho2,h1⟩
def rCatT0(K:PySem.W.Frag):R2:=fun x y H Q=>∃a b ys,x=.ref a/\y=.ref b/\SqT K H a []/\SqT K H b ys/\Q (.ref b) H
theorem qo0z:OpR X (binaryOp .Add) (rCatT0 X.K):=by
 intro pins s σ H x y v u Q I rx ry h;obtain⟨a,b,ys,rfl,rfl,ha,hb,q⟩:=h;cases rx;cases ry;obtain⟨its,r1,p1,_⟩:=I.tuple ha;obtain⟨its2,r2,p2,_⟩:=I.tuple hb;cases r1;exact qozz p1 p2 ⟨.ref b,H,I,rfl,q⟩
def rAdd3:R3:=fun x y G Q=>match x,y with
 |.int i,.int j=>Q (.int (i+j)) G
 |.obj a,.obj b=>∃ds es,G a=some (.lst ds)/\G b=some (.lst es)/\ds.length+es.length≤sizeLine/\∀p G',New G p (.lst (ds++es)) G'->Q (.obj p) G'
 |.tup ds,.tup es=>ds.length+es.length≤sizeLine/\Q (.tup (ds++es)) G
 |_,_=>False
abbrev rAdd2(K:PySem.W.Frag):R2:=fun x y H Q=>rI0 (fun i j=>.int (i+j)) x y H Q∨(rCat x y H Q∨(rCatT K x y H Q∨rCatT0 K x y H Q))
theorem qwz:OpR X (binaryOp .Add) (rAdd2 X.K):=op_add.or (op_cat.or (op_catT.or qo0z))
theorem qxz:LowR K rAdd3 (rAdd2 K):=fun x y vx vy G H Q3 Q hx hy RG h k=>by
 cases x with
 |int i=>
  cases y with
  |int j=>
   rw[qsz hx,qsz hy];exact .inl ⟨i,j,rfl,rfl,k _ H _ G q9z (.refl H G) RG h⟩
  |_=>exact h.elim
 |obj a=>
  cases y with
  |obj b=>
   rw[qpz hx,qpz hy];obtain⟨ds,es,e1,e2,hz,q⟩:=h;obtain⟨vs,z1,z2⟩:=RG a _ e1;obtain⟨us,y1,y2⟩:=RG b _ e2;refine .inr (.inl ⟨a,b,vs,us,rfl,rfl,z1,y1,by rw[←z2.length,←y2.length];exact hz,fun p hp=>?_⟩);exact k _ _ (.obj p) _ qa8z (.laidG hp) (RG.newL hp (z2.append y2)) (q p _ (.mk' (RG.free hp)))
  |_=>exact h.elim
 |tup ds=>
  cases y with
  |tup es=>
   obtain⟨a,vs,rfl,e1,e2⟩:=qagz hx;obtain⟨b,us,rfl,y1,y2⟩:=qagz hy;by_cases h0:vs=[]
   ·subst h0;have:ds=[]:=by
     have:=e2.length;exact List.eq_nil_of_length_eq_zero (by simpa using this)
    subst this;exact .inr (.inr (.inr ⟨a,b,us,rfl,rfl,e1,y1,k _ H (.tup es) G (qasz y1 y2) (.refl H G) RG h.2⟩))
   ·refine .inr (.inr (.inl ⟨a,b,vs,us,rfl,rfl,e1,y1,h0,by rw[←e2.length,←y2.length];exact h.1,fun z=>?_,fun z p hp=>?_⟩))
    ·subst z;have:es=[]:=List.eq_nil_of_length_eq_zero (by simpa using y2.length);subst this;refine k _ H (.tup ds) G (qasz e1 e2) (.refl H G) RG ?_;have:=h.2;rwa [List.append_nil] at this
    ·exact k _ _ (.tup (ds++es)) G (qasz (.of qnz) ((e2.append y2).ext (.laid hp))) (.laid hp) (RG.laid hp) h.2
  |_=>exact h.elim
 |_=>exact h.elim
def rMul3:R3:=fun x y G Q=>match x,y with
 |.int i,.int j=>(Big i/\Big j)/\Q (.int (i*j)) G
 |.obj a,.int k=>∃ds,G a=some (.lst ds)/\(-(2^63)≤k/\k<2^63)/\ds.length*k.toNat≤sizeLine/\∀p G',New G p (.lst (List.replicate k.toNat ds).flatten) G'->Q (.obj p) G'
 |_,_=>False
abbrev rMul2:R2:=fun x y H Q=>rI (fun i j=>Big i/\Big j) (fun i j=>.int (i*j)) x y H Q∨rRep x y H Q
theorem qccz:OpR X (binaryOp .Mult) rMul2:=op_mulB.or qm9z
theorem qcdz:LowR K rMul3 rMul2:=fun x y vx vy G H Q3 Q hx hy RG h k=>by
 cases x with
 |int i=>
  cases y with
  |int j=>
   rw[qsz hx,qsz hy];exact .inl ⟨i,j,rfl,rfl,h.1,k _ H _ G q9z (.refl H G) RG h.2⟩
  |_=>exact h.elim
 |obj a=>
  cases y with
  |int j=>
   rw[qpz hx,qsz hy];obtain⟨ds,e1,hk,hz,q⟩:=h;obtain⟨vs,z1,z2⟩:=RG a _ e1;refine .inr ⟨a,j,vs,rfl,rfl,z1,hk.1,hk.2,by rw[←z2.length];exact hz,fun p hp=>?_⟩;exact k _ _ (.obj p) _ qa8z (.laidG hp) (RG.newL hp (z2.rep _)) (q p _ (.mk' (RG.free hp)))
  |_=>exact h.elim
 |_=>exact h.elim
def isNon:D->Bool
 |.non=>true
 |_=>false
def rIs3(neg:Bool):R3:=fun x y G Q=>match y with
 |.non=>Q (.bl (if neg then !isNon x else isNon x)) G
 |_=>False
theorem qhmz{H:Hp}{x:D}{v:V}(h:Hv K H x v):decide (v=.non)=isNon x:=by
 cases x with
 |non=>unfold Hv at h;subst h;rfl
 |bl b=>rw[qa7z h];rfl
 |int b=>rw[qsz h];rfl
 |str b=>unfold Hv at h;subst h;rfl
 |obj b=>rw[qpz h];rfl
 |tup ds=>obtain⟨a,vs,rfl,_⟩:=qagz h;rfl
 |scr ds=>obtain⟨a,vs,rfl,_⟩:=qayz h;rfl
 |dc a=>unfold Hv at h;rw[h.1];rfl
theorem l_is:LowR K (rIs3 false) (fun x y H Q=>y=.non/\Q (.bl (decide (x=.non))) H):=fun x y vx vy G H Q3 Q hx hy RG h k=>by
 cases y with
 |non=>
  refine⟨by unfold Hv at hy;exact hy,?_⟩;rw[qhmz hx];exact k _ H _ G q6z (.refl H G) RG h
 |_=>exact h.elim
theorem qo1z:LowR K (rIs3 true) (fun x y H Q=>y=.non/\Q (.bl (!decide (x=.non))) H):=fun x y vx vy G H Q3 Q hx hy RG h k=>by
 cases y with
 |non=>
  refine⟨by unfold Hv at hy;exact hy,?_⟩;rw[qhmz hx];exact k _ H _ G q6z (.refl H G) RG h
 |_=>exact h.elim
def intsOf:List D->Option (List Int)
 |[]=>some []
 |.int i::r=>(intsOf r).map (i::·)
 |_::_=>none
theorem qbpz{H:Hp}:∀{ds:List D} {vs:List V} {ns:List Int},Hvs K H ds vs->intsOf ds=some ns->vs=ns.map V.int
 |[],vs,ns,h,e=>by
  cases e;exact h.inv0
 |d::ds,vs,ns,h,e=>by
  cases d with
  |int i=>
   obtain⟨v,r,rfl,z1,z2⟩:=h.inv;unfold intsOf at e;cases hm:intsOf ds with
   |none=>rw[hm] at e;cases e
   |some ms=>
    rw[hm] at e;cases e;rw[qsz z1,qbpz z2 hm];rfl
  |_=>cases e
def rLtT3:R3:=fun x y G Q=>match x,y with
 |.int i,.int j=>Q (.bl (decide (i<j))) G
 |.tup ds,.tup es=>∃ns ms,intsOf ds=some ns/\intsOf es=some ms/\Q (.bl (HT.lexLt ns ms)) G
 |_,_=>False
abbrev rLtA(K:PySem.W.Frag):R2:=fun x y H Q=>rI0 (fun i j=>.bl (decide (i<j))) x y H Q∨rLtT K x y H Q
theorem qbqz(hu:X.A.units<cLine):OpR X (compareOp .Lt) (rLtA X.K):=op_lt.or (qmyz hu)
theorem qbrz:LowR K rLtT3 (rLtA K):=fun x y vx vy G H Q3 Q hx hy RG h k=>by
 cases x with
 |int i=>
  cases y with
  |int j=>
   rw[qsz hx,qsz hy];exact .inl ⟨i,j,rfl,rfl,k _ H _ G q6z (.refl H G) RG h⟩
  |_=>exact h.elim
 |tup ds=>
  cases y with
  |tup es=>
   obtain⟨a,vs,rfl,e1,e2⟩:=qagz hx;obtain⟨b,us,rfl,y1,y2⟩:=qagz hy;obtain⟨ns,ms,z1,z2,q⟩:=h;have q1:=qbpz e2 z1;have q2:=qbpz y2 z2;subst q1 q2;exact .inr ⟨a,b,ns,ms,rfl,rfl,e1,y1,k _ H _ G q6z (.refl H G) RG q⟩
  |_=>exact h.elim
 |_=>exact h.elim
def rIx3:R3:=fun x y G Q=>match x,y with
 |.tup ds,.int i=>∃d,atI ds i=some d/\Q d G
 |.scr ds,.int i=>∃d,atI ds i=some d/\Q d G
 |.obj p,.int i=>∃ds d,G p=some (.lst ds)/\atI ds i=some d/\Q d G
 |_,_=>False
theorem qddz{H:Hp}{ds:List D}{vs:List V}{i:Int}{d:D}(h:Hvs K H ds vs)(e:atI ds i=some d):∃v,atI vs i=some v/\Hv K H d v:=by
 unfold atI at e ⊢;rw[←h.length];cases hx:ixN ds.length i with
 |none=>rw[hx] at e;cases e
 |some j=>
  rw[hx] at e;exact h.get e
theorem l_ix:LowR K rIx3 (rIx K):=fun x y vx vy G H Q3 Q hx hy RG h k=>by
 cases y with
 |int i=>
  rw[qsz hy];cases x with
  |tup ds=>
   obtain⟨d,e,q⟩:=h;obtain⟨a,vs,rfl,e1,e2⟩:=qagz hx;obtain⟨v,z1,z2⟩:=qddz e2 e;exact .inr (.inl ⟨a,vs,i,v,rfl,rfl,e1,z1,k _ H d G z2 (.refl H G) RG q⟩)
  |scr ds=>
   obtain⟨d,e,q⟩:=h;obtain⟨a,vs,rfl,e1,e2⟩:=qayz hx;obtain⟨v,z1,z2⟩:=qddz e2 e;exact .inl ⟨a,vs,i,v,rfl,rfl,e1.l,z1,k _ H d G z2 (.refl H G) RG q⟩
  |obj p=>
   obtain⟨ds,d,e0,e,q⟩:=h;rw[qpz hx];obtain⟨vs,e1,e2⟩:=RG p _ e0;obtain⟨v,z1,z2⟩:=qddz e2 e;exact .inl ⟨p,vs,i,v,rfl,rfl,.of e1,z1,k _ H d G z2 (.refl H G) RG q⟩
  |_=>exact h.elim
 |_=>cases x<;>exact h.elim
theorem e_ix{a b:Expr}{ta tb:TE3}{pos:Pos}(ha:PE3 X a ta)(hb:PE3 X b tb)(hs:PlainIx b:=by intro _ _;rfl):PE3 X (.Subscript a b pos) (eOp rIx3 ta tb):=qoz (qgwz qgxz ha hb hs) fun _ _ _ h=>qc7z l_ix h
def eLstIx(ta:TA3)(tb:TE3):TE3:=fun τ G Q=>ta τ G fun ds G1=>smallL (tb τ G1 fun y G2=>match y with
 |.int i=>∃d,atI ds i=some d/\Q d G2
 | _=>False) ds 64
theorem qo2z{es:List Expr}{b:Expr}{ta:TA3}{tb:TE3}{pos pos':Pos}(ha:PA3 X es ta)(hb:PE3 X b tb)(hs:PlainIx b:=by intro _ _;rfl):PE3 X (.Subscript (.List es pos') b pos) (eLstIx ta tb):=
 qoz (qgwz qgxz (qglz ha) hb hs) fun σ H Q ⟨τ,G,Q3,RS,RG,h,k⟩=>by
  refine⟨τ,G,_,RS,RG,h,fun vs H1 ds G1 h1 S1 R1 q1=>?_⟩;obtain⟨z,q1⟩:=qc8z q1;refine⟨by rw[←h1.length];exact line64 z,fun p hp=>?_⟩;refine⟨τ,G1,_,(RS.ext (S1.ext RG)).ext (.laid hp),R1.laid hp,q1,fun v2 H2 d2 G2 h2 S2 R2 q2=>?_⟩;have e2:H2 p=some (.lst vs):=S2.fr p _ qnz (R1.free hp);cases d2 with
  |int i=>
   obtain⟨d,e,q⟩:=q2;obtain⟨v,z1,z2⟩:=qddz ((h1.ext (.laid hp)).ext (S2.ext (R1.laid hp))) e;rw[qsz h2];exact .inl ⟨p,vs,i,v,rfl,rfl,.of e2,z1,k _ H2 d G2 z2 ((S1.trans (.laid hp)).trans S2) R2 q⟩
  |_=>exact q2.elim
end
end L3
namespace L3
open PySem PySem.Spec PyProof.Rows L2
mutual
def toDat0:D->Option Dat.D
 |.non=>some .non
 |.bl b=>some (.bl b)
 |.int i=>some (.int i)
 |.str x=>some (.str x)
 |.tup ds=>match toDats0 ds with
  |some xs=>some (.tup xs)
  |none=>none
 |.scr ds=>match toDats0 ds with
  |some xs=>some (.lst xs)
  |none=>none
 |.obj _=>none
 |.dc _=>none
def toDats0:List D->Option (List Dat.D)
 |[]=>some []
 |d::ds=>match toDat0 d with
  |some x=>match toDats0 ds with
   |some xs=>some (x::xs)
   |none=>none
  |none=>none
end
def toDat(G:Gp):D->Option Dat.D
 |.obj a=>match G a with
  |some (.lst ds)=>match toDats0 ds with
   |some xs=>some (.lst xs)
   |none=>none
  |_=>none
 |d=>toDat0 d
section
variable {X:Cx} {pins:List (Addr×Obj)} {σ:L2.St} {H:Hp} {s:Shared}
mutual
theorem qazz(I:Inv X pins σ H s):∀{d:D} {v:V} {u:Value} {x:Dat.D},Hv X.K H d v->RelV v u->toDat0 d=some x->Dat.Hv s.heap x u
 |.non,v,u,x,h,r,e=>by
  unfold Hv at h;subst h;cases e;unfold Dat.Hv;exact r
 |.bl b,v,u,x,h,r,e=>by
  unfold Hv at h;subst h;cases e;unfold Dat.Hv;exact r
 |.int b,v,u,x,h,r,e=>by
  unfold Hv at h;subst h;cases e;unfold Dat.Hv;exact r
 |.str b,v,u,x,h,r,e=>by
  unfold Hv at h;subst h;cases e;unfold Dat.Hv;exact r
 |.obj a,v,u,x,h,r,e=>by cases e
 |.dc a,v,u,x,h,r,e=>by cases e
 |.tup ds,v,u,x,h,r,e=>by
  obtain⟨a,vs,rfl,q1,q2⟩:=qagz h;cases r;unfold toDat0 at e;cases hd:toDats0 ds with
  |none=>rw[hd] at e;cases e
  |some xs=>
   rw[hd] at e;cases e;obtain⟨its,rv,p,_⟩:=I.tuple q1;unfold Dat.Hv;exact⟨a,its,rfl,p,qdez I q2 rv hd⟩
 |.scr ds,v,u,x,h,r,e=>by
  obtain⟨a,vs,rfl,q1,q2⟩:=qayz h;cases r;unfold toDat0 at e;cases hd:toDats0 ds with
  |none=>rw[hd] at e;cases e
  |some xs=>
   rw[hd] at e;cases e;obtain⟨its,rv,p,_⟩:=I.list q1.l;unfold Dat.Hv;exact⟨a,its,rfl,p.isList,qdez I q2 rv hd⟩
theorem qdez(I:Inv X pins σ H s):∀{ds:List D} {vs:List V} {us:List Value} {xs:List Dat.D},Hvs X.K H ds vs->Vals vs us->toDats0 ds=some xs->Dat.Hvs s.heap xs us
 |[],vs,us,xs,h,r,e=>by
  cases h.inv0;cases r;cases e;unfold Dat.Hvs;rfl
 |d::ds,vs,us,xs,h,r,e=>by
  obtain⟨v,vr,rfl,q1,q2⟩:=h.inv;unfold toDats0 at e;cases hd:toDat0 d with
  |none=>rw[hd] at e;cases e
  |some x=>
   rw[hd] at e;cases hr:toDats0 ds with
   |none=>rw[hr] at e;cases e
   |some xr=>
    rw[hr] at e;cases e;cases r with
    |cons r1 r2=>
     unfold Dat.Hvs;exact⟨_,_,rfl,qazz I q1 r1 hd,qdez I q2 r2 hr⟩
end
theorem qamz{G:Gp}(I:Inv X pins σ H s)(RG:RepG X.K G H){d:D}{v:V}{u:Value}{x:Dat.D}(h:Hv X.K H d v)(r:RelV v u)(e:toDat G d=some x):Dat.Hv s.heap x u:=by
 cases d with
 |obj a=>
  rw[qpz h] at r;cases r;unfold toDat at e;cases hG:G a with
  |none=>simp[hG] at e
  |some o=>
   cases o with
   |lst ds=>
    simp only[hG] at e;cases hr:toDats0 ds with
    |none=>rw[hr] at e;cases e
    |some xs=>
     rw[hr] at e;cases e;obtain⟨vs,e1,e2⟩:=RG a _ hG;obtain⟨its,rv,p,_⟩:=I.list (SqL.of e1);unfold Dat.Hv;exact⟨a,its,rfl,p.isList,qdez I e2 rv hr⟩
   |pen=>simp[hG] at e
   |dct=>simp[hG] at e
   |gen R=>simp[hG] at e
 |non=>exact qazz I h r e
 |bl _=>exact qazz I h r e
 |int _=>exact qazz I h r e
 |str _=>exact qazz I h r e
 |tup _=>exact qazz I h r e
 |scr _=>exact qazz I h r e
 |dc _=>exact qazz I h r e
end
section
variable {X:Cx} {a b e:Expr} {ta tb:TE3} {pos:Pos}
def rEq3(neg:Bool):R3:=fun x y G Q=>∃u v,toDat G x=some u/\toDat G y=some v/\u.dep≤50/\Q (.bl (if neg then !u.eqb v else u.eqb v)) G
def CmpR(X:Cx)(f:Value->Value->Sem Value)(r:R3):Prop:=
 ∀(pins:List (Addr×Obj)) (s:Shared) (σ:L2.St) (H:Hp) (G:Gp) (x y:D) (vx vy:V) (u v:Value) (Q3:V3),Inv X pins σ H s->RepG X.K G H->Hv X.K H x vx->Hv X.K H y vy->RelV vx u->RelV vy v->r x y G Q3 ->
  wpAny (model X.prog X.w) X.A (f u v) (EP X pins σ fun w H'=>∃d G',Hv X.K H' d w/\Step H G H' G'/\RepG X.K G' H'/\Q3 d G') X.xe s
theorem eqR(hu:X.A.units+64<cLine):CmpR X (compareOp .Eq) (rEq3 false):=by
 intro pins s σ H G x y vx vy u v Q3 I RG hx hy rx ry ⟨p,q,e1,e2,hd,h⟩;have:=Dat.rcAt p q u v X.A (qamz I RG hx rx e1) (qamz I RG hy ry e2) (by omega);exact this _ _ _ _ ⟨.bl (p.eqb q),H,I,rfl,.bl (p.eqb q),G,q6z,.refl H G,RG,h⟩
theorem neR(hu:X.A.units+64<cLine):CmpR X (compareOp .NotEq) (rEq3 true):=by
 intro pins s σ H G x y vx vy u v Q3 I RG hx hy rx ry ⟨p,q,e1,e2,hd,h⟩;have:=Dat.rcNe p q u v X.A (qamz I RG hx rx e1) (qamz I RG hy ry e2) (by omega);exact this _ _ _ _ ⟨.bl (!p.eqb q),H,I,rfl,.bl (!p.eqb q),G,q6z,.refl H G,RG,h⟩
def cmpR2(K:PySem.W.Frag)(r:R3):R2:=fun vx vy H Q=>∃x y G Q3,RepG K G H/\Hv K H x vx/\Hv K H y vy/\r x y G Q3/\∀v H' d G',Hv K H' d v->Step H G H' G'->RepG K G' H'->Q3 d G'->Q v H'
theorem CmpR.op{f:Value->Value->Sem Value}{r:R3}(h:CmpR X f r):OpR X f (cmpR2 X.K r):=by
 intro pins s σ H vx vy u v Q I rx ry ⟨x,y,G,Q3,RG,hx,hy,q,k⟩;refine thn (h pins s σ H G x y vx vy u v Q3 I RG hx hy rx ry q) fun w s' ⟨v',H',I',r',d,G',z1,z2,z3,z4⟩=>⟨v',H',I',r',k v' H' d G' z1 z2 z3 z4⟩
theorem qdfz{K:PySem.W.Frag}{r:R3}:LowR K r (cmpR2 K r):=fun x y vx vy G H Q3 Q hx hy RG h k=>⟨x,y,G,Q3,RG,hx,hy,h,k⟩
theorem qa9z(hu:X.A.units+64<cLine):OpR X (compareOp .Eq) (cmpR2 X.K (rEq3 false)):=(eqR hu).op
theorem qa0z(hu:X.A.units+64<cLine):OpR X (compareOp .NotEq) (cmpR2 X.K (rEq3 true)):=(neR hu).op
theorem l_eq{K:PySem.W.Frag}:LowR K (rEq3 false) (cmpR2 K (rEq3 false)):=qdfz
theorem l_ne{K:PySem.W.Frag}:LowR K (rEq3 true) (cmpR2 K (rEq3 true)):=qdfz
abbrev TO3:=S3->Gp->(Option Int->Gp->Prop)->Prop
def lowO(K:PySem.W.Frag)(t:TO3):TO:=fun σ H Q=>∃τ G Q3,RepS K τ σ H/\RepG K G H/\t τ G Q3/\∀o H' G',Step H G H' G'->RepG K G' H'->Q3 o G'->Q o H'
abbrev PO3(X:Cx)(e:Option Expr)(t:TO3):Prop:=PO X e (lowO X.K t)
theorem qhnz{o:Option Expr}{t t':TO}(h:PO X o t)(f:∀σ H Q,t' σ H Q->t σ H Q):PO X o t':=fun pins s σ H Q I q=>h pins s σ H Q I (f σ H Q q)
def oNone:TO3:=fun _ G Q=>Q none G
def oSome(t:TE3):TO3:=fun τ G Q=>t τ G fun x G1=>match x with
 |.int i=>Q (some i) G1
 |_=>False
theorem qo3z:PO3 X none oNone:=qhnz qmvz fun σ H Q ⟨τ,G,Q3,RS,RG,h,k⟩=>k none H G (.refl H G) RG h
theorem qo4z(h:PE3 X e ta):PO3 X (some e) (oSome ta):=qhnz (qmwz h) fun σ H Q ⟨τ,G,Q3,RS,RG,h,k⟩=>
 ⟨τ,G,_,RS,RG,h,fun v H1 d G1 h1 S1 R1 q1=>by
  cases d with
  |int i=>exact⟨i,qsz h1,k (some i) H1 G1 S1 R1 q1⟩
  |_=>exact q1.elim⟩
def cut3(ds:List D)(lo hi:Option Int):List D:=(ds.drop (HT.sIx ds.length 0 lo)).take (HT.sIx ds.length ds.length hi-HT.sIx ds.length 0 lo)
def eSl(ta:TE3)(tl th:TO3):TE3:=fun τ G Q=>ta τ G fun x G1=>tl τ G1 fun lo G2=>th τ G2 fun hi G3=>match x with
 |.tup ds=>Q (.tup (cut3 ds lo hi)) G3
 |.scr ds=>∀p G4,New G3 p (.lst (cut3 ds lo hi)) G4->Q (.obj p) G4
 |.obj a=>∃ds,G3 a=some (.lst ds)/\∀p G4,New G3 p (.lst (cut3 ds lo hi)) G4->Q (.obj p) G4
 |_=>False
theorem qehz{K:PySem.W.Frag}{H:Hp}{ds:List D}{vs:List V}(h:Hvs K H ds vs)(lo hi:Option Int):Hvs K H (cut3 ds lo hi) (cutV vs lo hi):=by
 unfold cut3 cutV;rw[h.length];exact (h.drop _).take _
theorem qo5z{prog:Program}{w:World}{A:Around}{E:Value->Shared->Prop}{s:Shared}{t sl:Addr}{items:Array Value}{vl vu:Value}{lo hi:Option Int}{Q:Value->Shared->Prop}(ht:IsTup s.heap t items)(hs:s.heap.IsSliceOf sl vl vu .none)(pl:IsPart vl lo)(pu:IsPart vu hi)
  (hw:HT.sIx items.size 0 lo=0/\HT.sIx items.size items.size hi=items.size) (h:Q (.ref t) s):wpAny (model prog w) A (getItem (.ref t) (.ref sl)) Q E s:=by
 obtain⟨os,hos,hcs,hds⟩:=id hs;have hTs:s.TypeIs (.ref sl) "slice":=⟨os,hos,hcs⟩;unfold getItem
 try with_reducible refine wpAny_holding ?_
 first|refine wpAny_bind (wpAny_pure ?_)|skip
 refine wpAny_bind (wpAny_sequenceKey ht.typeIs (by decide) ?_);refine wpAny_bind (wpAny_callSpecial?_slot (name:=Str.ofString "__getitem__") ht.typeIs PyProof.Rows.slot_tuple_getitem
  (wpAny_call_entry PyProof.Rows.slot_tuple_getitem ht.typeIs entry_tuple_getitem ?_ (args_tuple_getitem _ _)))
 show wpAny _ _ (Builtin.Tuple.tupleItemsOf (.ref t) >>= _) _ _ s;refine wpAny_bind (tupleItemsOf_ ht ?_);refine wpAny_bind (wpAny_typeOf hTs ?_);rw[if_pos (by decide)];refine wpAny_bind (HT.sliceApplied_gen hs pl pu ?_);have hyes:(((HT.sIx items.size 0 lo:Nat):Int)==0&&(1:Int)==1&&(HT.sIx items.size items.size hi-HT.sIx items.size 0 lo)==items.size)=true:=by
  rw[hw.1,hw.2];simp
 show wpAny _ _ (if (((HT.sIx items.size 0 lo:Nat):Int)==0&&(1:Int)==1&&(HT.sIx items.size items.size hi-HT.sIx items.size 0 lo)==items.size)=true then _ else _) _ _ s;rw[if_pos hyes];unfold Builtin.Tuple.tupleIsExact;refine wpAny_bind (wpAny_bind (wpAny_typeOf ht.typeIs (wpAny_pure ?_)));rw[if_pos (by decide)];exact wpAny_bind (wpAny_rule (wpAny_pure ⟨_,rfl,wpAny_pure h⟩))
def rSlT3(K:PySem.W.Frag):V->Option Int->Option Int->Hp->VK->Prop:=fun x lo hi H Q=>∃a xs,x=.ref a/\SqT K H a xs ∧
 (HT.sIx xs.length 0 lo=0/\HT.sIx xs.length xs.length hi=xs.length)/\Q (.ref a) H
theorem sl_tupW:SlR X (rSlT3 X.K):=by
 intro pins s σ H x v vl vu lo hi sl Q I rx hs pl pu h;obtain⟨a,xs,rfl,hx,hw,q⟩:=h;cases rx;obtain⟨its,r,ht,hz⟩:=I.tuple hx;have hlen:its.toArray.size=xs.length:=by rw[List.size_toArray];exact r.length.symm
 refine⟨"tuple",_,PyProof.Rows.slot_tuple_getitem.lookup,ht.typeIs,?_⟩;exact qo5z ht hs pl pu (by rw[hlen];exact hw) ⟨.ref a,H,I,rfl,q⟩
theorem e_sl{lo hi:Option Expr}{tl th:TO3}{p2:Pos}(ha:PE3 X a ta)(hl:PO3 X lo tl)(hh:PO3 X hi th):PE3 X (.Subscript a (.Slice lo hi none p2) pos) (eSl ta tl th):=
 qoz (qmxz (sl_tup.or (sl_tupW.or qm3z)) ha hl hh) fun σ H Q ⟨τ,G,Q3,RS,RG,h,k⟩=>by
  refine⟨τ,G,_,RS,RG,h,fun v1 H1 d1 G1 h1 S1 R1 q1=>?_⟩;have RS1:=RS.ext (S1.ext RG);refine⟨τ,G1,_,RS1,R1,q1,fun l H2 G2 S2 R2 q2=>?_⟩;have RS2:=RS1.ext (S2.ext R1);refine⟨τ,G2,_,RS2,R2,q2,fun u H3 G3 S3 R3 q3=>?_⟩;have S13:Step H G H3 G3:=(S1.trans S2).trans S3;have hv:=(h1.ext (S2.ext R1)).ext (S3.ext R2);cases d1 with
  |tup ds=>
   obtain⟨a',vs,rfl,e1,e2⟩:=qagz hv;by_cases hw:HT.sIx vs.length 0 l=0/\HT.sIx vs.length vs.length u=vs.length
   ·refine .inr (.inl ⟨a',vs,rfl,e1,hw,k _ H3 (.tup (cut3 ds l u)) G3 (qasz e1 ?_) S13 R3 q3⟩);have:cut3 ds l u=ds:=by
     unfold cut3;rw[e2.length,hw.1,hw.2];simp[←e2.length]
    rw[this];exact e2
   ·refine .inl ⟨a',vs,rfl,e1,hw,fun p hp=>?_⟩;exact k _ _ (.tup (cut3 ds l u)) G3 (qasz (.of qnz) ((qehz e2 l u).ext (.laid hp))) (S13.trans (.laid hp)) (R3.laid hp) q3
  |scr ds=>
   obtain⟨a',vs,rfl,e1,e2⟩:=qayz hv;refine .inr (.inr ⟨a',vs,rfl,e1.l,fun p hp=>?_⟩);exact k _ _ (.obj p) _ qa8z (S13.trans (.laidG hp)) (R3.newL hp (qehz e2 l u)) (q3 p _ (.mk' (R3.free hp)))
  |obj a'=>
   rw[qpz hv];obtain⟨ds,e0,q3⟩:=q3;obtain⟨vs,e1,e2⟩:=R3 a' _ e0;refine .inr (.inr ⟨a',vs,rfl,.of e1,fun p hp=>?_⟩);exact k _ _ (.obj p) _ qa8z (S13.trans (.laidG hp)) (R3.newL hp (qehz e2 l u)) (q3 p _ (.mk' (R3.free hp)))
  |_=>exact q3.elim
end
end L3
namespace L3
open PySem PySem.Spec PyProof.Rows L2
abbrev C3:=List D->Gp->V3->Prop
def eCB(r:C3)(t:TA3):TE3:=fun τ G Q=>t τ G fun ds G1=>r ds G1 Q
def LowC(K:PySem.W.Frag)(r:C3)(r2:List V->Hp->VK->Prop):Prop:=∀ds vs G H Q3 Q,Hvs K H ds vs->RepG K G H->r ds G Q3->(∀v H' d G',Hv K H' d v->Step H G H' G'->RepG K G' H'->Q3 d G'->Q v H')->r2 vs H Q
section
variable {X:Cx} {K:PySem.W.Frag} {e:Expr} {es:List Expr} {t:TA3} {ta:TE3} {pos p:Pos}
theorem qo6z{r:C3}{r2:List V->Hp->VK->Prop}(L:LowC K r r2){σ:L2.St}{H:Hp}{Q:VK}(h:low K (eCB r t) σ H Q):tCB r2 (lowA K t) σ H Q:=by
 obtain⟨τ,G,Q3,RS,RG,h,k⟩:=h;refine⟨τ,G,_,RS,RG,h,fun vs H1 ds G1 h1 S1 R1 q1=>?_⟩;exact L _ _ _ _ _ _ h1 R1 q1 fun v H' d G' z1 z2 z3 z4=>k v H' d G' z1 (S1.trans z2) z3 z4
theorem e_cb{r:C3}{r2:List V->Hp->VK->Prop}(L:LowC X.K r r2)(h:PE X e (tCB r2 (lowA X.K t))):PE3 X e (eCB r t):=qoz h fun _ _ _ h=>qo6z L h
theorem hvs1{H:Hp}{d:D}{vs:List V}(h:Hvs K H [d] vs):∃v,vs=[v]/\Hv K H d v:=by
 obtain⟨v,r,rfl,z1,z2⟩:=h.inv;cases z2.inv0;exact⟨v,rfl,z1⟩
theorem hvs2{H:Hp}{d d':D}{vs:List V}(h:Hvs K H [d,d'] vs):∃v v',vs=[v,v']/\Hv K H d v/\Hv K H d' v':=by
 obtain⟨v,r,rfl,z1,z2⟩:=h.inv;obtain⟨v',rfl,z3⟩:=hvs1 z2;exact⟨v,v',rfl,z1,z3⟩
def q1z:C3:=fun ds G Q=>match ds with
 |[.obj a]=>∃xs,G a=some (.lst xs)/\Q (.int xs.length) G
 |[.tup xs]=>Q (.int xs.length) G
 |[.scr xs]=>Q (.int xs.length) G
 |_=>False
theorem qo7z:LowC K q1z (fun xs H Q=>∃p ys,xs=[.ref p]/\(SqL K H p ys∨SqT K H p ys)/\Q (.int ys.length) H):=fun ds vs G H Q3 Q h RG q k=>by
 rcases ds with _|⟨d,_|⟨d2,ds⟩⟩
 ·exact q.elim
 ·obtain⟨v,rfl,hv⟩:=hvs1 h;cases d with
  |obj a=>
   obtain⟨xs,e,q⟩:=q;obtain⟨us,e1,e2⟩:=RG a _ e;rw[qpz hv];exact⟨a,us,rfl,.inl (.of e1),by rw[←e2.length];exact k _ H _ G q9z (.refl H G) RG q⟩
  |tup xs=>
   obtain⟨a,us,rfl,e1,e2⟩:=qagz hv;exact⟨a,us,rfl,.inr e1,by rw[←e2.length];exact k _ H _ G q9z (.refl H G) RG q⟩
  |scr xs=>
   obtain⟨a,us,rfl,e1,e2⟩:=qayz hv;exact⟨a,us,rfl,.inl e1.l,by rw[←e2.length];exact k _ H _ G q9z (.refl H G) RG q⟩
  |_=>exact q.elim
 ·cases d<;>exact q.elim
theorem qo8z(hu:X.A.units+64<cLine)(hm:X.mg "len" = none)(ha:PA3 X (e::es) t)(hg:Gl X "len":=by rfl)(he:notStar e=true:=by rfl)(hpl:es.all notStar=true:=by rfl):
  PE3 X (.Call (.Name "len" p) (e::es) [] pos) (eCB q1z t):=e_cb qo7z (qarz qm4z hg hm PySem.boot_len ha (he:=qjz he) (hpl:=qvz hpl))
def qdgz:C3:=fun ds G Q=>match ds with
 |[.bl b]=>Q (.int (if b then 1 else 0)) G
 |[.int i]=>Q (.int i) G
 |_=>False
theorem qo9z:LowC K qdgz (fun xs H Q=>(∃i,xs=[.int i]/\Q (.int i) H)∨∃k,xs=[.bl k]/\Q (.int (if k then 1 else 0)) H):=fun ds vs G H Q3 Q h RG q k=>by
 rcases ds with _|⟨d,_|⟨d2,ds⟩⟩
 ·exact q.elim
 ·obtain⟨v,rfl,hv⟩:=hvs1 h;cases d with
  |bl b=>
   rw[qa7z hv];exact .inr ⟨b,rfl,k _ H _ G q9z (.refl H G) RG q⟩
  |int b=>
   rw[qsz hv];exact .inl ⟨b,rfl,k _ H _ G q9z (.refl H G) RG q⟩
  |_=>exact q.elim
 ·cases d<;>exact q.elim
theorem qpaz(hu:X.A.units+64<cLine)(hm:X.mg "int" = none)(ha:PA3 X (e::es) t)(hg:Gl X "int":=by rfl)(he:notStar e=true:=by rfl)(hpl:es.all notStar=true:=by rfl):
  PE3 X (.Call (.Name "int" p) (e::es) [] pos) (eCB qdgz t):=e_cb qo9z (qc5z qmdz hg hm rfl ha (he:=qjz he) (hpl:=qvz hpl))
def qcez:C3:=fun ds G Q=>match ds with
 |[.int i,.int j]=>Q (.int (if j > i then j else i)) G
 |_=>False
def qeiz:C3:=fun ds G Q=>match ds with
 |[.int i,.int j]=>Q (.int (if j<i then j else i)) G
 |_=>False
theorem qhoz{f:Int->Int->Int}:LowC K (fun ds G Q=>match ds with
 |[.int i,.int j]=>Q (.int (f i j)) G
 | _=>False) (fun xs H Q=>∃i j,xs=[.int i,.int j]/\Q (.int (f i j)) H):=fun ds vs G H Q3 Q h RG q k=>by
 rcases ds with _|⟨d,_|⟨d2,_|⟨d3,ds⟩⟩⟩
 ·exact q.elim
 ·cases d<;>exact q.elim
 ·obtain⟨v,v',rfl,h1,h2⟩:=hvs2 h;cases d with
  |int i=>
   cases d2 with
   |int j=>
    rw[qsz h1,qsz h2];exact⟨i,j,rfl,k _ H _ G q9z (.refl H G) RG q⟩
   |_=>exact q.elim
  |_=>exact q.elim
 ·cases d with
  |int i=>cases d2<;>exact q.elim
  |_=>exact q.elim
theorem qpbz(hu:X.A.units+64<cLine)(hm:X.mg "max" = none)(ha:PA3 X (e::es) t)(hc:X.calm=true:=by rfl)(hg:Gl X "max":=by rfl)(he:notStar e=true:=by rfl)(hpl:es.all notStar=true:=by rfl):
  PE3 X (.Call (.Name "max" p) (e::es) [] pos) (eCB qcez t):=e_cb (qhoz (f:=fun i j=>if j > i then j else i)) (qarz (qmbz hc) hg hm rfl ha (he:=qjz he) (hpl:=qvz hpl))
theorem qpcz(hu:X.A.units+64<cLine)(hm:X.mg "min" = none)(ha:PA3 X (e::es) t)(hc:X.calm=true:=by rfl)(hg:Gl X "min":=by rfl)(he:notStar e=true:=by rfl)(hpl:es.all notStar=true:=by rfl):
  PE3 X (.Call (.Name "min" p) (e::es) [] pos) (eCB qeiz t):=e_cb (qhoz (f:=fun i j=>if j<i then j else i)) (qarz (qmcz hc) hg hm rfl ha (he:=qjz he) (hpl:=qvz hpl))
def qbsz:C3:=fun ds G Q=>match ds with
 |[.obj a]=>∃xs,G a=some (.lst xs)/\Q (.tup xs) G
 |[.tup xs]=>Q (.tup xs) G
 |[.scr xs]=>Q (.tup xs) G
 |_=>False
theorem qpdz:LowC K qbsz (fun xs H Q=>∃p ys,xs=[.ref p]/\((SqL K H p ys/\∀l,H l=none->Q (.ref l) (upd H l (.tup ys)))∨(SqT K H p ys/\Q (.ref p) H))):=fun ds vs G H Q3 Q h RG q k=>by
 rcases ds with _|⟨d,_|⟨d2,ds⟩⟩
 ·exact q.elim
 ·obtain⟨v,rfl,hv⟩:=hvs1 h;cases d with
  |obj a=>
   obtain⟨xs,e,q⟩:=q;obtain⟨us,e1,e2⟩:=RG a _ e;rw[qpz hv];exact⟨a,us,rfl,.inl ⟨.of e1,fun l hl=>k _ _ (.tup xs) G (qasz (.of qnz) (e2.ext (.laid hl))) (.laid hl) (RG.laid hl) q⟩⟩
  |tup xs=>
   obtain⟨a,us,rfl,e1,e2⟩:=qagz hv;exact⟨a,us,rfl,.inr ⟨e1,k _ H _ G (qasz e1 e2) (.refl H G) RG q⟩⟩
  |scr xs=>
   obtain⟨a,us,rfl,e1,e2⟩:=qayz hv;exact⟨a,us,rfl,.inl ⟨e1.l,fun l hl=>k _ _ (.tup xs) G (qasz (.of qnz) (e2.ext (.laid hl))) (.laid hl) (RG.laid hl) q⟩⟩
  |_=>exact q.elim
 ·cases d<;>exact q.elim
theorem qpez(hu:X.A.units+64<cLine)(hm:X.mg "tuple" = none)(ha:PA3 X (e::es) t)(hg:Gl X "tuple":=by rfl)(he:notStar e=true:=by rfl)(hpl:es.all notStar=true:=by rfl):
  PE3 X (.Call (.Name "tuple" p) (e::es) [] pos) (eCB qbsz t):=e_cb qpdz (qc5z qm6z hg hm rfl ha (he:=qjz he) (hpl:=qvz hpl))
def qcfz:C3:=fun ds G Q=>match ds with
 |[.obj a]=>∃xs,G a=some (.lst xs)/\∀p G',New G p (.lst xs) G'->Q (.obj p) G'
 |[.tup xs]=>∀p G',New G p (.lst xs) G'->Q (.obj p) G'
 |[.scr xs]=>∀p G',New G p (.lst xs) G'->Q (.obj p) G'
 |_=>False
theorem qpfz:LowC K qcfz (fun xs H Q=>∃p ys,xs=[.ref p]/\(SqL K H p ys∨SqT K H p ys)/\∀l,H l=none->Q (.ref l) (upd H l (.lst ys))):=fun ds vs G H Q3 Q h RG q k=>by
 have fin:∀(xs:List D) (us:List V),Hvs K H xs us->(∀p G',New G p (.lst xs) G'->Q3 (.obj p) G')->∀l,H l=none->Q (.ref l) (upd H l (.lst us)):=fun xs us e2 q l hl=>
  k _ _ (.obj l) _ qa8z (.laidG hl) (RG.newL hl e2) (q l _ (.mk' (RG.free hl)))
 rcases ds with _|⟨d,_|⟨d2,ds⟩⟩
 ·exact q.elim
 ·obtain⟨v,rfl,hv⟩:=hvs1 h;cases d with
  |obj a=>
   obtain⟨xs,e,q⟩:=q;obtain⟨us,e1,e2⟩:=RG a _ e;rw[qpz hv];exact⟨a,us,rfl,.inl (.of e1),fin xs us e2 q⟩
  |tup xs=>
   obtain⟨a,us,rfl,e1,e2⟩:=qagz hv;exact⟨a,us,rfl,.inr e1,fin xs us e2 q⟩
  |scr xs=>
   obtain⟨a,us,rfl,e1,e2⟩:=qayz hv;exact⟨a,us,rfl,.inl e1.l,fin xs us e2 q⟩
  |_=>exact q.elim
 ·cases d<;>exact q.elim
theorem qpgz(hu:X.A.units+64<cLine)(hm:X.mg "list" = none)(ha:PA3 X (e::es) t)(hg:Gl X "list":=by rfl)(he:notStar e=true:=by rfl)(hpl:es.all notStar=true:=by rfl):
  PE3 X (.Call (.Name "list" p) (e::es) [] pos) (eCB qcfz t):=e_cb qpfz (qc5z qm5z hg hm rfl ha (he:=qjz he) (hpl:=qvz hpl))
def eM(r:D->List D->Gp->V3->Prop)(to:TE3)(t:TA3):TE3:=fun τ G Q=>to τ G fun x G1=>(∃a xs,x=.obj a/\G1 a=some (.lst xs))/\t τ G1 fun ds G2=>r x ds G2 Q
def LowM(K:PySem.W.Frag)(r:D->List D->Gp->V3->Prop)(r2:V->List V->Hp->VK->Prop):Prop:=∀x vx ds vs G H Q3 Q,Hv K H x vx->Hvs K H ds vs->RepG K G H->r x ds G Q3->(∀v H' d G',Hv K H' d v->Step H G H' G'->RepG K G' H'->Q3 d G'->Q v H')->r2 vx vs H Q
theorem qphz{r:D->List D->Gp->V3->Prop}{r2:V->List V->Hp->VK->Prop}{to:TE3}(L:LowM K r r2){σ:L2.St}{H:Hp}{Q:VK}(h:low K (eM r to t) σ H Q):tBM K "list" r2 (low K to) (lowA K t) σ H Q:=by
 obtain⟨τ,G,Q3,RS,RG,h,k⟩:=h;refine⟨τ,G,_,RS,RG,h,fun v1 H1 d1 G1 h1 S1 R1 q1=>?_⟩;obtain⟨⟨a,xs,rfl,e1⟩,q1⟩:=q1;obtain⟨us,e2,e3⟩:=R1 a _ e1;refine⟨?_,τ,G1,_,RS.ext (S1.ext RG),R1,q1,fun vs H2 ds G2 h2 S2 R2 q2=>?_⟩
 ·rw[qpz h1];exact .inl ⟨rfl,us,.of e2⟩
 ·exact L _ _ _ _ _ _ _ _ (h1.ext (S2.ext R1)) h2 R2 q2 fun v H' d G' z1 z2 z3 z4=>k v H' d G' z1 ((S1.trans S2).trans z2) z3 z4
def qcgz:D->List D->Gp->V3->Prop:=fun x ds G Q=>match x,ds with
 |.obj a,[d]=>∃xs,G a=some (.lst xs)/\xs.length<sizeLine/\Q .non (upd3 G a (.lst (xs++[d])))
 |_,_=>False
theorem qdhz:LowM K qcgz rAppend:=fun x vx ds vs G H Q3 Q hx hs RG q k=>by
 rcases ds with _|⟨d,_|⟨d2,ds⟩⟩
 ·cases x<;>exact q.elim
 ·cases x with
  |obj a=>
   obtain⟨xs,e1,hz,q⟩:=q;obtain⟨us,e2,e3⟩:=RG a _ e1;obtain⟨v,rfl,hv⟩:=hvs1 hs;rw[qpz hx];refine⟨a,us,v,rfl,rfl,e2,by rw[←e3.length];exact hz,?_⟩;exact k _ _ .non _ (by simp[Hv]) (.wrote e1) (RG.wroteL e2 (e3.append (.cons hv .nil))) q
  |_=>exact q.elim
 ·cases x<;>exact q.elim
theorem qpiz{r:D->List D->Gp->V3->Prop}{r2:V->List V->Hp->VK->Prop}{to:TE3}(L:LowM X.K r r2)(h:PE X e (tBM X.K "list" r2 (low X.K to) (lowA X.K t))):PE3 X e (eM r to t):=qoz h fun _ _ _ z=>qphz L z
def qdiz:D->List D->Gp->V3->Prop:=fun x ds G Q=>match x,ds with
 |.obj a,[.int i]=>∃xs k d,G a=some (.lst xs)/\(-(2^63)≤i/\i<2^63)/\seqIndex? i xs.length=some k/\xs[k]?=some d/\Q d (upd3 G a (.lst (xs.eraseIdx k)))
 |_,_=>False
theorem qejz:LowM K qdiz rPopAt:=fun x vx ds vs G H Q3 Q hx hs RG q k=>by
 rcases ds with _|⟨d,_|⟨d2,ds⟩⟩
 ·cases x<;>exact q.elim
 ·cases x with
  |obj a=>
   cases d with
   |int i=>
    obtain⟨xs,j,y,e1,hb,hk,hy,q⟩:=q;obtain⟨us,e2,e3⟩:=RG a _ e1;obtain⟨v,rfl,hv⟩:=hvs1 hs;obtain⟨w,e4,e5⟩:=e3.get hy;rw[qpz hx,qsz hv];refine⟨a,us,i,j,w,rfl,rfl,e2,hb.1,hb.2,by rw[←e3.length];exact hk,e4,?_⟩;exact k _ _ y _ (e5.ext (.wrote e2)) (.wrote e1) (RG.wroteL e2 (e3.erase j)) q
   |_=>exact q.elim
  |_=>exact q.elim
 ·cases x with
  |obj a=>cases d<;>exact q.elim
  |_=>exact q.elim
def instD(T:String)(G:Gp):D->Option Bool
 |.non=>some false
 |.bl _=>some (T=="bool" || T=="int")
 |.int _=>some (T=="int")
 |.str _=>some (T=="str")
 |.tup _=>some (T=="tuple")
 |.scr _=>some (T=="list")
 |.dc _=>some (T=="dict")
 |.obj a=>match G a with
  |some (.lst _)=>some (T=="list")
  |some .pen=>some (T=="list")
  |some .dct=>some (T=="dict")
  |some (.gen _)=>none
  |none=>none
def eInst(T:String)(ta:TE3):TE3:=fun τ G Q=>ta τ G fun x G1=>match instD T G1 x with
 |some b=>Q (.bl b) G1
 |none=>False
end
end L3
namespace KasS
open PySem PySem.W PyProof.Rows
structure Ord(n:Nat)(lt:Nat->Nat->Bool):Prop where
 asy:∀a b,a<n->b<n->lt a b=true->lt b a=false
 tra:∀a b c,a<n->b<n->c<n->lt b a=false->lt c b=false->lt c a=false
abbrev g(p:Array Nat)(i:Nat):Nat:=p.getD i 0
structure Va(n:Nat)(p:Array Nat):Prop where
 perm:p.toList.Perm (List.range n)
section
variable {n:Nat} {lt:Nat->Nat->Bool} {cmp:Nat->Nat->(Bool->Shared->Prop)->Shared->Prop} {s:Shared}
theorem Va.size{p:Array Nat}(v:Va n p):p.size=n:=by
 have:=v.perm.length_eq;simpa using this
theorem Va.get{p:Array Nat}(v:Va n p){i:Nat}(hi:i<n):p[i]?=some (g p i):=by
 have h:=v.size;simp[g,Array.getD,h,hi]
theorem Va.inr{p:Array Nat}(v:Va n p){i:Nat}(hi:i<n):g p i<n:=by
 have h:=v.get hi;have hm:g p i∈p.toList:=List.mem_of_getElem? (by rw[Array.getElem?_toList];exact h);have:=v.perm.mem_iff.mp hm;simpa using this
theorem Ord.refl(O:Ord n lt){a:Nat}(ha:a<n):lt a a=false:=by
 cases h:lt a a with
 |false=>rfl
 |true=>
  have:=O.asy a a ha ha h;rw[h] at this;exact this
def So(lt:Nat->Nat->Bool)(p:Array Nat)(k:Nat):Prop:=∀i j,i≤j->j<k->lt (g p j) (g p i)=false
def Ni(lt:Nat->Nat->Bool)(p:Array Nat)(k:Nat):Prop:=∀i j,i≤j->j<k->lt (g p i) (g p j)=false
def Eq'(lt:Nat->Nat->Bool)(p:Array Nat)(lo hi:Nat):Prop:=∀i j,lo≤i->i<hi->lo≤j->j<hi->lt (g p i) (g p j)=false
theorem So.one(O:Ord n lt){p:Array Nat}(v:Va n p)(hn:1≤n):So lt p 1:=fun i j h1 h2=>by
 have e1:i=0:=by lia
 have e2:j=0:=by lia
 rw[e1,e2];exact O.refl (v.inr (by lia))
theorem So.next(O:Ord n lt){p:Array Nat}(v:Va n p){a:Nat}(h1:1≤a)(ha:a<n)(S:So lt p a)(h:lt (g p a) (g p (a-1))=false):So lt p (a+1):=fun i j hij hj=>by
 by_cases hja:j<a
 ·exact S i j hij hja
 ·have e:j=a:=by lia
  subst e;by_cases hij':i=j
  ·rw[hij'];exact O.refl (v.inr ha)
  ·exact O.tra (g p i) (g p (j-1)) (g p j) (v.inr (by lia)) (v.inr (by lia)) (v.inr ha) (S i (j-1) (by lia) (by lia)) h
theorem Ni.next(O:Ord n lt){p:Array Nat}(v:Va n p){a:Nat}(h1:1≤a)(ha:a<n)(S:Ni lt p a)(h:lt (g p (a-1)) (g p a)=false):Ni lt p (a+1):=fun i j hij hj=>by
 by_cases hja:j<a
 ·exact S i j hij hja
 ·have e:j=a:=by lia
  subst e;by_cases hij':i=j
  ·rw[hij'];exact O.refl (v.inr ha)
  ·exact O.tra (g p j) (g p (j-1)) (g p i) (v.inr ha) (v.inr (by lia)) (v.inr (by lia)) h (S i (j-1) (by lia) (by lia))
theorem qbaz{p:Array Nat}(v:Va n p)(i j:Nat):Va n (kas_rev p i j):=⟨(mirror_perm p i j _).toList.trans v.perm⟩
theorem qdjz{p:Array Nat}(v:Va n p){lo hi k:Nat}(hh:hi≤n)(hk:k<n):g (kas_rev p lo hi) k=if lo≤k/\k<hi then g p (lo+hi-1-k) else g p k:=by
 have h1:=getElem?_mirror_all (xs:=p) (i:=lo) (j:=hi) (by rw[v.size];exact hh) k;have h2:=(qbaz v lo hi).get hk;have h3:(kas_rev p lo hi)[k]?=_:=h1;rw[h2] at h3;by_cases hc:lo≤k/\k<hi
 ·rw[if_pos hc] at h3 ⊢;rw[v.get (by lia)] at h3;exact Option.some.inj h3
 ·rw[if_neg hc] at h3 ⊢;rw[v.get hk] at h3;exact Option.some.inj h3
theorem qekz{p:Array Nat}(v:Va n p){lo hi k:Nat}(hh:hi≤k)(hk:k≤n)(S:Ni lt p k)(e:Eq' lt p lo hi):Ni lt (kas_rev p lo hi) k:=fun i j hij hj=>by
 rw[qdjz v (by lia) (show i<n by lia),qdjz v (by lia) (show j<n by lia)];by_cases hi':lo≤i/\i<hi
 ·rw[if_pos hi'];by_cases hj':lo≤j/\j<hi
  ·rw[if_pos hj'];exact e _ _ (by lia) (by lia) (by lia) (by lia)
  ·rw[if_neg hj'];exact S _ _ (by lia) hj
 ·rw[if_neg hi'];by_cases hj':lo≤j/\j<hi
  ·rw[if_pos hj'];exact S _ _ (by lia) (by lia)
  ·rw[if_neg hj'];exact S _ _ hij hj
theorem qpjz{p:Array Nat}(v:Va n p){k:Nat}(hk:k≤n)(S:Ni lt p k):So lt (kas_rev p 0 k) k:=fun i j hij hj=>by
 rw[qdjz v hk (show i<n by lia),qdjz v hk (show j<n by lia),if_pos (by lia),if_pos (by lia)];exact S _ _ (by lia) (by lia)
variable (O:Ord n lt) (hc:∀i j,i<n->j<n->∀(C:Bool->Shared->Prop) (s:Shared),C (lt i j) s->cmp i j C s)
include O hc
theorem qelz{p:Array Nat}(v:Va n p){G:Nat->Shared->Prop}:∀(f a:Nat),1≤a->a+f≤n->So lt p a->(∀m,a≤m->m≤a+f->So lt p m->(m=a+f∨lt (g p m) (g p (m-1))=true)->G m s)->(kas_asc p f a).kasWp cmp G s
 |0,a,_,_,S,h=>h a (Nat.le_refl _) (by lia) S (.inl (by lia))
 |f+1,a,h1,h2,S,h=>by
  show cmp _ _ _ s;refine hc _ _ (v.inr (by lia)) (v.inr (by lia)) _ s ?_;cases hb:lt (g p a) (g p (a-1)) with
  |true=>
   ((try dsimp only);rw[if_pos rfl])
   exact h a (Nat.le_refl _) (by lia) S (.inr hb)
  |false=>
   ((try dsimp only);rw[if_neg Bool.false_ne_true])
   exact qelz v f (a+1) (by lia) (by lia) (S.next O v h1 (by lia) hb) fun m q1 q2 q3 q4=>h m (by lia) (by lia) q3 (by
    rcases q4 with q4|q4
    ·exact .inl (by lia)
    ·exact .inr q4)
theorem qdkz{G:Array Nat×Nat×Nat->Shared->Prop}:∀(f:Nat) (p:Array Nat) (a q:Nat),Va n p->q+1≤a->a+f≤n->Ni lt p a->Eq' lt p (a-(q+1)) a ->
  (∀p' m q',Va n p'->a≤m->m≤a+f->q'+1≤m->Ni lt p' m->Eq' lt p' (m-(q'+1)) m->G (p',m,q') s)->(kas_desc f p a q).kasWp cmp G s
 |0,p,a,q,v,h1,h2,S,e,h=>h p a q v (Nat.le_refl _) (by lia) h1 S e
 |f+1,p,a,q,v,h1,h2,S,e,h=>by
  show cmp _ _ _ s;refine hc _ _ (v.inr (by lia)) (v.inr (by lia)) _ s ?_;have one:∀{p':Array Nat},Va n p'->Eq' lt p' (a+1-(0+1)) (a+1):=fun {p'} v' i j i1 i2 j1 j2=>by
   have e1:i=a:=by lia
   have e2:j=a:=by lia
   rw[e1,e2];exact O.refl (v'.inr (by lia))
  cases hb:lt (g p a) (g p (a-1)) with
  |true=>
   ((try dsimp only);rw[if_pos rfl])
   have S':=S.next O v (by lia) (by lia) (O.asy _ _ (v.inr (by lia)) (v.inr (by lia)) hb)
   by_cases hq:q > 0
   ·rw[if_pos hq];exact qdkz f _ (a+1) 0 (qbaz v _ _) (by lia) (by lia) (qekz v (by lia) (by lia) S' e) (one (qbaz v _ _)) fun p' m q' r1 r2 r3 r4 r5 r6=>h p' m q' r1 (by lia) (by lia) r4 r5 r6
   ·rw[if_neg hq];exact qdkz f _ (a+1) 0 v (by lia) (by lia) S' (one v) fun p' m q' r1 r2 r3 r4 r5 r6=>h p' m q' r1 (by lia) (by lia) r4 r5 r6
  |false=>
   ((try dsimp only);rw[if_neg Bool.false_ne_true])
   show cmp _ _ _ s;refine hc _ _ (v.inr (by lia)) (v.inr (by lia)) _ s ?_;cases hd:lt (g p (a-1)) (g p a) with
   |true=>
    ((try dsimp only);rw[if_pos rfl])
    exact h p a q v (Nat.le_refl _) (by lia) h1 S e
   |false=>
    ((try dsimp only);rw[if_neg Bool.false_ne_true])
    refine qdkz f _ (a+1) (q+1) v (by lia) (by lia) (S.next O v (by lia) (by lia) hd) (fun i j i1 i2 j1 j2=>?_) fun p' m q' r1 r2 r3 r4 r5 r6=>h p' m q' r1 (by lia) (by lia) r4 r5 r6
    have L:∀k,k<n->g p k<n:=fun k hk=>v.inr hk;by_cases hi:i=a
    ·by_cases hj:j=a
     ·rw[hi,hj];exact O.refl (L _ (by lia))
     ·rw[hi];exact O.tra (g p j) (g p (a-1)) (g p a) (L _ (by lia)) (L _ (by lia)) (L _ (by lia)) (e (a-1) j (by lia) (by lia) (by lia) (by lia)) hb
    ·by_cases hj:j=a
     ·rw[hj];exact O.tra (g p a) (g p (a-1)) (g p i) (L _ (by lia)) (L _ (by lia)) (L _ (by lia)) hd (e i (a-1) (by lia) (by lia) (by lia) (by lia))
     ·exact e i j (by lia) (by lia) (by lia) (by lia)
theorem qhpz{p:Array Nat}(v:Va n p){a:Nat}{G:Nat×Array Nat->Shared->Prop}(h1:1≤a)(h2:a≤n)(S:Ni lt p a)(h:∀m p',Va n p'->1≤m->m≤n->So lt p' m->G (m,p') s):(kas_tail3 a n p).kasWp cmp G s:=by
 unfold kas_tail3;rw[KasT.kasWp_bind];exact qelz O hc (qbaz v 0 a) (n-a) a h1 (by lia) (qpjz v h2 S) fun m q1 q2 q3 _=>h m _ (qbaz v 0 a) (by lia) (by lia) q3
theorem qhqz{p:Array Nat}(v:Va n p){a:Nat}{G:Nat×Array Nat->Shared->Prop}(h1:1≤a)(h2:a+1≤n)(S:Ni lt p (a+1))(h:∀m p',Va n p'->1≤m->m≤n->So lt p' m->G (m,p') s):(kas_descPart a n p).kasWp cmp G s:=by
 unfold kas_descPart;rw[KasT.kasWp_bind];refine qdkz O hc (n-(a+1)) p (a+1) 0 v (by lia) (by lia) S (fun i j i1 i2 j1 j2=>?_) fun p' m q' r1 r2 r3 r4 r5 r6=>?_
 ·have e1:i=a:=by lia
  have e2:j=a:=by lia
  rw[e1,e2];exact O.refl (v.inr (by lia))
 ·dsimp only;by_cases hq:q' > 0
  ·rw[if_pos hq];exact qhpz O hc (qbaz r1 _ _) (by lia) (by lia) (qekz r1 (Nat.le_refl _) (by lia) r5 r6) h
  ·rw[if_neg hq];exact qhpz O hc r1 (by lia) (by lia) r5 h
theorem qpkz{p:Array Nat}(v:Va n p){G:Nat×Array Nat->Shared->Prop}(hn:1≤n)(h:∀m p',Va n p'->1≤m->m≤n->So lt p' m->G (m,p') s):(kas_count n p).kasWp cmp G s:=by
 unfold kas_count;rw[KasT.kasWp_bind];refine qelz O hc v (n-1) 1 (Nat.le_refl _) (by lia) (So.one O v hn) fun a q1 q2 q3 q4=>?_;have L:∀k,k<n->g p k<n:=fun k hk=>v.inr hk;by_cases e1:(a==n)=true
 ·rw[if_pos e1];exact h a p v q1 (by lia) q3
 ·rw[if_neg e1];have hne:a≠n:=fun z=>e1 (by rw[z];exact beq_self_eq_true _);have hlt:lt (g p a) (g p (a-1))=true:=by
   rcases q4 with q4|q4
   ·lia
   ·exact q4
  have hle:=O.asy _ _ (L a (by lia)) (L (a-1) (by lia)) hlt;by_cases e2:a > 1
  ·rw[if_pos e2];show cmp _ _ _ s;refine hc _ _ (v.inr (by lia)) (v.inr (by lia)) _ s ?_;cases hb:lt (g p 0) (g p (a-1)) with
   |true=>
    ((try dsimp only);rw[if_pos rfl])
    exact h a p v q1 (by lia) q3
   |false=>
    ((try dsimp only);rw[if_neg Bool.false_ne_true])
    -- all of the run are alike
    have eqv:Eq' lt p 0 a:=fun i j i1 i2 j1 j2=>by
     have h1:lt (g p i) (g p 0)=false:=q3 0 i (by lia) i2;have h2:lt (g p (a-1)) (g p j)=false:=q3 j (a-1) (by lia) (by lia);have h3:lt (g p 0) (g p j)=false:=O.tra _ _ _ (L j (by lia)) (L (a-1) (by lia)) (L 0 (by lia)) h2 hb;have h4:lt (g p (a-1)) (g p i)=false:=q3 i (a-1) (by lia) (by lia);exact O.tra _ _ _ (L j (by lia)) (L 0 (by lia)) (L i (by lia)) h3 h1
    have ni:Ni lt p (a+1):=Ni.next O v (by lia) (by lia) (fun i j hij hj=>eqv i j (by lia) (by lia) (by lia) hj) hle
    exact qhqz O hc (qbaz v _ _) (by lia) (by lia) (qekz v (by lia) (by lia) ni eqv) h
  ·rw[if_neg e2];have ea:a=1:=by lia
   subst ea;refine qhqz O hc v (Nat.le_refl _) (by lia) (Ni.next O v (by lia) (by lia) (fun i j hij hj=>?_) hle) h
   have e3:i=0:=by lia
   have e4:j=0:=by lia
   rw[e3,e4];exact O.refl (L 0 (by lia))
theorem qemz{p:Array Nat}(v:Va n p){k:Nat}(hk:k<n)(S:So lt p k){G:Nat->Shared->Prop}:∀(f l r:Nat),l≤r->r≤k->r-l≤f->(∀i,i<l->lt (g p k) (g p i)=false)->(∀i,r≤i->i<k->lt (g p k) (g p i)=true) ->
  (∀l,l≤k->(∀i,i<l->lt (g p k) (g p i)=false)->(∀i,l≤i->i<k->lt (g p k) (g p i)=true)->G l s)->(kas_place p k f l r).kasWp cmp G s
 |0,l,r,h1,h2,h3,h4,h5,h=>by
  have e:l=r:=by lia
  subst e;exact h l h2 h4 h5
 |f+1,l,r,h1,h2,h3,h4,h5,h=>by
  unfold kas_place;by_cases hlr:l≥r
  ·rw[if_pos hlr];have e:l=r:=by lia
   subst e;exact h l h2 h4 h5
  ·rw[if_neg hlr];show cmp _ _ _ s;refine hc _ _ (v.inr hk) (v.inr (by lia)) _ s ?_;have L:∀k,k<n->g p k<n:=fun k hk=>v.inr hk;cases hb:lt (g p k) (g p ((l+r) / 2)) with
   |true=>
    ((try dsimp only);rw[if_pos rfl])
    refine qemz v hk S f l ((l+r) / 2) (by lia) (by lia) (by lia) h4 (fun i i1 i2=>?_) h;by_cases hri:r≤i
    ·exact h5 i hri i2
    ·cases hx:lt (g p k) (g p i) with
     |true=>rfl
     |false=>
      have h6:lt (g p i) (g p ((l+r) / 2))=false:=S _ _ i1 i2;have:=O.tra _ _ _ (L ((l+r) / 2) (by lia)) (L i (by lia)) (L k hk) h6 hx;rw[hb] at this;exact this.symm
   |false=>
    ((try dsimp only);rw[if_neg Bool.false_ne_true])
    refine qemz v hk S f ((l+r) / 2+1) r (by lia) h2 (by lia) (fun i hi=>?_) h5 h;exact O.tra _ _ _ (L i (by lia)) (L ((l+r) / 2) (by lia)) (L k hk) (S i ((l+r) / 2) (by lia) (by lia)) hb
theorem qhrz{G:Array Nat->Shared->Prop}:∀(f:Nat) (p:Array Nat) (k:Nat),Va n p->k+f=n->So lt p k->(∀p',Va n p'->So lt p' n->G p' s)->(kas_bin f p k).kasWp cmp G s
 | 0,p,k,v,hk,S,h=>h p v (by
  have e:k=n:=by lia
  rw[←e];exact S)
 |f+1,p,k,v,hk,S,h=>by
  show ((kas_place p k k 0 k).bind fun l=>kas_bin f (bubble p k (k-l)) (k+1)).kasWp cmp G s;rw[KasT.kasWp_bind];refine qemz O hc v (by lia) S k 0 k (by lia) (Nat.le_refl _) (by lia) (fun i hi=>by lia) (fun i i1 i2=>by lia) fun l hl q1 q2=>?_;have v':Va n (bubble p k (k-l)):=⟨(bubble_perm p k (k-l)).toList.trans v.perm⟩;have L:∀k,k<n->g p k<n:=fun k hk=>v.inr hk;have bg:∀i,i<n->g (bubble p k (k-l)) i=if i=l then g p k else if l<i/\i≤k then g p (i-1) else g p i:=fun i hi=>by
   have h1:=getElem?_bubble (xs:=p) (src:=k) (by rw[v.size];lia) (k-l) (by lia) i;rw[v'.get hi,show k-(k-l)=l by lia] at h1;by_cases c1:i=l
   ·rw[if_pos c1] at h1 ⊢;rw[v.get (by lia)] at h1;exact Option.some.inj h1
   ·rw[if_neg c1] at h1 ⊢;by_cases c2:l<i/\i≤k
    ·rw[if_pos c2] at h1 ⊢;rw[v.get (by lia)] at h1;exact Option.some.inj h1
    ·rw[if_neg c2] at h1 ⊢;rw[v.get hi] at h1;exact Option.some.inj h1
  refine qhrz f _ (k+1) v' (by lia) (fun i j hij hj=>?_) h;rw[bg i (by lia),bg j (by lia)];by_cases ci:i=l
  ·rw[if_pos ci];by_cases cj:j=l
   ·rw[if_pos cj];exact O.refl (L k (by lia))
   ·rw[if_neg cj,if_pos (by lia)];exact O.asy _ _ (L k (by lia)) (L _ (by lia)) (q2 (j-1) (by lia) (by lia))
  ·rw[if_neg ci];by_cases cj:j=l
   ·rw[if_pos cj,if_neg (by lia)];exact q1 i (by lia)
   ·rw[if_neg cj];by_cases c3:l<i/\i≤k
    ·rw[if_pos c3,if_pos (by lia)];exact S (i-1) (j-1) (by lia) (by lia)
    ·rw[if_neg c3];by_cases c4:l<j/\j≤k
     ·rw[if_pos c4];exact S i (j-1) (by lia) (by lia)
     ·rw[if_neg c4];exact S i j hij (by lia)
theorem qplz{G:Array Nat->Shared->Prop}(hn:1≤n)(h:∀p,Va n p->So lt p n->G p s):(kas_sort n).kasWp cmp G s:=by
 unfold kas_sort;rw[KasT.kasWp_bind];have v0:Va n (List.toArray (List.range n)):=⟨by simp⟩;refine qpkz O hc v0 hn fun m p' v m1 m2 S=>?_;dsimp only;by_cases hm:m<n
 ·rw[if_pos hm];have e:max m 1=m:=by lia
  rw[e];exact qhrz O hc (n-m) p' m v (by lia) S h
 ·rw[if_neg hm];have e:m=n:=by lia
  subst e;exact h p' v S
end
end KasS
namespace SetP
open PySem PySem.SetTable
def Masky(m:Nat):Prop:=m=7∨m=31∨m=127
def adv(m:Nat)(p:Probe):Probe:=
 if p.more > 0 then { p with j:=p.j+1,more:=p.more-1 } else
 { p with j:=(leap m p.i p.perturb).1,more:=runEnd m (leap m p.i p.perturb).1-(leap m p.i p.perturb).1,i:=(leap m p.i p.perturb).1,perturb:=(leap m p.i p.perturb).2 }
def rs(m:Nat)(q:Nat×Nat):Probe:={ j:=q.1,more:=runEnd m q.1-q.1,i:=q.1,perturb:=q.2,dummy:=none }
def sta(m:Nat)(h:Int):Probe:=rs m (bits h%(m+1),bits h)
def sq(m:Nat)(h:Int):Nat->Probe
 |0=>sta m h
 |k+1=>adv m (sq m h k)
def rn(m:Nat)(h:Int):Nat->Nat×Nat
 |0=>(bits h%(m+1),bits h)
 |r+1=>leap m (rn m h r).1 (rn m h r).2
theorem qhsz(m:Nat)(h:Int):∀k,(sq m h k).dummy=none
 |0=>rfl
 |k+1=>by
  show (adv m (sq m h k)).dummy=none;have ih:=qhsz m h k;unfold adv;split<;>simpa using ih
theorem qpmz(m i:Nat):runEnd m i-i≤9:=by
 unfold runEnd;split<;>lia
theorem qenz(m:Nat)(h:Int)(n:Nat)(q:Nat×Nat)(e:sq m h n=rs m q):∀d,d≤runEnd m q.1-q.1->sq m h (n+d)={ j:=q.1+d,more:=runEnd m q.1-q.1-d,i:=q.1,perturb:=q.2,dummy:=none }
 |0,_=>by rw[Nat.add_zero,e];rfl
 |d+1,hd=>by
  have ih:=qenz m h n q e d (by lia);show adv m (sq m h (n+d))=_;rw[ih];unfold adv;rw[if_pos (show runEnd m q.1-q.1-d > 0 by lia)];simp only[Probe.mk.injEq,and_true,true_and];lia
theorem qhtz(m:Nat)(h:Int)(n:Nat)(q:Nat×Nat)(e:sq m h n=rs m q):sq m h (n+(runEnd m q.1-q.1)+1)=rs m (leap m q.1 q.2):=by
 show adv m (sq m h (n+(runEnd m q.1-q.1)))=_;rw[qenz m h n q e _ (Nat.le_refl _)];unfold adv;rw[if_neg (by simp)];rfl
theorem qhuz(m:Nat)(h:Int):∀r,∃n,n≤10*r/\sq m h n=rs m (rn m h r)
 |0=>⟨0,by lia,rfl⟩
 |r+1=>by
  obtain⟨n,hn,e⟩:=qhuz m h r;have:=qpmz m (rn m h r).1;exact⟨n+(runEnd m (rn m h r).1-(rn m h r).1)+1,by lia,qhtz m h n _ e⟩
theorem qpnz(h:Int):bits h<2^64:=by
 unfold bits;have h1:h%(2^64:Int)<2^64:=Int.emod_lt_of_pos _ (by decide);have h2:0≤h%(2^64:Int):=Int.emod_nonneg _ (by decide);lia
theorem qhvz(m:Nat)(h:Int):∀r,(rn m h r).2=bits h / 32^r
 |0=>by simp[rn]
 |r+1=>by
  show (rn m h r).2 / 32=_;rw[qhvz m h r,Nat.div_div_eq_div_mul,Nat.pow_succ]
theorem qpoz(m:Nat)(h:Int)(r:Nat)(hr:13≤r):(rn m h r).2=0:=by
 rw[qhvz];have h1:=qpnz h;have h2:(32:Nat)^13≤32^r:=Nat.pow_le_pow_right (by decide) hr;have h3:(2:Nat)^64<32^13:=by decide
 exact Nat.div_eq_of_lt (by lia)
def fl(m x:Nat):Nat:=(x*5+1)%(m+1)
def it(m:Nat):Nat->Nat->Nat
 |0,x=>x
 |n+1,x=>fl m (it m n x)
theorem qchz(m:Nat)(a:Nat):∀b x,it m (b+a) x=it m b (it m a x)
 |0,x=>by rw[Nat.zero_add];rfl
 |b+1,x=>by
  rw[show b+1+a=(b+a)+1 by lia];show fl m (it m (b+a) x)=fl m (it m b (it m a x));rw[qchz m a b x]
theorem qeoz(m:Nat)(h:Int):∀n,(rn m h (13+n)).1=it m n (rn m h 13).1
 |0=>rfl
 |n+1=>by
  show ((rn m h (13+n)).1*5+1+(rn m h (13+n)).2 / 32)%(m+1)=fl m (it m n (rn m h 13).1);rw[qpoz m h (13+n) (by lia),qeoz m h n];rfl
theorem qepz(m:Nat)(h:Int):∀r,(rn m h r).1<m+1
 |0=>Nat.mod_lt _ (Nat.succ_pos _)
 |r+1=>Nat.mod_lt _ (Nat.succ_pos _)
def orb(m:Nat):Nat->Nat->List Nat
 |0,_=>[]
 |n+1,x=>x::orb m n (fl m x)
theorem qdlz(m:Nat):∀(n x y:Nat),y∈orb m n x->∃k,k<n/\y=it m k x
 |0,_,_,h=>by cases h
 |n+1,x,y,h=>by
  rcases List.mem_cons.mp h with e|e
  ·exact⟨0,by lia,e⟩
  ·obtain⟨k,hk,e⟩:=qdlz m n (fl m x) y e;refine⟨k+1,by lia,?_⟩;rw[qchz m 1 k x];exact e
theorem orb7:((List.range 8).all fun x=>(orb 7 8 0).contains x)=true:=by decide +kernel
theorem orb31:((List.range 32).all fun x=>(orb 31 32 0).contains x)=true:=by decide +kernel
theorem orb127:((List.range 128).all fun x=>(orb 127 128 0).contains x)=true:=by decide +kernel
theorem back7:it 7 8 0=0:=by decide +kernel
theorem back31:it 31 32 0=0:=by decide +kernel
theorem back127:it 127 128 0=0:=by decide +kernel
theorem orbit{m:Nat}(hm:Masky m){x:Nat}(hx:x<m+1):∃k,k<m+1/\x=it m k 0:=by
 rcases hm with rfl|rfl|rfl
 ·have:=List.all_eq_true.mp orb7 x (List.mem_range.mpr hx);exact qdlz 7 8 0 x (by simpa using this)
 ·have:=List.all_eq_true.mp orb31 x (List.mem_range.mpr hx);exact qdlz 31 32 0 x (by simpa using this)
 ·have:=List.all_eq_true.mp orb127 x (List.mem_range.mpr hx);exact qdlz 127 128 0 x (by simpa using this)
theorem back{m:Nat}(hm:Masky m):it m (m+1) 0=0:=by
 rcases hm with rfl|rfl|rfl
 ·exact back7
 ·exact back31
 ·exact back127
theorem period{m:Nat}(hm:Masky m){x y:Nat}(hx:x<m+1)(hy:y<m+1):∃n,n≤m/\it m n x=y:=by
 obtain⟨a,ha,ea⟩:=orbit hm hx;obtain⟨b,hb,eb⟩:=orbit hm hy;by_cases hab:a≤b
 ·refine⟨b-a,by lia,?_⟩;rw[ea,←qchz,eb];congr 1;lia
 ·refine⟨m+1-a+b,by lia,?_⟩;rw[ea,←qchz,eb,show m+1-a+b+a=b+(m+1) by lia,qchz,back hm]
theorem comes{m:Nat}(hm:Masky m)(h:Int){e:Nat}(he:e≤m):∃k,k≤10*m+130/\(sq m h k).j=e:=by
 obtain⟨n,hn,en⟩:=period hm (qepz m h 13) (show e<m+1 by lia);obtain⟨k,hk,ek⟩:=qhuz m h (13+n);refine⟨k,by lia,?_⟩;rw[ek];show (rn m h (13+n)).1=e;rw[qeoz,en]
theorem qeqz{xs:Array Nat}{j:Nat}(hr:xs.toList.Pairwise (· < ·)):∀(fuel lo hi:Nat),hi-lo≤fuel->lo≤hi->hi≤xs.size->(∀i x,i<lo->xs[i]?=some x->x<j)->(∀i x,hi≤i->xs[i]?=some x->j≤x) ->
  below.go xs j fuel lo hi≤xs.size/\(∀i x,i<below.go xs j fuel lo hi->xs[i]?=some x->x<j)/\(∀i x,below.go xs j fuel lo hi≤i->xs[i]?=some x->j≤x)
 |0,lo,hi,hf,hl,hs,h1,h2=>by
  have e:lo=hi:=by lia
  subst e;exact⟨hs,h1,h2⟩
 |fuel+1,lo,hi,hf,hl,hs,h1,h2=>by
  unfold below.go;by_cases hlt:lo<hi
  ·rw[if_pos hlt];dsimp only;have hmid:(lo+hi) / 2<xs.size:=by lia
   have hg:xs.getD ((lo+hi) / 2) j=xs[(lo+hi) / 2]:=by simp[Array.getD,hmid]
   rw[hg];have pw:∀a b x y,a<b->xs[a]?=some x->xs[b]?=some y->x<y:=fun a b x y hab ea eb=>by
    have ha':a<xs.toList.length:=by
     have:=(Array.getElem?_eq_some_iff.mp ea).1;simpa using this
    have hb':b<xs.toList.length:=by
     have:=(Array.getElem?_eq_some_iff.mp eb).1;simpa using this
    have:=List.pairwise_iff_getElem.mp hr a b ha' hb' hab;obtain⟨_,e1⟩:=Array.getElem?_eq_some_iff.mp ea;obtain⟨_,e2⟩:=Array.getElem?_eq_some_iff.mp eb;simpa [e1,e2] using this
   have em:xs[(lo+hi) / 2]?=some xs[(lo+hi) / 2]:=by simp[hmid]
   by_cases hc:xs[(lo+hi) / 2]<j
   ·rw[if_pos hc];refine qeqz hr fuel _ hi (by lia) (by lia) hs (fun i x hi' e=>?_) h2;by_cases hi2:i=(lo+hi) / 2
    ·subst hi2;rw[em] at e;cases e;exact hc
    ·exact Nat.lt_trans (pw i _ x _ (by lia) e em) hc
   ·rw[if_neg hc];refine qeqz hr fuel lo _ (by lia) (by lia) (by lia) h1 (fun i x hi' e=>?_);by_cases hi2:i=(lo+hi) / 2
    ·subst hi2;rw[em] at e;cases e;lia
    ·have:=pw _ i _ x (by lia) em e;lia
  ·rw[if_neg hlt];have e:lo=hi:=by lia
   subst e;exact⟨hs,h1,h2⟩
theorem qdmz{xs:Array Nat}{j:Nat}(hr:xs.toList.Pairwise (· < ·)):below xs j≤xs.size/\(∀i x,i<below xs j->xs[i]?=some x->x<j)/\(∀i x,below xs j≤i->xs[i]?=some x->j≤x):=
 qeqz hr xs.size 0 xs.size (by lia) (by lia) (by lia) (fun i _ h=>by lia) fun i x h e=>by
  have:=(Array.getElem?_eq_some_iff.mp e).1;lia
theorem below_at{xs:Array Nat}{j i:Nat}(hr:xs.toList.Pairwise (· < ·))(e:xs[i]?=some j):below xs j=i:=by
 obtain⟨h0,h1,h2⟩:=qdmz (j:=j) hr;have hi:=(Array.getElem?_eq_some_iff.mp e).1;by_cases hlt:i<below xs j
 ·exact absurd (h1 i j hlt e) (Nat.lt_irrefl _)
 ·by_cases hgt:below xs j<i
  ·have hb:below xs j<xs.size:=by lia
   have eb:xs[below xs j]?=some xs[below xs j]:=by simp[hb]
   have q1:=h2 _ _ (Nat.le_refl _) eb;have pw:=List.pairwise_iff_getElem.mp hr (below xs j) i (by simpa using hb) (by simpa using hi) hgt;obtain⟨_,e1⟩:=Array.getElem?_eq_some_iff.mp e;simp[e1] at pw;lia
  ·lia
end SetP
namespace SetP
open PySem PySem.SetTable
structure Tab(t:SetTable)(hs:List Int):Prop where
 mask:Masky t.mask
 size:t.place.size=hs.length
 rise:t.place.toList.Pairwise (· < ·)
 bound:∀j∈t.place.toList,j≤t.mask
 nodum:t.dummies = #[]
 room:hs.length*5<t.mask*3
 reach:∀j h,(j,h)∈t.place.toList.zip hs->∃k,(sq t.mask h k).j=j/\∀k',k' < k->(sq t.mask h k').j∈t.place.toList
theorem qhwz{t:SetTable}{j i:Nat}(hr:t.place.toList.Pairwise (· < ·))(e:t.place[i]?=some j):t.slot j=.live i:=by
 unfold slot;dsimp only;rw[below_at hr e,e];simp
theorem qppz{t:SetTable}{j:Nat}(hd:t.dummies = #[])(e:j∉t.place.toList):t.slot j=.empty:=by
 unfold slot;dsimp only;have h1:¬(t.place[below t.place j]?==some j)=true:=by
  intro h;have h':t.place[below t.place j]?=some j:=by simpa using h
  exact e (by
   rw[←Array.getElem?_toList] at h';exact List.mem_of_getElem? h')
 rw[if_neg h1];have h2:has t.dummies j=false:=by
  rw[hd];rfl
 rw[h2];rfl
theorem qerz:∀(n:Nat) (L:List Nat),(∀e,e<n->e∈L)->n≤L.length
 |0,_,_=>Nat.zero_le _
 |n+1,L,h=>by
  have h1:=h n (Nat.lt_succ_self n);have h2:=qerz n (L.erase n) fun e he=>(List.mem_erase_of_ne (by lia)).mpr (h e (by lia));have h3:=List.length_erase_of_mem h1;have h4:=List.length_pos_of_mem h1;lia
theorem qpqz{t:SetTable}{hs:List Int}(T:Tab t hs)(h:Int):∃ke,ke≤10*t.mask+130/\(sq t.mask h ke).j∉t.place.toList/\∀k,k<ke->(sq t.mask h k).j∈t.place.toList:=by
 -- some slot is empty
 have hex:∃e,e≤t.mask/\e∉t.place.toList:=by
  refine Classical.byContradiction fun hn=>?_;have hall:∀e,e≤t.mask->e∈t.place.toList:=fun e he=>Classical.byContradiction fun q=>hn ⟨e,he,q⟩;have hl:=qerz (t.mask+1) t.place.toList fun e he=>hall e (by lia);have e1:t.place.toList.length=t.place.size:=by simp
  have:=T.size;have:=T.room;lia
 obtain⟨e,he,ne⟩:=hex;obtain⟨k,hk,ek⟩:=comes T.mask h he;have hP:∃k,(sq t.mask h k).j∉t.place.toList:=⟨k,by rw[ek];exact ne⟩
 -- the least one
 have least:∀n,(∃k,k≤n/\(sq t.mask h k).j∉t.place.toList)->∃ke,ke≤n/\(sq t.mask h ke).j∉t.place.toList/\∀k,k<ke->(sq t.mask h k).j∈t.place.toList:=by
  intro n
  induction n with
  |zero=>
   rintro⟨k,hk,q⟩;have:k=0:=by lia
   subst this;exact⟨0,Nat.le_refl _,q,fun k hk=>by lia⟩
  |succ n ih=>
   rintro⟨k,hk,q⟩;by_cases hp:∃k,k≤n/\(sq t.mask h k).j∉t.place.toList
   ·obtain⟨ke,h1,h2,h3⟩:=ih hp;exact⟨ke,by lia,h2,h3⟩
   ·have hk':k=n+1:=by
     refine Classical.byContradiction fun z=>hp ⟨k,by lia,q⟩
    subst hk';exact⟨n+1,Nat.le_refl _,q,fun k' hk'=>Classical.byContradiction fun z=>hp ⟨k',by lia,z⟩⟩
 obtain⟨ke,h1,h2,h3⟩:=least k ⟨k,Nat.le_refl _,by rw[ek];exact ne⟩;exact⟨ke,by lia,h2,h3⟩
inductive Meets(t:SetTable)(hashAt:Nat->Int)(h:Int)(n ke:Nat):Met->Prop where
 |cand {k i:Nat} (h1:n≤k) (h2:k<ke) (h3:t.place[i]?=some (sq t.mask h k).j) (h4:hashAt i=h) (h5:∀k' i',n≤k'->k' < k->t.place[i']?=some (sq t.mask h k').j->hashAt i'≠h):
   Meets t hashAt h n ke (.candidate (sq t.mask h k).j i (sq t.mask h (k+1)))
 |free (h1:n≤ke) (h5:∀k' i',n≤k'->k' < ke->t.place[i']?=some (sq t.mask h k').j->hashAt i'≠h):Meets t hashAt h n ke (.empty (sq t.mask h ke).j none)
theorem qhxz{t:SetTable}{hashAt:Nat->Int}{h:Int}{ke:Nat}(hr:t.place.toList.Pairwise (· < ·))(hd:t.dummies = #[])(he:(sq t.mask h ke).j∉t.place.toList)(hl:∀k,k<ke->(sq t.mask h k).j∈t.place.toList):
  ∀(fuel n:Nat),n≤ke->ke-n<fuel->∃met,probe.go t hashAt h fuel (sq t.mask h n)=some met/\Meets t hashAt h n ke met
 |0,n,_,hf=>by lia
 |fuel+1,n,hn,hf=>by
  unfold probe.go;by_cases hlast:n=ke
  ·subst hlast;rw[qppz hd he,qhsz];exact⟨_,rfl,.free (Nat.le_refl _) fun k' i' h1 h2=>by lia⟩
  ·have hmem:=hl n (by lia);obtain⟨i,hi⟩:=List.getElem?_of_mem hmem;have hi':t.place[i]?=some (sq t.mask h n).j:=by rw[←Array.getElem?_toList];exact hi
   rw[qhwz hr hi'];dsimp only;by_cases hh:hashAt i=h
   ·rw[if_pos (by simpa using hh)];exact⟨_,rfl,.cand (Nat.le_refl _) (by lia) hi' hh fun k' i' h1 h2=>by lia⟩
   ·rw[if_neg (by simpa using hh)];obtain⟨met,e,m⟩:=qhxz (hashAt:=hashAt) hr hd he hl fuel (n+1) (by lia) (by lia);refine⟨met,e,?_⟩;have one:∀i',t.place[i']?=some (sq t.mask h n).j->hashAt i'≠h:=fun i' e'=>by
     have e1:=below_at hr hi';have e2:=below_at hr e';have:i'=i:=by lia
     rw[this];exact hh
    cases m with
    |cand h1 h2 h3 h4 h5=>
     refine .cand (by lia) h2 h3 h4 fun k' i' q1 q2 q3=>?_;by_cases hk:k'=n
     ·subst hk;exact one i' q3
     ·exact h5 k' i' (by lia) q2 q3
    |free h1 h5=>
     refine .free (by lia) fun k' i' q1 q2 q3=>?_;by_cases hk:k'=n
     ·subst hk;exact one i' q3
     ·exact h5 k' i' (by lia) q2 q3
theorem qprz{t:SetTable}{hs:List Int}(T:Tab t hs){hashAt:Nat->Int}{h:Int}{ke n:Nat}(hk:ke≤10*t.mask+130)(he:(sq t.mask h ke).j∉t.place.toList)(hl:∀k,k<ke->(sq t.mask h k).j∈t.place.toList)(hn:n≤ke):
  ∃met,t.probe hashAt h (sq t.mask h n)=some met/\Meets t hashAt h n ke met:=by
 unfold probe;exact qhxz T.rise T.nodum he hl _ n hn (by unfold turns;lia)
theorem qbbz{α:Type}(xs:Array α)(p:Nat)(x:α):(insertAt xs p x).toList=xs.toList.take p++x::xs.toList.drop p:=by
 unfold insertAt;have e:(xs.extract p xs.size).toList=xs.toList.drop p:=by
  rw[Array.toList_extract];simp[List.extract];exact List.take_of_length_le (by simp)
 simp[Array.toList_extract,List.extract];exact List.take_of_length_le (by simp)
theorem qhyz{α β:Type}:∀(p:Nat) (xs:List α) (ys:List β) (x:α) (y:β),xs.length=ys.length->((xs.take p++x::xs.drop p).zip (ys.take p++y::ys.drop p)).Perm ((x,y)::xs.zip ys)
 |0,xs,ys,x,y,_=>by simp
 |p+1,[],ys,x,y,h=>by
  have:ys=[]:=List.length_eq_zero_iff.mp (by simpa using h.symm);subst this;simp
 |p+1,a::xs,[],x,y,h=>by simp at h
 |p+1,a::xs,b::ys,x,y,h=>by
  have ih:=qhyz p xs ys x y (by simpa using h);simp only[List.take_succ_cons,List.drop_succ_cons,List.cons_append,List.zip_cons_cons];exact (List.Perm.cons (a,b) ih).trans (List.Perm.swap _ _ _)
theorem qbtz{α:Type}(p:Nat)(xs:List α)(x:α):(xs.take p++x::xs.drop p).Perm (x::xs):=by
 have:=List.perm_middle (a:=x) (l₁:=xs.take p) (l₂:=xs.drop p);rw[List.take_append_drop] at this;exact this
theorem qpsz{t:SetTable}{j:Nat}(hd:t.dummies = #[]):t.put j=({ t with place:=insertAt t.place (below t.place j) j,dummies:=#[]},below t.place j):=by
 unfold put;dsimp only;have h2:has t.dummies j=false:=by
  rw[hd];rfl
 rw[h2];simp[hd]
structure TabR(t:SetTable)(hs:List Int):Prop where
 mask:Masky t.mask
 size:t.place.size=hs.length
 rise:t.place.toList.Pairwise (· < ·)
 bound:∀j∈t.place.toList,j≤t.mask
 nodum:t.dummies = #[]
 fit:hs.length≤t.mask
 reach:∀j h,(j,h)∈t.place.toList.zip hs->∃k,(sq t.mask h k).j=j/\∀k',k' < k->(sq t.mask h k').j∈t.place.toList
theorem qhzz{m:Nat}(hm:Masky m)(h:Int):∀k,(sq m h k).j≤m/\(sq m h k).j+(sq m h k).more≤m:=by
 have hrun:∀i,i≤m->runEnd m i≤m:=fun i hi=>by
  unfold runEnd;split<;>lia
 have hrs:∀q:Nat×Nat,q.1≤m->(rs m q).j≤m/\(rs m q).j+(rs m q).more≤m:=fun q hq=>by
  have:=hrun q.1 hq;have h2:q.1≤runEnd m q.1:=by unfold runEnd;split<;>lia
  show q.1≤m/\q.1+(runEnd m q.1-q.1)≤m;lia
 intro k
 induction k with
 |zero=>exact hrs _ (by show bits h%(m+1)≤m;have:bits h%(m+1)<m+1:=Nat.mod_lt (bits h) (Nat.succ_pos m);lia)
 |succ k ih=>
  show (adv m (sq m h k)).j≤m/\(adv m (sq m h k)).j+(adv m (sq m h k)).more≤m;unfold adv;by_cases hc:(sq m h k).more > 0
  ·rw[if_pos hc];show (sq m h k).j+1≤m/\(sq m h k).j+1+((sq m h k).more-1)≤m;lia
  ·rw[if_neg hc];have hlt:(leap m (sq m h k).i (sq m h k).perturb).1≤m:=by
    show ((sq m h k).i*5+1+(sq m h k).perturb / 32)%(m+1)≤m;have:((sq m h k).i*5+1+(sq m h k).perturb / 32)%(m+1)<m+1:=Nat.mod_lt _ (Nat.succ_pos m);lia
   exact hrs (leap m (sq m h k).i (sq m h k).perturb) hlt
theorem Tab.put{t:SetTable}{hs:List Int}(T:Tab t hs){h:Int}{ke:Nat}(he:(sq t.mask h ke).j∉t.place.toList)(hl:∀k,k<ke->(sq t.mask h k).j∈t.place.toList):
  TabR { t with place:=insertAt t.place (below t.place (sq t.mask h ke).j) (sq t.mask h ke).j,dummies:=#[]} (hs.take (below t.place (sq t.mask h ke).j)++h::hs.drop (below t.place (sq t.mask h ke).j)):=by
 obtain⟨b0,b1,b2⟩:=qdmz (j:=(sq t.mask h ke).j) T.rise;have hlen:t.place.toList.length=hs.length:=by simpa using T.size
 have hmem:∀x,x∈(insertAt t.place (below t.place (sq t.mask h ke).j) (sq t.mask h ke).j).toList↔x=(sq t.mask h ke).j∨x∈t.place.toList:=fun x=>by
  rw[qbbz,(qbtz _ t.place.toList _).mem_iff,List.mem_cons]
 refine⟨T.mask,?_,?_,fun j hj=>?_,rfl,?_,fun j h' hj=>?_⟩
 ·show (insertAt t.place (below t.place (sq t.mask h ke).j) (sq t.mask h ke).j).size=_;have e1:(insertAt t.place (below t.place (sq t.mask h ke).j) (sq t.mask h ke).j).size=(insertAt t.place (below t.place (sq t.mask h ke).j) (sq t.mask h ke).j).toList.length:=by simp
  rw[e1,qbbz,(qbtz _ t.place.toList _).length_eq,(qbtz _ hs _).length_eq];simp only[List.length_cons];lia
 ·show (insertAt t.place (below t.place (sq t.mask h ke).j) (sq t.mask h ke).j).toList.Pairwise (· < ·);rw[qbbz];refine List.pairwise_append.mpr ⟨T.rise.sublist (List.take_sublist _ _),List.pairwise_cons.mpr ⟨fun x hx=>?_,T.rise.sublist (List.drop_sublist _ _)⟩,fun a ha b hb=>?_⟩
  ·obtain⟨i,hi⟩:=List.getElem?_of_mem hx;rw[List.getElem?_drop] at hi;have q:=b2 (below t.place (sq t.mask h ke).j+i) x (by lia) (by rw[←Array.getElem?_toList];exact hi);have ne:x≠(sq t.mask h ke).j:=fun e=>he (e▸List.mem_of_getElem? hi);lia
  ·obtain⟨i,hi⟩:=List.getElem?_of_mem ha;have hil:i<below t.place (sq t.mask h ke).j:=by
    have:=(List.getElem?_eq_some_iff.mp hi).1;rw[List.length_take] at this;lia
   rw[List.getElem?_take_of_lt hil] at hi;have qa:=b1 i a hil (by rw[←Array.getElem?_toList];exact hi);rcases List.mem_cons.mp hb with e|hb
   ·rw[e];exact qa
   ·obtain⟨i2,hi2⟩:=List.getElem?_of_mem hb;rw[List.getElem?_drop] at hi2;have q:=b2 (below t.place (sq t.mask h ke).j+i2) b (by lia) (by rw[←Array.getElem?_toList];exact hi2);lia
 ·rcases (hmem j).mp hj with e|e
  ·rw[e];exact (qhzz T.mask h ke).1
  ·exact T.bound j e
 ·rw[(qbtz _ hs _).length_eq];have:=T.room;rcases T.mask with e|e|e<;>(simp only[List.length_cons];show _≤t.mask;lia)
 ·have hp:(j,h')∈(t.place.toList.take (below t.place (sq t.mask h ke).j)++(sq t.mask h ke).j::t.place.toList.drop (below t.place (sq t.mask h ke).j)).zip
    (hs.take (below t.place (sq t.mask h ke).j)++h::hs.drop (below t.place (sq t.mask h ke).j)):=by
   rw[←qbbz];exact hj
  rw[(qhyz _ _ _ _ _ hlen).mem_iff] at hp;rcases List.mem_cons.mp hp with e|e
  ·cases e;exact⟨ke,rfl,fun k' hk'=>(hmem _).mpr (.inr (hl k' hk'))⟩
  ·obtain⟨k,e1,e2⟩:=T.reach j h' e;exact⟨k,e1,fun k' hk'=>(hmem _).mpr (.inr (e2 k' hk'))⟩
theorem TabR.tab{t:SetTable}{hs:List Int}(T:TabR t hs)(h:t.tooFull=false):Tab t hs:=by
 refine⟨T.mask,T.size,T.rise,T.bound,T.nodum,?_,T.reach⟩;have h':¬(t.fill*5≥t.mask*3):=by simpa [tooFull] using h
 have e:t.fill=hs.length:=by
  unfold fill;rw[T.size,T.nodum];rfl
 rw[e] at h';lia
end SetP
namespace SetP
open PySem PySem.SetTable
def Taken(ow:Array (Option Nat))(j:Nat):Prop:=∃k,ow[j]?=some (some k)
theorem qesz{ow:Array (Option Nat)}{j:Nat}(hj:j<ow.size):(ow.getD j (some 0)).isNone=true↔¬Taken ow j:=by
 have e:ow.getD j (some 0)=ow[j]:=by simp[Array.getD,hj]
 rw[e];unfold Taken;rw[Array.getElem?_eq_getElem hj];cases ow[j] with
 |none=>simp
 |some k=>simp
theorem qh0z{m:Nat}(hm:Masky m){h:Int}{ow:Array (Option Nat)}(hs:ow.size=m+1):∀(fuel r n:Nat),sq m h n=rs m (rn m h r)->(∀k,k<n->Taken ow (sq m h k).j) ->
  (∃r',r≤r'/\r' < r+fuel/\¬Taken ow (rn m h r').1)->∃ke,layClean.free m ow fuel (rn m h r).1 (rn m h r).2=some (sq m h ke).j/\¬Taken ow (sq m h ke).j/\∀k,k<ke->Taken ow (sq m h k).j
 |0,r,n,_,_,hx=>by
  obtain⟨r',h1,h2,_⟩:=hx;lia
 |fuel+1,r,n,hn,hk,hx=>by
  have hi:=qepz m h r;have hre:runEnd m (rn m h r).1≤m:=by unfold runEnd;split<;>lia
  have hre2:(rn m h r).1≤runEnd m (rn m h r).1:=by unfold runEnd;split<;>lia
  have at_d:∀d,d≤runEnd m (rn m h r).1-(rn m h r).1->(sq m h (n+d)).j=(rn m h r).1+d:=fun d hd=>by
   rw[qenz m h n _ hn d hd]
  unfold layClean.free;cases hf:(List.range (runEnd m (rn m h r).1+1-(rn m h r).1)).find? (fun k=>(ow.getD ((rn m h r).1+k) (some 0)).isNone) with
  |some k=>
   obtain⟨p1,p2,p3⟩:=List.find?_range_eq_some.mp hf;have hkr:=List.mem_range.mp p2;refine⟨n+k,?_,?_,fun k' hk'=>?_⟩
   ·rw[at_d k (by lia)]
   ·rw[at_d k (by lia)];exact (qesz (by lia)).mp p1
   ·by_cases hlt:k' < n
    ·exact hk k' hlt
    ·obtain⟨d,rfl⟩:∃d,k'=n+d:=⟨k' - n,by lia⟩;rw[at_d d (by lia)];have q:=p3 d (by lia);refine Classical.byContradiction fun z=>?_;rw[(qesz (by lia)).mpr z] at q;cases q
  |none=>
   have hnone:=List.find?_eq_none.mp hf;have occ:∀d,d≤runEnd m (rn m h r).1-(rn m h r).1->Taken ow ((rn m h r).1+d):=fun d hd=>
    Classical.byContradiction fun z=>hnone d (List.mem_range.mpr (by lia)) ((qesz (by lia)).mpr z)
   refine qh0z hm hs fuel (r+1) (n+(runEnd m (rn m h r).1-(rn m h r).1)+1) (qhtz m h n _ hn) (fun k hk'=>?_) ?_
   ·by_cases hlt:k<n
    ·exact hk k hlt
    ·obtain⟨d,rfl⟩:∃d,k=n+d:=⟨k-n,by lia⟩;rw[at_d d (by lia)];exact occ d (by lia)
   ·obtain⟨r',h1,h2,h3⟩:=hx;refine⟨r',?_,by lia,h3⟩;have:r'≠r:=fun e=>h3 (by
     rw[e];have:=occ 0 (Nat.zero_le _);simpa using this)
    lia
structure Own(m:Nat)(ow:Array (Option Nat))(l:List Int):Prop where
 size:ow.size=m+1
 all:∀(k:Nat),k<l.length->∃j:Nat,ow[j]?=some (some k)
 one:∀(j j' k:Nat),ow[j]?=some (some k)->ow[j']?=some (some k)->j=j'
 reach:∀(j k:Nat),ow[j]?=some (some k)->∃h,l[k]?=some h/\∃n,(sq m h n).j=j/\∀n',n' < n->Taken ow (sq m h n').j
theorem Own.nil(m:Nat):Own m (Array.replicate (m+1) none) []:=by
 have hno:∀(j k:Nat),¬(Array.replicate (m+1) (none:Option Nat))[j]?=some (some k):=fun j k e=>by
  rw[Array.getElem?_replicate] at e;split at e<;>simp at e
 exact⟨by simp,fun k hk=>by simp at hk,fun j j' k e=>absurd e (hno j k),fun j k e=>absurd e (hno j k)⟩
theorem Own.room{m:Nat}{ow:Array (Option Nat)}{l:List Int}(O:Own m ow l)(hl:l.length≤m):∃e,e≤m/\¬Taken ow e:=by
 refine Classical.byContradiction fun hn=>?_;have hall:∀e,e≤m->Taken ow e:=fun e he=>Classical.byContradiction fun q=>hn ⟨e,he,q⟩;obtain⟨g,hg⟩:∃g:Nat->Nat,∀k,k<l.length->ow[g k]?=some (some k):=by
  refine⟨fun k=>if q:k<l.length then (O.all k q).choose else 0,fun k hk=>?_⟩;dsimp only;rw[dif_pos hk];exact (O.all k hk).choose_spec
 have hlen:=qerz (m+1) ((List.range l.length).map g) fun e he=>by
  obtain⟨k,hk⟩:=hall e (by lia);obtain⟨h,e1,_⟩:=O.reach e k hk;have hkl:=(List.getElem?_eq_some_iff.mp e1).1;exact List.mem_map.mpr ⟨k,List.mem_range.mpr hkl,O.one _ _ k (hg k hkl) hk⟩
 simp at hlen;lia
theorem Own.add{m:Nat}(hm:Masky m){ow:Array (Option Nat)}{l:List Int}{h:Int}(O:Own m ow l)(hl:l.length≤m):
  ∃j,layClean.free m ow (turns m) (bits h%(m+1)) (bits h)=some j/\Own m (ow.setIfInBounds j (some l.length)) (l++[h]):=by
 obtain⟨e,he,ne⟩:=O.room hl;obtain⟨n0,hn0,en0⟩:=period hm (qepz m h 13) (show e<m+1 by lia);obtain⟨ke,h1,h2,h3⟩:=qh0z hm (h:=h) O.size (turns m) 0 0 rfl (fun k hk=>by lia) ⟨13+n0,by lia,by unfold turns;lia,by rw[qeoz,en0];exact ne⟩;refine⟨(sq m h ke).j,h1,?_⟩;have hj:(sq m h ke).j<ow.size:=by
  have:=(qhzz hm h ke).1;rw[O.size];lia
 have hget:∀j:Nat,(ow.setIfInBounds (sq m h ke).j (some l.length))[j]?=if (sq m h ke).j=j then some (some l.length) else ow[j]?:=fun j=>by
  rw[Array.getElem?_setIfInBounds];by_cases e:(sq m h ke).j=j
  ·rw[if_pos e,if_pos e,if_pos (by lia)]
  ·rw[if_neg e,if_neg e]
 have tk:∀j,Taken ow j->Taken (ow.setIfInBounds (sq m h ke).j (some l.length)) j:=fun j ⟨k,hk⟩=>by
  unfold Taken;rw[hget];by_cases e:(sq m h ke).j=j
  ·exact⟨_,if_pos e⟩
  ·exact⟨k,by rw[if_neg e];exact hk⟩
 have lt_of:∀j k:Nat,ow[j]?=some (some k)->k<l.length:=fun j k e=>by
  obtain⟨h',e1,_⟩:=O.reach j k e;exact (List.getElem?_eq_some_iff.mp e1).1
 refine⟨by rw[Array.size_setIfInBounds];exact O.size,fun k hk=>?_,fun j j' k q q'=>?_,fun j k q=>?_⟩
 ·rw[List.length_append,List.length_singleton] at hk;by_cases hkl:k<l.length
  ·obtain⟨j,hj'⟩:=O.all k hkl;refine⟨j,?_⟩;rw[hget,if_neg (fun e=>h2 ⟨k,by rw[e];exact hj'⟩)];exact hj'
  ·have:k=l.length:=by lia
   exact⟨(sq m h ke).j,by rw[hget,if_pos rfl,this]⟩
 ·rw[hget] at q q';by_cases e:(sq m h ke).j=j
  ·rw[if_pos e] at q;by_cases e':(sq m h ke).j=j'
   ·lia
   ·rw[if_neg e'] at q';cases q;exact absurd (lt_of _ _ q') (Nat.lt_irrefl _)
  ·rw[if_neg e] at q;by_cases e':(sq m h ke).j=j'
   ·rw[if_pos e'] at q';cases q';exact absurd (lt_of _ _ q) (Nat.lt_irrefl _)
   ·rw[if_neg e'] at q';exact O.one j j' k q q'
 ·rw[hget] at q;by_cases e:(sq m h ke).j=j
  ·rw[if_pos e] at q;cases q;exact⟨h,by simp,ke,e,fun n' hn'=>tk _ (h3 n' hn')⟩
  ·rw[if_neg e] at q;obtain⟨h',e1,n,e2,e3⟩:=O.reach j k q;exact⟨h',by rw[List.getElem?_append_left (lt_of j k q)];exact e1,n,e2,fun n' hn'=>tk _ (e3 n' hn')⟩
theorem qh1z{m:Nat}(hm:Masky m):∀(l' l:List Int) (ow:Array (Option Nat)),Own m ow l->l.length+l'.length≤m+1 ->
  ∃ow',(l'.foldl (fun (acc:Option (Array (Option Nat)×Nat)) h=>do
   let (owner,k) ←acc
   let j ←layClean.free m owner (turns m) (bits h%(m+1)) (bits h)
   pure (owner.setIfInBounds j (some k),k+1)) (some (ow,l.length)))=some (ow',(l++l').length)/\Own m ow' (l++l')
 |[],l,ow,O,_=>⟨ow,by simp,by simpa using O⟩
 |h::l',l,ow,O,hl=>by
  rw[List.length_cons] at hl
  obtain⟨j,e,O'⟩:=O.add hm (h:=h) (by lia)
  obtain⟨ow',e2,O2⟩:=qh1z hm l' (l++[h]) _ O' (by simp;lia)
  refine⟨ow',?_,by simpa using O2⟩
  rw[List.foldl_cons]
  have hs:(do
   let (owner,k) ←(some (ow,l.length):Option (Array (Option Nat)×Nat))
   let j ←layClean.free m owner (turns m) (bits h%(m+1)) (bits h)
   pure (owner.setIfInBounds j (some k),k+1))=some (ow.setIfInBounds j (some l.length),(l++[h]).length):=by
   show (do
    let j ←layClean.free m ow (turns m) (bits h%(m+1)) (bits h)
    pure (ow.setIfInBounds j (some l.length),l.length+1))=_
   rw[e]
   simp
  rw[hs,e2]
  simp
theorem qetz{α:Type}:∀l:List α,((List.range l.length).filterMap fun k=>l[k]?)=l
 |[]=>rfl
 |a::l=>by
  rw[List.length_cons,List.range_succ_eq_map,List.filterMap_cons_some (b:=a) (by simp),List.filterMap_map];have ih:=qetz l;congr 1
theorem qptz{α:Type}(xs:Array α):((List.range xs.size).filterMap fun k=>xs[k]?)=xs.toList:=by
 have:=qetz xs.toList;simpa using this
theorem qpuz{m finger moves:Nat}{led plain:Bool}(hm:Masky m)(hs:Array Int)(hl:hs.size*5<m*3):
  ∃t order,laid m finger moves led plain hs=some (t,order)/\t.mask=m/\t.led=led/\t.plain=plain/\t.finger=finger/\order.toList.Perm (List.range hs.size)/\Tab t (order.toList.filterMap fun k=>hs[k]?):=by
 obtain⟨ow,e,O⟩:=qh1z hm hs.toList [] _ (Own.nil m) (by simp;lia);rw[List.nil_append] at e O;have hlc:layClean m hs=some ow:=by
  unfold layClean;rw[←Array.foldl_toList];have e':=congrArg (Option.map fun x:Array (Option Nat)×Nat=>x.1) e;exact e'
 have hmem:∀j k,(j,k)∈((List.range (m+1)).filterMap fun j=>(ow.getD j none).map (j,·))↔ow[j]?=some (some k):=fun j k=>by
  rw[List.mem_filterMap];constructor
  ·rintro⟨a,ha,q⟩;have ha':=List.mem_range.mp ha;cases ho:ow.getD a none with
   |none=>rw[ho] at q;cases q
   |some k'=>
    rw[ho] at q;cases q;have:ow.getD j none=ow[j]'(by rw[O.size];exact ha'):=by simp[Array.getD,O.size,ha']
    rw[this] at ho;rw[Array.getElem?_eq_getElem (by rw[O.size];exact ha'),ho]
  ·intro q;have hj:=(Array.getElem?_eq_some_iff.mp q).1;rw[O.size] at hj;refine⟨j,List.mem_range.mpr hj,?_⟩;have:ow.getD j none=some k:=by
    rw[Array.getD_eq_getD_getElem?,q];rfl
   rw[this];rfl
 generalize hL:((List.range (m+1)).filterMap fun j=>(ow.getD j none).map (j,·))=L at hmem;have rise:L.Pairwise fun a b=>a.1<b.1:=by
  rw[←hL];refine List.Pairwise.filterMap _ (fun a a' hlt b hb b' hb'=>?_) (List.pairwise_lt_range (n:=m+1));cases ho:ow.getD a none with
  |none=>rw[ho] at hb;cases hb
  |some k=>
   rw[ho] at hb;cases hb;cases ho':ow.getD a' none with
   |none=>rw[ho'] at hb';cases hb'
   |some k'=>
    rw[ho'] at hb';cases hb';exact hlt
 have nd:(L.map (·.2)).Nodup:=by
  refine List.Pairwise.map _ (R:=fun a b=>a.2≠b.2) (fun _ _ z=>z) ?_;refine List.Pairwise.imp_of_mem (fun {a b} ha hb hab=>?_) rise;intro q;obtain⟨j,k⟩:=a;obtain⟨j',k'⟩:=b;have ea:=(hmem j k).mp ha;have eb:=(hmem j' k').mp hb;have hab':j<j':=hab;have q':k=k':=q;subst q';have:=O.one j j' k ea eb;lia
 have hperm:(L.map (·.2)).Perm (List.range hs.size):=by
  refine (List.perm_ext_iff_of_nodup nd List.nodup_range).mpr fun k=>?_;rw[List.mem_map,List.mem_range];constructor
  ·rintro⟨⟨j,k'⟩,hjk,rfl⟩;obtain⟨h,e1,_⟩:=O.reach j k' ((hmem j k').mp hjk);have:=(List.getElem?_eq_some_iff.mp e1).1;simpa using this
  ·intro hk;obtain⟨j,ej⟩:=O.all k (by simpa using hk);exact⟨(j,k),(hmem j k).mpr ej,rfl⟩
 -- the hashes in the slots' order
 have hzip:∀j h,(j,h)∈(L.map (·.1)).zip ((L.map (·.2)).filterMap fun k=>hs[k]?)->∃k,(j,k)∈L/\hs[k]?=some h:=by
  have hall:∀p∈L,∃h,hs[p.2]?=some h:=fun p hp=>by
   obtain⟨h,e1,_⟩:=O.reach p.1 p.2 ((hmem p.1 p.2).mp hp);exact⟨h,by rw[←Array.getElem?_toList];exact e1⟩
  clear hmem rise nd hperm hL
  induction L with
  |nil=>intro j h q;cases q
  |cons p L ih=>
   intro j h q;obtain⟨h0,e0⟩:=hall p List.mem_cons_self;rw[List.map_cons,List.map_cons,List.filterMap_cons_some e0,List.zip_cons_cons] at q;rcases List.mem_cons.mp q with q|q
   ·cases q;exact⟨p.2,List.mem_cons_self,e0⟩
   ·obtain⟨k,q1,q2⟩:=ih (fun p hp=>hall p (List.mem_cons_of_mem _ hp)) j h q;exact⟨k,List.mem_cons_of_mem _ q1,q2⟩
 have hlenL:((L.map (·.2)).filterMap fun k=>hs[k]?).length=L.length:=by
  have h1:=(hperm.filterMap fun k=>hs[k]?).length_eq;rw[qptz] at h1;have h3:=hperm.length_eq;rw[List.length_map,List.length_range] at h3;rw[h1,h3];simp
 refine⟨_,_,by unfold laid;rw[hlc];rfl,rfl,rfl,rfl,rfl,?_,?_⟩
 ·rw[hL];exact hperm
 ·rw[hL];have hlen:L.length=hs.size:=by
   have:=hperm.length_eq;simpa using this
  refine⟨hm,?_,?_,fun j hj=>?_,rfl,?_,fun j h hj=>?_⟩
  ·rw[hlenL];simp
  ·exact List.Pairwise.map _ (fun _ _ z=>z) rise
  ·obtain⟨⟨j',k⟩,hp,rfl⟩:=List.mem_map.mp hj;have:=(Array.getElem?_eq_some_iff.mp ((hmem j' k).mp hp)).1;rw[O.size] at this;show j'≤m;lia
  ·rw[hlenL,hlen];exact hl
  ·obtain⟨k,q1,q2⟩:=hzip j h hj;obtain⟨h',e1,n,e2,e3⟩:=O.reach j k ((hmem j k).mp q1);have eh:h'=h:=by
    rw[Array.getElem?_toList,q2] at e1;exact (Option.some.inj e1).symm
   subst eh;refine⟨n,e2,fun n' hn'=>?_⟩;obtain⟨k',hk'⟩:=e3 n' hn';exact List.mem_map.mpr ⟨(_,k'),(hmem _ k').mpr hk',rfl⟩
end SetP
namespace SetM
open PySem SetP
section
variable {prog:Program} {w:World} {A:Around} {E:Value->Shared->Prop} {s:Shared}
abbrev hk(prog:Program)(w:World)(ks:List Int):Int:=tupleKeyHash (intKind prog w) ks
abbrev IsK(prog:Program)(w:World)(h:Heap)(ks:List Int)(a:Addr):Prop:=IsTupleKey (intKind prog w) h ks a
def ent(prog:Program)(w:World)(p:List Int×Addr):Int×Value:=(hk prog w p.1,.ref p.2)
structure SetAt(prog:Program)(w:World)(h:Heap)(a:Addr)(o:Obj)(es:Array (Int×Value))(ep:Nat)(t:SetTable)(xs:List (List Int×Addr)):Prop where
 at_:h.get? a=some o
 ex:o.ExactSet
 dat:o.data=.set es ep t
 ents:es.toList=xs.map (ent prog w)
 keys:∀p∈xs,IsK prog w h p.1 p.2
 nd:(xs.map (·.1)).Nodup
 plain:t.plain=true
 led:t.led = !(w.params.followText "set-order")
theorem qciz{es:Array (Int×Value)}:(es.toList.map (·.1)).length=es.size:=by simp
theorem qbcz{es:Array (Int×Value)}{t:SetTable}(T:TabR t (es.toList.map (·.1))):t.fits es.size=true:=by
 unfold SetTable.fits;have h1:=T.size;rw[qciz] at h1;have h2:=T.fit;rw[qciz] at h2;have h3:t.fill=es.size:=by
  unfold SetTable.fill;rw[h1,T.nodum];rfl
 rw[h3,h1];simp;exact h2
theorem Tab.r{t:SetTable}{hs:List Int}(T:Tab t hs):TabR t hs:=by
 refine⟨T.mask,T.size,T.rise,T.bound,T.nodum,?_,T.reach⟩;have:=T.room;lia
theorem qpvz{t:SetTable}(h:Masky t.mask):t.gaveWay=false:=by
 unfold SetTable.gaveWay;rcases h with e|e|e<;>rw[e]<;>rfl
theorem qpwz(n:Nat){v:Value}(h:carriedByValue v=true):ofAClassStatement n v=pure false:=by
 cases v with
 |ref a=>simp[carriedByValue] at h
 |_=>first|rfl|(cases n<;>rfl)
theorem qh2z{ks:List Int}{a:Addr}{Q:Bool->Shared->Prop}(hx:IsK prog w s.heap ks a)(h:Q false s):wpAny (model prog w) A (ofAClassStatement 8 (.ref a)) Q E s:=by
 have hT:=hx.typeIs;obtain⟨o,items,n,ho,hc,hd,hi⟩:=hx;unfold ofAClassStatement;refine wpAny_bind (wpAny_typeOf hT ?_);dsimp only;rw[if_pos (by decide)];refine wpAny_bind (wpAny_pure ?_);rw[if_neg (by decide)];refine wpAny_bind (wpAny_seqItems ho hd ?_);dsimp only;refine wpAny_bind ?_;rw[←Array.forIn_toList];refine wpAny_forIn_list _ (fun rest r s'=>r.1=none/\s'=s/\∀v∈rest,carriedByValue v=true) _ ?_ ?_ _ _ ⟨rfl,rfl,hi.byValue⟩
 ·rintro v rest r s' ⟨hr,rfl,hall⟩;rw[qpwz _ (hall v List.mem_cons_self)];refine wpAny_bind (wpAny_pure ?_);rw[if_neg Bool.false_ne_true];exact wpAny_pure ⟨rfl,rfl,fun u hu'=>hall u (List.mem_cons_of_mem _ hu')⟩
 ·rintro⟨r1,r2⟩ s' ⟨hr,rfl,_⟩;simp only at hr;subst hr;exact wpAny_pure h
theorem qpxz{ks:List Int}{a:Addr}{Q:Bool->Shared->Prop}(hx:IsK prog w s.heap ks a)(l:List Value)(hl:∀v∈l,∃k y,v=.ref y/\IsK prog w s.heap k y)(h:Q false s):
  wpAny (model prog w) A (searchCouldBeSeen (.ref a) l) Q E s:=by
 unfold searchCouldBeSeen;refine wpAny_bind ?_;refine wpAny_forIn_list _ (fun rest r s'=>r.1=none/\s'=s/\∀v∈rest,∃k y,v=.ref y/\IsK prog w s.heap k y) _ ?_ ?_ _ _ ⟨rfl,rfl,hl⟩
 ·rintro v rest r s' ⟨hr,rfl,hall⟩;obtain⟨k,y,rfl,hy⟩:=hall v List.mem_cons_self;have hrest:∀v∈rest,∃k y,v=Value.ref y/\IsK prog w s'.heap k y:=fun v hv=>hall v (List.mem_cons_of_mem _ hv);dsimp only;by_cases hc:((a==y)||(carriedByValue (.ref a)&&carriedByValue (.ref y)))=true
  ·rw[if_pos hc];exact wpAny_pure ⟨rfl,rfl,hrest⟩
  ·rw[if_neg hc];refine wpAny_bind (wpAny_eqIsQuiet_tuple hx ?_);rw[if_neg (by decide)];refine wpAny_bind (wpAny_eqIsQuiet_tuple hy ?_);rw[if_neg (by decide)];refine wpAny_bind (qh2z hx ?_);rw[if_neg Bool.false_ne_true];refine wpAny_bind (qh2z hy ?_);rw[if_neg Bool.false_ne_true];exact wpAny_pure ⟨rfl,rfl,hrest⟩
 ·rintro⟨r1,r2⟩ s' ⟨hr,rfl,_⟩;simp only at hr;subst hr;exact wpAny_pure h
theorem qpyz{ks:List Int}{a:Addr}{Q:Bool->Shared->Prop}(hx:IsK prog w s.heap ks a)(h:Q true s):wpAny (model prog w) A (hashByValue 8 (.ref a)) Q E s:=by
 have hT:=hx.typeIs;obtain⟨o,items,n,ho,hc,hd,hi⟩:=hx;unfold hashByValue;refine wpAny_bind (wpAny_specialOf hT F.slot_tuple_hash.lookup ?_);dsimp only;refine wpAny_bind (wpAny_seqItems ho hd ?_);refine wpAny_bind ?_;show wpAny _ _ (forIn items _ _) _ _ s;rw[←Array.forIn_toList];refine wpAny_forIn_list _ (fun rest r s'=>r.1=none/\s'=s/\∃l,ItemsAre (intKind prog w) l rest) _ ?_ ?_ _ _ ⟨rfl,rfl,ks,hi⟩
 ·rintro v rest r s' ⟨hr,rfl,l,hl⟩;cases hl with
  |@cons k v' _ _ h1 h2=>
   obtain⟨tk,rfl⟩:=Value.isInt_shape (k:=k) h1;have e:hashByValue 7 (.int k tk)=pure true:=by rfl
   rw[e];refine wpAny_bind (wpAny_pure ?_);rw[if_neg (by decide)];exact wpAny_pure ⟨rfl,rfl,_,h2⟩
 ·rintro⟨r1,r2⟩ s' ⟨hr,rfl,_⟩;simp only at hr;subst hr;exact wpAny_pure h
theorem qpzz{es:Array (Int×Value)}{xs:List (List Int×Addr)}(he:es.toList=xs.map (ent prog w)){i:Nat}(hi:i<es.size):∃p,xs[i]?=some p/\es[i]?=some (ent prog w p):=by
 have hl:xs.length=es.size:=by
  have:=congrArg List.length he;simpa using this.symm
 obtain⟨p,hp⟩:∃p,xs[i]?=some p:=⟨xs[i]'(by lia),List.getElem?_eq_getElem (by lia)⟩;refine⟨p,hp,?_⟩;rw[←Array.getElem?_toList,he,List.getElem?_map,hp];rfl
theorem qh3z{a:Addr}{o:Obj}{es:Array (Int×Value)}{ep:Nat}{t:SetTable}{xs:List (List Int×Addr)}(S:SetAt prog w s.heap a o es ep t xs)(T:Tab t (es.toList.map (·.1)))(hu:A.units<cLine)
  {ks:List Int} {x:Addr} (hx:IsK prog w s.heap ks x) {ke:Nat} (hke:ke≤10*t.mask+130) (hemp:(sq t.mask (hk prog w ks) ke).j∉t.place.toList) (hliv:∀k,k<ke->(sq t.mask (hk prog w ks) k).j∈t.place.toList)
  {Q:SetFound->Shared->Prop} (hin:ks∈xs.map (·.1)->Q (.there none) s) (hout:ks∉xs.map (·.1)->Q (.free (sq t.mask (hk prog w ks) ke).j false) s):
  ∀(fuel n:Nat) (stand:Option SetTable.Probe),stand.getD (t.probeStart (hk prog w ks))=sq t.mask (hk prog w ks) n->n≤ke->ke-n<fuel ->
   (∀(k' i':Nat) p,k' < n->t.place[i']?=some (sq t.mask (hk prog w ks) k').j->xs[i']?=some p->p.1≠ks) ->
   wpAny (model prog w) A (setSearchFrom a (.ref x) (hk prog w ks) true fuel stand) Q E s
 |0,n,stand,_,_,hf,_=>by lia
 |fuel+1,n,stand,hst,hn,hf,hprev=>by
  have hsz:t.place.size=es.size:=by
   have:=T.size
   rw[qciz] at this
   exact this
  have hfit:=qbcz (Tab.r T)
  have hal:∀(i:Nat) (p:List Int×Addr),xs[i]?=some p->((es[i]?).map fun z:Int×Value=>z.1).getD 0=hk prog w p.1:=fun i p hp=>by
   rw[←Array.getElem?_toList,S.ents,List.getElem?_map,hp]
   rfl
  unfold setSearchFrom
  refine wpAny_bind (wpAny_setState_of S.at_ S.dat hfit ?_)
  dsimp only
  rw[qpvz T.mask,if_neg Bool.false_ne_true,hst]
  obtain⟨met,e,m⟩:=qprz T (hashAt:=fun i=>((es[i]?).map fun z:Int×Value=>z.1).getD 0) hke hemp hliv hn
  erw [e]
  dsimp only
  cases m with
  |free h1 h5=>
   dsimp only
   refine wpAny_pure (hout fun hmem=>?_)
   obtain⟨p,hp,rfl⟩:=List.mem_map.mp hmem
   obtain⟨i,hi⟩:=List.getElem?_of_mem hp
   have hil:i<es.size:=by
    have h1:=(List.getElem?_eq_some_iff.mp hi).1
    have h2:=congrArg List.length S.ents
    simp at h2
    lia
   have hj:∃j,t.place[i]?=some j:=⟨t.place[i]'(by lia),by simp⟩
   obtain⟨j,hj⟩:=hj
   have hz:(j,hk prog w p.1)∈t.place.toList.zip (es.toList.map (·.1)):=by
    refine List.mem_of_getElem? (i:=i) ?_
    rw[List.getElem?_zip_eq_some]
    refine⟨by rw[Array.getElem?_toList];exact hj,?_⟩
    rw[S.ents,List.map_map,List.getElem?_map,hi]
    rfl
   obtain⟨k,hk1,hk2⟩:=T.reach _ _ hz
   have hkke:k<ke:=by
    refine Classical.byContradiction fun z=>hemp ?_
    by_cases q:k=ke
    ·rw[←q,hk1]
     exact List.mem_of_getElem? (by rw[Array.getElem?_toList];exact hj)
    ·exact hk2 ke (by lia)
   rw[←hk1] at hj
   by_cases hkn:k<n
   ·exact hprev k i p hkn hj hi rfl
   ·exact h5 k i (by lia) hkke hj (hal i p hi)
  |@cand k i h1 h2 h3 h4 h5=>
   dsimp only
   have hil:i<es.size:=by
    have:=(Array.getElem?_eq_some_iff.mp h3).1
    lia
   obtain⟨p,hp,hesi⟩:=qpzz S.ents hil
   have hyk:=S.keys p (List.mem_of_getElem? hp)
   have hpk:p∈xs:=List.mem_of_getElem? hp
   have go:wpAny (model prog w) A (do
     let some (_,y):=es[i]? | unsupported "internal:set-entry"
     let equal ←holding [y] (eqBool y (.ref x))
     let (es',_,t') ←setState a
     if true&&equal then return .there none
     let some same:=t'.sameMemory t.moves t.mask|unsupported "set.changed-during-lookup:is-the-new-block-at-the-old-address"
     let still ←match (if same then t'.slot (sq t.mask (hk prog w ks) k).j else .empty) with
      |.live i'=>match es'[i']? with
       |some (_,y')=>do pure (if ←isSame y' y then some i' else none)
       |none=>pure none
      |_=>pure none
     match still with
     |none=>rule "set.search.anew";setSearchFrom a (.ref x) (hk prog w ks) true fuel none
     | some i'=>if equal then return .there (some i') else setSearchFrom a (.ref x) (hk prog w ks) true fuel (some (sq t.mask (hk prog w ks) (k+1)))) Q E s:=by
    rw[hesi]
    dsimp only[ent]
    refine wpAny_bind (wpAny_holding (wpAny_eqBool_tuple hu hyk hx ?_))
    refine wpAny_bind (wpAny_setState_of S.at_ S.dat hfit ?_)
    dsimp only
    by_cases heq:p.1=ks
    ·rw[decide_eq_true heq,if_pos (by decide)]
     exact wpAny_pure (hin (List.mem_map.mpr ⟨p,hpk,heq⟩))
    ·rw[decide_eq_false heq,if_neg (by decide)]
     have hsm:t.sameMemory t.moves t.mask=some true:=by unfold SetTable.sameMemory;simp
     rw[hsm]
     dsimp only
     rw[if_pos rfl,qhwz T.rise h3]
     dsimp only
     rw[hesi]
     dsimp only[ent]
     refine wpAny_bind (wpAny_isSame_ref_self ?_)
     rw[if_pos rfl]
     refine wpAny_bind (wpAny_pure ?_)
     dsimp only
     rw[if_neg Bool.false_ne_true]
     refine qh3z S T hu hx hke hemp hliv hin hout fuel (k+1) _ rfl (by lia) (by lia) fun k' i' p' hk' hpl hp'=>?_
     by_cases hkn:k' < n
     ·exact hprev k' i' p' hkn hpl hp'
     ·by_cases hkk:k'=k
      ·subst hkk
       have e1:=below_at T.rise h3
       have e2:=below_at T.rise hpl
       have:i'=i:=by lia
       subst this
       rw[hp] at hp'
       cases hp'
       exact heq
      ·intro he
       exact h5 k' i' (by lia) (by lia) hpl (by rw[hal i' p' hp',he])
   by_cases hled:t.led=true
   ·rw[hled]
    rw[if_neg (by decide)]
    exact go
   ·have hled':t.led=false:=by simpa using hled
    rw[hled']
    rw[if_pos (by decide)]
    refine wpAny_bind (qpxz hx _ (fun v hv=>?_) ?_)
    ·obtain⟨e0,he0,rfl⟩:=List.mem_map.mp hv
     have he1:e0∈es.toList:=by
      have:=Array.mem_toList_iff.mp he0
      exact Array.mem_toList_iff.mpr (Array.mem_filter.mp this).1
     rw[S.ents] at he1
     obtain⟨p0,hp0,rfl⟩:=List.mem_map.mp he1
     exact⟨p0.1,p0.2,rfl,S.keys p0 hp0⟩
    ·rw[if_neg Bool.false_ne_true]
     exact go
end
end SetM
namespace SetM
open PySem SetP
section
variable {prog:Program} {w:World} {A:Around} {E:Value->Shared->Prop} {s:Shared}
def SetOn(prog:Program)(w:World)(h:Heap)(a:Addr)(xs:List (List Int×Addr)):Prop:=
 ∃o es ep t,SetAt prog w h a o es ep t xs/\Tab t (es.toList.map (·.1))
theorem qdnz{h h':Heap}{a y:Addr}{ks:List Int}{o:Obj}{es:Array (Int×Value)}{ep:Nat}{t:SetTable}(ho:h.get? a=some o)(hd:o.data=.set es ep t)(sb:Heap.SameBut a h h')(hy:IsK prog w h ks y):IsK prog w h' ks y:=by
 obtain⟨oy,items,n,hoy,hc,hdy,hi⟩:=hy;have ne:y≠a:=by
  intro e;subst e;rw[ho] at hoy;cases hoy;rw[hd] at hdy;cases hdy
 exact⟨oy,items,n,(sb.2 y ne).trans hoy,hc,hdy,hi⟩
theorem qh4z{h:Heap}{a:Addr}{o:Obj}{es es':Array (Int×Value)}{ep:Nat}{t t':SetTable}(ho:h.get? a=some o)(hd:o.data=.set es ep t):
  (h.update a (Obj.putSet es' t')).get? a=some { o with data:=.set es' (ep+1) t' }:=by
 have q:=Heap.get?_update_self (Obj.putSet es' t') ho (by rw[putSet_of es' t' hd];rfl);rw[putSet_of es' t' hd] at q;exact q
theorem qp0z:∀n,n<8->5≤n->SetTable.sizeAbove (SetTable.grown n)=32:=by decide +kernel
theorem qp1z:∀n,n<32->19≤n->SetTable.sizeAbove (SetTable.grown n)=128:=by decide +kernel
theorem qp2z{t:SetTable}{hs:List Int}(T:TabR t hs)(hf:t.tooFull=true)(h64:hs.length≤64):∃m,SetTable.sizeAbove (SetTable.grown hs.length)=m+1/\Masky m/\hs.length*5<m*3/\m+1≤128:=by
 have hfill:t.fill=hs.length:=by
  unfold SetTable.fill;rw[T.size,T.nodum];rfl
 have h':hs.length*5≥t.mask*3:=by
  unfold SetTable.tooFull at hf;rw[hfill] at hf;simpa using hf
 have hfit:=T.fit;rcases T.mask with e|e|e
 ·rw[e] at h' hfit;exact⟨31,qp0z _ (by lia) (by lia),.inr (.inl rfl),by lia,by lia⟩
 ·rw[e] at h' hfit;exact⟨127,qp1z _ (by lia) (by lia),.inr (.inr rfl),by lia,by lia⟩
 ·rw[e] at h';lia
theorem qp3z{α β:Type}(f:α->β)(l:List α)(o:List Nat):(o.filterMap fun k=>(l.map f)[k]?)=(o.filterMap fun k=>l[k]?).map f:=by
 rw[List.map_filterMap];congr 1;funext k;rw[List.getElem?_map]
theorem qp4z{a:Addr}{o:Obj}{es:Array (Int×Value)}{ep:Nat}{t:SetTable}{xs:List (List Int×Addr)}(S:SetAt prog w s.heap a o es ep t xs)(T:TabR t (es.toList.map (·.1)))(hf:t.tooFull=true)(h64:es.size≤64)
  {Q:Unit->Shared->Prop} (h:∀h' xs',Heap.SameBut a s.heap h'->SetOn prog w h' a xs'->xs'.Perm xs->Q () { s with heap:=h' }):
  wpAny (model prog w) A (setRelay a (SetTable.grown es.size)) Q E s:=by
 have hsz:(es.toList.map (·.1)).length=es.size:=qciz
 obtain⟨m,hm1,hm2,hm3,hm4⟩:=qp2z T hf (by rw[hsz];exact h64)
 rw[hsz] at hm1 hm3
 unfold setRelay
 refine wpAny_bind (wpAny_setState_of S.at_ S.dat (qbcz T) ?_)
 dsimp only
 rw[hm1,if_neg (by rw[sizeLine_eq];lia)]
 obtain⟨t2,order,e2,em,el,ep2,ef,hperm,T2⟩:=qpuz (finger:=t.finger) (moves:=t.movedTo m) (led:=t.led) (plain:=t.plain) hm2 (es.map (·.1)) (by simpa using hm3)
 have erel:t.relaid (es.map (·.1)) (SetTable.grown es.size)=some (t2,order):=by
  unfold SetTable.relaid
  rw[hm1,Nat.add_sub_cancel]
  exact e2
 have hosz:(es.map (·.1)).size=es.size:=by simp
 rw[hosz] at hperm
 have hes2:(order.filterMap (es[·]?)).toList=(order.toList.filterMap fun k=>xs[k]?).map (ent prog w):=by
  rw[Array.toList_filterMap,←qp3z,←S.ents]
  congr 1
  funext k
  rw[Array.getElem?_toList]
 have hxl:xs.length=es.size:=by
  have:=congrArg List.length S.ents
  simpa using this.symm
 have hxp:(order.toList.filterMap fun k=>xs[k]?).Perm xs:=by
  have:=hperm.filterMap fun k=>xs[k]?
  rw[←hxl,qetz] at this
  exact this
 have hsz2:(order.filterMap (es[·]?)).size=es.size:=by
  have:=congrArg List.length hes2
  simp only[List.length_map] at this
  rw[hxp.length_eq,hxl] at this
  rw[←Array.length_toList]
  exact this
 refine wpAny_bind ?_
 show wpAny _ _ (do
  let some (t,order):=t.relaid (es.map (·.1)) (SetTable.grown es.size)|unsupported "internal:set-table-without-room"
  let es':=order.filterMap (es[·]?)
  if es'.size != es.size then unsupported "internal:set-table-lost-an-element"
  pure (es',t)) _ _ _
 rw[erel]
 dsimp only
 rw[hsz2,if_neg (by simp)]
 refine wpAny_pure ?_
 dsimp only
 refine wpAny_storeSet_of S.at_ S.dat ?_ (by rw[hsz2,sizeLine_eq];lia)
 have sb:=Heap.SameBut.update s.heap a (Obj.putSet (order.filterMap (es[·]?)) t2)
 refine h _ _ sb ⟨_,_,_,_,⟨qh4z S.at_ S.dat,⟨S.ex.1,S.ex.2.1,S.ex.2.2⟩,rfl,hes2,fun p hp=>qdnz S.at_ S.dat sb (S.keys p (hxp.mem_iff.mp hp)),?_,ep2.trans S.plain,el.trans S.led⟩,?_⟩ hxp
 ·exact (hxp.map _).nodup_iff.mpr S.nd
 ·have eT:(order.filterMap (es[·]?)).toList.map (·.1)=order.toList.filterMap fun k=>(es.map (·.1))[k]?:=by
   rw[Array.toList_filterMap,List.map_filterMap]
   congr 1
   funext k
   simp
  rw[eT]
  exact T2
theorem qp5z{a:Addr}{xs:List (List Int×Addr)}(S:SetOn prog w s.heap a xs)(h64:xs.length<64)(hu:A.units<cLine){ks:List Int}{x:Addr}(hx:IsK prog w s.heap ks x)
  {Q:Bool->Shared->Prop} (h:∀b h' tk xs',s.toks≤tk->Heap.SameBut a s.heap h'->SetOn prog w h' a xs'->(ks∈xs.map (·.1)->xs'.Perm xs)->(ks∉xs.map (·.1)->xs'.Perm ((ks,x)::xs))->Q b { s with heap:=h',toks:=tk }):
  wpAny (model prog w) A (setAdd a (.ref x)) Q E s:=by
 obtain⟨o,es,ep,t,S,T⟩:=S;have hxl:xs.length=es.size:=by
  have:=congrArg List.length S.ents;simpa using this.symm
 unfold setAdd;refine wpAny_holding (wpAny_bind (wpAny_pyHash_tuple hu hx ?_));unfold setAddHashed;refine wpAny_holding ?_;have hend:∀b h' xs',Heap.SameBut a s.heap h'->SetOn prog w h' a xs'->(ks∈xs.map (·.1)->xs'.Perm xs)->(ks∉xs.map (·.1)->xs'.Perm ((ks,x)::xs))->Q b { s with heap:=h',toks:=s.toks+(ks.length+1)}:=
  fun b h' xs' q1 q2 q3 q4=>h b h' _ xs' (Nat.le_add_right _ _) q1 q2 q3 q4
 obtain⟨ke,hke,hemp,hliv⟩:=qpqz T (hk prog w ks);unfold setAddHashedIn;refine wpAny_bind (wpAny_setState_of (s:={ s with toks:=s.toks+(ks.length+1)}) S.at_ S.dat (qbcz (Tab.r T)) ?_);dsimp only;rw[show byScan (.ref x) es=false from rfl,if_neg Bool.false_ne_true];refine wpAny_bind ?_;unfold setSearch;refine qh3z (s:={ s with toks:=s.toks+(ks.length+1)}) S T hu hx hke hemp hliv (fun hin=>?_) (fun hout=>?_) 100000 0 none rfl (Nat.zero_le _) (by rcases T.mask with e|e|e<;>rw[e] at hke<;>lia) fun k' i' p hk'=>absurd hk' (Nat.not_lt_zero _)
 ·dsimp only;exact wpAny_pure (hend false s.heap xs (.refl _ _) ⟨o,es,ep,t,S,T⟩ (fun _=>.refl _) fun z=>absurd hin z)
 ·dsimp only;refine wpAny_bind (wpAny_setState_of (s:={ s with toks:=s.toks+(ks.length+1)}) S.at_ S.dat (qbcz (Tab.r T)) ?_);dsimp only;rw[qpsz T.nodum];dsimp only;rw[S.plain,if_pos rfl];refine wpAny_bind (qpyz (s:={ s with toks:=s.toks+(ks.length+1)}) hx ?_);rw[if_pos rfl];have TR:=T.put hemp hliv;generalize hp:SetTable.below t.place (sq t.mask (hk prog w ks) ke).j=p at TR ⊢;have hes1:(SetTable.insertAt es p (hk prog w ks,Value.ref x)).toList=(xs.take p++(ks,x)::xs.drop p).map (ent prog w):=by
   rw[qbbz,S.ents,List.map_append,List.map_cons,List.map_take,List.map_drop];rfl
  have hhs:(SetTable.insertAt es p (hk prog w ks,Value.ref x)).toList.map (·.1)=(es.toList.map (·.1)).take p++hk prog w ks::(es.toList.map (·.1)).drop p:=by
   rw[qbbz,List.map_append,List.map_cons,List.map_take,List.map_drop]
  have hsz1:(SetTable.insertAt es p (hk prog w ks,Value.ref x)).size=es.size+1:=by
   rw[←Array.length_toList,qbbz,(qbtz p es.toList _).length_eq,List.length_cons,Array.length_toList]
  rw[←hhs] at TR;refine wpAny_bind (wpAny_storeSet_of (s:={ s with toks:=s.toks+(ks.length+1)}) S.at_ S.dat ?_ (by rw[hsz1,sizeLine_eq];lia));have sb:=Heap.SameBut.update s.heap a (Obj.putSet (SetTable.insertAt es p (hk prog w ks,Value.ref x)) { t with place:=SetTable.insertAt t.place p (sq t.mask (hk prog w ks) ke).j,dummies:=#[],plain:=true });have hpx:(xs.take p++(ks,x)::xs.drop p).Perm ((ks,x)::xs):=qbtz p xs _;have S1:SetAt prog w (s.heap.update a (Obj.putSet (SetTable.insertAt es p (hk prog w ks,Value.ref x)) { t with place:=SetTable.insertAt t.place p (sq t.mask (hk prog w ks) ke).j,dummies:=#[],plain:=true })) a { o with data:=.set (SetTable.insertAt es p (hk prog w ks,Value.ref x)) (ep+1) { t with place:=SetTable.insertAt t.place p (sq t.mask (hk prog w ks) ke).j,dummies:=#[],plain:=true }} (SetTable.insertAt es p (hk prog w ks,Value.ref x)) (ep+1)
    { t with place:=SetTable.insertAt t.place p (sq t.mask (hk prog w ks) ke).j,dummies:=#[],plain:=true } (xs.take p++(ks,x)::xs.drop p):=by
   refine⟨qh4z S.at_ S.dat,⟨S.ex.1,S.ex.2.1,S.ex.2.2⟩,rfl,hes1,fun q hq=>?_,?_,rfl,S.led⟩
   ·rcases List.mem_cons.mp (hpx.mem_iff.mp hq) with e|e
    ·rw[e];exact qdnz S.at_ S.dat sb hx
    ·exact qdnz S.at_ S.dat sb (S.keys q e)
   ·refine (hpx.map _).nodup_iff.mpr ?_;rw[List.map_cons,List.nodup_cons];exact⟨hout,S.nd⟩
  have TR':TabR { t with place:=SetTable.insertAt t.place p (sq t.mask (hk prog w ks) ke).j,dummies:=#[],plain:=true } ((SetTable.insertAt es p (hk prog w ks,Value.ref x)).toList.map (·.1)):=
   ⟨TR.mask,TR.size,TR.rise,TR.bound,TR.nodum,TR.fit,TR.reach⟩
  by_cases hfull:({ t with place:=SetTable.insertAt t.place p (sq t.mask (hk prog w ks) ke).j,dummies:=#[],plain:=true }:SetTable).tooFull=true
  ·rw[hfull,if_pos (by decide)];refine wpAny_bind ?_;rw[←hsz1];refine qp4z (s:={ s with heap:=s.heap.update a _,toks:=s.toks+(ks.length+1)}) S1 TR' hfull (by rw[hsz1];lia) fun h' xs' sb' S2 pm=>?_;exact wpAny_pure (hend true h' xs' (sb.trans sb') S2 (fun z=>absurd z hout) fun _=>pm.trans hpx)
  ·have hfull':({ t with place:=SetTable.insertAt t.place p (sq t.mask (hk prog w ks) ke).j,dummies:=#[],plain:=true }:SetTable).tooFull=false:=by simpa using hfull
   rw[hfull',if_neg (by decide)];exact wpAny_pure (hend true _ _ sb ⟨_,_,_,_,S1,TR'.tab hfull'⟩ (fun z=>absurd z hout) fun _=>hpx)
end
end SetM
namespace SetM
open PySem SetP
theorem slot_sit_next:Slot "set_iterator" "__next__" "set_iterator.__next__":=
 .of (owner:="set_iterator") (n:="__next__")
  (by rw[typeLookup_type,builtinLookup_eq_fast];kernel_rfl)
  (by decide +kernel) (by decide +kernel) (by decide +kernel)
  (by first|exact .inl (by decide +kernel)|exact .inr (by decide +kernel))
  (by rw[isSubtype_type];kernel_rfl)
theorem qh5z:Slot "set_iterator" "__iter__" "set_iterator.__iter__":=
 .of (owner:="set_iterator") (n:="__iter__")
  (by rw[typeLookup_type,builtinLookup_eq_fast];kernel_rfl)
  (by decide +kernel) (by decide +kernel) (by decide +kernel)
  (by first|exact .inl (by decide +kernel)|exact .inr (by decide +kernel))
  (by rw[isSubtype_type];kernel_rfl)
theorem qh6z:entryFor table "set_iterator.__next__" = some Builtin.«set_iterator.__next__»:=entryFor_of_tree (by kernel_rfl)
theorem qp6z:entryFor table "set.__iter__" = some Builtin.«frozenset.__iter__»:=
 entryFor_alias (id':="frozenset.__iter__") (by rw[fastTable_eq_tree];kernel_rfl) (by decide +kernel) (by decide +kernel) (by rw[fastTable_eq_tree];kernel_rfl)
theorem qh7z:Manifest.owners.lookup (String.ofList ['r','o','t','a','r','e','t','i','_','t','e','s'].reverse)=some Manifest.sig_set_iterator:=by kernel_rfl
theorem qh8z(a:Value):argsOk "set_iterator.__next__" ⟨[a],[]⟩:=by
 unfold argsOk;rw[signature?_of (id:="set_iterator.__next__") (n:=['_','_','t','x','e','n','_','_']) (o:=['r','o','t','a','r','e','t','i','_','t','e','s']) (by kernel_rfl) qh7z]
 kernel_rfl
theorem qh9z{α:Type}(next:Nat->Nat):∀(fuel k:Nat) (left:List α) (out:Array α),left.length≤fuel->(pickOrder.go next fuel k left out).toList.Perm (out.toList++left)
 |0,k,left,out,h=>by
  have:left=[]:=List.length_eq_zero_iff.mp (by lia);subst this;show out.toList.Perm (out.toList++[]);rw[List.append_nil]
 |fuel+1,k,left,out,h=>by
  unfold pickOrder.go;cases hl:left[next k%left.length]? with
  |none=>
   have:left=[]:=by
    cases left with
    |nil=>rfl
    |cons a l=>
     have:=Nat.mod_lt (next k) (show 0<(a::l).length by simp)
     rw[List.getElem?_eq_getElem this] at hl;cases hl
   subst this;show out.toList.Perm (out.toList++[]);rw[List.append_nil]
  |some x=>
   have hlt:=(List.getElem?_eq_some_iff.mp hl).1;have ih:=qh9z next fuel (k+1) (left.eraseIdx (next k%left.length)) (out.push x) (by rw[List.length_eraseIdx];split<;>lia)
   refine ih.trans ?_;rw[Array.toList_push,List.append_assoc];refine List.Perm.append_left _ ?_;obtain⟨_,e⟩:=List.getElem?_eq_some_iff.mp hl;rw[←e,List.eraseIdx_eq_take_drop_succ];have q:=List.perm_middle (a:=left[next k%left.length]) (l₁:=left.take (next k%left.length)) (l₂:=left.drop (next k%left.length+1))
   rw[List.getElem_cons_drop,List.take_append_drop] at q;exact q.symm
theorem qp7z{α:Type}(next:Nat->Nat)(xs:Array α):(pickOrder next xs).toList.Perm xs.toList:=by
 have:=qh9z next xs.size 0 xs.toList #[] (by simp)
 unfold pickOrder;simpa using this
def byText(w:World):Bool:=w.params.followText "set-order"
def walkL(w:World)(a:Addr)(ep:Nat)(es:Array (Int×Value)):List (Int×Value):=if byText w then (pickOrder (w.params.setOrder a ep) es).toList else es.toList
theorem walkL_perm(w:World)(a:Addr)(ep:Nat)(es:Array (Int×Value)):(walkL w a ep es).Perm es.toList:=by
 unfold walkL;split
 ·exact qp7z _ _
 ·exact .refl _
def IsSit(h:Heap)(it a:Addr)(slot i n ep:Nat):Prop:=h.get? it=some { cls:=.type "set_iterator",data:=.fields #[rawInt slot,rawInt i,.ref a,rawInt n,rawInt ep]}
def SlotOk(w:World)(t:SetTable)(slot i:Nat):Prop:=byText w=true∨SetTable.below t.place slot=i
section
variable {prog:Program} {w:World} {A:Around} {E:Value->Shared->Prop} {s:Shared}
theorem qeuz{Q:Bool->Shared->Prop}(h:Q (byText w) s):wpAny (model prog w) A setsByText Q E s:=by
 unfold setsByText;exact wpAny_bind (wpAny_askSetting (wpAny_pure h))
theorem qp8z{a:Addr}{o:Obj}{es:Array (Int×Value)}{ep:Nat}{t:SetTable}{xs:List (List Int×Addr)}(S:SetAt prog w s.heap a o es ep t xs)(T:Tab t (es.toList.map (·.1)))
  {Q:Value->Shared->Prop} (h:Q (.ref s.heap.objs.size) { s with heap:=s.heap.push { cls:=.type "set_iterator",data:=.fields #[rawInt (0:Nat),rawInt (0:Nat),.ref a,rawInt es.size,rawInt ep]}}):
  wpAny (model prog w) A (pyIter (.ref a)) Q E s:=by
 have hT:s.TypeIs (.ref a) "set":=⟨o,S.at_,S.ex.1⟩;have hfit:=qbcz (Tab.r T);refine wpAny_pyIter_slot hT F.slot_set_iter (wpAny_call_entry F.slot_set_iter hT qp6z ?_ (F.args_set_iter_1 _));unfold Builtin.«frozenset.__iter__»;show wpAny _ _ (Builtin.Frozenset.slot0 "__iter__" ⟨[.ref a],[]⟩ >>= _) _ _ s;refine wpAny_bind (m:=Builtin.Frozenset.slot0 "__iter__" ⟨[.ref a],[]⟩) (wpAny_of_eq (a:=a) rfl ?_);unfold Builtin.Frozenset.sizeOf setEntries;refine wpAny_bind (wpAny_bind (wpAny_bind (wpAny_setState_of S.at_ S.dat hfit (wpAny_pure (wpAny_pure ?_)))));unfold setDrawn;refine wpAny_bind (wpAny_bind (wpAny_setState_of S.at_ S.dat hfit ?_));refine wpAny_bind (qeuz (wpAny_pure ?_));have hnd:(!byText w&&(!t.plain&&decide (es.size > 1)))=false:=by rw[S.plain];simp
 show wpAny _ _ (if (!byText w&&(!t.plain&&decide (es.size > 1)))=true then _ else _) _ _ s;rw[hnd,if_neg Bool.false_ne_true];refine wpAny_bind (wpAny_pure ?_);refine wpAny_bind (wpAny_setEpoch_of S.at_ S.dat hfit ?_);refine wpAny_bind ?_;unfold newFields;refine wpAny_newObj_type ?_;refine wpAny_pure ⟨_,rfl,"set_iterator",_,⟨_,Heap.get?_push_size _ rfl,rfl⟩,slot_sit_next.lookup,h⟩
theorem qiaz{a:Addr}{o:Obj}{es:Array (Int×Value)}{ep:Nat}{t:SetTable}{xs:List (List Int×Addr)}(S:SetAt prog w s.heap a o es ep t xs)(T:Tab t (es.toList.map (·.1))){slot i:Nat}(hsl:SlotOk w t slot i)
  {Q:Option (Value×Nat)->Shared->Prop} (h1:∀p slot',(walkL w a ep es)[i]?=some p->SlotOk w t slot' (i+1)->Q (some (p.2,slot')) s) (h2:(walkL w a ep es)[i]?=none->Q none s):
  wpAny (model prog w) A (setNext a slot i ep) Q E s:=by
 have hfit:=qbcz (Tab.r T);have hsz:t.place.size=es.size:=by
  have:=T.size;rw[qciz] at this;exact this
 unfold setNext;refine wpAny_bind (wpAny_setState_of S.at_ S.dat hfit ?_);dsimp only;refine wpAny_bind (qeuz ?_);unfold walkL at h1 h2;cases hbt:byText w with
 |true=>
  rw[hbt] at h1 h2;rw[if_pos rfl];simp only[if_true,Array.getElem?_toList] at h1 h2;rw[if_neg (by simp)];unfold setWalk;refine wpAny_bind (wpAny_bind (wpAny_setState_of S.at_ S.dat hfit ?_));dsimp only;refine wpAny_bind (qeuz ?_);rw[hbt,if_pos rfl];refine wpAny_bind (wpAny_askSetting (wpAny_pure ?_));refine wpAny_pure ?_;show Q (Option.map (fun e=>(e.snd,slot)) (pickOrder (w.params.setOrder a ep) es)[i]?) s;cases hp:(pickOrder (w.params.setOrder a ep) es)[i]? with
  |none=>exact h2 hp
  |some p=>exact h1 p slot hp (.inl hbt)
 |false=>
  rw[hbt] at h1 h2;rw[if_neg Bool.false_ne_true];simp only[Bool.false_eq_true,if_false,Array.getElem?_toList] at h1 h2;have hled:t.led=true:=by
   rw[S.led];show (!byText w)=true;rw[hbt];rfl
  have hb:SetTable.below t.place slot=i:=by
   rcases hsl with z|z
   ·rw[hbt] at z;cases z
   ·exact z
  have hnd:(!t.plain&&decide (es.size > 1))=false:=by rw[S.plain];simp
  show wpAny _ _ (if (!t.plain&&decide (es.size > 1))=true then _ else _) _ _ s;rw[hnd,if_neg Bool.false_ne_true];refine wpAny_bind ?_;show wpAny _ _ (if (!t.led && !es.isEmpty)=true then _ else _) _ _ s;rw[hled,if_neg (by simp)];refine wpAny_pure ?_;rw[hb];cases hp:es[i]? with
  |none=>
   refine wpAny_pure ?_;have hpl:t.place[i]?=none:=by
    have:=Array.getElem?_eq_none_iff.mp hp;exact Array.getElem?_eq_none_iff.mpr (by lia)
   exact h2 hp
  |some p=>
   have hil:=(Array.getElem?_eq_some_iff.mp hp).1;have hj:t.place[i]?=some (t.place[i]'(by lia)):=by simp[hsz,hil]
   rw[hj];obtain⟨ph,pv⟩:=p;refine wpAny_pure (h1 (ph,pv) _ hp (.inr ?_))
   -- the next place
   obtain⟨b0,b1,b2⟩:=qdmz (j:=t.place[i]'(by lia)+1) T.rise;refine Classical.byContradiction fun hne=>?_;by_cases hlt:SetTable.below t.place (t.place[i]'(by lia)+1)≤i
   ·have:=b2 i _ hlt hj;lia
   ·have hgt:i+1<SetTable.below t.place (t.place[i]'(by lia)+1):=by lia
    have hi1:i+1<t.place.size:=by lia
    have e1:t.place[i+1]?=some (t.place[i+1]):=by simp[hi1]
    have q:=b1 (i+1) _ hgt e1;have pw:=List.pairwise_iff_getElem.mp T.rise i (i+1) (by simp;lia) (by simpa using hi1) (Nat.lt_succ_self i);simp at pw;lia
theorem qevz{it a:Addr}{slot i n ep:Nat}(hit:IsSit s.heap it a slot i n ep):s.TypeIs (.ref it) "set_iterator":=⟨_,hit,rfl⟩
theorem qibz{a it:Addr}{o:Obj}{es:Array (Int×Value)}{ep:Nat}{t:SetTable}{xs:List (List Int×Addr)}(S:SetAt prog w s.heap a o es ep t xs)(T:Tab t (es.toList.map (·.1))){slot i:Nat}(hit:IsSit s.heap it a slot i es.size ep)
  {P:PySem.Fin->Shared->Prop} (h:wpAny (model prog w) A (do
   match ←setNext a slot i ep with
   |some (x,next)=>
    setField (.ref it) 0 (rawInt next)
    setField (.ref it) 1 (rawInt ((i:Int)+1))
    ret x
   | none=>setField (.ref it) 2 .none;raiseNew (←newExc (.type "StopIteration") [])) P E s):
  wpAny (model prog w) A (Builtin.«set_iterator.__next__» ⟨[.ref it],[]⟩) P E s:=by
 have hfit:=qbcz (Tab.r T);unfold Builtin.«set_iterator.__next__»;refine wpAny_bind (m:=slotArgs "__next__" 0 ⟨[.ref it],[]⟩) (wpAny_of_eq (a:=(.ref it,[])) rfl ?_);refine wpAny_bind (wpAny_fieldsOf hit rfl ?_);dsimp only[rawInt];unfold setEntries;refine wpAny_bind (wpAny_bind (wpAny_setState_of S.at_ S.dat hfit (wpAny_pure ?_)));rw[if_neg (by simp)];exact h
theorem qp9z{a it:Addr}{o:Obj}{es:Array (Int×Value)}{ep:Nat}{t:SetTable}{xs:List (List Int×Addr)}(S:SetAt prog w s.heap a o es ep t xs)(T:Tab t (es.toList.map (·.1))){slot i:Nat}(hsl:SlotOk w t slot i)(hit:IsSit s.heap it a slot i es.size ep)
  {p:Int×Value} (hp:(walkL w a ep es)[i]?=some p) {Q:Option Value->Shared->Prop}
  (h:∀h' slot',IsSit h' it a slot' (i+1) es.size ep->SlotOk w t slot' (i+1)->Heap.SameBut it s.heap h'->Q (some p.2) { s with heap:=h' }):wpAny (model prog w) A (pyNext (.ref it)) Q E s:=by
 have hT:=qevz hit;unfold pyNext;refine wpAny_bind (wpAny_attempt (wpAny_callSpecial?_slot (name:=Str.ofString "__next__") hT slot_sit_next
  (wpAny_call_entry slot_sit_next hT qh6z (qibz S T hit (wpAny_bind (qiaz S T hsl (fun q slot' hq hs'=>?_) fun hn=>?_))) (qh8z _))))
 ·rw[hp] at hq;cases hq;dsimp only;refine wpAny_bind (wpAny_setField_rec hit (by simp) fun h1 e1 sb1=>?_);refine wpAny_bind (wpAny_setField_rec (s:={ s with heap:=h1 }) e1 (by simp) fun h2 e2 sb2=>?_)
  refine wpAny_pure ⟨_,rfl,wpAny_pure (h h2 slot' ?_ hs' (sb1.trans sb2))⟩;unfold IsSit;rw[e2];rfl
 ·rw[hp] at hn;cases hn
theorem qqaz{a it:Addr}{o:Obj}{es:Array (Int×Value)}{ep:Nat}{t:SetTable}{xs:List (List Int×Addr)}(hh:A.handled=none)(S:SetAt prog w s.heap a o es ep t xs)(T:Tab t (es.toList.map (·.1))){slot i:Nat}(hsl:SlotOk w t slot i)(hit:IsSit s.heap it a slot i es.size ep)
  (hp:(walkL w a ep es)[i]?=none) {Q:Option Value->Shared->Prop}
  (h:∀h',Heap.ExtBut it s.heap h'->Q none { s with heap:=h' }):wpAny (model prog w) A (pyNext (.ref it)) Q E s:=by
 have hT:=qevz hit;unfold pyNext;refine wpAny_bind (wpAny_attempt (wpAny_callSpecial?_slot (name:=Str.ofString "__next__") hT slot_sit_next
  (wpAny_call_entry slot_sit_next hT qh6z (qibz S T hit (wpAny_bind (qiaz S T hsl (fun q slot' hq hs'=>?_) fun hn=>?_))) (qh8z _))))
 ·rw[hp] at hq;cases hq
 ·dsimp only;refine wpAny_bind (wpAny_setField_rec hit (by simp) fun h1 e1 sb1=>?_);refine wpAny_bind ?_;simp only[newExc,newTuple];refine wpAny_bind (wpAny_newObj_type ?_ (by size_fits));refine wpAny_bind (m:=firstArgMember _ _) (wpAny_of_eq (a:=Value.none) (by first|rfl|(simp only[firstArgMember];rfl)) ?_)
  refine wpAny_newObj_type ?_ (by size_fits);simp only[raiseNew];refine wpAny_bind (wpAny_handled ?_);rw[show A.in1.handled=none from hh];refine wpAny_bind (wpAny_pure (wpAny_throw ?_));refine wpAny_bind (wpAny_isInstance (T:="StopIteration") (b:=true) ⟨_,Heap.get?_push_size _ rfl,rfl⟩ isSubtype_stop ?_);refine wpAny_pure (h _ fun b ob hb e=>?_);exact Heap.get?_push_of_some _ (Heap.get?_push_of_some _ ((sb1.2 b hb).trans e))
end
end SetM
namespace SetM
open PySem SetP
section
variable {prog:Program} {w:World} {A:Around} {E:Value->Shared->Prop} {s:Shared}
theorem SetAt.kept{h h':Heap}{a:Addr}{o:Obj}{es:Array (Int×Value)}{ep:Nat}{t:SetTable}{xs:List (List Int×Addr)}(S:SetAt prog w h a o es ep t xs)
  (k:∀b∈a::xs.map (·.2),∀ob,h.get? b=some ob->h'.get? b=some ob):SetAt prog w h' a o es ep t xs:=by
 refine⟨k a List.mem_cons_self _ S.at_,S.ex,S.dat,S.ents,fun p hp=>?_,S.nd,S.plain,S.led⟩;obtain⟨oy,items,n,ho,r⟩:=S.keys p hp;exact⟨oy,items,n,k _ (List.mem_cons_of_mem _ (List.mem_map.mpr ⟨p,hp,rfl⟩)) _ ho,r⟩
theorem SetAt.ne_sit{h:Heap}{a it:Addr}{o:Obj}{es:Array (Int×Value)}{ep ep':Nat}{t:SetTable}{xs:List (List Int×Addr)}{slot i n:Nat}{b:Addr}(S:SetAt prog w h a o es ep t xs)(hit:IsSit h it b slot i n ep'):
  ∀c∈a::xs.map (·.2),c≠it:=fun c hc e=>by
 subst e;unfold IsSit at hit;rcases List.mem_cons.mp hc with e|e
 ·rw[e,S.at_] at hit;cases hit;have:=S.dat;cases this
 ·obtain⟨p,hp,rfl⟩:=List.mem_map.mp e;obtain⟨oy,items,k,ho,hc,hd,_⟩:=S.keys p hp;rw[ho] at hit;cases hit;cases hd
theorem qqbz(hh:A.handled=none){a it:Addr}{o:Obj}{es:Array (Int×Value)}{ep:Nat}{t:SetTable}{xs:List (List Int×Addr)}(T:Tab t (es.toList.map (·.1))):
  Walks prog w A it (it::a::xs.map (·.2)) [it] es.size (fun i v=>∃p,(walkL w a ep es)[i]?=some p/\v=p.2)
   (fun i h=>∃slot,IsSit h it a slot i es.size ep/\SlotOk w t slot i/\SetAt prog w h a o es ep t xs) where
 sub:=fun b hb=>by
  have:b=it:=by simpa using hb
  simp[this]
 frame:=fun i h h' ⟨slot,h1,h2,h3⟩ k=>⟨slot,k it List.mem_cons_self _ h1,h2,h3.kept fun b hb ob e=>k b (List.mem_cons_of_mem _ hb) ob e⟩
 item:=fun i s Q E hi ⟨slot,h1,h2,h3⟩ hQ=>by
  have hlen:(walkL w a ep es).length=es.size:=by rw[(walkL_perm w a ep es).length_eq];simp
  have hp:(walkL w a ep es)[i]?=some ((walkL w a ep es)[i]'(by lia)):=List.getElem?_eq_getElem (by lia);refine qp9z h3 T h2 h1 hp fun h' slot' q1 q2 sb=>?_;refine hQ _ h' s.toks ⟨_,hp,rfl⟩ ⟨slot',q1,q2,h3.kept fun b hb ob e=>(sb.2 b (h3.ne_sit h1 b hb)).trans e⟩ fun b ob hb e=>?_;exact (sb.2 b (by simpa using hb)).trans e
 done:=fun s Q E ⟨slot,h1,h2,h3⟩ hQ=>by
  have hlen:(walkL w a ep es).length=es.size:=by rw[(walkL_perm w a ep es).length_eq];simp
  refine qqaz hh h3 T h2 h1 (List.getElem?_eq_none_iff.mpr (by lia)) fun h' q=>?_;exact hQ h' s.toks fun b ob hb e=>q b ob (by simpa using hb) e
 self:=fun i s Q E ⟨slot,h1,h2,h3⟩ h=>by
  have hT:=qevz h1;refine wpAny_pyIter_slot hT qh5z (wpAny_call_entry qh5z hT (b:=Builtin.«dict_keyiterator.__iter__») ?_ ?_ ?_)
  ·exact entryFor_alias (id':="dict_keyiterator.__iter__") (by kernel_rfl) (by decide +kernel) (by decide +kernel) (by kernel_rfl)
  ·show wpAny _ _ (ret (.ref it)) _ _ s;exact wpAny_pure ⟨_,rfl,"set_iterator",_,hT,slot_sit_next.lookup,h⟩
  ·unfold argsOk;rw[signature?_of (id:="set_iterator.__iter__") (n:=['_','_','r','e','t','i','_','_']) (o:=['r','o','t','a','r','e','t','i','_','t','e','s']) (by kernel_rfl) qh7z]
   kernel_rfl
theorem wp_collect_set(hh:A.handled=none){a:Addr}{o:Obj}{es:Array (Int×Value)}{ep:Nat}{t:SetTable}{xs:List (List Int×Addr)}(S:SetAt prog w s.heap a o es ep t xs)(T:Tab t (es.toList.map (·.1)))(h64:es.size≤64)
  {Q:List Value->Shared->Prop} (h:∀s',Moved [] (fun x y=>y=x) s s'->Q ((walkL w a ep es).map (·.2)) s'):wpAny (model prog w) A (collect (.ref a)) Q E s:=by
 have hT:s.TypeIs (.ref a) "set":=⟨o,S.at_,S.ex.1⟩;have hal:a<s.heap.objs.size:=Heap.lt_size S.at_;unfold collect;refine wpAny_bind (wpAny_runValue (codeAny_builtin F.entry_proto_collect ?_));rw[Around.under_plainId F.plain_proto_collect _];show wpAny _ A.in1 (newList [] >>= fun q=>again (.builtin "list.__iadd__" ⟨[q,.ref a],[]⟩)) _ _ s;refine wpAny_bind (wpAny_newObj_type ?_);refine wpAny_pure ⟨plainId_quiet F.plain_list_iadd _,codeAny_builtin F.entry_list_iadd ?_⟩;rw[Around.under_plainId F.plain_list_iadd _];show wpAny _ A.in1 (Builtin.List.listExtendWith (.ref s.heap.objs.size) (.ref a) (.ref s.heap.objs.size)) _ _ _;unfold Builtin.List.listExtendWith;have S1:SetAt prog w (s.heap.push { cls:=.type "list",data:=.seq ([]:List Value).toArray }) a o es ep t xs:=S.kept fun b _ ob e=>Heap.get?_push_of_some _ e;have hT1:Shared.TypeIs { s with heap:=s.heap.push { cls:=.type "list",data:=.seq ([]:List Value).toArray }} (.ref a) "set":=⟨o,S1.at_,S.ex.1⟩;refine wpAny_bind (wpAny_typeOf hT1 ?_);have ne:s.heap.objs.size≠a:=Nat.ne_of_gt hal;have e1:Builtin.List.listSameRef (.ref s.heap.objs.size) (.ref a)=false:=by simp[Builtin.List.listSameRef,ne]
 rw[if_neg (by rw[e1];decide)];refine wpAny_bind (qp8z (s:={ s with heap:=s.heap.push { cls:=.type "list",data:=.seq ([]:List Value).toArray }}) S1 T ?_);have S2:=S1.kept (h':=(s.heap.push { cls:=.type "list",data:=.seq ([]:List Value).toArray }).push { cls:=.type "set_iterator",data:=.fields #[rawInt (0:Nat),rawInt (0:Nat),.ref a,rawInt es.size,rawInt ep]}) fun b _ ob e=>Heap.get?_push_of_some _ e;have hit:IsSit ((s.heap.push { cls:=.type "list",data:=.seq ([]:List Value).toArray }).push { cls:=.type "set_iterator",data:=.fields #[rawInt (0:Nat),rawInt (0:Nat),.ref a,rawInt es.size,rawInt ep]})
   (s.heap.push { cls:=.type "list",data:=.seq ([]:List Value).toArray }).objs.size a 0 0 es.size ep:=Heap.get?_push_size _ rfl
 have hS0:((s.heap.push { cls:=.type "list",data:=.seq ([]:List Value).toArray }).push { cls:=.type "set_iterator",data:=.fields #[rawInt (0:Nat),rawInt (0:Nat),.ref a,rawInt es.size,rawInt ep]}).get? s.heap.objs.size
   = some { cls:=.type "list",data:=.seq ([]:List Value).toArray }:=Heap.get?_push_of_some _ (Heap.get?_push_size _ rfl)
 have keep0:∀b ob,s.heap.get? b=some ob->((s.heap.push { cls:=.type "list",data:=.seq ([]:List Value).toArray }).push { cls:=.type "set_iterator",data:=.fields #[rawInt (0:Nat),rawInt (0:Nat),.ref a,rawInt es.size,rawInt ep]}).get? b=some ob:=
  fun b ob e=>Heap.get?_push_of_some _ (Heap.get?_push_of_some _ e)
 have hI:(s.heap.push { cls:=.type "list",data:=.seq ([]:List Value).toArray }).objs.size=s.heap.objs.size+1:=Heap.size_push ..;generalize (s.heap.push { cls:=.type "list",data:=.seq ([]:List Value).toArray }).objs.size=it at hI hit ⊢;generalize ((s.heap.push { cls:=.type "list",data:=.seq ([]:List Value).toArray }).push { cls:=.type "set_iterator",data:=.fields #[rawInt (0:Nat),rawInt (0:Nat),.ref a,rawInt es.size,rawInt ep]})=hp at S2 hit hS0 keep0 ⊢;refine wpAny_bind (wpAny_holding ?_);have hT2:Shared.TypeIs { s with heap:=hp } (.ref a) "set":=⟨o,S2.at_,S.ex.1⟩;unfold Builtin.List.listLengthHint;refine wpAny_bind (wpAny_specialOf hT2 F.slot_set_len.lookup ?_);generalize hid:("set.__len__":String)=id0;dsimp only;rw[show splitId id0=some ("set","__len__") from by subst hid;decide +kernel];subst hid;dsimp only;refine wpAny_bind (wpAny_isInstance (b:=true) hT2 (by rw[isSubtype_type];kernel_rfl) ?_)
 rw[if_neg (by decide)];show wpAny _ A.in1 (typeOf (.ref a) >>= _) _ _ _;refine wpAny_bind (wpAny_typeOf hT2 (wpAny_pure ?_));show wpAny _ A.in1 (rule "list.extend.makes-room" >>= fun _=>Builtin.List.listTouch (.ref s.heap.objs.size) >>= fun _=>again (.builtin "list.extend.loop" ⟨[.ref s.heap.objs.size,.ref it,.ref s.heap.objs.size],[]⟩)) _ _ _;refine wpAny_bind (wpAny_rule (wpAny_bind ?_));show wpAny _ A.in1 (updateSeq s.heap.objs.size (·.push .none) >>= fun _=>updateSeq s.heap.objs.size (·.pop)) _ _ _;refine wpAny_bind (wpAny_updateSeq (s:={ s with heap:=hp }) hS0 rfl ?_);have q1:=Heap.get?_update_self (Obj.mapSeq (·.push Value.none)) hS0 rfl;refine wpAny_updateSeq (s:={ s with heap:=hp.update s.heap.objs.size (Obj.mapSeq (·.push Value.none))}) q1 rfl ?_;have q2:=Heap.get?_update_self (Obj.mapSeq (·.pop)) q1 rfl;have oth:∀b ob,b≠s.heap.objs.size->hp.get? b=some ob->((hp.update s.heap.objs.size (Obj.mapSeq (·.push Value.none))).update s.heap.objs.size (Obj.mapSeq (·.pop))).get? b=some ob:=
  fun b ob hb e=>(Heap.get?_update_other _ _ (Ne.symm hb)).trans ((Heap.get?_update_other _ _ (Ne.symm hb)).trans e)
 have q3:∃c,((hp.update s.heap.objs.size (Obj.mapSeq (·.push Value.none))).update s.heap.objs.size (Obj.mapSeq (·.pop))).get? s.heap.objs.size=some { cls:=.type "list",dict:=none,data:=.seq #[] c,slots:=#[]}:=⟨_,q2⟩;clear q2;generalize (hp.update s.heap.objs.size (Obj.mapSeq (·.push Value.none))).update s.heap.objs.size (Obj.mapSeq (·.pop))=hp2 at q3 oth ⊢;obtain⟨c0,q2⟩:=q3;have hfp:∀b∈it::a::xs.map (·.2),b≠s.heap.objs.size:=fun b hb e=>by
  rcases List.mem_cons.mp hb with z|z
  ·lia
  ·have hlt:b<s.heap.objs.size:=by
    rcases List.mem_cons.mp z with z|z
    ·rw[z];exact hal
    ·obtain⟨p,hp',rfl⟩:=List.mem_map.mp z;obtain⟨oy,_,_,ho,_⟩:=S.keys p hp';exact Heap.lt_size ho
   lia
 have W:=(qqbz (prog:=prog) (w:=w) (A:=A.in1) (by simpa using hh) (it:=it) (a:=a) (o:=o) (ep:=ep) (xs:=xs) T).toS;refine wpAny_pure ⟨plainId_quiet F.plain_extend_loop _,codeAny_extend_loopS W (by rw[sizeLine_eq];lia) _ (fun hm=>hfp _ hm rfl) _ es.size 0 _ _ _ rfl (Nat.zero_le _) ?_ q2 (ItemsOf.nil _) fun s' acc' c' hm hS' hacc=>?_⟩
 ·refine⟨0,oth _ _ (hfp _ List.mem_cons_self) hit,?_,S2.kept fun b hb ob e=>oth b ob (hfp b (List.mem_cons_of_mem _ hb)) e⟩;by_cases hb:byText w=true
  ·exact .inl hb
  ·refine .inr ?_;obtain⟨b0,b1,b2⟩:=qdmz (j:=0) T.rise;refine Classical.byContradiction fun hne=>?_;have hpos:0<SetTable.below t.place 0:=by lia
   have h0:0<t.place.size:=by lia
   have:=b1 0 (t.place[0]) hpos (by simp[h0]);lia
 ·show wpAny _ A (load s.heap.objs.size >>= _) _ _ s';refine wpAny_bind (wpAny_load hS' ?_);refine wpAny_pure ?_;have hlen:(walkL w a ep es).length=es.size:=by rw[(walkL_perm w a ep es).length_eq];simp
  have eacc:acc'.toList=(walkL w a ep es).map (·.2):=by
   refine List.ext_getElem? fun i=>?_;rw[List.getElem?_map,Array.getElem?_toList];cases ha:acc'[i]? with
   |none=>
    have h1:=Array.getElem?_eq_none_iff.mp ha;rw[hacc.1] at h1;rw[List.getElem?_eq_none_iff.mpr (by lia)];rfl
   |some v=>
    obtain⟨p,e1,e2⟩:=hacc.2 i v ha;rw[e1,e2];rfl
  show Q acc'.toList s';rw[eacc];refine h s' ⟨fun b ob _ e=>?_,hm.gens,hm.drawn,hm.os,?_⟩
  ·have hlt:=Heap.lt_size e;refine hm.heap b ob ?_ (oth b ob (Nat.ne_of_lt hlt) (keep0 b ob e));intro z;rcases List.mem_cons.mp z with z|z
   ·rw[z] at hlt;exact Nat.lt_irrefl _ hlt
   ·have:b=it:=by simpa using z
    rw[this,hI] at hlt;exact Nat.lt_irrefl _ (Nat.lt_of_succ_lt hlt)
  ·exact hm.toks
end
end SetM
namespace SetM
open PySem SetP
section
variable {prog:Program} {w:World} {A:Around} {E:Value->Shared->Prop} {s:Shared}
def freshSet(w:World):Obj:={ cls:=.type "set",dict:=none,data:=.set #[] 0 (.fresh 0 0 (!(byText w)))}
theorem qqcz(a:Value){Q₁:Value->Shared->Prop}(h:Q₁ (.ref s.heap.objs.size) { s with heap:=s.heap.push (freshSet w)}):
  codeAny (model prog w) A (.call (.builtin "set.__new__") ⟨[.type "set",a],[]⟩) (wants Q₁ E) s:=by
 refine codeAny_of_tree ?_;show wpAny _ A.in1 (checkBuiltinCall "set.__new__" ⟨[.type "set",a],[]⟩ >>= fun _=>again (.builtin "set.__new__" ⟨[.type "set",a],[]⟩)) _ _ s;refine wpAny_bind (wpAny_of_eq (F.newCall_set_1 a) (wpAny_pure ⟨plainId_quiet F.plain_set_new _,codeAny_builtin F.entry_set_new ?_⟩));rw[Around.under_plainId F.plain_set_new _];unfold Builtin.«set.__new__» Builtin.Frozenset.newClass;have hsub:=sub_set_self;obtain⟨hp,g,d,tk,os⟩:=s;dsimp only;wp_walk;refine wpAny_askSetting (wpAny_pure ?_);dsimp only;simp only[newObj];refine wpAny_bind (wpAny_alloc (wpAny_pure ?_));exact wpAny_pure h
theorem qqdz(led:Bool):Tab (SetTable.fresh 0 0 led) []:=
 ⟨.inl rfl,rfl,List.Pairwise.nil,(fun j hj=>(nomatch hj)),rfl,(by show 0*5<7*3;decide),(fun j h hj=>(nomatch hj))⟩
structure Ded(ps xs:List (List Int×Addr)):Prop where
 sub:∀p∈xs,p∈ps
 all:∀p∈ps,p.1∈xs.map (·.1)
 len:xs.length≤ps.length
theorem Ded.add{ps xs xs':List (List Int×Addr)}{p:List Int×Addr}(d:Ded ps xs)(h1:p.1∈xs.map (·.1)->xs'.Perm xs)(h2:p.1∉xs.map (·.1)->xs'.Perm (p::xs)):Ded (ps++[p]) xs':=by
 by_cases hm:p.1∈xs.map (·.1)
 ·have pm:=h1 hm;refine⟨fun q hq=>List.mem_append_left _ (d.sub q (pm.mem_iff.mp hq)),fun q hq=>?_,?_⟩
  ·rw[(pm.map _).mem_iff];rcases List.mem_append.mp hq with hq|hq
   ·exact d.all q hq
   ·have:q=p:=by simpa using hq
    rw[this];exact hm
  ·rw[pm.length_eq,List.length_append];have:=d.len;lia
 ·have pm:=h2 hm;refine⟨fun q hq=>?_,fun q hq=>?_,?_⟩
  ·rcases List.mem_cons.mp (pm.mem_iff.mp hq) with e|e
   ·exact List.mem_append_right _ (by simp[e])
   ·exact List.mem_append_left _ (d.sub q e)
  ·rw[(pm.map _).mem_iff,List.map_cons];rcases List.mem_append.mp hq with hq|hq
   ·exact List.mem_cons_of_mem _ (d.all q hq)
   ·have:q=p:=by simpa using hq
    rw[this];exact List.mem_cons_self
  ·rw[pm.length_eq,List.length_append,List.length_cons,List.length_singleton];have:=d.len;lia
theorem qqez{I:Addr}{fp:List Addr}{n:Nat}{P:Nat->Value->Prop}{St:Nat->Heap->Prop}(W:Walks prog w A.in1 I fp [I] n P St)(S:Addr)(hSf:S∉fp)(ps:List (List Int×Addr))(hps:ps.length=n)(hn:n≤60)
  (hu:A.in1.units<cLine) (hval:∀(i:Nat) v,P i v->∃p,ps[i]?=some p/\v=.ref p.2) (hpf:∀p∈ps,p.2≠I/\p.2≠S) {R:Result->Shared->Prop}:
  ∀(k i:Nat) (s:Shared) (xs:List (List Int×Addr)),n-i=k->i≤n->St i s.heap->SetOn prog w s.heap S xs->Ded (ps.take i) xs->(∀p∈ps,IsK prog w s.heap p.1 p.2) ->
   (∀h' tk xs',(∀b ob,b≠S->b≠I->s.heap.get? b=some ob->h'.get? b=some ob)->SetOn prog w h' S xs'->Ded ps xs'->R (.ok (.ret .none)) { s with heap:=h',toks:=tk }) ->
   codeAny (model prog w) A (.builtin "set.update.loop" ⟨[.ref S,.ref I],[]⟩) R s:=by
 have hSI:S≠I:=fun e=>hSf (W.sub _ (by rw[e];simp));have on_kept:∀{h h':Heap} {xs:List (List Int×Addr)},SetOn prog w h S xs->(∀p∈xs,p∈ps)->(∀b ob,b≠I->h.get? b=some ob->h'.get? b=some ob)->SetOn prog w h' S xs:=fun {h h' xs} ⟨o,es,ep,t,q,T⟩ sub kp=>
  ⟨o,es,ep,t,q.kept fun b hb ob e=>kp b ob (by
   rcases List.mem_cons.mp hb with z|z
   ·rw[z];exact hSI
   ·obtain⟨p,hp,rfl⟩:=List.mem_map.mp z;exact (hpf p (sub p hp)).1) e,T⟩
 intro k
 induction k with
 |zero=>
  intro i s xs hk hi hst hS hd hkeys hR;have hin:i=n:=by lia
  subst hin;refine codeAny_builtin PyProof.Rows.F.entry_set_update_loop ?_;rw[Around.under_plainId PyProof.Rows.F.plain_set_update_loop _];show wpAny _ A.in1 (pyNext (.ref I) >>= _) _ _ s;refine wpAny_bind (W.done s _ _ hst fun h' tk kp=>?_);show wpAny _ A.in1 (ret Value.none) _ _ _;have hd':Ded ps xs:=by
   rw[←hps,List.take_length] at hd;exact hd
  exact wpAny_pure (hR h' tk xs (fun b ob _ hb e=>kp b ob (by simpa using hb) e) (on_kept hS hd'.sub fun b ob hb e=>kp b ob (by simpa using hb) e) hd')
 |succ k ih=>
  intro i s xs hk hi hst hS hd hkeys hR;have hlt:i<n:=by lia
  refine codeAny_builtin PyProof.Rows.F.entry_set_update_loop ?_;rw[Around.under_plainId PyProof.Rows.F.plain_set_update_loop _];show wpAny _ A.in1 (pyNext (.ref I) >>= _) _ _ s;refine wpAny_bind (W.item i s _ _ hlt hst fun v h1 tk1 hP hst1 kp1=>?_);obtain⟨p,hp,rfl⟩:=hval i v hP;have hpm:p∈ps:=List.mem_of_getElem? hp;have kp1':∀b ob,b≠I->s.heap.get? b=some ob->h1.get? b=some ob:=fun b ob hb e=>kp1 b ob (by simpa using hb) e;have key1:∀q∈ps,IsK prog w h1 q.1 q.2:=fun q hq=>by
   obtain⟨oy,items,m,ho,r⟩:=hkeys q hq;exact⟨oy,items,m,kp1' _ _ (hpf q hq).1 ho,r⟩
  have sub0:∀q∈xs,q∈ps:=fun q hq=>List.mem_of_mem_take (hd.sub q hq);have hS1:=on_kept hS sub0 kp1';show wpAny _ A.in1 (holding [Value.ref p.2] (setAdd S (.ref p.2)) >>= _) _ _ _;have hlen:xs.length<64:=by
   have h1:=hd.len;rw[List.length_take] at h1;lia
  refine wpAny_bind (wpAny_holding (qp5z (s:={ s with heap:=h1,toks:=tk1 }) hS1 hlen hu (key1 p hpm) fun b h2 tk2 xs2 _ sb hS2 q1 q2=>?_));have hd2:Ded (ps.take (i+1)) xs2:=by
   rw[List.take_add_one,hp];exact hd.add q1 q2
  obtain⟨oS,_,_,_,SS,_⟩:=hS1;refine wpAny_pure ⟨plainId_quiet PyProof.Rows.F.plain_set_update_loop _,ih (i+1) _ xs2 (by lia) hlt (W.frame _ _ _ hst1 fun c hc ob e=>(sb.2 c (fun z=>hSf (z▸hc))).trans e) hS2 hd2 (fun q hq=>qdnz SS.at_ SS.dat sb (key1 q hq)) fun h' tk xs' kp' a1 a2=>?_⟩;exact hR h' tk xs' (fun c ob c1 c2 e=>kp' c ob c1 c2 ((sb.2 c c1).trans (kp1' c ob c2 e))) a1 a2
set_option maxHeartbeats 6400000 in
theorem call_set_tups{l:Addr}{vs:List Value}{ps:List (List Int×Addr)}{Q:Value->Shared->Prop}(hh:A.handled=none)(hl:s.heap.IsList l vs.toArray)(hv:vs=ps.map fun p=>Value.ref p.2)(hk:∀p∈ps,IsK prog w s.heap p.1 p.2)(hn:ps.length≤60)
  (hu:A.units+4<cLine)
  (h:∀h' tk xs,(∀b ob,s.heap.get? b=some ob->h'.get? b=some ob)->SetOn prog w h' s.heap.objs.size xs->Ded ps xs->Q (.ref s.heap.objs.size) { s with heap:=h',toks:=tk }):
  wpAny (model prog w) A (call (.type "set") [.ref l]) Q E s:=by
 obtain⟨c,tl,hmro⟩:=F.called_set.mro;have hmade:=F.called_set.made;have hsub:=F.called_set.sub;refine wpAny_call (codeAny_of_tree ?_);show wpAny _ _ (callAny (.type "set") _) _ _ _;refine wpAny_pure ⟨Code.quiet_builtin _ (by decide +kernel),codeAny_builtin F.entry_type_call ?_⟩;rw[Around.under_plain (weight_type_call_type "set" [.ref l] []) rfl];have h1:=F.called_set.notType;have h2:=F.called_set.canCreate;have hct:=F.typeCall_set_1 (.ref l)
 repeat (any_goals (first|assumption|wp_step))
 refine codeAny_mono (qqcz (.ref l) (E:=E) (Q₁:=fun obj s₁=>obj=.ref s.heap.objs.size/\s₁={ s with heap:=s.heap.push (freshSet w)}) ⟨rfl,rfl⟩) fun r s₁ hr=>?_;cases r with
 |error e=>exact hr
 |ok fl=>
  cases fl with
  |ret obj=>
   obtain⟨rfl,rfl⟩:=hr;have hS:(s.heap.push (freshSet w)).get? s.heap.objs.size=some (freshSet w):=Heap.get?_push_size _ rfl;have hT:Shared.TypeIs { s with heap:=s.heap.push (freshSet w)} (.ref s.heap.objs.size) "set":=⟨_,hS,rfl⟩;have hli:=F.called_set.init.lookup;have hbi:=F.called_set.init.bind (.ref s.heap.objs.size)
   repeat (any_goals (first|assumption|wp_step))
   refine codeAny_mono (codeAny_call_builtin (R:=wants (fun r s₂=>r=.none/\∃h' tk xs,s₂={ s with heap:=h',toks:=tk }/\(∀b ob,s.heap.get? b=some ob->h'.get? b=some ob)/\SetOn prog w h' s.heap.objs.size xs/\Ded ps xs) E)
    F.called_set.init.plain F.entry_set_init (check_set_init_1 hT ?_)) fun r₂ s₂ hr₂=>?_
   ·obtain⟨ol,hol,hcl,nl,hdl⟩:=hl;obtain⟨ocls,odict,odata,oslots⟩:=ol;simp only at hcl hdl;subst hcl;subst hdl;have hol':(s.heap.push (freshSet w)).get? l=some { cls:=.type "list",dict:=odict,data:=.seq vs.toArray nl,slots:=oslots }:=Heap.get?_push_of_some _ hol;have hsls:=F.sub_list_set;have hslf:=F.sub_list_frozenset;have hne:(Value.type "list" == Value.type "dict")=false:=by decide
    have hl1:(s.heap.push (freshSet w)).IsList l vs.toArray:=⟨_,hol',rfl,nl,rfl⟩;have hS2:(s.heap.push (freshSet w)).get? s.heap.objs.size=some { cls:=.type "set",dict:=none,data:=.set #[] 0 (.fresh 0 0 (!(byText w)))}:=hS;unfold Builtin.«set.__init__» noKeywords Builtin.Frozenset.updateFrom;generalize hPI:pyIter=PI;wp_walk;subst hPI;refine wpAny_pyIter_list hl1 ?_;refine wpAny_bind (wpAny_runValue ?_);have hlS:l<s.heap.objs.size:=Heap.lt_size hol;have hh3:A.in1.in1.in1.handled=none:=by simp[hh]
    have hu3:A.in1.in1.in1.units<cLine:=by
     show A.units+1+1+1<cLine;lia
    have hsz:(s.heap.push (freshSet w)).objs.size=s.heap.objs.size+1:=Heap.size_push ..;have hneI:l≠(s.heap.push (freshSet w)).objs.size:=by
     rw[hsz];exact Nat.ne_of_lt (Nat.lt_succ_of_lt hlS)
    have hSf:s.heap.objs.size∉[(s.heap.push (freshSet w)).objs.size,l]:=by
     rw[hsz];intro z;rcases List.mem_cons.mp z with z|z
     ·exact absurd z (Nat.ne_of_lt (Nat.lt_succ_self _))
     ·have:s.heap.objs.size=l:=by simpa using z
      exact absurd this (Nat.ne_of_gt hlS)
    have hlen:vs.toArray.size=ps.length:=by rw[hv];simp
    refine qqez (Walks.list hh3 _ l hneI vs.toArray) s.heap.objs.size hSf ps hlen.symm (by rw[hlen];exact hn) hu3 (fun i v e=>?_) (fun p hp=>?_) (vs.toArray.size-0) 0 _ [] rfl (Nat.zero_le _)
     ⟨⟨_,Heap.get?_push_size _ rfl,rfl,rfl⟩,hl1.push _⟩ ?hS0 ⟨(fun p hp=>(nomatch hp)),(fun p hp=>by rw[List.take_zero] at hp;cases hp),Nat.zero_le _⟩ (fun p hp=>?_) ?hR
    case hS0=>
     refine⟨_,#[],0,_,⟨Heap.get?_push_of_some _ hS2,⟨rfl,rfl,rfl⟩,rfl,rfl,(fun p hp=>(nomatch hp)),List.nodup_nil,rfl,rfl⟩,qqdz _⟩
    case hR=>
     intro h' tk xs q1 q2 q3;refine wpAny_pure ?_;show wpAny _ _ (ret Value.none) _ _ _;refine wpAny_pure ⟨rfl,h',tk,xs,rfl,fun b ob e=>?_,q2,q3⟩;have hb:=Heap.lt_size e;refine q1 b ob (Nat.ne_of_lt hb) ?_ (Heap.get?_push_of_some _ (Heap.get?_push_of_some _ e));rw[hsz];exact Nat.ne_of_lt (Nat.lt_succ_of_lt hb)
    ·rw[hv,List.getElem?_toArray,List.getElem?_map] at e;cases hp:ps[i]? with
     |none=>rw[hp] at e;cases e
     |some p=>rw[hp] at e;exact⟨p,rfl,(Option.some.inj e).symm⟩
    ·obtain⟨oy,_,_,ho,_⟩:=hk p hp;have hb:=Heap.lt_size ho;rw[hsz];exact⟨Nat.ne_of_lt (Nat.lt_succ_of_lt hb),Nat.ne_of_lt hb⟩
    ·obtain⟨oy,items,m,ho,r⟩:=hk p hp;exact⟨oy,items,m,Heap.get?_push_of_some _ (Heap.get?_push_of_some _ ho),r⟩
   ·cases r₂ with
    |error e=>exact hr₂
    |ok fl₂=>
     cases fl₂ with
     |ret r=>
      obtain⟨rfl,h',tk,xs,rfl,q1,q2,q3⟩:=hr₂
      repeat (any_goals (first|assumption|wp_step))
      exact h _ _ _ q1 q2 q3
     |_=>exact hr₂.elim
  |_=>exact hr.elim
end
end SetM
namespace SortV
open PySem PySem.W PyProof.Rows SetM KasS
def lx:List Int->List Int->Bool
 |[],[]=>false
 |[],_::_=>true
 |_::_,[]=>false
 |x::xs,y::ys=>if x=y then lx xs ys else decide (x<y)
theorem qicz:∀{x y:List Int},lx x y=true->lx y x=false
 |[],[],h=>by cases h
 |[],_::_,_=>rfl
 |_::_,[],h=>by cases h
 |x::xs,y::ys,h=>by
  unfold lx at h ⊢;by_cases e:x=y
  ·rw[if_pos e] at h;rw[if_pos e.symm];exact qicz h
  ·rw[if_neg e] at h;rw[if_neg (Ne.symm e)];have:=of_decide_eq_true h;exact decide_eq_false (by lia)
theorem qidz:∀{a b c:List Int},lx b a=false->lx c b=false->lx c a=false
 |[],b,[],_,_=>rfl
 |[],[],c::cs,_,h=>h
 |[],b::bs,c::cs,h,_=>rfl
 |a::as,[],c,h,_=>by cases h
 |a::as,b::bs,[],_,h=>by cases h
 |a::as,b::bs,c::cs,h1,h2=>by
  unfold lx at h1 h2 ⊢;by_cases e1:b=a
  ·rw[if_pos e1] at h1;by_cases e2:c=b
   ·rw[if_pos e2] at h2;rw[if_pos (e2.trans e1)];exact qidz h1 h2
   ·rw[if_neg e2] at h2;have:=of_decide_eq_false h2;by_cases e3:c=a
    ·lia
    ·rw[if_neg e3];exact decide_eq_false (by lia)
  ·rw[if_neg e1] at h1;have:=of_decide_eq_false h1;by_cases e2:c=b
   ·rw[if_neg (by lia)];exact decide_eq_false (by lia)
   ·rw[if_neg e2] at h2;have:=of_decide_eq_false h2;by_cases e3:c=a
    ·lia
    ·rw[if_neg e3];exact decide_eq_false (by lia)
section
variable {prog:Program} {w:World} {A:Around} {E:Value->Shared->Prop} {s:Shared}
theorem qqfz{Q:Bool->Shared->Prop}:∀(xs ys:List Int) (us vs:List Value) (i:Nat) (fin:Bool),ItemsAre (intKind prog w) xs us->ItemsAre (intKind prog w) ys vs ->
  (fin=decide (us.length<vs.length)∨∃n m,fin=decide (n+us.length<n+vs.length)/\m=n)->Q (lx xs ys) s->KatLex prog w A true fin Q (us.zip vs) i s:=by
 intro xs
 induction xs with
 |nil=>
  intro ys us vs i fin h1 h2 hf h;cases h1;cases h2 with
  |nil=>
   have:fin=false:=by
    rcases hf with hf|⟨n,m,hf,_⟩<;>simp at hf<;>exact hf
   rw[this];exact kat_nil h
  |cons h3 h4=>
   have:fin=true:=by
    rcases hf with hf|⟨n,m,hf,_⟩<;>rw[hf]<;>simp
   rw[this];exact kat_nil h
 |cons x xs ih=>
  intro ys us vs i fin h1 h2 hf h;cases h1 with
  |cons h1 h1'=>
  cases h2 with
  |nil=>
   have:fin=false:=by
    rcases hf with hf|⟨n,m,hf,_⟩<;>rw[hf]<;>simp
   rw[this];exact kat_nil h
  |cons h3 h4=>
   obtain⟨t,rfl⟩:=Value.isInt_shape h1;obtain⟨t',rfl⟩:=Value.isInt_shape h3;refine kat_cons (wpAny_eqBool_int ?_);unfold lx at h;rename_i _ y ys _;by_cases e:x=y
   ·rw[if_pos e] at h;have:(x==y)=true:=by simpa using e
    rw[this];refine kat_yes (ih ys _ _ (i+1) fin h1' h4 (.inr ?_) h);rcases hf with hf|⟨n,m,hf,_⟩
    ·exact⟨1,1,by rw[hf];simp[Nat.add_comm],rfl⟩
    ·exact⟨n+1,n+1,by rw[hf];congr 1;simp only[List.length_cons];apply propext;lia,rfl⟩
   ·rw[if_neg e] at h;have:(x==y)=false:=by simpa using e
    rw[this];refine kat_no ?_;by_cases hi:i=0
    ·subst hi;exact oneLt_int h
    ·have hb:(true&&i==0)=false:=by simp[hi]
     rw[hb];exact kat_one _ _ (lt_int h)
theorem qqgz{Q:Bool->Shared->Prop}{x y:List Int}{a b:Addr}(hx:IsK prog w s.heap x a)(hy:IsK prog w s.heap y b)(h:Q (lx x y) s):wpAny (model prog w) A (keyLt' (tuples' true) (.ref a) (.ref b)) Q E s:=by
 obtain⟨o,its,n,ho,_,hd,hi⟩:=hx;obtain⟨o',its',n',ho',_,hd',hi'⟩:=hy;exact kat_lt ho hd ho' hd' (qqfz x y its.toList its'.toList 0 _ hi hi' (.inl (by simp)) h)
def plt(ps:List (List Int×Addr))(i j:Nat):Bool:=lx ((ps.getD i ([],0)).1) ((ps.getD j ([],0)).1)
theorem qqhz(ps:List (List Int×Addr))(n:Nat):Ord n (plt ps):=⟨fun a b _ _ h=>qicz h,fun a b c _ _ _ h1 h2=>qidz h1 h2⟩
def cmpP(n:Nat)(lt:Nat->Nat->Bool)(i j:Nat)(C:Bool->Shared->Prop)(s:Shared):Prop:=i<n/\j<n/\C (lt i j) s
theorem conv{α:Type}{n:Nat}{lt:Nat->Nat->Bool}{κ:SortKind}{vs:List Value}{Q:α->Shared->Prop}(ha:∀i j,i<n->j<n->∀C:Bool->Shared->Prop,C (lt i j) s->kas_ask prog w A κ vs i j C s):
  ∀t:KasT α,t.kasWp (cmpP n lt) Q s->t.kasWp (kas_ask prog w A κ vs) Q s
 |.ret a,h=>h
 |.ask i j k,h=>by
  obtain⟨h1,h2,h3⟩:=h;exact ha i j h1 h2 _ (conv ha (k (lt i j)) h3)
theorem qewz{ps:List (List Int×Addr)}{i:Nat}(hi:i<ps.length):(ps.map fun p=>Value.ref p.2).getD i Value.none=.ref (ps.getD i ([],0)).2:=by
 simp[List.getD,hi]
theorem getD_mem{ps:List (List Int×Addr)}{i:Nat}(hi:i<ps.length):ps.getD i ([],0)∈ps:=by
 simp[List.getD,hi]
theorem qqiz{ps:List (List Int×Addr)}(hk:∀p∈ps,IsK prog w s.heap p.1 p.2):∀i j,i<ps.length->j<ps.length->∀C:Bool->Shared->Prop,C (plt ps i j) s->kas_ask prog w A (tuples' true) (ps.map fun p=>Value.ref p.2) i j C s:=fun i j hi hj C h=>by
 unfold kas_ask;rw[qewz hi,qewz hj];exact qqgz (hk _ (getD_mem hi)) (hk _ (getD_mem hj)) h
theorem qiez{h:Heap}:∀{ps:List (List Int×Addr)},(∀p∈ps,IsK prog w h p.1 p.2/\p.1≠[])->∃fs,KatTups h (ps.map fun p=>Value.ref p.2) fs/\fs.length=ps.length/\∀v∈fs,∃i t,v=.int i t
 |[],_=>⟨[],.nil,rfl,fun v hv=>nomatch hv⟩
 |p::ps,hk=>by
  obtain⟨fs,h1,h2,h3⟩:=qiez (ps:=ps) fun q hq=>hk q (List.mem_cons_of_mem _ hq);obtain⟨⟨o,its,n,ho,hc,hd,hi⟩,hne⟩:=hk p List.mem_cons_self;obtain⟨ks,a⟩:=p;cases ks with
  |nil=>exact absurd rfl hne
  |cons k ks=>
   obtain⟨its⟩:=its;cases hi with
   |cons h4 h5=>
    rename_i v vs;obtain⟨t,e⟩:=Value.isInt_shape h4;refine⟨v::fs,KatTups.cons ho hc hd (by simp) h1,by simp[h2],fun u hu=>?_⟩;rcases List.mem_cons.mp hu with q|q
    ·exact⟨k,t,q.trans e⟩
    ·exact h3 u q
theorem qqjz{ps:List (List Int×Addr)}(hne:ps≠[])(hk:∀p∈ps,IsK prog w s.heap p.1 p.2/\p.1≠[]){Q:SortKind->Shared->Prop}(h:Q (tuples' true) s):wpAny (model prog w) A (keyKind' (ps.map fun p=>Value.ref p.2).toArray) Q E s:=by
 obtain⟨fs,h1,h2,h3⟩:=qiez hk;have hl:0<fs.length:=by
  rw[h2];exact List.length_pos_iff.mpr hne
 refine kat_kind (T:=.type "int") h1 hl (fun v hv=>?_) rfl h;obtain⟨i,t,rfl⟩:=h3 v hv;exact .now
structure Srt(ps qs:List (List Int×Addr)):Prop where
 perm:qs.Perm ps
 rise:qs.Pairwise fun x y=>lx y.1 x.1=false
theorem qqkz{ps:List (List Int×Addr)}{p:Array Nat}(v:Va ps.length p)(S:So (plt ps) p ps.length):Srt ps (p.toList.map fun i=>ps.getD i ([],0)):=by
 refine⟨?_,?_⟩
 ·refine (v.perm.map _).trans ?_;have:(List.range ps.length).map (fun i=>ps.getD i ([],0))=ps:=by
   refine List.ext_getElem? fun i=>?_;by_cases hi:i<ps.length
   ·simp[List.getElem?_map,List.getElem?_range hi,List.getD,hi]
   ·rw[List.getElem?_eq_none_iff.mpr (by simpa using hi),List.getElem?_eq_none_iff.mpr (by lia)]
  rw[this]
 ·rw[List.pairwise_map,List.pairwise_iff_getElem];intro i j hi hj hij;have hs:=v.size;have h1:i<ps.length:=by rw[←hs];simpa using hi
  have h2:j<ps.length:=by rw[←hs];simpa using hj
  have e1:p.toList[i]=g p i:=by
   have:=v.get h1;simp[g,Array.getD,hs,h1]
  have e2:p.toList[j]=g p j:=by simp[g,Array.getD,hs,h2]
  rw[e1,e2];exact S i j (Nat.le_of_lt hij) h2
theorem qqlz{ps:List (List Int×Addr)}{p:Array Nat}(v:Va ps.length p):(p.toList.map fun i=>(ps.map fun q=>Value.ref q.2).getD i Value.none)=(p.toList.map fun i=>ps.getD i ([],0)).map fun q=>Value.ref q.2:=by
 rw[List.map_map];refine List.map_congr_left fun i hi=>?_;have:i<ps.length:=by
  have:=v.perm.mem_iff.mp hi;simpa using this
 exact qewz this
theorem qqmz{h h':Heap}{ks:List Int}{a b:Addr}{its:Array Value}{n:Nat}(hb:h.get? b=some (seqObj "list" its n))(keep:∀c o,c≠b->h.get? c=some o->h'.get? c=some o)(hk:IsK prog w h ks a):IsK prog w h' ks a:=by
 obtain⟨o,it,m,ho,hc,hd,hi⟩:=hk;refine⟨o,it,m,keep a o (fun e=>?_) ho,hc,hd,hi⟩;rw[e,hb] at ho;cases ho;injection hc with hc
 exact absurd hc (by decide)
theorem qqnz{a:Addr}{n:Nat}{ps:List (List Int×Addr)}{P:PySem.Fin->Shared->Prop}(ho:s.heap.get? a=some (seqObj "list" (ps.map fun p=>Value.ref p.2).toArray n))(hk:∀p∈ps,IsK prog w s.heap p.1 p.2/\p.1≠[])(h2:2≤ps.length)(h64:ps.length<64)
  (h:∀qs h' c,Srt ps qs->h'.get? a=some (seqObj "list" (qs.map fun p=>Value.ref p.2).toArray c)->(∀b o,b≠a->s.heap.get? b=some o->h'.get? b=some o)->P (.done (.ret .none)) { s with heap:=h' }):
  wpAny (model prog w) A (Builtin.«list.sort» ⟨[.ref a],[]⟩) P E s:=by
 have ha:a<s.heap.objs.size:=Heap.lt_size ho;have s1:=Heap.SameBut.update s.heap a (Obj.mapSeq fun _=>(#[]:Array Value));obtain⟨e1,ho1⟩:∃e1,(s.heap.update a (Obj.mapSeq fun _=>(#[]:Array Value))).get? a=some (seqObj "list" #[] e1):=⟨_,get?_update_seq ho fun _=>#[]⟩;generalize hvs:(ps.map fun p=>Value.ref p.2)=vs at ho;have hlen:vs.length=ps.length:=by rw[←hvs,List.length_map]
 have hu3:∀b o,b≠a->s.heap.get? b=some o->(((s.heap.update a (Obj.mapSeq fun _=>(#[]:Array Value))).push (seqObj "tuple" vs.toArray 0)).push (seqObj "list" #[] 0)).get? b=some o:=fun b o hb e=>
  Heap.get?_push_of_some _ (Heap.get?_push_of_some _ ((s1.2 b hb).trans e))
 have ho3:(((s.heap.update a (Obj.mapSeq fun _=>(#[]:Array Value))).push (seqObj "tuple" vs.toArray 0)).push (seqObj "list" #[] 0)).get? a=some (seqObj "list" #[] e1):=Heap.get?_push_of_some _ (Heap.get?_push_of_some _ ho1);rw[list_sort_plain];refine wpAny_bind (listItems_at ho rfl ?_);refine wpAny_bind (listUpdate_at ho rfl ?_ (by rw[List.size_toArray,sizeLine_eq];lia) (Nat.zero_le _));refine wpAny_bind (seqEpoch_at ho1 rfl ?_);refine wpAny_bind (wpAny_newTuple ?_ (by show vs.length≤_;rw[sizeLine_eq];lia));refine wpAny_bind (wpAny_newList ?_ (Nat.zero_le _));refine wpAny_holding ?_;show wpAny (model prog w) A _ P E { s with heap:=((s.heap.update a (Obj.mapSeq fun _=>(#[]:Array Value))).push (seqObj "tuple" vs.toArray 0)).push (seqObj "list" #[] 0)};generalize ((s.heap.update a (Obj.mapSeq fun _=>(#[]:Array Value))).push (seqObj "tuple" vs.toArray 0)).push (seqObj "list" #[] 0)=h3 at hu3 ho3 ⊢;have hk3:∀p∈ps,IsK prog w h3 p.1 p.2/\p.1≠[]:=fun p hp=>⟨qqmz ho hu3 (hk p hp).1,(hk p hp).2⟩;dsimp only;have hn2:¬vs.toArray.size<2:=by rw[List.size_toArray];lia
 rw[if_neg hn2,if_neg hn2];have hne:ps≠[]:=fun z=>by rw[z] at h2;simp at h2
 refine wpAny_bind ?_;rw[←hvs];refine qqjz (s:={ s with heap:=h3 }) hne hk3 ?_;have hsort:(kas_sort vs.length).kasWp (kas_ask prog w A (tuples' true) (ps.map fun p=>Value.ref p.2)) (fun p s'=>s'={ s with heap:=h3 }/\Va ps.length p/\So (plt ps) p ps.length) { s with heap:=h3 }:=by
  refine conv (lt:=plt ps) (n:=ps.length) (qqiz (s:={ s with heap:=h3 }) fun p hp=>(hk3 p hp).1) _ ?_
  rw[hlen];exact qplz (qqhz ps ps.length) (fun i j hi hj C s' hC=>⟨hi,hj,hC⟩) (by lia) fun p v S=>⟨rfl,v,S⟩
 have hsort:(kas_sort (ps.map fun p=>Value.ref p.2).length).kasWp (kas_ask prog w A (tuples' true) (ps.map fun p=>Value.ref p.2)) (fun p s'=>s'={ s with heap:=h3 }/\Va ps.length p/\So (plt ps) p ps.length) { s with heap:=h3 }:=by
  rw[hlen] at hsort;rw[List.length_map];exact hsort
 refine wpAny_bind (wpAny_mono (kat_run (Q:=fun st' s'=>∃p:Array Nat,p.size=(ps.map fun p=>Value.ref p.2).length/\arrOf st'=p.map (kas_item ((ps.map fun p=>Value.ref p.2).toArray.zip (ps.map fun p=>Value.ref p.2).toArray))/\failedOf st'=none/\s'={ s with heap:=h3 }/\Va ps.length p/\So (plt ps) p ps.length)
  rfl (by rw[List.length_map];exact h2) (by rw[List.length_map];exact h64) (fun p' st' s' a1 a2 a3 a4=>⟨p',a1,a2,a3,a4⟩) hsort) ?_ fun _ _ e=>e)
 rintro⟨⟨⟩,st'⟩ s' ⟨p,hp,har,hf,rfl,va,so⟩;dsimp only;have hout:=kat_snds rfl har;rw[qqlz va] at hout;have hS:=qqkz va so;generalize (p.toList.map fun i=>ps.getD i ([],0))=qs at hout hS;have hsz:(List.toArray (qs.map fun q=>Value.ref q.2)).size=ps.length:=by rw[List.size_toArray,List.length_map,hS.perm.length_eq]
 rw[hout];have s2:=Heap.SameBut.update h3 a (Obj.mapSeq fun _=>List.toArray (qs.map fun q=>Value.ref q.2));obtain⟨c2,hc2⟩:∃c2,(h3.update a (Obj.mapSeq fun _=>List.toArray (qs.map fun q=>Value.ref q.2))).get? a=some (seqObj "list" (List.toArray (qs.map fun q=>Value.ref q.2)) c2):=⟨_,get?_update_seq ho3 fun _=>List.toArray (qs.map fun q=>Value.ref q.2)⟩;refine wpAny_bind (seqEpoch_at ho3 rfl ?_);refine wpAny_bind (listUpdate_at ho3 rfl ?_ (Nat.zero_le _) (Nat.le_trans (Nat.le_of_eq hsz) (by rw[sizeLine_eq];lia)));rw[hf];simp only[bne_self_eq_false,Bool.false_eq_true,if_false];exact wpAny_pure (h qs _ c2 hS hc2 fun b o hb e=>(s2.2 b hb).trans (hu3 b o hb e))
theorem qqoz{a:Addr}{n:Nat}{vs:List Value}{P:PySem.Fin->Shared->Prop}(ho:s.heap.get? a=some (seqObj "list" vs.toArray n))(h2:vs.length<2)
  (h:∀h' c,h'.get? a=some (seqObj "list" vs.toArray c)->(∀b o,b≠a->s.heap.get? b=some o->h'.get? b=some o)->P (.done (.ret .none)) { s with heap:=h' }):
  wpAny (model prog w) A (Builtin.«list.sort» ⟨[.ref a],[]⟩) P E s:=by
 have s1:=Heap.SameBut.update s.heap a (Obj.mapSeq fun _=>(#[]:Array Value));obtain⟨e1,ho1⟩:∃e1,(s.heap.update a (Obj.mapSeq fun _=>(#[]:Array Value))).get? a=some (seqObj "list" #[] e1):=⟨_,get?_update_seq ho fun _=>#[]⟩;have hu3:∀b o,b≠a->s.heap.get? b=some o->(((s.heap.update a (Obj.mapSeq fun _=>(#[]:Array Value))).push (seqObj "tuple" vs.toArray 0)).push (seqObj "list" #[] 0)).get? b=some o:=fun b o hb e=>
  Heap.get?_push_of_some _ (Heap.get?_push_of_some _ ((s1.2 b hb).trans e))
 have ho3:(((s.heap.update a (Obj.mapSeq fun _=>(#[]:Array Value))).push (seqObj "tuple" vs.toArray 0)).push (seqObj "list" #[] 0)).get? a=some (seqObj "list" #[] e1):=Heap.get?_push_of_some _ (Heap.get?_push_of_some _ ho1);rw[list_sort_plain];refine wpAny_bind (listItems_at ho rfl ?_);refine wpAny_bind (listUpdate_at ho rfl ?_ (by rw[List.size_toArray,sizeLine_eq];lia) (Nat.zero_le _));refine wpAny_bind (seqEpoch_at ho1 rfl ?_);refine wpAny_bind (wpAny_newTuple ?_ (by show vs.length≤_;rw[sizeLine_eq];lia));refine wpAny_bind (wpAny_newList ?_ (Nat.zero_le _));refine wpAny_holding ?_;show wpAny (model prog w) A _ P E { s with heap:=((s.heap.update a (Obj.mapSeq fun _=>(#[]:Array Value))).push (seqObj "tuple" vs.toArray 0)).push (seqObj "list" #[] 0)};generalize ((s.heap.update a (Obj.mapSeq fun _=>(#[]:Array Value))).push (seqObj "tuple" vs.toArray 0)).push (seqObj "list" #[] 0)=h3 at hu3 ho3 ⊢;dsimp only;have hn2:vs.toArray.size<2:=by rw[List.size_toArray];lia
 rw[if_pos hn2,if_pos hn2];refine wpAny_bind (wpAny_pure ?_);rw[StateT.run_pure];refine wpAny_bind (wpAny_pure ?_);dsimp only;have hout:(arrOf (SortSt.mk' general' (vs.toArray.zip vs.toArray) #[] 7 none)).map (·.2)=vs.toArray:=by
  show (vs.toArray.zip vs.toArray).map (·.2)=vs.toArray;refine Array.ext (by simp) fun i h1 h2=>?_;simp
 rw[hout];have s2:=Heap.SameBut.update h3 a (Obj.mapSeq fun _=>vs.toArray);obtain⟨c2,hc2⟩:∃c2,(h3.update a (Obj.mapSeq fun _=>vs.toArray)).get? a=some (seqObj "list" vs.toArray c2):=⟨_,get?_update_seq ho3 fun _=>vs.toArray⟩;refine wpAny_bind (seqEpoch_at ho3 rfl ?_);refine wpAny_bind (listUpdate_at ho3 rfl ?_ (Nat.zero_le _) (by rw[List.size_toArray,sizeLine_eq];lia));simp only[bne_self_eq_false,Bool.false_eq_true,if_false];exact wpAny_pure (h _ c2 hc2 fun b o hb e=>(s2.2 b hb).trans (hu3 b o hb e))
theorem qqpz{h h':Heap}{ks:List Int}{a:Addr}(keep:∀c o,h.get? c=some o->h'.get? c=some o)(hk:IsK prog w h ks a):IsK prog w h' ks a:=by
 obtain⟨o,it,m,ho,r⟩:=hk;exact⟨o,it,m,keep a o ho,r⟩
theorem sorted_of{l:Addr}{ps:List (List Int×Addr)}{Q:Value->Shared->Prop}(hk:∀p∈ps,IsK prog w s.heap p.1 p.2/\p.1≠[])(h64:ps.length<64)
  (hcol:∀(R:List Value->Shared->Prop),(∀s',Moved [] (fun x y=>y=x) s s'->R (ps.map fun p=>Value.ref p.2) s')->wpAny (model prog w) A.in1 (collect (.ref l)) R E s)
  (h:∀qs s' c D,Srt ps qs->s.heap.get? D=none->s'.heap.get? D=some (seqObj "list" (qs.map fun p=>Value.ref p.2).toArray c)->Moved [] (fun x y=>y=x) s s'->Q (.ref D) s'):
  wpAny (model prog w) A (call (.builtin "sorted") [.ref l]) Q E s:=by
 refine Calls.call_function_entry kind_sorted plain_sorted entry_sorted (args_sorted1 _) ?_;unfold Builtin.«sorted»;refine wpAny_bind (m:=checkCount "sorted" 1 1 _) (wpAny_pure ?_);refine wpAny_bind (hcol _ fun s1 hm=>?_);refine wpAny_bind (wpAny_newList ?_ (by rw[List.length_map,sizeLine_eq];lia));have hoL:(s1.heap.push (seqObj "list" (ps.map fun p=>Value.ref p.2).toArray 0)).get? s1.heap.objs.size=some (seqObj "list" (ps.map fun p=>Value.ref p.2).toArray 0):=Heap.get?_push_size _ rfl;have keep0:∀b o,s.heap.get? b=some o->s1.heap.get? b=some o:=fun b o e=>hm.heap b o (fun z=>nomatch z) e;have hfr:s.heap.get? s1.heap.objs.size=none:=by
  cases hz:s.heap.get? s1.heap.objs.size with
  |none=>rfl
  |some o=>exact absurd (Heap.lt_size (keep0 _ _ hz)) (Nat.lt_irrefl _)
 have keep:∀b o,s.heap.get? b=some o->(s1.heap.push (seqObj "list" (ps.map fun p=>Value.ref p.2).toArray 0)).get? b=some o:=fun b o e=>Heap.get?_push_of_some _ (keep0 b o e);show wpAny _ _ _ _ _ { s1 with heap:=s1.heap.push (seqObj "list" (ps.map fun p=>Value.ref p.2).toArray 0)};refine wpAny_bind (wpAny_holding (wpAny_call_entry slot_list_sort ⟨_,hoL,rfl⟩ entry_list_sort ?body (args_list_sort _)));have fin:∀qs h' c,Srt ps qs->h'.get? s1.heap.objs.size=some (seqObj "list" (qs.map fun p=>Value.ref p.2).toArray c)->(∀b o,b≠s1.heap.objs.size->(s1.heap.push (seqObj "list" (ps.map fun p=>Value.ref p.2).toArray 0)).get? b=some o->h'.get? b=some o)->Q (.ref s1.heap.objs.size) { s1 with heap:=h' }:=fun qs h' c hS e kk=>
  h qs _ c _ hS hfr e ⟨fun b o _ e1=>kk b o (Nat.ne_of_lt (Heap.lt_size (keep0 b o e1))) (keep b o e1),hm.gens,hm.drawn,hm.os,hm.toks⟩
 case body=>
  by_cases h2:2≤ps.length
  ·refine qqnz (s:={ s1 with heap:=s1.heap.push (seqObj "list" (ps.map fun p=>Value.ref p.2).toArray 0)}) hoL (fun p hp=>⟨qqpz keep (hk p hp).1,(hk p hp).2⟩) h2 h64 fun qs h' c hS e kk=>?_;exact⟨_,rfl,wpAny_pure ⟨_,rfl,fin qs h' c hS e kk⟩⟩
  ·refine qqoz (s:={ s1 with heap:=s1.heap.push (seqObj "list" (ps.map fun p=>Value.ref p.2).toArray 0)}) hoL (by rw[List.length_map];lia) fun h' c e kk=>?_;have hS:Srt ps ps:=⟨.refl _,by
    rcases ps with _|⟨x,_|⟨y,r⟩⟩
    ·exact .nil
    ·exact List.pairwise_singleton _ _
    ·simp at h2⟩
   exact⟨_,rfl,wpAny_pure ⟨_,rfl,fin ps h' c hS e kk⟩⟩
end
end SortV
namespace L3
open PySem PySem.Spec PyProof.Rows L2
structure Kit(T:String):Prop where
 non:∀K,PySem.W.kitOne K (.type "NoneType") (.type T)=some false
 bl:∀K,PySem.W.kitOne K (.type "bool") (.type T)=some (T=="bool" || T=="int")
 int:∀K,PySem.W.kitOne K (.type "int") (.type T)=some (T=="int")
 str:∀K,PySem.W.kitOne K (.type "str") (.type T)=some (T=="str")
 tup:∀K,PySem.W.kitOne K (.type "tuple") (.type T)=some (T=="tuple")
 lst:∀K,PySem.W.kitOne K (.type "list") (.type T)=some (T=="list")
 dct:∀K,PySem.W.kitOne K (.type "dict") (.type T)=some (T=="dict")
theorem qifz:Kit "int":=⟨fun _=>rfl,fun _=>rfl,fun _=>rfl,fun _=>rfl,fun _=>rfl,fun _=>rfl,fun _=>rfl⟩
theorem qigz:Kit "bool":=⟨fun _=>rfl,fun _=>rfl,fun _=>rfl,fun _=>rfl,fun _=>rfl,fun _=>rfl,fun _=>rfl⟩
theorem kit_tuple:Kit "tuple":=⟨fun _=>rfl,fun _=>rfl,fun _=>rfl,fun _=>rfl,fun _=>rfl,fun _=>rfl,fun _=>rfl⟩
section
variable {X:Cx} {a e:Expr} {es:List Expr} {ta:TE3} {t:TA3} {pos p p2:Pos}
theorem qqqz{T:String}(k:Kit T):CallR X (.builtin "isinstance") (fun vs H Q=>∃d v G b,vs=[v,.ty T]/\Hv X.K H d v/\RepG X.K G H/\instD T G d=some b/\Q (.bl b) H):=by
 intro pins s σ H vs us Q I r h;obtain⟨d,v,G,b,rfl,hd,RG,hb,q⟩:=h;obtain⟨u,c,rfl,ru,rc⟩:=vals2 r;cases (show c=Value.type T from rc);have fin:∀tk,EP X pins σ Q (.bool b) { s with toks:=tk }:=fun tk=>⟨.bl b,H,I.tok tk,rfl,q⟩
 cases d with
 |non=>
  unfold Hv at hd;subst hd;cases (show u=Value.none from ru);cases hb;exact PySem.W.kia_one PySem.W.kitx_none I.kIn True.intro (k.non _) (fun z=>nomatch z) fin
 |bl y=>
  rw[qa7z hd] at ru;cases (show u=Value.bool y from ru);cases hb;exact PySem.W.kia_one PySem.W.kitx_bool I.kIn True.intro (k.bl _) (fun z=>nomatch z) fin
 |int y=>
  rw[qsz hd] at ru;obtain⟨t,rfl⟩:=(show ∃t,u=Value.int y t from ru);cases hb;exact PySem.W.kia_one PySem.W.kitx_int I.kIn True.intro (k.int _) (fun z=>nomatch z) fin
 |str y=>
  unfold Hv at hd;subst hd;obtain⟨t,rfl⟩:=(show ∃t,u=Value.str y t from ru);cases hb;exact PySem.W.kia_one PySem.W.kitx_str I.kIn True.intro (k.str _) (fun z=>nomatch z) fin
 |tup ds=>
  obtain⟨x,xs,rfl,e1,_⟩:=qagz hd;cases (show u=Value.ref x from ru);cases hb;obtain⟨its,_,⟨o,h1,h2,_⟩,_⟩:=I.tuple e1;exact PySem.W.kia_one PySem.W.kitx_tuple I.kIn ⟨o,h1,h2⟩ (k.tup _) (fun z=>nomatch z) fin
 |scr ds=>
  obtain⟨x,xs,rfl,e1,_⟩:=qayz hd;cases (show u=Value.ref x from ru);cases hb;obtain⟨its,_,p1,_⟩:=I.list e1.l;obtain⟨o,h1,h2,_⟩:=p1.isList;exact PySem.W.kia_one PySem.W.kitx_list I.kIn ⟨o,h1,h2⟩ (k.lst _) (fun z=>nomatch z) fin
 |dc x=>
  unfold Hv at hd;obtain⟨rfl,ob,φ,e1,c⟩:=hd;cases (show u=Value.ref x from ru);cases hb;obtain⟨h1,_⟩:=I.hok x _ e1;exact PySem.W.kia_one PySem.W.kitx_dict I.kIn ⟨ob,h1,c⟩ (k.dct _) (fun z=>nomatch z) fin
 |obj x=>
  rw[qpz hd] at ru;cases (show u=Value.ref x from ru);unfold instD at hb;cases hG:G x with
  |none=>simp[hG] at hb
  |some o=>
   have hl:∀xs,H x=some (.lst xs)->∃o,s.heap.get? x=some o/\o.cls=.type "list":=fun xs e=>by
    obtain⟨_,_,n,_,h1⟩:=(show ObjOk X.prog X.w H s.heap x (.lst xs) from I.hok x _ e);exact⟨_,h1,rfl⟩
   cases o with
   |lst ds=>
    simp only[hG] at hb;cases hb;obtain⟨vs,e1,_⟩:=RG x _ hG;obtain⟨o,h1,h2⟩:=hl _ e1;exact PySem.W.kia_one PySem.W.kitx_list I.kIn ⟨o,h1,h2⟩ (k.lst _) (fun z=>nomatch z) fin
   |pen=>
    simp only[hG] at hb;cases hb;obtain⟨_,_,_,e1,_⟩:=RG x _ hG;obtain⟨o,h1,h2⟩:=hl _ e1;exact PySem.W.kia_one PySem.W.kitx_list I.kIn ⟨o,h1,h2⟩ (k.lst _) (fun z=>nomatch z) fin
   |gen R=>simp[hG] at hb
   |dct=>
    simp only[hG] at hb;cases hb;have e1:H x=some (.ext fun h=>∃o,h.get? x=some o/\o.cls=.type "dict"):=RG x _ hG;obtain⟨⟨o,h1,h2⟩,_⟩:=(show ObjOk X.prog X.w H s.heap x _ from I.hok x _ e1);exact PySem.W.kia_one PySem.W.kitx_dict I.kIn ⟨o,h1,h2⟩ (k.dct _) (fun z=>nomatch z) fin
theorem qqrz{T:String}{TS:Str}(k:Kit T)(hv:bootBuiltins TS=some (.type T))(ha:PE3 X a ta)(hm:X.mg "isinstance" = none)(hm2:X.mg TS=none)(hgT:Gl X TS)(hnT:TS≠"__name__")(hdT:(TS==("__debug__":Str))=false)(hg:Gl X "isinstance":=by rfl)
  (he:notStar a=true:=by rfl):
  PE3 X (.Call (.Name "isinstance" p) [a,.Name TS p2] [] pos) (eInst T ta):=
 qoz (qarz (qqqz k) hg hm rfl (qaqz ha (qaqz (qggz (v:=.ty T) hgT hm2 hv rfl hnT hdT) qboz (qjz rfl)) (qjz he)) (he:=qjz he) (hpl:=qvz rfl)) fun σ H Q ⟨τ,G,Q3,RS,RG,h,k⟩=>by
  refine⟨τ,G,_,RS,RG,h,fun v H1 d G1 h1 S1 R1 q1=>?_⟩;cases hb:instD T G1 d with
  |none=>rw[hb] at q1;exact q1.elim
  |some b=>
   rw[hb] at q1;exact⟨d,v,G1,b,rfl,h1,R1,hb,k _ H1 (.bl b) G1 q6z S1 R1 q1⟩
end
def tupI(ns:List Int):D:=.tup (ns.map D.int)
section
variable {P:Program} {w:World} {H:Hp} {h:Heap} {a:Addr} {o:HO}
theorem qqsz(x:ObjOk P w H h a o):∃o,h.get? a=some o:=by
 cases o with
 |lst xs=>obtain⟨_,_,_,_,e⟩:=x;exact⟨_,e⟩
 |tup xs=>obtain⟨_,_,_,o,e,_⟩:=x;exact⟨_,e⟩
 |dK kvs=>obtain⟨_,_,_,_,o,_,_,e,_⟩:=x;exact⟨_,e⟩
 |dT kvs=>obtain⟨_,_,_,_,o,_,_,e,_⟩:=x;exact⟨_,e⟩
 |set S n=>obtain⟨o,_,_,_,e,_⟩:=x;exact⟨_,e⟩
 |ins C dx fs=>obtain⟨_,_,_,e,_⟩:=x;exact⟨_,e⟩
 |own y=>obtain⟨_,e⟩:=x;exact⟨_,e⟩
 |xd fs=>obtain⟨_,⟨_,_,_,e,_⟩,_⟩:=x;exact⟨_,e⟩
 |rng lo hi=>obtain⟨_,_,_,e⟩:=x;exact⟨_,e⟩
 |frz ob u=>obtain⟨e,_⟩:=x;exact⟨_,e⟩
 |tbl ps=>exact⟨_,(show h.get? a=some _ from x)⟩
 |met f y=>exact⟨_,(show h.get? a=some _ from x)⟩
 |ext φ=>obtain⟨_,⟨_,e⟩,_⟩:=x;exact⟨_,e⟩
end
section
variable {X:Cx} {pins:List (Addr×Obj)} {σ:L2.St} {H:Hp} {s:Shared}
theorem Inv.freeN(I:Inv X pins σ H s){a:Addr}(hn:s.heap.get? a=none):H a=none:=by
 cases e:H a with
 |none=>rfl
 |some o=>
  obtain⟨ob,h⟩:=qqsz (I.hok a o e);rw[hn] at h;cases h
theorem Inv.laidN{a:Addr}{o:HO}{t':Nat}{h':Heap}(I:Inv X pins σ H s)(k:∀b u,s.heap.get? b=some u->h'.get? b=some u)(hn:s.heap.get? a=none)(new:ObjOk X.prog X.w (upd H a o) h' a o):
  Inv X pins σ (upd H a o) { s with heap:=h',toks:=t' }:=by
 have hH:=Inv.freeN I hn;have ne:∀b u,s.heap.get? b=some u->b≠a:=fun b u e z=>by rw[z,hn] at e;cases e
 refine I.un ⟨fun b u q _ _ _=>k b u q,fun b u q _ _ _=>⟨u.slots,k b u q⟩,fun b u q n _=>by rw[qfz (ne b u q)];exact n,fun b u q _=>⟨u,k b u q⟩,fun b xs q=>by rw[qfz (qafz q hH)];exact q,
  fun b u xs q=>by rw[qfz (qafz q hH)];exact q,fun b ps q=>⟨#[],by rw[qfz (qafz q hH),q];simp⟩⟩ fun b u e=>?_
 by_cases hb:b=a
 ·subst hb;rw[qnz] at e;cases e;exact new
 ·rw[qfz hb] at e;exact (I.hok b u e).stay (fun c v _ q=>k c v q) (fun c q=>by rw[qfz (qafz q hH)];exact q) fun c xs q=>by rw[qfz (qafz q hH)];exact q
theorem qihz{ns:List Int}:∀{us:List Value},Vals (ns.map V.int) us->ItemsAre (intKind X.prog X.w) ns us:=by
 induction ns with
 |nil=>intro us r;cases r;exact .nil
 |cons n ns ih=>
  intro us r;cases r with
  |cons r1 r2=>
   obtain⟨t,rfl⟩:=(show ∃t,_=Value.int n t from r1);exact .cons (by show Value.isInt n (.int n t)=true;simp[Value.isInt]) (ih r2)
theorem qexz(I:Inv X pins σ H s):∀{nss:List (List Int)} {vs:List V} {us:List Value},Hvs X.K H (nss.map tupI) vs->Vals vs us ->
  ∃ps:List (List Int×Addr),ps.map (·.1)=nss/\vs=ps.map (fun p=>.ref p.2)/\us=ps.map (fun p=>Value.ref p.2)/\∀p∈ps,SqT X.K H p.2 (p.1.map V.int)/\SetM.IsK X.prog X.w s.heap p.1 p.2
 |[],vs,us,h,r=>by
  cases h.inv0;cases r;exact⟨[],rfl,rfl,rfl,fun p hp=>nomatch hp⟩
 |ns::nss,vs,us,h,r=>by
  obtain⟨v,vr,rfl,q1,q2⟩:=h.inv;cases r with
  |cons r1 r2=>
   obtain⟨ps,e1,e2,e3,e4⟩:=qexz I q2 r2;obtain⟨a,ws,rfl,z1,z2⟩:=qagz q1;have hw:ws=ns.map V.int:=by
    refine qbpz z2 ?_;clear z2 z1 q1 h e1 e2 e3 e4 q2 r2 r1
    induction ns with
    |nil=>rfl
    |cons n ns ih=>simp[intsOf,ih]
   subst hw;cases (show _=Value.ref a from r1);obtain⟨its,rv,⟨o,h1,h2,n,h3⟩,_⟩:=I.tuple z1;refine⟨(ns,a)::ps,by simp[e1],by simp[e2],by simp[e3],fun p hp=>?_⟩;rcases List.mem_cons.mp hp with rfl|hp
   ·exact⟨z1,o,its.toArray,n,h1,h2,h3,qihz rv⟩
   ·exact e4 p hp
theorem qeyz{K:PySem.W.Frag}{H:Hp}:∀{qs:List (List Int×Addr)},(∀p∈qs,SqT K H p.2 (p.1.map V.int))->Hvs K H ((qs.map (·.1)).map tupI) (qs.map fun p=>.ref p.2)
 |[],_=>.nil
 |q::qs,h=>.cons (qasz (h q List.mem_cons_self) (Hvs.ints _)) (qeyz fun p hp=>h p (List.mem_cons_of_mem _ hp))
theorem qiiz:∀(qs:List (List Int×Addr)),Vals (qs.map fun p=>V.ref p.2) (qs.map fun p=>Value.ref p.2)
 |[]=>.nil
 |q::qs=>.cons rfl (qiiz qs)
def RiseL(nss:List (List Int)):Prop:=nss.Pairwise fun x y=>SortV.lx y x=false
theorem qijz{Q:VK}(I:Inv X pins σ H s){ps qs:List (List Int×Addr)}{s':Shared}{c:Nat}{D':Addr}(hz:ps.length<64)(hS:SortV.Srt ps qs)(hn:s.heap.get? D'=none)(hD:s'.heap.get? D'=some (seqObj "list" (qs.map fun p=>Value.ref p.2).toArray c))
  (hm:Moved [] (fun x y=>y=x) s s') (q:H D'=none->Q (.ref D') (upd H D' (.lst (qs.map fun p=>.ref p.2)))):EP X pins σ Q (.ref D') s':=by
 have e:s'={ s with heap:=s'.heap,toks:=s'.toks }:=by
  cases s';cases s;have h1:=hm.gens;have h2:=hm.drawn;have h3:=hm.os;simp only at h1 h2 h3;subst h1 h2 h3;rfl
 rw[e];refine⟨.ref D',_,Inv.laidN I (o:=.lst (qs.map fun p=>.ref p.2)) (fun b u z=>hm.heap b u (fun y=>nomatch y) z) hn ?_,rfl,q (Inv.freeN I hn)⟩;refine⟨?_,_,c,qiiz qs,hD⟩;rw[List.length_map,hS.perm.length_eq,sizeLine_eq];lia
theorem qqtz(hc:X.calm=true)(hu:X.A.units+64<cLine):CallR X (.builtin "sorted") (fun vs H Q=>∃(a:Addr) (xs:List V) (nss:List (List Int)),vs=[.ref a]/\SqL X.K H a xs/\Hvs X.K H (nss.map tupI) xs/\nss.length<64/\(∀ns∈nss,ns≠[]) ∧
  ∀(p:Addr) (mss:List (List Int)) (ys:List V),H p=none->mss.Perm nss->RiseL mss->Hvs X.K H (mss.map tupI) ys->Q (.ref p) (upd H p (.lst ys))):=by
 intro pins s σ H vs us Q I r h;obtain⟨a,xs,nss,rfl,hl,hv,hz,hne,q⟩:=h;obtain⟨u,rfl,ru⟩:=vals1 r;cases ru;obtain⟨its,rv,pl,_⟩:=I.list hl;obtain⟨ps,e1,e2,e3,e4⟩:=qexz I hv rv;subst e3;have hlen:ps.length=nss.length:=by rw[←e1,List.length_map]
 refine SortV.sorted_of (ps:=ps) (fun p hp=>⟨(e4 p hp).2,hne _ (by rw[←e1];exact List.mem_map.mpr ⟨p,hp,rfl⟩)⟩) (by lia) (fun R hR=>?_) fun qs s' c D' hS hn hD hm=>?_
 ·refine collect_list pl.isList (hR _ ⟨fun b o _ e=>?_,rfl,rfl,rfl,Nat.le_refl _⟩) (by rw[List.length_map,sizeLine_eq];lia);have hlt:=Heap.lt_size e;show ((s.heap.push (seqObj "list" #[] 0)).update s.heap.objs.size _).get? b=some o;rw[Heap.get?_update_other _ _ (Nat.ne_of_gt hlt)];exact Heap.get?_push_of_some _ e
 ·refine qijz I (by lia) hS hn hD hm fun hf=>?_;refine q _ (qs.map (·.1)) _ hf (by rw[←e1];exact hS.perm.map _) ?_ (qeyz fun p hp=>(e4 p (hS.perm.mem_iff.mp hp)).1);exact List.pairwise_map.mpr hS.rise
end
end L3
namespace L3
open PySem PySem.Spec PyProof.Rows L2
def setφ(P:Program)(w:World)(b:Addr)(zs:List (List Int×Addr)):Heap->Prop:=fun h=>∃o es ep t,h.get? b=some o/\o.ExactSet/\o.data=.set es ep t/\es.toList=zs.map (SetM.ent P w)/\(zs.map (·.1)).Nodup/\t.plain=true ∧
 t.led=(!(w.params.followText "set-order"))/\SetP.Tab t (es.toList.map (·.1))
theorem qquz{α β:Type}{f:α->β}{l l':List β}(h:l.Perm l'):∀{zs:List α},l'=zs.map f->∃zs':List α,zs'.Perm zs/\l=zs'.map f:=by
 induction h with
 |nil=>
  intro zs e;have:zs=[]:=by simpa using e.symm
  subst this;exact⟨[],.nil,rfl⟩
 |cons x _ ih=>
  intro zs e;cases zs with
  |nil=>cases e
  |cons z zs=>
   simp only[List.map_cons,List.cons.injEq] at e;obtain⟨zs',h1,h2⟩:=ih e.2;exact⟨z::zs',h1.cons z,by simp[e.1,h2]⟩
 |swap x y l=>
  intro zs e;rcases zs with _|⟨z,_|⟨z2,zs⟩⟩
  ·cases e
  ·simp at e
  ·simp only[List.map_cons,List.cons.injEq] at e;exact⟨z2::z::zs,.swap _ _ _,by simp[e.1,e.2.1,e.2.2]⟩
 |trans _ _ ih1 ih2=>
  intro zs e;obtain⟨z2,h1,h2⟩:=ih2 e;obtain⟨z1,h3,h4⟩:=ih1 h2;exact⟨z1,h3.trans h1,h4⟩
section
variable {X:Cx}
theorem qqvz(hc:X.calm=true)(hu:X.A.units+64<cLine):CallR X (.type "set") (fun vs H Q=>∃(a:Addr) (xs:List V) (nss:List (List Int)),vs=[.ref a]/\SqL X.K H a xs/\Hvs X.K H (nss.map tupI) xs/\nss.length≤60 ∧
  ∀(b:Addr) (zs:List (List Int×Addr)),H b=none->(∀p∈zs,SqT X.K H p.2 (p.1.map V.int))->(∀ns,ns∈zs.map (·.1)↔ns∈nss)->(zs.map (·.1)).Nodup->zs.length≤nss.length->Q (.ref b) (upd H b (.ext (setφ X.prog X.w b zs)))):=by
 intro pins s σ H vs us Q I r h;obtain⟨a,xs,nss,rfl,hl,hv,hz,q⟩:=h;obtain⟨u,rfl,ru⟩:=vals1 r;cases ru;obtain⟨its,rv,pl,_⟩:=I.list hl;obtain⟨ps,e1,e2,e3,e4⟩:=qexz I hv rv;subst e3;have hlen:ps.length=nss.length:=by rw[←e1,List.length_map]
 refine SetM.call_set_tups (ps:=ps) (I.ok.hd hc) pl.isList rfl (fun p hp=>(e4 p hp).2) (by lia) (by lia) fun h' tk zs kk hS hD=>?_;obtain⟨o,es,ep,t,S,T⟩:=hS;refine⟨.ref s.heap.objs.size,_,I.laid (o:=.ext (setφ X.prog X.w s.heap.objs.size zs)) kk (Nat.le_refl _) ?_,rfl,q _ zs (I.hok.fresh (Nat.le_refl _)) (fun p hp=>(e4 p (hD.sub p hp)).1) (fun ns=>?_) S.nd ?_⟩
 ·refine⟨⟨o,es,ep,t,S.at_,S.ex,S.dat,S.ents,S.nd,S.plain,S.led,T⟩,⟨o,S.at_⟩,fun h1 h2 ⟨o',es',ep',t',y1,y⟩ kk2=>⟨o',es',ep',t',kk2 _ y1,y⟩⟩
 ·rw[←e1];constructor
  ·intro hm;obtain⟨p,hp,rfl⟩:=List.mem_map.mp hm;exact List.mem_map.mpr ⟨p,hD.sub p hp,rfl⟩
  ·intro hm;obtain⟨p,hp,rfl⟩:=List.mem_map.mp hm;exact hD.all p hp
 ·rw[←hlen];exact hD.len
theorem qqwz(hc:X.calm=true)(hu:X.A.units+64<cLine):CallR X (.builtin "sorted") (fun vs H Q=>∃(b:Addr) (zs:List (List Int×Addr)),vs=[.ref b]/\H b=some (.ext (setφ X.prog X.w b zs))/\(∀p∈zs,SqT X.K H p.2 (p.1.map V.int))/\zs.length≤60/\(∀p∈zs,p.1≠[]) ∧
  ∀(p:Addr) (mss:List (List Int)) (ys:List V),H p=none->mss.Perm (zs.map (·.1))->RiseL mss->Hvs X.K H (mss.map tupI) ys->Q (.ref p) (upd H p (.lst ys))):=by
 intro pins s σ H vs us Q I r h;obtain⟨b,zs,rfl,hb,hk,hz,hne,q⟩:=h;obtain⟨u,rfl,ru⟩:=vals1 r;cases ru;obtain⟨⟨o,es,ep,t,y1,y2,y3,y4,y5,y6,y7,T⟩,_⟩:=(show ObjOk X.prog X.w H s.heap b _ from I.hok b _ hb);have hK:∀p∈zs,SetM.IsK X.prog X.w s.heap p.1 p.2:=fun p hp=>by
  obtain⟨its,rv,⟨o,h1,h2,n,h3⟩,_⟩:=I.tuple (hk p hp);exact⟨o,its.toArray,n,h1,h2,h3,qihz rv⟩
 have S:SetM.SetAt X.prog X.w s.heap b o es ep t zs:=⟨y1,y2,y3,y4,hK,y5,y6,y7⟩;obtain⟨zs',p1,p2⟩:=qquz (SetM.walkL_perm X.w b ep es) y4;have hsz:es.size=zs.length:=by
  have:es.toList.length=zs.length:=by rw[y4,List.length_map]
  simpa using this
 refine SortV.sorted_of (ps:=zs') (fun p hp=>⟨hK p (p1.mem_iff.mp hp),hne p (p1.mem_iff.mp hp)⟩) (by rw[p1.length_eq];lia) (fun R hR=>?_) fun qs s' c D' hS hn hD hm=>?_
 ·refine SetM.wp_collect_set (by have:=I.ok.hd hc;simpa using this) S T (by lia) fun s' hm=>?_;have:=hR s' hm;rw[p2,List.map_map];exact this
 ·refine qijz I (by rw[p1.length_eq];lia) hS hn hD hm fun hf=>?_;refine q _ (qs.map (·.1)) _ hf ((hS.perm.map _).trans (p1.map _)) ?_ (qeyz fun p hp=>hk p (p1.mem_iff.mp (hS.perm.mem_iff.mp hp)));exact List.pairwise_map.mpr hS.rise
end
section
variable {X:Cx} {K:PySem.W.Frag} {e:Expr} {es:List Expr} {t:TA3} {ta:TE3} {pos p p' pos':Pos}
def qbdz:C3:=fun ds G Q=>match ds with
 |[.obj a]=>∃nss:List (List Int),G a=some (.lst (nss.map tupI))/\nss.length<64/\(∀ns∈nss,ns≠[])/\∀(p:Addr) (mss:List (List Int)) (G':Gp),New G p (.lst (mss.map tupI)) G'->mss.Perm nss->RiseL mss->Q (.obj p) G'
 |_=>False
theorem qqxz:LowC K qbdz (fun vs H Q=>∃(a:Addr) (xs:List V) (nss:List (List Int)),vs=[.ref a]/\SqL K H a xs/\Hvs K H (nss.map tupI) xs/\nss.length<64/\(∀ns∈nss,ns≠[]) ∧
  ∀(p:Addr) (mss:List (List Int)) (ys:List V),H p=none->mss.Perm nss->RiseL mss->Hvs K H (mss.map tupI) ys->Q (.ref p) (upd H p (.lst ys))):=fun ds vs G H Q3 Q h RG q k=>by
 rcases ds with _|⟨d,_|⟨d2,ds⟩⟩
 ·exact q.elim
 ·obtain⟨v,rfl,hv⟩:=hvs1 h;cases d with
  |obj a=>
   obtain⟨nss,e1,hz,hne,q⟩:=q;obtain⟨xs,e2,e3⟩:=RG a _ e1;rw[qpz hv];exact⟨a,xs,nss,rfl,.of e2,e3,hz,hne,fun p mss ys hp h1 h2 h3=>k _ _ (.obj p) _ qa8z (.laidG hp) (RG.newL hp h3) (q p mss _ (.mk' (RG.free hp)) h1 h2)⟩
  |_=>exact q.elim
 ·cases d<;>exact q.elim
theorem qqyz(hu:X.A.units+64<cLine)(hm:X.mg "sorted" = none)(ha:PA3 X (e::es) t)(hc:X.calm=true:=by rfl)(hg:Gl X "sorted":=by rfl)(he:notStar e=true:=by rfl)(hpl:es.all notStar=true:=by rfl):
  PE3 X (.Call (.Name "sorted" p) (e::es) [] pos) (eCB qbdz t):=e_cb qqxz (qarz (qqtz hc hu) hg hm rfl ha (he:=qjz he) (hpl:=qvz hpl))
def eSortSet(ta:TE3):TE3:=fun τ G Q=>ta τ G fun x G1=>match x with
 |.obj a=>∃nss:List (List Int),G1 a=some (.lst (nss.map tupI))/\nss.length≤60/\(∀ns∈nss,ns≠[])/\∀(p:Addr) (mss:List (List Int)) (G':Gp),New G1 p (.lst (mss.map tupI)) G'->(∀ns,ns∈mss↔ns∈nss)->mss.Nodup->RiseL mss->mss.length≤nss.length->Q (.obj p) G'
 |_=>False
theorem qqzz(hu:X.A.units+64<cLine)(ha:PE3 X e ta)(hm:X.mg "sorted" = none)(hm2:X.mg "set" = none)(hc:X.calm=true:=by rfl)(hg:Gl X "sorted":=by rfl)(hg2:Gl X "set":=by rfl)(he2:notStar e=true:=by rfl):
  PE3 X (.Call (.Name "sorted" p) [.Call (.Name "set" p') [e] [] pos'] [] pos) (eSortSet ta):=
 qoz (qarz (qqwz hc hu) hg hm rfl (qaqz (qc5z (qqvz hc hu) hg2 hm2 rfl (qaqz ha qboz (qjz he2)) (he:=qjz he2) (hpl:=qvz rfl)) qboz (qjz rfl)) (he:=qjz rfl) (hpl:=qvz rfl)) fun σ H Q ⟨τ,G,Q3,RS,RG,h,k⟩=>by
  refine⟨τ,G,_,RS,RG,h,fun v H1 d G1 h1 S1 R1 q1=>?_⟩;cases d with
  |obj a=>
   obtain⟨nss,e1,hz,hne,q⟩:=q1;obtain⟨xs,e2,e3⟩:=R1 a _ e1;rw[qpz h1];refine⟨a,xs,nss,rfl,.of e2,e3,hz,fun b zs hb hk hmem hnd hlen=>?_⟩;have E2:Ext H1 (upd H1 b (.ext (setφ X.prog X.w b zs))):=.laid hb;refine⟨b,zs,rfl,qnz,fun p hp=>SqT.ext E2 (hk p hp),by lia,fun p hp=>hne _ ((hmem _).mp (List.mem_map.mpr ⟨p,hp,rfl⟩)),fun p mss ys hp hpm hr hv=>?_⟩;have R2:RepG X.K G1 (upd H1 b (.ext (setφ X.prog X.w b zs))):=R1.laid hb;refine k _ _ (.obj p) _ qa8z ((S1.trans (.laid hb)).trans (.laidG hp)) (R2.newL hp hv) (q p mss _ (.mk' (R2.free hp)) (fun ns=>?_) ?_ hr ?_)
   ·rw[hpm.mem_iff];exact hmem ns
   ·exact hpm.nodup_iff.mpr hnd
   ·rw[hpm.length_eq,List.length_map];exact hlen
  |_=>exact q1.elim
def blsOf:List D->Option (List Bool)
 |[]=>some []
 |.bl b::r=>(blsOf r).map (b::·)
 |_::_=>none
theorem qdoz{H:Hp}:∀{ds:List D} {vs:List V} {bs:List Bool},Hvs K H ds vs->blsOf ds=some bs->vs=bs.map V.bl
 |[],vs,ns,h,e=>by
  cases e;exact h.inv0
 |d::ds,vs,ns,h,e=>by
  cases d with
  |bl i=>
   obtain⟨v,r,rfl,z1,z2⟩:=h.inv;unfold blsOf at e;cases hm:blsOf ds with
   |none=>rw[hm] at e;cases e
   |some ms=>
    rw[hm] at e;cases e;rw[qa7z z1,qdoz z2 hm];rfl
  |_=>cases e
theorem qikz:∀{bs:List Bool} {us:List Value},Vals (bs.map V.bl) us->us=bs.map Value.bool
 |[],_,.nil=>rfl
 |b::bs,_,.cons r rr=>by
  rw[(show _=Value.bool b from r),qikz rr];rfl
theorem range_all(bs:List Bool):(List.range bs.length).all (fun i=>bs.getD i false)=bs.all id:=by
 rw[Bool.eq_iff_iff];simp only[List.all_eq_true,List.mem_range,id_eq];constructor
 ·intro h b hb;obtain⟨i,hi,rfl⟩:=List.mem_iff_getElem.mp hb;have:=h i hi;simpa [List.getD,hi] using this
 ·intro h i hi;have:=h bs[i] (List.getElem_mem hi);simpa [List.getD,hi] using this
theorem qq0z(hc:X.calm=true){pins:List (Addr×Obj)}{s:Shared}{σ:L2.St}{H:Hp}{a:Addr}{xs:List V}{E:Value->Shared->Prop}(I:Inv X pins σ H s)(hl:SqL X.K H a xs){Q:Value->Shared->Prop}
  (q:∀(its:List Value) (I':Addr),Vals xs its->WalksS X.prog X.w X.A.in1 I' [I',a] [I'] (fun x y=>y=x) its.length (fun i v=>its[i]?=some v) (fun i s=>s.heap.IsListIter I' a i/\s.heap.IsList a its.toArray) ->
   (s.heap.push { cls:=.type "list_iterator",data:=.fields #[.ref a,.int 0 0]}).IsListIter I' a 0->(s.heap.push { cls:=.type "list_iterator",data:=.fields #[.ref a,.int 0 0]}).IsList a its.toArray ->
   (∀b∈[I',a],b<(s.heap.push { cls:=.type "list_iterator",data:=.fields #[.ref a,.int 0 0]}).objs.size) ->
   (∀s',Moved [I'] (fun x y=>y=x) { s with heap:=s.heap.push { cls:=.type "list_iterator",data:=.fields #[.ref a,.int 0 0]}} s'->Inv X pins σ H s')->Q (.ref I') { s with heap:=s.heap.push { cls:=.type "list_iterator",data:=.fields #[.ref a,.int 0 0]}}):
  wpAny (model X.prog X.w) X.A.in1 (pyIter (.ref a)) Q E s:=by
 obtain⟨its,rv,pl,_⟩:=I.list hl;have hla:a<s.heap.objs.size:=by
  obtain⟨o,h1,_⟩:=pl.isList;exact Heap.lt_size h1
 refine wpAny_pyIter_list pl.isList ?_;have hW:=(Walks.list (prog:=X.prog) (w:=X.w) (A:=X.A.in1) (by have:=I.ok.hd hc;simpa using this) s.heap.objs.size a (Nat.ne_of_lt hla) its.toArray).toS;refine q its s.heap.objs.size rv (by simpa using hW) ⟨_,Heap.get?_push_size _ rfl,rfl,rfl⟩ ?_ ?_ fun s' hm=>?_
 ·obtain⟨o,h1,h2⟩:=pl.isList;exact⟨o,Heap.get?_push_of_some _ h1,h2⟩
 ·intro b hb;rw[size_push'];rcases List.mem_cons.mp hb with e|e
  ·rw[e];exact Nat.lt_succ_self _
  ·have:b=a:=by simpa using e
   rw[this];exact Nat.lt_succ_of_lt hla
 ·have e:s'={ s with heap:=s'.heap,toks:=s'.toks }:=by
   cases s';cases s;have h1:=hm.gens;have h2:=hm.drawn;have h3:=hm.os;simp only at h1 h2 h3;subst h1 h2 h3;rfl
  rw[e];exact I.kept fun b u z=>hm.heap b u (fun y=>by
   have:b=s.heap.objs.size:=by simpa using y
   exact absurd (this▸Heap.lt_size z) (Nat.lt_irrefl _)) (Heap.get?_push_of_some _ z)
theorem qq1z(hc:X.calm=true):CallR X (.builtin "all") (fun vs H Q=>∃(a:Addr) (bs:List Bool),vs=[.ref a]/\SqL X.K H a (bs.map V.bl)/\Q (.bl (bs.all id)) H):=by
 intro pins s σ H vs us Q I r h;obtain⟨a,bs,rfl,hl,q⟩:=h;obtain⟨u,rfl,ru⟩:=vals1 r;cases ru;refine call_all_walkS (qq0z hc I hl fun its I' rv W h1 h2 h3 back=>⟨I',_,_,_,_,_,_,fun i=>bs.getD i false,rfl,W,⟨h1,h2⟩,?_,fun s' hm=>?_⟩)
 ·intro i v s' Q' E' hv hq;have hx:=qikz rv;subst hx;rw[List.getElem?_map] at hv;cases hb:bs[i]? with
  |none=>rw[hb] at hv;cases hv
  |some b=>
   rw[hb] at hv;cases hv;have:bs.getD i false=b:=by simp[List.getD,hb]
   dsimp only at hq;rw[this] at hq;exact wpAny_truthy_bool hq
 ·have:its.length=bs.length:=by rw[←rv.length,List.length_map]
  rw[this,range_all];exact⟨.bl (bs.all id),H,back s' hm,rfl,q⟩
def qcjz:C3:=fun ds G Q=>match ds with
 |[.obj a]=>∃xs bs,G a=some (.lst xs)/\blsOf xs=some bs/\Q (.bl (bs.all id)) G
 |_=>False
theorem qq2z:LowC K qcjz (fun vs H Q=>∃(a:Addr) (bs:List Bool),vs=[.ref a]/\SqL K H a (bs.map V.bl)/\Q (.bl (bs.all id)) H):=fun ds vs G H Q3 Q h RG q k=>by
 rcases ds with _|⟨d,_|⟨d2,ds⟩⟩
 ·exact q.elim
 ·obtain⟨v,rfl,hv⟩:=hvs1 h;cases d with
  |obj a=>
   obtain⟨xs,bs,e1,e2,q⟩:=q;obtain⟨ys,e3,e4⟩:=RG a _ e1;rw[qpz hv];rw[qdoz e4 e2] at e3;exact⟨a,bs,rfl,.of e3,k _ H _ G q6z (.refl H G) RG q⟩
  |_=>exact q.elim
 ·cases d<;>exact q.elim
theorem qq3z(hu:X.A.units+64<cLine)(hm:X.mg "all" = none)(ha:PA3 X (e::es) t)(hc:X.calm=true:=by rfl)(hg:Gl X "all":=by rfl)(he:notStar e=true:=by rfl)(hpl:es.all notStar=true:=by rfl):
  PE3 X (.Call (.Name "all" p) (e::es) [] pos) (eCB qcjz t):=e_cb qq2z (qarz (qq1z hc) hg hm rfl ha (he:=qjz he) (hpl:=qvz hpl))
end
end L3
namespace L3
open PySem PySem.Spec PyProof.Rows L2
section
variable {prog:Program} {w:World} {A:Around} {E:Value->Shared->Prop} {s:Shared}
theorem qq4z(lo hi i:Int):(Builtin.Range.rangePlace? lo hi 1 i).isSome=(decide (lo≤i)&&decide (i<hi)):=by
 unfold Builtin.Range.rangePlace?;dsimp only;rw[if_pos (c:=(1:Int) > 0) (by decide),Int.emod_one];cases (decide (lo≤i)&&decide (i<hi))<;>rfl
theorem qilz{r:Addr}{lo hi i:Int}{t u v tk:Tok}{Q:Bool->Shared->Prop}(hr:s.heap.get? r=some { cls:=.type "range",data:=.fields #[.int lo t,.int hi u,.int 1 v]})(h:Q (decide (lo≤i)&&decide (i<hi)) s):
  wpAny (model prog w) A (contains (.ref r) (.int i tk)) Q E s:=by
 have hT:s.TypeIs (.ref r) "range":=⟨_,hr,rfl⟩;refine wpAny_contains_slot hT PySem.F.slot_range_contains (wpAny_call_entry PySem.F.slot_range_contains hT PySem.F.entry_range_contains ?_ (PySem.F.args_range_contains_2 _ _));show wpAny _ _ (Builtin.Range.rangeFields (.ref r) >>= _) _ _ s;unfold Builtin.Range.rangeFields;refine wpAny_bind (wpAny_bind (wpAny_field hr rfl (x:=.int lo t) rfl (wpAny_bind (wpAny_pure (wpAny_bind (wpAny_field hr rfl (x:=.int hi u) rfl (wpAny_bind (wpAny_pure (wpAny_bind (wpAny_field hr rfl (x:=.int 1 v) rfl (wpAny_bind (wpAny_pure (wpAny_pure ?_)))))))))))));show wpAny _ _ (pure (Fin.done (Flow.ret (Value.bool (Builtin.Range.rangePlace? lo hi 1 i).isSome)))) _ _ s;rw[qq4z];exact wpAny_pure ⟨_,rfl,wpAny_truthy_bool h⟩
end
section
variable {X:Cx} {a b c:Expr} {ta:TE} {tb:TA} {op:CmpOp} {p pos pos':Pos}
def inB(neg:Bool)(lo hi i:Int):Bool:=if neg then !(decide (lo≤i)&&decide (i<hi)) else (decide (lo≤i)&&decide (i<hi))
def tInR1(neg:Bool)(ta:TE)(tb:TA):TE:=fun σ H Q=>ta σ H fun x H1=>tb σ H1 fun vs H2=>∃i hi,x=.int i/\vs=[.int hi]/\Q (.bl (inB neg 0 hi i)) H2
def tInR2(neg:Bool)(ta:TE)(tb:TA):TE:=fun σ H Q=>ta σ H fun x H1=>tb σ H1 fun vs H2=>∃i lo hi,x=.int i/\vs=[.int lo,.int hi]/\Q (.bl (inB neg lo hi i)) H2
def opR(neg:Bool):CmpOp:=if neg then .NotIn else .In
theorem qq5z{pins:List (Addr×Obj)}{s:Shared}{σ:L2.St}{H:Hp}{Q:VK}{i lo hi:Int}{t u v tk:Tok}{tks:Nat}(I:L2.Inv X pins σ H s)(q:Q (.bl (decide (lo≤i)&&decide (i<hi))) H):
  wpAny (model X.prog X.w) X.A (compareOp .In (.int i tk) (.ref s.heap.objs.size)) (EP X pins σ Q) X.xe { s with heap:=s.heap.push { cls:=.type "range",data:=.fields #[.int lo t,.int hi u,.int 1 v]},toks:=tks }:=by
 show wpAny _ _ (contains (.ref s.heap.objs.size) (.int i tk) >>= fun b=>pure (Value.bool b)) _ _ _;refine wpAny_bind (qilz (Heap.get?_push_size _ rfl) (wpAny_pure ⟨.bl _,H,I.kept fun b ob q=>Heap.get?_push_of_some _ q,rfl,q⟩))
theorem qq6z{pins:List (Addr×Obj)}{s:Shared}{σ:L2.St}{H:Hp}{Q:VK}{i lo hi:Int}{t u v tk:Tok}{tks:Nat}(I:L2.Inv X pins σ H s)(q:Q (.bl (!(decide (lo≤i)&&decide (i<hi)))) H):
  wpAny (model X.prog X.w) X.A (compareOp .NotIn (.int i tk) (.ref s.heap.objs.size)) (EP X pins σ Q) X.xe { s with heap:=s.heap.push { cls:=.type "range",data:=.fields #[.int lo t,.int hi u,.int 1 v]},toks:=tks }:=by
 show wpAny _ _ (contains (.ref s.heap.objs.size) (.int i tk) >>= fun b=>pure (Value.bool (!b))) _ _ _;refine wpAny_bind (qilz (Heap.get?_push_size _ rfl) (wpAny_pure ⟨.bl _,H,I.kept fun b ob q=>Heap.get?_push_of_some _ q,rfl,q⟩))
theorem qimz{neg:Bool}{pins:List (Addr×Obj)}{s:Shared}{σ:L2.St}{H:Hp}{Q:VK}{i lo hi:Int}{t u v tk:Tok}{tks:Nat}(I:L2.Inv X pins σ H s)(q:Q (.bl (inB neg lo hi i)) H):
  wpAny (model X.prog X.w) X.A (compareOp (opR neg) (.int i tk) (.ref s.heap.objs.size)) (EP X pins σ Q) X.xe { s with heap:=s.heap.push { cls:=.type "range",data:=.fields #[.int lo t,.int hi u,.int 1 v]},toks:=tks }:=by
 cases neg with
 |false=>exact qq5z I q
 |true=>exact qq6z I q
theorem qq7z{neg:Bool}(hg:Gl X "range")(hm:X.mg "range" = none)(ha:PE X a ta)(hb:PA X [b] tb)(hs:starEach [b] X.env=[(false,eval b X.env)]):PC X (opR neg) a (.Call (.Name "range" p) [b] [] pos) (tInR1 neg ta tb):=by
 intro pins s σ H Q I h;refine thn (ha pins s σ H _ I h) fun v s1 ⟨x,H1,I1,r1,q1⟩=>?_;refine Call_ (qawz I1 hg hm boot_range (PyProof.Rows.callWith_type1 (thn (hb pos pins s1 σ H1 _ I1 q1) fun us s2 ⟨vs,H2,I2,r2,q2⟩=>?_) hs rfl));obtain⟨i,hi,rfl,rfl,q⟩:=q2;obtain⟨tk,rfl⟩:=r1;cases r2 with
 |cons r rr=>
  cases rr;obtain⟨t,rfl⟩:=r;exact call_range_1 (qimz I2 q)
theorem qq8z{neg:Bool}(hg:Gl X "range")(hm:X.mg "range" = none)(ha:PE X a ta)(hb:PA X [b,c] tb)(hs:starEach [b,c] X.env=[(false,eval b X.env),(false,eval c X.env)])(hs2:starEach [c] X.env=[(false,eval c X.env)]):PC X (opR neg) a (.Call (.Name "range" p) [b,c] [] pos) (tInR2 neg ta tb):=by
 intro pins s σ H Q I h;refine thn (ha pins s σ H _ I h) fun v s1 ⟨x,H1,I1,r1,q1⟩=>?_;refine Call_ (qawz I1 hg hm boot_range (PyProof.Rows.callWith_type1 (thn (hb pos pins s1 σ H1 _ I1 q1) fun us s2 ⟨vs,H2,I2,r2,q2⟩=>?_) (by rw[hs,hs2]) (by rw[hs2];rfl)));obtain⟨i,lo,hi,rfl,rfl,q⟩:=q2;obtain⟨tk,rfl⟩:=r1;cases r2 with
 |cons r rr=>
  cases rr with
  |cons r' rr=>
   cases rr;obtain⟨t,rfl⟩:=r;obtain⟨t',rfl⟩:=r';exact call_range_2 (qimz I2 q)
end
section
variable {X:Cx} {a b c:Expr} {ta:TE3} {tb:TA3} {p pos pos':Pos}
def eInRng1(neg:Bool)(ta:TE3)(tb:TA3):TE3:=fun τ G Q=>ta τ G fun x G1=>tb τ G1 fun ds G2=>match x,ds with
 |.int i,[.int hi]=>Q (.bl (inB neg 0 hi i)) G2
 |_,_=>False
def eInRng2(neg:Bool)(ta:TE3)(tb:TA3):TE3:=fun τ G Q=>ta τ G fun x G1=>tb τ G1 fun ds G2=>match x,ds with
 |.int i,[.int lo,.int hi]=>Q (.bl (inB neg lo hi i)) G2
 |_,_=>False
theorem qq9z{neg:Bool}{σ:L2.St}{H:Hp}{Q:VK}(h:low X.K (eInRng1 neg ta tb) σ H Q):tInR1 neg (low X.K ta) (lowA X.K tb) σ H Q:=by
 obtain⟨τ,G,Q3,RS,RG,h,k⟩:=h;refine⟨τ,G,_,RS,RG,h,fun v1 H1 d1 G1 h1 S1 R1 q1=>?_⟩;refine⟨τ,G1,_,RS.ext (S1.ext RG),R1,q1,fun vs H2 ds G2 h2 S2 R2 q2=>?_⟩;rcases ds with _|⟨d,_|⟨d2,ds⟩⟩
 ·cases d1<;>exact q2.elim
 ·cases d1 with
  |int i=>
   cases d with
   |int j=>
    obtain⟨v,r,rfl,z1,z2⟩:=h2.inv;cases z2.inv0;unfold Hv at z1 h1;exact⟨i,j,h1,by rw[z1],k _ _ _ _ q6z (S1.trans S2) R2 q2⟩
   |_=>exact q2.elim
  |_=>exact q2.elim
 ·cases d1 with
  |int i=>cases d<;>exact q2.elim
  |_=>exact q2.elim
theorem qraz{neg:Bool}{σ:L2.St}{H:Hp}{Q:VK}(h:low X.K (eInRng2 neg ta tb) σ H Q):tInR2 neg (low X.K ta) (lowA X.K tb) σ H Q:=by
 obtain⟨τ,G,Q3,RS,RG,h,k⟩:=h;refine⟨τ,G,_,RS,RG,h,fun v1 H1 d1 G1 h1 S1 R1 q1=>?_⟩;refine⟨τ,G1,_,RS.ext (S1.ext RG),R1,q1,fun vs H2 ds G2 h2 S2 R2 q2=>?_⟩;rcases ds with _|⟨d,_|⟨d2,_|⟨d3,ds⟩⟩⟩
 ·cases d1<;>exact q2.elim
 ·cases d1 with
  |int i=>cases d<;>exact q2.elim
  |_=>exact q2.elim
 ·cases d1 with
  |int i=>
   cases d with
   |int lo=>
    cases d2 with
    |int hi=>
     obtain⟨v,r,rfl,z1,z2⟩:=h2.inv;obtain⟨v',r',rfl,z3,z4⟩:=z2.inv;cases z4.inv0;unfold Hv at z1 z3 h1;exact⟨i,lo,hi,h1,by rw[z1,z3],k _ _ _ _ q6z (S1.trans S2) R2 q2⟩
    |_=>exact q2.elim
   |_=>exact q2.elim
  |_=>exact q2.elim
 ·cases d1 with
  |int i=>
   cases d with
   |int lo=>cases d2<;>exact q2.elim
   |_=>exact q2.elim
  |_=>exact q2.elim
theorem qrbz(ha:PE3 X a ta)(hm:X.mg "range" = none)(hb:PA3 X [b] tb)(hg:Gl X "range":=by rfl)(hs:notStar b=true:=by rfl):PE3 X (.Compare a [.In] [.Call (.Name "range" p) [b] [] pos'] pos) (eInRng1 false ta tb):=
 qoz (qghz (op:=.In) (qq7z (neg:=false) hg hm ha hb (qjz hs)) rfl) fun _ _ _ h=>qq9z h
theorem qrcz(ha:PE3 X a ta)(hm:X.mg "range" = none)(hb:PA3 X [b,c] tb)(hg:Gl X "range":=by rfl)(hs:notStar b=true:=by rfl)(hs2:notStar c=true:=by rfl):PE3 X (.Compare a [.In] [.Call (.Name "range" p) [b,c] [] pos'] pos) (eInRng2 false ta tb):=
 qoz (qghz (op:=.In) (qq8z (neg:=false) hg hm ha hb (by rw[qjz hs,qjz hs2];rfl) (qjz hs2)) rfl) fun _ _ _ h=>qraz h
end
end L3
namespace L3
open PySem PySem.Spec PyProof.Rows L2
open Sem (wp)
def Ik(k:Bool)(h:Heap)(jt a:Addr)(i:Nat):Prop:=match k with
 |true=>h.IsListIter jt a i
 |false=>h.IsTupleIter jt a i
def Sk(k:Bool)(h:Heap)(a:Addr)(xs:Array Value):Prop:=match k with
 |true=>h.IsList a xs
 |false=>h.IsTuple a xs
theorem Ik.of{k:Bool}{h h':Heap}{jt a:Addr}{i:Nat}(x:Ik k h jt a i)(f:∀o,h.get? jt=some o->h'.get? jt=some o):Ik k h' jt a i:=by
 cases k<;>(obtain⟨o,e,r⟩:=x;exact⟨o,f o e,r⟩)
theorem Sk.of{k:Bool}{h h':Heap}{a:Addr}{xs:Array Value}(x:Sk k h a xs)(f:∀o,h.get? a=some o->h'.get? a=some o):Sk k h' a xs:=by
 cases k<;>(obtain⟨o,e,r⟩:=x;exact⟨o,f o e,r⟩)
theorem Ik.obj{k:Bool}{h:Heap}{jt a:Addr}{i:Nat}(x:Ik k h jt a i):∃o,h.get? jt=some o/\∀v,o.data≠.cell v:=by
 cases k<;>(obtain⟨o,e,c,d⟩:=x;exact⟨o,e,fun v z=>by rw[d] at z;cases z⟩)
section
variable {P:Program} {w:World} {A:Around} {E:Value->Shared->Prop} {s:Shared}
theorem nextK{k:Bool}{jt a:Addr}{i:Nat}{xs:Array Value}{u:Value}{Q:Value->Shared->Prop}(hi:Ik k s.heap jt a i)(ha:Sk k s.heap a xs)(hx:xs[i]?=some u)
  (q:∀h',Ik k h' jt a (i+1)->Heap.SameBut jt s.heap h'->Q u { s with heap:=h' }):wpAny (model P w) A (Builtin.SmallTypes.nextOf (.ref jt)) Q E s:=by
 cases k with
 |true=>exact wpAny_nextOf_list_item hi ha hx q
 |false=>
  have hi:s.heap.IsTupleIter jt a i:=hi;obtain⟨o,e1,c1,d1⟩:=id hi;obtain⟨oa,e2,c2,n2,d2⟩:=(show s.heap.IsTuple a xs from ha);unfold Builtin.SmallTypes.nextOf;refine wpAny_bind (wpAny_callSpecial?_slot (name:=Str.ofString "__next__") hi.typeIs F.slot_tuple_iterator_next (wpAny_call_entry F.slot_tuple_iterator_next hi.typeIs F.entry_tuple_iterator_next ?_ (F.args_tuple_iterator_next_1 _)));show wpAny _ _ (field (.ref jt) 0 >>= _) _ _ s;refine wpAny_bind (wpAny_field e1 d1 (x:=.ref a) rfl ?_);show wpAny _ _ (if (Value.ref a==Value.none)=true then _ else _) _ _ s;rw[if_neg (show ¬((Value.ref a==Value.none)=true) from Bool.false_ne_true)];show wpAny _ _ (field (.ref jt) 1 >>= _) _ _ s;refine wpAny_bind (wpAny_field e1 d1 (x:=.int i 0) rfl ?_);show wpAny _ _ (seqItems? (.ref a) >>= _) _ _ s;refine wpAny_bind (wpAny_seqItems e2 d2 ?_);simp only[hx,Int.toNat_natCast];refine wpAny_bind (wpAny_setField e1 d1 (by simp) (wpAny_pure ⟨u,rfl,wpAny_pure (q _ ?_ (Heap.SameBut.update ..))⟩));exact⟨_,Heap.get?_update_self _ e1 (Obj.isFreed_of_fields (Obj.data_mapFields d1 _)),(Obj.cls_mapFields ..).trans c1,by rw[Obj.data_mapFields d1];simp[rawInt]⟩
theorem qinz{k:Bool}{jt a:Addr}{i:Nat}{xs:Array Value}{Q:Value->Shared->Prop}(hh:A.handled=none)(hi:Ik k s.heap jt a i)(ha:Sk k s.heap a xs)(hx:xs[i]?=none)
  (q:∀h' e,Heap.ExtBut jt s.heap h'->(∃o,h'.get? e=some o/\o.cls=.type "StopIteration")->E (.ref e) { s with heap:=h' }):wpAny (model P w) A (Builtin.SmallTypes.nextOf (.ref jt)) Q E s:=by
 cases k with
 |true=>exact wpAny_nextOf_list_end hh hi ha hx q
 |false=>
  have hi:s.heap.IsTupleIter jt a i:=hi;obtain⟨o,e1,c1,d1⟩:=id hi;obtain⟨oa,e2,c2,n2,d2⟩:=(show s.heap.IsTuple a xs from ha);unfold Builtin.SmallTypes.nextOf;refine wpAny_bind (wpAny_callSpecial?_slot (name:=Str.ofString "__next__") hi.typeIs F.slot_tuple_iterator_next (wpAny_call_entry F.slot_tuple_iterator_next hi.typeIs F.entry_tuple_iterator_next ?_ (F.args_tuple_iterator_next_1 _)));show wpAny _ _ (field (.ref jt) 0 >>= _) _ _ s;refine wpAny_bind (wpAny_field e1 d1 (x:=.ref a) rfl ?_);show wpAny _ _ (if (Value.ref a==Value.none)=true then _ else _) _ _ s;rw[if_neg (show ¬((Value.ref a==Value.none)=true) from Bool.false_ne_true)];show wpAny _ _ (field (.ref jt) 1 >>= _) _ _ s;refine wpAny_bind (wpAny_field e1 d1 (x:=.int i 0) rfl ?_);show wpAny _ _ (seqItems? (.ref a) >>= _) _ _ s;refine wpAny_bind (wpAny_seqItems e2 d2 ?_);simp only[hx,Int.toNat_natCast];refine wpAny_bind (wpAny_rule (wpAny_bind (wpAny_setField e1 d1 (by simp) ?_)));show wpAny _ _ (newExc (.type "StopIteration") [] >>= _) _ _ ({ s with heap:=_ }:Shared);refine wpAny_bind ?_;simp only[newTuple,newExc];refine wpAny_bind (wpAny_newObj_type ?_ (by size_fits));refine wpAny_bind (m:=firstArgMember _ _) (wpAny_of_eq (a:=Value.none) (by first|(simp only[firstArgMember];rfl)|rfl) ?_)
  refine wpAny_newObj_type ?_ (by size_fits);simp only[raiseNew];refine wpAny_bind (wpAny_handled ?_)
  first|rw[hh]|rw[show A.in1.handled=none from hh]
  refine wpAny_bind (wpAny_pure (wpAny_throw ?_));exact q _ _ (((Heap.SameBut.update ..).extBut.push _).push _) ⟨_,Heap.get?_push_size _ rfl,rfl⟩
end
end L3
namespace L3
open PySem PySem.Spec PyProof.Rows L2
open Sem (wp)
section
variable {X:Cx} {pins:List (Addr×Obj)} {σ:L2.St} {H:Hp} {s:Shared}
theorem turnedL{h':Heap}{t':Nat}{fp:List Addr}(I:L2.Inv X pins σ H s)(k:∀b o,b∉fp->s.heap.get? b=some o->h'.get? b=some o)(hf:∀b∈fp,FpOk X pins H b):L2.Inv X pins σ H { s with heap:=h',toks:=t' }:=by
 have nit:∀b u,H b=some u->b∉fp:=fun b u e z=>by rw[(hf b z).1] at e;cases e
 refine I.step (g':=s.gens) (d':=s.drawn) (ch:=fp) (fun b hb=>?_) (fun b o _ _ hc e _=>k b o hc e) (fun b o _ _ hc e _=>⟨o.slots,k b o hc e⟩) (fun _ _ _ _ n=>n) (fun b o hc e=>⟨o,k b o hc e⟩) (fun _ _ e=>e) (fun _ _ _ e=>e) (fun b ps e=>⟨#[],by rw[e];simp⟩) (fun m hm=>?_) (fun b u e=>?_) I.bare
 ·obtain⟨f0,f1,f2,f3,f4,f5⟩:=hf b hb;exact⟨f3,f1,f4,f5⟩
 ·obtain⟨o,es,ep,ho,r⟩:=hm;exact⟨o,es,ep,k _ o (fun z=>(hf _ z).2.1 rfl) ho,r⟩
 ·refine (I.hok b u e).stay (fun c v hc q=>k c v ?_ q) (fun _ q=>q) fun _ _ q=>q;rcases hc with z|z
  ·rw[z];exact nit b u e
  ·exact nit c _ z
def SqK(K:PySem.W.Frag)(k:Bool)(H:Hp)(a:Addr)(xs:List V):Prop:=match k with
 |true=>SqL K H a xs
 |false=>SqT K H a xs
theorem SqK.heap{k:Bool}{a:Addr}{xs:List V}(I:L2.Inv X pins σ H s)(h:SqK X.K k H a xs):∃its,Vals xs its/\Sk k s.heap a its.toArray:=by
 cases k with
 |true=>
  obtain⟨its,rv,p,hz⟩:=I.list (show SqL X.K H a xs from h);exact⟨its,rv,p.isList⟩
 |false=>
  obtain⟨its,rv,p,hz⟩:=I.tuple (show SqT X.K H a xs from h);exact⟨its,rv,p⟩
theorem SqK.inj{k:Bool}{a:Addr}{xs ys:List V}(I:L2.Inv X pins σ H s)(h:SqK X.K k H a xs)(h':SqK X.K k H a ys):xs=ys:=by
 cases k with
 |true=>exact I.list_inj (show SqL X.K H a xs from h) (show SqL X.K H a ys from h')
 |false=>exact I.tuple_inj (show SqT X.K H a xs from h) (show SqT X.K H a ys from h')
theorem SqK.apart{k:Bool}{a b:Addr}{xs:List V}(I:L2.Inv X pins σ H s)(h:SqK X.K k H a xs)(f:FpOk X pins H b):a≠b:=by
 intro z;subst z;have hb:(∃u,H a=some u)∨∃o,X.K.lookup a=some o:=by
  cases k <;>
  ·rcases h with (h|⟨o,h⟩)|⟨o,_,_,h,_⟩
   ·exact .inl ⟨_,h⟩
   ·exact .inl ⟨_,h⟩
   ·exact .inr ⟨_,h⟩
 rcases hb with⟨u,e⟩|⟨o,e⟩
 ·rw[f.1] at e;cases e
 ·have e2:=I.mod.kin a o e;rcases f.2.2.2.1 with q|q
  ·exact I.ok.noex a o e2 q
  ·exact absurd (Nat.lt_of_lt_of_le (Heap.lt_size (I.ok.bs a o e2).1) q) (Nat.lt_irrefl _)
end
section
variable {X:Cx} {es:List Expr} {n0:Nat} {ps p pos:Pos}
def seqD(G:Gp):D->List D->Prop
 |.obj p,ds=>G p=some (.lst ds)
 |.tup es,ds=>ds=es
 |.scr es,ds=>ds=es
 |_,_=>False
def zipD(xs ys:List D):List D:=List.zipWith (fun x y=>.tup [x,y]) xs ys
theorem qrdz{K:PySem.W.Frag}{H:Hp}{x:D}{v:V}(hv:Hv K H x v):∃k,∀H' G' xs,Ext H H'->RepG K G' H'->seqD G' x xs->∃a vs,v=.ref a/\SqK K k H' a vs/\Hvs K H' xs vs:=by
 cases x with
 |obj p=>
  unfold Hv at hv;subst hv;refine⟨true,fun H' G' xs E RG h=>?_⟩;obtain⟨vs,e2,e3⟩:=RG p _ h;exact⟨p,vs,rfl,SqL.of e2,e3⟩
 |tup es=>
  unfold Hv at hv;obtain⟨a,vs,rfl,e2,e3⟩:=hv;refine⟨false,fun H' G' xs E RG h=>?_⟩;cases (show xs=es from h);exact⟨a,vs,rfl,SqT.ext E e2,e3.ext E⟩
 |scr es=>
  unfold Hv at hv;obtain⟨a,vs,rfl,e2,e3⟩:=hv;refine⟨true,fun H' G' xs E RG h=>?_⟩;cases (show xs=es from h);exact⟨a,vs,rfl,(SqF.ext E e2).l,e3.ext E⟩
 |non=>exact⟨true,fun _ _ _ _ _ h=>h.elim⟩
 |bl _=>exact⟨true,fun _ _ _ _ _ h=>h.elim⟩
 |int _=>exact⟨true,fun _ _ _ _ _ h=>h.elim⟩
 |str _=>exact⟨true,fun _ _ _ _ _ h=>h.elim⟩
 |dc _=>exact⟨true,fun _ _ _ _ _ h=>h.elim⟩
theorem qrez{xs ys:List D}{i:Nat}{d:D}(h:(zipD xs ys)[i]?=some d):∃x y,xs[i]?=some x/\ys[i]?=some y/\d=.tup [x,y]:=by
 unfold zipD at h;rw[List.getElem?_zipWith] at h;cases hx:xs[i]? with
 |none=>rw[hx] at h;cases h
 |some x=>
  cases hy:ys[i]? with
  |none=>rw[hx,hy] at h;cases h
  |some y=>
   rw[hx,hy] at h;cases h;exact⟨x,y,rfl,rfl,rfl⟩
end
end L3
namespace L3
open PySem PySem.Spec PyProof.Rows L2
open Sem (wp)
theorem drawsK{P:Program}{w:World}{A:Around}{k:Bool}(hh:A.handled=none)(it a:Addr)(hne:a≠it)(xs:Array Value):
  Draws P w A it [it,a] xs.size (fun i v=>xs[i]?=some v) (fun i h=>Ik k h it a i/\Sk k h a xs) where
 live:=fun _ _ st=>let ⟨o,ho,_⟩:=st.1.obj;⟨o,ho⟩
 frame:=fun _ _ _ st hk=>⟨st.1.of fun o e=>hk it (by simp) o e,st.2.of fun o e=>hk a (by simp) o e⟩
 item:=fun i s Q E hi st hQ=>by
  refine nextK st.1 st.2 (u:=xs[i]) (by simp[hi]) fun h' hit' hs'=>?_;exact hQ _ h' s.toks (by simp[hi]) ⟨hit',st.2.of fun o e=>hs'.extBut a o hne e⟩ hs'
 done:=fun s Q E st hE=>qinz hh st.1 st.2 (by simp) hE
section
variable {P:Program} {w:World} {A:Around} {E:Value->Shared->Prop} {s:Shared}
theorem qrfz{k:Bool}{e it a:Addr}{i:Int}{j:Nat}{xs:Array Value}{old:Value}{Q:Option Value->Shared->Prop}(hh:A.handled=none)(he:IsEnum s.heap e it i old)(hi:Ik k s.heap it a j)(ha:Sk k s.heap a xs)(hx:xs[j]?=none)
  (hQ:∀h',Heap.ExtBut it s.heap h'->Q none { s with heap:=h' }):wpAny (model P w) A (pyNext (.ref e)) Q E s:=by
 have hT:s.TypeIs (.ref e) "enumerate":=⟨_,he,rfl⟩;unfold pyNext;refine wpAny_bind (wpAny_attempt (wpAny_callSpecial?_slot (name:=Str.ofString "__next__") hT F.slot_enumerate_next
  (wpAny_call_entry F.slot_enumerate_next hT F.entry_enumerate_next ?_ (F.args_enumerate_next_1 _))))
 show wpAny _ _ (field (.ref e) 2 >>= _) _ _ _;refine wpAny_bind (wpAny_field he rfl (x:=.ref it) rfl ?_);refine wpAny_bind (qinz (by simpa using hh) hi ha hx fun h' x he' hx'=>?_);obtain⟨o,ho,hc⟩:=hx';refine wpAny_bind (wpAny_isInstance (T:="StopIteration") (b:=true) ⟨o,ho,hc⟩ isSubtype_stop ?_);exact wpAny_pure (hQ _ he')
open AutoSeq1 (wpAny_loadPart') in
theorem qrgz(l:Addr)(items:Array Value)(n:Nat)(dct:Option Addr)(sl:Array (Option Value)):
  Meets (Builtin.«enumerate.__new__» ⟨[.type "enumerate",.ref l],[]⟩) (fun _ R s=>s.heap.get? l=some { cls:=.type "tuple",dict:=dct,data:=.seq items n,slots:=sl } ∧
   R (.ok (.ret (.ref (s.heap.push { cls:=.type "tuple_iterator",data:=.fields #[.ref l,.int 0 0]}).objs.size)))
    { s with heap:=(s.heap.push { cls:=.type "tuple_iterator",data:=.fields #[.ref l,.int 0 0]}).push { cls:=.type "enumerate",data:=.fields #[.none,.bool false,.ref s.heap.objs.size,rawInt 0,.none,.none]}}):=
 .of_wp fun prog w A R s h=>by
  obtain⟨hp,g,d,tk,os⟩:=s;obtain⟨hl,h⟩:=h;have hsub:=sub_enumerate;have hL:Heap.IsTuple (Shared.heap ⟨hp,g,d,tk,os⟩) l items:=⟨_,hl,rfl,n,rfl⟩;wp_walk using wpAny_loadPart' hl;refine wpAny_stack_any fun st=>wpAny_pure ?_;split
  ·rename_i c _ _ _ _ _;cases (c==Value.type "enumerate")
   ·wp_walk using wpAny_loadPart' hl,wpAny_pyIter_tuple hL;exact⟨_,rfl,h⟩
   ·wp_walk using wpAny_loadPart' hl,wpAny_pyIter_tuple hL;exact⟨_,rfl,h⟩
  ·wp_walk using wpAny_loadPart' hl,wpAny_pyIter_tuple hL;exact⟨_,rfl,h⟩
theorem qrhz{l:Addr}{items:Array Value}{Q:Value->Shared->Prop}(hL:s.heap.IsTuple l items)
  (h:∀h',IsEnum h' (s.heap.objs.size+1) s.heap.objs.size 0 .none->h'.IsTupleIter s.heap.objs.size l 0->h'.objs.size=s.heap.objs.size+2 ->
   (∀b o,s.heap.get? b=some o->h'.get? b=some o)->Q (.ref (s.heap.objs.size+1)) { s with heap:=h' }):
  wpAny (model P w) A (call (.type "enumerate") [.ref l]) Q E s:=by
 obtain⟨⟨c,dct,dt,sl⟩,hl,hc,n,hd⟩:=hL
 replace hc:c=.type "tuple":=hc
 replace hd:dt=.seq items n:=hd
 subst hc hd;refine callType_new F.called_enumerate (by decide) (F.typeCall_enumerate_1 _) (F.newCall_enumerate_1 _) (fun obj=>F.args_object_init_2 obj _) F.entry_enumerate_new
  (qrgz l items n dct sl) ⟨hl,?_⟩
 have hz:(s.heap.push { cls:=.type "tuple_iterator",data:=.fields #[.ref l,.int 0 0]}).objs.size=s.heap.objs.size+1:=Heap.size_push ..;show _/\_;rw[hz];have he:IsEnum ((s.heap.push { cls:=.type "tuple_iterator",data:=.fields #[.ref l,.int 0 0]}).push
   { cls:=.type "enumerate",data:=.fields #[.none,.bool false,.ref s.heap.objs.size,rawInt 0,.none,.none]}) (s.heap.objs.size+1) s.heap.objs.size 0 .none:=by
  have:=Heap.get?_push_size (s.heap.push { cls:=.type "tuple_iterator",data:=.fields #[.ref l,.int 0 0]})
   (o:={ cls:=.type "enumerate",data:=.fields #[.none,.bool false,.ref s.heap.objs.size,rawInt 0,.none,.none]}) rfl
  rw[hz] at this;exact this
 refine⟨⟨_,he,rfl⟩,h _ he ⟨_,Heap.get?_push_of_some _ (Heap.get?_push_size _ rfl),rfl,rfl⟩ (by rw[Heap.size_push,hz]) fun b o x=>Heap.get?_push_of_some _ (Heap.get?_push_of_some _ x)⟩
theorem qriz{k:Bool}{l:Addr}{items:Array Value}{Q:Value->Shared->Prop}(hL:Sk k s.heap l items)
  (h:∀h',IsEnum h' (s.heap.objs.size+1) s.heap.objs.size 0 .none->Ik k h' s.heap.objs.size l 0->h'.objs.size=s.heap.objs.size+2 ->
   (∀b o,s.heap.get? b=some o->h'.get? b=some o)->Q (.ref (s.heap.objs.size+1)) { s with heap:=h' }):
  wpAny (model P w) A (call (.type "enumerate") [.ref l]) Q E s:=by
 cases k with
 |true=>exact call_enumerate_list hL h
 |false=>exact qrhz hL h
end
def Itn(K:PySem.W.Frag)(k:Bool)(a:Addr):It:=
 ⟨fun i H=>∃xs x,SqK K k H a xs/\xs[i]?=some x,
  fun i H x H'=>∃T u,x=.ref T/\H T=none/\H'=upd H T (.tup [.int i,u])/\∀xs,SqK K k H a xs->xs[i]?=some u,
  fun i H=>∃xs,SqK K k H a xs/\xs.length≤i⟩
theorem qrjz{P:Program}{w:World}{K:PySem.W.Frag}{es:List Expr}{n0:Nat}{ps:Pos}(k:Bool)(a en jt:Addr)(hne:en≠jt):
  Turn P w K (.Tuple es n0 ps) (Itn K k a) [en,jt] en (fun i h=>(∃old,IsEnum h en jt i old)/\Ik k h jt a i) where
 mem:=by simp
 obj:=fun i h st b hb=>by
  obtain⟨⟨old,Z⟩,g⟩:=st;simp only[List.mem_cons,List.not_mem_nil,or_false] at hb;rcases hb with rfl|rfl
  ·exact⟨_,Z,fun v z=>by cases (show Data.fields _=Data.cell v from z)⟩
  ·exact g.obj
 keep:=fun i h h' st k=>⟨let ⟨old,Z⟩:=st.1;⟨old,k _ (by simp) _ Z⟩,st.2.of fun o e=>k _ (by simp) _ e⟩
 item:=by
  intro X hP hw hK hc i pins s σ H E I hf st hg;subst hP hw hK;obtain⟨⟨old,Z⟩,g⟩:=st;obtain⟨xs,x,q1,hx⟩:=hg;obtain⟨its,rv,p⟩:=SqK.heap I q1;obtain⟨u,hu,ru⟩:=rv.get hx;have hi:i<its.toArray.size:=by
   have:=(List.getElem?_eq_some_iff.mp hu).1;simpa using this
  have hja:a≠jt:=SqK.apart I q1 (hf jt (by simp));have hea:a≠en:=SqK.apart I q1 (hf en (by simp));refine wpAny_pyNext_enum_itemD (drawsK (k:=k) (by have:=I.ok.hd hc;simpa using this) jt a hja its.toArray) Z ⟨g,p⟩ hi hne (by simp[hne,hea.symm]) fun x2 h' tk hx2 Z' g' T' sz kp=>⟨_,rfl,?_⟩;have ex:x2=u:=by
   have:its.toArray[i]?=some u:=by simpa using hu
   rw[hx2] at this;exact Option.some.inj this
  subst ex;refine wpAny_letOwnedTupleGo_enum (s:={ s with heap:=h',toks:=tk+1 }) Z' fun h2 Z2 b2=>?_;have hn:H s.heap.objs.size=none:=I.hok.fresh (Nat.le_refl _);have I1:L2.Inv X pins σ (upd H s.heap.objs.size (.tup [.int i,x])) { s with heap:=s.heap.push { cls:=.type "tuple",data:=.seq #[.int i tk,x2]}}:=I.laid (t':=s.toks) (fun b o e=>Heap.get?_push_of_some _ e) (Nat.le_refl _) ⟨by show 2≤sizeLine;decide,[.int i tk,x2],.cons ⟨_,rfl⟩ (.cons ru .nil),⟨_,Heap.get?_push_size _ rfl,rfl,_,rfl⟩⟩;have lt:∀b∈[en,jt],b<s.heap.objs.size:=fun b hb=>by
   simp only[List.mem_cons,List.not_mem_nil,or_false] at hb;rcases hb with rfl|rfl
   ·exact Heap.lt_size Z
   ·obtain⟨o,e,_⟩:=g.obj;exact Heap.lt_size e
  have hf':∀b∈[en,jt],FpOk X pins (upd H s.heap.objs.size (.tup [.int i,x])) b:=fun b hb=>⟨by rw[qfz (Nat.ne_of_lt (lt b hb))];exact (hf b hb).1,(hf b hb).2⟩;have I2:L2.Inv X pins σ (upd H s.heap.objs.size (.tup [.int i,x])) { s with heap:=h2,toks:=tk+1 }:=turnedL (s:={ s with heap:=s.heap.push { cls:=.type "tuple",data:=.seq #[.int i tk,x2]}}) (t':=tk+1) I1 (fun b o hb e=>by
   simp only[List.mem_cons,List.not_mem_nil,or_false,not_or] at hb;refine b2.extBut b o hb.1 ?_;rcases Heap.get?_push_cases e with⟨rfl,rfl⟩|e
   ·exact T'
   ·exact kp b o hb.1 hb.2 e) hf'
  exact⟨.ref s.heap.objs.size,_,I2,rfl,⟨_,x,rfl,hn,rfl,fun zs hz=>by rw[SqK.inj I hz q1];exact hx⟩,⟨⟨_,Z2⟩,g'.1.of fun o e=>b2.extBut jt o hne.symm e⟩,fun b hb=>(hf' b hb).1⟩
 done:=by
  intro X hP hw hK hc i pins s σ H E I hf st hg;subst hP hw hK;obtain⟨⟨old,Z⟩,g⟩:=st;obtain⟨xs,q1,hl⟩:=hg;obtain⟨its,rv,p⟩:=SqK.heap I q1;have l1:=rv.length;exact qrfz (I.ok.hd hc) Z g p (by simp;omega) fun h' kp=>⟨rfl,turnedL (t':=s.toks) I (fun b o hb e=>by
   simp only[List.mem_cons,List.not_mem_nil,or_false,not_or] at hb;exact kp b o hb.2 e) hf⟩
 self:=fun _ _ _ _ _ st h=>let ⟨⟨_,Z⟩,_⟩:=st;wpAny_pyIter_enum Z h
section
variable {X:Cx} {es:List Expr} {n0:Nat} {ps p pos:Pos}
def jEnum(K:PySem.W.Frag)(ta:TA):TI:=fun σ H R=>ta σ H fun vs H1=>∃k a,vs=[.ref a]/\(∃xs,SqK K k H1 a xs)/\R (Itn K k a) H1
theorem qrkz{a:Expr}{ta:TA}(hg:Gl X "enumerate")(hm:X.mg "enumerate" = none)(ha:PA X [a] ta)(hs:starEach [a] X.env=[(false,eval a X.env)]:=by rfl):PI X (.Tuple es n0 ps) (.Call (.Name "enumerate" p) [a] [] pos) (jEnum X.K ta):=by
 intro pins s σ H R I h;refine Call_ (qawz I hg hm boot_enumerate (PyProof.Rows.callWith_type1 (thn (ha pos pins s σ H _ I h) fun us s1 ⟨vs,H1,I1,r1,q1⟩=>?_) hs rfl));obtain⟨k,a1,e,⟨xs,q1⟩,q⟩:=q1;subst e;cases r1 with
 |cons r rr=>
  cases rr;cases r;obtain⟨its,rv,p⟩:=SqK.heap I1 q1;refine qriz p fun h' z1 z2 z3 z4=>?_;refine wpAny_pyIter_enum (s:={ s1 with heap:=h' }) z1 ?_
  refine⟨s1.heap.objs.size+1,[s1.heap.objs.size+1,s1.heap.objs.size],_,_,H1,rfl,I1.kept (t':=s1.toks) z4,qrjz k a1 _ _ (by simp),⟨⟨_,z1⟩,z2⟩,fun b hb=>?_,q⟩;have hb:s1.heap.objs.size≤b:=by
   simp only[List.mem_cons,List.not_mem_nil,or_false] at hb;rcases hb with rfl|rfl
   ·exact Nat.le_add_right _ _
   ·exact Nat.le_refl _
  exact I1.fpOk hb (I1.hok.fresh hb)
def enumD(xs:List D):List D:=zipD (rngL 0 xs.length) xs
def iEnum(ta:TA3):TI3:=fun τ G R=>ta τ G fun ds G1=>match ds with
 |[x]=>∃xs,seqD G1 x xs/\R ⟨enumD xs,fun G=>seqD G x xs⟩ G1
 |_=>False
theorem qrlz{a:Expr}{ta:TA3}(hm:X.mg "enumerate" = none)(ha:PA3 X [a] ta)(hg:Gl X "enumerate":=by rfl)(hs:notStar a=true:=by rfl):
  PI3 X (.Tuple es n0 ps) (.Call (.Name "enumerate" p) [a] [] pos) (iEnum ta):=
 qefz (qrkz hg hm ha (qjz hs)) fun σ H R ⟨τ,G,R3,RS,RG,h,k⟩=>⟨τ,G,_,RS,RG,h,fun vs H1 ds G1 h1 S1 R1 q1=>by
  rcases ds with _|⟨d,_|⟨d2,ds⟩⟩
  ·exact q1.elim
  ·obtain⟨xs,s1,q⟩:=q1;obtain⟨v,r,rfl,z1,z2⟩:=h1.inv;cases z2.inv0;obtain⟨kk,hsq⟩:=qrdz z1;obtain⟨a1,vs1,rfl,y1,w1⟩:=hsq _ _ _ (Ext.refl _) R1 s1;refine⟨kk,a1,rfl,⟨_,y1⟩,k _ _ _ _ ⟨?_,?_⟩ S1 R1 q⟩
   ·intro i d H' G' E' RG' hg hi;obtain⟨x,y,e1,e2,rfl⟩:=qrez hi;obtain⟨b1,us1,c1,m1,n1⟩:=hsq _ _ _ E' RG' hg;cases c1;obtain⟨u1,o1,o2⟩:=n1.get e2;obtain⟨_,rfl⟩:=qhez e1;refine⟨⟨_,_,m1,o1⟩,fun x' H'' hy=>?_⟩;obtain⟨T,u,rfl,hn,rfl,t1⟩:=hy;have:=t1 _ m1;rw[o1] at this;cases this;refine⟨?_,.laid hn,RG'.laid hn⟩;unfold Hv;exact⟨T,_,rfl,.of qnz,.cons (by simp[Hv]) (.cons (o2.ext (.laid hn)) .nil)⟩
   ·intro i H' G' E' RG' hg hi;obtain⟨b1,us1,c1,m1,n1⟩:=hsq _ _ _ E' RG' hg;cases c1;refine⟨_,m1,?_⟩;have hi:(enumD xs).length≤i:=hi;unfold enumD zipD at hi;rw[List.length_zipWith,qa5z] at hi;rw[←n1.length];omega
  ·exact q1.elim⟩
end
end L3
namespace L3
open PySem PySem.Spec PyProof.Rows L2
open Classical in
noncomputable def eqF (h:Heap) (vs:List Dat.D) (u:Dat.D) (y:Value):Bool:=if q:∃d,d∈vs/\Dat.Hv h d y then (Classical.choose q).eqb u else false
theorem qezz{h:Heap}{vs:List Dat.D}{u d:Dat.D}{y:Value}(hd:d∈vs)(hy:Dat.Hv h d y):eqF h vs u y=d.eqb u:=by
 unfold eqF;have q:∃d,d∈vs/\Dat.Hv h d y:=⟨d,hd,hy⟩;rw[dif_pos q,Dat.Hv.inj (Classical.choose_spec q).2 hy]
theorem qckz{h:Heap}{vs0:List Dat.D}{u:Dat.D}:∀{vs:List Dat.D} {us:List Value},(∀d∈vs,d∈vs0)->Dat.Hvs h vs us->us.any (eqF h vs0 u)=vs.any fun v=>v.eqb u
 |[],us,_,p=>by
  unfold Dat.Hvs at p;subst p;rfl
 |d::ds,us,hm,p=>by
  unfold Dat.Hvs at p;obtain⟨y,r,rfl,p1,p2⟩:=p;rw[List.any_cons,List.any_cons,qezz (hm d List.mem_cons_self) p1,qckz (fun d hd=>hm d (List.mem_cons_of_mem _ hd)) p2]
theorem qe0z{h:Heap}{y:Value}:∀{vs:List Dat.D} {us:List Value},Dat.Hvs h vs us->y∈us->∃d,d∈vs/\Dat.Hv h d y
 |[],us,p,hy=>by
  unfold Dat.Hvs at p;subst p;cases hy
 |d::ds,us,p,hy=>by
  unfold Dat.Hvs at p;obtain⟨x,r,rfl,p1,p2⟩:=p;rcases List.mem_cons.mp hy with rfl|hy
  ·exact⟨d,List.mem_cons_self,p1⟩
  ·obtain⟨e,h1,h2⟩:=qe0z p2 hy;exact⟨e,List.mem_cons_of_mem _ h1,h2⟩
def rIn3(neg:Bool):R3:=fun x y G Q=>∃u vs,toDat G x=some u/\(toDat G y=some (.lst vs)∨toDat G y=some (.tup vs))/\Dat.deps vs≤50/\Q (.bl (if neg then !(vs.any fun v=>v.eqb u) else vs.any fun v=>v.eqb u)) G
section
variable {X:Cx}
theorem inR(hu:X.A.units+64<cLine):CmpR X (compareOp .In) (rIn3 false):=by
 intro pins s σ H G x y vx vy u v Q3 I RG hx hy rx ry ⟨p,vs,e1,e2,hd,h⟩;have dx:=qamz I RG hx rx e1;have fin:EP X pins σ (fun w H'=>∃d G',Hv X.K H' d w/\Step H G H' G'/\RepG X.K G' H'/\Q3 d G') (.bool (vs.any fun v=>v.eqb p)) s:=⟨.bl _,H,I,rfl,.bl _,G,q6z,.refl H G,RG,h⟩;have he:∀(its:List Value),Dat.Hvs s.heap vs its->∀y,y∈its.toArray->SeqAt.EqAt X.A.in1 s y u (eqF s.heap vs p y):=fun its hv y hy=>by
  obtain⟨d,hd',hv'⟩:=qe0z hv (by simpa using hy);rw[qezz hd' hv'];exact Dat.eqAt d p y u _ hv' dx (by
   have:=Dat.dep_mem hd';have h1:X.A.in1.units=X.A.units+1:=rfl;omega)
 rcases e2 with e2|e2
 ·have dy:=qamz I RG hy ry e2;unfold Dat.Hv at dy;obtain⟨a,its,rfl,hl,hv⟩:=dy;refine SeqAt.in_listAt (eqF s.heap vs p) hl (he its hv) ?_;rw[List.any_toArray,qckz (fun d hd=>hd) hv];exact fin
 ·have dy:=qamz I RG hy ry e2;unfold Dat.Hv at dy;obtain⟨a,its,rfl,hl,hv⟩:=dy;refine SeqAt.in_tupleAt (eqF s.heap vs p) hl (he its hv) ?_;rw[List.any_toArray,qckz (fun d hd=>hd) hv];exact fin
theorem ninR(hu:X.A.units+64<cLine):CmpR X (compareOp .NotIn) (rIn3 true):=by
 intro pins s σ H G x y vx vy u v Q3 I RG hx hy rx ry ⟨p,vs,e1,e2,hd,h⟩;have dx:=qamz I RG hx rx e1;have fin:EP X pins σ (fun w H'=>∃d G',Hv X.K H' d w/\Step H G H' G'/\RepG X.K G' H'/\Q3 d G') (.bool (!(vs.any fun v=>v.eqb p))) s:=⟨.bl _,H,I,rfl,.bl _,G,q6z,.refl H G,RG,h⟩;have he:∀(its:List Value),Dat.Hvs s.heap vs its->∀y,y∈its.toArray->SeqAt.EqAt X.A.in1 s y u (eqF s.heap vs p y):=fun its hv y hy=>by
  obtain⟨d,hd',hv'⟩:=qe0z hv (by simpa using hy);rw[qezz hd' hv'];exact Dat.eqAt d p y u _ hv' dx (by
   have:=Dat.dep_mem hd';have h1:X.A.in1.units=X.A.units+1:=rfl;omega)
 rcases e2 with e2|e2
 ·have dy:=qamz I RG hy ry e2;unfold Dat.Hv at dy;obtain⟨a,its,rfl,hl,hv⟩:=dy;refine SeqAt.notIn_listAt (eqF s.heap vs p) hl (he its hv) ?_;rw[List.any_toArray,qckz (fun d hd=>hd) hv];exact fin
 ·have dy:=qamz I RG hy ry e2;unfold Dat.Hv at dy;obtain⟨a,its,rfl,hl,hv⟩:=dy;refine SeqAt.notIn_tupleAt (eqF s.heap vs p) hl (he its hv) ?_;rw[List.any_toArray,qckz (fun d hd=>hd) hv];exact fin
theorem qrmz(hu:X.A.units+64<cLine):OpR X (compareOp .In) (cmpR2 X.K (rIn3 false)):=(inR hu).op
theorem qrnz(hu:X.A.units+64<cLine):OpR X (compareOp .NotIn) (cmpR2 X.K (rIn3 true)):=(ninR hu).op
theorem l_in{K:PySem.W.Frag}:LowR K (rIn3 false) (cmpR2 K (rIn3 false)):=qdfz
theorem qroz{K:PySem.W.Frag}:LowR K (rIn3 true) (cmpR2 K (rIn3 true)):=qdfz
end
end L3
namespace L3
open PySem PySem.Spec PyProof.Rows L2
structure QE(X:Cx)(e:Expr)(t:TE3):Prop where
 of:PE3 X e t
structure QT(X:Cx)(e:Expr)(t:TT3):Prop where
 of:PT3 X e t
structure QW(X:Cx)(e:Expr)(t:TT3):Prop where
 of:PW3 X e t
structure QA(X:Cx)(es:List Expr)(t:TA3):Prop where
 of:PA3 X es t
structure QS(X:Cx)(st:Stmt)(t:TS3):Prop where
 of:PS3 X st t
structure QSs(X:Cx)(st:List Stmt)(t:TS3):Prop where
 of:PSs3 X st t
structure QG(X:Cx)(tg:Expr)(t:TG3):Prop where
 of:PG3 X tg t
structure QGs(X:Cx)(tgs:List Expr)(t:TGs3):Prop where
 of:PGs3 X tgs t
structure QI(X:Cx)(tg iter:Expr)(t:TI3):Prop where
 of:PI3 X tg iter t
structure QO(X:Cx)(e:Option Expr)(t:TO3):Prop where
 of:PO3 X e t
structure QC(X:Cx)(ifs:List Expr)(t:TT3):Prop where
 of:PCt X ifs (lowT X.K t)
section
variable {X:Cx} {a b e c:Expr} {ta tb te:TE3} {tA tB:TT3} {pos:Pos} {es rest:List Expr}
theorem qbz{i:Nat}{x:Str}(h:PE X (.Name x pos) (tVar i)):QE X (.Name x pos) (eVar i):=⟨qniz (h:=h)⟩
end
section
variable {X:Cx} {a b e c:Expr} {ta tb te:TE3} {tA tB:TT3} {pos:Pos} {es rest:List Expr}
theorem qdz{i:Int}{j}:QE X (.Constant (.int i) j pos) (eC (.int i)):=⟨qnjz ⟩
end
section
variable {X:Cx} {a b e c:Expr} {ta tb te:TE3} {tA tB:TT3} {pos:Pos} {es rest:List Expr}
theorem qacz{i:Bool}{j}:QE X (.Constant (.bool i) j pos) (eC (.bl i)):=⟨e_bl ⟩
end
section
variable {X:Cx} {a b e c:Expr} {ta tb te:TE3} {tA tB:TT3} {pos:Pos} {es rest:List Expr}
theorem qa1z{j}:QE X (.Constant .none j pos) (eC .non):=⟨qnkz ⟩
end
section
variable {X:Cx} {a b e c:Expr} {ta tb te:TE3} {tA tB:TT3} {pos:Pos} {es rest:List Expr}
theorem qatz{x:Str}{j}:QE X (.Constant (.str x) j pos) (eC (.str x)):=⟨qnlz ⟩
end
section
variable {X:Cx} {a b e c:Expr} {ta tb te:TE3} {tA tB:TT3} {pos:Pos} {es rest:List Expr}
theorem qioz{x:Str}{i:Int}{u:Tok}(hm:X.mg x=some (.int i u))(hg:Gl X x:=by rfl)(hd:(x==("__debug__":Str))=false:=by decide):QE X (.Name x pos) (eC (.int i)):=⟨qnmz (hm:=hm) (hg:=hg) (hd:=hd)⟩
end
section
variable {X:Cx} {a b e c:Expr} {ta tb te:TE3} {tA tB:TT3} {pos:Pos} {es rest:List Expr}
theorem qkz{op:Operator}{r:R3}{r2:R2}(L:LowR X.K r r2)(ho:OpR X (binaryOp op) r2)(ha:QE X a ta)(hb:QE X b tb):QE X (.BinOp a op b pos) (eOp r ta tb):=⟨e_op (L:=L) (ho:=ho) (ha:=ha.of) (hb:=hb.of)⟩
end
section
variable {X:Cx} {a b e c:Expr} {ta tb te:TE3} {tA tB:TT3} {pos:Pos} {es rest:List Expr}
theorem qbuz{op:CmpOp}{r:R3}{r2:R2}(L:LowR X.K r r2)(ho:OpR X (compareOp op) r2)(ha:QE X a ta)(hb:QE X b tb)(hm:behindInMarks op b=false):QE X (.Compare a [op] [b] pos) (eOp r ta tb):=⟨qnnz (L:=L) (ho:=ho) (ha:=ha.of) (hb:=hb.of) (hm:=hm)⟩
end
section
variable {X:Cx} {a b e c:Expr} {ta tb te:TE3} {tA tB:TT3} {pos:Pos} {es rest:List Expr}
theorem qtz{op:CmpOp}{r:R3}{r2:R2}(L:LowR X.K r r2)(ho:OpR X (compareOp op) r2)(ha:QE X a ta)(hb:QE X b tb)(hm:behindInMarks op b=false):QT X (.Compare a [op] [b] pos) (eTest (eOp r ta tb)):=⟨qnoz (L:=L) (ho:=ho) (ha:=ha.of) (hb:=hb.of) (hm:=hm)⟩
end
section
variable {X:Cx} {a b e c:Expr} {ta tb te:TE3} {tA tB:TT3} {pos:Pos} {es rest:List Expr}
theorem qyz(h:QE X a ta)(he:∀whole,isTrue a X.env whole=(do let v ←whole;standAt a.pos;holding [v] (truthy v)):=by intro _;rfl):QT X a (eTest ta):=⟨qnpz (h:=h.of) (he:=he)⟩
end
section
variable {X:Cx} {a b e c:Expr} {ta tb te:TE3} {tA tB:TT3} {pos:Pos} {es rest:List Expr}
theorem qrpz(ha:QE X a ta):QE X (.UnaryOp .USub a pos) (eUn rNeg3 ta):=⟨qnsz (ha:=ha.of)⟩
end
section
variable {X:Cx} {a b e c:Expr} {ta tb te:TE3} {tA tB:TT3} {pos:Pos} {es rest:List Expr}
theorem qipz(ha:QT X a tA):QW X (.BoolOp .And [a] pos) tA:=⟨qntz (ha:=ha.of)⟩
end
section
variable {X:Cx} {a b e c:Expr} {ta tb te:TE3} {tA tB:TT3} {pos:Pos} {es rest:List Expr}
theorem qajz(ha:QT X a tA):QW X (.BoolOp .Or [a] pos) tA:=⟨qnuz (ha:=ha.of)⟩
end
section
variable {X:Cx} {a b e c:Expr} {ta tb te:TE3} {tA tB:TT3} {pos:Pos} {es rest:List Expr}
theorem qiqz(ha:QT X a tA)(hb:QW X (.BoolOp .And (b::rest) pos) tB):QW X (.BoolOp .And (a::b::rest) pos) (eAnd tA tB):=⟨qnvz (ha:=ha.of) (hb:=hb.of)⟩
end
section
variable {X:Cx} {a b e c:Expr} {ta tb te:TE3} {tA tB:TT3} {pos:Pos} {es rest:List Expr}
theorem q7z(ha:QT X a tA)(hb:QW X (.BoolOp .Or (b::rest) pos) tB):QW X (.BoolOp .Or (a::b::rest) pos) (eOr tA tB):=⟨qnwz (ha:=ha.of) (hb:=hb.of)⟩
end
section
variable {X:Cx} {a b e c:Expr} {ta tb te:TE3} {tA tB:TT3} {pos:Pos} {es rest:List Expr}
theorem qahz(h:QW X a tA):QT X a tA:=⟨tt_w (h:=h.of)⟩
end
section
variable {X:Cx} {a b e c:Expr} {ta tb te:TE3} {tA tB:TT3} {pos:Pos} {es rest:List Expr}
theorem qzz(ha:QT X a tA):QT X (.UnaryOp .Not a pos) (eNot tA):=⟨qnxz (ha:=ha.of)⟩
end
section
variable {X:Cx} {a b e c:Expr} {ta tb te:TE3} {tA tB:TT3} {pos:Pos} {es rest:List Expr}
theorem qbez{op}(h:QE X a ta):QE X (.BoolOp op [a] pos) ta:=⟨qnyz (h:=h.of)⟩
end
section
variable {X:Cx} {a b e c:Expr} {ta tb te:TE3} {tA tB:TT3} {pos:Pos} {es rest:List Expr}
theorem qbfz(ha:QE X a ta)(hb:QE X (.BoolOp .And (b::rest) pos) tb):QE X (.BoolOp .And (a::b::rest) pos) (eAndV ta tb):=⟨qnzz (ha:=ha.of) (hb:=hb.of)⟩
end
section
variable {X:Cx} {a b e c:Expr} {ta tb te:TE3} {tA tB:TT3} {pos:Pos} {es rest:List Expr}
theorem qrqz(ha:QE X a ta)(hb:QE X (.BoolOp .Or (b::rest) pos) tb):QE X (.BoolOp .Or (a::b::rest) pos) (eOrV ta tb):=⟨e_or (ha:=ha.of) (hb:=hb.of)⟩
end
section
variable {X:Cx} {a b e c:Expr} {ta tb te:TE3} {tA tB:TT3} {pos:Pos} {es rest:List Expr}
theorem qirz(ha:QE X a ta):QE X (.UnaryOp .Not a pos) (eNotV ta):=⟨qn0z (ha:=ha.of)⟩
end
section
variable {X:Cx} {a b e c:Expr} {ta tb te:TE3} {tA tB:TT3} {pos:Pos} {es rest:List Expr}
theorem qcz  : QA X [] aNil:=⟨qn1z ⟩
end
section
variable {X:Cx} {a b e c:Expr} {ta tb te:TE3} {tA tB:TT3} {pos:Pos} {es rest:List Expr}
theorem qaz{tr:TA3}(ha:QE X a ta)(hr:QA X es tr)(hs:notStar a=true:=by rfl):QA X (a::es) (aCons ta tr):=⟨qn2z (ha:=ha.of) (hr:=hr.of) (hs:=hs)⟩
end
section
variable {X:Cx} {a b e c:Expr} {ta tb te:TE3} {tA tB:TT3} {pos:Pos} {es rest:List Expr}
theorem qadz{t:TA3}{x1}(h:QA X es t):QE X (.Tuple es x1 pos) (eTup t):=⟨qn3z (h:=h.of)⟩
end
section
variable {X:Cx} {a b e c:Expr} {ta tb te:TE3} {tA tB:TT3} {pos:Pos} {es rest:List Expr}
theorem q2z{t:TA3}(h:QA X es t):QE X (.List es pos) (eLst t):=⟨qn4z (h:=h.of)⟩
end
section
variable {X:Cx} {st:Stmt} {rest:List Stmt} {t u:TS3} {e c:Expr} {te:TE3} {tc:TT3} {pos:Pos}
theorem q3z  : QSs X [] sNext:=⟨qoaz ⟩
end
section
variable {X:Cx} {st:Stmt} {rest:List Stmt} {t u:TS3} {e c:Expr} {te:TE3} {tc:TT3} {pos:Pos}
theorem qez(h1:QS X st t)(h2:QSs X rest u):QSs X (st::rest) (sSeq t u):=⟨qobz (h1:=h1.of) (h2:=h2.of)⟩
end
section
variable {X:Cx} {st:Stmt} {rest:List Stmt} {t u:TS3} {e c:Expr} {te:TE3} {tc:TT3} {pos:Pos}
theorem qgz(h1:QS X st t):QSs X [st] t:=⟨qocz (h1:=h1.of)⟩
end
section
variable {X:Cx} {st:Stmt} {rest:List Stmt} {t u:TS3} {e c:Expr} {te:TE3} {tc:TT3} {pos:Pos}
theorem qclz(he:QE X e te)(hs:swapsWith e none pos.line X.env=pure false:=by rfl):QS X (.Expr e pos) (sDrop te):=⟨qodz (he:=he.of) (hs:=hs)⟩
end
section
variable {X:Cx} {st:Stmt} {rest:List Stmt} {t u:TS3} {e c:Expr} {te:TE3} {tc:TT3} {pos:Pos}
theorem qmz(he:QE X e te):QS X (.Return (some e) pos) (sRet te):=⟨qoez (he:=he.of)⟩
end
section
variable {X:Cx} {st:Stmt} {rest:List Stmt} {t u:TS3} {e c:Expr} {te:TE3} {tc:TT3} {pos:Pos}
theorem quz{a b:List Stmt}(hc:QT X c tc)(ha:QSs X a t)(hb:QSs X b u):QS X (.If c a b pos) (sIf tc t u):=⟨s_if (hc:=hc.of) (ha:=ha.of) (hb:=hb.of)⟩
end
section
variable {X:Cx} {pos:Pos} {e:Expr} {es:List Expr}
theorem qaiz{i:Nat}{x:Str}(hN:X.N.Nodup)(hi:X.N[i]?=some x:=by rfl)(hx:Loc X.env.scope x:=by first|exact Or.inl rfl|exact Or.inr rfl)(hf:X.fn x=true∨X.env.scope.names.lookup x=some .local:=by first|exact .inl rfl|exact .inr rfl|assumption):QG X (.Name x pos) (hName i):=⟨qofz (hN:=hN) (hi:=hi) (hx:=hx) (hf:=hf)⟩
end
section
variable {X:Cx} {pos:Pos} {e:Expr} {es:List Expr}
theorem qisz  : QGs X [] hNil:=⟨qogz ⟩
end
section
variable {X:Cx} {pos:Pos} {e:Expr} {es:List Expr}
theorem qdpz{t:TG3}{u:TGs3}(h1:QG X e t)(h2:QGs X es u)(hs:(assignEach (e::es) X.env).map (·.2)=assign e X.env::(assignEach es X.env).map (·.2):=by rfl):QGs X (e::es) (hCons t u):=⟨qohz (h1:=h1.of) (h2:=h2.of) (hs:=hs)⟩
end
section
variable {X:Cx} {pos:Pos} {e:Expr} {es:List Expr}
theorem qitz{k:Nat}{t:TGs3}{n:Nat}(hc:X.calm=true)(h:QGs X es t)(hn:(assignEach es X.env).length=n:=by rfl)(hst:(assignEach es X.env).findIdx? (·.1)=none:=by rfl):QG X (.Tuple es k pos) (hTup n t):=⟨qoiz (hc:=hc) (h:=h.of) (hn:=hn) (hst:=hst)⟩
end
section
variable {X:Cx} {pos:Pos} {e:Expr} {es:List Expr}
theorem qe1z{tg:Expr}{te:TE3}{g:TG3}(he:QE X e te)(hg:QG X tg g)(hs:swapsWithSole [tg] e pos.line X.env=pure false:=by rfl)(hw:swappedStores [tg] e X.env=pure none:=by rfl)(h1:(assignEach [tg] X.env).map (·.2)=[assign tg X.env]:=by rfl):QS X (.Assign [tg] e pos) (sAsg te g):=⟨qojz (he:=he.of) (hg:=hg.of) (hs:=hs) (hw:=hw) (h1:=h1)⟩
end
section
variable {X:Cx} {pos:Pos} {e:Expr} {es:List Expr}
theorem qlz{i:Nat}{x:Str}{te:TE3}{pos':Pos}(hN:X.N.Nodup)(he:QE X e te)(hi:X.N[i]?=some x:=by rfl)(hx:Loc X.env.scope x:=by first|exact Or.inl rfl|exact Or.inr rfl)(hs:swapsWith e (some (.Name x pos')) pos.line X.env=pure false:=by rfl)(hf:X.fn x=true∨X.env.scope.names.lookup x=some .local:=by first|exact .inl rfl|exact .inr rfl|assumption):QS X (.Assign [.Name x pos'] e pos) (sAsg te (hName i)):=⟨qokz (hN:=hN) (he:=he.of) (hi:=hi) (hx:=hx) (hs:=hs) (hf:=hf)⟩
end
section
variable {X:Cx} {pos:Pos} {e:Expr} {es:List Expr}
theorem qiuz{o i:Expr}{to ti:TE3}(ho:QE X o to)(hi:QE X i ti) (ha:∀v,assign (.Subscript o i pos) X.env v=(do
   let ov ←holding [v] (eval o X.env)
   let iv ←holding [v,ov] (eval i X.env)
   standAt pos
   holding [v,ov,iv] (setItem ov iv v)
   release [v,ov,iv] []):=by intro _;rfl):QG X (.Subscript o i pos) (hSub to ti):=⟨qomz (ho:=ho.of) (hi:=hi.of) (ha:=ha)⟩
end
section
variable {X:Cx} {pos:Pos} {e:Expr} {es:List Expr}
theorem qivz{c:Expr}{body:List Stmt}{tc:TT3}{tb:TS3}(hp:PassesOwn (model X.prog X.w) X.A X.env X.xe)(hc:QT X c tc)(hb:QSs X body tb):QS X (.While c body [] pos) (sWhile tc tb):=⟨qonz (hp:=hp) (hc:=hc.of) (hb:=hb.of)⟩
end
section
variable {X:Cx} {k:Nat} {f:Addr} {fd:FuncData} {ps:List Str} {sp:Sp3} {x:Str} {p pos:Pos} {e:Expr} {es:List Expr} {t:TA3}
theorem qhz(F:FnOk3 X.prog X.w X.K X.mg X.base k f fd ps sp)(hr:Room k X.A)(hm:X.mg x=some (.ref f))(hk:PySem.W.keepIn X.K (.ref f)=true)(hb:Binds X.K fd ps [])(ha:QA X (e::es) t)(hg:Gl X x:=by rfl)(hdb:(x==("__debug__":Str))=false:=by decide)(he:notStar e=true:=by rfl)(hpl:es.all notStar=true:=by rfl):QE X (.Call (.Name x p) (e::es) [] pos) (eCall sp t):=⟨qooz (F:=F) (hr:=hr) (hm:=hm) (hk:=hk) (hb:=hb) (ha:=ha.of) (hg:=hg) (hdb:=hdb) (he:=he) (hpl:=hpl)⟩
end
section
variable {X:Cx} {tg iter:Expr} {pos p:Pos}
theorem qiwz{l:Expr}{te:TE3}(hl:QE X l te):QI X tg l (iSeq te):=⟨qopz (hl:=hl.of)⟩
end
section
variable {X:Cx} {tg iter:Expr} {pos p:Pos}
theorem qcmz{a:Expr}{ta:TA3}(hm:X.mg "range" = none)(ha:QA X [a] ta)(hg:Gl X "range":=by rfl)(hs:notStar a=true:=by rfl):QI X tg (.Call (.Name "range" p) [a] [] pos) (iRng1 ta):=⟨qoqz (hm:=hm) (ha:=ha.of) (hg:=hg) (hs:=hs)⟩
end
section
variable {X:Cx} {tg iter:Expr} {pos p:Pos}
theorem qrrz{a b:Expr}{ta:TA3}(hm:X.mg "range" = none)(ha:QA X [a,b] ta)(hg:Gl X "range":=by rfl)(hs:notStar a=true:=by rfl)(hs2:notStar b=true:=by rfl):QI X tg (.Call (.Name "range" p) [a,b] [] pos) (iRng2 ta):=⟨qorz (hm:=hm) (ha:=ha.of) (hg:=hg) (hs:=hs) (hs2:=hs2)⟩
end
section
variable {X:Cx} {tg iter:Expr} {pos p:Pos}
theorem qdqz{body:List Stmt}{ti:TI3}{g:TG3}{tb:TS3}(hp:PassesOwn (model X.prog X.w) X.A X.env X.xe)(hc:X.calm=true)(hi:QI X tg iter ti)(hg:QG X tg g)(hb:QSs X body tb)(hs:∀x,foldedSetIterable iter X.env x=pure x:=by intro _;rfl):QS X (.For tg iter body [] pos) (sFor ti g tb):=⟨qosz (hp:=hp) (hc:=hc) (hi:=hi.of) (hg:=hg.of) (hb:=hb.of) (hs:=hs)⟩
end
section
variable {X:Cx} {tg iter:Expr} {pos p:Pos}
theorem qcnz  : QC X [] (tNoTest3):=⟨qotz ⟩
end
section
variable {X:Cx} {K:PySem.W.Frag}
theorem qrz{a b:Expr}{ta tb:TE3}{pos:Pos}(ha:QE X a ta)(hb:QE X b tb)(hs:PlainIx b:=by intro _ _;rfl):QE X (.Subscript a b pos) (eOp rIx3 ta tb):=⟨e_ix (ha:=ha.of) (hb:=hb.of) (hs:=hs)⟩
end
section
variable {X:Cx} {K:PySem.W.Frag}
theorem qixz{es:List Expr}{b:Expr}{ta:TA3}{tb:TE3}{pos pos':Pos}(ha:QA X es ta)(hb:QE X b tb)(hs:PlainIx b:=by intro _ _;rfl):QE X (.Subscript (.List es pos') b pos) (eLstIx ta tb):=⟨qo2z (ha:=ha.of) (hb:=hb.of) (hs:=hs)⟩
end
section
variable {X:Cx} {a b e:Expr} {ta tb:TE3} {pos:Pos}
theorem qbvz  : QO X none oNone:=⟨qo3z ⟩
end
section
variable {X:Cx} {a b e:Expr} {ta tb:TE3} {pos:Pos}
theorem qa2z(h:QE X e ta):QO X (some e) (oSome ta):=⟨qo4z (h:=h.of)⟩
end
section
variable {X:Cx} {a b e:Expr} {ta tb:TE3} {pos:Pos}
theorem qbgz{lo hi:Option Expr}{tl th:TO3}{p2:Pos}(ha:QE X a ta)(hl:QO X lo tl)(hh:QO X hi th):QE X (.Subscript a (.Slice lo hi none p2) pos) (eSl ta tl th):=⟨e_sl (ha:=ha.of) (hl:=hl.of) (hh:=hh.of)⟩
end
section
variable {X:Cx} {K:PySem.W.Frag} {e:Expr} {es:List Expr} {t:TA3} {ta:TE3} {pos p:Pos}
theorem qaaz(hu:X.A.units+64<cLine)(hm:X.mg "len" = none)(ha:QA X (e::es) t)(hg:Gl X "len":=by rfl)(he:notStar e=true:=by rfl)(hpl:es.all notStar=true:=by rfl):QE X (.Call (.Name "len" p) (e::es) [] pos) (eCB q1z t):=⟨qo8z (hu:=hu) (hm:=hm) (ha:=ha.of) (hg:=hg) (he:=he) (hpl:=hpl)⟩
end
section
variable {X:Cx} {K:PySem.W.Frag} {e:Expr} {es:List Expr} {t:TA3} {ta:TE3} {pos p:Pos}
theorem qrsz(hu:X.A.units+64<cLine)(hm:X.mg "int" = none)(ha:QA X (e::es) t)(hg:Gl X "int":=by rfl)(he:notStar e=true:=by rfl)(hpl:es.all notStar=true:=by rfl):QE X (.Call (.Name "int" p) (e::es) [] pos) (eCB qdgz t):=⟨qpaz (hu:=hu) (hm:=hm) (ha:=ha.of) (hg:=hg) (he:=he) (hpl:=hpl)⟩
end
section
variable {X:Cx} {K:PySem.W.Frag} {e:Expr} {es:List Expr} {t:TA3} {ta:TE3} {pos p:Pos}
theorem qe2z(hu:X.A.units+64<cLine)(hm:X.mg "max" = none)(ha:QA X (e::es) t)(hc:X.calm=true:=by rfl)(hg:Gl X "max":=by rfl)(he:notStar e=true:=by rfl)(hpl:es.all notStar=true:=by rfl):QE X (.Call (.Name "max" p) (e::es) [] pos) (eCB qcez t):=⟨qpbz (hu:=hu) (hm:=hm) (ha:=ha.of) (hc:=hc) (hg:=hg) (he:=he) (hpl:=hpl)⟩
end
section
variable {X:Cx} {K:PySem.W.Frag} {e:Expr} {es:List Expr} {t:TA3} {ta:TE3} {pos p:Pos}
theorem qrtz(hu:X.A.units+64<cLine)(hm:X.mg "min" = none)(ha:QA X (e::es) t)(hc:X.calm=true:=by rfl)(hg:Gl X "min":=by rfl)(he:notStar e=true:=by rfl)(hpl:es.all notStar=true:=by rfl):QE X (.Call (.Name "min" p) (e::es) [] pos) (eCB qeiz t):=⟨qpcz (hu:=hu) (hm:=hm) (ha:=ha.of) (hc:=hc) (hg:=hg) (he:=he) (hpl:=hpl)⟩
end
section
variable {X:Cx} {K:PySem.W.Frag} {e:Expr} {es:List Expr} {t:TA3} {ta:TE3} {pos p:Pos}
theorem qe3z(hu:X.A.units+64<cLine)(hm:X.mg "tuple" = none)(ha:QA X (e::es) t)(hg:Gl X "tuple":=by rfl)(he:notStar e=true:=by rfl)(hpl:es.all notStar=true:=by rfl):QE X (.Call (.Name "tuple" p) (e::es) [] pos) (eCB qbsz t):=⟨qpez (hu:=hu) (hm:=hm) (ha:=ha.of) (hg:=hg) (he:=he) (hpl:=hpl)⟩
end
section
variable {X:Cx} {K:PySem.W.Frag} {e:Expr} {es:List Expr} {t:TA3} {ta:TE3} {pos p:Pos}
theorem qiyz(hu:X.A.units+64<cLine)(hm:X.mg "list" = none)(ha:QA X (e::es) t)(hg:Gl X "list":=by rfl)(he:notStar e=true:=by rfl)(hpl:es.all notStar=true:=by rfl):QE X (.Call (.Name "list" p) (e::es) [] pos) (eCB qcfz t):=⟨qpgz (hu:=hu) (hm:=hm) (ha:=ha.of) (hg:=hg) (he:=he) (hpl:=hpl)⟩
end
section
variable {X:Cx} {a e:Expr} {es:List Expr} {ta:TE3} {t:TA3} {pos p p2:Pos}
theorem qbhz{T:String}{TS:Str}(k:Kit T)(hv:bootBuiltins TS=some (.type T))(ha:QE X a ta)(hm:X.mg "isinstance" = none)(hm2:X.mg TS=none)(hgT:Gl X TS)(hnT:TS≠"__name__")(hdT:(TS==("__debug__":Str))=false)(hg:Gl X "isinstance":=by rfl)(he:notStar a=true:=by rfl):QE X (.Call (.Name "isinstance" p) [a,.Name TS p2] [] pos) (eInst T ta):=⟨qqrz (k:=k) (hv:=hv) (ha:=ha.of) (hm:=hm) (hm2:=hm2) (hgT:=hgT) (hnT:=hnT) (hdT:=hdT) (hg:=hg) (he:=he)⟩
end
section
variable {X:Cx} {K:PySem.W.Frag} {e:Expr} {es:List Expr} {t:TA3} {ta:TE3} {pos p p' pos':Pos}
theorem qdrz(hu:X.A.units+64<cLine)(hm:X.mg "sorted" = none)(ha:QA X (e::es) t)(hc:X.calm=true:=by rfl)(hg:Gl X "sorted":=by rfl)(he:notStar e=true:=by rfl)(hpl:es.all notStar=true:=by rfl):QE X (.Call (.Name "sorted" p) (e::es) [] pos) (eCB qbdz t):=⟨qqyz (hu:=hu) (hm:=hm) (ha:=ha.of) (hc:=hc) (hg:=hg) (he:=he) (hpl:=hpl)⟩
end
section
variable {X:Cx} {K:PySem.W.Frag} {e:Expr} {es:List Expr} {t:TA3} {ta:TE3} {pos p p' pos':Pos}
theorem qruz(hu:X.A.units+64<cLine)(ha:QE X e ta)(hm:X.mg "sorted" = none)(hm2:X.mg "set" = none)(hc:X.calm=true:=by rfl)(hg:Gl X "sorted":=by rfl)(hg2:Gl X "set":=by rfl)(he2:notStar e=true:=by rfl):QE X (.Call (.Name "sorted" p) [.Call (.Name "set" p') [e] [] pos'] [] pos) (eSortSet ta):=⟨qqzz (hu:=hu) (ha:=ha.of) (hm:=hm) (hm2:=hm2) (hc:=hc) (hg:=hg) (hg2:=hg2) (he2:=he2)⟩
end
section
variable {X:Cx} {K:PySem.W.Frag} {e:Expr} {es:List Expr} {t:TA3} {ta:TE3} {pos p p' pos':Pos}
theorem qizz(hu:X.A.units+64<cLine)(hm:X.mg "all" = none)(ha:QA X (e::es) t)(hc:X.calm=true:=by rfl)(hg:Gl X "all":=by rfl)(he:notStar e=true:=by rfl)(hpl:es.all notStar=true:=by rfl):QE X (.Call (.Name "all" p) (e::es) [] pos) (eCB qcjz t):=⟨qq3z (hu:=hu) (hm:=hm) (ha:=ha.of) (hc:=hc) (hg:=hg) (he:=he) (hpl:=hpl)⟩
end
section
variable {X:Cx} {a b c:Expr} {ta:TE3} {tb:TA3} {p pos pos':Pos}
theorem qrvz(ha:QE X a ta)(hm:X.mg "range" = none)(hb:QA X [b] tb)(hg:Gl X "range":=by rfl)(hs:notStar b=true:=by rfl):QE X (.Compare a [.In] [.Call (.Name "range" p) [b] [] pos'] pos) (eInRng1 false ta tb):=⟨qrbz (ha:=ha.of) (hm:=hm) (hb:=hb.of) (hg:=hg) (hs:=hs)⟩
end
section
variable {X:Cx} {a b c:Expr} {ta:TE3} {tb:TA3} {p pos pos':Pos}
theorem qrwz(ha:QE X a ta)(hm:X.mg "range" = none)(hb:QA X [b,c] tb)(hg:Gl X "range":=by rfl)(hs:notStar b=true:=by rfl)(hs2:notStar c=true:=by rfl):QE X (.Compare a [.In] [.Call (.Name "range" p) [b,c] [] pos'] pos) (eInRng2 false ta tb):=⟨qrcz (ha:=ha.of) (hm:=hm) (hb:=hb.of) (hg:=hg) (hs:=hs) (hs2:=hs2)⟩
end
section
variable {X:Cx} {es:List Expr} {n0:Nat} {ps p pos:Pos}
theorem qrxz{a:Expr}{ta:TA3}(hm:X.mg "enumerate" = none)(ha:QA X [a] ta)(hg:Gl X "enumerate":=by rfl)(hs:notStar a=true:=by rfl):QI X (.Tuple es n0 ps) (.Call (.Name "enumerate" p) [a] [] pos) (iEnum ta):=⟨qrlz (hm:=hm) (ha:=ha.of) (hg:=hg) (hs:=hs)⟩
end
section
variable {X:Cx} {a b c e o:Expr} {es:List Expr} {ta tb tc te to:TE3} {t:TA3} {pos apos cpos p:Pos}
theorem qi0z{op op':CmpOp}{r r':R3}{r2 r2':R2}(L:LowR X.K r r2)(L':LowR X.K r' r2')(ho:OpR X (compareOp op) r2)(ho':OpR X (compareOp op') r2')(ha:QE X a ta)(hb:QE X b tb)(hc:QE X c tc)(hm:lastMarks [op,op'] [b,c]=false:=by with_unfolding_all rfl):
  QE X (.Compare a [op,op'] [b,c] pos) (eChain r r' ta tb tc):=⟨qnrz (op:=op) (op':=op') L L' (ql7z ho ho' ha.of hb.of hc.of hm)⟩
theorem qauz{name:Str}{id:String}{r:D->List D->Gp->V3->Prop}{r2:V->List V->Hp->VK->Prop}(L:LowM X.K r r2)(slot:Slot "list" name id)(hty:typeOf (.builtin id)=pure (.type "method_descriptor"))(hm:MtR X id r2)(ho:QE X o to)(ha:QA X (e::es) t)
  (hbase:attributeBase o name X.env (eval o X.env)=eval o X.env:=by rfl)
  (hfew:((backTo cpos (starEach (e::es) X.env)).all (fun x=>!x.1)&&(backToKw cpos (keywordEach [] X.env)).all (fun x=>x.1.isSome)
   && decide ((e::es).length+([]:List Keyword).length+(if ([]:List Keyword).isEmpty then 0 else 1)<30))=true:=by rfl)
  (hline:(apos.endLine==cpos.line)=true:=by rfl) (he:notStar e=true:=by rfl) (hpl:es.all notStar=true:=by rfl):
  QE X (.Call (.Attribute o name apos) (e::es) [] cpos) (eM r to t):=⟨qpiz L (qm8z PySem.F.plainAttrs_list slot hty hm ho.of ha.of hbase hfew hline (qjz he) (qvz hpl))⟩
end
section
variable {X:Cx} {tg iter elt:Expr} {ifs:List Expr} {scope:Scope} {own:List Str} {js:List Nat} {ti:TI3} {g:TG3} {tc:TT3} {te:TE3} {pos:Pos}
theorem qe4z(hc:X.calm=true)(C:CmpOk X.N X.env.scope scope own js)(hi:QI X tg iter ti)
  (hb:∀s H fp,QG (X.cmp scope own js s H fp) tg g/\QC (X.cmp scope own js s H fp) ifs tc/\QE (X.cmp scope own js s H fp) elt te)
  (hs:∀x,foldedSetIterable iter X.env x=pure x:=by intro _;rfl):QE X (.ListComp elt [⟨tg,iter,ifs,0⟩] scope pos) (eComp own js ti g tc te):=
 ⟨qouz hc C hi.of (fun s H fp=>⟨(hb s H fp).1.of,(hb s H fp).2.1.of,(hb s H fp).2.2.of⟩) hs⟩
theorem qi1z{i:Nat}{y:Str}{py spos:Pos}(hc:X.calm=true)(hN:X.N.Nodup)(C:CmpOk X.N X.env.scope scope own js)(hi:QI X tg iter ti)
  (hb:∀s H fp,QG (X.cmp scope own js s H fp) tg g/\QC (X.cmp scope own js s H fp) ifs tc/\QE (X.cmp scope own js s H fp) elt te) (hy:X.N[i]?=some y:=by rfl) (hyl:X.env.scope.names.lookup y=some .local:=by rfl)
  (hsw:swapsWith (.ListComp elt [⟨tg,iter,ifs,0⟩] scope pos) (some (.Name y py)) spos.line X.env=pure true:=by rfl)
  (hs:∀x,foldedSetIterable iter X.env x=pure x:=by intro _;rfl):QS X (.Assign [.Name y py] (.ListComp elt [⟨tg,iter,ifs,0⟩] scope pos) spos) (sAsg (eComp own js ti g tc te) (hName i)):=
 ⟨qovz hc hN C hi.of (fun s H fp=>⟨(hb s H fp).1.of,(hb s H fp).2.1.of,(hb s H fp).2.2.of⟩) hy hyl hsw hs⟩
end
theorem qfn3{P:Program}{w:World}{K:PySem.W.Frag}{mg:Str->Option Value}{base:Heap}{x qual:Str}{st:Stmt}{f:Addr}{fd:FuncData}{N ps:List Str}{k:Nat}{sp:Sp3}(F:Fun K x qual st f fd)(S:FnScope N ps (defScope st))(hN:ps.length≤N.length)(len:∀ds G Q,sp ds G Q->ds.length=ps.length)(tb:TS3)
  (hbody:∀(cdv:Value) (A:Around) (outer:List Env) (s:Shared) (H:Hp) (E:XK),Room k (A.deeper (envOfC qual (defScope st) s.heap.objs.size f cdv)) ->
   QSs (cxOf CX0 P w K mg base N qual (defScope st) f cdv A outer s H E).nox (defBody st) tb)
  (hrd:∀ds G Q,sp ds G Q->tb (endsOf Q) (start3 N ds) G):FnOk3 P w K mg base (k+1) f fd ps sp:=fn3 F S hN len tb (fun cdv A outer s H E hr=>(hbody cdv A outer s H E hr).of) hrd
end L3
namespace L2
open PySem
open Sem (wp)
section
variable {prog:Program} {w:World} {A:Around} {E:Value->Shared->Prop} {h:Heap} {g:Array GenState} {d:Drawn} {t:Nat} {os:OsState}
variable {nm q:Str} {C N:Addr} {bs bm bmB:List Value} {hdct:Bool} {sn:List Str} {sub:List Value} {ab:Bool} {col:Option Bool} {dd:Option Addr} {k0 k1 k2 k3 k5:Option Value} {B newId initId:String}
def excHeap(h:Heap)(C:Addr)(rest:List Value):Heap:=(h.push { cls:=.type "tuple",data:=.seq rest.toArray }).push { cls:=.ref C,data:=.fields #[.ref h.objs.size,.none,.none,.none,.bool false,.none]}
theorem qryz(F:ExcBaseFacts B newId initId bmB)(T:OwnTail h bmB bm){mN:Str->Option Value}{rest:List Value}{f:Addr}{of:Obj}{Q:Fin->Shared->Prop}
  (hC:h.get? C=some (excClassObj nm q C N bs bm hdct sn sub ab col dd k0 k1 k2 k3 k5 newId)) (hn:h.Ns N mN) (hni:mN "__init__" = some (.ref f)) (hf:h.get? f=some of) (hfc:of.cls=.type "function")
  (hq:codeAny (model prog w) A (.call (.ref f) ⟨.ref (h.objs.size+1)::rest,[]⟩) (fun r s'=>match r with
   |.ok (.ret v)=>v=.none/\Q (.done (.ret (.ref (h.objs.size+1)))) s'
   |.ok _=>False
   | .error e=>E e s') ⟨excHeap h C rest,g,d,t,os⟩) (hrest:rest.length≤sizeLine:=by size_fits):
  wpAny (model prog w) A (Builtin.«type.__call__» ⟨.ref C::rest,[]⟩) Q E ⟨h,g,d,t,os⟩:=by
 repeat (first|with_reducible refine wpAny_loadPart_at hC ?_|with_reducible refine wpAny_madeBy_exc hC ?_|wp_step)
 refine codeAny_call_builtin_code (Code.quiet_builtin _ F.quiet) (wpAny_check_new_subT F T hC ?_);refine codeAny_exc_new_subT F T hC ?_ hrest;show wpAny _ _ _ _ _ _;have hC₁:=Heap.get?_push_of_some { cls:=.ref C,data:=.fields #[.ref h.objs.size,.none,.none,.none,.bool false,.none]}
  (Heap.get?_push_of_some { cls:=.type "tuple",data:=.seq rest.toArray } hC)
 have hf₁:=Heap.get?_push_of_some { cls:=.ref C,data:=.fields #[.ref h.objs.size,.none,.none,.none,.bool false,.none]}
  (Heap.get?_push_of_some { cls:=.type "tuple",data:=.seq rest.toArray } hf)
 have hn₁:((h.push { cls:=.type "tuple",data:=.seq rest.toArray }).push { cls:=.ref C,data:=.fields #[.ref h.objs.size,.none,.none,.none,.bool false,.none]}).Ns N mN:=
  let ⟨o,es,ep,e,r⟩:=hn;⟨o,es,ep,Heap.get?_push_of_some _ (Heap.get?_push_of_some _ e),r⟩
 have hget:((h.push { cls:=.type "tuple",data:=.seq rest.toArray }).push
   { cls:=.ref C,data:=.fields #[.ref h.objs.size,.none,.none,.none,.bool false,.none]}).get? (h.objs.size+1)=some
   { cls:=.ref C,data:=.fields #[.ref h.objs.size,.none,.none,.none,.bool false,.none]}:=by heap_get
 have hcC:(Value.ref C::bm).contains (.ref C)=true:=by simp
 have T₁:=T.keeps (h':=(h.push { cls:=.type "tuple",data:=.seq rest.toArray }).push { cls:=.ref C,data:=.fields #[.ref h.objs.size,.none,.none,.none,.bool false,.none]})
  fun b o e=>Heap.get?_push_of_some _ (Heap.get?_push_of_some _ e)
 unfold isInstance
 repeat (first|with_reducible refine wpAny_loadPart_at hget ?_|(with_reducible refine wpAny_isSubtype_exc hC₁ ?_;rw[hcC])|wp_step)
 show wpAny _ _ (typeLookup (.ref C) _) _ _ _;refine wpAny_typeLookup_tail hC₁ hn₁ T₁ F.mroIs F.init.lookup ?_;rw[hni];refine wpAny_holding (wpAny_bind (wpAny_bindSpecial_def hf₁ hfc ?_));refine wpAny_bind (wpAny_call (codeAny_mono hq fun r s' hr=>?_));cases r with
 |error e=>exact hr
 |ok fl=>
  cases fl with
  |ret v=>
   obtain⟨rfl,hr⟩:=hr;refine wpAny_pure ?_;show wpAny _ _ (ret (Value.ref (h.objs.size+1))) _ _ _;exact wpAny_pure hr
  |next=>exact hr.elim
  |brk=>exact hr.elim
  |cont=>exact hr.elim
theorem qrzz(F:ExcBaseFacts B newId initId bmB)(T:OwnTail h bmB bm){mN:Str->Option Value}{rest:List Value}{f:Addr}{of:Obj}{Q:Value->Shared->Prop}
  (hC:h.get? C=some (excClassObj nm q C N bs bm hdct sn sub ab col dd k0 k1 k2 k3 k5 newId)) (hn:h.Ns N mN) (hni:mN "__init__" = some (.ref f)) (hf:h.get? f=some of) (hfc:of.cls=.type "function")
  (hq:codeAny (model prog w) (A.under (.builtin "type.__call__" ⟨.ref C::rest,[]⟩)) (.call (.ref f) ⟨.ref (h.objs.size+1)::rest,[]⟩) (fun r s'=>match r with
   |.ok (.ret v)=>v=.none/\Q (.ref (h.objs.size+1)) s'
   |.ok _=>False
   | .error e=>E e s') ⟨excHeap h C rest,g,d,t,os⟩) (hrest:rest.length≤sizeLine:=by size_fits):
  wpAny (model prog w) A (call (.ref C) rest) Q E ⟨h,g,d,t,os⟩:=by
 have f1:=tc_lookup;have f2:=tc_bind (.ref C);have hT:(⟨h,g,d,t,os⟩:Shared).TypeIs (.ref C) "type":=⟨_,hC,rfl⟩;refine wpAny_call (codeAny_of_tree ?_);show wpAny _ _ (callAny (.ref C) _) _ _ _
 repeat (any_goals (first|assumption|with_reducible refine wpAny_loadPart_at hC ?_|wp_step))
 refine⟨rfl,?_⟩;refine codeAny_call_builtin_at (Code.quiet_builtin _ (by decide +kernel)) entry_typeCall (wpAny_check_type_call_sub hC ?_);refine qryz F T hC hn hni hf hfc (codeAny_mono hq fun r s' hr=>?_) hrest;cases r with
 |error e=>exact hr
 |ok fl=>
  cases fl with
  |ret v=>exact hr
  |next=>exact hr.elim
  |brk=>exact hr.elim
  |cont=>exact hr.elim
end
end L2
namespace L2
open PySem
open Sem (wp)
structure TracedD(base h:Heap)(e T:Addr)(cls:Value)(dx:Option Addr):Prop where
 obj:∃oe vs,h.get? e=some oe/\oe.cls=cls/\oe.dict=dx/\oe.data=.fields vs/\vs[1]?=some (.ref T)/\vs[2]?=some .none
 fresh:base.get? T=none
 ne:T≠e
 ent:∃oT ts,h.get? T=some oT/\oT.data=.fields ts/\ts[3]?=some .none
structure LeftD(base:Heap)(l:List Env)(e T₀:Addr)(cls:Value)(dx:Option Addr)(h h':Heap):Prop where
 stays:base.StaysIn h'
 funs:h'.FunFrames base l
 traced:∃T,TracedD base h' e T cls dx/\h.get? T=none
 keep:∀b o,b≠e->b≠T₀->b∉frs l->h.get? b=some o->h'.get? b=some o
 slot:∀b o,b∈frs l->h.get? b=some o->∃sl,h'.get? b=some { o with slots:=sl }
section
variable {M:Model} {A:Around} {E:Value->Shared->Prop} {s:Shared}
theorem newEntryD{base:Heap}{env:Env}{outer:List Env}{L e:Addr}{oe:Obj}{vs:Array Value}{head:Value}{hadNext:Bool}{Q:Unit->Shared->Prop}
  (hfr:A.frames=some (env::outer)) (hl:s.heap.FunFrames base (env::outer)) (hf:env.frame=some L)
  (he:s.heap.get? e=some oe) (hkb:base.StaysIn s.heap) (hen:base.get? e=none) (hd:oe.data=.fields vs) (hsz:1<vs.size) (h2:vs[2]?=some .none)
  (h:∀h',LeftD base (env::outer) e e oe.cls oe.dict s.heap h'->Q () { s with heap:=h' }):
  wpAny M A (do let a ←frameOf env;let pl ←entryPlaceOf L hadNext;let b ←EntryCells.newEntry head a .none (rawInt L) .none pl;setField (.ref e) 1 b) (fun _ s'=>wpAny M A (setFlight (.ref e) none) Q E s') E s:=by
 have hene:e∉(env::outer).filterMap (·.frame):=fun hm=>by
  obtain⟨_,o,ho,hnf⟩:=hl.mem hm;rw[he] at ho;injection ho with ho;subst ho;exact hnf vs hd
 refine wpAny_bind (wpAny_frameOf_fun hfr hl hf fun h₁ hs₁=>?_);refine wpAny_bind (wpAny_entryPlaceOf fun pl hpl=>?_);unfold EntryCells.newEntry newFields;refine wpAny_bind (wpAny_newObj_type ?_ (hpl.sizeOk5 _ _ _ _ _));have he₁:h₁.get? e=some oe:=(hs₁.2.1 e hene).trans he;have kb₁:base.StaysIn h₁:=fun b o hbo=>(hs₁.2.1 b fun hm=>by rw[(hl.mem hm).1] at hbo;cases hbo).trans (hkb b o hbo);have he₂:=Heap.get?_push_of_some (h:=h₁) { cls:=.type "traceback",dict:=none,data:=.fields ([head,.ref L,.none,rawInt L,.none]++(if pl.isEmpty then List.replicate 6 Value.none else pl)).toArray } he₁;refine wpAny_setField he₂ hd hsz ?_;have hTe:h₁.objs.size≠e:=Nat.ne_of_gt (Heap.lt_size he₁);have hd₃:=Obj.data_mapFields hd (·.setIfInBounds 1 (Value.ref h₁.objs.size));have he₃:=Heap.get?_update_self (Obj.mapFields (·.setIfInBounds 1 (Value.ref h₁.objs.size))) he₂ (Obj.isFreed_of_fields hd₃);have hT₃:=(Heap.get?_update_other (h₁.push { cls:=.type "traceback",dict:=none,data:=.fields ([head,.ref L,.none,rawInt L,.none]++(if pl.isEmpty then List.replicate 6 Value.none else pl)).toArray })
  (Obj.mapFields (·.setIfInBounds 1 (Value.ref h₁.objs.size))) (Ne.symm hTe)).trans (Heap.get?_push_size h₁ rfl)
 unfold setFlight;refine wpAny_bind (wpAny_field he₃ hd₃ (x:=.ref h₁.objs.size) (by simp[hsz]) ?_);rw[if_pos (show (Value.ref h₁.objs.size != Value.none)=true from by simp)];refine wpAny_setField hT₃ rfl (by simp only[List.size_toArray,List.length_append,List.length_cons,List.length_nil]<;>omega) (h _ ?_)
 have keep:∀b o,b≠e->h₁.get? b=some o ->
   (((h₁.push { cls:=.type "traceback",dict:=none,data:=.fields ([head,.ref L,.none,rawInt L,.none]++(if pl.isEmpty then List.replicate 6 Value.none else pl)).toArray }).update e (Obj.mapFields (·.setIfInBounds 1 (Value.ref h₁.objs.size)))).update h₁.objs.size
    (Obj.mapFields (·.setIfInBounds 3 ((none:Option Addr).elim Value.none fun f=>rawInt f)))).get? b=some o:=fun b o hbe hb=>by
  have hbT:h₁.objs.size≠b:=Nat.ne_of_gt (Heap.lt_size hb);rw[Heap.get?_update_other _ _ hbT,Heap.get?_update_other _ _ (Ne.symm hbe)];exact Heap.get?_push_of_some _ hb
 have noRecord:∀b o,s.heap.get? b=some o->(∀vs,o.data≠.fields vs)->b≠e:=fun b o hb hnf q=>by
  rw[q,he] at hb;injection hb with hb;subst hb;exact hnf vs hd
 refine⟨fun b o hbo=>keep b o (fun q=>by rw[q,hen] at hbo;cases hbo) (kb₁ b o hbo),hl.of_keeps fun b o hb hnf=>?_,⟨h₁.objs.size,⟨⟨_,_,?_,Obj.cls_mapFields _ _,?_,hd₃,by simp[hsz],by rw[Array.getElem?_setIfInBounds_ne (by decide)];exact h2⟩,kb₁.fresh,hTe,_,_,Heap.get?_update_self _ hT₃ (Obj.isFreed_of_fields (Obj.data_mapFields rfl _)),Obj.data_mapFields rfl _,by first|(simp;done)|(rcases hpl with rfl|⟨_,_,_,_,_,_,_,rfl⟩<;>simp)⟩,?_⟩,fun b o hbe _ hbf hb=>?_,fun b o hbf hb=>?_⟩
 ·obtain⟨sl,hs⟩:=hs₁.2.2 b o hb;exact⟨_,keep b _ (noRecord b o hb hnf) hs,rfl⟩
 ·rw[Heap.get?_update_other _ _ hTe];exact he₃
 ·obtain⟨c0,d0,dt0,s0⟩:=oe;cases dt0<;>rfl
 ·exact Heap.get?_none_of_le (by rw[hs₁.1];exact Nat.le_refl _)
 ·exact keep b o hbe ((hs₁.2.1 b hbf).trans hb)
 ·obtain⟨sl,hs⟩:=hs₁.2.2 b o hb;refine⟨sl,keep b _ (fun q=>?_) hs⟩;rw[q] at hbf;exact hene hbf
theorem qr0z{base:Heap}{env:Env}{outer:List Env}{L e:Addr}{oe:Obj}{vs:Array Value}{Q:Unit->Shared->Prop}
  (hfr:A.frames=some (env::outer)) (hl:s.heap.FunFrames base (env::outer)) (hf:env.frame=some L)
  (he:s.heap.get? e=some oe) (hkb:base.StaysIn s.heap) (hen:base.get? e=none) (hd:oe.data=.fields vs) (h1:vs[1]?=some .none) (h2:vs[2]?=some .none)
  (h:∀h',LeftD base (env::outer) e e oe.cls oe.dict s.heap h'->Q () { s with heap:=h' }):wpAny M A (leaving env (.ref e)) Q E s:=by
 unfold leaving noteFrame;simp only[hf];refine wpAny_bind (wpAny_bind (wpAny_field he hd h1 ?_));rw[if_neg (by decide)];exact newEntryD hfr hl hf he hkb hen hd (Array.getElem?_eq_some_iff.mp h1).1 h2 h
end
end L2
namespace L2
open PySem PySem.Spec PyProof.Rows
def CXE(P:Program)(w:World)(base:Heap):CXT:=fun outer H s E ev s'=>∃(e T C:Addr) (dx:Option Addr) (H':Hp),ev=.ref e/\s'.os=s.os/\AllBare s'.gens/\Un (frs outer) [] H H' s.heap s'.heap/\HOk P w H' s'.heap ∧
 TracedD base s'.heap e T (.ref C) dx/\(H' e=none/\H' T=none)/\base.get? e=none/\(s.heap.get? e=none/\s.heap.get? T=none)/\E (.ref C) dx H'
theorem ObjOk.there{P:Program}{w:World}{H:Hp}{h:Heap}{a:Addr}{o:HO}(x:ObjOk P w H h a o):∃ob,h.get? a=some ob:=by
 cases o with
 |lst xs=>obtain⟨_,_,_,_,e⟩:=x;exact⟨_,e⟩
 |tup xs=>obtain⟨_,_,_,ob,e,_⟩:=x;exact⟨_,e⟩
 |dK kvs=>obtain⟨_,_,_,_,o,_,_,e,_⟩:=x;exact⟨_,e⟩
 |dT kvs=>obtain⟨_,_,_,_,o,_,_,e,_⟩:=x;exact⟨_,e⟩
 |set S n=>obtain⟨o,_,_,_,e,_⟩:=x;exact⟨_,e⟩
 |ins C dx fs=>obtain⟨_,_,_,e,_⟩:=x;exact⟨_,e⟩
 |own y=>exact x
 |xd fs=>obtain⟨_,⟨_,_,_,e,_⟩,_⟩:=x;exact⟨_,e⟩
 |rng lo hi=>obtain⟨_,_,_,e⟩:=x;exact⟨_,e⟩
 |frz ob u=>obtain⟨e,_⟩:=x;exact⟨_,e⟩
 |tbl ps=>exact⟨_,(show h.get? a=some _ from x)⟩
 |met f y=>exact⟨_,(show h.get? a=some _ from x)⟩
 |ext φ=>exact x.2.1
section
variable {X:Cx} {pins:List (Addr×Obj)} {σ:St} {H:Hp} {s:Shared}
theorem Inv.left(I:Inv X pins σ H s)(hex:X.ex=[])(hst:X.stack=X.env::X.outer)(hfr:X.env.frame=some X.env.locals){e T₀:Addr}{cls:Value}{dx:Option Addr}{h':Heap}(L:LeftD X.base X.stack e T₀ cls dx s.heap h')
  (he:X.s₀.heap.get? e=none) (hT:X.s₀.heap.get? T₀=none) (hHe:H e=none) (hHT:H T₀=none):
  Un (frs X.outer) [] X.H₀ H X.s₀.heap h'/\HOk X.prog X.w H h':=by
 have hloc:X.s₀.heap.get? X.env.locals=none:=Heap.get?_none_of_le I.ok.above;have sub:∀b,b∈frs X.stack->b=X.env.locals∨b∈frs X.outer:=fun b hb=>List.mem_cons.mp (I.stkSub b hb);have ne:∀{b c:Addr} {o:Obj},X.s₀.heap.get? b=some o->X.s₀.heap.get? c=none->b≠c:=fun h1 h2 z=>by
  rw[z,h2] at h1;cases h1
 have nox:∀b:Addr,b∉X.ex:=fun b z=>by
  rw[hex] at z;cases z
 have supF:∀b,b∈frs X.outer->b∈frs X.stack:=fun b hb=>by
  rw[hst];unfold frs;rw[List.filterMap_cons,hfr];exact List.mem_cons_of_mem _ hb
 refine⟨⟨fun b o h1 h2 h3 _=>?_,fun b o h1 h2 h3 _=>?_,fun b o h1 h2 _=>I.base.free b o h1 h2 (nox b),fun b o h1 _=>?_,I.base.tups,I.base.frzs,I.base.tbls⟩,fun a o ha=>?_⟩
 ·have k1:=I.base.keep b o h1 h2 h3 (nox b);refine L.keep b o (ne h1 he) (ne h1 hT) (fun z=>?_) k1;rcases sub b z with z|z
  ·exact ne h1 hloc z
  ·exact h3 z
 ·obtain⟨sl,k1⟩:=I.base.slot b o h1 h2 h3 (nox b);obtain⟨sl',k2⟩:=L.slot b _ (supF b h3) k1;exact⟨sl',k2⟩
 ·obtain⟨o',k1⟩:=I.base.there b o h1 (nox b);by_cases hb:b∈frs X.stack
  ·obtain⟨sl,k2⟩:=L.slot b o' hb k1;exact⟨_,k2⟩
  ·exact⟨o',L.keep b o' (ne h1 he) (ne h1 hT) hb k1⟩
 ·refine (I.hok a o ha).stay (fun b u hb q=>?_) (fun _ q=>q) fun _ _ q=>q;have hHb:H b≠none:=by
   rcases hb with rfl|hb
   ·rw[ha];simp
   ·rw[hb];simp
  exact L.keep b u (fun z=>hHb (z▸hHe)) (fun z=>hHb (z▸hHT)) (fun z=>hHb (I.stkFree b z)) q
theorem Inv.fly(I:Inv X pins σ H s)(hex:X.ex=[])(hst:X.stack=X.env::X.outer)(hfr:X.env.frame=some X.env.locals){e C:Addr}{oe:Obj}{vs:Array Value}{E:XK}(he:s.heap.get? e=some oe)(hc:oe.cls=.ref C)(hd:oe.data=.fields vs)(h1:vs[1]?=some .none)(h2:vs[2]?=some .none)
  (h0:X.s₀.heap.get? e=none) (hHe:H e=none) (q:E (.ref C) oe.dict H) {R:Value->Shared->Prop}:
  wpAny (model X.prog X.w) X.A (leaving X.env (.ref e)) (fun _ s'=>CXE X.prog X.w X.base X.outer X.H₀ X.s₀ E (.ref e) s') R s:=by
 have hen:X.base.get? e=none:=by
  cases hq:X.base.get? e with
  |none=>rfl
  |some o=>
   have:=(I.ok.bs e o hq).1;rw[h0] at this;cases this
 refine qr0z (base:=X.base) (by rw[I.ok.frames,hst]) (by rw[←hst];exact I.stack) hfr he I.bk hen hd h1 h2 fun h' L=>?_;rw[←hst,hc] at L;obtain⟨u,ok⟩:=I.left hex hst hfr L h0 h0 hHe hHe;obtain⟨T,tr,hT⟩:=L.traced;have hTs:X.s₀.heap.get? T=none:=by
  cases hq:X.s₀.heap.get? T with
  |none=>rfl
  |some o=>
   obtain⟨o',e'⟩:=I.base.there T o hq (by rw[hex];simp);rw[hT] at e';cases e'
 have hHT:H T=none:=by
  cases hq:H T with
  |none=>rfl
  |some o=>
   obtain⟨ob,e'⟩:=ObjOk.there (I.hok T o hq);rw[hT] at e';cases e'
 exact⟨e,T,C,oe.dict,H,rfl,I.os,I.bare,u,ok,tr,⟨hHe,hHT⟩,hen,⟨h0,hTs⟩,q⟩
theorem qr1z{P:Program}{w:World}{K:PySem.W.Frag}{mg:Str->Option Value}{base:Heap}{N:List Str}{qual:Str}{scope:Scope}{f:Addr}{cd:Value}{A:Around}{outer:List Env}{s:Shared}{H:Hp}{E:XK}:
  PassesOwn (model P w) (cxOf (CXE P w base) P w K mg base N qual scope f cd A outer s H E).A (cxOf (CXE P w base) P w K mg base N qual scope f cd A outer s H E).env (cxOf (CXE P w base) P w K mg base N qual scope f cd A outer s H E).xe:=PassesOwn.leaving
end
end L2
namespace L2
open PySem PySem.Spec PyProof.Rows
structure Body(X:Cx)(E:XK):Prop where
 ex:X.ex=[]
 st:X.stack=X.env::X.outer
 fr:X.env.frame=some X.env.locals
 xe:∀e s',wpAny (model X.prog X.w) X.A (leaving X.env e) (fun _ s''=>CXE X.prog X.w X.base X.outer X.H₀ X.s₀ E e s'') (fun e' s''=>CXE X.prog X.w X.base X.outer X.H₀ X.s₀ E e' s'') s'->X.xe e s'
theorem qr2z{P:Program}{w:World}{K:PySem.W.Frag}{mg:Str->Option Value}{base:Heap}{N:List Str}{qual:Str}{scope:Scope}{f:Addr}{cd:Value}{A:Around}{outer:List Env}{s:Shared}{H:Hp}{E:XK}:
  Body (cxOf (CXE P w base) P w K mg base N qual scope f cd A outer s H E) E:=⟨rfl,rfl,rfl,fun _ _ h=>h⟩
section
variable {X:Cx} {E:XK}
theorem Body.throw(B:Body X E){pins:List (Addr×Obj)}{σ:St}{H:Hp}{s:Shared}{e C:Addr}{oe:Obj}{vs:Array Value}(I:Inv X pins σ H s)(he:s.heap.get? e=some oe)(hc:oe.cls=.ref C)(hd:oe.data=.fields vs)(h1:vs[1]?=some .none)(h2:vs[2]?=some .none)
  (h0:X.s₀.heap.get? e=none) (hHe:H e=none) (q:E (.ref C) oe.dict H):X.xe (.ref e) s:=B.xe _ _ (I.fly B.ex B.st B.fr he hc hd h1 h2 h0 hHe q)
theorem qi2z{pins:List (Addr×Obj)}{σ:St}{H:Hp}{s:Shared}(I:Inv X pins σ H s){e:Addr}(h:s.heap.get? e=none):H e=none:=by
 cases hq:H e with
 |none=>rfl
 |some o=>
  obtain⟨ob,e'⟩:=ObjOk.there (I.hok e o hq);rw[h] at e';cases e'
theorem qi3z{pins:List (Addr×Obj)}{σ:St}{H:Hp}{s:Shared}(B:Body X E)(I:Inv X pins σ H s){e:Addr}(h:s.heap.get? e=none):X.s₀.heap.get? e=none:=by
 cases hq:X.s₀.heap.get? e with
 |none=>rfl
 |some o=>
  obtain⟨o',e'⟩:=I.base.there e o hq (by rw[B.ex];simp);rw[h] at e';cases e'
end
end L2
namespace L3
open PySem PySem.Spec PyProof.Rows L2
def vis:HO->Bool
 |.tup _=>true
 |.frz _ (.lst _)=>true
 |.frz _ (.tup _)=>true
 |.frz _ (.xd _)=>true
 |.frz _ (.ext _)=>true
 |_=>false
def hide(H:Hp):Hp:=fun a=>match H a with
 |some o=>if vis o then some o else none
 |none=>none
def joined(H H':Hp):Hp:=fun a=>match H a with
 |some o=>if vis o then H' a else some o
 |none=>H' a
section
variable {P:Program} {w:World} {H H':Hp} {h h':Heap} {a b:Addr} {o:HO} {fs:List Addr}
theorem qe5z(e:H a=none):hide H a=none:=by simp[hide,e]
theorem qbwz(e:H a=some o)(v:vis o=true):hide H a=some o:=by simp[hide,e,v]
theorem qi4z(e:H a=some o)(v:vis o=false):hide H a=none:=by simp[hide,e,v]
theorem qr3z(e:hide H a=some o):H a=some o/\vis o=true:=by
 unfold hide at e;cases q:H a with
 |none=>simp[q] at e
 |some u=>
  simp only[q] at e;cases v:vis u with
  |true=>
   rw[v,if_pos rfl] at e;cases e;exact⟨rfl,v⟩
  |false=>
   rw[v] at e;simp at e
theorem qanz(e:H a=none):joined H H' a=H' a:=by simp[joined,e]
theorem qavz(e:H a=some o)(v:vis o=true):joined H H' a=H' a:=by simp[joined,e,v]
theorem qaez(e:H a=some o)(v:vis o=false):joined H H' a=some o:=by simp[joined,e,v]
theorem qr4z{H2:Hp}(v:vis o=true)(x:ObjOk P w H h a o):ObjOk P w H2 h a o:=by
 cases o with
 |tup xs=>obtain⟨z,its,r,p⟩:=x;exact⟨z,its,r,p⟩
 |frz ob u=>
  cases u with
  |lst xs=>obtain⟨e,z,its,n,r,p⟩:=x;exact⟨e,z,its,n,r,p⟩
  |tup xs=>obtain⟨e,z,its,r,p⟩:=x;exact⟨e,z,its,r,p⟩
  |xd fs=>obtain⟨e,mA,r,p⟩:=x;exact⟨e,mA,r,p⟩
  |ext φ=>exact x
  |_=>cases v
 |_=>cases v
variable (ok:HOk P w H h) (hfs:∀b∈fs,H b=none) (u:Un fs [] (hide H) H' h h') (ok':HOk P w H' h')
include ok u
theorem qi5z(e:H b=some o)(v:vis o=false):H' b=none:=by
 obtain⟨ob,q⟩:=ObjOk.there (ok b o e);exact u.free b ob q (qi4z e v) (by simp)
theorem qa3z(e:H' b=some o):joined H H' b=some o:=by
 cases q:H b with
 |none=>rw[qanz q];exact e
 |some x=>
  cases v:vis x with
  |true=>rw[qavz q v];exact e
  |false=>
   rw[qi5z ok u q v] at e;cases e
include hfs ok'
theorem qi6z:Un fs [] H (joined H H') h h'/\HOk P w (joined H H') h':=by
 have kept:∀b x ob,H b=some x->vis x=false->h.get? b=some ob->h'.get? b=some ob:=fun b x ob e v q=>
  u.keep b ob q (qi4z e v) (fun z=>by rw[hfs b z] at e;cases e) (by simp)
 refine⟨⟨fun b ob q n h3 h4=>u.keep b ob q (qe5z n) h3 h4,fun b ob q n h3 h4=>u.slot b ob q (qe5z n) h3 h4,fun b ob q n h3=>by rw[qanz n];exact u.free b ob q (qe5z n) h3,
  fun b ob q h3=>u.there b ob q h3,fun b xs e=>qa3z ok u (u.tups b xs (qbwz e rfl)),fun b ob x e=>?_,fun b ps e=>⟨#[],by rw[Array.append_empty];exact qaez e rfl⟩⟩,fun b x e=>?_⟩
 ·cases v:vis (.frz ob x) with
  |true=>exact qa3z ok u (u.frzs b ob x (qbwz e v))
  |false=>exact qaez e v
 ·have mono:H' b=some x->ObjOk P w (joined H H') h' b x:=fun z=>(ok' b x z).stay (fun _ _ _ q=>q) (fun c q=>qa3z ok u q) (fun c xs q=>qa3z ok u q);cases q:H b with
  |none=>
   rw[qanz q] at e;exact mono e
  |some y=>
   cases v:vis y with
   |true=>
    rw[qavz q v] at e;exact mono e
   |false=>
    rw[qaez q v] at e;obtain rfl:=Option.some.inj e;refine (ok b _ q).stay (fun c ob hc z=>?_) (fun c z=>qaez z rfl) (fun c xs z=>qa3z ok u (u.tups c xs (qbwz z rfl)));rcases hc with rfl|hc
    ·exact kept _ _ _ q v z
    ·exact kept _ _ _ hc rfl z
end
abbrev noG:Gp:=fun _=>none
def both(G1 G':Gp):Gp:=fun a=>match G1 a with
 |some o=>some o
 |none=>G' a
abbrev E3:=Str->List (Str×Int)->Prop
def ClsN(K:PySem.W.Frag)(x:Str)(C:Addr):Prop:=PySem.W.nsIn K mainGlobals x=some (some (.ref C))
def DictIs(H:Hp)(dx:Option Addr)(fs:List (Str×Int)):Prop:=(dx=none/\fs=[])∨∃d o,dx=some d/\H d=some (.frz o (.xd (fs.map fun p=>(p.1,V.int p.2))))
def lowE(K:PySem.W.Frag)(E:E3):XK:=fun cls dx H=>∃x C fs,cls=.ref C/\ClsN K x C/\E x fs/\DictIs H dx fs
abbrev SpX:=List D->V3->E3->Prop
def lowX(K:PySem.W.Frag)(sp:SpX):Sp:=fun vs H Q E=>∃ds Q3 E',Hvs K H ds vs/\(∀a o,H a=some o->vis o=true)/\sp ds Q3 E'/\(∀v H' d G',Hv K H' d v->Step H noG H' G'->RepG K G' H'->Q3 d G'->Q v H')/\∀cls dx H',lowE K E' cls dx H'->E cls dx H'
abbrev FnX(P:Program)(w:World)(K:PySem.W.Frag)(mg:Str->Option Value)(base:Heap)(k:Nat)(f:Addr)(fd:FuncData)(ps:List Str)(sp:SpX):Prop:=FnOk P w K mg base (CXE P w base) k f fd ps (lowX K sp)
structure Joins(G1 G' G2:Gp):Prop where
 old:Sub G1 G2
 new:Sub G' G2
 out:∀a,G' a≠none->G1 a=none
section
variable {X:Cx} {k:Nat} {f:Addr} {fd:FuncData} {ps:List Str} {sp:SpX} {E:E3} {x:Str} {p pos:Pos} {e:Expr} {es:List Expr} {t:TA3}
theorem qr5z{K:PySem.W.Frag}{P:Program}{w:World}{fs:List Addr}{H H':Hp}{h h':Heap}{G1 G':Gp}{d:D}{v:V}(ok:HOk P w H h)(hfs:∀b∈fs,H b=none)(u:Un fs [] (hide H) H' h h')(ok':HOk P w H' h')
  (R1:RepG K G1 H) (hv:Hv K H' d v) (S:Step (hide H) noG H' G') (R':RepG K G' H'):
  Hv K (joined H H') d v/\Step H G1 (joined H H') (both G1 G')/\RepG K (both G1 G') (joined H H')/\Joins G1 G' (both G1 G'):=by
 have E2:Ext H' (joined H H'):=⟨fun b xs e=>qa3z ok u e,fun b o x e=>qa3z ok u e⟩;have E1:Ext H (joined H H'):=by
  obtain⟨u2,_⟩:=qi6z ok hfs u ok';exact⟨u2.tups,u2.frzs⟩
 have outG:∀a,G' a≠none->H a=none:=fun a n=>by
  have z:hide H a=none:=S.new a rfl n;cases q:H a with
  |none=>rfl
  |some o=>
   cases v:vis o with
   |true=>rw[qbwz q v] at z;cases z
   |false=>
    have:=qi5z ok u q v;cases q':G' a with
    |none=>exact absurd q' n
    |some g=>
     obtain⟨o',z',_⟩:=(R' a g q').mut;rw[this] at z';cases z'
 have out1:∀a,G' a≠none->G1 a=none:=fun a n=>R1.free (outG a n);refine⟨hv.ext E2,⟨fun a o e n=>?_,fun a n=>?_,fun a n q=>?_⟩,fun a g e=>?_,⟨fun a o e=>by simp[both,e],fun a o e=>by simp[both,out1 a (by rw[e];simp),e],out1⟩⟩
 ·cases v:vis o with
  |true=>
   rw[qavz e v];exact S.fr a o (qbwz e v) rfl
  |false=>exact qaez e v
 ·cases q:H a with
  |none=>exact absurd q n
  |some o=>
   cases v:vis o with
   |true=>
    rw[qavz q v];exact S.trk a (by rw[qbwz q v];simp)
   |false=>rw[qaez q v];simp
 ·simp only[both,n] at q;exact outG a q
 ·cases q:G1 a with
  |some o=>
   simp only[both,q] at e;cases e;obtain⟨o',z,h1,h2⟩:=(R1 a g q).mut;have hv:vis o'=false:=by
    cases o' with
    |tup xs=>exact absurd rfl (h1 xs)
    |frz ob y=>exact absurd rfl (h2 ob y)
    |_=>rfl
   exact (R1 a g q).ext E1 (by rw[qaez z hv,z])
  |none=>
   simp only[both,q] at e;have hn:=outG a (by rw[e];simp);exact (R' a g e).ext E2 (by rw[qanz hn])
theorem qi7z(G1:Gp):both G1 noG=G1:=by
 funext a;unfold both;cases G1 a<;>rfl
theorem qr6z{H H':Hp}{fs:List Addr}{h h':Heap}(u:Un fs [] (hide H) H' h h'):Step (hide H) noG H' noG:=by
 have fr:∀a o,hide H a=some o->H' a=some o:=fun a o e=>by
  obtain⟨_,v⟩:=qr3z e;cases o with
  |tup xs=>exact u.tups a xs e
  |frz ob y=>exact u.frzs a ob y e
  |_=>cases v
 refine⟨fun a o e _=>fr a o e,fun a n=>?_,fun a _ q=>absurd rfl q⟩;cases q:hide H a with
 |none=>exact absurd q n
 |some o=>rw[fr a o q];simp
def lowE2(K:PySem.W.Frag)(E:E3)(H:Hp)(G:Gp):XK:=fun cls dx H'=>lowE K E cls dx H'/\RepG K G H'/\Step H G H' G
theorem CXE.hid{P:Program}{w:World}{K:PySem.W.Frag}{base:Heap}{outer:List Env}{H:Hp}{s s':Shared}{G1:Gp}{ev:Value}(ok:HOk P w H s.heap)(hfs:∀b∈frs outer,H b=none)(R1:RepG K G1 H)(h:CXE P w base outer (hide H) s (lowE K E) ev s'):
  CXE P w base outer H s (lowE2 K E H G1) ev s':=by
 obtain⟨e,T,C,dx,H',rfl,os,bare,u,ok',tr,⟨hHe,hHT⟩,hen,⟨he0,hT0⟩,x,C',fs,ec,cn,q,dd⟩:=h;obtain⟨u2,ok2⟩:=qi6z ok hfs u ok';obtain⟨_,z2,z3,_⟩:=qr5z (G':=noG) (d:=.non) (v:=.non) ok hfs u ok' R1 (by simp[Hv]) (qr6z u) (fun _ _ e=>nomatch e);rw[qi7z] at z2 z3;have out:∀b,s.heap.get? b=none->H' b=none->joined H H' b=none:=fun b hb hn=>by
  cases hq:H b with
  |none=>rw[qanz hq];exact hn
  |some o=>
   obtain⟨ob,e'⟩:=ObjOk.there (ok b o hq);rw[hb] at e';cases e'
 refine⟨e,T,C,dx,joined H H',rfl,os,bare,u2,ok2,tr,⟨out _ he0 hHe,out _ hT0 hHT⟩,hen,⟨he0,hT0⟩,⟨x,C',fs,ec,cn,q,?_⟩,z3,z2⟩;rcases dd with⟨d1,d2⟩|⟨d,o,d1,d2⟩
 ·exact .inl ⟨d1,d2⟩
 ·exact .inr ⟨d,o,d1,qa3z ok u d2⟩
end
section
variable {P:Program} {w:World} {K:PySem.W.Frag} {mg:Str->Option Value} {base:Heap}
theorem fnX{x qual:Str}{st:Stmt}{f:Addr}{fd:FuncData}{N ps:List Str}{k:Nat}{sp:SpX}(F:Fun K x qual st f fd)(S:FnScope N ps (defScope st))(hN:ps.length≤N.length)(len:∀ds Q E,sp ds Q E->ds.length=ps.length)(tb:E3->TS3)
  (hbody:∀(cdv:Value) (A:Around) (outer:List Env) (s:Shared) (H:Hp) (E:XK) (E':E3),Room k (A.deeper (envOfC qual (defScope st) s.heap.objs.size f cdv))->(∀cls dx H',lowE K E' cls dx H'->E cls dx H') ->
   PSs3 (cxOf (CXE P w base) P w K mg base N qual (defScope st) f cdv A outer s H E) (defBody st) (tb E'))
  (hrd:∀ds Q E,sp ds Q E->tb E (endsOf Q) (start3 N ds) noG):FnX P w K mg base (k+1) f fd ps sp:=by
 obtain⟨oc,od,kV,doc,pm,an,cdv,ct,osl,rfl,lk,hcd⟩:=F.ex;refine qgrz lk hcd S (fun vs H Q E h=>?_) (fun A outer s H vs Q E hr h=>?_)
 ·obtain⟨ds,Q3,E',h1,_,h3,_⟩:=h;rw[←h1.length];exact len _ _ _ h3
 ·obtain⟨ds,Q3,E',h1,h2,h3,h4,h5⟩:=h;refine⟨_,hbody cdv A outer s H E E' hr h5,start3 N ds,noG,endsOf Q3,.start h1 ?_,(fun _ _ e=>nomatch e),hrd _ _ _ h3,⟨?_,?_,?_,?_⟩⟩
  ·rw[←h1.length,len _ _ _ h3];exact hN
  ·exact fun τ σ G' H' a b c ⟨G0,s0,q⟩=>h4 _ H' .non G0 (by simp[Hv]) (b.trans (.sub s0)) (c.sub s0) q
  ·exact fun τ σ G' H' a b c q=>q.elim
  ·exact fun τ σ G' H' a b c q=>q.elim
  ·exact fun d v G' H' a b c ⟨G0,s0,q⟩=>h4 _ H' d G0 a (b.trans (.sub s0)) (c.sub s0) q
end
end L3
namespace L2
open PySem PySem.Spec PyProof.Rows
structure RoomH(k:Nat)(A:Around):Prop where
 dp:A.depth+3*k+5<recursionLimit
 un:A.units+16*k+200<cLine
theorem RoomH.mono{j k:Nat}{A:Around}(r:RoomH k A)(h:j≤k):RoomH j A:=⟨by have:=r.dp;omega,by have:=r.un;omega⟩
theorem RoomH.deeper{k:Nat}{A:Around}(r:RoomH (k+1) A)(env:Env):RoomH k (A.deeper env):=
 ⟨by have:=r.dp;show A.depth+1+3*k+5<_;omega,by have:=r.un;show A.units+3+16*k+200<_;omega⟩
theorem RoomH.depth{k:Nat}{A:Around}(r:RoomH k A):A.depth<recursionLimit:=by have:=r.dp;omega
theorem RoomH.units{k:Nat}{A:Around}(r:RoomH k A):A.units+64<cLine:=by have:=r.un;omega
theorem RoomH.mark{k:Nat}{A:Around}{v:Option Value}(r:RoomH k A):RoomH k (A.mark v):=⟨r.dp,r.un⟩
theorem Room.h{k:Nat}{A:Around}(r:Room k A):RoomH k A:=⟨r.dp,r.un⟩
structure FnOkH(P:Program)(w:World)(K:PySem.W.Frag)(mg:Str->Option Value)(base:Heap)(k:Nat)(f:Addr)(fd:FuncData)(ps:List Str)(sp:Sp):Prop where
 len:∀vs H Q E,sp vs H Q E->vs.length=ps.length
 run:∀(A:Around) (outer:List Env) (s:Shared) (H:Hp) (args:Args) (us:List Value) (vs:List V) (Q:VK) (E:XK),RoomH k A->Env0 P w K mg base A outer s H->BindsTo s fd args (ps.zip us)->Vals vs us->sp vs H Q E ->
  codeAny (model P w) A (.call (.ref f) args) (CR CX0 outer P w H s Q E) s
section
variable {P:Program} {w:World} {K:PySem.W.Frag} {mg:Str->Option Value} {base:Heap} {j k:Nat} {f:Addr} {fd:FuncData} {ps:List Str} {sp:Sp}
theorem FnOkH.calm(F:FnOkH P w K mg base k f fd ps sp):FnOk P w K mg base CX0 k f fd ps sp:=⟨F.len,fun A outer s H args us vs Q E hr=>F.run A outer s H args us vs Q E hr.h⟩
theorem FnOkH.mono(F:FnOkH P w K mg base j f fd ps sp)(h:j≤k):FnOkH P w K mg base k f fd ps sp:=⟨F.len,fun A outer s H args us vs Q E hr=>F.run A outer s H args us vs Q E (hr.mono h)⟩
end
def cxH(P:Program)(w:World)(K:PySem.W.Frag)(mg:Str->Option Value)(base:Heap)(N:List Str)(qual:Str)(scope:Scope)(f:Addr)(cd:Value)(A:Around)(outer:List Env)(s:Shared)(H:Hp)(E:XK):Cx:=
 { cxOf CX0 P w K mg base N qual scope f cd A outer s H E with calm:=false,xe:=fun _ _=>False }
section
variable {P:Program} {w:World} {K:PySem.W.Frag} {mg:Str->Option Value} {base:Heap} {N:List Str} {qual:Str} {scope:Scope} {f:Addr} {cd:Value} {A:Around} {outer:List Env} {s s1:Shared} {H H1:Hp} {E:XK} {pins:List (Addr×Obj)} {σ:St}
theorem Inv.loud(I:Inv (cxOf CX0 P w K mg base N qual scope f cd { A with handled:=none } outer s H E) pins σ H1 s1)(hf:A.frames=some outer):Inv (cxH P w K mg base N qual scope f cd A outer s H E) pins σ H1 s1:=by
 obtain⟨ok,a1,a2,a3,a4,a5,a6,a7,a8,a9,a10⟩:=I;obtain⟨o1,o2,o3,o4,o5,o6,o7,o8,_,_,o11,o12,o13,o14,o15,o16,o17,o18⟩:=ok;exact⟨⟨o1,o2,o3,o4,o5,o6,o7,o8,(fun z=>nomatch z),Around.frames_deeper hf,o11,o12,o13,o14,o15,o16,o17,o18⟩,a1,a2,a3,a4,a5,a6,a7,a8,a9,a10⟩
end
theorem qr7z{P:Program}{w:World}{K:PySem.W.Frag}{mg:Str->Option Value}{base:Heap}{k:Nat}{x qual:Str}{st:Stmt}{f:Addr}{fd:FuncData}{N ps:List Str}{sp:Sp}(F:Fun K x qual st f fd)(S:FnScope N ps (defScope st))(len:∀vs H Q E,sp vs H Q E->vs.length=ps.length)
  (hbody:∀(cdv:Value) (A:Around) (outer:List Env) (s:Shared) (H:Hp) (vs:List V) (Q:VK) (E:XK),RoomH k (A.deeper (envOfC qual (defScope st) s.heap.objs.size f cdv))->sp vs H Q E ->
   ∃t,PSs (cxH P w K mg base N qual (defScope st) f cdv A outer s H E) (defBody st) t/\t { nx:=fun _ H'=>Q .non H',rt:=Q } (start N vs) H):
  FnOkH P w K mg base (k+1) f fd ps sp:=by
 obtain⟨oc,od,kV,doc,pm,an,cdv,ct,osl,rfl,lk,hcd⟩:=F.ex;refine⟨len,fun A outer s H args us vs Q E hr e0 hb r hsp=>?_⟩;have hl:=len _ _ _ _ hsp;have KX:K.In s.heap:=e0.mod.kin.keeps fun b o e=>(e0.bs b o e).1;have lim:s.heap.NoLimit:=e0.mod.nolimit.keeps fun b o e=>(e0.bs b o e).1;have hkind:∀y∈ps.zip us,(defScope st).names.lookup y.1=some .local∨((defScope st).names.lookup y.1=some .cell/\((cellsFrom (s.heap.objs.size+1) (defScope st).names []).lookup y.1).isSome=true):=fun⟨n,v⟩ hy=>by
  rcases S.par n (List.of_mem_zip hy).1 with q|q
  ·exact .inl q
  ·exact .inr ⟨q,PySem.W.cellsFrom_some _ _ _ (.inl q)⟩
 refine codeAny_call_function hr.depth (KX _ _ lk) rfl S.co S.gen rfl (PySem.W.codeRec_of KX hcd) (hb _ _ _ _ ?_);refine wpAny_newFunctionEnv_cells S.kind hkind fun env he s1 x=>?_;subst he;refine⟨lim.keeps x.toInCall.keep,codeAny_func ?_⟩;obtain⟨t,ht,hq⟩:=hbody cdv A outer s H vs Q E (hr.deeper _) hsp;have e1:Env0 P w K mg base { A with handled:=none } outer s H:=⟨e0.frames,e0.mod,e0.bs,e0.bsz,e0.funs,e0.frf,e0.hok,e0.bare⟩;have I0:Inv (cxOf CX0 P w K mg base N qual (defScope st) f cdv { A with handled:=none } outer s H E) [] (start N vs) H s1:=qgqz S rfl e1 hl r x;have I:=I0.loud (A:=A) e0.frames;refine wpAny_mono (ht [] s1 (start N vs) H _ I hq) (fun fl s' hs=>?_) fun e s' hs=>hs.elim;have fin:∀{σ':St} {H':Hp} {v:V} {u:Value},Inv (cxH P w K mg base N qual (defScope st) f cdv A outer s H E) [] σ' H' s'->RelV v u->Q v H'->CE outer P w H s Q u s':=
  fun {σ' H' v u} J rv q=>⟨v,H',J.os,J.bare,J.base,J.hok,rv,q⟩
 cases fl with
 |ret u=>
  obtain⟨v,σ',H',J,rv,q⟩:=hs;exact fin J rv q
 |next=>
  obtain⟨σ',H',J,q⟩:=hs;exact fin (v:=V.non) (u:=Value.none) J rfl q
 |brk=>
  obtain⟨_,_,_,q⟩:=hs;exact False.elim q
 |cont=>
  obtain⟨_,_,_,q⟩:=hs;exact False.elim q
section
variable {X:Cx} {k:Nat} {f:Addr} {fd:FuncData} {ps:List Str} {sp:Sp} {E:XK} {x:Str} {p pos:Pos} {e:Expr} {es:List Expr} {t:TA}
theorem qr8z{pins:List (Addr×Obj)}{σ:St}{H:Hp}{s:Shared}{Q:VK}{us:List Value}{vs:List V}(F:FnOkH X.prog X.w X.K X.mg X.base k f fd ps sp)(hr:RoomH k X.A)(hb:Binds X.K fd ps [])
  (I:Inv X pins σ H s) (r:Vals vs us) (h:sp vs H Q E):wpAny (model X.prog X.w) X.A (call (.ref f) us) (EP X pins σ Q) X.xe s:=by
 have hl:(us++[]).length=ps.length:=by rw[List.append_nil,←r.length];exact F.len _ _ _ _ h
 have hb':=hb s us I.kIn hl;rw[List.append_nil] at hb';refine wpAny_call (codeAny_mono (F.run X.A X.stack s H ⟨us,[]⟩ us vs Q E hr I.env0 hb' r h) fun r s' hq=>?_);cases r with
 |error e=>exact False.elim hq
 |ok fl=>
  cases fl with
  |ret u=>exact I.after hq
  |next=>exact False.elim hq
  |brk=>exact False.elim hq
  |cont=>exact False.elim hq
theorem qr9z(F:FnOkH X.prog X.w X.K X.mg X.base k f fd ps sp)(hr:RoomH k X.A)(hg:Gl X x)(hm:X.mg x=some (.ref f))(hk:PySem.W.keepIn X.K (.ref f)=true)(hb:Binds X.K fd ps [])
  (ha:PA X (e::es) t) (hdb:(x==("__debug__":Str))=false:=by decide) (he:starEach (e::es) X.env=(false,eval e X.env)::starEach es X.env:=by rfl) (hpl:(backTo pos (starEach es X.env)).any (·.1)=false:=by rfl):
  PE X (.Call (.Name x p) (e::es) [] pos) (tCall sp [] E t):=by
 intro pins s σ H Q I h;refine wpAny_Call_Name_kw (qbnz I hg hm ?_ hdb);refine PySem.W.callWith_K (h₀:=X.base) I.ok.mod.kin hk (thn (ha pos pins s σ H _ I h) fun us s1 ⟨vs,H1,I1,r,q⟩=>⟨I1.kIn,?_⟩) he hpl;have q':sp (vs++[]) H1 Q E:=q;rw[List.append_nil] at q';exact qr8z F hr hb I1 r q'
end
end L2
namespace L3
open PySem PySem.Spec PyProof.Rows L2
abbrev FnH3(P:Program)(w:World)(K:PySem.W.Frag)(mg:Str->Option Value)(base:Heap)(k:Nat)(f:Addr)(fd:FuncData)(ps:List Str)(sp:Sp3):Prop:=FnOkH P w K mg base k f fd ps (lowSp K sp)
theorem qsaz{X:Cx}{k:Nat}{f:Addr}{fd:FuncData}{ps:List Str}{sp:Sp3}{x:Str}{p pos:Pos}{e:Expr}{es:List Expr}{t:TA3}(F:FnH3 X.prog X.w X.K X.mg X.base k f fd ps sp)(hr:RoomH k X.A)(hm:X.mg x=some (.ref f))(hk:PySem.W.keepIn X.K (.ref f)=true)(hb:Binds X.K fd ps [])(ha:PA3 X (e::es) t)(hg:Gl X x:=by rfl)
  (hdb:(x==("__debug__":Str))=false:=by decide) (he:notStar e=true:=by rfl) (hpl:es.all notStar=true:=by rfl):
  PE3 X (.Call (.Name x p) (e::es) [] pos) (eCall sp t):=qoz (qr9z (E:=E0) F hr hg hm hk hb ha hdb (qjz he) (qvz hpl)) fun σ H Q h=>qhdz h
theorem fnH3{P:Program}{w:World}{K:PySem.W.Frag}{mg:Str->Option Value}{base:Heap}{x qual:Str}{st:Stmt}{f:Addr}{fd:FuncData}{N ps:List Str}{k:Nat}{sp:Sp3}(F:Fun K x qual st f fd)(S:FnScope N ps (defScope st))(hN:ps.length≤N.length)(len:∀ds G Q,sp ds G Q->ds.length=ps.length)(tb:TS3)
  (hbody:∀(cdv:Value) (A:Around) (outer:List Env) (s:Shared) (H:Hp) (E:XK),RoomH k (A.deeper (envOfC qual (defScope st) s.heap.objs.size f cdv)) ->
   PSs3 (cxH P w K mg base N qual (defScope st) f cdv A outer s H E) (defBody st) tb)
  (hrd:∀ds G Q,sp ds G Q->tb (endsOf Q) (start3 N ds) G):FnH3 P w K mg base (k+1) f fd ps sp:=by
 refine qr7z F S (fun vs H Q E h=>?_) (fun cdv A outer s H vs Q E hr h=>?_)
 ·obtain⟨ds,G,Q3,h1,h2,h3,h4⟩:=h;rw[←h1.length];exact len _ _ _ h3
 ·obtain⟨ds,G,Q3,h1,h2,h3,h4⟩:=h;refine⟨_,hbody cdv A outer s H E hr,start3 N ds,G,endsOf Q3,.start h1 ?_,h2,hrd _ _ _ h3,⟨?_,?_,?_,?_⟩⟩
  ·rw[←h1.length,len _ _ _ h3];exact hN
  ·exact fun τ σ G' H' a b c ⟨G0,s0,q⟩=>h4 _ H' .non G0 (by simp[Hv]) (b.trans (.sub s0)) (c.sub s0) q
  ·exact fun τ σ G' H' a b c q=>q.elim
  ·exact fun τ σ G' H' a b c q=>q.elim
  ·exact fun d v G' H' a b c ⟨G0,s0,q⟩=>h4 _ H' d G0 a (b.trans (.sub s0)) (c.sub s0) q
end L3
namespace L3
open PySem PySem.Spec PyProof.Rows L2
abbrev XK3:=S3->Gp->E3
abbrev TEX:=XK3->TE3
abbrev TSX:=XK3->TS3
def ExcTo(X:Cx)(pins:List (Addr×Obj))(H:Hp)(G:Gp)(KX:XK3)(XE:Value->Shared->Prop):Prop:=
 ∀(σ1:L2.St) (τ1:S3) (H1:Hp) (s1:Shared) (G1:Gp) (ev:Value) (s':Shared),Inv X pins σ1 H1 s1->RepS X.K τ1 σ1 H1->RepG X.K G1 H1->Step H G H1 G1->CXE X.prog X.w X.base X.stack H1 s1 (lowE2 X.K (KX τ1 G1) H1 G1) ev s'->XE ev s'
theorem ExcTo.step{X:Cx}{pins:List (Addr×Obj)}{H H1:Hp}{G G1:Gp}{KX:XK3}{XE:Value->Shared->Prop}(x:ExcTo X pins H G KX XE)(S:Step H G H1 G1):ExcTo X pins H1 G1 KX XE:=
 fun σ1 τ1 H2 s2 G2 ev s' a b c d e=>x σ1 τ1 H2 s2 G2 ev s' a b c (S.trans d) e
def PEX(X:Cx)(e:Expr)(t:TEX):Prop:=
 ∀(pins:List (Addr×Obj)) (s:Shared) (σ:L2.St) (H:Hp) (Q:VK) (XE:Value->Shared->Prop) (τ:S3) (G:Gp) (Q3:V3) (KX:XK3),Inv X pins σ H s->RepS X.K τ σ H->RepG X.K G H->t KX τ G Q3 ->
  (∀v H' d G',Hv X.K H' d v->Step H G H' G'->RepG X.K G' H'->Q3 d G'->Q v H')->ExcTo X pins H G KX XE->wpAny (model X.prog X.w) X.A (eval e X.env) (EP X pins σ Q) XE s
def PSX(X:Cx)(st:List Stmt)(t:TSX):Prop:=
 ∀(pins:List (Addr×Obj)) (s:Shared) (σ:L2.St) (H:Hp) (D2:Ends) (XE:Value->Shared->Prop) (τ:S3) (G:Gp) (D3:Ends3) (KX:XK3),Inv X pins σ H s->RepS X.K τ σ H->RepG X.K G H->t KX D3 τ G->EndsLow X.K H G D3 D2->ExcTo X pins H G KX XE ->
  wpAny (model X.prog X.w) X.A (execs st X.env) (SP X pins D2) XE s
section
variable {X:Cx} {k:Nat} {f:Addr} {fd:FuncData} {ps:List Str} {sp:SpX} {x:Str} {p pos:Pos} {a b e c:Expr} {es:List Expr} {t:TA3} {te:TE3} {tx:TEX} {tax:TAX} {tc:TT3} {ta tb tr:TSX} {sa sb rest:List Stmt}
def sxNext:TSX:=fun _ D τ G=>D.nx τ G
theorem qsbz:PSX X [] sxNext:=fun _ _ σ H D2 XE τ G D3 KX I RS RG h EL _=>wpAny_execs_nil ⟨σ,H,I,EL.nx τ σ G H RS (.refl H G) RG h⟩
end
end L3
namespace L2
open PySem PySem.Spec PyProof.Rows
open Builtin Builtin.ObjectAttr
open Sem (wp)
abbrev veTail:List Value:=[.type "ValueError",.type "Exception",.type "BaseException",.type "object"]
def strKeysB(es:Array DictEntry):Bool:=es.toList.all fun e=>match e.key with
 |.str _ _=>true
 |_=>false
theorem qscz{es:Array DictEntry}(h:strKeysB es=true):StrKeys es:=fun e he=>by
 have:=List.all_eq_true.mp h e (by simpa using he);cases q:e.key with
 |str n t=>exact⟨n,t,rfl⟩
 |_=>rw[q] at this;cases this
def nsB(K:PySem.W.Frag)(N:Addr)(init:Option Value):Bool:=match K.lookup N with
 |some ⟨_,_,.dict es _,_⟩=>strKeysB es&&nsFind es "__init__" == init
 |_=>false
theorem qsdz{K:PySem.W.Frag}{h:Heap}{N:Addr}{init:Option Value}(X:K.In h)(e:nsB K N init=true):∃m,h.Ns N m/\m "__init__" = init:=by
 unfold nsB at e;split at e
 ·rename_i c d es ep sl ho;rw[Bool.and_eq_true] at e;exact⟨nsFind es,⟨_,es,ep,X _ _ ho,rfl,qscz e.1,fun _=>rfl⟩,beq_iff_eq.mp e.2⟩
 ·cases e
def excIn(K:PySem.W.Frag)(C:Addr)(bm:List Value)(init:Option Value)(newId:String):Bool:=match K.lookup C with
 | some ⟨.type "type",_,.cls cd,sl⟩=>(match cd.mro,sl.toList with
  |.ref C'::bm',[_,_,_,_,some (.builtin n),_]=>C'==C&&bm'==bm && !cd.hasDel&&cd.hasDict&&n==newId&&nsB K cd.ns init
  | _,_=>false)
 |_=>false
theorem qdsz{K:PySem.W.Frag}{h:Heap}{C:Addr}{bm:List Value}{init:Option Value}{newId:String}(X:K.In h)(q:excIn K C bm init newId=true):∃nm qn N bs sn sub ab col dd k0 k1 k2 k3 k5 mN,
  h.get? C=some (excClassObj nm qn C N bs bm true sn sub ab col dd k0 k1 k2 k3 k5 newId)/\h.Ns N mN/\mN "__init__" = init:=by
 unfold excIn at q;split at q
 ·rename_i dd cd sl ho;split at q
  ·rename_i C' bm' k0 k1 k2 k3 n k5 hm hs;simp only[Bool.and_eq_true,beq_iff_eq,Bool.not_eq_true'] at q;obtain⟨⟨⟨⟨⟨rfl,rfl⟩,hdel⟩,hdct⟩,rfl⟩,hns⟩:=q;obtain⟨nm,bs,mro,ns,qn,hd,sn,sub,ab,col,del⟩:=cd;dsimp only at hm hdel hdct hns;subst hm hdel hdct;have hsl:sl = #[k0,k1,k2,k3,some (.builtin n),k5]:=by
    obtain⟨l⟩:=sl;simp only at hs;rw[hs]
   subst hsl;obtain⟨m,h1,h2⟩:=qsdz X hns;exact⟨nm,qn,ns,bs,sn,sub,ab,col,dd,k0,k1,k2,k3,k5,m,X _ _ ho,h1,h2⟩
  ·cases q
 ·cases q
structure ExcCls(K:PySem.W.Frag)(C B:Addr)(init:Option Value):Prop where
 cls:excIn K C (.ref B::veTail) init "ValueError.__new__" = true
 base:excIn K B veTail none "ValueError.__new__" = true
theorem ExcCls.own{K:PySem.W.Frag}{C B:Addr}{init:Option Value}(x:ExcCls K C B init){h:Heap}(X:K.In h):∃nm qn N bs sn sub ab col dd k0 k1 k2 k3 k5 mN,
  h.get? C=some (excClassObj nm qn C N bs (.ref B::veTail) true sn sub ab col dd k0 k1 k2 k3 k5 "ValueError.__new__")/\h.Ns N mN/\mN "__init__" = init/\OwnTail h veTail (.ref B::veTail):=by
 obtain⟨nm,qn,N,bs,sn,sub,ab,col,dd,k0,k1,k2,k3,k5,mN,h1,h2,h3⟩:=qdsz X x.cls;obtain⟨nm',qn',N',bs',sn',sub',ab',col',dd',k0',k1',k2',k3',k5',mN',h1',h2',h3'⟩:=qdsz X x.base;exact⟨nm,qn,N,bs,sn,sub,ab,col,dd,k0,k1,k2,k3,k5,mN,h1,h2,h3,.own h1' h2' h3' .base⟩
structure ExcSet(K:PySem.W.Frag)(C B:Addr)(names:List Str):Prop where
 sa:PySem.W.findIn K (.ref C) "__setattr__" = some (some (.builtin "object.__setattr__"))
 obj:PySem.W.mroIn K C (.type "object")=some true
 mro:∃cd,PySem.W.clsIn K C=some cd/\cd.mro=.ref C::.ref B::veTail/\cd.hasDict=true
 nm:∀n∈names,PySem.W.findIn K (.ref C) n=some none
section
variable {prog:Program} {w:World} {A:Around} {E:Value->Shared->Prop} {s:Shared} {K:PySem.W.Frag} {C B x:Addr} {names:List Str} {name:Str} {v:Value} {mA:Str->Option Value}
theorem qsez{h:Heap}(I:h.Inst x C mA):∃ox od,PySem.W.InstAt h x ox C od:=by
 obtain⟨o,hx,hc,hnc,hd⟩:=I;have hn:PySem.W.notCls o=true:=by
  unfold PySem.W.notCls;split
  ·rename_i c q;exact absurd q (hnc c)
  ·rfl
 rcases hd with⟨hd,_⟩|⟨d,hd,_,od,es,ep,hod,_⟩
 ·exact⟨o,none,hx,hc,hn,by rw[hd];trivial⟩
 ·exact⟨o,some od,hx,hc,hn,by rw[hd];exact hod⟩
theorem qsfz{ns:List Str}{Q:Unit->Shared->Prop}(S:ExcSet K C B names)(hn:name∈names)(X:K.In s.heap)(I:s.heap.Inst x C mA)(hw:Within mA ns)(hsz:ns.length≤1000)
  (hq:∀h' tk',h'.Inst x C (fun y=>if y=name then some v else mA y) ->
   (∀b o,b≠x->(∀o₀ dx,s.heap.get? x=some o₀->o₀.dict=some dx->b≠dx)->s.heap.get? b=some o->h'.get? b=some o) ->
   (∀o₀,s.heap.get? x=some o₀->∃o₁,h'.get? x=some o₁/\o₁.cls=o₀.cls/\o₁.data=o₀.data/\o₁.slots=o₀.slots/\(∀dx,o₀.dict=some dx->o₁.dict=some dx)/\(o₀.dict=none->o₁.dict=some s.heap.objs.size))->Q () { s with heap:=h',toks:=tk' }):
  wpAny (model prog w) A (setAttr (.ref x) name v) Q E s:=by
 obtain⟨ox,od,IA⟩:=qsez I;obtain⟨cd,hcd,hmro,hdct⟩:=S.mro;refine PySem.W.set_plain X IA S.sa ?_;have X':K.In ({ s with toks:=s.toks+1 }:Shared).heap:=X;have IA':PySem.W.InstAt ({ s with toks:=s.toks+1 }:Shared).heap x ox C od:=IA;have SF:=PySem.F.store_object;have sub:PySem.W.Looks (model prog w) ({ s with toks:=s.toks+1 }:Shared).heap (isInstance (.ref x) (.type "object")) true:=IA'.type.andThen (PySem.W.looks_mroIn X' S.obj);have hm:PySem.W.Looks (model prog w) ({ s with toks:=s.toks+1 }:Shared).heap (mroOf (.ref C)) cd.mro:=(PySem.W.looks_clsIn X' hcd).andThen .now;refine codeAny_call_builtin SF.slot.plain SF.entry (@PySem.W.check_slot (model prog w) _ _ { s with toks:=s.toks+1 } "object.__setattr__" "object" "__setattr__" (.ref x) [.str name s.toks,v] [] _ SF.kind SF.split sub (SF.args (.ref x) (.str name s.toks) v) ?_);rw[PySem.W.osa_eq,refuse_eq];refine wpAny_bind (wpAny_bind (IA'.type.here (wpAny_bind (hm.here ?_))));rw[hmro,refuseLoop_ref,refuseLoop_ref,PySem.F.store_ValueError.passes];refine wpAny_pure (wpAny_bind (IA'.type.here (wpAny_bind ((PySem.W.looks_findIn X' (S.nm name hn)).here (wpAny_bind (wpAny_pure ?_))))));obtain⟨o,hx,hc,hnc,hd⟩:=I;obtain⟨hp,g,dr,tk0,os⟩:=s;dsimp only at hx X IA hq hd X' IA';have LC:=PySem.W.looks_clsIn (M:=model prog w) X' hcd;obtain⟨oc,odi,oda,osl⟩:=o;dsimp only at hc hnc hd;subst hc;show wpAny _ _ (storeInOwnDict (.ref x) (.ref C) (.str name tk0) name v false) _ _ _;refine wpAny_bind (wpAny_pure (wpAny_bind (wpAny_bind (wpAny_loadPart hx (wpAny_bind (LC.here ?_))))));rw[hdct];rcases hd with⟨hdn,hmA⟩|⟨dx,hdx,hne,hns⟩
 ·subst hdn;have hx₁:(hp.push { cls:=.type "dict",data:=.dict #[]}).get? x=some ⟨.ref C,none,oda,osl⟩:=Heap.get?_push_of_some _ hx;have hxs:x≠hp.objs.size:=Nat.ne_of_lt (Heap.lt_size hx);have hgd:((hp.push { cls:=.type "dict",data:=.dict #[]}).update x fun o=>{ o with dict:=some hp.objs.size }).get? hp.objs.size
     = some { cls:=.type "dict",data:=.dict #[]}:=
    (Heap.get?_update_ne _ _ _ _ hxs.symm).trans (Heap.get?_push_at rfl rfl)
  have hnd:((hp.push { cls:=.type "dict",data:=.dict #[]}).update x fun o=>{ o with dict:=some hp.objs.size }).Ns hp.objs.size (fun _=>none):=
    ⟨_,#[],_,hgd,rfl,fun e he=>absurd he (by simp),fun _=>rfl⟩
  have core:wpAny (model prog w) A.in1 (storeInDict hp.objs.size (.str name tk0) name v) (fun fin s'=>match fin with | .done f=>(match f with | .ret _=>Q () s' | _=>False) | .again c'=>False) (fun e s'=>E e s') ⟨(hp.push { cls:=.type "dict",data:=.dict #[]}).update x fun o=>{ o with dict:=some hp.objs.size },g,dr,tk0+1,os⟩:=by
   unfold storeInDict newKeyGuard;refine wpAny_bind (wpAny_pure (wpAny_bind (wpAny_nsSet1 (Heap.Ns1.of_empty hnd) fun h' hn' hs=>?_)));obtain⟨oD,esD,epD,hoD,hdD,hcD⟩:=hn'.count (Within.cons name v Within.nil);refine wpAny_bind (wpAny_lookBehind hoD (by rw[hdD];exact pastItsLine_dict (Nat.le_trans hcD (by rw[List.length_cons,List.length_nil,sizeLine_eq];omega))) ?_);refine wpAny_pure ?_;have hx':h'.get? x=some ⟨.ref C,some hp.objs.size,oda,osl⟩:=by
    refine (hs.2 x hxs).trans (Heap.get?_update_self _ hx₁ ?_);have hfr:=(Heap.get?_some_iff.mp hx).2;cases oda<;>first|rfl|exact hfr
   refine hq h' _ ⟨_,hx',rfl,hnc,.inr ⟨hp.objs.size,rfl,hxs.symm,?_⟩⟩ (fun b ob hbx _ hb=>?_)
    (fun o₀ h₀=>by obtain rfl:=Option.some.inj (hx.symm.trans h₀);exact⟨_,hx',rfl,rfl,rfl,fun dx e=>(nomatch e),fun _=>rfl⟩)
   ·obtain⟨o',es,ep,e1,e2,e3,eu,e4⟩:=hn';exact⟨o',es,ep,e1,e2,e3,eu,fun y=>by rw[e4 y];by_cases hy:y=name<;>simp[hy,hmA]⟩
   ·exact (hs.2 b (Nat.ne_of_lt (Heap.lt_size hb))).trans ((Heap.get?_update_ne _ _ _ _ hbx).trans (Heap.get?_push_of_some _ hb))
  rw[if_neg (by decide)];dsimp only;rw[if_neg (by simp[typeHasDict])];split
  ·first
    | (rename_i q;exact absurd q (hnc _))
    | (rename_i q _;exact absurd q (hnc _))
    | (rename_i q _ _;exact absurd q (hnc _))
    | (exfalso;simp_all)
  ·refine wpAny_bind (wpAny_alloc' ?_);refine wpAny_bind (wpAny_update' hx₁ ?_);refine wpAny_pure (a:=some hp.objs.size) ?_;show wpAny _ _ (storeInDict hp.objs.size (.str name tk0) name v) _ _ _;refine wpAny_mono core (fun fin s' z=>?_) fun _ _ z=>z;cases fin with
   |done f=>
    cases f with
    |ret r=>exact z
    |_=>exact z.elim
   |again c=>exact z.elim
 ·subst hdx;refine wpAny_pure (a:=some dx) ?_;show wpAny _ _ (storeInDict dx (.str name tk0) name v) _ _ _;unfold storeInDict newKeyGuard;refine wpAny_bind (wpAny_pure (wpAny_bind (wpAny_nsSet1 hns fun h' hn' hs=>?_)));obtain⟨oD,esD,epD,hoD,hdD,hcD⟩:=hn'.count (Within.cons name v hw);refine wpAny_bind (wpAny_lookBehind hoD (by rw[hdD];exact pastItsLine_dict (Nat.le_trans hcD (by rw[List.length_cons,sizeLine_eq];omega))) ?_);refine wpAny_pure ?_;have hx':=(hs.2 x hne.symm).trans hx;refine hq h' _ ⟨_,hx',rfl,hnc,.inr ⟨dx,rfl,hne,hn'⟩⟩ (fun b ob _ hbd hb=>(hs.2 b (hbd _ dx hx rfl)).trans hb)
   (fun o₀ h₀=>by obtain rfl:=Option.some.inj (hx.symm.trans h₀);exact⟨_,hx',rfl,rfl,rfl,fun _ e=>e,fun e=>(nomatch e)⟩)
end
end L2
namespace L2
open PySem PySem.Spec PyProof.Rows
open Sem (wp)
structure TurnX(l:List Env)(e T:Addr)(h h':Heap):Prop where
 keep:∀b o,b≠e->b≠T->b∉frs l->h.get? b=some o->h'.get? b=some o
 slot:∀b o,b∈frs l->h.get? b=some o->∃sl,h'.get? b=some { o with slots:=sl }
theorem LeftD.turnX{base:Heap}{l:List Env}{e T:Addr}{cls:Value}{dx:Option Addr}{h h':Heap}(L:LeftD base l e T cls dx h h'):TurnX l e T h h':=⟨L.keep,L.slot⟩
section
variable {M:Model} {A:Around} {E:Value->Shared->Prop} {s:Shared}
theorem qsgz{base:Heap}{env:Env}{outer:List Env}{L e T:Addr}{cls:Value}{dx:Option Addr}{Q:Unit->Shared->Prop}
  (hfr:A.frames=some (env::outer)) (hl:s.heap.FunFrames base (env::outer)) (hf:env.frame=some L) (ht:TracedD base s.heap e T cls dx) (hkb:base.StaysIn s.heap) (hen:base.get? e=none)
  (h:∀h',LeftD base (env::outer) e T cls dx s.heap h'->Q () { s with heap:=h' }):wpAny M A (noteFrame (.ref e) env) (fun _ s'=>wpAny M A (setFlight (.ref e) none) Q E s') E s:=by
 obtain⟨⟨oe,vs,he,hcls,hdx,hd,h1,h2⟩,hnT,hTe,oT,ts,hT,hdT,h3⟩:=ht;subst hcls hdx;unfold noteFrame;simp only[hf];refine wpAny_bind (wpAny_field he hd h1 ?_);rw[if_pos (show (Value.ref T != Value.none)=true from by simp)];refine wpAny_bind (wpAny_field hT hdT h3 ?_);rw[if_neg (show ¬((Value.none==rawInt L)=true) from by simp[rawInt])];refine wpAny_bind (wpAny_setField hT hdT (Array.getElem?_eq_some_iff.mp h3).1 ?_);have other:∀b,b≠T->(s.heap.update T (Obj.mapFields (·.setIfInBounds 3 Value.none))).get? b=s.heap.get? b:=fun b hb=>Heap.get?_update_other _ _ (Ne.symm hb);have noRecord:∀b o,s.heap.get? b=some o->(∀vs,o.data≠.fields vs)->b≠T:=fun b o hb hnf q=>by
  rw[q,hT] at hb;injection hb with hb;subst hb;exact hnf ts hdT
 have hTf:T∉frs (env::outer):=fun hm=>by
  obtain⟨_,o,ho,hnf⟩:=hl.mem hm;rw[hT] at ho;injection ho with ho;subst ho;exact hnf ts hdT
 refine newEntryD hfr (hl.of_keeps fun b o hb hnf=>⟨o,(other b (noRecord b o hb hnf)).trans hb,rfl⟩) hf ((other e (Ne.symm hTe)).trans he)
  (fun b o hbo=>(other b fun q=>by rw[q,hnT] at hbo;cases hbo).trans (hkb b o hbo)) hen hd (Array.getElem?_eq_some_iff.mp h1).1 h2
  fun h' ⟨x1,x2,⟨T',x3,x3'⟩,x4,x5⟩=>h h' ⟨x1,x2,⟨T',x3,?_⟩,fun b o hbe hbT hbf hb=>x4 b o hbe hbe hbf ((other b hbT).trans hb),fun b o hbf hb=>x5 b o hbf ((other b fun q=>hTf (q▸hbf)).trans hb)⟩
 by_cases hq:T'=T
 ·subst hq;obtain⟨o2,e2⟩:∃o2,(s.heap.update T' (Obj.mapFields (·.setIfInBounds 3 Value.none))).get? T'=some o2:=⟨_,Heap.get?_update_self _ hT (Obj.isFreed_of_fields (Obj.data_mapFields hdT _))⟩;rw[e2] at x3';cases x3'
 ·rw[←other T' hq];exact x3'
theorem flightD{base:Heap}{e T:Addr}{cls:Value}{dx:Option Addr}{Q:Unit->Shared->Prop}(ht:TracedD base s.heap e T cls dx)
  (h:∀h',(∀b o,b≠T->s.heap.get? b=some o->h'.get? b=some o)->TracedD base h' e T cls dx->Q () { s with heap:=h' }):wpAny M A (setFlight (.ref e) none) Q E s:=by
 obtain⟨⟨oe,vs,he,hcls,hdx,hd,h1,h2⟩,hnT,hTe,oT,ts,hT,hdT,h3⟩:=ht;unfold setFlight;refine wpAny_bind (wpAny_field he hd h1 ?_);rw[if_pos (show (Value.ref T != Value.none)=true from by simp)];have hz:=(Array.getElem?_eq_some_iff.mp h3).1;refine wpAny_setField hT hdT hz (h _ (fun b o hb q=>(Heap.get?_update_other _ _ (Ne.symm hb)).trans q) ⟨⟨oe,vs,(Heap.get?_update_other _ _ hTe).trans he,hcls,hdx,hd,h1,h2⟩,hnT,hTe,_,_,Heap.get?_update_self _ hT (Obj.isFreed_of_fields (Obj.data_mapFields hdT _)),Obj.data_mapFields hdT _,?_⟩);simp[hz]
theorem excMatchesB{nm q:Str}{C N B:Addr}{bs bm:List Value}{hdct:Bool}{sn:List Str}{sub:List Value}{ab:Bool}{col:Option Bool}{dd:Option Addr}{k0 k1 k2 k3 k5:Option Value}{newId:String}
  {nm' q':Str} {N':Addr} {bs' bm':List Value} {hdct':Bool} {sn':List Str} {sub':List Value} {ab':Bool} {col':Option Bool} {dd':Option Addr} {k0' k1' k2' k3' k5':Option Value} {newId':String}
  {h:Heap} {g:Array GenState} {d:Drawn} {t:Nat} {os:OsState} {e:Addr} {oe:Obj} {Q:Bool->Shared->Prop}
  (hC:h.get? C=some (excClassObj nm q C N bs bm hdct sn sub ab col dd k0 k1 k2 k3 k5 newId)) (hB:h.get? B=some (excClassObj nm' q' B N' bs' bm' hdct' sn' sub' ab' col' dd' k0' k1' k2' k3' k5' newId'))
  (he:h.get? e=some oe) (hcls:oe.cls=.ref C) (hbase:bm'.contains (.type "BaseException")=true) (hsub:(Value.ref C::bm).contains (.ref B)=true)
  (hq:Q true ⟨h,g,d,t,os⟩):wpAny M A (excMatches (.ref e) (.ref B)) Q E ⟨h,g,d,t,os⟩:=by
 have hcB:(Value.ref B::bm').contains (.type "BaseException")=true:=by rw[List.contains_cons,hbase,Bool.or_true]
 have f:=tc_notTuple;unfold excMatches
 repeat (first|(with_reducible refine wpAny_loadPart_at he ?_;rw[hcls])|with_reducible refine wpAny_loadPart_at hB ?_|(with_reducible refine wpAny_isSubtype_exc hB ?_;rw[hcB])|(with_reducible refine wpAny_isSubtype_exc hC ?_;rw[hsub])|wp_step)
 exact hq
end
section
variable {X:Cx} {pins:List (Addr×Obj)} {σ:St} {H:Hp} {s:Shared} {h':Heap} {e T:Addr}
structure Frame(X:Cx):Prop where
 ex:X.ex=[]
 st:X.stack=X.env::X.outer
 fr:X.env.frame=some X.env.locals
theorem Inv.turnedX(I:Inv X pins σ H s)(F:Frame X)(L:TurnX X.stack e T s.heap h')(he:X.s₀.heap.get? e=none)(hT:X.s₀.heap.get? T=none)(hHe:H e=none)(hHT:H T=none)
  (hp:∀p∈X.pn++pins,p.1≠e/\p.1≠T) (eo:∃oe vs,s.heap.get? e=some oe/\oe.data=.fields vs) (To:∃oe vs,s.heap.get? T=some oe/\oe.data=.fields vs):Inv X pins σ H { s with heap:=h' }:=by
 have hloc:X.s₀.heap.get? X.env.locals=none:=Heap.get?_none_of_le I.ok.above;have sub:∀b,b∈frs X.stack->b=X.env.locals∨b∈frs X.outer:=fun b hb=>List.mem_cons.mp (I.stkSub b hb);have ne:∀{b c:Addr} {o:Obj},X.s₀.heap.get? b=some o->X.s₀.heap.get? c=none->b≠c:=fun h1 h2 z=>by
  rw[z,h2] at h1;cases h1
 have nox:∀b:Addr,b∉X.ex:=fun b z=>by
  rw[F.ex] at z;cases z
 have inStk:X.env.locals∈frs X.stack:=by
  rw[F.st];unfold frs;rw[List.filterMap_cons,F.fr];exact List.mem_cons_self
 have supF:∀b,b∈frs X.outer->b∈frs X.stack:=fun b hb=>by
  rw[F.st];unfold frs;rw[List.filterMap_cons,F.fr];exact List.mem_cons_of_mem _ hb
 have noF:∀{b:Addr} {o:Obj},s.heap.get? b=some o->(∀vs,o.data≠.fields vs)->b≠e/\b≠T:=fun {b o} hb hn=>⟨fun z=>by
  obtain⟨oe,vs,q1,q2⟩:=eo;rw[z,q1] at hb;cases hb;exact hn vs q2,fun z=>by
  obtain⟨oe,vs,q1,q2⟩:=To;rw[z,q1] at hb;cases hb;exact hn vs q2⟩
 have cellK:∀c v,s.heap.IsCell c v->h'.IsCell c v:=fun c v hc=>by
  obtain⟨o,ho,hd⟩:=hc;by_cases hb:c∈frs X.stack
  ·obtain⟨sl,k2⟩:=L.slot c o hb ho;exact⟨_,k2,hd⟩
  ·obtain⟨n1,n2⟩:=noF ho (fun vs q=>by rw[hd] at q;cases q);exact⟨o,L.keep c o n1 n2 hb ho,hd⟩
 refine⟨I.ok,I.os,I.bare,⟨fun b o h1 h2 h3 _=>?_,fun b o h1 h2 h3 _=>?_,I.base.free,fun b o h1 hx=>?_,I.base.tups,I.base.frzs,I.base.tbls⟩,?_,fun x c hc=>?_,I.free,I.freeC,fun p hp'=>?_,fun a o ha=>?_,I.len⟩
 ·have k1:=I.base.keep b o h1 h2 h3 (nox b);refine L.keep b o (ne h1 he) (ne h1 hT) (fun z=>?_) k1;rcases sub b z with z|z
  ·exact ne h1 hloc z
  ·exact h3 z
 ·obtain⟨sl,k1⟩:=I.base.slot b o h1 h2 h3 (nox b);obtain⟨sl',k2⟩:=L.slot b _ (supF b h3) k1;exact⟨sl',k2⟩
 ·obtain⟨o',k1⟩:=I.base.there b o h1 (nox b);by_cases hb:b∈frs X.stack
  ·obtain⟨sl,k2⟩:=L.slot b o' hb k1;exact⟨_,k2⟩
  ·exact⟨o',L.keep b o' (ne h1 he) (ne h1 hT) hb k1⟩
 ·obtain⟨m,⟨o,es,ep,ho,r⟩,hl⟩:=I.loc;obtain⟨sl,k2⟩:=L.slot _ o inStk ho;refine⟨m,⟨_,es,ep,k2,r⟩,fun i x v h1 h2 h3=>?_⟩;obtain⟨u,ru,lk⟩:=hl i x v h1 h2 h3;refine⟨u,ru,?_⟩;rcases lk with lk|⟨kd,c,hc,ic⟩
  ·exact .inl lk
  ·exact .inr ⟨kd,c,hc,cellK c _ ic⟩
 ·obtain⟨v,hv⟩:=I.cell x c hc;exact⟨v,cellK c v hv⟩
 ·obtain⟨q1,q2,q3,q4,q5⟩:=I.pin p hp';refine⟨L.keep p.1 p.2 (hp p hp').1 (hp p hp').2 (fun z=>?_) q1,q2,q3,q4,q5⟩;rcases sub _ z with z|z
  ·exact q3 z
  ·exact q4 z
 ·refine (I.hok a o ha).stay (fun b u hb q=>?_) (fun _ q=>q) fun _ _ q=>q;have hHb:H b≠none:=by
   rcases hb with rfl|hb
   ·rw[ha];simp
   ·rw[hb];simp
  exact L.keep b u (fun z=>hHb (z▸hHe)) (fun z=>hHb (z▸hHT)) (fun z=>hHb (I.stkFree b z)) q
theorem Inv.forget{m':Str->Option Value}{t':Nat}(I:Inv X pins σ H s)(hs:Heap.SameBut X.env.locals s.heap h')(hn:h'.Ns X.env.locals m'):Inv X pins (List.replicate X.N.length none) H { s with heap:=h',toks:=t' }:=by
 have hloc:X.s₀.heap.get? X.env.locals=none:=Heap.get?_none_of_le I.ok.above;have k:∀b o,b≠X.env.locals->s.heap.get? b=some o->h'.get? b=some o:=fun b o hb q=>(hs.2 b hb).trans q;have ne:∀{b:Addr} {o:Obj},X.s₀.heap.get? b=some o->b≠X.env.locals:=fun h1 z=>by
  rw[z,hloc] at h1;cases h1
 refine⟨I.ok,I.os,I.bare,⟨fun b o h1 h2 h3 h4=>k b o (ne h1) (I.base.keep b o h1 h2 h3 h4),fun b o h1 h2 h3 h4=>?_,I.base.free,fun b o h1 h2=>?_,I.base.tups,I.base.frzs,I.base.tbls⟩,⟨m',hn,fun i x v h1 h2 h3=>?_⟩,fun x c hc=>?_,I.free,I.freeC,fun p hp=>?_,fun a o ha=>?_,by simp⟩
 ·obtain⟨sl,q⟩:=I.base.slot b o h1 h2 h3 h4;exact⟨sl,k _ _ (ne h1) q⟩
 ·obtain⟨o',q⟩:=I.base.there b o h1 h2;exact⟨o',k _ _ (ne h1) q⟩
 ·rw[List.getElem?_replicate] at h2;split at h2<;>cases h2
 ·obtain⟨v,o,ho,hd⟩:=I.cell x c hc;exact⟨v,o,k _ _ (I.cne x c hc) ho,hd⟩
 ·obtain⟨q1,q2,q3,q4,q5⟩:=I.pin p hp;exact⟨k _ _ q3 q1,q2,q3,q4,q5⟩
 ·refine (I.hok a o ha).stay (fun b u hb q=>k b u (fun z=>?_) q) (fun _ q=>q) fun _ _ q=>q;rcases hb with hb|hb
  ·rw[←hb,z,I.free] at ha;cases ha
  ·rw[z,I.free] at hb;cases hb
abbrev Cx.caught(X:Cx)(e:Addr):Cx:={ X with A:=X.A.mark (some (.ref e)),calm:=false,xe:=fun _ _=>False }
theorem Inv.caught(I:Inv X pins σ H s)(e:Addr):Inv (X.caught e) pins σ H s:=by
 obtain⟨ok,a1,a2,a3,a4,a5,a6,a7,a8,a9,a10⟩:=I;obtain⟨o1,o2,o3,o4,o5,o6,o7,o8,_,o10,o11,o12,o13,o14,o15,o16,o17,o18⟩:=ok;exact⟨⟨o1,o2,o3,o4,o5,o6,o7,o8,(fun z=>nomatch z),o10,o11,o12,o13,o14,o15,o16,o17,o18⟩,a1,a2,a3,a4,a5,a6,a7,a8,a9,a10⟩
theorem Inv.uncaught{e:Addr}(I:Inv (X.caught e) pins σ H s)(ok:X.Ok):Inv X pins σ H s:=by
 obtain⟨_,a1,a2,a3,a4,a5,a6,a7,a8,a9,a10⟩:=I;exact⟨ok,a1,a2,a3,a4,a5,a6,a7,a8,a9,a10⟩
theorem trackHOk{P:Program}{w:World}{h:Heap}{a:Addr}{o:HO}(ok:HOk P w H h)(hn:H a=none)(new:ObjOk P w (upd H a o) h a o):HOk P w (upd H a o) h:=fun b u e=>by
 by_cases z:b=a
 ·subst z;rw[qnz] at e;cases e;exact new
 ·rw[qfz z] at e;refine (ok b u e).stay (fun _ _ _ q=>q) (fun c q=>?_) fun c xs q=>?_
  ·rw[qfz (fun z=>by rw[z,hn] at q;cases q)];exact q
  ·rw[qfz (fun z=>by rw[z,hn] at q;cases q)];exact q
theorem Inv.track{a:Addr}{o:HO}(I:Inv X pins σ H s)(hn:H a=none)(h0:X.s₀.heap.get? a=none)(new:ObjOk X.prog X.w (upd H a o) s.heap a o)(hl:a≠X.env.locals)(hc:∀x c,X.env.cells.lookup x=some c->c≠a)(hp:∀p∈X.pn++pins,p.1≠a):Inv X pins σ (upd H a o) s:=by
 refine⟨I.ok,I.os,I.bare,⟨I.base.keep,I.base.slot,fun b ob h1 h2 h3=>?_,I.base.there,fun b xs e=>?_,fun b x u e=>?_,fun b ps e=>?_⟩,I.loc,I.cell,by rw[qfz hl.symm];exact I.free,fun x c e=>by rw[qfz (hc x c e)];exact I.freeC x c e,fun p hp'=>?_,trackHOk I.hok hn new,I.len⟩
 ·rw[qfz (fun z=>by rw[z,h0] at h1;cases h1)];exact I.base.free b ob h1 h2 h3
 ·have:=I.base.tups b xs e;rw[qfz (fun z=>by rw[z,hn] at this;cases this)];exact this
 ·have:=I.base.frzs b x u e;rw[qfz (fun z=>by rw[z,hn] at this;cases this)];exact this
 ·obtain⟨more,q⟩:=I.base.tbls b ps e;refine⟨more,?_⟩;rw[qfz (fun z=>by rw[z,hn] at q;cases q)];exact q
 ·obtain⟨q1,q2,q3,q4,q5⟩:=I.pin p hp';exact⟨q1,by rw[qfz (hp p hp')];exact q2,q3,q4,q5⟩
end
end L2
namespace L3
open PySem PySem.Spec PyProof.Rows L2
def excφ(a C:Addr)(dx:Option Addr):Heap->Prop:=fun h=>∃oe vs,h.get? a=some oe/\oe.cls=.ref C/\oe.dict=dx/\oe.data=.fields vs/\vs[2]?=some .none
def excR(x:Str)(fs:List (Str×Int)):PySem.W.Frag->Addr->Hp->Prop:=fun K a H=>∃C dx,ClsN K x C/\H a=some (.ext (excφ a C dx))/\DictIs H dx fs
theorem DictIs.keep{H H':Hp}{dx:Option Addr}{fs:List (Str×Int)}(h:DictIs H dx fs)(k:∀b o u,H b=some (.frz o u)->H' b=some (.frz o u)):DictIs H' dx fs:=by
 rcases h with h|⟨d,o,h1,h2⟩
 ·exact .inl h
 ·exact .inr ⟨d,o,h1,k _ _ _ h2⟩
theorem qshz{K:PySem.W.Frag}{H:Hp}{a:Addr}{x:Str}{fs:List (Str×Int)}(h:excR x fs K a H):GOk K H a (.gen (excR x fs)):=
 ⟨h,by obtain⟨C,dx,_,e,_⟩:=h;exact⟨_,e,fun _=>nofun,fun _ _=>nofun⟩,fun H1 H2 t f e ⟨C,dx,h1,h2,h3⟩=>⟨C,dx,h1,e.trans h2,h3.keep f⟩⟩
def Takes(K:PySem.W.Frag)(names:List Str)(B:Addr):Prop:=∀x∈names,∀C,ClsN K x C->∃init,ExcCls K C B init
end L3
namespace L2
open PySem PySem.Spec PyProof.Rows
open Sem (wp)
structure InitSt(s1:Heap)(e C:Addr)(mA:Str->Option Value)(h:Heap):Prop where
 keep:∀b o,b≠e->s1.get? b=some o->h.get? b=some o
 inst:h.Inst e C mA
 obj:∃o1 o2,s1.get? e=some o1/\h.get? e=some o2/\o2.cls=o1.cls/\o2.data=o1.data
 fresh:∀o dx,h.get? e=some o->o.dict=some dx->s1.get? dx=none
def putN(mA:Str->Option Value)(p:Str×Value):Str->Option Value:=fun y=>if y=p.1 then some p.2 else mA y
def IsStore(n:Str)(st:Stmt):Prop:=∃p1 p2 p3 p4,st=.Assign [.Attribute (.Name "self" p1) n p2] (.Name n p3) p4
section
variable {prog:Program} {w:World} {A:Around} {E:Value->Shared->Prop} {K:PySem.W.Frag} {C B e:Addr} {names:List Str} {env:Env} {s1:Heap} {m:Str->Option Value}
theorem InitSt.store{mA:Str->Option Value}{ns:List Str}{n:Str}{v:Value}{Q:Unit->Shared->Prop}{s:Shared}(S:ExcSet K C B names)(hn:n∈names)(X:K.In s.heap)(T:InitSt s1 e C mA s.heap)(hw:Within mA ns)(hsz:ns.length≤1000)
  (hq:∀h' tk',InitSt s1 e C (putN mA (n,v)) h'->Q () { s with heap:=h',toks:=tk' }):wpAny (model prog w) A (setAttr (.ref e) n v) Q E s:=by
 refine qsfz S hn X T.inst hw hsz fun h' tk' I' hk hs=>hq h' tk' ⟨fun b o hb q=>?_,I',?_,fun o dx q1 q2=>?_⟩
 ·exact hk b o hb (fun o₀ dx h0 hd z=>by
   have:=T.fresh o₀ dx h0 hd;rw[←z,q] at this;cases this) (T.keep b o hb q)
 ·obtain⟨o1,o2,a1,a2,a3,a4⟩:=T.obj;obtain⟨o3,b1,b2,b3,_⟩:=hs o2 a2;exact⟨o1,o3,a1,b1,b2.trans a3,b3.trans a4⟩
 ·obtain⟨o1,o2,a1,a2,a3,a4⟩:=T.obj;obtain⟨o3,b1,b2,b3,b4,b5,b6⟩:=hs o2 a2;rw[b1] at q1;cases q1;cases hd:o2.dict with
  |some dx0=>
   rw[b5 dx0 hd] at q2;obtain rfl:=Option.some.inj q2;exact T.fresh o2 _ a2 hd
  |none=>
   rw[b6 hd] at q2;cases q2;cases q3:s1.get? s.heap.objs.size with
   |none=>rfl
   |some o=>
    have hne:s.heap.objs.size≠e:=fun z=>by
     have:=Heap.lt_size a2;rw[←z] at this;exact absurd this (Nat.lt_irrefl _)
    have:=Heap.lt_size (T.keep _ _ hne q3);exact absurd this (Nat.lt_irrefl _)
theorem qsiz{L:Addr}(S:ExcSet K C B names)(hk:env.scope.kind=.function)(hloc:env.locals=L)(hLe:L≠e)(hself:env.kindOf "self" = some .local)(hds:(("self":Str)==("__debug__":Str))=false)(hms:m "self" = some (.ref e))(hns:s1.Ns L m)(kin:∀h:Heap,(∀b o,b≠e->s1.get? b=some o->h.get? b=some o)->K.In h):
  ∀(nvs:List (Str×Value)) (body:List Stmt),Paired (fun (p:Str×Value) st=>IsStore p.1 st/\(p.1==("__debug__":Str))=false) nvs body->(∀p∈nvs,env.kindOf p.1=some .local/\m p.1=some p.2/\p.1∈names) ->
   ∀(mA:Str->Option Value) (ns:List Str) (s:Shared) (Q:Flow->Shared->Prop),InitSt s1 e C mA s.heap->Within mA ns->ns.length+nvs.length≤1000 ->
   (∀h' tk',InitSt s1 e C (nvs.foldl putN mA) h'->Q .next { s with heap:=h',toks:=tk' })->wpAny (model prog w) A (execs body env) Q E s:=by
 intro nvs
 induction nvs with
 |nil=>
  intro body hp _ mA ns s Q T _ _ hq;cases hp;exact wpAny_execs_nil (hq s.heap s.toks T)
 |cons p nvs ih=>
  intro body hpr hp mA ns s Q T hw hz hq;cases hpr with
  |@cons _ st0 _ bd hst r=>
   obtain⟨⟨p1,p2,p3,p4,rfl⟩,hdb⟩:=hst;obtain⟨k1,k2,k3⟩:=hp p List.mem_cons_self;have hnsH:s.heap.Ns env.locals m:=by
    obtain⟨o,es,ep,ho,rr⟩:=hns;rw[hloc];exact⟨o,es,ep,T.keep _ _ hLe ho,rr⟩
   have e1:wpAny (model prog w) A (eval (.Name p.1 p3) env) (fun v s₁=>wpAny (model prog w) A (eval (.Name "self" p1) env) (fun ov s₂=>wpAny (model prog w) A (setAttr ov p.1 v) (fun _ s3=>wpAny (model prog w) A (execs bd env) Q E s3) E s₂) E s₁) E s:=by
    refine wpAny_Name (wpAny_loadName_local hk k1 hnsH k2 ?_) hdb;refine wpAny_Name (wpAny_loadName_local hk hself hnsH hms ?_) hds;refine T.store S k3 (kin _ T.keep) hw (by rw[List.length_cons] at hz;omega) fun h' tk' T'=>?_;exact ih _ r (fun q hq'=>hp q (List.mem_cons_of_mem _ hq')) (putN mA p) (p.1::ns) { s with heap:=h',toks:=tk' } Q T' (Within.cons p.1 p.2 hw) (by rw[List.length_cons] at hz ⊢;omega) fun h'' tk'' T''=>hq h'' tk'' T''
   exact wpAny_execs_cons (plainObj_wpAny_Assign_Attribute e1 rfl)
end
end L2
namespace L2
open PySem PySem.Spec PyProof.Rows
open Sem (wp)
structure OwnInit(K:PySem.W.Frag)(C B f:Addr)(fd:FuncData)(qual:Str)(st:Stmt)(names:List Str):Prop where
 ex:ExcCls K C B (some (.ref f))
 set:ExcSet K C B names
 fn:Fun K "__init__" qual st f fd
 sc:FnScope ("self" :: names) ("self" :: names) (defScope st)
 body:Paired (fun n st=>IsStore n st/\(n==("__debug__":Str))=false) names (defBody st)
 loc:∀n∈(("self":Str)::names),(defScope st).names.lookup n=some .local
 bi:Binds K fd ("self" :: names) []
 kp:PySem.W.keepIn K (.ref C)=true
 few:names.length≤10
 ty:∃o,K.lookup f=some o/\o.cls=.type "function"
structure MadeD(h h':Heap)(e d C:Addr)(mA:Str->Option Value):Prop where
 keep:∀b o,h.get? b=some o->h'.get? b=some o
 newE:h.get? e=none
 newD:h.get? d=none
 ne:d≠e
 obj:∃oe t,h'.get? e=some oe/\oe.cls=.ref C/\oe.dict=some d/\oe.data=.fields #[.ref t,.none,.none,.none,.bool false,.none]
 ns:h'.Ns1 d mA
theorem qi8z{α β γ:Type}{R:α->β->Prop}:∀{as:List α} {bs:List β} {cs:List γ},Paired R as bs->as.length=cs.length->Paired (fun (p:α×γ) b=>R p.1 b) (as.zip cs) bs
 |_,_,[],.nil,_=>.nil
 |_,_,c::cs,.cons h r,e=>.cons h (qi8z r (by simpa using e))
theorem qsjz{P:Program}{w:World}{K:PySem.W.Frag}{C B f:Addr}{fd:FuncData}{qual:Str}{st:Stmt}{names:List Str}{A:Around}{E:Value->Shared->Prop}{s:Shared}{us:List Value}{Q:Value->Shared->Prop}
  (O:OwnInit K C B f fd qual st names) (X:K.In s.heap) (lim:s.heap.NoLimit) (hl:us.length=names.length) (hne:names≠[]) (hdp:A.depth+4<recursionLimit)
  (hq:∀e d h' tk,MadeD s.heap h' e d C ((names.zip us).foldl putN fun _=>none)->Q (.ref e) { s with heap:=h',toks:=tk }):wpAny (model P w) A (call (.ref C) us) Q E s:=by
 obtain⟨nm,qn,N,bs,sn,sub,ab,col,dd,k0,k1,k2,k3,k5,mN,hC,hn,hni,T⟩:=O.ex.own X;obtain⟨oc,od,kV,doc,pm,an,cdv,ct,osl,rfl,lk,hcd⟩:=O.fn.ex;obtain⟨h,g,dr,t,os⟩:=s;have hf:=X _ _ lk;have hsz:us.length≤sizeLine:=by rw[hl];exact Nat.le_trans O.few (by decide)
 have keepE:∀b o,h.get? b=some o->(excHeap h C us).get? b=some o:=fun b o q=>Heap.get?_push_of_some _ (Heap.get?_push_of_some _ q);have XE:K.In (excHeap h C us):=X.keeps keepE;have limE:(excHeap h C us).NoLimit:=lim.keeps keepE;have hsE:(excHeap h C us).objs.size=h.objs.size+2:=by
  unfold excHeap;rw[Heap.size_push,Heap.size_push]
 have heE:(excHeap h C us).get? (h.objs.size+1)=some { cls:=.ref C,data:=.fields #[.ref h.objs.size,.none,.none,.none,.bool false,.none]}:=by
  unfold excHeap
  heap_get
 refine qrzz (f:=f) PySem.F.excBase_ValueError T hC hn hni hf (by obtain⟨o,e,c⟩:=O.ty;rw[lk] at e;cases e;exact c) ?_ hsz;have hb:=O.bi ⟨excHeap h C us,g,dr,t,os⟩ (.ref (h.objs.size+1)::us) XE (by simp[hl]);rw[List.append_nil] at hb;have hkind:∀y∈(("self":Str)::names).zip (.ref (h.objs.size+1)::us),(defScope st).names.lookup y.1=some .local∨((defScope st).names.lookup y.1=some .cell/\((cellsFrom ((excHeap h C us).objs.size+1) (defScope st).names []).lookup y.1).isSome=true):=fun⟨n,v⟩ hy=>
  .inl (O.loc n (List.of_mem_zip hy).1)
 refine codeAny_call_function (by rw[qmgz];omega) (XE _ _ lk) rfl O.sc.co O.sc.gen rfl (PySem.W.codeRec_of XE hcd) (hb _ _ _ _ ?_);refine wpAny_newFunctionEnv_cells O.sc.kind hkind fun env he s1 x=>?_;subst he;refine⟨limE.keeps x.toInCall.keep,codeAny_func ?_⟩;have ndP:(("self":Str)::names).Nodup:=O.sc.nd;have hne1:(excHeap h C us).objs.size≠h.objs.size+1:=by rw[hsE];omega
 have e1:=x.toInCall.keep _ _ heE;have hloc:∀n∈(("self":Str)::names),(envOfC qual (defScope st) (excHeap h C us).objs.size f cdv).kindOf n=some .local:=fun n hn=>O.loc n hn;have inst0:s1.heap.Inst (h.objs.size+1) C (fun _=>none):=⟨_,e1,rfl,fun c=>nofun,.inl ⟨rfl,fun _=>rfl⟩⟩;have T0:InitSt s1.heap (h.objs.size+1) C (fun _=>none) s1.heap:=⟨fun _ _ _ q=>q,inst0,⟨_,_,e1,e1,rfl,rfl⟩,fun o dx q1 q2=>by
  rw[e1] at q1;cases q1;cases q2⟩
 have hNK:∀b o,K.lookup b=some o->b≠h.objs.size+1:=fun b o q z=>by
  have:=Heap.lt_size (X _ _ q);rw[z] at this;exact absurd this (by show ¬_<h.objs.size;omega)
 obtain⟨tk,hs1⟩:∃tk,s1=⟨s1.heap,g,dr,tk,os⟩:=by
  obtain⟨h1,tk,q,_⟩:=x.done;exact⟨tk,by rw[q]⟩
 refine qsiz (L:=(excHeap h C us).objs.size) (s1:=s1.heap) (e:=h.objs.size+1) (m:=_) O.set O.sc.kind rfl hne1 (hloc "self" List.mem_cons_self) (by decide) ?_ x.toInCall.ns (fun h2 k b o q=>k b o (hNK b o q) (x.toInCall.keep _ _ (XE _ _ q))) (names.zip us) (defBody st) (qi8z O.body hl.symm) (fun p hp=>?_) (fun _=>none) [] s1 _ T0 Within.nil ?_ fun h' tk' T'=>?_
 ·exact qc4z (i:=0) ndP rfl rfl (hloc "self" List.mem_cons_self)
 ·obtain⟨i,hi,ei⟩:=List.getElem_of_mem hp;have hpm:=List.of_mem_zip hp;refine⟨hloc p.1 (List.mem_cons_of_mem _ hpm.1),?_,hpm.1⟩;have hi2:i<names.length:=by rw[List.length_zip] at hi;omega
  have hi3:i<us.length:=by omega
  have ep:p=(names[i],us[i]):=by rw[←ei,List.getElem_zip]
  refine qc4z (i:=i+1) ndP ?_ ?_ (hloc p.1 (List.mem_cons_of_mem _ hpm.1))
  ·rw[List.getElem?_cons_succ,ep,List.getElem?_eq_getElem hi2]
  ·rw[List.getElem?_cons_succ,ep,List.getElem?_eq_getElem hi3]
 ·rw[List.length_nil,List.length_zip];have:=O.few;omega
 ·refine⟨rfl,?_⟩;obtain⟨o1,o2,a1,a2,a3,a4⟩:=T'.obj;rw[e1] at a1;cases a1;obtain⟨oe,b1,b2,b3,b4⟩:=T'.inst;rw[a2] at b1;cases b1;rw[hs1];rcases b4 with⟨_,z⟩|⟨d,c1,c2,c3⟩
  ·exfalso;cases names with
   |nil=>exact hne rfl
   |cons n0 ns0=>
    have key:∀(l:List (Str×Value)) (m0:Str->Option Value) (y:Str),(∃v,m0 y=some v)->∃v,l.foldl putN m0 y=some v:=fun l=>by
     induction l with
     |nil=>exact fun m0 y q=>q
     |cons p l ih=>
      intro m0 y q;refine ih (putN m0 p) y ?_;unfold putN;by_cases z:y=p.1
      ·exact⟨_,if_pos z⟩
      ·rw[if_neg z];exact q
    cases us with
    |nil=>cases hl
    |cons u0 us0=>
     obtain⟨v,hv⟩:=key (ns0.zip us0) (putN (fun _=>none) (n0,u0)) n0 ⟨u0,if_pos rfl⟩;have z0:=z n0;have z1:(ns0.zip us0).foldl putN (putN (fun _=>none) (n0,u0)) n0=none:=z0;rw[hv] at z1;cases z1
  ·have fr:=T'.fresh o2 d a2 c1;refine hq (h.objs.size+1) d h' tk' ⟨fun b o q=>T'.keep b o (fun z=>?_) (x.toInCall.keep _ _ (keepE b o q)),Heap.get?_none_of_le (Nat.le_succ _),?_,c2,⟨o2,h.objs.size,a2,b2,c1,a4⟩,c3⟩
   ·have:=Heap.lt_size q;rw[z] at this;exact absurd (show h.objs.size+1<h.objs.size from this) (by omega)
   ·cases q:h.get? d with
    |none=>rfl
    |some o=>
     rw[x.toInCall.keep _ _ (keepE d o q)] at fr;cases fr
end L2
namespace L2
open PySem PySem.Spec PyProof.Rows PySem.W
open Builtin Builtin.ObjectAttr
structure GetExc(K:Frag)(C:Addr):Prop where
 ga:findIn K (.ref C) "__getattribute__" = some (some (.builtin "BaseException.__getattribute__"))
 gn:findIn K (.ref C) "__getattr__" = some none
 be:mroIn K C (.type "BaseException")=some true
section
variable {prog:Program} {w:World} {A:Around} {E:Value->Shared->Prop} {K:Frag} {x C:Addr} {ox:Obj} {od:Option Obj} {name:Str} {s:Shared}
theorem qskz:builtinKind "BaseException.__getattribute__" = some .slot:=by decide +kernel
theorem qslz:splitId "BaseException.__getattribute__" = some ("BaseException","__getattribute__"):=by decide +kernel
theorem qsmz:plainId "BaseException.__getattribute__" = true:=by decide +kernel
theorem qsnz(self:Value):bindSpecial (.builtin "BaseException.__getattribute__") self=pure (.builtin "BaseException.__getattribute__",[self]):=by kernel_rfl
theorem qi9z{tk:Tok}{fill expr:Bool}{f:Builtin.ObjectAttr.Found}{Q:Value->Shared->Prop}(a:GetExc K C)(X:K.In s.heap)(I:InstAt s.heap x ox C od)(hf:findObj K C od name=some f)
  (h:wpAny (model prog w) A.in1 (match f with | .value v=>ret v | .bind g b=>bindTo g b (.ref x) (.ref C) | .missing=>unsupported "") (fun fin s'=>match fin with | .done (.ret v)=>wpAny (model prog w) A (handedOut v) Q E s' | _=>False) (fun _ _=>False) s) (hm:f≠.missing):
  wpAny (model prog w) A (getAttrBy (.ref x) (.str name tk) fill expr) Q E s:=by
 obtain⟨hh,g,d,t,os⟩:=s;have L0:=I.type (M:=model prog w);have L1:=looks_findIn (M:=model prog w) X a.ga;have L2:=looks_findIn (M:=model prog w) X a.gn;have L3:=looks_find (M:=model prog w) X I hf;have sub:Looks (model prog w) hh (isInstance (.ref x) (.type "BaseException")) true:=I.type.andThen (looks_mroIn X a.be);unfold getAttrBy;refine wpAny_holding (wpAny_bind (L0.at (wpAny_bind (L1.at ?_))));have hx2:(Value.builtin "BaseException.__getattribute__" == Value.builtin "object.__getattribute__")=false:=by decide +kernel
 show wpAny _ _ (if (onTheHeap (Value.ref C)&&Value.builtin "BaseException.__getattribute__" == Value.builtin "object.__getattribute__")=true then _ else getAttrByItsOwn _ _ _ _ _ _) _ _ _;rw[hx2,if_neg (by simp)];unfold getAttrByItsOwn;refine wpAny_bind ?_;show wpAny _ _ (typeLookup (.ref C) "__getattr__") _ _ _;refine L2.at ?_;refine wpAny_bind (wpAny_attempt (wpAny_holding ?_));have hx0:(expr&&onTheHeap (Value.builtin "BaseException.__getattribute__"))=false:=by cases expr<;>rfl
 show wpAny _ _ (if (expr&&onTheHeap (Value.builtin "BaseException.__getattribute__"))=true then _ else boundAndCalled _ _ _) _ _ _;rw[hx0,if_neg (by simp)];unfold boundAndCalled;rw[qsnz];refine wpAny_bind (wpAny_pure (wpAny_call ?_));refine codeAny_call_builtin qsmz F.entry_bexc_ga (@check_slot (model prog w) _ _ ⟨hh,g,d,t,os⟩ "BaseException.__getattribute__" "BaseException" "__getattribute__" (.ref x) [.str name tk] [] _ qskz qslz sub (F.args_bexc_ga (.ref x) (.str name tk)) ?_);unfold Builtin.«object.__getattribute__»;refine wpAny_bind (wpAny_pure (wpAny_bind (wpAny_pure (wpAny_bind (L0.at (wpAny_bind (L3.at ?_)))))));cases f with
 |missing=>exact absurd rfl hm
 |value v=>
  refine wpAny_mono h (fun fin s' z=>?_) fun _ _ z=>z.elim;rcases fin with (_|_|_|_)|_<;>first|exact z|exact z.elim
 |bind g b=>
  refine wpAny_mono h (fun fin s' z=>?_) fun _ _ z=>z.elim;rcases fin with (_|_|_|_)|_<;>first|exact z|exact z.elim
theorem qsoz{expr:Bool}{v:Value}{Q:Value->Shared->Prop}(a:GetExc K C)(X:K.In s.heap)(I:InstAt s.heap x ox C od)(hf:findObj K C od name=some (.value v))(hh:handedIn v=true)(h:Q v { s with toks:=s.toks+1 }):
  wpAny (model prog w) A (getAttr (.ref x) name expr) Q E s:=by
 unfold getAttr;refine wpAny_bind (wpAny_mkText (qi9z (s:={ s with toks:=s.toks+1 }) a X I hf (wpAny_pure ?_) (by simp)));show wpAny _ _ (handedOut v) _ _ _;rw[handedOut_of hh];exact wpAny_pure h
theorem qspz{Q:Option Value->Shared->Prop}(a:GetExc K C)(hc:(clsIn K C).isSome=true)(ha:findIn K (.ref C) "__class__" = some (some (.builtin "object.__class__")))(hn:specialIn K (.builtin "object.__class__") "__get__" = some (some (.builtin "getset_descriptor.__get__")))
  (htk:takesIn K (.builtin "object.__class__")=some true) (hm:mroIn K C (.type "object")=some true) (X:K.In s.heap) (I:InstAt s.heap x ox C od) (h:Q (some (.ref C)) { s with toks:=s.toks+1 }):wpAny (model prog w) A (getAttr? (.ref x) "__class__") Q E s:=by
 have hf:findObj K C od "__class__" = some (.bind (.builtin "getset_descriptor.__get__") (.builtin "object.__class__")):=by
  obtain⟨cd,hcd⟩:=Option.isSome_iff_exists.mp hc;unfold findObj;rw[hcd,Option.bind_some,ha,Option.bind_some];simp[hn,htk]
 unfold getAttr? getAttrBy?;refine wpAny_bind (wpAny_mkText (wpAny_bind (wpAny_attempt ?_)));refine qi9z (s:={ s with toks:=s.toks+1 }) a X I hf ?_ (by simp);show wpAny _ _ (holding [_] (call (.builtin "getset_descriptor.__get__") [.builtin "object.__class__",.ref x,.ref C]) >>= ret) _ _ _;refine wpAny_bind (wpAny_holding (wpAny_call (class_get (s:={ s with toks:=s.toks+1 }) (ox:=ox) (od:=od) X I hm ?_)));exact wpAny_pure (handed_on rfl (wpAny_pure h))
theorem qsqz(a:GetExc K C)(hc:(clsIn K C).isSome=true)(ha:findIn K (.ref C) "__class__" = some (some (.builtin "object.__class__")))(hn:specialIn K (.builtin "object.__class__") "__get__" = some (some (.builtin "getset_descriptor.__get__")))
  (htk:takesIn K (.builtin "object.__class__")=some true) (hm:mroIn K C (.type "object")=some true):KitX K (.ref x) (.ref C) (fun h=>InstAt h x ox C od):=by
 obtain⟨cd,hcd⟩:=Option.isSome_iff_exists.mp hc;obtain⟨o,ho,hcl⟩:∃o,K.lookup C=some o/\∃c,o.data=.cls c:=by
  unfold clsIn at hcd;split at hcd
  ·rename_i q;exact⟨_,q,_,rfl⟩
  ·cases hcd
 obtain⟨oc,odd,oda,osl⟩:=o;obtain⟨c,e⟩:=hcl;dsimp only at e;subst e;refine⟨fun _ _ _ I=>I.type,fun _ _ X _=>?_,fun h tp dd its n sl X htp=>?_,fun X I k=>qspz a hc ha hn htk hm X I k⟩
 ·intro A' Q' E' s' k q;unfold isType loadHead;exact wpAny_bind (wpAny_loadPart (k _ _ (X _ _ ho)) (wpAny_pure q))
 ·refine Bool.eq_false_iff.mpr fun q=>?_;have e:C=tp:=Value.ref.inj (beq_iff_eq.mp q);subst e;have z:=(X _ _ ho).symm.trans htp;cases z
end
end L2
namespace L3
open PySem PySem.Spec PyProof.Rows L2
structure ExcAsk(K:PySem.W.Frag)(C:Addr):Prop where
 ge:GetExc K C
 hd:(PySem.W.clsIn K C).isSome=true
 ha:PySem.W.findIn K (.ref C) "__class__" = some (some (.builtin "object.__class__"))
 hn:PySem.W.specialIn K (.builtin "object.__class__") "__get__" = some (some (.builtin "getset_descriptor.__get__"))
 ht:PySem.W.takesIn K (.builtin "object.__class__")=some true
 hm:PySem.W.mroIn K C (.type "object")=some true
theorem qsrz{P:Program}{w:World}{K:PySem.W.Frag}{H:Hp}{h:Heap}{p:Addr}{x:Str}{fs:List (Str×Int)}(ok:HOk P w H h)(e:excR x fs K p H):∃C oe od,ClsN K x C/\PySem.W.InstAt h p oe C od:=by
 obtain⟨C,dx,cn,e1,dd⟩:=e;obtain⟨⟨oe,vs,q1,q2,q3,q4,_⟩,_⟩:=(show ObjOk P w H h p (.ext (excφ p C dx)) from ok p _ e1);have hn:PySem.W.notCls oe=true:=by
  unfold PySem.W.notCls;rw[q4]
 rcases dd with⟨rfl,_⟩|⟨d,o,rfl,e2⟩
 ·exact⟨C,oe,none,cn,q1,q2,hn,by rw[q3];trivial⟩
 ·obtain⟨r1,_⟩:=(show ObjOk P w H h d (.frz o (.xd _)) from ok d _ e2);exact⟨C,oe,some o,cn,q1,q2,hn,by rw[q3];exact r1⟩
theorem qssz{P:Program}{w:World}{K:PySem.W.Frag}{H:Hp}{h:Heap}{p:Addr}{x:Str}{fs:List (Str×Int)}(ok:HOk P w H h)(e:excR x fs K p H)(hne:fs≠[]):
  ∃C oe od mA d,ClsN K x C/\PySem.W.InstAt h p oe C (some od)/\h.get? d=some od/\h.Ns1 d mA/\∀f,RelO ((fs.map fun p=>(p.1,V.int p.2)).lookup f) (mA f):=by
 obtain⟨C,dx,cn,e1,dd⟩:=e;obtain⟨⟨oe,vs,q1,q2,q3,q4,_⟩,_⟩:=(show ObjOk P w H h p (.ext (excφ p C dx)) from ok p _ e1);rcases dd with⟨_,z⟩|⟨d,o,rfl,e2⟩
 ·exact absurd z hne
 ·obtain⟨r1,mA,r2,r3⟩:=(show ObjOk P w H h d (.frz o (.xd _)) from ok d _ e2);refine⟨C,oe,o,mA,d,cn,⟨q1,q2,?_,by rw[q3];exact r1⟩,r1,r2,r3⟩;unfold PySem.W.notCls;rw[q4]
section
variable {X:Cx} {a:Expr} {ta:TE3} {pos p p2:Pos}
def eIsX(rs:List Str)(y:Str)(ta:TE3):TE3:=fun τ G Q=>ta τ G fun x G1=>match x with
 |.obj p=>∃z fs,G1 p=some (.gen (excR z fs))/\z∈rs/\Q (.bl (z==y)) G1
 |_=>False
theorem qjaz{c:Value}{cv:V}(hc:RelV cv c)(hu:∀c',RelV cv c'->c'=c):CallR X (.builtin "isinstance") (fun vs H Q=>∃q z fs b,vs=[.ref q,cv]/\excR z fs X.K q H/\(∀C,ClsN X.K z C->ExcAsk X.K C/\PySem.W.kitOne X.K (.ref C) c=some b)/\Q (.bl b) H):=by
 intro pins s σ H vs us Q I r h;obtain⟨q,z,fs,b,rfl,hx,hk,qq⟩:=h;obtain⟨u,c',rfl,ru,rc⟩:=vals2 r;cases (show u=Value.ref q from ru);cases hu c' rc;obtain⟨C,oe,od,cn,J⟩:=qsrz I.hok hx;obtain⟨K1,K2⟩:=hk C cn;exact PySem.W.kia_one (qsqz K1.ge K1.hd K1.ha K1.hn K1.ht K1.hm) I.kIn J K2 (fun z=>nomatch z) fun tk=>⟨.bl b,H,I.tok tk,rfl,qq⟩
theorem qstz{rs:List Str}{y:Str}{c:Value}{cv:V}(hk:∀z∈rs,∀C,ClsN X.K z C->ExcAsk X.K C/\PySem.W.kitOne X.K (.ref C) c=some (z==y)){σ:L2.St}{H:Hp}{Q:VK}(h:low X.K (eIsX rs y ta) σ H Q):
  tCB (fun vs H Q=>∃q z fs b,vs=[.ref q,cv]/\excR z fs X.K q H/\(∀C,ClsN X.K z C->ExcAsk X.K C/\PySem.W.kitOne X.K (.ref C) c=some b)/\Q (.bl b) H) (tCons (low X.K ta) (tCons (tC cv) tNil)) σ H Q:=by
 obtain⟨τ,G,Q3,RS,RG,h,k⟩:=h;refine⟨τ,G,_,RS,RG,h,fun v H1 d G1 h1 S1 R1 q1=>?_⟩;cases d with
 |obj q=>
  obtain⟨z,fs,e1,hz,q2⟩:=q1;rw[qpz h1];exact⟨q,z,fs,_,rfl,(R1 q _ e1).1,fun C cn=>hk z hz C cn,k _ H1 (.bl (z==y)) G1 q6z S1 R1 q2⟩
 |_=>exact q1.elim
theorem qsuz{rs:List Str}{y:Str}{C:Addr}(hk:∀z∈rs,∀D,ClsN X.K z D->ExcAsk X.K D/\PySem.W.kitOne X.K (.ref D) (.ref C)=some (z==y))(ha:PE3 X a ta)(hm:X.mg "isinstance" = none)(hmy:X.mg y=some (.ref C))(hgy:Gl X y:=by rfl)(hdy:(y==("__debug__":Str))=false:=by decide)(hg:Gl X "isinstance":=by rfl)(he:notStar a=true:=by rfl):
  PE3 X (.Call (.Name "isinstance" p) [a,.Name y p2] [] pos) (eIsX rs y ta):=
 qoz (qarz (qjaz (c:=.ref C) (cv:=.ref C) rfl fun c' r=>r) hg hm rfl (qaqz ha (qaqz (qgfz (v:=.ref C) hgy hmy rfl hdy) qboz (qjz rfl)) (qjz he)) (he:=qjz he) (hpl:=qvz rfl)) fun σ H Q h=>qstz hk h
def eIsV(rs:List Str)(ta:TE3):TE3:=fun τ G Q=>ta τ G fun x G1=>match x with
 |.obj p=>∃z fs,G1 p=some (.gen (excR z fs))/\z∈rs/\Q (.bl true) G1
 |_=>False
theorem qsvz{rs:List Str}(hk:∀z∈rs,∀D,ClsN X.K z D->ExcAsk X.K D/\PySem.W.kitOne X.K (.ref D) (.type "ValueError")=some true)(ha:PE3 X a ta)(hm:X.mg "isinstance" = none)(hmy:X.mg "ValueError" = none)(hgy:Gl X "ValueError":=by rfl)(hg:Gl X "isinstance":=by rfl)(he:notStar a=true:=by rfl):
  PE3 X (.Call (.Name "isinstance" p) [a,.Name "ValueError" p2] [] pos) (eIsV rs ta):=
 qoz (qarz (qjaz (c:=.type "ValueError") (cv:=.ty "ValueError") rfl fun c' r=>r) hg hm rfl (qaqz ha (qaqz (qggz (v:=.ty "ValueError") hgy hmy rfl rfl (by decide) (by decide)) qboz (qjz rfl)) (qjz he)) (he:=qjz he) (hpl:=qvz rfl)) fun σ H Q h=>by
  obtain⟨τ,G,Q3,RS,RG,h,k⟩:=h;refine⟨τ,G,_,RS,RG,h,fun v H1 d G1 h1 S1 R1 q1=>?_⟩;cases d with
  |obj q=>
   obtain⟨z,fs,e1,hz,q2⟩:=q1;rw[qpz h1];exact⟨q,z,fs,_,rfl,(R1 q _ e1).1,fun C cn=>hk z hz C cn,k _ H1 (.bl true) G1 q6z S1 R1 q2⟩
  |_=>exact q1.elim
end
end L3
namespace L3
open PySem PySem.Spec PyProof.Rows L2
theorem qe6z:∀{bs:List Bool} {its:List Value},Vals (bs.map V.bl) its->its=bs.map Value.bool
 |[],_,h=>h.zero
 |b::bs,_,h=>by
  cases h with
  |cons r1 r2=>rw[qe6z r2,show _=Value.bool b from r1];rfl
def rCountB:V->List V->Hp->VK->Prop:=fun x vs H Q=>∃(l:Addr) (bs:List Bool),x=.ref l/\vs=[.bl true]/\H l=some (.lst (bs.map V.bl))/\Q (.int ((bs.countP id:Nat):Int)) H
def rIndexB:V->List V->Hp->VK->Prop:=fun x vs H Q=>∃(l:Addr) (bs:List Bool) (j:Nat),x=.ref l/\vs=[.bl true]/\H l=some (.lst (bs.map V.bl))/\bs[j]?=some true/\(∀i,i<j->bs[i]?=some false)/\j<1000/\Q (.int ((j:Nat):Int)) H
def isT:Value->Bool
 |.bool b=>b
 |_=>false
section
variable {X:Cx}
theorem qswz:MtR X "list.count" rCountB:=by
 intro pins s σ H x vs v us Q I rx rv h;obtain⟨l,bs,rfl,rfl,hH,q⟩:=h;cases rx;obtain⟨u,rfl,ru⟩:=rv.one;cases (show u=Value.bool true from ru);obtain⟨z,its,n,r,hl,e⟩:=I.lstM hH;rw[qe6z r] at e;refine call_meets F.slot_list_count ⟨_,e,rfl⟩ F.entry_list_count (F.args_list_count_2 _ _) (SeqAt.list_countAt l (bs.map Value.bool).toArray n none #[] (.bool true) isT) ⟨e,fun y hy=>?_,?_⟩
 ·obtain⟨b,_,rfl⟩:=List.mem_map.mp (Array.mem_toList_iff.mpr hy);have:=SeqAt.EqAt.bool_bool (A:=X.A.in1) (s:=s) b true;cases b<;>exact this
 ·refine⟨.int ((bs.countP id:Nat):Int),H,I.tok _,⟨s.toks,?_⟩,q⟩;have e2:((bs.map Value.bool).toArray.toList).countP isT=bs.countP id:=by
   show (bs.map Value.bool).countP isT=_;rw[List.countP_map];rfl
  rw[e2]
theorem qsxz:MtR X "list.index" rIndexB:=by
 intro pins s σ H x vs v us Q I rx rv h;obtain⟨l,bs,j,rfl,rfl,hH,h1,h2,h3,q⟩:=h;cases rx;obtain⟨u,rfl,ru⟩:=rv.one;cases (show u=Value.bool true from ru);obtain⟨z,its,n,r,hl,e⟩:=I.lstM hH;rw[qe6z r] at e;have hj:j<bs.length:=(List.getElem?_eq_some_iff.mp h1).1;refine call_meets F.slot_list_index ⟨_,e,rfl⟩ F.entry_list_index (F.args_list_index_2 _ _) (SeqAt.list_indexAt l (bs.map Value.bool).toArray n none #[] (.bool true) isT j (by simpa using hj) (by omega) ?_ fun m hm hmj=>?_) ⟨e,fun y hy=>?_,?_⟩
 ·simp only[List.getElem_toArray,List.getElem_map];rw[(List.getElem?_eq_some_iff.mp h1).2];rfl
 ·simp only[List.getElem_toArray,List.getElem_map];rw[(List.getElem?_eq_some_iff.mp (h2 m hmj)).2];rfl
 ·obtain⟨b,_,rfl⟩:=List.mem_map.mp (Array.mem_toList_iff.mpr hy);have:=SeqAt.EqAt.bool_bool (A:=X.A.in1) (s:=s) b true;cases b<;>exact this
 ·exact⟨.int ((j:Nat):Int),H,I.tok _,⟨_,rfl⟩,q⟩
end
section
variable {K:PySem.W.Frag}
def qe7z:D->List D->Gp->V3->Prop:=fun x ds G Q=>match x,ds with
 |.obj p,[.bl true]=>∃xs bs,G p=some (.lst xs)/\blsOf xs=some bs/\Q (.int ((bs.countP id:Nat):Int)) G
 |_,_=>False
def qe8z:D->List D->Gp->V3->Prop:=fun x ds G Q=>match x,ds with
 |.obj p,[.bl true]=>∃xs bs j,G p=some (.lst xs)/\blsOf xs=some bs/\bs[j]?=some true/\(∀i,i<j->bs[i]?=some false)/\j<1000/\Q (.int ((j:Nat):Int)) G
 |_,_=>False
theorem qsyz:LowM K qe7z rCountB:=fun x vx ds vs G H Q3 Q hx hs RG q k=>by
 unfold qe7z at q;split at q
 ·rename_i p;obtain⟨xs,bs,e1,e2,q⟩:=q;obtain⟨ys,e3,hv⟩:=RG p _ e1;obtain⟨v,r,rfl,hv1,hv2⟩:=hs.inv;rw[hv2.inv0,qa7z hv1,qpz hx];exact⟨p,bs,rfl,rfl,by rw[e3,qdoz hv e2],k _ H (.int _) G q9z (.refl H G) RG q⟩
 ·exact q.elim
theorem qszz:LowM K qe8z rIndexB:=fun x vx ds vs G H Q3 Q hx hs RG q k=>by
 unfold qe8z at q;split at q
 ·rename_i p;obtain⟨xs,bs,j,e1,e2,q1,q2,q3,q⟩:=q;obtain⟨ys,e3,hv⟩:=RG p _ e1;obtain⟨v,r,rfl,hv1,hv2⟩:=hs.inv;rw[hv2.inv0,qa7z hv1,qpz hx];exact⟨p,bs,j,rfl,rfl,by rw[e3,qdoz hv e2],q1,q2,q3,k _ H (.int _) G q9z (.refl H G) RG q⟩
 ·exact q.elim
end
end L3
namespace L3
open PySem PySem.Spec PyProof.Rows L2
open Sem (wp)
def sRaise(x:Str)(names:List Str)(E:E3)(t:TA3):TS3:=fun _ τ G=>t τ G fun ds _=>∃is:List Int,ds=is.map D.int/\is.length=names.length/\E x (names.zip is)
theorem qjbz:∀(names:List Str) (is:List Int) (us:List Value) (m0:Str->Option Value) (fs0:List (Str×V)),Vals (is.map V.int) us->names.length=is.length->(names.Nodup)->(∀n∈names,fs0.lookup n=none)->(∀f,RelO (fs0.lookup f) (m0 f)) ->
  ∀f,RelO ((((names.zip is).map fun p=>(p.1,V.int p.2))++fs0).lookup f) ((names.zip us).foldl putN m0 f)
 |[],[],us,m0,fs0,hv,_,_,_,h=>by
  rw[hv.zero];exact h
 |n::ns,i::is,us,m0,fs0,hv,hl,nd,hn,h=>by
  cases hv with
  |@cons v u vs us2 r1 r2=>
   have hnd:=List.nodup_cons.mp nd;intro f;have key:=qjbz ns is us2 (putN m0 (n,u)) (fs0++[(n,V.int i)]) r2 (by simpa using hl) hnd.2 (fun y hy=>by
    rw[List.lookup_append,hn y (List.mem_cons_of_mem _ hy),List.lookup_cons,List.lookup_nil];have:(y==n)=false:=by
     rw[beq_eq_false_iff_ne];intro z;exact hnd.1 (z▸hy)
    rw[this];rfl) (fun y=>by
    unfold putN;by_cases z:y=n
    ·subst z;rw[if_pos rfl,List.lookup_append,hn y List.mem_cons_self,List.lookup_cons,beq_self_eq_true];exact r1
    ·rw[if_neg z,List.lookup_append,List.lookup_cons,List.lookup_nil,beq_eq_false_iff_ne.mpr z];have:=h y;cases q:fs0.lookup y with
     |none=>rw[q] at this;exact this
     | some w=>rw[q] at this;exact this) f
   show RelO ((((n,V.int i)::(ns.zip is).map fun p=>(p.1,V.int p.2))++fs0).lookup f) ((ns.zip us2).foldl putN (putN m0 (n,u)) f);have e:((((n,V.int i)::(ns.zip is).map fun p=>(p.1,V.int p.2))++fs0).lookup f)=((((ns.zip is).map fun p=>(p.1,V.int p.2))++(fs0++[(n,V.int i)])).lookup f):=by
    rw[List.cons_append,List.lookup_cons,List.lookup_append,List.lookup_append,List.lookup_append,List.lookup_cons,List.lookup_nil];by_cases z:f=n
    ·subst z;have hz:((ns.zip is).map fun p=>(p.1,V.int p.2)).lookup f=none:=by
      rw[List.lookup_eq_none_iff];intro p hp;obtain⟨q,hq,rfl⟩:=List.mem_map.mp hp;rw[bne_iff_ne];intro z;exact hnd.1 (z▸(List.of_mem_zip hq).1)
     rw[beq_self_eq_true,hz,hn f List.mem_cons_self];rfl
    ·rw[beq_eq_false_iff_ne.mpr z];cases ((ns.zip is).map fun p=>(p.1,V.int p.2)).lookup f<;>cases fs0.lookup f<;>rfl
   rw[e];exact key
theorem qjcz{K:PySem.W.Frag}{H:Hp}:∀{is:List Int} {vs:List V},Hvs K H (is.map D.int) vs->vs=is.map V.int
 |[],_,h=>h.inv0
 |i::is,_,h=>by
  obtain⟨v,r,rfl,h1,h2⟩:=h.inv;rw[qjcz h2,qsz h1];rfl
theorem qe9z{K:PySem.W.Frag}{C:Addr}{bm:List Value}{init:Option Value}{newId:String}(q:excIn K C bm init newId=true):∃nm qn N bs sn sub ab col dd k0 k1 k2 k3 k5,K.lookup C=some (excClassObj nm qn C N bs bm true sn sub ab col dd k0 k1 k2 k3 k5 newId):=by
 unfold excIn at q;split at q
 ·rename_i dd cd sl ho;split at q
  ·rename_i C' bm' k0 k1 k2 k3 n k5 hm hs;simp only[Bool.and_eq_true,beq_iff_eq,Bool.not_eq_true'] at q;obtain⟨⟨⟨⟨⟨rfl,rfl⟩,hdel⟩,hdct⟩,rfl⟩,hns⟩:=q;obtain⟨nm,bs,mro,ns,qn,hd,sn,sub,ab,col,del⟩:=cd;dsimp only at hm hdel hdct hns;subst hm hdel hdct;have hsl:sl = #[k0,k1,k2,k3,some (.builtin n),k5]:=by
    obtain⟨l⟩:=sl;simp only at hs;rw[hs]
   subst hsl;exact⟨nm,qn,ns,bs,sn,sub,ab,col,dd,k0,k1,k2,k3,k5,ho⟩
  ·cases q
 ·cases q
theorem qs0z{prog:Program}{w:World}{A:Around}{E:Value->Shared->Prop}{s:Shared}{env:Env}{nm q:Str}{C N:Addr}{bs bm:List Value}{hdct:Bool}{sn:List Str}{sub:List Value}{ab:Bool}{col:Option Bool}{dd:Option Addr}{k0 k1 k2 k3 k5:Option Value}{newId:String}
  {x:Sem Value} {Q:Flow->Shared->Prop} (hbase:bm.contains (.type "BaseException")=true) (hh:A.handled=none)
  (h:wpAny (model prog w) A x (fun v s₁=>∃e oe t,v=.ref e/\s₁.heap.get? C=some (excClassObj nm q C N bs bm hdct sn sub ab col dd k0 k1 k2 k3 k5 newId)/\s₁.heap.get? e=some oe/\oe.cls=.ref C/\oe.data=.fields #[.ref t,.none,.none,.none,.bool false,.none]/\E (.ref e) s₁) E s):
  wpAny (model prog w) A (raiseStmt env (some x) none) Q E s:=by
 have hcB:(Value.ref C::bm).contains (.type "BaseException")=true:=by rw[List.contains_cons,hbase,Bool.or_true]
 unfold raiseStmt;refine wpAny_bind (wpAny_mono h (fun v s₁ h₁=>?_) fun _ _ x=>x);obtain⟨e,oe,t,rfl,hC,he,h1,h2,hE⟩:=h₁;obtain⟨hp,g,d,tk,os⟩:=s₁;obtain⟨oc,od,oda,osl⟩:=oe;dsimp only at h1 h2;subst h1 h2
 repeat (first|with_reducible refine wpAny_loadPart_at he ?_|with_reducible refine wpAny_loadPart_at hC ?_|(with_reducible refine wpAny_isSubtype_exc hC ?_;rw[hcB])|wp_step)
 exact wpAny_raiseNew_none hh hE
theorem qs1z{X:Cx}{E:XK}{E':E3}{x:Str}{C B f:Addr}{fd:FuncData}{qual:Str}{st:Stmt}{names:List Str}{k:Nat}{e:Expr}{es:List Expr}{t:TA3}{np cpos pos:Pos}(hB:Body X E)(hE:∀cls dx H',lowE X.K E' cls dx H'->E cls dx H')(O:OwnInit X.K C B f fd qual st names)(cn:ClsN X.K x C)(hm:X.mg x=some (.ref C))(hr:Room k X.A)(hc:X.calm=true)(ha:PA3 X (e::es) t)
  (hne:names≠[]:=by decide) (hg:Gl X x:=by rfl) (hdb:(x==("__debug__":Str))=false:=by decide) (he:notStar e=true:=by rfl) (hpl:es.all notStar=true:=by rfl):
  PS3 X (.Raise (some (.Call (.Name x np) (e::es) [] cpos)) none pos) (sRaise x names E' t):=by
 intro pins s σ H D2 I ⟨τ,G,D3,RS,RG,h,EL⟩;rw[arm_exec_Raise];simp only[evalOpt,Option.map];refine wpAny_bind (wpAny_standAt ?_);obtain⟨nm,qn,N,bs,sn,sub,ab,col,dd,k0,k1,k2,k3,k5,lk⟩:=qe9z O.ex.cls;refine qs0z (C:=C) (nm:=nm) (q:=qn) (N:=N) (bs:=bs) (bm:=.ref B::veTail) (hdct:=true) (sn:=sn) (sub:=sub) (ab:=ab) (col:=col) (dd:=dd) (k0:=k0) (k1:=k1) (k2:=k2) (k3:=k3) (k5:=k5) (newId:="ValueError.__new__") (by rw[List.contains_cons,show veTail.contains (.type "BaseException")=true by decide +kernel,Bool.or_true]) (I.ok.hd hc) ?_;refine wpAny_bind (thn (Q:=fun v s₁=>∃e oe t,v=.ref e/\s₁.heap.get? C=some (excClassObj nm qn C N bs (.ref B::veTail) true sn sub ab col dd k0 k1 k2 k3 k5 "ValueError.__new__")/\s₁.heap.get? e=some oe/\oe.cls=.ref C/\oe.data=.fields #[.ref t,.none,.none,.none,.bool false,.none]/\X.xe (.ref e) s₁) ?_ fun v s2 q=>wpAny_bind (wpAny_standAt (wpAny_pure q)));refine wpAny_Call_Name_kw (qbnz I hg hm ?_ hdb);refine PySem.W.callWith_K (h₀:=X.base) I.ok.mod.kin O.kp (thn (ha cpos pins s σ H (fun vs H1=>∃is:List Int,vs=is.map V.int/\is.length=names.length/\E' x (names.zip is)) I
  ⟨τ,G,_,RS,RG,h,fun vs H1 ds G1 a b c q=>by obtain⟨is,rfl,hl,q⟩:=q;exact⟨is,qjcz a,hl,q⟩⟩) fun us s1 ⟨vs,H1,I1,r,is,ev,hl,q⟩=>⟨I1.kIn,?_⟩) (qjz he) (qvz hpl)
 subst ev;have hlu:us.length=names.length:=by rw[←r.length,List.length_map];exact hl
 refine qsjz O I1.kIn I1.nolimit hlu hne (by have:=hr.dp;omega) fun e1 d h' tk M=>?_;obtain⟨oe,t1,o1,o2,o3,o4⟩:=M.obj;obtain⟨od,es1,ep1,n1,nr⟩:=M.ns;have I1k:Inv X pins σ H1 { s1 with heap:=h',toks:=tk }:=I1.kept M.keep;have gone:∀{b:Addr} {o:Obj},s1.heap.get? b=some o->b≠d:=fun {b o} hb z=>by
  rw[z,M.newD] at hb;cases hb
 have I2:=I1k.track (a:=d) (o:=.frz od (.xd ((names.zip is).map fun p=>(p.1,V.int p.2)))) (qi2z I1 M.newD) (qi3z hB I1 M.newD)
  ⟨n1,(names.zip us).foldl putN (fun _=>none),⟨od,es1,ep1,n1,nr⟩,fun f=>by
   have:=qjbz names is us (fun _=>none) [] r hl.symm (List.nodup_cons.mp O.sc.nd).2 (fun _ _=>rfl) (fun _=>trivial) f;rw[List.append_nil] at this;exact this⟩
  (fun z=>by
   obtain⟨m,⟨o,_,_,ho,_⟩,_⟩:=I1.loc;exact gone ho z.symm)
  (fun y c hcc z=>by
   obtain⟨v,o,ho,_⟩:=I1.cell y c hcc;exact gone ho z)
  (fun p hp=>gone (I1.pin p hp).1)
 refine⟨e1,oe,t1,rfl,I2.kIn _ _ lk,o1,o2,o4,?_⟩;have hne1:e1≠d:=M.ne.symm;refine hB.throw I2 o1 o2 o4 rfl rfl (qi3z hB I1 M.newE) (by rw[qfz hne1];exact qi2z I1 M.newE) (hE _ _ _ ⟨x,C,names.zip is,rfl,cn,q,.inr ⟨d,od,o3,qnz⟩⟩)
end L3
namespace L3
open PySem PySem.Spec PyProof.Rows L2
structure QEX(X:Cx)(e:Expr)(t:TEX):Prop where
 of:PEX X e t
structure QSX(X:Cx)(st:List Stmt)(t:TSX):Prop where
 of:PSX X st t
section
variable {X:Cx} {k:Nat} {f:Addr} {fd:FuncData} {ps:List Str} {sp:SpX} {sp3:Sp3} {E':E3} {x:Str} {p pos:Pos} {a b e c:Expr} {es:List Expr} {t:TA3} {te:TE3} {tx:TEX} {tax:TAX} {tc:TT3} {ta tb tr:TSX} {sa sb rest:List Stmt}
theorem qjdz(F:FnH3 X.prog X.w X.K X.mg X.base k f fd ps sp3)(hr:RoomH k X.A)(hm:X.mg x=some (.ref f))(hk:PySem.W.keepIn X.K (.ref f)=true)(hb:Binds X.K fd ps [])(ha:QA X (e::es) t)(hg:Gl X x:=by rfl)
  (hdb:(x==("__debug__":Str))=false:=by decide) (he:notStar e=true:=by rfl) (hpl:es.all notStar=true:=by rfl):QE X (.Call (.Name x p) (e::es) [] pos) (eCall sp3 t):=⟨qsaz F hr hm hk hb ha.of hg hdb he hpl⟩
theorem qs2z:QSX X [] sxNext:=⟨qsbz⟩
theorem qs3z{E:XK}{C B:Addr}{qual:Str}{st:Stmt}{names:List Str}{np cpos:Pos}(hB:Body X E)(hE:∀cls dx H',lowE X.K E' cls dx H'->E cls dx H')(O:OwnInit X.K C B f fd qual st names)(cn:ClsN X.K x C)(hm:X.mg x=some (.ref C))(hr:Room k X.A)(hc:X.calm=true)(ha:QA X (e::es) t)
  (hne:names≠[]:=by decide) (hg:Gl X x:=by rfl) (hdb:(x==("__debug__":Str))=false:=by decide) (he:notStar e=true:=by rfl) (hpl:es.all notStar=true:=by rfl):
  QS X (.Raise (some (.Call (.Name x np) (e::es) [] cpos)) none pos) (sRaise x names E' t):=⟨qs1z hB hE O cn hm hr hc ha.of hne hg hdb he hpl⟩
theorem qbiz{rs:List Str}{y:Str}{C:Addr}{p2:Pos}(hk:∀z∈rs,∀D,ClsN X.K z D->ExcAsk X.K D/\PySem.W.kitOne X.K (.ref D) (.ref C)=some (z==y))(ha:QE X a te)(hm:X.mg "isinstance" = none)(hmy:X.mg y=some (.ref C))(hgy:Gl X y:=by rfl)(hdy:(y==("__debug__":Str))=false:=by decide)(hg:Gl X "isinstance":=by rfl)(he:notStar a=true:=by rfl):
  QE X (.Call (.Name "isinstance" p) [a,.Name y p2] [] pos) (eIsX rs y te):=⟨qsuz hk ha.of hm hmy hgy hdy hg he⟩
theorem qs4z{rs:List Str}{p2:Pos}(hk:∀z∈rs,∀D,ClsN X.K z D->ExcAsk X.K D/\PySem.W.kitOne X.K (.ref D) (.type "ValueError")=some true)(ha:QE X a te)(hm:X.mg "isinstance" = none)(hmy:X.mg "ValueError" = none)(hgy:Gl X "ValueError":=by rfl)(hg:Gl X "isinstance":=by rfl)(he:notStar a=true:=by rfl):
  QE X (.Call (.Name "isinstance" p) [a,.Name "ValueError" p2] [] pos) (eIsV rs te):=⟨qsvz hk ha.of hm hmy hgy hg he⟩
end
theorem frame0{P:Program}{w:World}{K:PySem.W.Frag}{mg:Str->Option Value}{base:Heap}{N:List Str}{qual:Str}{scope:Scope}{f:Addr}{cd:Value}{A:Around}{outer:List Env}{s:Shared}{H:Hp}{E:XK}:Frame (cxOf CX0 P w K mg base N qual scope f cd A outer s H E).nox:=⟨rfl,rfl,rfl⟩
theorem qfnX{P:Program}{w:World}{K:PySem.W.Frag}{mg:Str->Option Value}{base:Heap}{x qual:Str}{st:Stmt}{f:Addr}{fd:FuncData}{N ps:List Str}{k:Nat}{sp:SpX}(F:Fun K x qual st f fd)(S:FnScope N ps (defScope st))(hN:ps.length≤N.length)(len:∀ds Q E,sp ds Q E->ds.length=ps.length)(tb:E3->TS3)
  (hbody:∀(cdv:Value) (A:Around) (outer:List Env) (s:Shared) (H:Hp) (E:XK) (E':E3),Room k (A.deeper (envOfC qual (defScope st) s.heap.objs.size f cdv))->(∀cls dx H',lowE K E' cls dx H'->E cls dx H') ->
   QSs (cxOf (CXE P w base) P w K mg base N qual (defScope st) f cdv A outer s H E) (defBody st) (tb E'))
  (hrd:∀ds Q E,sp ds Q E->tb E (endsOf Q) (start3 N ds) noG):FnX P w K mg base (k+1) f fd ps sp:=fnX F S hN len tb (fun cdv A outer s H E E' hr hE=>(hbody cdv A outer s H E E' hr hE).of) hrd
theorem qfnH{P:Program}{w:World}{K:PySem.W.Frag}{mg:Str->Option Value}{base:Heap}{x qual:Str}{st:Stmt}{f:Addr}{fd:FuncData}{N ps:List Str}{k:Nat}{sp:Sp3}(F:Fun K x qual st f fd)(S:FnScope N ps (defScope st))(hN:ps.length≤N.length)(len:∀ds G Q,sp ds G Q->ds.length=ps.length)(tb:TS3)
  (hbody:∀(cdv:Value) (A:Around) (outer:List Env) (s:Shared) (H:Hp) (E:XK),RoomH k (A.deeper (envOfC qual (defScope st) s.heap.objs.size f cdv)) ->
   QSs (cxH P w K mg base N qual (defScope st) f cdv A outer s H E) (defBody st) tb)
  (hrd:∀ds G Q,sp ds G Q->tb (endsOf Q) (start3 N ds) G):FnH3 P w K mg base (k+1) f fd ps sp:=fnH3 F S hN len tb (fun cdv A outer s H E hr=>(hbody cdv A outer s H E hr).of) hrd
end L3
namespace L3
open PySem PySem.Spec PyProof.Rows L2
structure FldAsk(K:PySem.W.Frag)(C:Addr)(f:Str):Prop where
 ge:GetExc K C
 hd:PySem.W.hasDictIn K C=true
 nm:PySem.W.findIn K (.ref C) f=some none
def eFldR(rs:List Str)(f:Str)(ta:TE3):TE3:=fun τ G Q=>ta τ G fun x G1=>match x with
 |.obj p=>∃z fs i,G1 p=some (.gen (excR z fs))/\z∈rs/\fs.lookup f=some i/\Q (.int i) G1
 |_=>False
theorem qjez(f:Str):∀fs:List (Str×Int),(fs.map fun p=>(p.1,V.int p.2)).lookup f=(fs.lookup f).map V.int
 |[]=>rfl
 |p::fs=>by
  rw[List.map_cons,List.lookup_cons,List.lookup_cons,qjez f fs];cases f==p.1<;>rfl
theorem qs5z{K:PySem.W.Frag}{C:Addr}{od:Obj}{f:Str}{u:Value}(a:FldAsk K C f)(hl:PySem.W.lookIn f od=some (some u)):PySem.W.findObj K C (some od) f=some (.value u):=by
 obtain⟨cd,hc,hd⟩:=PySem.W.any_some a.hd;unfold PySem.W.findObj PySem.W.ownOf;rw[hc,Option.bind_some,a.nm,Option.bind_some];dsimp only[Option.bind_some];rw[hd,if_pos rfl,hl];rfl
section
variable {X:Cx} {a:Expr} {ta:TE3} {pos:Pos} {f:Str}
theorem qs6z{rs:List Str}(hk:∀z∈rs,∀C,ClsN X.K z C->FldAsk X.K C f)(ha:PE3 X a ta)(hb:attributeBase a f X.env (eval a X.env)=eval a X.env:=by rfl):PE3 X (.Attribute a f pos) (eFldR rs f ta):=by
 intro pins s σ H Q I ⟨τ,G,Q3,RS,RG,h,k⟩;refine qmfz hb (thn (ha pins s σ H (fun v H1=>∃p z fs i,v=.ref p/\excR z fs X.K p H1/\z∈rs/\fs.lookup f=some i/\Q (.int i) H1) I ⟨τ,G,_,RS,RG,h,fun v H1 d G1 h1 S1 R1 q1=>?_⟩) fun u s1 ⟨v,H1,I1,rv,p,z,fs,i,ev,ex,hz,hl,q⟩=>?_)
 ·cases d with
  |obj p=>
   obtain⟨z,fs,i,e1,hz,hl,q2⟩:=q1;exact⟨p,z,fs,i,qpz h1,(R1 p _ e1).1,hz,hl,k _ H1 (.int i) G1 q9z S1 R1 q2⟩
  |_=>exact q1.elim
 ·subst ev;cases (show u=Value.ref p from rv);have hne:fs≠[]:=fun w=>by
   rw[w] at hl;cases hl
  obtain⟨C,oe,od,mA,d,cn,J,hod,hns,hrel⟩:=qssz I1.hok ex hne;obtain⟨od2,h2,lk⟩:=qmez hns;rw[hod] at h2;cases h2;have hf:=hrel f;rw[qjez,hl] at hf;obtain⟨u,hu,ru⟩:=RelO.some_of (v:=V.int i) (o:=mA f) hf;obtain⟨tk,rfl⟩:=(show ∃t,u=Value.int i t from ru);have A1:=hk z hz C cn;exact qsoz A1.ge I1.kIn J (qs5z A1 (by rw[lk,hu])) rfl ⟨.int i,H1,I1.tok _,⟨tk,rfl⟩,q⟩
theorem qjfz{rs:List Str}(hk:∀z∈rs,∀C,ClsN X.K z C->FldAsk X.K C f)(ha:QE X a ta)(hb:attributeBase a f X.env (eval a X.env)=eval a X.env:=by rfl):QE X (.Attribute a f pos) (eFldR rs f ta):=⟨qs6z hk ha.of hb⟩
end
end L3
namespace L3
open PySem PySem.Spec PyProof.Rows L2
theorem qs7z{K:PySem.W.Frag}{C B:Addr}{init:Option Value}{newId:String}(e:excIn K C (.ref B::veTail) init newId=true):∃cd,PySem.W.clsIn K C=some cd/\cd.mro=.ref C::.ref B::veTail/\cd.hasDict=true:=by
 obtain⟨nm,qn,N,bs,sn,sub,ab,col,dd,k0,k1,k2,k3,k5,lk⟩:=qe9z e;unfold PySem.W.clsIn;rw[lk];exact⟨_,rfl,rfl,rfl⟩
theorem qs8z{K:PySem.W.Frag}{C:Addr}{bm:List Value}{init:Option Value}{newId:String}(e:excIn K C bm init newId=true):(PySem.W.clsIn K C).isSome=true:=by
 obtain⟨nm,qn,N,bs,sn,sub,ab,col,dd,k0,k1,k2,k3,k5,lk⟩:=qe9z e;unfold PySem.W.clsIn;rw[lk];rfl
theorem qs9z{K:PySem.W.Frag}{f:Addr}{T:Value}(h:PySem.W.typeIn K (.ref f)=some T):∃o,K.lookup f=some o/\o.cls=T:=by
 unfold PySem.W.typeIn at h;cases q:K.lookup f with
 |none=>simp[q] at h
 |some o=>
  simp[q] at h;exact⟨o,rfl,h⟩
theorem len1{us:List Value}(h:us.length=1):∃a,us=[a]:=List.length_eq_one_iff.mp h
theorem len2{us:List Value}(h:us.length=2):∃a b,us=[a,b]:=by
 rcases us with _|⟨a,us⟩
 ·cases h
 ·obtain⟨b,rfl⟩:=len1 (us:=us) (Nat.succ.inj h);exact⟨a,b,rfl⟩
theorem len3{us:List Value}(h:us.length=3):∃a b c,us=[a,b,c]:=by
 rcases us with _|⟨a,us⟩
 ·cases h
 ·obtain⟨b,c,rfl⟩:=len2 (us:=us) (Nat.succ.inj h);exact⟨a,b,c,rfl⟩
end L3
namespace My
open PySem L2 L3
def Known(G:Gp):D->Prop
 |.obj a=>∃o,G a=some o/\o.plain
 |_=>True
def wholeD:D->Bool
 |.int _=>true
 |_=>false
theorem qiz{Q:V3}{d:D}{G:Gp}(h:Q d G):(endsOf Q).rt d G:=⟨G,Sub.refl G,h⟩
theorem qcoz{Q:V3}{d:D}{G G':Gp}(s:Sub G G')(h:Q d G):(endsOf Q).rt d G':=⟨G,s,h⟩
theorem qqz{i:Int}(h1:-(10^80)<i)(h2:i<10^80):Big i:=by
 have:i.natAbs<10^80:=by lia
 exact Nat.lt_trans this (by decide)
theorem Sub.updN{G G':Gp}{a:Addr}{o:GO}(s:Sub G G')(h:G a=none):Sub G (upd3 G' a o):=fun b u e=>by
 rw[q5z (fun z=>by rw[z,h] at e;cases e)];exact s b u e
def qbjz:Sp3:=fun ds G Q=>match ds with
 |[d]=>Known G d/\Q (.bl (wholeD d)) G
 |_=>False
def qfaz:TS3:=sRet (eAndV (eInst "int" (eVar 0)) (eNotV (eInst "bool" (eVar 0))))
theorem qjgz{nm:Str}:∀ds G Q,qbjz ds G Q->qfaz (endsOf Q) (start3 [nm] ds) G:=by
 intro ds G Q h;rcases ds with _|⟨d,_|⟨d2,ds⟩⟩
 ·exact h.elim
 ·cases d with
  |int i=>exact⟨fun _=>qiz h.2,nofun⟩
  |bl b=>exact⟨fun _=>qiz h.2,nofun⟩
  |non=>exact⟨nofun,fun _=>qiz h.2⟩
  |str _=>exact⟨nofun,fun _=>qiz h.2⟩
  |tup _=>exact⟨nofun,fun _=>qiz h.2⟩
  |scr _=>exact⟨nofun,fun _=>qiz h.2⟩
  |dc _=>exact⟨nofun,fun _=>qiz h.2⟩
  |obj a=>
   obtain⟨o1,h1,hp⟩:∃o,G a=some o/\o.plain:=h.1;show match instD "int" G (.obj a) with
    |some b=>_
    |none=>_
   cases hG:G a with
   |none=>rw[h1] at hG;cases hG
   |some o=>
    cases o with
    |lst _=>simp only[instD,hG];exact⟨nofun,fun _=>qiz h.2⟩
    |pen=>simp only[instD,hG];exact⟨nofun,fun _=>qiz h.2⟩
    |dct=>simp only[instD,hG];exact⟨nofun,fun _=>qiz h.2⟩
    |gen R=>
     rw[h1] at hG;cases hG;exact hp.elim
 ·exact h.elim
abbrev qtaz:=@qjgz "thing"
abbrev qbkz:=qbjz
abbrev qtbz:=qfaz
abbrev qtcz:=@qjgz "found"
def qcpz:Sp3:=fun ds G Q=>∃(ns:List Int) (k:Nat),ds=[.scr (ns.map .int),.int k]/\∀i:Int,Q (.int i) G
def qjhz:TS3:=sSeq (sIf (eTest (eOp rLtT3 (eVar 1) (eCB q1z (aCons (eVar 0) (aNil))))) (sRet (eOp rIx3 (eVar 0) (eVar 1))) (sNext)) (sRet (eC (.int 0)))
theorem qtdz:∀ds G Q,qcpz ds G Q->qjhz (endsOf Q) (start3 ["script","k"] ds) G:=by
 rintro ds G Q ⟨ns,k,rfl,q⟩;refine⟨fun h=>?_,fun h=>qiz (q 0)⟩;have h':(k:Int)<((ns.map D.int).length:Nat):=of_decide_eq_true h;rw[List.length_map] at h';have hk:k<ns.length:=by lia
 exact⟨.int ns[k],qc6z (by rw[List.getElem?_map,List.getElem?_eq_getElem hk];rfl),qiz (q _)⟩
def qbxz:Sp3:=fun ds G Q=>∃n:Int,ds=[.int n]/\0≤n/\∀r:Int,0≤r->r<2147483629->Q (.int r) G
def qjiz:TS3:=sSeq (sAsg (eOp rMod3 (eOp rAdd3 (eVar 0) (eC (.int 7919))) (eC (.int 2147483647))) (hName 0)) (sRet (eOp rMod3 (eOp rAdd3 (eOp rAdd3 (eOp rMul3 (eVar 0) (eVar 0)) (eOp rMul3 (eC (.int 48271)) (eVar 0))) (eC (.int 12345))) (eC (.int 2147483629))))
theorem qtez:∀ds G Q,qbxz ds G Q->qjiz (endsOf Q) (start3 ["seed"] ds) G:=by
 rintro ds G Q ⟨n,rfl,hn,q⟩;have h1:=Int.emod_nonneg (n+7919) (show (2147483647:Int)≠0 by decide);have h2:=Int.emod_lt_of_pos (n+7919) (show (0:Int)<2147483647 by decide);have hb:Big ((n+7919)%2147483647):=qqz (by lia) (by lia);refine⟨(by decide:(0:Int)<2147483647),⟨hb,hb⟩,⟨qqz (by decide) (by decide),hb⟩,(by decide:(0:Int)<2147483629),qiz (q _ ?_ ?_)⟩
 ·exact Int.emod_nonneg _ (by decide)
 ·exact Int.emod_lt_of_pos _ (by decide)
def qdtz:Sp3:=fun ds G Q=>∃(p:Addr) (m i j k:Int),ds=[.obj p,.int m]/\G p=some (.lst [.int i,.int j,.int k])/\PenOk i j k/\0<m/\Big m ∧
 ∀r i' j' k':Int,PenOk i' j' k'->0≤r->r<m->Q (.int r) (upd3 G p (.lst [.int i',.int j',.int k']))
def q4z:Sp3:=fun ds G Q=>∃(p:Addr) (m:Int),ds=[.obj p,.int m]/\G p=some .pen/\(0<m/\Big m)/\∀r:Int,0≤r->r<m->Q (.int r) G
def qjjz:TS3:=sSeq (sIf (eTest (eOp (rEq3 false) (eOp rIx3 (eVar 0) (eC (.int 1))) (eC (.int 1)))) (sSeq (sAsg (eOp rMod3 (eOp rIx3 (eVar 0) (eC (.int 0))) (eVar 1)) (hName 2)) (sSeq (sAsg (eOp rDiv3 (eOp rIx3 (eVar 0) (eC (.int 0))) (eVar 1)) (hSub (eVar 0) (eC (.int 0)))) (sRet (eVar 2)))) (sNext)) (sSeq (sAsg (eCall qbxz (aCons (eOp rAdd3 (eCall qbxz (aCons (eOp rIx3 (eVar 0) (eC (.int 2))) (aNil))) (eC (.int 7))) (aNil))) (hSub (eVar 0) (eC (.int 2)))) (sRet (eOp rMod3 (eOp rDiv3 (eOp rIx3 (eVar 0) (eC (.int 2))) (eC (.int 64))) (eVar 1))))
theorem qtfz:∀ds G Q,qdtz ds G Q->qjjz (endsOf Q) (start3 ["pen","many","found"] ds) G:=by
 rintro ds G Q ⟨p,m,i,j,k,rfl,hp,ok,hm,hb,q⟩;obtain⟨o1,o2,o3⟩:=ok;refine⟨_,_,hp,rfl,_,_,rfl,rfl,Nat.zero_le _,fun _=>?_,fun _=>?_⟩
 ·refine⟨_,_,hp,rfl,hm,_,_,hp,rfl,⟨hm,hb⟩,_,0,hp,rfl,?_⟩;refine qiz (q (i%m) (i / m) j k ⟨?_,o2,o3⟩ ?_ ?_)
  ·exact Int.ediv_nonneg o1 (by lia)
  ·exact Int.emod_nonneg _ (by lia)
  ·exact Int.emod_lt_of_pos _ hm
 ·refine⟨_,_,hp,rfl,_,rfl,o2,fun r h1 h2=>⟨_,rfl,(by lia),fun r' h3 h4=>?_⟩⟩;refine⟨_,2,hp,rfl,_,_,qabz,rfl,⟨by decide,qqz (by decide) (by decide)⟩,hm,?_⟩;refine qiz (q _ i j r' ⟨o1,h3,by lia⟩ ?_ ?_)
  ·exact Int.emod_nonneg _ (by lia)
  ·exact Int.emod_lt_of_pos _ hm
theorem qtgz{K:PySem.W.Frag}:∀vs H Q E,lowSp K q4z vs H Q E->lowSp K qdtz vs H Q E:=by
 rintro vs H Q E ⟨ds,G,Q3,hd,RG,⟨p,m,rfl,hp,hm,q⟩,k⟩;obtain⟨i,j,l,e,ok⟩:=RG p _ hp;refine⟨_,upd3 G p (.lst [.int i,.int j,.int l]),fun d G'=>∃i' j' l',PenOk i' j' l'/\G'=upd3 G p (.lst [.int i',.int j',.int l'])/\Q3 d G,hd,?_,⟨p,m,i,j,l,rfl,qabz,ok,hm.1,hm.2,fun r i' j' k' ok' h1 h2=>⟨i',j',k',ok',qnfz,q r h1 h2⟩⟩,?_⟩
 ·intro a o ea;by_cases z:a=p
  ·subst z;rw[qabz] at ea;cases ea;exact⟨_,e,.cons (by simp[Hv]) (.cons (by simp[Hv]) (.cons (by simp[Hv]) .nil))⟩
  ·rw[q5z z] at ea;exact RG a o ea
 ·rintro v H' d G' hv S R ⟨i',j',l',ok',rfl,h3⟩;refine k v H' d G hv ⟨fun a o ea n=>S.fr a o ea ?_,S.trk,fun a n z=>absurd n z⟩ (fun a o ea=>?_) h3
  ·have:a≠p:=fun z=>by rw[z,hp] at n;cases n
   rw[q5z this];exact n
  ·by_cases z:a=p
   ·subst z;rw[hp] at ea;cases ea;obtain⟨ws,e1,e2⟩:=R a _ qabz;have:=qbpz e2 (ns:=[i',j',l']) rfl;subst this;exact⟨i',j',l',e1,ok'⟩
   ·exact R a o (by rw[q5z z];exact ea)
def qduz:Sp3:=fun ds G Q=>∃c:Int,ds=[.int c]/\∀p i j k G',New G p (.lst [.int i,.int j,.int k]) G'->PenOk i j k->Q (.obj p) G'
def qfbz:Sp3:=fun ds G Q=>∃c:Int,ds=[.int c]/\∀p G',New G p .pen G'->Q (.obj p) G'
def qjkz:TS3:=sSeq (sAsg (eCB qcez (aCons (eVar 0) (aCons (eOp rSub3 (eC (.int 0)) (eVar 0)) (aNil)))) (hName 1)) (sRet (eLst (aCons (eVar 1) (aCons (eCB qdgz (aCons (eOp rGe3 (eVar 1) (eOp rPow3 (eC (.int 10)) (eC (.int 18)))) (aNil))) (aCons (eOp rMod3 (eVar 1) (eC (.int 1000003))) (aNil))))))
theorem qthz:∀ds G Q,qduz ds G Q->qjkz (endsOf Q) (start3 ["cell","left"] ds) G:=by
 rintro ds G Q ⟨c,rfl,q⟩;refine⟨⟨by decide,by decide,by decide⟩,(by decide:(0:Int)<1000003),fun p G' hp=>qiz (q p _ _ _ _ hp ⟨?_,?_,?_⟩)⟩
 ·split<;>lia
 ·exact Int.emod_nonneg _ (by decide)
 ·exact Int.lt_trans (Int.emod_lt_of_pos _ (by decide)) (by decide)
theorem qtiz{K:PySem.W.Frag}:∀vs H Q E,lowSp K qfbz vs H Q E->lowSp K qduz vs H Q E:=by
 rintro vs H Q E ⟨ds,G,Q3,hd,RG,⟨c,rfl,q⟩,k⟩;refine⟨_,G,fun d G'=>∃p i j l,PenOk i j l/\New G p (.lst [.int i,.int j,.int l]) G'/\d=.obj p,hd,RG,⟨c,rfl,fun p i j l G' hp ok=>⟨p,i,j,l,ok,hp,rfl⟩⟩,?_⟩;rintro v H' d G' hv S R ⟨p,i,j,l,ok,hp,rfl⟩;refine k v H' _ (upd3 G' p .pen) hv ⟨S.fr,S.trk,fun a n z=>S.new a n ?_⟩ (fun a o ea=>?_) (q p _ ⟨hp.non,Sub.updN hp.sub hp.non,qabz⟩)
 ·by_cases y:a=p
  ·rw[y,hp.at_];simp
  ·rw[q5z y] at z;exact z
 ·by_cases z:a=p
  ·subst z;rw[qabz] at ea;cases ea;obtain⟨ws,e1,e2⟩:=R a _ hp.at_;have:=qbpz e2 (ns:=[i,j,l]) rfl;subst this;exact⟨i,j,l,e1,ok⟩
  ·rw[q5z z] at ea;exact R a o ea
abbrev Clk:=Int×Int
def cD(c:Clk):D:=.tup [.int c.1,.int c.2]
def csD(cs:List Clk):D:=.tup (cs.map cD)
def Valid(c:Clk):Prop:=0<c.1/\0≤c.2/\c.2<c.1
theorem line1000{n:Nat}(h:n≤1000):n≤sizeLine:=Nat.le_trans h (by decide)
theorem qbyz{α:Type}{guard:Gp->Prop}{g:TG3}{tc:TT3}{te:TE3}{Q:List D->Gp->Prop}(I:S3->Prop)(h:α->D)(pr:α->Bool)(f:α->D){G:Gp}(hg:guard G):∀(xs:List α) (acc:List D) (τ:S3),I τ ->
  (∀x∈xs,∀τ (K1:S3->Gp->Prop) (K2:S3->D->Gp->Prop),I τ->(pr x=true->∀τ2,I τ2->K2 τ2 (f x) G)->(pr x=false->∀τ2,I τ2->K1 τ2 G)->g (h x) τ G fun τ2 G2=>tc τ2 G2 fun b G3=>Br b (te τ2 G3 fun v G4=>K2 τ2 v G4) (K1 τ2 G3)) ->
  Q (acc++(xs.filter pr).map f) G->compGo guard g tc te Q (xs.map h) acc τ G
 |[],acc,τ,_,_,q=>⟨hg,by simpa using q⟩
 |d::ds,acc,τ,hI,hs,q=>by
  refine⟨hg,hs d List.mem_cons_self τ (fun τ2 G3=>compGo guard g tc te Q (ds.map h) acc τ2 G3) (fun τ2 v G4=>compGo guard g tc te Q (ds.map h) (acc++[v]) τ2 G4) hI (fun hp τ2 h2=>?_) fun hp τ2 h2=>?_⟩
  ·refine qbyz I h pr f hg ds _ τ2 h2 (fun d' hd=>hs d' (List.mem_cons_of_mem _ hd)) ?_;rw[List.filter_cons_of_pos hp] at q;simpa using q
  ·refine qbyz I h pr f hg ds _ τ2 h2 (fun d' hd=>hs d' (List.mem_cons_of_mem _ hd)) ?_;rw[List.filter_cons_of_neg (by rw[hp];simp)] at q;exact q
end My
namespace My
open PySem L2 L3
def cX(c:Clk):Dat.D:=.tup [.int c.1,.int c.2]
theorem qfcz:∀cs:List Clk,toDats0 (cs.map cD)=some (cs.map cX)
 |[]=>rfl
 |c::cs=>by
  show (match toDat0 (cD c) with
   |some x=>match toDats0 (cs.map cD) with
    |some xs=>some (x::xs)
    |none=>none
   | none=>none)=_
  rw[qfcz cs];rfl
theorem qa4z{G:Gp}{a:Addr}{ds:List D}{xs:List Dat.D}(h:G a=some (.lst ds))(e:toDats0 ds=some xs):toDat G (.obj a)=some (.lst xs):=by
 unfold toDat;simp only[h,e]
theorem qfdz:∀cs:List Clk,Dat.deps (cs.map cX)≤1
 |[]=>Nat.zero_le _
 |c::cs=>by
  show max (cX c).dep (Dat.deps (cs.map cX))≤1;have h1:(cX c).dep=1:=rfl;have:=qfdz cs;omega
theorem qtjz(cs:List Clk):(Dat.D.lst (cs.map cX)).dep≤50:=by
 show Dat.deps (cs.map cX)+1≤50;have:=qfdz cs;omega
theorem qjlz(xs:List Dat.D):(Dat.D.lst xs).eqb (.lst [])=xs.isEmpty:=by
 cases xs with
 |nil=>rfl
 |cons x xs=>rfl
theorem qfez(a b:Clk):(cX a).eqb (cX b)=decide (a=b):=by
 obtain⟨s,r⟩:=a;obtain⟨s',r'⟩:=b;show ((s==s')&&((r==r')&&true))=decide ((s,r)=(s',r'));rw[Bool.eq_iff_iff];simp
theorem qjmz:∀as bs:List Clk,Dat.eqbs (as.map cX) (bs.map cX)=decide (as=bs)
 |[],[]=>rfl
 |[],b::bs=>rfl
 |a::as,[]=>rfl
 |a::as,b::bs=>by
  show ((cX a).eqb (cX b)&&Dat.eqbs (as.map cX) (bs.map cX))=_;rw[qfez,qjmz as bs,Bool.eq_iff_iff];simp
end My
namespace My
open PySem L2 L3
def cutG{α:Type}(xs:List α)(lo hi:Option Int):List α:=(xs.drop (HT.sIx xs.length 0 lo)).take (HT.sIx xs.length xs.length hi-HT.sIx xs.length 0 lo)
theorem qjnz{α:Type}(f:α->D)(xs:List α)(lo hi:Option Int):cut3 (xs.map f) lo hi=(cutG xs lo hi).map f:=by
 unfold cut3 cutG;rw[List.length_map,List.map_take,List.map_drop]
theorem qtkz{α:Type}(xs:List α)(lo hi:Option Int):(cutG xs lo hi).length≤xs.length:=by
 unfold cutG;rw[List.length_take,List.length_drop];lia
theorem qdvz{α:Type}(xs:List α)(k:Nat):cutG xs none (some (k:Int))=xs.take k:=by
 unfold cutG;rw[HT.sIx_none,HT.sIx_nat];simp only[List.drop_zero,Nat.sub_zero];by_cases h:k≤xs.length
 ·rw[Nat.min_eq_left h]
 ·rw[Nat.min_eq_right (by lia),List.take_length,List.take_of_length_le (by lia)]
theorem qtlz{α:Type}(xs:List α)(k:Nat):cutG xs (some (k:Int)) none=xs.drop k:=by
 unfold cutG;rw[HT.sIx_none,HT.sIx_nat];by_cases h:k≤xs.length
 ·rw[Nat.min_eq_left h];exact List.take_of_length_le (by rw[List.length_drop];lia)
 ·rw[Nat.min_eq_right (by lia),List.drop_length,List.drop_eq_nil_of_le (by lia)];simp
def ClOk(M:Int)(cs:List Clk):Prop:=∀c∈cs,Valid c/\c.1≤M
theorem qtmz{s r k i:Int}(h:Valid (s,r))(h1:0≤i)(h2:i<k):Valid (s*k,r+s*i):=by
 obtain⟨a,b,c⟩:=h;simp only at a b c;have q:=Int.mul_le_mul_of_nonneg_left (show i≤k-1 by lia) (show 0≤s by lia);rw[Int.mul_sub,Int.mul_one] at q;have q2:=Int.mul_nonneg (show 0≤s by lia) h1;refine⟨?_,?_,?_⟩
 ·exact Int.mul_pos a (by lia)
 ·show 0≤r+s*i;lia
 ·show r+s*i<s*k;lia
theorem qbzz{α:Type}(f:α->D){xs:List α}{r:Int}(h1:0≤r)(h2:r<(xs.length:Nat)):∃x,xs[r.toNat]?=some x/\x∈xs/\atI (xs.map f) r=some (f x):=by
 have hk:r.toNat<xs.length:=by lia
 refine⟨xs[r.toNat],List.getElem?_eq_getElem hk,List.getElem_mem hk,?_⟩;have e:r=((r.toNat:Nat):Int):=by lia
 have q:atI (xs.map f) ((r.toNat:Nat):Int)=some (f xs[r.toNat]):=qc6z (by rw[List.getElem?_map];simp[hk]);rw[←e] at q;exact q
theorem qjoz{ns:List Int}{r:Int}(h1:0≤r)(h2:r<(ns.length:Nat)):∃n,n∈ns/\atI (ns.map D.int) r=some (.int n):=by
 obtain⟨x,_,h3,h4⟩:=qbzz D.int h1 h2;exact⟨x,h3,h4⟩
end My
namespace My
open PySem L2 L3
def toL(c:Clk):List Int:=[c.1,c.2]
theorem qb0z(cs:List Clk):(cs.map toL).map tupI=cs.map cD:=by
 rw[List.map_map];rfl
theorem qdwz{cs:List Clk}:∀{mss:List (List Int)},(∀ns∈mss,ns∈cs.map toL)->∃cs':List Clk,mss=cs'.map toL/\∀c∈cs',c∈cs
 |[],_=>⟨[],rfl,fun c hc=>nomatch hc⟩
 |ns::mss,h=>by
  obtain⟨cs',e,hc⟩:=qdwz (mss:=mss) fun n hn=>h n (List.mem_cons_of_mem _ hn);obtain⟨c,h1,rfl⟩:=List.mem_map.mp (h ns List.mem_cons_self);refine⟨c::cs',by simp[e],fun d hd=>?_⟩;rcases List.mem_cons.mp hd with rfl|hd
  ·exact h1
  ·exact hc d hd
def cLt(a b:Clk):Prop:=a.1<b.1∨(a.1=b.1/\a.2<b.2)
def Rise(cs:List Clk):Prop:=cs.Pairwise cLt
theorem qffz{a b:Clk}(h:toL a=toL b):a=b:=by
 obtain⟨s,r⟩:=a;obtain⟨s',r'⟩:=b;simp[toL] at h;simp[h]
theorem qtnz{a b:Clk}(h:SortV.lx (toL b) (toL a)=false)(hne:a≠b):cLt a b:=by
 obtain⟨s,r⟩:=a;obtain⟨s',r'⟩:=b;unfold toL at h;simp only[SortV.lx] at h;by_cases e:s'=s
 ·rw[if_pos e] at h;by_cases e2:r'=r
  ·exact absurd (by rw[e,e2]) hne
  ·rw[if_neg e2] at h;have:=of_decide_eq_false h;exact .inr ⟨e.symm,by simp only;omega⟩
 ·rw[if_neg e] at h;have:=of_decide_eq_false h;exact .inl (by simp only;omega)
theorem qjpz{cs:List Clk}(h:RiseL (cs.map toL))(nd:(cs.map toL).Nodup):Rise cs:=by
 have h1:=List.pairwise_map.mp h;have h2:=List.pairwise_map.mp nd;exact (h1.and h2).imp fun {a b} q=>qtnz q.1 fun z=>q.2 (by rw[z])
theorem Rise.take{cs:List Clk}(h:Rise cs)(n:Nat):Rise (cs.take n):=List.Pairwise.sublist (List.take_sublist n cs) h
theorem qtoz{cs:List Clk}{mss:List (List Int)}(hmem:∀ns,ns∈mss↔ns∈cs.map toL)(nd:mss.Nodup)(hr:RiseL mss)(hl:mss.length≤(cs.map toL).length):
  ∃cs':List Clk,mss=cs'.map toL/\(∀c,c∈cs'↔c∈cs)/\Rise cs'/\cs'.length≤cs.length:=by
 obtain⟨cs',rfl,hc⟩:=qdwz fun ns hn=>(hmem ns).mp hn;refine⟨cs',rfl,fun c=>⟨fun h=>hc c h,fun h=>?_⟩,qjpz hr nd,by simpa using hl⟩;obtain⟨c',h1,h2⟩:=List.mem_map.mp ((hmem (toL c)).mpr (List.mem_map.mpr ⟨c,h,rfl⟩));rw[←qffz h2];exact h1
theorem qcqz{cs:List Clk}:∀ns∈cs.map toL,ns≠[]:=fun ns hn=>by
 obtain⟨c,_,rfl⟩:=List.mem_map.mp hn;simp[toL]
theorem qcrz{G:Gp}{a:Addr}{cs:List Clk}(e:G a=some (.lst (cs.map cD))):G a=some (.lst ((cs.map toL).map tupI)):=by rw[qb0z];exact e
theorem qfgz{r:Int}{n:Nat}(h1:0≤r)(h2:r<(n:Int)):seqIndex? r n=some r.toNat:=by
 unfold seqIndex?;simp only[if_neg (show ¬r<0 by omega)];rw[if_pos (by simp;omega)]
theorem qdxz{α β:Type}(f:α->β):∀(xs:List α) (i:Nat),(xs.map f).eraseIdx i=(xs.eraseIdx i).map f
 |[],_=>rfl
 |_::_,0=>rfl
 |x::xs,i+1=>by simp[qdxz f xs i]
end My
namespace My
open PySem L2 L3
theorem qfhz{guard:Gp->Prop}{g:TG3}{tc:TT3}{te:TE3}{Q:List D->Gp->Prop}(I:List D->List D->S3->Gp->Prop)(hg:∀ds acc τ G,I ds acc τ G->guard G)
  (step:∀d ds acc τ G (K1:S3->Gp->Prop) (K2:S3->D->Gp->Prop),I (d::ds) acc τ G->(∀τ' v G',I ds (acc++[v]) τ' G'->K2 τ' v G')->(∀τ' G',I ds acc τ' G'->K1 τ' G')->g d τ G fun τ2 G2=>tc τ2 G2 fun b G3=>Br b (te τ2 G3 fun v G4=>K2 τ2 v G4) (K1 τ2 G3))
  (hend:∀acc τ G,I [] acc τ G->Q acc G):∀ds acc τ G,I ds acc τ G->compGo guard g tc te Q ds acc τ G
 |[],acc,τ,G,h=>⟨hg _ _ _ _ h,hend _ _ _ h⟩
 |d::ds,acc,τ,G,h=>⟨hg _ _ _ _ h,step d ds acc τ G (fun τ2 G3=>compGo guard g tc te Q ds acc τ2 G3) (fun τ2 v G4=>compGo guard g tc te Q ds (acc++[v]) τ2 G4) h
   (fun τ' v G' q=>qfhz I hg step hend ds _ τ' G' q) fun τ' G' q=>qfhz I hg step hend ds _ τ' G' q⟩
def qb1z:Sp3:=fun ds G Q=>∃(p:Addr) (m:Int),ds=[.obj p,.int m]/\G p=some .pen/\(0<m/\m≤1000)/\∀c:Clk,Valid c->c.1≤m->Q (cD c) G
def qtpz:TS3:=sRet (eTup (aCons (eVar 2) (aCons (eCall q4z (aCons (eVar 0) (aCons (eVar 2) (aNil)))) (aNil))))
def qjqz:TS3:=sSeq (sAsg (eOp rAdd3 (eC (.int 1)) (eCall q4z (aCons (eVar 0) (aCons (eVar 1) (aNil))))) (hName 2)) qtpz
theorem qtqz:∀ds G Q,qb1z ds G Q->qjqz (endsOf Q) (start3 ["pen","most","step"] ds) G:=by
 rintro ds G Q ⟨p,m,rfl,hp,hm,q⟩;refine⟨p,m,rfl,hp,⟨hm.1,qqz (by omega) (by omega)⟩,fun r h1 h2=>?_⟩;refine⟨p,_,rfl,hp,⟨by omega,qqz (by omega) (by omega)⟩,fun r2 h3 h4=>qiz (q (1+r,r2) ⟨?_,h3,h4⟩ ?_)⟩
 ·show 0<1+r;omega
 ·show 1+r≤m;omega
theorem qjrz{cs:List Clk}{mss:List (List Int)}(hp:mss.Perm (cs.map toL)):∃cs':List Clk,mss=cs'.map toL/\(∀c∈cs',c∈cs)/\cs'.length=cs.length:=by
 obtain⟨cs',rfl,hc⟩:=qdwz fun ns hn=>hp.mem_iff.mp hn;exact⟨cs',rfl,hc,by simpa using hp.length_eq⟩
def qcsz:Sp3:=fun ds G Q=>∃(p:Addr) (l m:Int),ds=[.obj p,.int l,.int m]/\G p=some .pen/\(l≤m/\1≤m/\m≤50)/\∀q cs G',ClOk 1000 cs->1≤cs.length->(cs.length:Int)≤m->New G q (.lst (cs.map cD)) G'->Q (.obj q) G'
def qtrz:TS3:=sAsg (eOp rAdd3 (eVar 3) (eComp ["part"] [5,4,6] (iRng1 (aCons (eVar 4) (aNil))) (hName 0) (tNoTest3) (eTup (aCons (eOp rMul3 (eVar 1) (eVar 2)) (aCons (eOp rAdd3 (eVar 3) (eOp rMul3 (eVar 1) (eVar 0))) (aNil)))))) (hName 3)
def qtsz:TS3:=sSeq (sIf (eTest (eOp rGt3 (eOp rMul3 (eVar 5) (eVar 4)) (eC (.int 1000)))) (sRet (eCB qbdz (aCons (eOp rAdd3 (eVar 3) (eLst (aCons (eTup (aCons (eVar 5) (aCons (eVar 6) (aNil)))) (aNil)))) (aNil)))) (sNext)) qtrz
def qjsz:TS3:=sSeq (sAsg (eM qdiz (eVar 3) (aCons (eCall q4z (aCons (eVar 0) (aCons (eCB q1z (aCons (eVar 3) (aNil))) (aNil)))) (aNil))) (hTup 2 (hCons (hName 5) (hCons (hName 6) (hNil))))) qtsz
def qttz:TS3:=sSeq (sAsg (eCB qeiz (aCons (eVar 4) (aCons (eCB qcez (aCons (eC (.int 2)) (aCons (eOp rAdd3 (eOp rSub3 (eVar 2) (eCB q1z (aCons (eVar 3) (aNil)))) (eC (.int 1))) (aNil)))) (aNil)))) (hName 4)) qjsz
def qjtz:TS3:=sSeq (sAsg (eLstIx (aCons (eC (.int 2)) (aCons (eC (.int 2)) (aCons (eC (.int 3)) (aCons (eC (.int 2)) (aCons (eC (.int 3)) (aCons (eC (.int 5)) (aNil))))))) (eCall q4z (aCons (eVar 0) (aCons (eC (.int 6)) (aNil))))) (hName 4)) qttz
def qfiz:TS3:=sRet (eCB qbdz (aCons (eVar 3) (aNil)))
def qtuz:TS3:=sSeq (sWhile (eOr (eTest (eOp rLtT3 (eCB q1z (aCons (eVar 3) (aNil))) (eVar 1))) (eAnd (eTest (eOp rGt3 (eCall q4z (aCons (eVar 0) (aCons (eC (.int 4)) (aNil)))) (eC (.int 0)))) (eTest (eOp rLtT3 (eCB q1z (aCons (eVar 3) (aNil))) (eVar 2))))) (qjtz)) qfiz
def qjuz:TS3:=sSeq (sAsg (eLst (aCons (eTup (aCons (eC (.int 1)) (aCons (eC (.int 0)) (aNil)))) (aNil))) (hName 3)) qtuz
theorem wrote{G G1:Gp}{q:Addr}{o o':GO}(n:New G q o G1):New G q o' (upd3 G1 q o'):=⟨n.non,Sub.updN n.sub n.non,qabz⟩
theorem qtvz{G G1:Gp}{Q:V3}{p:Addr}{l m:Int}{q1:Addr}{cs:List Clk}{x4 x5 x6:Option D}(hm:m≤50)(q:∀q cs G',ClOk 1000 cs->1≤cs.length->(cs.length:Int)≤m->New G q (.lst (cs.map cD)) G'->Q (.obj q) G')
  (n1:New G q1 (.lst (cs.map cD)) G1) (ok:ClOk 1000 cs) (l1:1≤cs.length) (l2:(cs.length:Int)≤m):qfiz (endsOf Q) [some (.obj p),some (.int l),some (.int m),some (.obj q1),x4,x5,x6] G1:=by
 refine⟨_,qcrz n1.at_,by rw[List.length_map];omega,qcqz,fun p2 mss G2 hp2 hpm hr=>?_⟩;obtain⟨cs',rfl,hmem,hlen⟩:=qjrz hpm;rw[qb0z] at hp2;exact qiz (q p2 cs' _ (fun c hc=>ok c (hmem c hc)) (by omega) (by omega) ⟨n1.sub.of_none hp2.non,n1.sub.trans hp2.sub,hp2.at_⟩)
def PartsAgain(G:Gp)(p:Addr)(l m:Int)(k:Nat):S3->Gp->Prop:=fun τ' G'=>∃m',m' < k/\∃q cs x4 x5 x6,τ'=[some (.obj p),some (.int l),some (.int m),some (.obj q),x4,x5,x6]/\New G q (.lst (cs.map cD)) G'/\ClOk 1000 cs/\1≤cs.length/\(cs.length:Int)≤m/\(m':Int)+cs.length=m
theorem qtwz{G G1:Gp}{Q:V3}{D3:Ends3}{p:Addr}{l m:Int}{q1:Addr}{cs:List Clk}{x5 x6:Option D}{k:Nat}{k1:Int}(hp:G p=some .pen)(hm:m≤50)(q:∀q cs G',ClOk 1000 cs->1≤cs.length->(cs.length:Int)≤m->New G q (.lst (cs.map cD)) G'->Q (.obj q) G')
  (n1:New G q1 (.lst (cs.map cD)) G1) (ok:ClOk 1000 cs) (l1:1≤cs.length) (l2:(cs.length:Int)<m) (hk:(k:Int)+cs.length=m) (h1:2≤k1) (h2:k1≤5) (h3:(cs.length:Int)-1+k1≤m)
  (hrt:D3.rt=(endsOf Q).rt) (hnx:D3.nx=PartsAgain G p l m k):qjsz D3 [some (.obj p),some (.int l),some (.int m),some (.obj q1),some (.int k1),x5,x6] G1:=by
 have hp1:=n1.sub p _ hp;have e1:=n1.at_;refine⟨⟨q1,_,rfl,e1⟩,_,e1,p,_,rfl,hp1,⟨by rw[List.length_map];omega,qqz (by rw[List.length_map];omega) (by rw[List.length_map];omega)⟩,fun r a b=>?_⟩;rw[List.length_map] at b;obtain⟨c,ec,hc,_⟩:=qbzz cD a b;obtain⟨s,r'⟩:=c;refine⟨_,r.toNat,cD (s,r'),e1,⟨by omega,by omega⟩,by rw[List.length_map];exact qfgz a b,by rw[List.getElem?_map,ec];rfl,rfl,?_⟩;rw[qdxz];have n2:New G q1 (.lst ((cs.eraseIdx r.toNat).map cD)) (upd3 G1 q1 (.lst ((cs.eraseIdx r.toNat).map cD))):=wrote n1;generalize upd3 G1 q1 (.lst ((cs.eraseIdx r.toNat).map cD))=G2 at n2;have hv:=(ok _ hc).1;have hs:=(ok _ hc).2;simp only at hs;have hv1:0<s:=hv.1;have hlen:(cs.eraseIdx r.toNat).length=cs.length-1:=List.length_eraseIdx_of_lt (by omega);have ok2:ClOk 1000 (cs.eraseIdx r.toNat):=fun c hc=>ok c (List.mem_of_mem_eraseIdx hc);refine⟨⟨qqz (by omega) (by omega),qqz (by omega) (by omega)⟩,fun hg=>?_,fun hg=>?_⟩
 ·intro q3 G3 n3;refine⟨_,_,n3.sub _ _ n2.at_,n3.at_,?_,fun q4 G4 n4=>?_⟩
  ·rw[List.length_map,hlen];exact line1000 (by simp;omega)
  have e4:G4 q4=some (.lst (((cs.eraseIdx r.toNat)++[(s,r')]).map cD)):=by
   rw[n4.at_,List.map_append];rfl
  refine⟨_,qcrz e4,by rw[List.length_map,List.length_append,hlen];simp;omega,qcqz,fun p2 mss G5 hp2 hpm hr=>?_⟩;obtain⟨cs',rfl,hmem,hl'⟩:=qjrz hpm;rw[qb0z] at hp2;rw[hrt];rw[List.length_append,hlen,List.length_singleton] at hl';have s4:=(n2.sub.trans n3.sub).trans n4.sub;refine qiz (q p2 cs' _ (fun c hc'=>?_) (by omega) (by omega) ⟨s4.of_none hp2.non,s4.trans hp2.sub,hp2.at_⟩);rcases List.mem_append.mp (hmem c hc') with z|z
  ·exact ok2 c z
  ·have:c=(s,r'):=by simpa using z
   rw[this];exact ok _ hc
 ·have hg':¬(1000<s*k1):=of_decide_eq_false hg;refine⟨⟨by omega,by omega⟩,?_,?_⟩
  ·show (rngL 0 k1.toNat).length≤sizeLine;rw[qa5z];exact line1000 (by omega)
  refine qbyz (fun τ=>∃x,τ=[x,some (.int s),some (.int k1),some (.int r')]) (fun i:Nat=>D.int (0+(i:Int))) (fun _=>true) (fun i:Nat=>cD (s*k1,r'+s*(0+(i:Int)))) trivial (List.range k1.toNat) [] _ ⟨none,rfl⟩ ?_ ?_
  ·rintro i hi τ K1 K2 ⟨x,rfl⟩ g1 g2;have hi':(i:Int)<k1:=by have:=List.mem_range.mp hi;omega
   have b1:Big s:=qqz (by omega) (by omega);refine⟨fun _=>⟨⟨b1,qqz (by omega) (by omega)⟩,⟨b1,qqz (by omega) (by omega)⟩,?_⟩,nofun⟩;exact g1 rfl _ ⟨_,rfl⟩
  ·intro q3 G3 n3;rw[List.nil_append,List.filter_eq_self.mpr (fun _ _=>rfl)] at n3;have em:((List.range k1.toNat).map fun i:Nat=>cD (s*k1,r'+s*(0+(i:Int))))=((List.range k1.toNat).map fun i:Nat=>((s*k1,r'+s*(0+(i:Int))):Clk)).map cD:=by rw[List.map_map];rfl
   rw[em] at n3;refine⟨_,_,n3.sub _ _ n2.at_,n3.at_,?_,fun q4 G4 n4=>?_⟩
   ·rw[List.length_map,List.length_map,List.length_map,List.length_range,hlen];exact line1000 (by omega)
   rw[←List.map_append] at n4;show D3.nx _ G4;rw[hnx];have s3:=n2.sub.trans n3.sub;have hl':((cs.eraseIdx r.toNat)++((List.range k1.toNat).map fun i:Nat=>((s*k1,r'+s*(0+(i:Int))):Clk))).length=cs.length-1+k1.toNat:=by
    rw[List.length_append,hlen,List.length_map,List.length_range]
   refine⟨(m-((cs.length:Int)-1+k1)).toNat,by omega,q4,_,_,_,_,rfl,⟨s3.of_none n4.non,s3.trans n4.sub,n4.at_⟩,fun c hc'=>?_,by omega,by omega,by omega⟩;rcases List.mem_append.mp hc' with z|z
   ·exact ok2 c z
   ·obtain⟨i,hi,rfl⟩:=List.mem_map.mp z;have:=List.mem_range.mp hi;exact⟨qtmz hv (by omega) (by omega),by show s*k1≤1000;omega⟩
theorem qtxz:∀ds G Q,qcsz ds G Q->qjuz (endsOf Q) (start3 ["pen","least","most","clocks","k","step","rest"] ds) G:=by
 rintro ds G Q ⟨p,l,m,rfl,hp,hm,q⟩;intro q0 G0 n0;refine⟨fun k τ G'=>∃q cs x4 x5 x6,τ=[some (.obj p),some (.int l),some (.int m),some (.obj q),x4,x5,x6]/\New G q (.lst (cs.map cD)) G'/\ClOk 1000 cs/\1≤cs.length/\(cs.length:Int)≤m/\(k:Int)+cs.length=m,⟨(m-1).toNat,q0,[(1,0)],_,_,_,rfl,n0,by intro c hc;simp at hc;subst hc;exact⟨⟨by decide,by decide,by decide⟩,by decide⟩,by decide,by simp;omega,by simp;omega⟩,?_⟩;rintro k τ G1 ⟨q1,cs,x4,x5,x6,rfl,n1,ok,l1,l2,hk⟩;have hp1:=n1.sub p _ hp;have e1:=n1.at_;have stop:=qtvz (p:=p) (l:=l) (x4:=x4) (x5:=x5) (x6:=x6) (by omega) q n1 ok l1 l2;have go:(cs.length:Int)<m->qjtz { endsOf Q with nx:=PartsAgain G p l m k,ct:=PartsAgain G p l m k,bk:=qfiz (endsOf Q)} [some (.obj p),some (.int l),some (.int m),some (.obj q1),x4,x5,x6] G1:=by
  intro hlt;refine⟨p,6,rfl,hp1,⟨by decide,qqz (by decide) (by decide)⟩,fun r h1 h2=>?_⟩;obtain⟨k0,hk0,ek⟩:=qjoz (ns:=[2,2,3,2,3,5]) h1 h2;refine⟨.int k0,ek,_,e1,?_⟩;have hk2:2≤k0/\k0≤5:=by simp at hk0;omega
  refine qtwz hp (by omega) q n1 ok l1 hlt hk ?_ ?_ ?_ rfl rfl
  ·rw[List.length_map];split<;>split<;>omega
  ·rw[List.length_map];split<;>split<;>omega
  ·rw[List.length_map];split<;>split<;>omega
 refine⟨_,e1,fun h=>⟨fun _=>go ?_,nofun⟩,fun h=>⟨p,4,rfl,hp1,⟨by decide,qqz (by decide) (by decide)⟩,fun r a b=>⟨fun h2=>⟨_,e1,fun h3=>go ?_,fun h3=>stop⟩,fun h2=>⟨nofun,fun _=>stop⟩⟩⟩⟩
 ·have h':((cs.map cD).length:Int)<l:=of_decide_eq_true h;rw[List.length_map] at h';omega
 ·have h':((cs.map cD).length:Int)<m:=of_decide_eq_true h3;rw[List.length_map] at h';omega
end My
namespace My
open PySem L2 L3
def qctz:Sp3:=fun ds G Q=>∃(p:Addr) (m:Int),ds=[.obj p,.int m]/\G p=some .pen/\(1≤m/\m≤50)/\∀cs,ClOk 1000 cs->(cs.length:Int)≤m->Rise cs->Q (csD cs) G
def qtyz:TS3:=sDrop (eM qcgz (eVar 3) (aCons (eTup (aCons (eVar 6) (aCons (eCall q4z (aCons (eVar 0) (aCons (eVar 6) (aNil)))) (aNil)))) (aNil)))
def qtzz:TS3:=sSeq (sAsg (eOp rIx3 (eVar 4) (eCall q4z (aCons (eVar 0) (aCons (eC (.int 7)) (aNil))))) (hName 6)) qtyz
def qt0z:TS3:=sFor (iRng1 (aCons (eCall q4z (aCons (eVar 0) (aCons (eOp rAdd3 (eVar 1) (eC (.int 1))) (aNil)))) (aNil))) (hName 5) (qtzz)
def qt1z:TS3:=sSeq (sAsg (eLst (aNil)) (hName 3)) qt0z
def qjvz:TS3:=sIf (eTest (eOp (rEq3 false) (eVar 2) (eC (.int 4)))) (sDrop (eM qdiz (eVar 3) (aCons (eCall q4z (aCons (eVar 0) (aCons (eCB q1z (aCons (eVar 3) (aNil))) (aNil)))) (aNil)))) (sNext)
def qt2z:TS3:=sSeq (sIf (eTest (eOp (rEq3 false) (eVar 2) (eC (.int 3)))) (sAsg (eOp rAdd3 (eVar 3) (eLst (aCons (eCall qb1z (aCons (eVar 0) (aCons (eC (.int 6)) (aNil)))) (aNil)))) (hName 3)) (sNext)) qjvz
def qfjz:TS3:=sRet (eSl (eCB qbsz (aCons (eSortSet (eVar 3)) (aNil))) (oNone) (oSome (eVar 1)))
def qt3z:TS3:=sSeq (sIf (eTest (eOp (rEq3 false) (eVar 2) (eC (.int 0)))) (sAsg (eComp ["turn"] [0] (iRng1 (aCons (eCall q4z (aCons (eVar 0) (aCons (eOp rAdd3 (eVar 1) (eC (.int 1))) (aNil)))) (aNil))) (hName 0) (tNoTest3) (eCall qb1z (aCons (eVar 1) (aCons (eC (.int 12)) (aNil))))) (hName 3)) (sIf (eTest (eOp (rEq3 false) (eVar 2) (eC (.int 1)))) (sSeq (sAsg (eLst (aCons (eC (.int 2)) (aCons (eC (.int 3)) (aCons (eC (.int 4)) (aCons (eC (.int 6)) (aCons (eC (.int 8)) (aCons (eC (.int 12)) (aCons (eC (.int 24)) (aNil))))))))) (hName 4)) qt1z) (sSeq (sAsg (eCall qcsz (aCons (eVar 0) (aCons (eC (.int 1)) (aCons (eCB qcez (aCons (eC (.int 1)) (aCons (eOp rSub3 (eVar 1) (eC (.int 1))) (aNil)))) (aNil))))) (hName 3)) qt2z))) qfjz
def qjwz:TS3:=sSeq (sAsg (eCall q4z (aCons (eVar 0) (aCons (eC (.int 5)) (aNil)))) (hName 2)) qt3z
theorem qdyz{G G1:Gp}{Q:V3}{p:Addr}{m:Int}{q1:Addr}{cs:List Clk}{x2 x4 x5 x6:Option D}(hm:1≤m/\m≤50)(q:∀cs,ClOk 1000 cs->(cs.length:Int)≤m->Rise cs->Q (csD cs) G)
  (n1:New G q1 (.lst (cs.map cD)) G1) (ok:ClOk 1000 cs) (hl:cs.length≤60):qfjz (endsOf Q) [some (.obj p),some (.int m),x2,some (.obj q1),x4,x5,x6] G1:=by
 refine⟨_,qcrz n1.at_,by rw[List.length_map];exact hl,qcqz,fun p1 mss G2 hp1 hmem nd hr hlen=>?_⟩;obtain⟨cs',rfl,hmem,hr,hlen⟩:=qtoz hmem nd hr hlen;rw[qb0z] at hp1;refine⟨_,hp1.at_,?_⟩;obtain⟨k,rfl⟩:∃k:Nat,m=(k:Int):=⟨m.toNat,by omega⟩;show (endsOf Q).rt (.tup (cut3 (cs'.map cD) none (some (k:Int)))) G2;rw[qjnz,qdvz];refine qcoz (n1.sub.trans hp1.sub) (q _ (fun c hc=>ok c ((hmem c).mp (List.mem_of_mem_take hc))) ?_ (hr.take k));rw[List.length_take];omega
theorem qt4z:∀ds G Q,qctz ds G Q->qjwz (endsOf Q) (start3 ["pen","most","way","found","steps","turn","step"] ds) G:=by
 rintro ds G Q ⟨p,m,rfl,hp,hm,q⟩;refine⟨p,5,rfl,hp,⟨by decide,qqz (by decide) (by decide)⟩,fun way w1 w2=>?_⟩;refine⟨_,_,rfl,rfl,Nat.zero_le _,fun _=>?_,fun _=>⟨_,_,rfl,rfl,Nat.zero_le _,fun _=>?_,fun _=>?_⟩⟩
 ·-- clocks of small steps
  refine⟨p,_,rfl,hp,⟨by omega,qqz (by omega) (by omega)⟩,fun n h1 h2=>⟨⟨by omega,by omega⟩,?_,?_⟩⟩
  ·show (rngL 0 n.toNat).length≤sizeLine;rw[qa5z];exact line1000 (by omega)
  refine qfhz (fun ds acc τ G'=>(∃cs:List Clk,acc=cs.map cD/\ClOk 1000 cs/\cs.length+ds.length≤50)/\G'=G/\∃x,τ=[x,some (.obj p)]) (fun _ _ _ _ _=>trivial) ?_ ?_ _ _ _ _ ⟨⟨[],rfl,(fun c hc=>nomatch hc),?_⟩,rfl,none,rfl⟩
  ·rintro d ds acc τ G' K1 K2 ⟨⟨cs,rfl,ok,hl⟩,rfl,x,rfl⟩ g1 g2;refine⟨fun _=>⟨p,12,rfl,hp,⟨by decide,by decide⟩,fun c hv hc=>?_⟩,nofun⟩;refine g1 _ _ _ ⟨⟨cs++[c],by simp,fun c' hc'=>?_,?_⟩,rfl,_,rfl⟩
   ·rcases List.mem_append.mp hc' with z|z
    ·exact ok c' z
    ·have:c'=c:=by simpa using z
     rw[this];exact⟨hv,by omega⟩
   ·rw[List.length_append,List.length_singleton];simp only[List.length_cons] at hl;omega
  ·rintro acc τ G' ⟨⟨cs,rfl,ok,hl⟩,rfl,x,rfl⟩;intro q1 G1 n1;exact qdyz hm q n1 ok (by simp at hl;omega)
  ·show ([]:List Clk).length+(rngL 0 n.toNat).length≤50;rw[qa5z];simp;omega
 ·-- of told steps
  intro st G0 hst q1 G1 n1;have hp1:=n1.sub _ _ (hst.sub _ _ hp);refine⟨p,_,rfl,hp1,⟨by omega,qqz (by omega) (by omega)⟩,fun n h1 h2=>⟨⟨by omega,by omega⟩,?_⟩⟩;refine qcaz (fun ds τ G'=>∃cs x5 x6,τ=[some (.obj p),some (.int m),some (.int way),some (.obj q1),some (.obj st),x5,x6]/\New G q1 (.lst (cs.map cD)) G'/\G' st=some (.lst (([2,3,4,6,8,12,24]:List Int).map D.int))/\ClOk 1000 cs/\cs.length+ds.length≤50) (fun _ _ _ _=>trivial) ?_ ?_ _ _ _ ?_
  ·rintro d ds τ G2 N ⟨cs,x5,x6,rfl,n2,e3,ok,hl⟩ hN;have hp2:=n2.sub p _ hp;have e2:=n2.at_;refine⟨p,7,rfl,hp2,⟨by decide,qqz (by decide) (by decide)⟩,fun r a b=>?_⟩;obtain⟨stp,hm',es⟩:=qjoz (ns:=[2,3,4,6,8,12,24]) a b;have hs:2≤stp/\stp≤24:=by simp at hm';omega
   refine⟨_,.int stp,e3,es,⟨q1,_,rfl,e2⟩,p,stp,rfl,hp2,⟨by omega,qqz (by omega) (by omega)⟩,fun r2 h3 h4=>?_⟩;simp only[List.length_cons] at hl;refine⟨_,e2,by rw[List.length_map];exact Nat.lt_of_le_of_lt (show cs.length≤50 by omega) (by decide),?_⟩;have hne:st≠q1:=fun z=>by
    rw[z,e2] at e3;cases cs with
    |nil=>simp at e3
    |cons c cs=>simp[cD] at e3
   refine hN _ _ ⟨cs++[(stp,r2)],_,_,rfl,⟨n2.non,Sub.updN n2.sub n2.non,?_⟩,?_,fun c hc=>?_,?_⟩
   ·rw[qabz,List.map_append];rfl
   ·rw[q5z hne];exact e3
   ·rcases List.mem_append.mp hc with hc|hc
    ·exact ok c hc
    ·have:c=(stp,r2):=by simpa using hc
     subst this;exact⟨⟨by show 0<stp;omega,h3,h4⟩,by show stp≤1000;omega⟩
   ·rw[List.length_append,List.length_singleton];omega
  ·rintro τ G2 ⟨cs,x5,x6,rfl,n2,e3,ok,hl⟩;exact qdyz hm q n2 ok (by simp at hl;omega)
  ·refine⟨[],_,_,rfl,⟨hst.sub.of_none n1.non,hst.sub.trans n1.sub,n1.at_⟩,n1.sub _ _ hst.at_,(fun c hc=>nomatch hc),?_⟩;show ([]:List Clk).length+(rngL 0 n.toNat).length≤50;rw[qa5z];simp;omega
 ·-- by splits
  refine⟨p,1,_,rfl,hp,⟨?_,?_,?_⟩,fun q1 cs G1 ok l1 l2 n1=>?_⟩
  ·split<;>omega
  ·split<;>omega
  ·split<;>omega
  have l3:cs.length≤50:=by
   have:(cs.length:Int)≤50:=Int.le_trans l2 (by split<;>omega)
   omega
  have hp1:=n1.sub _ _ hp;have pop:∀{q1:Addr} {cs:List Clk} {G1:Gp},ClOk 1000 cs->1≤cs.length->cs.length≤51->New G q1 (.lst (cs.map cD)) G1->qjvz { endsOf Q with nx:=qfjz (endsOf Q)} [some (.obj p),some (.int m),some (.int way),some (.obj q1),none,none,none] G1:=by
   intro q1 cs G1 ok l1 l3 n1;refine⟨_,_,rfl,rfl,Nat.zero_le _,fun _=>?_,fun _=>qdyz hm q n1 ok (by omega)⟩;have e1:=n1.at_;refine⟨⟨q1,_,rfl,e1⟩,_,e1,p,_,rfl,n1.sub _ _ hp,⟨by rw[List.length_map];omega,qqz (by rw[List.length_map];omega) (by rw[List.length_map];omega)⟩,fun r a b=>?_⟩;rw[List.length_map] at b;obtain⟨c,ec,hc,_⟩:=qbzz cD a b;refine⟨_,r.toNat,cD c,e1,⟨by omega,by omega⟩,by rw[List.length_map];exact qfgz a b,by rw[List.getElem?_map,ec];rfl,?_⟩;rw[qdxz];exact qdyz hm q (wrote n1) (fun c hc=>ok c (List.mem_of_mem_eraseIdx hc)) (Nat.le_trans (qd9z cs _) (by omega))
  refine⟨_,_,rfl,rfl,Nat.zero_le _,fun _=>?_,fun _=>pop ok l1 (by omega) n1⟩;refine⟨p,6,rfl,hp1,⟨by decide,by decide⟩,fun c hv hc=>?_⟩;intro q2 G2 n2;refine⟨_,_,n2.sub _ _ n1.at_,n2.at_,?_,fun q3 G3 n3=>?_⟩
  ·rw[List.length_map];exact line1000 (by simp;omega)
  have n3':New G q3 (.lst ((cs++[c]).map cD)) G3:=⟨(n1.sub.trans n2.sub).of_none n3.non,(n1.sub.trans n2.sub).trans n3.sub,by rw[n3.at_,List.map_append];rfl⟩;refine pop (fun c' hc'=>?_) (by simp) (by simp;omega) n3';rcases List.mem_append.mp hc' with z|z
  ·exact ok c' z
  ·have:c'=c:=by simpa using z
   rw[this];exact⟨hv,by omega⟩
end My
namespace My
open PySem L2 L3
def nD(n:Nat):D:=.int (n:Nat)
theorem filter_all{α:Type}(xs:List α):xs.filter (fun _=>true)=xs:=List.filter_eq_self.mpr fun _ _=>rfl
end My
namespace My
open PySem L2 L3
theorem rng0(n:Nat):rngL 0 n=(List.range n).map nD:=by
 unfold rngL;refine List.map_congr_left fun i _=>?_;show D.int (0+(i:Int))=D.int (i:Int);rw[Int.zero_add]
theorem qjxz{cs:List Clk}{i:Nat}{a:Clk}(h:cs[i]?=some a):atI (cs.map cD) (i:Int)=some (cD a):=qc6z (by rw[List.getElem?_map,h];rfl)
end My
namespace My
open PySem L2 L3
def Known2(G:Gp):D->Prop
 |.tup ds=>∀d∈ds,Known G d
 |.obj a=>∃o,G a=some o/\o.plain
 |_=>True
theorem qfkz{G:Gp}{d:D}(h:Known2 G d)(hn:∀ds,d≠.tup ds):instD "tuple" G d=some false:=by
 cases d with
 |obj a=>
  obtain⟨o,hG,hp⟩:∃o,G a=some o/\o.plain:=h;cases o with
  |gen R=>exact hp.elim
  |_=>simp[instD,hG]
 |tup ds=>exact absurd rfl (hn ds)
 |_=>rfl
end My
namespace My
open PySem L2 L3
theorem qjyz{cs:List Clk}{mss:List (List Int)}(hp:mss.Perm (cs.map toL))(nd:cs.Nodup)(hr:RiseL mss):∃cs':List Clk,mss=cs'.map toL/\(∀c,c∈cs'↔c∈cs)/\Rise cs'/\cs'.length=cs.length:=by
 obtain⟨cs',rfl,hc⟩:=qdwz fun ns hn=>hp.mem_iff.mp hn;have hnd:(cs.map toL).Nodup:=by
  refine List.pairwise_map.mpr (nd.imp fun {a b} h z=>h (qffz z))
 refine⟨cs',rfl,fun c=>⟨fun h=>hc c h,fun h=>?_⟩,qjpz hr (hp.nodup_iff.mpr hnd),by simpa using hp.length_eq⟩;obtain⟨c',h1,h2⟩:=List.mem_map.mp (hp.mem_iff.mpr (List.mem_map.mpr ⟨c,h,rfl⟩));rw[←qffz h2];exact h1
theorem qflz{α:Type}(f:α->Bool):∀xs:List α,blsOf (xs.map fun x=>D.bl (f x))=some (xs.map f)
 |[]=>rfl
 |x::xs=>by
  show Option.map _ (blsOf (xs.map fun x=>D.bl (f x)))=_;rw[qflz f xs];rfl
theorem all_map{α:Type}(f:α->Bool)(xs:List α):(xs.map f).all id=xs.all f:=by
 induction xs with
 |nil=>rfl
 |cons x xs ih=>simp
end My
namespace My
open PySem L2 L3
def Kn(G:Gp):Nat->D->Prop
 |0,d=>Known G d
 |n+1,.tup ds=>∀d∈ds,Kn G n d
 |_+1,d=>Known G d
def KnD(G:Gp)(d:D):Prop:=∀n,Kn G n d
section
variable {G G':Gp}
theorem KnD.tup{ds:List D}(h:∀d∈ds,KnD G d):KnD G (.tup ds):=fun n=>match n with
 |0=>trivial
 |n+1=>fun d hd=>h d hd n
theorem KnD.int(i:Int):KnD G (.int i):=fun n=>by cases n<;>trivial
theorem KnD.bl(b:Bool):KnD G (.bl b):=fun n=>by cases n<;>trivial
theorem KnD.non:KnD G .non:=fun n=>by cases n<;>trivial
theorem KnD.el{ds:List D}{d:D}(h:KnD G (.tup ds))(hd:d∈ds):KnD G d:=fun n=>h (n+1) d hd
theorem KnD.known{d:D}(h:KnD G d):Known G d:=h 0
theorem KnD.known2{d:D}(h:KnD G d):Known2 G d:=by
 cases d with
 |tup ds=>exact fun d hd=>(h.el hd).known
 |obj a=>exact h 0
 |_=>trivial
theorem KnD.clk(c:Clk):KnD G (cD c):=.tup fun d hd=>by
 simp only[List.mem_cons,List.not_mem_nil,or_false] at hd;rcases hd with rfl|rfl
 ·exact .int _
 ·exact .int _
theorem KnD.clks(cs:List Clk):KnD G (csD cs):=.tup fun d hd=>by
 obtain⟨c,_,rfl⟩:=List.mem_map.mp hd;exact .clk c
theorem KnD.two{a b:D}(ha:KnD G a)(hb:KnD G b):KnD G (.tup [a,b]):=.tup fun d hd=>by
 simp only[List.mem_cons,List.not_mem_nil,or_false] at hd;rcases hd with rfl|rfl
 ·exact ha
 ·exact hb
theorem KnD.one{a:D}(ha:KnD G a):KnD G (.tup [a]):=.tup fun d hd=>by
 simp only[List.mem_cons,List.not_mem_nil,or_false] at hd;subst hd;exact ha
end
def clkV(s r:Int):Bool:=(decide (1≤s)&&decide (s≤1000))&&(decide (0≤r)&&decide (r<s))
def clkB:D->Bool
 |.tup [.int s,.int r]=>clkV s r
 |_=>false
def qb2z:Sp3:=fun ds G Q=>∃d:D,ds=[d]/\KnD G d/\Q (.bl (clkB d)) G
def qt5z:TS3:=sRet (eAndV (eChain rLe3 rLe3 (eC (.int 1)) (eOp rIx3 (eVar 0) (eC (.int 0))) (eC (.int 1000))) (eChain rLe3 rLtT3 (eC (.int 0)) (eOp rIx3 (eVar 0) (eC (.int 1))) (eOp rIx3 (eVar 0) (eC (.int 0)))))
def qt6z:TS3:=sSeq (sIf (eOr (eNot (eTest (eCall qbjz (aCons (eOp rIx3 (eVar 0) (eC (.int 0))) (aNil))))) (eNot (eTest (eCall qbjz (aCons (eOp rIx3 (eVar 0) (eC (.int 1))) (aNil)))))) (sRet (eC (.bl false))) (sNext)) qt5z
def qfmz:TS3:=sSeq (sIf (eOr (eNot (eTest (eInst "tuple" (eVar 0)))) (eTest (eOp (rEq3 true) (eCB q1z (aCons (eVar 0) (aNil))) (eC (.int 2))))) (sRet (eC (.bl false))) (sNext)) qt6z
theorem qdzz{ds:List D}(h:ds.length≠2):clkB (.tup ds)=false:=by
 unfold clkB;split
 ·rename_i h2;cases h2;exact absurd rfl h
 ·rfl
theorem qt7z:∀ds G Q,qb2z ds G Q->qfmz (endsOf Q) (start3 ["thing"] ds) G:=by
 rintro ds G Q ⟨d,rfl,hk,q⟩;have not_tup:(∀ds,d≠.tup ds)->qfmz (endsOf Q) (start3 ["thing"] [d]) G:=by
  intro hn;have e:clkB d=false:=by
   cases d with
   |tup ds=>exact absurd rfl (hn ds)
   |_=>rfl
  rw[e] at q;show match instD "tuple" G d with
   |some b=>_
   |none=>False
  rw[qfkz hk.known2 hn];exact⟨fun _=>⟨fun _=>qiz q,nofun⟩,nofun⟩
 cases d with
 |tup ds=>
  refine⟨nofun,fun _=>⟨_,_,rfl,rfl,Nat.zero_le _,?_⟩⟩;rcases ds with _|⟨a,_|⟨b,_|⟨c,ds⟩⟩⟩
  ·exact⟨fun _=>qiz q,nofun⟩
  ·rw[qdzz (by simp)] at q;exact⟨fun _=>qiz q,nofun⟩
  ·refine⟨nofun,fun _=>⟨a,rfl,(hk.el (by simp)).known,?_⟩⟩;have hb:Known G b:=(hk.el (by simp)).known;cases a with
   |int s=>
    refine⟨nofun,fun _=>⟨b,rfl,hb,?_⟩⟩;cases b with
    |int r=>
     have fin:∀v,clkV s r=v->(endsOf Q).rt (.bl v) G:=fun v e=>by
      rw[←e];exact qiz q
     refine⟨nofun,fun _=>⟨_,rfl,⟨fun h1=>⟨fun h2=>⟨_,rfl,fun h3=>⟨_,rfl,fin _ ?_⟩,fun h3=>fin _ ?_⟩,fun h2=>fin _ ?_⟩,fun h1=>⟨nofun,fun _=>fin _ ?_⟩⟩⟩⟩
     ·unfold clkV;rw[h1,h2,h3];rfl
     ·unfold clkV;rw[h1,h2,h3];rfl
     ·unfold clkV;rw[h1,h2];rfl
     ·unfold clkV;rw[h1];rfl
    |_=>exact⟨fun _=>qiz q,nofun⟩
   |_=>exact⟨fun _=>⟨fun _=>qiz q,nofun⟩,nofun⟩
  ·refine⟨fun _=>?_,fun h=>?_⟩
   ·rw[qdzz (by simp)] at q;exact qiz q
   have h':(!(((ds.length+1+1+1:Nat):Int)==2))=false:=h;simp at h';omega
 |_=>exact not_tup nofun
def ltC(p:Clk×Clk):Bool:=HT.lexLt (toL p.1) (toL p.2)
def adjA(cs:List Clk):Bool:=(cs.zip (cs.drop 1)).all ltC
def clkOf:D->Clk
 |.tup [.int s,.int r]=>(s,r)
 |_=>(0,0)
def clksB:D->Bool
 |.tup ds=>decide (ds.length≤12)&&(ds.all clkB&&adjA (ds.map clkOf))
 |_=>false
theorem qt8z{d:D}(h:clkB d=true):∃c:Clk,d=cD c:=by
 unfold clkB at h;split at h
 ·rename_i s r;exact⟨(s,r),rfl⟩
 ·cases h
theorem qfnz:∀{ds:List D},ds.all clkB=true->∃cs:List Clk,ds=cs.map cD
 |[],_=>⟨[],rfl⟩
 |d::ds,h=>by
  rw[List.all_cons,Bool.and_eq_true] at h;obtain⟨c,rfl⟩:=qt8z h.1;obtain⟨cs,rfl⟩:=qfnz h.2;exact⟨c::cs,rfl⟩
theorem qjzz(cs:List Clk):(cs.map cD).map clkOf=cs:=by
 rw[List.map_map];exact (List.map_congr_left fun c _=>rfl).trans (List.map_id cs)
def qt9z:Sp3:=fun ds G Q=>∃d:D,ds=[d]/\KnD G d/\Q (.bl (clksB d)) G
theorem quaz{G:Gp}{te:TE3}{Q:List D->Gp->Prop}{ds:List D}{f:D->Bool}{js:List Nat}{τ:S3}(hl:ds.length≤1000)
  (hs:∀x∈ds,∀y:Option D,∀K:V3,K (.bl (f x)) G->te (set3 (y::js.map fun j=>at3 τ j) 0 x) G K) (q:Q (ds.map fun x=>.bl (f x)) G):compGo (fun _=>True) (hName 0) tNoTest3 te Q ds [] (none::js.map fun j=>at3 τ j) G:=by
 have:=qbyz (α:=D) (guard:=fun _=>True) (g:=hName 0) (tc:=tNoTest3) (te:=te) (Q:=Q) (fun τ'=>∃x,τ'=x::js.map fun j=>at3 τ j) (fun x=>x) (fun _=>true) (fun x=>.bl (f x)) (G:=G) trivial ds [] (none::js.map fun j=>at3 τ j) ⟨none,rfl⟩ ?_ ?_
 ·rw[List.map_id'] at this;exact this
 ·rintro x hx τ' K1 K2 ⟨y,rfl⟩ h1 h2;exact⟨fun _=>hs x hx y _ (h1 rfl _ ⟨_,rfl⟩),nofun⟩
 ·rw[filter_all,List.nil_append];exact q
end My
namespace My
open PySem L2 L3
theorem qj0z{α β:Type}(f:α->D)(g:β->D):∀(as:List α) (bs:List β),zipD (as.map f) (bs.map g)=(as.zip bs).map fun p=>D.tup [f p.1,g p.2]
 |[],_=>rfl
 |a::as,[]=>rfl
 |a::as,b::bs=>by
  show D.tup [f a,g b]::zipD (as.map f) (bs.map g)=D.tup [f a,g b]::(as.zip bs).map _;rw[qj0z f g as bs]
theorem qubz{β:Type}(g:β->D)(bs:List β):enumD (bs.map g)=((List.range bs.length).zip bs).map fun p=>D.tup [nD p.1,g p.2]:=by
 unfold enumD;rw[List.length_map,rng0];exact qj0z nD g _ _
end My
namespace My
open PySem L2 L3
def oN:Option Nat->D
 |none=>.non
 |some x=>nD x
end My
namespace My
open PySem L2 L3
theorem qucz(G:Gp):Sub noG G:=fun _ _ e=>nomatch e
end My
namespace My
open PySem L2 L3
theorem qj1z{G:Gp}(cs:List Clk):toDat G (csD cs)=some (.tup (cs.map cX)):=by
 show toDat0 (.tup (cs.map cD))=_;rw[toDat0,qfcz]
theorem qudz(cs:List Clk):(Dat.D.tup (cs.map cX)).dep≤50:=by
 show Dat.deps (cs.map cX)+1≤50;have:=qfdz cs;omega
theorem quez(cs:List Clk):(Dat.D.tup (cs.map cX)).eqb (.tup (cs.map cX))=true:=by
 show Dat.eqbs (cs.map cX) (cs.map cX)=true;rw[qjmz];simp
theorem qfoz{a b:Clk}(h:cLt a b)(h2:cLt b a):False:=by
 rcases h with h|⟨h,h'⟩<;>rcases h2 with g|⟨g,g'⟩<;>omega
theorem qufz{as bs:List Clk}(ha:Rise as)(hb:Rise bs)(h:∀z,z∈as↔z∈bs):as=bs:=by
 induction as generalizing bs with
 |nil=>cases bs with
  |nil=>rfl
  |cons b bs=>exact absurd ((h b).mpr List.mem_cons_self) (by simp)
 |cons a as ih=>cases bs with
  |nil=>exact absurd ((h a).mp List.mem_cons_self) (by simp)
  |cons b bs=>
   have ha':=List.pairwise_cons.mp ha;have hb':=List.pairwise_cons.mp hb;have e:a=b:=by
    refine Classical.byContradiction fun ne=>?_;have h1:a∈bs:=((List.mem_cons.mp ((h a).mp List.mem_cons_self)).resolve_left ne);have h2:b∈as:=((List.mem_cons.mp ((h b).mpr List.mem_cons_self)).resolve_left (Ne.symm ne));exact qfoz (ha'.1 b h2) (hb'.1 a h1)
   subst e;rw[ih ha'.2 hb'.2 fun z=>⟨fun hz=>((List.mem_cons.mp ((h z).mp (List.mem_cons_of_mem _ hz))).resolve_left fun q=>qfoz (q▸ha'.1 z hz) (q▸ha'.1 z hz)),fun hz=>((List.mem_cons.mp ((h z).mpr (List.mem_cons_of_mem _ hz))).resolve_left fun q=>qfoz (q▸hb'.1 z hz) (q▸hb'.1 z hz))⟩]
end My
namespace L3
open PySem PySem.Spec PyProof.Rows L2
def isLst:HO->Bool
 |.lst _=>true
 |.ext _=>true
 |_=>false
def hidL(h:Heap)(H:Hp):Hp:=fun a=>match H a with
 |some o=>if isLst o then (h.get? a).map fun ob=>.frz ob o else if vis o then some o else none
 |none=>none
section
variable {P:Program} {w:World} {H H':Hp} {h h':Heap} {a b:Addr} {o:HO} {fs:List Addr} {ob:Obj}
theorem qugz(v:vis o=true):isLst o=false:=by
 cases o with
 |lst xs=>cases v
 |ext φ=>cases v
 |_=>rfl
theorem qb3z(e:H a=none):hidL h H a=none:=by unfold hidL;rw[e]
theorem qakz(e:H a=some o)(v:vis o=true):hidL h H a=some o:=by
 unfold hidL;rw[e];show (if isLst o=true then _ else if vis o=true then some o else none)=_;rw[if_neg (by rw[qugz v];exact Bool.false_ne_true),if_pos v]
theorem qfpz(e:H a=some o)(v:vis o=false)(n:isLst o=false):hidL h H a=none:=by
 unfold hidL;rw[e];show (if isLst o=true then _ else if vis o=true then some o else none)=_;rw[if_neg (by rw[n];exact Bool.false_ne_true),if_neg (by rw[v];exact Bool.false_ne_true)]
theorem qcuz(e:H a=some o)(n:isLst o=true)(q:h.get? a=some ob):hidL h H a=some (.frz ob o):=by
 unfold hidL;rw[e];show (if isLst o=true then (h.get? a).map _ else if vis o=true then some o else none)=_;rw[if_pos n,q];rfl
theorem qj2z(e:hidL h H a=some o):(H a=some o/\vis o=true)∨∃u ob,H a=some u/\isLst u=true/\h.get? a=some ob/\o=.frz ob u:=by
 cases q:H a with
 |none=>rw[qb3z q] at e;cases e
 |some u=>
  cases n:isLst u with
  |true=>
   cases g:h.get? a with
   |none=>
    unfold hidL at e;rw[q] at e;have e':(if isLst u=true then (h.get? a).map fun ob=>HO.frz ob u else if vis u=true then some u else none)=some o:=e;rw[if_pos n,g] at e';cases e'
   |some ob=>
    rw[qcuz q n g] at e;exact .inr ⟨u,ob,rfl,n,rfl,(Option.some.inj e).symm⟩
  |false=>
   cases v:vis u with
   |true=>
    rw[qakz q v] at e;cases e;exact .inl ⟨rfl,v⟩
   |false=>
    rw[qfpz q v n] at e;cases e
theorem qj3z(e:hidL h H a=some o):vis o=true:=by
 rcases qj2z e with⟨_,v⟩|⟨u,ob,_,n,_,rfl⟩
 ·exact v
 ·cases u with
  |lst xs=>rfl
  |ext φ=>rfl
  |_=>cases n
theorem quhz(ok:HOk P w H h):HOk P w (hidL h H) h:=fun a o e=>by
 rcases qj2z e with⟨e1,v⟩|⟨u,ob,e1,n,q,rfl⟩
 ·exact qr4z v (ok a o e1)
 ·cases u with
  |lst xs=>
   obtain⟨z,its,n,r,p⟩:=ok a _ e1;exact⟨q,z,its,n,r,p⟩
  |ext φ=>exact⟨q,ok a _ e1⟩
  |_=>cases n
variable (ok:HOk P w H h) (hfs:∀b∈fs,H b=none) (u:Un fs [] (hidL h H) H' h h') (ok':HOk P w H' h')
include ok u
theorem freeL(e:H b=some o)(v:vis o=false)(n:isLst o=false):H' b=none:=by
 obtain⟨ob,q⟩:=ObjOk.there (ok b o e);exact u.free b ob q (qfpz e v n) (by simp)
theorem lstL(e:H b=some o)(n:isLst o=true):∃ob,h.get? b=some ob/\H' b=some (.frz ob o):=by
 obtain⟨ob,q⟩:=ObjOk.there (ok b _ e);exact⟨ob,q,u.frzs b ob _ (qcuz e n q)⟩
theorem joinL(e:H' b=some o)(n:∀ob u,isLst u=true->o≠.frz ob u):joined H H' b=some o:=by
 cases q:H b with
 |none=>rw[qanz q];exact e
 |some x=>
  cases v:vis x with
  |true=>rw[qavz q v];exact e
  |false=>
   cases l:isLst x with
   |true=>
    obtain⟨ob,_,z⟩:=lstL ok u q l;rw[z] at e;exact absurd (Option.some.inj e).symm (n ob x l)
   |false=>
    rw[freeL ok u q v l] at e;cases e
include hfs ok'
theorem qfqz:Un fs [] H (joined H H') h h'/\HOk P w (joined H H') h':=by
 have kept:∀b x ob,H b=some x->vis x=false->h.get? b=some ob->h'.get? b=some ob:=fun b x ob e v q=>by
  cases l:isLst x with
  |true=>
   obtain⟨ob',q',z⟩:=lstL ok u e l;rw[q] at q';cases q';exact (ok' b _ z).1
  |false=>exact u.keep b ob q (qfpz e v l) (fun z=>by rw[hfs b z] at e;cases e) (by simp)
 refine⟨⟨fun b ob q n h3 h4=>u.keep b ob q (qb3z n) h3 h4,fun b ob q n h3 h4=>u.slot b ob q (qb3z n) h3 h4,fun b ob q n h3=>by rw[qanz n];exact u.free b ob q (qb3z n) h3,
  fun b ob q h3=>u.there b ob q h3,fun b xs e=>joinL ok u (u.tups b xs (qakz e rfl)) (fun _ u n z=>by cases z),fun b ob x e=>?_,fun b ps e=>⟨#[],by rw[Array.append_empty];exact qaez e rfl⟩⟩,fun b x e=>?_⟩
 ·cases v:vis (.frz ob x) with
  |true=>
   rw[qavz e v];exact u.frzs b ob x (qakz e v)
  |false=>exact qaez e v
 ·have mono:H' b=some x->ObjOk P w (joined H H') h' b x:=fun z=>(ok' b x z).stay (fun _ _ _ q=>q) (fun c q=>joinL ok u q fun _ u n z=>by cases z) (fun c xs q=>joinL ok u q fun _ u n z=>by cases z);cases q:H b with
  |none=>
   rw[qanz q] at e;exact mono e
  |some y=>
   cases v:vis y with
   |true=>
    rw[qavz q v] at e;exact mono e
   |false=>
    rw[qaez q v] at e;obtain rfl:=Option.some.inj e;refine (ok b _ q).stay (fun c ob hc z=>?_) (fun c z=>qaez z rfl) (fun c xs z=>joinL ok u (u.tups c xs (qakz z rfl)) fun _ u n z=>by cases z);rcases hc with rfl|hc
    ·exact kept _ _ _ q v z
    ·exact kept _ _ _ hc rfl z
end
mutual
def noScr:D->Bool
 |.tup ds=>noScrs ds
 |.scr _=>false
 |.dc _=>false
 |_=>true
def noScrs:List D->Bool
 |[]=>true
 |d::ds=>noScr d&&noScrs ds
end
def GO.noScr:GO->Prop
 |.lst ds=>noScrs ds=true
 |.gen _=>False
 |_=>True
def NoScr(G:Gp):Prop:=∀a o,G a=some o->GO.noScr o
theorem NoScr.no:NoScr noG:=fun _ _ e=>nomatch e
def shw(G:Gp):D->D
 |.obj p=>match G p with
  |some (.lst xs)=>.scr xs
  |some .dct=>.dc p
  |_=>.obj p
 |d=>d
section
variable {K:PySem.W.Frag} {H H':Hp} {h:Heap}
theorem SqT.hidL{a:Addr}{xs:List V}(q:SqT K H a xs):SqT K (hidL h H) a xs:=by
 rcases q with (q|⟨o,q⟩)|q
 ·exact .inl (.inl (qakz q rfl))
 ·exact .inl (.inr ⟨o,qakz q rfl⟩)
 ·exact .inr q
theorem SqF.hidL{a:Addr}{xs:List V}(q:SqF K H a xs):SqF K (hidL h H) a xs:=by
 rcases q with⟨o,q⟩|q
 ·exact .inl ⟨o,qakz q rfl⟩
 ·exact .inr q
mutual
theorem Hv.hidL:∀{d:D} {v:V},Hv K H d v->Hv K (hidL h H) d v
 |.non,_,q=>by simpa [Hv] using q
 |.bl _,_,q=>by simpa [Hv] using q
 |.int _,_,q=>by simpa [Hv] using q
 |.str _,_,q=>by simpa [Hv] using q
 |.obj _,_,q=>by simpa [Hv] using q
 |.dc a,v,q=>by
  unfold Hv at q ⊢;obtain⟨e,ob,φ,q,c⟩:=q;exact⟨e,ob,φ,qakz q rfl,c⟩
 |.tup ds,v,q=>by
  unfold Hv at q ⊢;obtain⟨a,vs,e,q,r⟩:=q;exact⟨a,vs,e,SqT.hidL q,Hvs.hidL r⟩
 |.scr ds,v,q=>by
  unfold Hv at q ⊢;obtain⟨a,vs,e,q,r⟩:=q;exact⟨a,vs,e,SqF.hidL q,Hvs.hidL r⟩
theorem Hvs.hidL:∀{ds:List D} {vs:List V},Hvs K H ds vs->Hvs K (hidL h H) ds vs
 |[],_,q=>by simpa [Hvs] using q
 |d::ds,vs,q=>by
  unfold Hvs at q ⊢;obtain⟨v,r,e,q,z⟩:=q;exact⟨v,r,e,Hv.hidL q,Hvs.hidL z⟩
end
mutual
theorem Hv.bare(t:∀a xs,H a=some (.tup xs)->H' a=some (.tup xs))(f:∀a o xs,H a=some (.frz o (.tup xs))->H' a=some (.frz o (.tup xs))):∀{d:D} {v:V},noScr d=true->Hv K H d v->Hv K H' d v
 |.non,_,_,q=>by simpa [Hv] using q
 |.bl _,_,_,q=>by simpa [Hv] using q
 |.int _,_,_,q=>by simpa [Hv] using q
 |.str _,_,_,q=>by simpa [Hv] using q
 |.obj _,_,_,q=>by simpa [Hv] using q
 |.tup ds,v,n,q=>by
  unfold Hv at q ⊢;unfold noScr at n;obtain⟨a,vs,e,q,r⟩:=q;refine⟨a,vs,e,?_,Hvs.bare t f n r⟩;rcases q with (q|⟨o,q⟩)|q
  ·exact .inl (.inl (t _ _ q))
  ·exact .inl (.inr ⟨o,f _ _ _ q⟩)
  ·exact .inr q
 |.scr ds,v,n,q=>by
  unfold noScr at n;cases n
 |.dc a,v,n,q=>by
  unfold noScr at n;cases n
theorem Hvs.bare(t:∀a xs,H a=some (.tup xs)->H' a=some (.tup xs))(f:∀a o xs,H a=some (.frz o (.tup xs))->H' a=some (.frz o (.tup xs))):∀{ds:List D} {vs:List V},noScrs ds=true->Hvs K H ds vs->Hvs K H' ds vs
 |[],_,_,q=>by simpa [Hvs] using q
 |d::ds,vs,n,q=>by
  unfold Hvs at q ⊢;unfold noScrs at n;rw[Bool.and_eq_true] at n;obtain⟨v,r,e,q,z⟩:=q;exact⟨v,r,e,Hv.bare t f n.1 q,Hvs.bare t f n.2 z⟩
end
theorem qj4z{G:Gp}{p:Addr}{xs:List D}(e:G p=some (.lst xs)):shw G (.obj p)=.scr xs:=by
 show (match G p with|some (.lst xs)=>D.scr xs|some .dct=>D.dc p|_=>D.obj p)=_
 rw[e]
theorem quiz{G:Gp}{p:Addr}(e:G p=some .dct):shw G (.obj p)=.dc p:=by
 show (match G p with|some (.lst xs)=>D.scr xs|some .dct=>D.dc p|_=>D.obj p)=_
 rw[e]
theorem qujz{G:Gp}{p:Addr}(e:∀xs,G p≠some (.lst xs))(e2:G p≠some .dct):shw G (.obj p)=.obj p:=by
 show (match G p with|some (.lst xs)=>D.scr xs|some .dct=>D.dc p|_=>D.obj p)=_
 cases q:G p with
 |none=>rfl
 |some g=>cases g with
  |lst xs=>exact absurd q (e xs)
  |dct=>exact absurd q e2
  |_=>rfl
theorem qukz{P:Program}{w:World}{G:Gp}(ok:HOk P w H h)(R:RepG K G H){d:D}{v:V}(q:Hv K H d v):Hv K (hidL h H) (shw G d) v:=by
 cases d with
 |obj p=>
  by_cases e:∃xs,G p=some (.lst xs)
  ·obtain⟨xs,e⟩:=e;rw[qj4z e];obtain⟨vs,e1,e2⟩:=R p _ e;obtain⟨ob,e3⟩:=ObjOk.there (ok p _ e1);rw[qpz q];unfold Hv;exact⟨p,vs,rfl,.inl ⟨ob,qcuz e1 rfl e3⟩,e2.hidL⟩
  by_cases e':G p=some .dct
  ·rw[quiz e'];have e1:H p=some (.ext fun h=>∃o,h.get? p=some o/\o.cls=.type "dict"):=R p _ e';obtain⟨⟨ob,h1,h2⟩,_⟩:=(show ObjOk P w H h p _ from ok p _ e1);unfold Hv;exact⟨qpz q,ob,_,qcuz e1 rfl h1,h2⟩
  ·rw[qujz (fun xs z=>e ⟨xs,z⟩) e'];exact q.hidL
 |_=>exact q.hidL
theorem qulz{P:Program}{w:World}{G:Gp}(ok:HOk P w H h)(R:RepG K G H):∀{ds:List D} {vs:List V},Hvs K H ds vs->Hvs K (hidL h H) (ds.map (shw G)) vs:=by
 intro ds
 induction ds with
 |nil=>intro vs q;cases q.inv0;exact .nil
 |cons d ds ih=>
  intro vs q;obtain⟨v,r,rfl,z1,z2⟩:=q.inv;exact .cons (qukz ok R z1) (ih z2)
end
section
variable {X:Cx} {k:Nat} {f:Addr} {fd:FuncData} {ps:List Str} {sp:SpX} {E:E3} {x:Str} {p pos:Pos} {e:Expr} {es:List Expr} {t:TA3}
theorem qj5z{K:PySem.W.Frag}{P:Program}{w:World}{fs:List Addr}{H H':Hp}{h h':Heap}{G1 G':Gp}{d:D}{v:V}(ok:HOk P w H h)(hfs:∀b∈fs,H b=none)(u:Un fs [] (hidL h H) H' h h')(ok':HOk P w H' h')
  (R1:RepG K G1 H) (hd:noScr d=true) (hG:NoScr G') (hv:Hv K H' d v) (S:Step (hidL h H) noG H' G') (R':RepG K G' H'):
  Hv K (joined H H') d v/\Step H G1 (joined H H') (both G1 G')/\RepG K (both G1 G') (joined H H')/\Joins G1 G' (both G1 G'):=by
 have t2:∀a xs,H' a=some (.tup xs)->joined H H' a=some (.tup xs):=fun a xs e=>joinL ok u e fun _ u n z=>by cases z
 have f2:∀a o xs,H' a=some (.frz o (.tup xs))->joined H H' a=some (.frz o (.tup xs)):=fun a o xs e=>joinL ok u e fun _ u n z=>by cases z;cases n
 have E1:Ext H (joined H H'):=by
  obtain⟨u2,_⟩:=qfqz ok hfs u ok';exact⟨u2.tups,u2.frzs⟩
 have outG:∀a,G' a≠none->H a=none:=fun a n=>by
  have z:hidL h H a=none:=S.new a rfl n;cases q:H a with
  |none=>rfl
  |some o=>
   cases v:vis o with
   |true=>rw[qakz q v] at z;cases z
   |false=>
    cases l:isLst o with
    |true=>
     obtain⟨ob,e3⟩:=ObjOk.there (ok a _ q);rw[qcuz q l e3] at z;cases z
    |false=>
     have:=freeL ok u q v l;cases q':G' a with
     |none=>exact absurd q' n
     |some g=>
      obtain⟨o',z',_⟩:=(R' a g q').mut;rw[this] at z';cases z'
 have out1:∀a,G' a≠none->G1 a=none:=fun a n=>R1.free (outG a n);refine⟨hv.bare t2 f2 hd,⟨fun a o e n=>?_,fun a n=>?_,fun a n q=>?_⟩,fun a g e=>?_,⟨fun a o e=>by simp[both,e],fun a o e=>by simp[both,out1 a (by rw[e];simp),e],out1⟩⟩
 ·cases v:vis o with
  |true=>
   rw[qavz e v];exact S.fr a o (qakz e v) rfl
  |false=>exact qaez e v
 ·cases q:H a with
  |none=>exact absurd q n
  |some o=>
   cases v:vis o with
   |true=>
    rw[qavz q v];exact S.trk a (by rw[qakz q v];simp)
   |false=>rw[qaez q v];simp
 ·simp only[both,n] at q;exact outG a q
 ·cases q:G1 a with
  |some o=>
   simp only[both,q] at e;cases e;obtain⟨o',z,h1,h2⟩:=(R1 a g q).mut;have hv:vis o'=false:=by
    cases o' with
    |tup xs=>exact absurd rfl (h1 xs)
    |frz ob y=>exact absurd rfl (h2 ob y)
    |_=>rfl
   exact (R1 a g q).ext E1 (by rw[qaez z hv,z])
  |none=>
   simp only[both,q] at e;have hn:=outG a (by rw[e];simp);have ha:joined H H' a=H' a:=qanz hn;have hg:=hG a g e;cases g with
   |lst ds=>
    obtain⟨vs,e1,e2⟩:=R' a _ e;exact⟨vs,ha.trans e1,e2.bare t2 f2 hg⟩
   |pen=>
    obtain⟨i,j,l,e1,e2⟩:=R' a _ e;exact⟨i,j,l,ha.trans e1,e2⟩
   |dct=>exact ha.trans (R' a _ e)
   |gen R=>exact hg.elim
theorem stepL{P:Program}{w:World}{H H':Hp}{fs:List Addr}{h h':Heap}(u:Un fs [] (hidL h H) H' h h'):Step (hidL h H) noG H' noG:=by
 have fr:∀a o,hidL h H a=some o->H' a=some o:=fun a o e=>by
  have v:=qj3z e;cases o with
  |tup xs=>exact u.tups a xs e
  |frz ob y=>exact u.frzs a ob y e
  |_=>cases v
 refine⟨fun a o e _=>fr a o e,fun a n=>?_,fun a _ q=>absurd rfl q⟩;cases q:hidL h H a with
 |none=>exact absurd q n
 |some o=>rw[fr a o q];simp
theorem CXE.hidL{P:Program}{w:World}{K:PySem.W.Frag}{base:Heap}{outer:List Env}{H:Hp}{s s':Shared}{G1:Gp}{ev:Value}(ok:HOk P w H s.heap)(hfs:∀b∈frs outer,H b=none)(R1:RepG K G1 H)(h:CXE P w base outer (hidL s.heap H) s (lowE K E) ev s'):
  CXE P w base outer H s (lowE2 K E H G1) ev s':=by
 obtain⟨e,T,C,dx,H',rfl,os,bare,u,ok',tr,⟨hHe,hHT⟩,hen,⟨he0,hT0⟩,x,C',fs,ec,cn,q,dd⟩:=h;obtain⟨u2,ok2⟩:=qfqz ok hfs u ok';obtain⟨_,z2,z3,_⟩:=qj5z (G':=noG) (d:=.non) (v:=.non) ok hfs u ok' R1 rfl NoScr.no (by simp[Hv]) (stepL (P:=P) (w:=w) u) (fun _ _ e=>nomatch e);rw[qi7z] at z2 z3;have out:∀b,s.heap.get? b=none->H' b=none->joined H H' b=none:=fun b hb hn=>by
  cases hq:H b with
  |none=>rw[qanz hq];exact hn
  |some o=>
   obtain⟨ob,e'⟩:=ObjOk.there (ok b o hq);rw[hb] at e';cases e'
 refine⟨e,T,C,dx,joined H H',rfl,os,bare,u2,ok2,tr,⟨out _ he0 hHe,out _ hT0 hHT⟩,hen,⟨he0,hT0⟩,⟨x,C',fs,ec,cn,q,?_⟩,z3,z2⟩;rcases dd with⟨d1,d2⟩|⟨d,o,d1,d2⟩
 ·exact .inl ⟨d1,d2⟩
 ·exact .inr ⟨d,o,d1,joinL ok u d2 fun _ u n z=>by cases z;cases n⟩
def toldL(G1:Gp)(Q3:V3):V3:=fun d G'=>noScr d=true/\NoScr G'/\∀G2,Joins G1 G' G2->Q3 d G2
theorem qumz{pins:List (Addr×Obj)}{σ:L2.St}{H:Hp}{s:Shared}{Q:VK}{G1:Gp}{Q3:V3}{ds:List D}{us:List Value}{vs:List V}{XE:Value->Shared->Prop}(F:FnX X.prog X.w X.K X.mg X.base k f fd ps sp)(hr:Room k X.A)(hb:Binds X.K fd ps [])
  (hx:∀ev s',CXE X.prog X.w X.base X.stack H s (lowE2 X.K E H G1) ev s'->XE ev s')
  (I:Inv X pins σ H s) (r:Vals vs us) (hd:Hvs X.K H ds vs) (R1:RepG X.K G1 H) (h:sp (ds.map (shw G1)) (toldL G1 Q3) E) (kk:∀v H' d G',Hv X.K H' d v->Step H G1 H' G'->RepG X.K G' H'->Q3 d G'->Q v H'):
  wpAny (model X.prog X.w) X.A (call (.ref f) us) (EP X pins σ Q) XE s:=by
 have hq:lowX X.K sp vs (hidL s.heap H) (fun v H'=>∃d G',Hv X.K H' d v/\Step (hidL s.heap H) noG H' G'/\RepG X.K G' H'/\toldL G1 Q3 d G') (lowE X.K E):=
  ⟨ds.map (shw G1),_,E,qulz I.hok R1 hd,fun a o e=>qj3z e,h,fun v H' d G' a b c q=>⟨d,G',a,b,c,q⟩,fun _ _ _ z=>z⟩
 have hl:(us++[]).length=ps.length:=by rw[List.append_nil,←r.length];exact F.len _ _ _ _ hq
 have e0:Env0 X.prog X.w X.K X.mg X.base X.A X.stack s (hidL s.heap H):=⟨I.ok.frames,I.ok.mod,fun b o e=>⟨(I.bs b o e).1,qb3z (I.bs b o e).2⟩,Nat.le_trans I.ok.bsz I.sz,I.stack,fun b hb=>qb3z (I.stkFree b hb),quhz I.hok,I.bare⟩;have hb':=hb s us I.kIn hl;rw[List.append_nil] at hb';refine wpAny_call (codeAny_mono (F.run X.A X.stack s (hidL s.heap H) ⟨us,[]⟩ us vs _ (lowE X.K E) hr e0 hb' r hq) fun r s' hq'=>?_);cases r with
 |error e=>exact hx e s' (CXE.hidL I.hok I.stkFree R1 hq')
 |ok fl=>
  cases fl with
  |ret u=>
   obtain⟨v,H',os,bare,un,hok,rv,d,G',a,b,c,q1,q2,q⟩:=hq';obtain⟨un2,ok2⟩:=qfqz I.hok I.stkFree un hok;obtain⟨z1,z2,z3,z4⟩:=qj5z I.hok I.stkFree un hok R1 q1 q2 a b c;exact I.after ⟨v,joined H H',os,bare,un2,ok2,rv,kk v _ d _ z1 z2 z3 (q _ z4)⟩
  |next=>exact False.elim hq'
  |brk=>exact False.elim hq'
  |cont=>exact False.elim hq'
def exCallL(sp:SpX)(t:TA3):TEX:=fun KX τ G Q=>t τ G fun ds G1=>sp (ds.map (shw G1)) (toldL G1 Q) (KX τ G1)
theorem qunz(F:FnX X.prog X.w X.K X.mg X.base k f fd ps sp)(hr:Room k X.A)(hm:X.mg x=some (.ref f))(hk:PySem.W.keepIn X.K (.ref f)=true)(hb:Binds X.K fd ps [])(ha:PA3 X.nox (e::es) t)(hg:Gl X x:=by rfl)
  (hdb:(x==("__debug__":Str))=false:=by decide) (he:notStar e=true:=by rfl) (hpl:es.all notStar=true:=by rfl):
  PEX X (.Call (.Name x p) (e::es) [] pos) (exCallL sp t):=by
 intro pins s σ H Q XE τ G Q3 KX I RS RG h kk xx;refine wpAny_Call_Name_kw (qbnz I hg hm ?_ hdb);refine PySem.W.callWith_K (h₀:=X.base) I.ok.mod.kin hk (wpAny_mono (ha pos pins s σ H (fun vs H1=>∃ds G1,Hvs X.K H1 ds vs/\Step H G H1 G1/\RepG X.K G1 H1/\sp (ds.map (shw G1)) (toldL G1 Q3) (KX τ G1)) (I.wish _)
  ⟨τ,G,_,RS,RG,h,fun vs H1 ds G1 a b c q=>⟨ds,G1,a,b,c,q⟩⟩) (fun us s1 ⟨vs,H1,I1,r,ds,G1,hd,S1,R1,q⟩=>⟨I1.kIn,?_⟩) fun _ _ z=>False.elim z) (qjz he) (qvz hpl)
 exact qumz F hr hb (fun ev s' h=>xx σ τ H1 s1 G1 ev s' I1.unwish (RS.ext (S1.ext RG)) R1 S1 h) I1.unwish r hd R1 q fun v H' d G' a b c q=>kk v H' d G' a (S1.trans b) c q
end
end L3
namespace L3
open PySem PySem.Spec PyProof.Rows L2
section
variable {X:Cx} {k:Nat} {f:Addr} {fd:FuncData} {ps:List Str} {sp:SpX} {E':E3} {x:Str} {p pos:Pos} {e:Expr} {es:List Expr} {t:TA3}
theorem quoz(F:FnX X.prog X.w X.K X.mg X.base k f fd ps sp)(hr:Room k X.A)(hm:X.mg x=some (.ref f))(hk:PySem.W.keepIn X.K (.ref f)=true)(hb:Binds X.K fd ps [])(ha:QA X.nox (e::es) t)(hg:Gl X x:=by rfl)
  (hdb:(x==("__debug__":Str))=false:=by decide) (he:notStar e=true:=by rfl) (hpl:es.all notStar=true:=by rfl):QEX X (.Call (.Name x p) (e::es) [] pos) (exCallL sp t):=⟨qunz F hr hm hk hb ha.of hg hdb he hpl⟩
end
end L3
namespace L3
open PySem PySem.Spec PyProof.Rows L2
section
variable {X:Cx} {pins:List (Addr×Obj)} {σ:L2.St} {H:Hp} {s:Shared} {h':Heap}
theorem qupz{i:Nat}{en:Str}{m:Str->Option Value}{v7:Option Value}{t':Nat}(I:Inv X pins σ H s)(hN:X.N.Nodup)(hi:X.N[i]?=some en)(hs:Heap.SameBut X.env.locals s.heap h')(hm:s.heap.Ns X.env.locals m)(hlk:∀(i:Nat) (x:Str) (v:V),X.N[i]?=some x->σ[i]?=some (some v)->Vis X.env.scope x->∃u,RelV v u/\Look X.env s.heap m x u)(hn:h'.Ns X.env.locals (fun x=>if x=en then v7 else m x)):Inv X pins (σ.set i none) H { s with heap:=h',toks:=t' }:=by
 have hloc:X.s₀.heap.get? X.env.locals=none:=Heap.get?_none_of_le I.ok.above;have k:∀b o,b≠X.env.locals->s.heap.get? b=some o->h'.get? b=some o:=fun b o hb q=>(hs.2 b hb).trans q;have ne:∀{b:Addr} {o:Obj},X.s₀.heap.get? b=some o->b≠X.env.locals:=fun h1 z=>by
  rw[z,hloc] at h1;cases h1
 refine⟨I.ok,I.os,I.bare,⟨fun b o h1 h2 h3 h4=>k b o (ne h1) (I.base.keep b o h1 h2 h3 h4),fun b o h1 h2 h3 h4=>?_,I.base.free,fun b o h1 h2=>?_,I.base.tups,I.base.frzs,I.base.tbls⟩,⟨_,hn,fun j x v h1 h2 h3=>?_⟩,fun x c hc=>?_,I.free,I.freeC,fun p hp=>?_,fun a o ha=>?_,by rw[List.length_set];exact I.len⟩
 ·obtain⟨sl,q⟩:=I.base.slot b o h1 h2 h3 h4;exact⟨sl,k _ _ (ne h1) q⟩
 ·obtain⟨o',q⟩:=I.base.there b o h1 h2;exact⟨o',k _ _ (ne h1) q⟩
 ·have hij:i≠j:=fun z=>by
   subst z;have hl:i<σ.length:=by
    rw[I.len];exact (List.getElem?_eq_some_iff.mp hi).1
   rw[List.getElem?_set_self hl] at h2;cases h2
  rw[List.getElem?_set_ne hij] at h2;obtain⟨u,r,lk⟩:=hlk j x v h1 h2 h3;have hx:x≠en:=fun z=>by
   subst z;exact hij ((List.getElem?_inj (List.getElem?_eq_some_iff.mp hi).1 hN).mp (hi.trans h1.symm))
  refine⟨u,r,?_⟩;rcases lk with⟨k1,k2⟩|⟨k1,c,k2,k3⟩
  ·exact .inl ⟨k1,by show (if x=en then v7 else m x)=_;rw[if_neg hx];exact k2⟩
  ·refine .inr ⟨k1,c,k2,?_⟩;obtain⟨o,ho,hd⟩:=k3;exact⟨o,k _ _ (I.cne x c k2) ho,hd⟩
 ·obtain⟨v,o,ho,hd⟩:=I.cell x c hc;exact⟨v,o,k _ _ (I.cne x c hc) ho,hd⟩
 ·obtain⟨q1,q2,q3,q4,q5⟩:=I.pin p hp;exact⟨k _ _ q3 q1,q2,q3,q4,q5⟩
 ·refine (I.hok a o ha).stay (fun b u hb q=>k b u (fun z=>?_) q) (fun _ q=>q) fun _ _ q=>q;rcases hb with hb|hb
  ·rw[←hb,z,I.free] at ha;cases ha
  ·rw[z,I.free] at hb;cases hb
end
theorem RepS.unset{K:PySem.W.Frag}{τ:S3}{σ:L2.St}{H:Hp}(R:RepS K τ σ H)(i:Nat):RepS K (τ.set i none) (σ.set i none) H:=⟨by rw[List.length_set,List.length_set];exact R.len,fun j d h=>by
 rw[qdaz] at h;by_cases z:i=j
 ·subst z;by_cases w:i<τ.length
  ·rw[List.getElem?_set_self w] at h;cases h
  ·rw[List.getElem?_eq_none (by rw[List.length_set];omega)] at h;cases h
 ·rw[List.getElem?_set_ne z] at h;obtain⟨v,e1,e2⟩:=R.at_ j d (by rw[qdaz];exact h);exact⟨v,by rw[List.getElem?_set_ne z];exact e1,e2⟩⟩
def sTryN(names:List Str)(i:Nat)(tx:TSX)(th:Addr->TS3)(tr:TS3):TS3:=fun D τ G=>
 tx (fun τ1 G1 x fs=>x∈names/\∀p G2,New G1 p (.gen (excR x fs)) G2->th p { nx:=fun τ2 G3=>tr D (τ2.set i none) G3,rt:=D.rt } (set3 τ1 i (.obj p)) G2) { D with nx:=tr D } τ G
theorem quqz{X:Cx}{i:Nat}{cx en:Str}{names:List Str}{body suite rest:List Stmt}{b₀:Stmt}{np hpos pos:Pos}{tx:TSX}{th:Addr->TS3}{tr:TS3}{B:Addr}(F:Frame X)(T7:Takes X.K names B)(hm:X.mg cx=some (.ref B))(hN:X.N.Nodup)(hb:PSX X body tx)(hh:∀e,PSs3 (X.caught e) (b₀::suite) (th e))(hr:PSs3 X rest tr)
  (hi:X.N[i]?=some en:=by rfl) (hl:X.env.scope.names.lookup en=some .local:=by rfl) (hg:Gl X cx:=by rfl) (hdb:(cx==("__debug__":Str))=false:=by decide):
  PSs3 X (.Try body [.ExceptHandler (some (.Name cx np)) (some en) (b₀::suite) hpos] [] [] pos::rest) (sTryN names i tx th tr):=by
 intro pins s σ H D2 I ⟨τ,G,D3,RS,RG,ht,EL⟩;refine wpAny_execs_cons (wpAny_Try_except ?_);have EL':EndsLow X.K H G { D3 with nx:=tr D3 } { D2 with nx:=fun σ' H'=>lowS X.K tr D2 σ' H' }:=⟨fun τ' σ' G' H' a b c q=>⟨τ',G',D3,a,c,q,EL.step b⟩,EL.bk,EL.ct,EL.rt⟩;refine wpAny_mono (hb pins s σ H _ _ τ G _ _ I RS RG ht EL' ?exc) (fun fl s1 q=>?fin) (fun e s1 q=>q)
 case fin=>
  cases fl with
  |next=>
   obtain⟨σ',H',I',q⟩:=q;exact wpAny_execs_nil (hr pins s1 σ' H' D2 I' q)
  |ret u=>exact q
  |brk=>exact q
  |cont=>exact q
 case exc=>
  intro σ1 τ1 H1 s1 G1 ev s' I1 RS1 R1 S1 cxx;obtain⟨e,T,C,dx,H',rfl,os,bare,u,ok,tr',⟨hHe,hHT⟩,hen,⟨he0,hT0⟩,⟨x,C',fs,ec,cn,⟨hxn,kq⟩,dd⟩,R2,S2⟩:=cxx;cases ec;have I':Inv X pins σ1 H' s':=I1.call' (ch:=[]) os u ok bare (fun b z=>absurd z (by simp));have s0:∀{b:Addr},s1.heap.get? b=none->X.s₀.heap.get? b=none:=fun {b} hb=>by
   cases hq:X.s₀.heap.get? b with
   |none=>rfl
   |some o=>
    obtain⟨o',e'⟩:=I1.base.there b o hq (by rw[F.ex];simp);rw[hb] at e';cases e'
  have pne:∀p∈X.pn++pins,p.1≠e/\p.1≠T:=fun p hp=>by
   have q:=(I1.pin p hp).1;refine⟨fun z=>?_,fun z=>?_⟩
   ·rw[z,he0] at q;cases q
   ·rw[z,hT0] at q;cases q
  have eo:=tr'.obj;have To:=tr'.ent;refine qsgz (base:=X.base) (by rw[I'.ok.frames,F.st]) (by rw[←F.st];exact I'.stack) F.fr tr' I'.bk hen fun h2 L=>?_;rw[←F.st] at L;have I2:=I'.turnedX F L.turnX (s0 he0) (s0 hT0) hHe hHT pne (by obtain⟨oe,vs,q1,_,_,q2,_⟩:=eo;exact⟨oe,vs,q1,q2⟩) (by obtain⟨oe,vs,q1,q2,_⟩:=To;exact⟨oe,vs,q1,q2⟩);obtain⟨T2,tr2,hT2⟩:=L.traced;obtain⟨oe,vs,q1,q2,q3,q4,q5,q6⟩:=tr2.obj;obtain⟨oT,ts,r1,r2,r3⟩:=tr2.ent;have Ic:=I2.caught e;obtain⟨init,ec⟩:=T7 x hxn C cn;refine wpAny_handleBy_cons (codeAny_handlers_test (qbnz (X:=X.caught e) Ic hg hm ?_ hdb)) (by intro q;cases q);obtain⟨nm,qn,N,bs,sn,sub,ab,col,dd',k0,k1,k2,k3,k5,mN,hC,_⟩:=qdsz Ic.kIn ec.cls;obtain⟨nm',qn',N',bs',sn',sub',ab',col',dd'',k0',k1',k2',k3',k5',mN',hB,_⟩:=qdsz Ic.kIn ec.base;refine excMatchesB hC hB q1 q2 (by decide +kernel) (by simp) ?_;refine codeAny_handlers_suite_as ?_;refine flightD tr2 fun h3 kp tr3=>?_;have sT2:X.s₀.heap.get? T2=none:=by
   cases hq:X.s₀.heap.get? T2 with
   |none=>rfl
   |some o=>
    obtain⟨o',e'⟩:=I'.base.there T2 o hq (by rw[F.ex];simp);rw[hT2] at e';cases e'
  have hHT2:H' T2=none:=by
   cases hq:H' T2 with
   |none=>rfl
   |some o=>
    obtain⟨ob,e'⟩:=ObjOk.there (I'.hok T2 o hq);rw[hT2] at e';cases e'
  have I3:=I2.turnedX (h':=h3) F (e:=e) (T:=T2) ⟨fun b o _ hT _ q=>kp b o hT q,fun b o hb q=>⟨o.slots,kp b o (fun z=>by
   obtain⟨_,o',ho',hd⟩:=I2.stack.mem hb;rw[z,r1] at ho';cases ho';exact hd _ r2) q⟩⟩ (s0 he0) sT2 hHe hHT2 (fun p hp=>⟨(pne p hp).1,fun z=>by
   have:=(I'.pin p hp).1;rw[z,hT2] at this;cases this⟩) ⟨oe,vs,q1,q4⟩ ⟨oT,ts,r1,r2⟩
  obtain⟨oe,vs,q1,q2,q3,q4,q5,q6⟩:=tr3.obj;refine qd3z (X:=X.caught e) (i:=i) (v:=.ref e) (I3.caught e) hN hi (.inl hl) rfl (fun s4 I4 sb=>?_) (.inr hl);have nl:e≠X.env.locals:=fun z=>by
   obtain⟨m,⟨o,es,ep,ho,hd,_⟩,_⟩:=I3.loc;rw[←z] at ho;rw[show h3.get? e=_ from q1] at ho;cases ho;rw[q4] at hd;cases hd
  have nc:∀y c,X.env.cells.lookup y=some c->c≠e:=fun y c hc z=>by
   obtain⟨v,o,ho,hd⟩:=I3.cell y c hc;rw[z] at ho;rw[show h3.get? e=_ from q1] at ho;cases ho;rw[q4] at hd;cases hd
  obtain⟨a,sb1,sb2⟩:=sb;have q1':s4.heap.get? e=some oe:=(sb1.2 e (fun z=>by
   rcases sb2 with sb2|sb2
   ·exact nl (z.trans sb2)
   ·exact nc _ _ sb2 z.symm)).trans q1
  have I5:=I4.track (o:=.ext (excφ e C dx)) hHe (s0 he0) ⟨⟨oe,vs,q1',q2,q3,q4,q6⟩,⟨oe,q1'⟩,fun h1 h2 ⟨oe,vs,a,b⟩ k=>⟨oe,vs,k _ a,b⟩⟩ nl nc (fun p hp=>(pne p hp).1);have E2:=S2.ext R1;have RG5:RepG X.K (upd3 G1 e (.gen (excR x fs))) (upd H' e (.ext (excφ e C dx))):=R2.laidG hHe (qshz ⟨C,dx,cn,qnz,dd.keep (Ext.laid hHe).frz⟩);have S5:Step H1 G1 (upd H' e (.ext (excφ e C dx))) (upd3 G1 e (.gen (excR x fs))):=S2.trans (.laidG hHe);have RS5:RepS X.K (set3 τ1 i (.obj e)) (σ1.set i (some (.ref e))) (upd H' e (.ext (excφ e C dx))):=((RS1.ext E2).ext (.laid hHe)).set (by simp[Hv]);refine wpAny_mono (hh e pins s4 _ _ { nx:=fun σ' H'=>∃τ' G',RepS X.K τ' σ' H'/\Step H G H' G'/\RepG X.K G' H'/\tr D3 (τ'.set i none) G',rt:=D2.rt } I5 ⟨_,_,{ nx:=fun τ' G'=>tr D3 (τ'.set i none) G',rt:=D3.rt },RS5,RG5,kq e _ (.mk' (R2.free hHe)),⟨fun τ' σ' G' H' a b c q=>⟨τ',G',a,S1.trans (S5.trans b),c,q⟩,fun _ _ _ _ _ _ _ q=>q.elim,fun _ _ _ _ _ _ _ q=>q.elim,fun d v G' H' a b c q=>EL.rt d v G' H' a (S1.trans (S5.trans b)) c q⟩⟩) (fun fl s5 q=>?_) (fun _ _ z=>z.elim);cases fl with
  |ret u=>
   obtain⟨v,σ',H6,I6,rv,qv⟩:=q;obtain⟨m,hn,_⟩:=I6.loc;refine wpAny_nameGoes hl hn (by rw[I.ok.kind];rfl) fun h7 m7 hn7 hs7=>?_;exact⟨v,_,H6,(I6.uncaught I.ok).forget hs7 hn7,rv,qv⟩
  |next=>
   obtain⟨σ',H6,I6,τ',G',ra,rb,rc,rq⟩:=q;obtain⟨m,hn,hlk⟩:=I6.loc;refine PySem.wpAny_nameGoes_keeps hl hn (by rw[I.ok.kind];rfl) fun h7 v7 hn7 hs7=>?_;have I7:=qupz (i:=i) (t':=s5.toks+1) (I6.uncaught I.ok) hN hi hs7 hn hlk hn7;exact hr pins _ _ H6 D2 I7 ⟨_,G',D3,ra.unset i,rc,rq,EL.step rb⟩
  |brk=>
   obtain⟨_,_,_,q⟩:=q;exact q.elim
  |cont=>
   obtain⟨_,_,_,q⟩:=q;exact q.elim
def sxAsg(i:Nat)(tx:TEX)(tr:TSX):TSX:=fun KX D τ G=>tx KX τ G fun d G1=>tr KX D (set3 τ i d) G1
section
variable {X:Cx} {e:Expr} {tx:TEX} {tr:TSX} {rest:List Stmt} {pos py:Pos}
theorem qurz{i:Nat}{y:Str}(hN:X.N.Nodup)(h:PEX X e tx)(hr:PSX X rest tr)(hi:X.N[i]?=some y)(hl:X.env.scope.names.lookup y=some .local)(hs:swapsWith e (some (.Name y py)) pos.line X.env=pure false):PSX X (.Assign [.Name y py] e pos::rest) (sxAsg i tx tr):=by
 intro pins s σ H D2 XE τ G D3 KX I RS RG ht EL xx;refine wpAny_execs_cons (wpAny_Assign_Name (thn (h pins s σ H (fun v H1=>∃d G1,Hv X.K H1 d v/\Step H G H1 G1/\RepG X.K G1 H1/\tr KX D3 (set3 τ i d) G1) XE τ G _ KX I RS RG ht (fun v H' d G' a b c q=>⟨d,G',a,b,c,q⟩) xx) fun v s1 ⟨x,H1,I1,r1,d,G1,hd,S1,R1,q1⟩=>?_) hs);exact qd4z I1 hN hi (.inl hl) r1 (fun s2 I2=>hr pins s2 _ H1 D2 XE _ G1 D3 KX I2 ((RS.ext (S1.ext RG)).set hd) R1 q1 (EL.step S1) (xx.step S1)) (.inr hl)
theorem qusz{i:Nat}{y:Str}(hN:X.N.Nodup)(h:QEX X e tx)(hr:QSX X rest tr)(hi:X.N[i]?=some y:=by rfl)(hl:X.env.scope.names.lookup y=some .local:=by rfl)(hs:swapsWith e (some (.Name y py)) pos.line X.env=pure false:=by rfl):QSX X (.Assign [.Name y py] e pos::rest) (sxAsg i tx tr):=⟨qurz hN h.of hr.of hi hl hs⟩
theorem qutz{i:Nat}{cx en:Str}{names:List Str}{body suite rs:List Stmt}{b₀:Stmt}{np hpos:Pos}{th:Addr->TS3}{tq:TS3}{ta:TSX}{B:Addr}(F:Frame X)(T7:Takes X.K names B)(hm:X.mg cx=some (.ref B))(hN:X.N.Nodup)(hb:QSX X body ta)(hh:∀e,QSs (X.caught e) (b₀::suite) (th e))(hr:QSs X rs tq)
  (hi:X.N[i]?=some en:=by rfl) (hl:X.env.scope.names.lookup en=some .local:=by rfl) (hg:Gl X cx:=by rfl) (hdb:(cx==("__debug__":Str))=false:=by decide):
  QSs X (.Try body [.ExceptHandler (some (.Name cx np)) (some en) (b₀::suite) hpos] [] [] pos::rs) (sTryN names i ta th tq):=⟨quqz F T7 hm hN hb.of (fun e=>(hh e).of) hr.of hi hl hg hdb⟩
end
end L3
namespace L3
open PySem PySem.Spec PyProof.Rows L2
def del3(G:Gp)(a:Addr):Gp:=fun b=>if b=a then none else G b
theorem qfrz{G:Gp}{a b:Addr}(h:b≠a):del3 G a b=G b:=by simp[del3,h]
theorem New.del{G G1:Gp}{p:Addr}{o:GO}(n:New G p o G1):Sub G (del3 G1 p):=fun a u e=>by
 rw[qfrz]
 ·exact n.sub a u e
 ·intro z;rw[z,n.non] at e;cases e
section
variable {X:Cx} {e:Expr} {ta:TE3} {pins:List (Addr×Obj)} {σ:L2.St} {H:Hp} {s:Shared} {a:Addr} {xs:List V}
theorem quuz(I:Inv X pins σ H s)(h:H a=some (.lst xs)):∃o,Inv X pins σ (upd H a (.frz o (.lst xs))) s:=by
 obtain⟨z,its,n,r,p⟩:=I.hok a _ h;exact⟨_,I.write (e:=a) (h':=s.heap) (t':=s.toks) (by rw[h];trivial) (.inl rfl) (fun b u _ q=>q) ⟨_,p⟩ ⟨p,z,its,n,r,p⟩⟩
def eFrz(ta:TE3):TE3:=fun τ G Q=>ta τ G fun x G1=>match x with
 |.obj a=>∃ds,G1 a=some (.lst ds)/\Q (.scr ds) (del3 G1 a)
 |_=>False
theorem quvz(ha:PE3 X e ta):PE3 X e (eFrz ta):=by
 intro pins s σ H Q I ⟨τ,G,Q3,RS,RG,h,kk⟩;refine thn (ha pins s σ H (fun v H1=>∃d G1,Hv X.K H1 d v/\Step H G H1 G1/\RepG X.K G1 H1/\(match d with
  |.obj a=>∃ds,G1 a=some (.lst ds)/\Q3 (.scr ds) (del3 G1 a)
  | _=>False)) I ⟨τ,G,_,RS,RG,h,fun v H1 d G1 a b c q=>⟨d,G1,a,b,c,q⟩⟩) fun u s1 ⟨v,H1,I1,r1,d,G1,hd,S1,R1,q⟩=>?_
 cases d with
 |obj a=>
  obtain⟨ds,e1,q⟩:=q;obtain⟨vs,e2,e3⟩:=R1 a _ e1;obtain⟨o,I2⟩:=quuz I1 e2;refine⟨v,_,I2,r1,kk v _ (.scr ds) _ ?_ ⟨fun b u f n=>?_,fun b f=>?_,fun b n f=>?_⟩ (fun b u f=>?_) q⟩
  ·unfold Hv;exact⟨a,vs,qpz hd,.inl ⟨o,qnz⟩,e3.ext (.wrote e2)⟩
  ·by_cases z:b=a
   ·subst z;rw[S1.new b n (by rw[e1];exact nofun)] at f;cases f
   ·rw[qfz z];exact S1.fr b u f n
  ·by_cases z:b=a
   ·subst z;rw[qnz];exact nofun
   ·rw[qfz z];exact S1.trk b f
  ·by_cases z:b=a
   ·subst z;exact absurd (show del3 G1 b b=none by simp[del3]) f
   ·rw[qfrz z] at f;exact S1.new b n f
  ·by_cases z:b=a
   ·subst z;rw[show del3 G1 b b=none by simp[del3]] at f;cases f
   ·rw[qfrz z] at f;exact (R1 b u f).ext (.wrote e2) (by rw[qfz z])
 |_=>exact q.elim
theorem quwz(ha:QE X e ta):QE X e (eFrz ta):=⟨quvz ha.of⟩
end
end L3
namespace My
open PySem L2 L3
def qb4z:Sp3:=qb2z
def quxz:TS3:=sRet (eAndV (eInRng2 false (eOp rIx3 (eVar 0) (eC (.int 0))) (aCons (eC (.int 1)) (aCons (eC (.int 1001)) (aNil)))) (eInRng1 false (eOp rIx3 (eVar 0) (eC (.int 1))) (aCons (eOp rIx3 (eVar 0) (eC (.int 0))) (aNil))))
def qfsz:TS3:=sSeq (sIf (eOr (eNot (eTest (eInst "tuple" (eVar 0)))) (eOr (eTest (eOp (rEq3 true) (eCB q1z (aCons (eVar 0) (aNil))) (eC (.int 2)))) (eOr (eNot (eTest (eCall qbkz (aCons (eOp rIx3 (eVar 0) (eC (.int 0))) (aNil))))) (eNot (eTest (eCall qbkz (aCons (eOp rIx3 (eVar 0) (eC (.int 1))) (aNil)))))))) (sRet (eC (.bl false))) (sNext)) quxz
theorem qj6z(s r:Int):clkV s r=(inB false 1 1001 s&&inB false 0 s r):=by
 show ((decide (1≤s)&&decide (s≤1000))&&(decide (0≤r)&&decide (r<s)))=((decide (1≤s)&&decide (s<1001))&&(decide (0≤r)&&decide (r<s)));rw[show decide (s≤1000)=decide (s<1001) from decide_eq_decide.mpr (by omega)]
theorem quyz:∀ds G Q,qb4z ds G Q->qfsz (endsOf Q) (start3 ["thing"] ds) G:=by
 rintro ds G Q ⟨d,rfl,hk,q⟩;have not_tup:(∀ds,d≠.tup ds)->qfsz (endsOf Q) (start3 ["thing"] [d]) G:=by
  intro hn;have e:clkB d=false:=by
   cases d with
   |tup ds=>exact absurd rfl (hn ds)
   |_=>rfl
  rw[e] at q;show match instD "tuple" G d with
   |some b=>_
   |none=>False
  rw[qfkz hk.known2 hn];exact⟨fun _=>⟨fun _=>qiz q,nofun⟩,nofun⟩
 cases d with
 |tup ds=>
  refine⟨nofun,fun _=>⟨_,_,rfl,rfl,Nat.zero_le _,?_⟩⟩;rcases ds with _|⟨a,_|⟨b,_|⟨c,ds⟩⟩⟩
  ·exact⟨fun _=>⟨fun _=>qiz q,nofun⟩,nofun⟩
  ·rw[qdzz (by simp)] at q;exact⟨fun _=>⟨fun _=>qiz q,nofun⟩,nofun⟩
  ·refine⟨nofun,fun _=>⟨a,rfl,(hk.el (by simp)).known,?_⟩⟩;have hb:Known G b:=(hk.el (by simp)).known;cases a with
   |int s=>
    refine⟨nofun,fun _=>⟨b,rfl,hb,?_⟩⟩;cases b with
    |int r=>
     have fin:∀v,clkV s r=v->(endsOf Q).rt (.bl v) G:=fun v e=>by
      rw[←e];exact qiz q
     refine⟨nofun,fun _=>⟨_,rfl,⟨fun h1=>⟨_,rfl,_,rfl,fin _ ?_⟩,fun h1=>fin _ ?_⟩⟩⟩
     ·rw[qj6z,h1];rfl
     ·rw[qj6z,h1];rfl
    |_=>exact⟨fun _=>qiz q,nofun⟩
   |_=>exact⟨fun _=>⟨fun _=>qiz q,nofun⟩,nofun⟩
  ·refine⟨fun _=>?_,fun h=>?_⟩
   ·rw[qdzz (by simp)] at q;exact⟨fun _=>qiz q,nofun⟩
   have h':(!(((ds.length+1+1+1:Nat):Int)==2))=false:=h;simp at h';omega
 |_=>exact not_tup nofun
def adjP(cs:List Clk)(k:Nat):Bool:=match cs[k]?,cs[k+1]? with
 |some a,some b=>ltC (a,b)
 |_,_=>false
theorem qj7z:∀cs:List Clk,adjA cs=(List.range (cs.length-1)).all (adjP cs)
 |[]=>rfl
 |[c]=>rfl
 |a::b::cs=>by
  have ih:=qj7z (b::cs);show (ltC (a,b)&&adjA (b::cs))=_;rw[ih];show _=(List.range (cs.length+1)).all (adjP (a::b::cs));rw[List.range_succ_eq_map,List.all_cons,List.all_map];rfl
theorem rng1(n:Nat):rngL 1 n=(List.range n).map fun k=>nD (k+1):=by
 unfold rngL;refine List.map_congr_left fun k _=>?_;show D.int (1+(k:Int))=D.int ((k+1:Nat):Int);rw[show (1:Int)+(k:Int)=((k+1:Nat):Int) by omega]
def qcvz:Sp3:=qt9z
def quzz:TS3:=sRet (eCB qcjz (aCons (eComp ["k"] [0] (iRng2 (aCons (eC (.int 1)) (aCons (eCB q1z (aCons (eVar 0) (aNil))) (aNil)))) (hName 0) (tNoTest3) (eOp rLtT3 (eOp rIx3 (eVar 1) (eOp rSub3 (eVar 0) (eC (.int 1)))) (eOp rIx3 (eVar 1) (eVar 0)))) (aNil)))
def qftz:TS3:=sSeq (sIf (eOr (eNot (eTest (eInst "tuple" (eVar 0)))) (eOr (eTest (eOp rGt3 (eCB q1z (aCons (eVar 0) (aNil))) (eC (.int 12)))) (eNot (eTest (eCB qcjz (aCons (eComp ["clock"] [] (iSeq (eVar 0)) (hName 0) (tNoTest3) (eCall qb4z (aCons (eVar 0) (aNil)))) (aNil))))))) (sRet (eC (.bl false))) (sNext)) quzz
theorem qu0z:∀ds G Q,qcvz ds G Q->qftz (endsOf Q) (start3 ["thing"] ds) G:=by
 rintro ds G Q ⟨d,rfl,hk,q⟩;have not_tup:(∀ds,d≠.tup ds)->qftz (endsOf Q) (start3 ["thing"] [d]) G:=by
  intro hn;have e:clksB d=false:=by
   cases d with
   |tup ds=>exact absurd rfl (hn ds)
   |_=>rfl
  rw[e] at q;show match instD "tuple" G d with
   |some b=>_
   |none=>False
  rw[qfkz hk.known2 hn];exact⟨fun _=>⟨fun _=>qiz q,nofun⟩,nofun⟩
 cases d with
 |tup ds=>
  refine⟨nofun,fun _=>⟨fun h=>?_,fun h=>?_⟩⟩
  ·have h':(12:Int)<((ds.length:Nat):Int):=of_decide_eq_true h;have e:clksB (.tup ds)=false:=by
    show (decide (ds.length≤12)&&_)=false;rw[decide_eq_false (by omega)];rfl
   rw[e] at q;exact⟨fun _=>qiz q,nofun⟩
  ·have h':¬((12:Int)<((ds.length:Nat):Int)):=of_decide_eq_false h;have e:clksB (.tup ds)=(ds.all clkB&&adjA (ds.map clkOf)):=by
    show (decide (ds.length≤12)&&_)=_;rw[decide_eq_true (by omega)];rfl
   rw[e] at q;refine⟨line1000 (by show ds.length≤1000;omega),quaz (js:=[]) (τ:=[]) (f:=clkB) (by show ds.length≤1000;omega) (fun x hx y K k=>⟨x,rfl,hk.el hx,k⟩) fun p G1 n1=>⟨_,_,n1.at_,qflz clkB ds,?_⟩⟩;rw[all_map];refine⟨fun hw=>?_,fun hw=>?_⟩
   ·have hw':ds.all clkB=false:=by simpa using hw
    rw[hw'] at q;exact qcoz n1.sub q
   ·have hw':ds.all clkB=true:=by simpa using hw
    rw[hw'] at q;obtain⟨cs,rfl⟩:=qfnz hw';rw[qjzz,qj7z] at q;have hcl:(cs.map cD).length=cs.length:=List.length_map ..;rw[hcl] at h';refine⟨⟨by decide,by decide,?_,?_⟩,?_,?_⟩
    ·show -(2^62)≤(((cs.map cD).length:Nat):Int);omega
    ·show (((cs.map cD).length:Nat):Int)<2^62;rw[hcl];omega
    ·show (rngL 1 ((((cs.map cD).length:Nat):Int)-1).toNat).length≤sizeLine;rw[qa5z,hcl];exact line1000 (by omega)
    ·show compGo _ _ _ _ _ (rngL 1 ((((cs.map cD).length:Nat):Int)-1).toNat) _ _ _;rw[hcl,show ((((cs.length:Nat):Int)-1).toNat)=cs.length-1 by omega,rng1];refine qbyz (fun τ=>∃x,τ=[x,some (csD cs)]) (fun k=>nD (k+1)) (fun _=>true) (fun k=>.bl (adjP cs k)) (G:=G1) trivial (List.range (cs.length-1)) [] _ ⟨none,rfl⟩ ?_ ?_
     ·rintro k hm τ K1 K2 ⟨x,rfl⟩ h1 h2;have hk1:k<cs.length-1:=by simpa using hm
      have ea:cs[k]?=some (cs[k]'(by omega)):=List.getElem?_eq_getElem (by omega);have eb:cs[k+1]?=some (cs[k+1]'(by omega)):=List.getElem?_eq_getElem (by omega);refine⟨fun _=>⟨cD (cs[k]'(by omega)),?_,cD (cs[k+1]'(by omega)),qjxz eb,toL _,toL _,rfl,rfl,?_⟩,nofun⟩
      ·show atI (cs.map cD) (((k+1:Nat):Int)-1)=_;rw[show (((k+1:Nat):Int)-1)=(k:Int) by omega];exact qjxz ea
      ·have:=h1 rfl [some (nD (k+1)),some (csD cs)] ⟨_,rfl⟩;unfold adjP at this;rw[ea,eb] at this;exact this
     ·intro p2 G2 n2;rw[filter_all,List.nil_append] at n2;refine⟨_,_,n2.at_,qflz (adjP cs) _,?_⟩;rw[all_map];exact qcoz (n1.sub.trans n2.sub) q
 |_=>exact not_tup nofun
structure Tr(t:D):Prop where
 kn:∀G,KnD G t
 dat:∃u,toDat0 t=some u/\u.dep≤10/\u.eqb u=true
def datOf(t:D):Dat.D:=(toDat0 t).getD .non
theorem Tr.at_{t:D}(h:Tr t)(G:Gp):toDat G t=some (datOf t):=by
 obtain⟨u,e,_,_⟩:=h.dat;have e2:toDat G t=toDat0 t:=by
  cases t with
  |obj a=>
   have:=(h.kn noG).known;obtain⟨o,e,_⟩:=this;cases e
  |_=>rfl
 unfold datOf;rw[e2,e];rfl
theorem Tr.dep{t:D}(h:Tr t):(datOf t).dep≤10:=by
 obtain⟨u,e,d,_⟩:=h.dat;unfold datOf;rw[e];exact d
theorem Tr.refl{t:D}(h:Tr t):(datOf t).eqb (datOf t)=true:=by
 obtain⟨u,e,_,r⟩:=h.dat;unfold datOf;rw[e];exact r
theorem qj8z:∀{ts:List D},(∀t∈ts,Tr t)->Dat.eqbs (ts.map datOf) (ts.map datOf)=true
 |[],_=>rfl
 |t::ts,h=>by
  show ((datOf t).eqb (datOf t)&&Dat.eqbs (ts.map datOf) (ts.map datOf))=true;rw[(h t List.mem_cons_self).refl,qj8z fun x hx=>h x (List.mem_cons_of_mem _ hx)];rfl
theorem qcwz:∀{ts:List D},(∀t∈ts,Tr t)->toDats0 ts=some (ts.map datOf)/\Dat.deps (ts.map datOf)≤10
 |[],_=>⟨rfl,Nat.zero_le _⟩
 |t::ts,h=>by
  obtain⟨e1,e2⟩:=qcwz (ts:=ts) fun x hx=>h x (List.mem_cons_of_mem _ hx);have ht:=h t List.mem_cons_self;obtain⟨u,e,d,_⟩:=ht.dat;have hd:=ht.dep;constructor
  ·unfold toDats0;rw[e,e1];show some (u::ts.map datOf)=some (datOf t::ts.map datOf);unfold datOf;rw[e];rfl
  ·show max (datOf t).dep (Dat.deps (ts.map datOf))≤10;omega
def inB(ts:List D)(t:D):Bool:=(ts.map datOf).any fun v=>v.eqb (datOf t)
def goodAt(ts:List D)(k:Nat):Bool:=match ts[k]? with
 |some t=>clkB t&&(!inB (ts.take k) t&&decide (k<12))
 |none=>false
def badO(ts:List D):Option Nat:=(List.range ts.length).find? fun k=>!goodAt ts k
theorem qfuz{ts:List D}{k:Nat}(hk:k<ts.length)(h:∀j,j<k->goodAt ts j=true)(hb:goodAt ts k=false):badO ts=some k:=by
 unfold badO;rw[List.find?_range_eq_some];refine⟨by rw[hb];rfl,List.mem_range.mpr hk,fun j hj=>?_⟩;rw[h j hj];rfl
theorem qu1z{ts:List D}(h:∀j,j<ts.length->goodAt ts j=true):badO ts=none:=by
 unfold badO;rw[List.find?_eq_none];intro j hj;rw[h j (List.mem_range.mp hj)];decide
theorem qu2z{ts:List D}(h:badO ts=none):∀j,j<ts.length->goodAt ts j=true:=fun j hj=>by
 unfold badO at h;rw[List.find?_eq_none] at h;have:=h j (List.mem_range.mpr hj);simpa using this
theorem qcxz{ts:List D}{k:Nat}{t:D}(e:ts[k]?=some t):goodAt ts k=(clkB t&&(!inB (ts.take k) t&&decide (k<12))):=by
 unfold goodAt;rw[e]
theorem qu3z{c:Clk}(h:clkB (cD c)=true):Valid c/\c.1≤1000:=by
 have h':((decide (1≤c.1)&&decide (c.1≤1000))&&(decide (0≤c.2)&&decide (c.2<c.1)))=true:=h;rw[Bool.and_eq_true,Bool.and_eq_true,Bool.and_eq_true,decide_eq_true_iff,decide_eq_true_iff,decide_eq_true_iff,decide_eq_true_iff] at h';exact⟨⟨by omega,h'.2.1,h'.2.2⟩,h'.1.2⟩
structure Made(ts:List D)(cs:List Clk):Prop where
 eq:ts=cs.map cD
 ok:ClOk 1000 cs
 nd:cs.Nodup
 l:cs.length≤12
theorem qu4z{ts:List D}(h:badO ts=none):∃cs,Made ts cs:=by
 have hg:=qu2z h;have hall:ts.all clkB=true:=List.all_eq_true.mpr fun t ht=>by
  obtain⟨k,hk,e⟩:=List.getElem_of_mem ht;have:=hg k hk;rw[qcxz (List.getElem?_eq_getElem hk),Bool.and_eq_true,e] at this;exact this.1
 obtain⟨cs,rfl⟩:=qfnz hall;have hl:(cs.map cD).length=cs.length:=List.length_map ..;have hat:∀k (hk:k<cs.length),clkB (cD cs[k])=true/\cs[k]∉cs.take k/\k<12:=fun k hk=>by
  have:=hg k (by omega);rw[qcxz (t:=cD cs[k]) (by rw[List.getElem?_map,List.getElem?_eq_getElem hk];rfl),Bool.and_eq_true,Bool.and_eq_true,decide_eq_true_iff] at this;refine⟨this.1,fun hm=>?_,this.2.2⟩;have hi:inB ((cs.map cD).take k) (cD cs[k])=true:=by
   unfold inB;rw[←List.map_take,List.map_map,List.any_map,List.any_eq_true];refine⟨cs[k],hm,?_⟩;show (cX cs[k]).eqb (cX cs[k])=true;rw[qfez];simp
  rw[hi] at this;cases this.2.1
 refine⟨cs,rfl,fun c hc=>?_,?_,?_⟩
 ·obtain⟨k,hk,rfl⟩:=List.getElem_of_mem hc;exact qu3z (hat k hk).1
 ·refine List.pairwise_iff_getElem.mpr fun i j hi hj hij e=>(hat j hj).2.1 ?_;rw[←e];exact List.mem_take_iff_getElem.mpr ⟨i,by omega,rfl⟩
 ·refine Nat.le_of_not_lt fun w=>?_;have:=(hat 12 w).2.2;omega
theorem qu5z{ts:List D}{t:D}{p:Addr}{G:Gp}(hp:G p=some (.lst ts))(ht:∀x∈ts,Tr x)(h:Tr t){neg:Bool}{Q:V3}(q:Q (.bl (if neg then !inB ts t else inB ts t)) G):rIn3 neg t (.obj p) G Q:=by
 obtain⟨e1,e2⟩:=qcwz ht;exact⟨_,_,h.at_ G,.inl (qa4z hp e1),Nat.le_trans e2 (by decide),q⟩
def qcyz:SpX:=fun ds Q E=>∃ts:List D,ds=[.scr ts]/\(∀t∈ts,Tr t)/\ts.length≤100/\(∀cs cs',badO ts=none->Made ts cs->(∀z,z∈cs'↔z∈cs)->Rise cs'->cs'.length=cs.length->Q (csD cs') noG)/\∀k:Nat,badO ts=some k->E "NoClocks" [("number",(k:Int))]
def qu6z(E:E3):TS3:=sDrop (eM qcgz (eVar 1) (aCons (eVar 3) (aNil)))
def qu7z(E:E3):TS3:=sSeq (sIf (eOr (eNot (eTest (eCall qb2z (aCons (eVar 3) (aNil))))) (eOr (eTest (eOp (rIn3 false) (eVar 3) (eVar 1))) (eTest (eOp (rEq3 false) (eCB q1z (aCons (eVar 1) (aNil))) (eC (.int 12)))))) (sRaise "NoClocks" ["number"] E (aCons (eVar 2) (aNil))) (sNext)) (qu6z E)
def qu8z(E:E3):TS3:=sRet (eCB qbsz (aCons (eCB qbdz (aCons (eVar 1) (aNil))) (aNil)))
def qu9z(E:E3):TS3:=sSeq (sFor (iEnum (aCons (eVar 0) (aNil))) (hTup 2 (hCons (hName 2) (hCons (hName 3) (hNil)))) ((qu7z E))) (qu8z E)
def qj9z(E:E3):TS3:=sSeq (sAsg (eLst (aNil)) (hName 1)) (qu9z E)
theorem qvaz(ts:List D):enumD ts=((List.range ts.length).zip ts).map fun p=>D.tup [nD p.1,p.2]:=by
 have:=qubz (fun d:D=>d) ts;rwa [List.map_id'] at this
theorem qvbz{ts:List D}{s:Nat}{z:Nat×D}{zs:List (Nat×D)}(h:z::zs=((List.range ts.length).zip ts).drop s):z.1=s/\ts[s]?=some z.2/\zs=((List.range ts.length).zip ts).drop (s+1):=by
 have hl:s<((List.range ts.length).zip ts).length:=by
  refine Nat.lt_of_not_le fun w=>?_;rw[List.drop_eq_nil_of_le w] at h;cases h
 rw[List.drop_eq_getElem_cons hl,List.getElem_zip] at h;cases h;rw[List.length_zip,List.length_range] at hl;exact⟨List.getElem_range _,List.getElem?_eq_getElem (by omega),rfl⟩
theorem qvcz:∀ds Q E,qcyz ds Q E->qj9z E (endsOf Q) (start3 ["things","found","place","thing"] ds) noG:=by
 rintro ds Q E ⟨ts,rfl,ht,hl,q,qe⟩ q1 G1 n1;refine⟨ts,rfl,?_⟩;rw[qvaz];refine qcaz (fun ds τ G'=>∃(k:Nat) (x2 x3:Option D),k≤ts.length/\ds=(((List.range ts.length).zip ts).drop k).map (fun p=>D.tup [nD p.1,p.2])/\τ=[some (.scr ts),some (.obj q1),x2,x3]/\New noG q1 (.lst (ts.take k)) G'/\∀j,j<k->goodAt ts j=true) (fun _ _ _ _=>rfl) ?_ ?_ _ _ _ ⟨0,none,none,Nat.zero_le _,rfl,rfl,by rw[List.take_zero];exact n1,fun j hj=>absurd hj (by omega)⟩
 ·rintro d ds τ G' N ⟨k,x2,x3,hkl,e1,rfl,n2,hgood⟩ hN;cases hd:((List.range ts.length).zip ts).drop k with
  |nil=>rw[hd] at e1;cases e1
  |cons z zs=>
   rw[hd] at e1;cases e1;obtain⟨z1,z2,z3⟩:=qvbz hd.symm;obtain⟨zi,t⟩:=z;have z1:zi=k:=z1;subst z1;have z2:ts[zi]?=some t:=z2;have hk:zi<ts.length:=(List.getElem?_eq_some_iff.mp z2).1;have htm:t∈ts:=List.mem_of_getElem? z2;have htr:=ht t htm;have hgi:=qcxz z2;have htk:(ts.take zi).length=zi:=by rw[List.length_take];omega
   have h12:zi≤12:=by
    refine Nat.le_of_not_lt fun w=>?_;have:=hgood 12 w;rw[qcxz (List.getElem?_eq_getElem (by omega)),Bool.and_eq_true,Bool.and_eq_true,decide_eq_true_iff] at this;omega
   refine⟨rfl,t,rfl,htr.kn _,fun hc=>?_,fun hc=>?_⟩
   ·have hc':clkB t=false:=by simpa using hc
    exact⟨fun _=>⟨[(zi:Int)],rfl,rfl,qe zi (qfuz hk hgood (by rw[hgi,hc'];rfl))⟩,nofun⟩
   ·have hc':clkB t=true:=by simpa using hc
    obtain⟨e1,e2⟩:=qcwz fun x hx=>ht x (List.mem_of_mem_take (i:=zi) hx);refine⟨_,_,htr.at_ G',.inl (qa4z n2.at_ e1),Nat.le_trans e2 (by decide),fun hi=>?_,fun hi=>?_⟩
    ·have hi':inB (ts.take zi) t=true:=hi;exact⟨fun _=>⟨[(zi:Int)],rfl,rfl,qe zi (qfuz hk hgood (by rw[hgi,hi',hc'];rfl))⟩,nofun⟩
    ·have hi':inB (ts.take zi) t=false:=hi;refine⟨_,n2.at_,_,_,rfl,rfl,Nat.zero_le _,fun h=>?_,fun h=>?_⟩
     ·have h':((((ts.take zi).length:Nat):Int)==12)=true:=h;rw[htk] at h';have h':=eq_of_beq h';exact⟨[(zi:Int)],rfl,rfl,qe zi (qfuz hk hgood (by rw[hgi,decide_eq_false (by omega:¬zi<12),Bool.and_false,Bool.and_false]))⟩
     ·have h':((((ts.take zi).length:Nat):Int)==12)=false:=h;rw[htk] at h';have h':=ne_of_beq_false h';have hgk:goodAt ts zi=true:=by
       rw[hgi,hc',hi',decide_eq_true (by omega:zi<12)];rfl
      refine⟨⟨q1,_,rfl,n2.at_⟩,_,n2.at_,by rw[htk];exact Nat.lt_of_le_of_lt h12 (by decide),hN _ _ ⟨zi+1,_,_,by omega,by rw[z3],rfl,?_,fun j hj=>?_⟩⟩
      ·rw[List.take_add_one,z2];exact wrote n2
      ·rcases Nat.lt_or_ge j zi with w|w
       ·exact hgood j w
       ·have:j=zi:=by omega
        rw[this];exact hgk
 ·rintro τ G' ⟨k,x2,x3,hkl,e1,rfl,n2,hgood⟩;have hk:ts.length≤k:=by
   have:=congrArg List.length e1;rw[List.length_map,List.length_drop,List.length_zip,List.length_range] at this;have:0=min ts.length ts.length-k:=this;omega
  have hb:badO ts=none:=qu1z fun j hj=>hgood j (by omega);obtain⟨cs,hm⟩:=qu4z hb;have e:=hm.eq;rw[List.take_of_length_le hk,e] at n2;have hl12:=hm.l;refine⟨_,qcrz n2.at_,by rw[List.length_map];omega,qcqz,fun p1 mss G3 n3 hpm hr=>?_⟩;obtain⟨cs',rfl,hmem,hr,hlen⟩:=qjyz hpm hm.nd hr;rw[qb0z] at n3;exact⟨_,n3.at_,qcoz (qucz _) (q cs cs' hb hm hmem hr hlen)⟩
end My
namespace My
open PySem L2 L3
def qczz(rs:List Str):Sp3:=fun ds G Q=>∃(p:Addr) (fs:List (Str×Int)),ds=[.obj p]/\G p=some (.gen (excR "NoClocks" fs))/\("NoClocks":Str)∈rs/\∀G',Sub G G'->Q (.str "clocks") G'
def qvdz(rs:List Str):TS3:=sRet (eLstIx (aCons (eC (.str "clock")) (aCons (eC (.str "number")) (aCons (eC (.str "place")) (aCons (eC (.str "row")) (aCons (eC (.str "clocks")) (aCons (eC (.str "text")) (aCons (eC (.str "great")) (aNil)))))))) (eM qe8z (eVar 1) (aCons (eC (.bl true)) (aNil))))
def qvez(rs:List Str):TS3:=sSeq (sIf (eOr (eNot (eTest (eIsV rs (eVar 0)))) (eTest (eOp (rEq3 true) (eM qe7z (eVar 1) (aCons (eC (.bl true)) (aNil))) (eC (.int 1))))) (sRet (eC (.str "other"))) (sNext)) (qvdz rs)
def qvfz(rs:List Str):TS3:=sSeq (sAsg (eOp rAdd3 (eVar 1) (eLst (aCons (eIsX rs "NoClocks" (eVar 0)) (aCons (eIsX rs "NoText" (eVar 0)) (aCons (eIsX rs "TooGreat" (eVar 0)) (aNil)))))) (hName 1)) (qvez rs)
def qkaz(rs:List Str):TS3:=sSeq (sAsg (eLst (aCons (eIsX rs "NoClock" (eVar 0)) (aCons (eIsX rs "NoNumber" (eVar 0)) (aCons (eIsX rs "NoPlace" (eVar 0)) (aCons (eIsX rs "NoRow" (eVar 0)) (aNil)))))) (hName 1)) (qvfz rs)
theorem qvgz(rs:List Str):∀ds G Q,qczz rs ds G Q->qkaz rs (endsOf Q) (start3 ["e","marks"] ds) G:=by
 rintro ds G Q ⟨p,fs,rfl,hp,hr,q⟩;refine⟨_,_,hp,hr,_,_,hp,hr,_,_,hp,hr,_,_,hp,hr,fun p1 G1 n1=>?_⟩;have hp1:=n1.sub _ _ hp;refine⟨_,_,hp1,hr,_,_,hp1,hr,_,_,hp1,hr,fun p2 G2 n2=>?_⟩;have hp2:=n2.sub _ _ hp1;refine⟨_,_,n2.sub _ _ n1.at_,n2.at_,Nat.le_of_ble_eq_true rfl,fun p3 G3 n3=>?_⟩;have hp3:=n3.sub _ _ hp2;have s3:=(n1.sub.trans n2.sub).trans n3.sub;have e3:G3 p3=some (.lst [.bl false,.bl false,.bl false,.bl false,.bl true,.bl false,.bl false]):=n3.at_;refine⟨_,_,hp3,hr,fun h=>(nomatch h),fun _=>?_⟩;refine⟨⟨p3,_,rfl,e3⟩,_,[false,false,false,false,true,false,false],e3,rfl,_,_,rfl,rfl,Nat.zero_le _,fun h=>absurd h (by decide),fun _=>?_⟩;refine⟨⟨p3,_,rfl,e3⟩,_,[false,false,false,false,true,false,false],4,e3,rfl,rfl,fun i hi=>?_,by decide,.str "clocks",rfl,qiz (q G3 s3)⟩;have:i=0∨i=1∨i=2∨i=3:=by omega
 rcases this with rfl|rfl|rfl|rfl<;>rfl
theorem Tr.clk(c:Clk):Tr (cD c):=⟨fun G=>.clk c,cX c,rfl,by show (1:Nat)≤10;decide,by rw[qfez];simp⟩
structure Ths(ts:List D)(n:Nat):Prop where
 tr:∀t∈ts,Tr t
 l:ts.length≤n
def qc0z:Sp3:=fun ds G Q=>∃(p:Addr) (cs:List Clk),ds=[.obj p,csD cs]/\G p=some .pen/\cs.length≤12/\∀ts q G',Ths ts 12->New G q (.lst ts) G'->Q (.obj q) G'
def qvhz:TS3:=sDrop (eM qcgz (eVar 3) (aCons (eM qdiz (eVar 2) (aCons (eCall q4z (aCons (eVar 0) (aCons (eCB q1z (aCons (eVar 2) (aNil))) (aNil)))) (aNil))) (aNil)))
def qviz:TS3:=sRet (eVar 3)
def qvjz:TS3:=sSeq (sWhile (eTest (eOp (rEq3 true) (eVar 2) (eLst (aNil)))) (qvhz)) qviz
def qvkz:TS3:=sSeq (sAsg (eLst (aNil)) (hName 3)) qvjz
def qkbz:TS3:=sSeq (sAsg (eCB qcfz (aCons (eVar 1) (aNil))) (hName 2)) qvkz
theorem qvlz:∀ds G Q,qc0z ds G Q->qkbz (endsOf Q) (start3 ["pen","things","left","found"] ds) G:=by
 rintro ds G Q ⟨p,cs,rfl,hp,hl,q⟩;intro q2 G2 n2 q3 G3 n3;have h32:q2≠q3:=fun z=>by
  have:=n3.non;rw[←z,n2.at_] at this;cases this
 refine⟨fun m τ G'=>∃as bs:List Clk,τ=[some (.obj p),some (csD cs),some (.obj q2),some (.obj q3)]/\Sub G G'/\G q3=none/\G q2=none/\G' q2=some (.lst (as.map cD))/\G' q3=some (.lst (bs.map cD))/\as.length=m/\as.length+bs.length≤12,⟨cs.length,cs,[],rfl,n2.sub.trans n3.sub,n2.sub.of_none n3.non,n2.non,n3.sub _ _ n2.at_,n3.at_,rfl,by simpa using hl⟩,?_⟩;rintro m τ G4 ⟨as,bs,rfl,s4,g3,g2,e2,e3,hm,hab⟩;intro p5 G5 n5;have s5:=s4.trans n5.sub;have e25:=n5.sub _ _ e2;have e35:=n5.sub _ _ e3;refine⟨_,_,qa4z e25 (qfcz _),qa4z n5.at_ rfl,qtjz _,fun h=>?_,fun h=>?_⟩
 ·have h':(!((Dat.D.lst (as.map cX)).eqb (.lst [])))=true:=h;rw[qjlz] at h';have hpos:1≤as.length:=by
   cases as with
   |nil=>cases h'
   |cons a as=>simp
  refine⟨⟨q3,_,rfl,e35⟩,⟨q2,_,rfl,e25⟩,_,e25,p,_,rfl,s5 _ _ hp,⟨by rw[List.length_map];omega,qqz (by rw[List.length_map];omega) (by rw[List.length_map];omega)⟩,fun r r0 r1=>?_⟩;rw[List.length_map] at r1;obtain⟨c,ec,hc,_⟩:=qbzz cD r0 r1;refine⟨_,r.toNat,cD c,e25,⟨by omega,by omega⟩,by rw[List.length_map];exact qfgz r0 r1,by rw[List.getElem?_map,ec];rfl,?_⟩;rw[qdxz];have hlen:(as.eraseIdx r.toNat).length=as.length-1:=List.length_eraseIdx_of_lt (by omega);have e36:upd3 G5 q2 (.lst ((as.eraseIdx r.toNat).map cD)) q3=some (.lst (bs.map cD)):=by
   rw[q5z (fun z=>h32 z.symm)];exact e35
  refine⟨_,e36,by rw[List.length_map];exact Nat.lt_of_le_of_lt (show bs.length≤12 by omega) (by decide),m-1,by omega,as.eraseIdx r.toNat,bs++[c],rfl,?_,g3,g2,?_,?_,by omega,by rw[List.length_append,List.length_singleton];omega⟩
  ·exact Sub.updN (Sub.updN s5 g2) g3
  ·rw[q5z h32,qabz]
  ·rw[qabz,List.map_append];rfl
 ·refine qiz (q (bs.map cD) q3 G5 ⟨fun t ht=>?_,by rw[List.length_map];omega⟩ ⟨g3,s5,e35⟩);obtain⟨c,_,rfl⟩:=List.mem_map.mp ht;exact Tr.clk c
def qblz:Sp3:=fun ds G Q=>∃(p q:Addr) (ts:List D),ds=[.obj q,.obj p]/\G p=some .pen/\G q=some (.lst ts)/\Ths ts 20/\∀us q' G',Ths us (ts.length+1)->Sub G G'->G' q'=some (.lst us)->Q (.obj q') G'
def qvmz:TS3:=sRet (eOp rAdd3 (eOp rAdd3 (eSl (eVar 0) (oNone) (oSome (eVar 2))) (eLst (aCons (eOp rIx3 (eVar 4) (eCall q4z (aCons (eVar 1) (aCons (eC (.int 12)) (aNil))))) (aNil)))) (eSl (eVar 0) (oSome (eOp rAdd3 (eVar 2) (eCall q4z (aCons (eVar 1) (aCons (eC (.int 2)) (aNil)))))) (oNone)))
def qkcz:TS3:=sSeq (sAsg (eLst (aCons (eVar 3) (aCons (eVar 3) (aCons (eTup (aCons (eC (.int 0)) (aCons (eC (.int 0)) (aNil)))) (aCons (eTup (aCons (eC (.int 3)) (aCons (eC (.int 3)) (aNil)))) (aCons (eTup (aCons (eC (.int 3)) (aCons (eUn rNeg3 (eC (.int 1))) (aNil)))) (aCons (eTup (aCons (eC (.bl true)) (aCons (eC (.int 0)) (aNil)))) (aCons (eTup (aCons (eC (.int 2)) (aCons (eC (.bl false)) (aNil)))) (aCons (eFrz (eLst (aCons (eC (.int 2)) (aCons (eC (.int 1)) (aNil))))) (aCons (eC .non) (aCons (eTup (aCons (eC (.int 2)) (aNil))) (aCons (eC (.int 7)) (aCons (eTup (aCons (eC (.int 1001)) (aCons (eC (.int 4)) (aNil)))) (aNil)))))))))))))) (hName 4)) qvmz
def qvnz:TS3:=sSeq (sIf (eTest (eOp (rEq3 true) (eVar 0) (eLst (aNil)))) (sAsg (eOp rIx3 (eVar 0) (eCall q4z (aCons (eVar 1) (aCons (eCB q1z (aCons (eVar 0) (aNil))) (aNil))))) (hName 3)) (sNext)) qkcz
def qvoz:TS3:=sSeq (sAsg (eTup (aCons (eC (.int 5)) (aCons (eC (.int 5)) (aNil)))) (hName 3)) qvnz
def qkdz:TS3:=sSeq (sAsg (eCall q4z (aCons (eVar 1) (aCons (eOp rAdd3 (eCB q1z (aCons (eVar 0) (aNil))) (eC (.int 1))) (aNil)))) (hName 2)) qvoz
theorem qb5z{a b:D}(ha:∀G,KnD G a)(hb:∀G,KnD G b):∀G,KnD G (.tup [a,b]):=fun G=>.two (ha G) (hb G)
theorem qvpz{t:D}(ht:Tr t):∀x∈[t,t,.tup [.int 0,.int 0],.tup [.int 3,.int 3],.tup [.int 3,.int (-1)],.tup [.bl true,.int 0],.tup [.int 2,.bl false],.scr [.int 2,.int 1],.non,.tup [.int 2],.int 7,.tup [.int 1001,.int 4]],Tr x:=fun x hx=>by
 simp only[List.mem_cons,List.not_mem_nil,or_false] at hx;rcases hx with rfl|rfl|rfl|rfl|rfl|rfl|rfl|rfl|rfl|rfl|rfl|rfl
 ·exact ht
 ·exact ht
 ·exact⟨qb5z (fun _=>.int _) (fun _=>.int _),_,rfl,by decide,by decide⟩
 ·exact⟨qb5z (fun _=>.int _) (fun _=>.int _),_,rfl,by decide,by decide⟩
 ·exact⟨qb5z (fun _=>.int _) (fun _=>.int _),_,rfl,by decide,by decide⟩
 ·exact⟨qb5z (fun _=>.bl _) (fun _=>.int _),_,rfl,by decide,by decide⟩
 ·exact⟨qb5z (fun _=>.int _) (fun _=>.bl _),_,rfl,by decide,by decide⟩
 ·exact⟨fun G n=>by cases n<;>trivial,_,rfl,by decide,by decide⟩
 ·exact⟨fun _=>.non,_,rfl,by decide,by decide⟩
 ·exact⟨fun _=>.one (.int _),_,rfl,by decide,by decide⟩
 ·exact⟨fun _=>.int _,_,rfl,by decide,by decide⟩
 ·exact⟨qb5z (fun _=>.int _) (fun _=>.int _),_,rfl,by decide,by decide⟩
theorem qkez{G G1:Gp}{Q:V3}{p q:Addr}{ts:List D}{k:Nat}{t:D}(hp:G p=some .pen)(hq:G q=some (.lst ts))(h:Ths ts 20)(hk:k≤ts.length)(ht:Tr t)(s1:Sub G G1)(qq:∀us q' G',Ths us (ts.length+1)->Sub G G'->G' q'=some (.lst us)->Q (.obj q') G'):
  qkcz (endsOf Q) [some (.obj q),some (.obj p),some (.int k),some t,none] G1:=by
 have hl:=h.l;intro a1 K1 o1;refine⟨_,o1.at_,?_⟩;intro a2 K2 o2;have sK:Sub G K2:=s1.trans (o1.del.trans o2.sub);have hq2:=sK _ _ hq;refine⟨_,hq2,fun a3 K3 o3=>?_⟩;refine⟨p,12,rfl,o3.sub _ _ (sK _ _ hp),⟨by decide,qqz (by decide) (by decide)⟩,fun r r0 r12=>?_⟩;obtain⟨x,_,hx,ex⟩:=qbzz (fun d:D=>d) (xs:=[t,t,.tup [.int 0,.int 0],.tup [.int 3,.int 3],.tup [.int 3,.int (-1)],.tup [.bl true,.int 0],.tup [.int 2,.bl false],.scr [.int 2,.int 1],.non,.tup [.int 2],.int 7,.tup [.int 1001,.int 4]]) r0 r12;rw[List.map_id'] at ex;have hxt:=qvpz ht x hx;refine⟨_,x,o3.sub _ _ o2.at_,ex,fun a4 K4 o4=>?_⟩;have c1:cut3 ts none (some (k:Int))=ts.take k:=qdvz ts k;rw[c1] at o3;refine⟨_,_,o4.sub _ _ o3.at_,o4.at_,?_,fun a5 K5 o5=>?_⟩
 ·rw[List.length_take];exact line1000 (by show min k ts.length+1≤1000;omega)
 have s5:Sub G K5:=sK.trans (o3.sub.trans (o4.sub.trans o5.sub));refine⟨p,2,rfl,s5 _ _ hp,⟨by decide,qqz (by decide) (by decide)⟩,fun u u0 u2=>⟨_,s5 _ _ hq,fun a6 K6 o6=>?_⟩⟩;obtain⟨j,hj⟩:∃j:Nat,(k:Int)+u=(j:Int):=⟨k+u.toNat,by omega⟩;have c2:cut3 ts (some ((k:Int)+u)) none=ts.drop j:=by
  rw[hj];exact qtlz ts j
 rw[c2] at o6;refine⟨_,_,o6.sub _ _ o5.at_,o6.at_,?_,fun a7 K7 o7=>?_⟩
 ·rw[List.length_append,List.length_take,List.length_drop];exact line1000 (by show min k ts.length+1+(ts.length-j)≤1000;omega)
 refine qiz (qq _ a7 K7 ⟨fun y hy=>?_,?_⟩ (s5.trans (o6.sub.trans o7.sub)) o7.at_)
 ·rcases List.mem_append.mp hy with hy|hy
  ·rcases List.mem_append.mp hy with hy|hy
   ·exact h.tr y (List.mem_of_mem_take hy)
   ·rw[List.mem_singleton.mp hy];exact hxt
  ·exact h.tr y (List.mem_of_mem_drop hy)
 ·rw[List.length_append,List.length_append,List.length_take,List.length_drop];show min k ts.length+1+(ts.length-j)≤ts.length+1;omega
theorem qvqz:∀ds G Q,qblz ds G Q->qkdz (endsOf Q) (start3 ["things","pen","spot","again","odd"] ds) G:=by
 rintro ds G Q ⟨p,q,ts,rfl,hp,hq,h,qq⟩;have hl:=h.l;refine⟨_,hq,p,_,rfl,hp,⟨by omega,qqz (by omega) (by omega)⟩,fun k k0 k1=>?_⟩;obtain⟨k,rfl⟩:∃j:Nat,k=(j:Int):=⟨k.toNat,by omega⟩;intro p1 G1 n1;obtain⟨e1,e2⟩:=qcwz h.tr;refine⟨_,_,qa4z (n1.sub _ _ hq) e1,qa4z n1.at_ rfl,?_,fun hne=>?_,fun _=>qkez hp hq h (by omega) (Tr.clk (5,5)) n1.sub qq⟩
 ·show Dat.deps (ts.map datOf)+1≤50;omega
 ·have h':(!((Dat.D.lst (ts.map datOf)).eqb (.lst [])))=true:=hne;rw[qjlz] at h';have hpos:1≤ts.length:=by
   cases ts with
   |nil=>cases h'
   |cons a as=>simp
  refine⟨_,n1.sub _ _ hq,p,_,rfl,n1.sub _ _ hp,⟨by omega,qqz (by omega) (by omega)⟩,fun r r0 r1=>?_⟩;obtain⟨x,_,hx,ex⟩:=qbzz (fun d:D=>d) (xs:=ts) r0 r1;rw[List.map_id'] at ex;exact⟨_,x,n1.sub _ _ hq,ex,qkez hp hq h (by omega) (h.tr x hx) n1.sub qq⟩
end My
namespace My
open PySem L2 L3
theorem qkfz:∀{ds:List D},(∀d∈ds,noScr d=true)->noScrs ds=true
 |[],_=>by simp[noScrs]
 |d::ds,h=>by simp[noScrs,h d List.mem_cons_self,qkfz fun e he=>h e (List.mem_cons_of_mem _ he)]
theorem qvrz(cs:List Clk):noScr (csD cs)=true:=by
 show noScr (.tup (cs.map cD))=true;rw[noScr];refine qkfz fun d hd=>?_;obtain⟨c,_,rfl⟩:=List.mem_map.mp hd;show noScr (.tup [.int c.1,.int c.2])=true;simp[noScr,noScrs]
theorem qvsz{c:Clk}(hv:Valid c)(h:c.1≤1000):clkB (cD c)=true:=by
 obtain⟨h1,h2,h3⟩:=hv;show ((decide (1≤c.1)&&decide (c.1≤1000))&&(decide (0≤c.2)&&decide (c.2<c.1)))=true;rw[decide_eq_true (show 1≤c.1 by omega),decide_eq_true h,decide_eq_true h2,decide_eq_true h3];rfl
theorem qvtz{a b:Clk}(h:cLt a b):ltC (a,b)=true:=by
 obtain⟨s,r⟩:=a;obtain⟨s',r'⟩:=b;show (if s=s' then (if r=r' then false else decide (r<r')) else decide (s<s'))=true;rcases h with h|⟨h1,h2⟩
 ·have h:s<s':=h;rw[if_neg (by omega),decide_eq_true h]
 ·have h1:s=s':=h1;have h2:r<r':=h2;rw[if_pos h1,if_neg (by omega),decide_eq_true h2]
theorem qkgz:∀{cs:List Clk},Rise cs->adjA cs=true
 |[],_=>rfl
 |[c],_=>rfl
 |a::b::cs,h=>by
  show (ltC (a,b)&&adjA (b::cs))=true;have h':=List.pairwise_cons.mp h;rw[qvtz (h'.1 b List.mem_cons_self),qkgz (cs:=b::cs) h'.2];rfl
theorem qvuz{cs:List Clk}(ok:ClOk 1000 cs)(hl:cs.length≤12)(hr:Rise cs):clksB (csD cs)=true:=by
 show (decide ((cs.map cD).length≤12)&&((cs.map cD).all clkB&&adjA ((cs.map cD).map clkOf)))=true;rw[qjzz,qkgz hr,List.length_map,decide_eq_true hl,List.all_map];have:cs.all (clkB ∘ cD)=true:=List.all_eq_true.mpr fun c hc=>qvsz (ok c hc).1 (ok c hc).2;rw[this];rfl
def dueO(ts:List D)(i:Nat):Option Nat:=(List.range i).find? fun k=>!goodAt ts k
theorem qvvz(ts:List D)(i:Nat):dueO ts (i+1)=if (dueO ts i).isNone && !goodAt ts i then some i else dueO ts i:=by
 unfold dueO;rw[List.range_succ,List.find?_append];cases h:(List.range i).find? fun k=>!goodAt ts k with
 |some k=>rfl
 |none=>
  cases hg:goodAt ts i with
  |true=>simp[List.find?,hg]
  |false=>simp[List.find?,hg]
theorem qfvz(o:Option Nat):isNon (oN o)=o.isNone:=by cases o<;>rfl
def oX:Option Nat->Dat.D
 |none=>.non
 |some x=>.int x
theorem qkhz{G:Gp}(o:Option Nat):toDat G (oN o)=some (oX o):=by cases o<;>rfl
theorem qvwz(o:Option Nat):(oX o).dep≤50:=by cases o<;>exact Nat.zero_le _
theorem qvxz(o:Option Nat):(oX o).eqb (oX o)=true:=by
 cases o with
 |none=>rfl
 |some x=>
  show (((x:Int))==(x:Int))=true;exact beq_self_eq_true _
def qalz:Sp3:=fun ds G Q=>∃(q:Addr) (ts:List D),ds=[.obj q]/\G q=some (.lst ts)/\Ths ts 22/\∀G',Sub G G'->Q (.bl true) G'
def qvyz(rs:List Str):TS3:=sAsg (eFldR rs "number" (eVar 7)) (hName 5)
def qvzz(rs:List Str):TS3:=sRet (eOrV (eOp (rIs3 true) (eVar 1) (eC .non)) (eAndV (eCall qcvz (aCons (eVar 6) (aNil))) (eOp (rEq3 false) (eVar 6) (eCB qbsz (aCons (eCB qbdz (aCons (eVar 0) (aNil))) (aNil))))))
def qfwz(rs:List Str):TS3:=sSeq (sDrop (eM qcgz (eVar 4) (aCons (eC .non) (aNil)))) (qvzz rs)
def qv0z(rs:List Str):TS3:=sSeq (sIf (eOr (eTest (eOp (rEq3 true) (eCall (qczz rs) (aCons (eVar 7) (aNil))) (eC (.str "clocks")))) (eNot (eTest (eCall qbkz (aCons (eFldR rs "number" (eVar 7)) (aNil)))))) (sRet (eC (.bl false))) (sNext)) (qvyz rs)
def qkiz(rs:List Str):TS3:=sIf (eAnd (eTest (eOp (rIs3 false) (eVar 1) (eC .non))) (eNot (eTest (eVar 3)))) (sAsg (eVar 2) (hName 1)) (sNext)
def qv1z(rs:List Str):TS3:=sSeq (sAsg (eAndV (eCall qb4z (aCons (eOp rIx3 (eVar 0) (eVar 2)) (aNil))) (eAndV (eOp (rIn3 true) (eOp rIx3 (eVar 0) (eVar 2)) (eSl (eVar 0) (oNone) (oSome (eVar 2)))) (eOp rLtT3 (eVar 2) (eC (.int 12))))) (hName 3)) (qkiz rs)
def qv2z(rs:List Str):TS3:=sTryN rs 7 (sxAsg 6 (exCallL qcyz (aCons (eVar 4) (aNil))) (sxNext)) (fun _=>(qv0z rs)) (sSeq (sIf (eOr (eTest (eOp (rEq3 true) (eVar 4) (eVar 0))) (eTest (eOp (rEq3 true) (eVar 5) (eVar 1)))) (sRet (eC (.bl false))) (sNext)) (qfwz rs))
def qv3z(rs:List Str):TS3:=sSeq (sAsg (eC .non) (hName 6)) (qv2z rs)
def qv4z(rs:List Str):TS3:=sSeq (sAsg (eC .non) (hName 5)) (qv3z rs)
def qkjz(rs:List Str):TS3:=sSeq (sAsg (eCB qcfz (aCons (eVar 0) (aNil))) (hName 4)) (qv4z rs)
def qv5z(rs:List Str):TS3:=sSeq (sFor (iRng1 (aCons (eCB q1z (aCons (eVar 0) (aNil))) (aNil))) (hName 2) ((qv1z rs))) (qkjz rs)
def qkkz(rs:List Str):TS3:=sSeq (sAsg (eC .non) (hName 1)) (qv5z rs)
theorem qv6z{rs:List Str}{G K:Gp}{Q:V3}{q q4:Addr}{ts:List D}{o:Option Nat}{num told:D}(hq:G q=some (.lst ts))(h:Ths ts 22)(ho:o=badO ts)(s:Sub G K)(e4:K q4=some (.lst ts))(g4:G q4=none)(ht:o=none->∃cs',told=csD cs'/\∃cs,Made ts cs/\(∀z,z∈cs'↔z∈cs)/\Rise cs'/\cs'.length=cs.length)(qq:∀G',Sub G G'->Q (.bl true) G')(x2 x3:Option D):
  qfwz rs (endsOf Q) [some (.obj q),some (oN o),x2,x3,some (.obj q4),some num,some told,none] K:=by
 have hl:=h.l;refine⟨⟨q4,_,rfl,e4⟩,_,e4,Nat.lt_of_le_of_lt hl (by decide),?_⟩;have s2:Sub G (upd3 K q4 (.lst (ts++[.non]))):=Sub.updN s g4;have hne:q≠q4:=fun z=>by
  rw[z,g4] at hq;cases hq
 refine⟨fun _=>qiz (qq _ s2),fun hn=>?_⟩;have hn':(!isNon (oN o))=false:=hn;rw[qfvz] at hn';have e:o=none:=by
  cases o with
  |none=>rfl
  |some k=>cases hn'
 obtain⟨cs',rfl,cs,hm,hmem,hr,hlen⟩:=ht e;have ok':ClOk 1000 cs':=fun c hc=>hm.ok c ((hmem c).mp hc);have hc12:=hm.l;refine⟨csD cs',rfl,.clks cs',?_⟩;rw[qvuz ok' (by omega) hr];refine⟨fun _=>?_,nofun⟩;have hq2:upd3 K q4 (.lst (ts++[.non])) q=some (.lst (cs.map cD)):=by
  rw[q5z hne,←hm.eq];exact s _ _ hq
 refine⟨_,qcrz hq2,by rw[List.length_map];omega,qcqz,fun p1 mss G3 n3 hpm hr2=>?_⟩;obtain⟨cs2,rfl,hm2,hr3,hl3⟩:=qjyz hpm hm.nd hr2;rw[qb0z] at n3;have e2:cs2=cs':=qufz hr3 hr fun z=>(hm2 z).trans (hmem z).symm;subst e2;refine⟨_,n3.at_,_,_,qj1z _,qj1z _,qudz _,?_⟩;show (endsOf Q).rt (.bl ((Dat.D.tup (cs2.map cX)).eqb (.tup (cs2.map cX)))) G3;rw[quez];exact qiz (qq _ (s2.trans n3.sub))
theorem qklz{rs:List Str}{G K:Gp}{Q:V3}{q q4:Addr}{ts:List D}{o:Option Nat}{told:D}(hq:G q=some (.lst ts))(h:Ths ts 22)(ho:o=badO ts)(s:Sub G K)(e4:K q4=some (.lst ts))(g4:G q4=none)(ht:o=none->∃cs',told=csD cs'/\∃cs,Made ts cs/\(∀z,z∈cs'↔z∈cs)/\Rise cs'/\cs'.length=cs.length)(qq:∀G',Sub G G'->Q (.bl true) G')(x2 x3:Option D):
  (sSeq (sIf (eOr (eTest (eOp (rEq3 true) (eVar 4) (eVar 0))) (eTest (eOp (rEq3 true) (eVar 5) (eVar 1)))) (sRet (eC (.bl false))) (sNext)) (qfwz rs)) (endsOf Q) [some (.obj q),some (oN o),x2,x3,some (.obj q4),some (oN o),some told,none] K:=by
 obtain⟨e1,e2⟩:=qcwz h.tr;refine⟨_,_,qa4z e4 e1,qa4z (s _ _ hq) e1,?_,fun hne=>?_,fun _=>⟨_,_,qkhz o,qkhz o,qvwz o,fun hne=>?_,fun _=>qv6z hq h ho s e4 g4 ht qq x2 x3⟩⟩
 ·show Dat.deps (ts.map datOf)+1≤50;omega
 ·have h':(!(Dat.eqbs (ts.map datOf) (ts.map datOf)))=true:=hne;rw[qj8z h.tr] at h';cases h'
 ·have h':(!((oX o).eqb (oX o)))=true:=hne;rw[qvxz] at h';cases h'
theorem qv7z:∀ds G Q,qalz ds G Q->qkkz ["NoClocks"] (endsOf Q) (start3 ["things","due","spot","good","handed","number","told","e"] ds) G:=by
 rintro ds G Q ⟨q,ts,rfl,hq,h,qq⟩;have hr:("NoClocks":Str)∈(["NoClocks"]:List Str):=by simp
 have hl:=h.l;refine⟨_,hq,⟨by omega,by omega⟩,?_⟩;show forGo _ _ _ _ (rngL 0 ((ts.length:Nat):Int).toNat) _ _;rw[Int.toNat_natCast,rng0];refine qcaz (fun ds τ G'=>Sub G G'/\∃(i:Nat) (x2 x3:Option D),i≤ts.length/\ds=((List.range ts.length).drop i).map nD/\τ=[some (.obj q),some (oN (dueO ts i)),x2,x3,none,none,none,none]) (fun _ _ _ _=>trivial) ?_ ?_ _ _ _ ⟨Sub.refl _,0,none,none,Nat.zero_le _,rfl,rfl⟩
 ·rintro d ds τ G1 N ⟨s1,i,x2,x3,hi,e1,rfl⟩ hN;by_cases hlt:i<ts.length
  ·rw[List.drop_eq_getElem_cons (by rw[List.length_range];exact hlt),List.map_cons,List.getElem_range] at e1;cases e1;have et:ts[i]?=some ts[i]:=List.getElem?_eq_getElem hlt;have htr:Tr ts[i]:=h.tr _ (List.getElem_mem hlt);have hix:atI ts (i:Int)=some ts[i]:=qc6z et;have hq1:=s1 _ _ hq;have fin:∀G2,Sub G G2->∀b,b=goodAt ts i->qkiz ["NoClocks"] { endsOf Q with nx:=N,ct:=N,bk:=qkjz ["NoClocks"] (endsOf Q)} [some (.obj q),some (oN (dueO ts i)),some (nD i),some (.bl b),none,none,none,none] G2:=by
    rintro G2 s2 b rfl;have ed:=qvvz ts i;refine⟨fun hc=>⟨fun hg=>?_,fun hg=>?_⟩,fun hc=>⟨nofun,fun _=>?_⟩⟩
    ·have hc':isNon (oN (dueO ts i))=true:=hc;rw[qfvz] at hc';have hg':(!goodAt ts i)=true:=hg;rw[hc',hg'] at ed;refine hN _ _ ⟨s2,i+1,some (nD i),some (.bl (goodAt ts i)),hlt,rfl,?_⟩;rw[ed];rfl
    ·have hg':(!goodAt ts i)=false:=hg;rw[hg',Bool.and_false] at ed;refine hN _ _ ⟨s2,i+1,some (nD i),some (.bl (goodAt ts i)),hlt,rfl,?_⟩;rw[ed];rfl
    ·have hc':isNon (oN (dueO ts i))=false:=hc;rw[qfvz] at hc';rw[hc',Bool.false_and] at ed;refine hN _ _ ⟨s2,i+1,some (nD i),some (.bl (goodAt ts i)),hlt,rfl,?_⟩;rw[ed];rfl
   have hgi:=qcxz et;refine⟨_,_,hq1,hix,_,rfl,htr.kn _,fun hc=>⟨_,_,hq1,hix,_,hq1,fun p2 G2 n2=>?_⟩,fun hc=>fin G1 s1 _ (by rw[hgi,hc];rfl)⟩;have ec:cut3 ts none (some ((i:Nat):Int))=ts.take i:=qdvz ts i;rw[ec] at n2;refine qu5z n2.at_ (fun x hx=>h.tr x (List.mem_of_mem_take hx)) htr ?_;refine⟨fun hb=>fin G2 (s1.trans n2.sub) _ ?_,fun hb=>fin G2 (s1.trans n2.sub) _ ?_⟩
   ·have hb':(!inB (ts.take i) ts[i])=true:=hb;rw[hgi,hc,hb'];show decide ((i:Int)<12)=(true&&(true&&decide (i<12)));rw[Bool.true_and,Bool.true_and];exact decide_eq_decide.mpr (by omega)
   ·have hb':(!inB (ts.take i) ts[i])=false:=hb;rw[hgi,hc,hb'];rfl
  ·rw[List.drop_eq_nil_of_le (by rw[List.length_range];omega)] at e1;cases e1
 ·rintro τ G1 ⟨s1,i,x2,x3,hi,e1,rfl⟩;have hi2:i=ts.length:=by
   have:=congrArg List.length e1;simp at this;omega
  subst hi2;refine⟨_,s1 _ _ hq,fun q4 G2 n2=>?_⟩;have g4:G q4=none:=s1.of_none n2.non;have s2:=s1.trans n2.sub;refine⟨ts,by rw[List.map_cons,List.map_nil,qj4z n2.at_],h.tr,by omega,fun cs cs' hb hm hmem hr2 hlen=>⟨qvrz cs',NoScr.no,fun G3 j3=>?_⟩,fun k hb=>⟨by simp,fun p7 G7 n7=>?_⟩⟩
  ·have e:dueO ts ts.length=none:=hb;rw[e];exact qklz (o:=none) hq h hb.symm (s2.trans j3.old) (j3.old _ _ n2.at_) g4 (fun _=>⟨cs',rfl,cs,hm,hmem,hr2,hlen⟩) qq _ _
  ·have e:dueO ts ts.length=some k:=hb;rw[e];refine⟨p7,_,rfl,n7.at_,hr,fun G8 s8=>⟨_,_,rfl,rfl,Nat.zero_le _,fun hne=>absurd hne (by decide),fun _=>?_⟩⟩;have e8:=s8 _ _ n7.at_;refine⟨_,_,_,e8,hr,rfl,trivial,nofun,fun _=>⟨_,_,_,e8,hr,rfl,?_⟩⟩;exact qklz (o:=some k) hq h hb.symm (s2.trans (n7.sub.trans s8)) (s8 _ _ (n7.sub _ _ n2.at_)) g4 nofun qq _ _
end My
namespace My
open PySem L2 L3
def sp_law:Sp3:=fun ds G Q=>∃ns:List Int,ds=[.scr (ns.map .int)]/\ns.length≤63/\Q (.bl true) G
def qv8z:TS3:=sIf (eNot (eTest (eCall qalz (aCons (eCall qblz (aCons (eCall qblz (aCons (eVar 4) (aCons (eVar 3) (aNil)))) (aCons (eVar 3) (aNil)))) (aNil))))) (sRet (eC (.bl false))) (sNext)
def qv9z:TS3:=sSeq (sIf (eOr (eNot (eTest (eCall qalz (aCons (eVar 4) (aNil))))) (eNot (eTest (eCall qalz (aCons (eCall qblz (aCons (eVar 4) (aCons (eVar 3) (aNil)))) (aNil)))))) (sRet (eC (.bl false))) (sNext)) qv8z
def qwaz:TS3:=sSeq (sAsg (eCall qc0z (aCons (eVar 3) (aCons (eCall qctz (aCons (eVar 3) (aCons (eC (.int 12)) (aNil)))) (aNil)))) (hName 4)) qv9z
def qwbz:TS3:=sSeq (sAsg (eCall qfbz (aCons (eVar 2) (aNil))) (hName 3)) qwaz
def qwcz:TS3:=sRet (eC (.bl true))
def qwdz:TS3:=sSeq (sFor (iSeq (eOp rAdd3 (eLst (aCons (eCall qcpz (aCons (eVar 0) (aCons (eC (.int 0)) (aNil)))) (aNil))) (eSl (eVar 0) (oSome (eC (.int 1))) (oSome (eC (.int 5)))))) (hName 2) (qwbz)) qwcz
def qwez:TS3:=sSeq (sIf (eOr (eNot (eTest (eCall qalz (aCons (eLst (aNil)) (aNil))))) (eOr (eNot (eTest (eCall qalz (aCons (eVar 1) (aNil))))) (eOr (eNot (eTest (eCall qalz (aCons (eSl (eVar 1) (oNone) (oSome (eC (.int 12)))) (aNil))))) (eNot (eTest (eCall qalz (aCons (eOp rAdd3 (eSl (eVar 1) (oNone) (oSome (eC (.int 12)))) (eLst (aCons (eC .non) (aNil)))) (aNil)))))))) (sRet (eC (.bl false))) (sNext)) qwdz
def qkmz:TS3:=sSeq (sAsg (eComp ["k"] [] (iRng1 (aCons (eC (.int 14)) (aNil))) (hName 0) (tNoTest3) (eTup (aCons (eC (.int 17)) (aCons (eVar 0) (aNil))))) (hName 1)) qwez
def manyC:List Clk:=(List.range 14).map fun k:Nat=>((17:Int),(k:Int))
theorem qfxz{cs:List Clk}{n:Nat}(h:cs.length≤n):Ths (cs.map cD) n:=⟨fun t ht=>by
 obtain⟨c,_,rfl⟩:=List.mem_map.mp ht;exact Tr.clk c,by rw[List.length_map];exact h⟩
theorem Ths.up{ts:List D}{n m:Nat}(h:Ths ts n)(hm:n≤m):Ths ts m:=⟨h.tr,Nat.le_trans h.l hm⟩
theorem Tr.non:Tr .non:=⟨fun _=>.non,_,rfl,by decide,by decide⟩
theorem qwfz:∀ds G Q,sp_law ds G Q->qkmz (endsOf Q) (start3 ["script","many","cell","pen","good"] ds) G:=by
 rintro ds G Q ⟨ns,rfl,hl,q⟩;refine⟨⟨by decide,by decide⟩,line1000 (by decide),?_⟩;show compGo _ _ _ _ _ (rngL 0 14) _ _ _;rw[rng0];refine qbyz (fun τ=>∃x,τ=[x]) nD (fun _=>true) (fun k=>cD ((17:Int),(k:Int))) (G:=G) trivial (List.range 14) [] _ ⟨none,rfl⟩ ?_ ?_
 ·rintro k hm τ K1 K2 ⟨x,rfl⟩ g1 g2;exact⟨fun _=>g1 rfl _ ⟨_,rfl⟩,nofun⟩
 intro a1 G1 n1;rw[filter_all,List.nil_append] at n1;have e1:G1 a1=some (.lst (manyC.map cD)):=by
  rw[n1.at_];unfold manyC;rw[List.map_map];rfl
 have hlm:manyC.length=14:=rfl;have c12:cut3 (manyC.map cD) none (some (12:Int))=(manyC.take 12).map cD:=by
  rw[List.map_take];exact qdvz (manyC.map cD) 12
 intro a2 G2 n2;refine⟨a2,[],rfl,n2.at_,⟨nofun,Nat.zero_le _⟩,fun G3 s3=>⟨nofun,fun _=>?_⟩⟩;have e3:=s3 _ _ (n2.sub _ _ e1);refine⟨a1,_,rfl,e3,qfxz (by decide),fun G4 s4=>⟨nofun,fun _=>?_⟩⟩;refine⟨_,s4 _ _ e3,fun a5 G5 n5=>?_⟩;rw[c12] at n5;refine⟨a5,_,rfl,n5.at_,qfxz (by decide),fun G6 s6=>⟨nofun,fun _=>?_⟩⟩;refine⟨_,s6 _ _ (n5.sub _ _ (s4 _ _ e3)),fun a7 G7 n7=>?_⟩;rw[c12] at n7;intro a8 G8 n8;refine⟨_,_,n8.sub _ _ n7.at_,n8.at_,line1000 (by decide),fun a9 G9 n9=>?_⟩;refine⟨a9,_,rfl,n9.at_,⟨fun t ht=>?_,by decide⟩,fun G10 s10=>⟨nofun,fun _=>?_⟩⟩
 ·rcases List.mem_append.mp ht with ht|ht
  ·exact (qfxz (cs:=manyC.take 12) (Nat.le_refl _)).tr t ht
  ·rw[List.mem_singleton.mp ht];exact Tr.non
 have sA:Sub G G10:=n1.sub.trans (n2.sub.trans (s3.trans (s4.trans (n5.sub.trans (s6.trans (n7.sub.trans (n8.sub.trans (n9.sub.trans s10))))))));refine⟨ns,0,rfl,fun i=>?_⟩;intro c0 K0 o0 c1 K1 o1;rw[qjnz] at o1;have hcl:=qtkz ns (some 1) (some 5);refine⟨_,_,o1.sub _ _ o0.at_,o1.at_,?_,fun c2 K2 o2=>?_⟩
 ·rw[List.length_map];exact line1000 (by simp;omega)
 refine⟨_,o2.at_,?_⟩;have sK:Sub G K2:=sA.trans (o0.sub.trans (o1.sub.trans o2.sub));refine qcaz (fun ds τ G'=>(∃is:List Int,ds=is.map D.int)/\Sub K2 G'/\∃x1 x2 x3 x4,τ=[some (.scr (ns.map .int)),x1,x2,x3,x4]) (fun _ _ _ h=>h.2.1 _ _ o2.at_) ?_ ?_ _ _ _ ⟨⟨i::cutG ns (some 1) (some 5),rfl⟩,Sub.refl _,_,_,_,_,rfl⟩
 ·rintro d ds τ G8 N ⟨⟨is,e⟩,s8,x1,x2,x3,x4,rfl⟩ hN;cases is with
  |nil=>cases e
  |cons cc is=>
   cases e;refine⟨cc,rfl,fun pp G9 n9=>⟨pp,12,rfl,n9.at_,⟨by decide,by decide⟩,fun cs ok hlc hr=>⟨pp,cs,rfl,n9.at_,by omega,fun ts q1 G10 ht n10=>?_⟩⟩⟩;refine⟨q1,ts,rfl,n10.at_,ht.up (by decide),fun G11 s11=>⟨nofun,fun _=>?_⟩⟩;have hp11:=s11 _ _ (n10.sub _ _ n9.at_);have hq11:=s11 _ _ n10.at_;have htl:=ht.l;refine⟨pp,q1,ts,rfl,hp11,hq11,ht.up (by decide),fun us q2 G12 hu s12 e12=>⟨q2,us,rfl,e12,hu.up (by omega),fun G13 s13=>⟨nofun,fun _=>?_⟩⟩⟩;have s13':=s12.trans s13;refine⟨pp,q1,ts,rfl,s13' _ _ hp11,s13' _ _ hq11,ht.up (by decide),fun vs q3 G14 hv s14 e14=>?_⟩;have hvl:=hv.l;refine⟨pp,q3,vs,rfl,s14 _ _ (s13' _ _ hp11),e14,hv.up (by omega),fun ws q4 G15 hw s15 e15=>⟨q4,ws,rfl,e15,hw.up (by omega),fun G16 s16=>⟨nofun,fun _=>hN _ _ ⟨⟨is,rfl⟩,?_,_,_,_,_,rfl⟩⟩⟩⟩;exact s8.trans (n9.sub.trans (n10.sub.trans (s11.trans (s13'.trans (s14.trans (s15.trans s16))))))
 ·rintro τ G8 ⟨_,s8,x1,x2,x3,x4,rfl⟩;exact qcoz (sK.trans s8) q
end My
namespace My
open PySem L2 L3
def top(i:Nat):Stmt:=PySem.Challenge.pw_coverclocks_k02_clocks_made.main.body.getD i (.Pass ⟨0,0,0,0⟩)
def inCls:Stmt->Stmt
 |.ClassDef _ _ _ b ..=>b.getD 0 (.Pass ⟨0,0,0,0⟩)
 |s=>s
abbrev qfyz:Stmt:=top 10
abbrev qwgz:List Str:=["thing"]
theorem qwhz:FnScope qwgz ["thing"] (defScope qfyz):=⟨rfl,rfl,rfl,by decide +kernel,rfl,by decide +kernel,by decide +kernel⟩
abbrev qfzz:Stmt:=top 14
abbrev qwiz:List Str:=["thing"]
theorem qwjz:FnScope qwiz ["thing"] (defScope qfzz):=⟨rfl,rfl,rfl,by decide +kernel,rfl,by decide +kernel,by decide +kernel⟩
abbrev qf0z:Stmt:=top 15
abbrev qwkz:List Str:=["things","found","place","thing"]
theorem sc_z12:FnScope qwkz ["things"] (defScope qf0z):=⟨rfl,rfl,rfl,by decide +kernel,rfl,by decide +kernel,by decide +kernel⟩
abbrev qf1z:Stmt:=top 17
abbrev qwlz:List Str:=["script","k"]
theorem qwmz:FnScope qwlz ["script","k"] (defScope qf1z):=⟨rfl,rfl,rfl,by decide +kernel,rfl,by decide +kernel,by decide +kernel⟩
abbrev qf2z:Stmt:=top 18
abbrev qwnz:List Str:=["seed"]
theorem sc_z16:FnScope qwnz ["seed"] (defScope qf2z):=⟨rfl,rfl,rfl,by decide +kernel,rfl,by decide +kernel,by decide +kernel⟩
abbrev qf3z:Stmt:=top 19
abbrev qwoz:List Str:=["cell","left"]
theorem sc_z11:FnScope qwoz ["cell"] (defScope qf3z):=⟨rfl,rfl,rfl,by decide +kernel,rfl,by decide +kernel,by decide +kernel⟩
abbrev qf4z:Stmt:=top 20
abbrev qwpz:List Str:=["pen","many","found"]
theorem sc_z17:FnScope qwpz ["pen","many"] (defScope qf4z):=⟨rfl,rfl,rfl,by decide +kernel,rfl,by decide +kernel,by decide +kernel⟩
abbrev qf5z:Stmt:=top 21
abbrev qwqz:List Str:=["found"]
theorem qwrz:FnScope qwqz ["found"] (defScope qf5z):=⟨rfl,rfl,rfl,by decide +kernel,rfl,by decide +kernel,by decide +kernel⟩
abbrev qf6z:Stmt:=top 22
abbrev qwsz:List Str:=["e","marks"]
theorem sc_z6:FnScope qwsz ["e"] (defScope qf6z):=⟨rfl,rfl,rfl,by decide +kernel,rfl,by decide +kernel,by decide +kernel⟩
abbrev qf7z:Stmt:=top 23
abbrev qwtz:List Str:=["pen","most","step"]
theorem sc_z3:FnScope qwtz ["pen","most"] (defScope qf7z):=⟨rfl,rfl,rfl,by decide +kernel,rfl,by decide +kernel,by decide +kernel⟩
abbrev qd0z:Stmt:=top 24
abbrev qknz:List Str:=["pen","least","most","clocks","k","step","rest"]
theorem sc_z5:FnScope qknz ["pen","least","most"] (defScope qd0z):=⟨rfl,rfl,rfl,by decide +kernel,rfl,by decide +kernel,by decide +kernel⟩
abbrev qd1z:Stmt:=top 25
abbrev qkoz:List Str:=["pen","most","way","found","steps","turn","step"]
theorem sc_z2:FnScope qkoz ["pen","most"] (defScope qd1z):=⟨rfl,rfl,rfl,by decide +kernel,rfl,by decide +kernel,by decide +kernel⟩
abbrev qf8z:Stmt:=top 26
abbrev qwuz:List Str:=["thing"]
theorem qwvz:FnScope qwuz ["thing"] (defScope qf8z):=⟨rfl,rfl,rfl,by decide +kernel,rfl,by decide +kernel,by decide +kernel⟩
abbrev qc1z:Stmt:=top 27
abbrev qf9z:List Str:=["thing"]
theorem qwwz:FnScope qf9z ["thing"] (defScope qc1z):=⟨rfl,rfl,rfl,by decide +kernel,rfl,by decide +kernel,by decide +kernel⟩
abbrev qgaz:Stmt:=top 28
abbrev qwxz:List Str:=["pen","things","left","found"]
theorem sc_z15:FnScope qwxz ["pen","things"] (defScope qgaz):=⟨rfl,rfl,rfl,by decide +kernel,rfl,by decide +kernel,by decide +kernel⟩
abbrev qgbz:Stmt:=top 29
abbrev qwyz:List Str:=["things","pen","spot","again","odd"]
theorem sc_z9:FnScope qwyz ["things","pen"] (defScope qgbz):=⟨rfl,rfl,rfl,by decide +kernel,rfl,by decide +kernel,by decide +kernel⟩
abbrev qgcz:Stmt:=top 30
abbrev qwzz:List Str:=["things","due","spot","good","handed","number","told","e"]
theorem sc_z13:FnScope qwzz ["things"] (defScope qgcz):=⟨rfl,rfl,rfl,by decide +kernel,rfl,by decide +kernel,by decide +kernel⟩
abbrev qd2z:Stmt:=top 31
abbrev qkpz:List Str:=["script","many","cell","pen","good"]
theorem sc_law:FnScope qkpz ["script"] (defScope qd2z):=⟨rfl,rfl,rfl,by decide +kernel,rfl,by decide +kernel,by decide +kernel⟩
abbrev qb6z:Stmt:=inCls (top 6)
theorem qw0z:FnScope ["self","number"] ["self","number"] (defScope qb6z):=⟨rfl,rfl,rfl,by decide +kernel,rfl,by decide +kernel,by decide +kernel⟩
set_option genInjectivity false in
structure Adr where
 f_z10:Addr
 d_z10:FuncData
 f_z8:Addr
 d_z8:FuncData
 f_z12:Addr
 d_z12:FuncData
 f_z7:Addr
 d_z7:FuncData
 f_z16:Addr
 d_z16:FuncData
 f_z11:Addr
 d_z11:FuncData
 f_z17:Addr
 d_z17:FuncData
 f_z14:Addr
 d_z14:FuncData
 f_z6:Addr
 d_z6:FuncData
 f_z3:Addr
 d_z3:FuncData
 f_z5:Addr
 d_z5:FuncData
 f_z2:Addr
 d_z2:FuncData
 f_z1:Addr
 d_z1:FuncData
 f_z0:Addr
 d_z0:FuncData
 f_z15:Addr
 d_z15:FuncData
 f_z9:Addr
 d_z9:FuncData
 f_z13:Addr
 d_z13:FuncData
 f_law:Addr
 d_law:FuncData
 c_ClockError:Addr
 c_NoClock:Addr
 c_NoNumber:Addr
 c_NoPlace:Addr
 c_NoRow:Addr
 c_NoClocks:Addr
 c_NoText:Addr
 c_TooGreat:Addr
 fi_NoClocks:Addr
 di_NoClocks:FuncData
 t_MOST_CLOCKS:Tok
 t_MOST_STEP:Tok
structure Txt(K:PySem.W.Frag)(mg:Str->Option Value)(t:Adr):Prop where
 F_z10:Fun K "whole_good" "whole_good" qfyz t.f_z10 t.d_z10
 m_z10:mg "whole_good" = some (.ref t.f_z10)
 b_z10:Binds K t.d_z10 ["thing"] []
 F_z8:Fun K "clock_good" "clock_good" qfzz t.f_z8 t.d_z8
 m_z8:mg "clock_good" = some (.ref t.f_z8)
 b_z8:Binds K t.d_z8 ["thing"] []
 F_z12:Fun K "clocks_of" "clocks_of" qf0z t.f_z12 t.d_z12
 m_z12:mg "clocks_of" = some (.ref t.f_z12)
 b_z12:Binds K t.d_z12 ["things"] []
 F_z7:Fun K "_law_cell_at" "_law_cell_at" qf1z t.f_z7 t.d_z7
 m_z7:mg "_law_cell_at" = some (.ref t.f_z7)
 b_z7:Binds K t.d_z7 ["script","k"] []
 F_z16:Fun K "_law_next" "_law_next" qf2z t.f_z16 t.d_z16
 m_z16:mg "_law_next" = some (.ref t.f_z16)
 b_z16:Binds K t.d_z16 ["seed"] []
 F_z11:Fun K "_law_pen_of" "_law_pen_of" qf3z t.f_z11 t.d_z11
 m_z11:mg "_law_pen_of" = some (.ref t.f_z11)
 b_z11:Binds K t.d_z11 ["cell"] []
 F_z17:Fun K "_law_draw" "_law_draw" qf4z t.f_z17 t.d_z17
 m_z17:mg "_law_draw" = some (.ref t.f_z17)
 b_z17:Binds K t.d_z17 ["pen","many"] []
 F_z14:Fun K "_law_whole" "_law_whole" qf5z t.f_z14 t.d_z14
 m_z14:mg "_law_whole" = some (.ref t.f_z14)
 b_z14:Binds K t.d_z14 ["found"] []
 F_z6:Fun K "_law_kind_of" "_law_kind_of" qf6z t.f_z6 t.d_z6
 m_z6:mg "_law_kind_of" = some (.ref t.f_z6)
 b_z6:Binds K t.d_z6 ["e"] []
 F_z3:Fun K "_law_clock_by" "_law_clock_by" qf7z t.f_z3 t.d_z3
 m_z3:mg "_law_clock_by" = some (.ref t.f_z3)
 b_z3:Binds K t.d_z3 ["pen","most"] []
 F_z5:Fun K "_law_parts_by" "_law_parts_by" qd0z t.f_z5 t.d_z5
 m_z5:mg "_law_parts_by" = some (.ref t.f_z5)
 b_z5:Binds K t.d_z5 ["pen","least","most"] []
 F_z2:Fun K "_law_clocks_by" "_law_clocks_by" qd1z t.f_z2 t.d_z2
 m_z2:mg "_law_clocks_by" = some (.ref t.f_z2)
 b_z2:Binds K t.d_z2 ["pen","most"] []
 F_z1:Fun K "_law_clock_good" "_law_clock_good" qf8z t.f_z1 t.d_z1
 m_z1:mg "_law_clock_good" = some (.ref t.f_z1)
 b_z1:Binds K t.d_z1 ["thing"] []
 F_z0:Fun K "_law_clocks_good" "_law_clocks_good" qc1z t.f_z0 t.d_z0
 m_z0:mg "_law_clocks_good" = some (.ref t.f_z0)
 b_z0:Binds K t.d_z0 ["thing"] []
 F_z15:Fun K "_law_mixed" "_law_mixed" qgaz t.f_z15 t.d_z15
 m_z15:mg "_law_mixed" = some (.ref t.f_z15)
 b_z15:Binds K t.d_z15 ["pen","things"] []
 F_z9:Fun K "_law_spoilt" "_law_spoilt" qgbz t.f_z9 t.d_z9
 m_z9:mg "_law_spoilt" = some (.ref t.f_z9)
 b_z9:Binds K t.d_z9 ["things","pen"] []
 F_z13:Fun K "_law_right" "_law_right" qgcz t.f_z13 t.d_z13
 m_z13:mg "_law_right" = some (.ref t.f_z13)
 b_z13:Binds K t.d_z13 ["things"] []
 F_law:Fun K "law" "law" qd2z t.f_law t.d_law
 m_law:mg "law" = some (.ref t.f_law)
 b_law:Binds K t.d_law ["script"] []
 m_ClockError:mg "ClockError" = some (.ref t.c_ClockError)
 cn_ClockError:ClsN K "ClockError" t.c_ClockError
 m_NoClock:mg "NoClock" = some (.ref t.c_NoClock)
 cn_NoClock:ClsN K "NoClock" t.c_NoClock
 m_NoNumber:mg "NoNumber" = some (.ref t.c_NoNumber)
 cn_NoNumber:ClsN K "NoNumber" t.c_NoNumber
 m_NoPlace:mg "NoPlace" = some (.ref t.c_NoPlace)
 cn_NoPlace:ClsN K "NoPlace" t.c_NoPlace
 m_NoRow:mg "NoRow" = some (.ref t.c_NoRow)
 cn_NoRow:ClsN K "NoRow" t.c_NoRow
 m_NoClocks:mg "NoClocks" = some (.ref t.c_NoClocks)
 cn_NoClocks:ClsN K "NoClocks" t.c_NoClocks
 m_NoText:mg "NoText" = some (.ref t.c_NoText)
 cn_NoText:ClsN K "NoText" t.c_NoText
 m_TooGreat:mg "TooGreat" = some (.ref t.c_TooGreat)
 cn_TooGreat:ClsN K "TooGreat" t.c_TooGreat
 o_NoClocks:OwnInit K t.c_NoClocks t.c_ClockError t.fi_NoClocks t.di_NoClocks "NoClocks.__init__" qb6z ["number"]
 ask_NoClocks:ExcAsk K t.c_NoClocks
 ki_NoClocks_NoClock:PySem.W.kitOne K (.ref t.c_NoClocks) (.ref t.c_NoClock)=some false
 ki_NoClocks_NoClocks:PySem.W.kitOne K (.ref t.c_NoClocks) (.ref t.c_NoClocks)=some true
 ki_NoClocks_NoNumber:PySem.W.kitOne K (.ref t.c_NoClocks) (.ref t.c_NoNumber)=some false
 ki_NoClocks_NoPlace:PySem.W.kitOne K (.ref t.c_NoClocks) (.ref t.c_NoPlace)=some false
 ki_NoClocks_NoRow:PySem.W.kitOne K (.ref t.c_NoClocks) (.ref t.c_NoRow)=some false
 ki_NoClocks_NoText:PySem.W.kitOne K (.ref t.c_NoClocks) (.ref t.c_NoText)=some false
 ki_NoClocks_TooGreat:PySem.W.kitOne K (.ref t.c_NoClocks) (.ref t.c_TooGreat)=some false
 kv_NoClocks:PySem.W.kitOne K (.ref t.c_NoClocks) (.type "ValueError")=some true
 fl_NoClocks_number:FldAsk K t.c_NoClocks "number"
 m_MOST_CLOCKS:mg "MOST_CLOCKS" = some (.int 12 t.t_MOST_CLOCKS)
 m_MOST_STEP:mg "MOST_STEP" = some (.int 1000 t.t_MOST_STEP)
 m_ValueError:mg "ValueError" = none
 m_all:mg "all" = none
 m_bool:mg "bool" = none
 m_enumerate:mg "enumerate" = none
 m_int:mg "int" = none
 m_isinstance:mg "isinstance" = none
 m_len:mg "len" = none
 m_list:mg "list" = none
 m_max:mg "max" = none
 m_min:mg "min" = none
 m_range:mg "range" = none
 m_set:mg "set" = none
 m_sorted:mg "sorted" = none
 m_tuple:mg "tuple" = none
abbrev rs:List Str:=["NoClocks"]
section
variable {P:Program} {w:World} {K:PySem.W.Frag} {mg:Str->Option Value} {base:Heap} {t:Adr}
theorem qaoz{x:Str}{C D:Addr}(h:ClsN K x C)(h2:ClsN K x D):C=D:=by
 unfold ClsN at h h2;rw[h] at h2;cases h2;rfl
theorem Txt.isx_NoClock(T:Txt K mg t):∀z∈rs,∀D,ClsN K z D->ExcAsk K D/\PySem.W.kitOne K (.ref D) (.ref t.c_NoClock)=some (z=="NoClock"):=by
 intro z hz D cn;simp only[List.mem_cons,List.not_mem_nil,or_false] at hz;subst hz;cases qaoz cn T.cn_NoClocks;exact⟨T.ask_NoClocks,T.ki_NoClocks_NoClock⟩
theorem Txt.isx_NoClocks(T:Txt K mg t):∀z∈rs,∀D,ClsN K z D->ExcAsk K D/\PySem.W.kitOne K (.ref D) (.ref t.c_NoClocks)=some (z=="NoClocks"):=by
 intro z hz D cn;simp only[List.mem_cons,List.not_mem_nil,or_false] at hz;subst hz;cases qaoz cn T.cn_NoClocks;exact⟨T.ask_NoClocks,T.ki_NoClocks_NoClocks⟩
theorem Txt.isx_NoNumber(T:Txt K mg t):∀z∈rs,∀D,ClsN K z D->ExcAsk K D/\PySem.W.kitOne K (.ref D) (.ref t.c_NoNumber)=some (z=="NoNumber"):=by
 intro z hz D cn;simp only[List.mem_cons,List.not_mem_nil,or_false] at hz;subst hz;cases qaoz cn T.cn_NoClocks;exact⟨T.ask_NoClocks,T.ki_NoClocks_NoNumber⟩
theorem Txt.isx_NoPlace(T:Txt K mg t):∀z∈rs,∀D,ClsN K z D->ExcAsk K D/\PySem.W.kitOne K (.ref D) (.ref t.c_NoPlace)=some (z=="NoPlace"):=by
 intro z hz D cn;simp only[List.mem_cons,List.not_mem_nil,or_false] at hz;subst hz;cases qaoz cn T.cn_NoClocks;exact⟨T.ask_NoClocks,T.ki_NoClocks_NoPlace⟩
theorem Txt.isx_NoRow(T:Txt K mg t):∀z∈rs,∀D,ClsN K z D->ExcAsk K D/\PySem.W.kitOne K (.ref D) (.ref t.c_NoRow)=some (z=="NoRow"):=by
 intro z hz D cn;simp only[List.mem_cons,List.not_mem_nil,or_false] at hz;subst hz;cases qaoz cn T.cn_NoClocks;exact⟨T.ask_NoClocks,T.ki_NoClocks_NoRow⟩
theorem Txt.isx_NoText(T:Txt K mg t):∀z∈rs,∀D,ClsN K z D->ExcAsk K D/\PySem.W.kitOne K (.ref D) (.ref t.c_NoText)=some (z=="NoText"):=by
 intro z hz D cn;simp only[List.mem_cons,List.not_mem_nil,or_false] at hz;subst hz;cases qaoz cn T.cn_NoClocks;exact⟨T.ask_NoClocks,T.ki_NoClocks_NoText⟩
theorem Txt.isx_TooGreat(T:Txt K mg t):∀z∈rs,∀D,ClsN K z D->ExcAsk K D/\PySem.W.kitOne K (.ref D) (.ref t.c_TooGreat)=some (z=="TooGreat"):=by
 intro z hz D cn;simp only[List.mem_cons,List.not_mem_nil,or_false] at hz;subst hz;cases qaoz cn T.cn_NoClocks;exact⟨T.ask_NoClocks,T.ki_NoClocks_TooGreat⟩
theorem Txt.isv(T:Txt K mg t):∀z∈rs,∀D,ClsN K z D->ExcAsk K D/\PySem.W.kitOne K (.ref D) (.type "ValueError")=some true:=by
 intro z hz D cn;simp only[List.mem_cons,List.not_mem_nil,or_false] at hz;subst hz;cases qaoz cn T.cn_NoClocks;exact⟨T.ask_NoClocks,T.kv_NoClocks⟩
theorem Txt.fld_number(T:Txt K mg t):∀z∈rs,∀D,ClsN K z D->FldAsk K D "number":=by
 intro z hz D cn;simp only[List.mem_cons,List.not_mem_nil,or_false] at hz;subst hz;cases qaoz cn T.cn_NoClocks;exact T.fl_NoClocks_number
theorem Txt.takes(T:Txt K mg t):Takes K rs t.c_ClockError:=by
 intro z hz D cn;simp only[List.mem_cons,List.not_mem_nil,or_false] at hz;subst hz;cases qaoz cn T.cn_NoClocks;exact⟨_,T.o_NoClocks.ex⟩
theorem qw1z:∀ds G Q,qbjz ds G Q->ds.length=1:=by
 intro ds G Q h
 first
  | (rcases ds with _|⟨_,_|⟨_,_|⟨_,_|⟨_,_⟩⟩⟩⟩<;>first|rfl|exact h.elim)
  | (obtain⟨rfl,_⟩:=h;rfl)
  | (obtain⟨_,rfl,_⟩:=h;rfl)
  | (obtain⟨_,_,rfl,_⟩:=h;rfl)
  | (obtain⟨_,_,_,rfl,_⟩:=h;rfl)
  | (obtain⟨_,_,_,_,rfl,_⟩:=h;rfl)
  | (obtain⟨_,_,_,_,_,rfl,_⟩:=h;rfl)
  | (obtain⟨_,_,_,_,_,_,rfl,_⟩:=h;rfl)
  | (obtain⟨_,_,_,_,_,_,_,rfl,_⟩:=h;rfl)
  | (obtain⟨_,_,_,_,_,_,_,_,rfl,_⟩:=h;rfl)
theorem qkqz(T:Txt K mg t):FnOk3 P w K mg base 1 t.f_z10 t.d_z10 ["thing"] qbjz:=by
 refine qfn3 (k:=0) (sp:=qbjz) T.F_z10 qwhz (by decide) qw1z (qfaz) (fun cdv A outer s H E hr=>?_) qtaz;refine qgz (qmz ?_);refine qbfz (qbhz qifz rfl (qbz (pv 0)) T.m_isinstance T.m_int rfl (by decide) (by decide)) ?_;refine qbez (qirz (qbhz qigz rfl (qbz (pv 0)) T.m_isinstance T.m_bool rfl (by decide) (by decide)))
theorem qw2z:∀ds G Q,qb2z ds G Q->ds.length=1:=by
 intro ds G Q h;obtain⟨_,rfl,_⟩:=h;rfl
theorem qw3z(T:Txt K mg t):FnOk3 P w K mg base 2 t.f_z8 t.d_z8 ["thing"] qb2z:=by
 refine qfn3 (k:=1) (sp:=qb2z) T.F_z8 qwjz (by decide) qw2z (qfmz) (fun cdv A outer s H E hr=>?_) qt7z;refine qez (quz (qahz ?_) (qgz (qmz qacz)) q3z) ?_;refine q7z (qzz (qyz (qbhz kit_tuple rfl (qbz (pv 0)) T.m_isinstance T.m_tuple rfl (by decide) (by decide)))) ?_;refine qajz (qtz l_ne (qa0z hr.units) (qaaz hr.units T.m_len (qaz (qbz (pv 0)) qcz)) qdz (nomark _));refine qez (quz (qahz ?_) (qgz (qmz qacz)) q3z) (qgz (qmz ?_));refine q7z (qzz ?_) (qajz (qzz ?_));refine qyz (qhz ((qkqz T).mono (by decide)) hr T.m_z10 T.F_z10.kp T.b_z10 (qaz (qrz (qbz (pv 0)) qdz) qcz));refine qyz (qhz ((qkqz T).mono (by decide)) hr T.m_z10 T.F_z10.kp T.b_z10 (qaz (qrz (qbz (pv 0)) qdz) qcz));refine qbfz (qi0z l_le l_le qd6z qd6z qdz (qrz (qbz (pv 0)) qdz) (qioz T.m_MOST_STEP)) ?_;refine qbez (qi0z l_le qbrz qd6z (qbqz hr.units0) qdz (qrz (qbz (pv 0)) qdz) (qrz (qbz (pv 0)) qdz))
theorem qw4z:∀ds Q E,qcyz ds Q E->ds.length=1:=by
 intro ds Q E h
 first
  | (rcases ds with _|⟨_,_|⟨_,_|⟨_,_|⟨_,_⟩⟩⟩⟩<;>first|rfl|exact h.elim)
  | (obtain⟨rfl,_⟩:=h;rfl)
  | (obtain⟨_,rfl,_⟩:=h;rfl)
  | (obtain⟨_,_,rfl,_⟩:=h;rfl)
  | (obtain⟨_,_,_,rfl,_⟩:=h;rfl)
  | (obtain⟨_,_,_,_,rfl,_⟩:=h;rfl)
  | (obtain⟨_,_,_,_,_,rfl,_⟩:=h;rfl)
  | (obtain⟨_,_,_,_,_,_,rfl,_⟩:=h;rfl)
  | (obtain⟨_,_,_,_,_,_,_,rfl,_⟩:=h;rfl)
  | (obtain⟨_,_,_,_,_,_,_,_,rfl,_⟩:=h;rfl)
theorem qw5z(T:Txt K mg t):FnX P w K mg base 3 t.f_z12 t.d_z12 ["things"] qcyz:=by
 refine qfnX (k:=2) (sp:=qcyz) T.F_z12 sc_z12 (by decide) qw4z qj9z (fun cdv A outer s H E0 E hr hE=>?_) qvcz;refine qez (qlz (i:=1) sc_z12.nd (q2z qcz)) ?_;refine qez ?_ (qgz (qmz (qe3z hr.units T.m_tuple (qaz (qdrz hr.units T.m_sorted (qaz (qbz (pv 1)) qcz)) qcz))));refine qdqz qr1z rfl (qrxz T.m_enumerate (qaz (qbz (pv 0)) qcz)) ?_ ?_;refine qitz rfl (qdpz (qaiz (i:=2) sc_z12.nd) (qdpz (qaiz (i:=3) sc_z12.nd) qisz));refine qez ?_ (qgz (qclz (qauz qdhz PySem.F.slot_list_append PySem.F.type_list_append qb8z (qbz (pv 1)) (qaz (qbz (pv 3)) qcz))));refine quz (qahz ?_) (qgz (qs3z qr2z hE T.o_NoClocks T.cn_NoClocks T.m_NoClocks hr rfl (qaz (qbz (pv 2)) qcz))) q3z;refine q7z (qzz (qyz (qhz ((qw3z T).mono (by decide)) hr T.m_z8 T.F_z8.kp T.b_z8 (qaz (qbz (pv 3)) qcz)))) ?_;refine q7z (qtz l_in (qrmz hr.units) (qbz (pv 3)) (qbz (pv 1)) (by with_unfolding_all rfl)) ?_;refine qajz (qtz l_eq (qa9z hr.units) (qaaz hr.units T.m_len (qaz (qbz (pv 1)) qcz)) (qioz T.m_MOST_CLOCKS) (nomark _))
theorem qw6z:∀ds G Q,qcpz ds G Q->ds.length=2:=by
 intro ds G Q h;obtain⟨_,_,rfl,_⟩:=h;rfl
theorem qw7z(T:Txt K mg t):FnOk3 P w K mg base 1 t.f_z7 t.d_z7 ["script","k"] qcpz:=by
 refine qfn3 (k:=0) (sp:=qcpz) T.F_z7 qwmz (by decide) qw6z (qjhz) (fun cdv A outer s H E hr=>?_) qtdz;refine qez ?_ (qgz (qmz qdz));refine quz (qtz qbrz (qbqz hr.units0) (qbz (pv 1)) (qaaz hr.units T.m_len (qaz (qbz (pv 0)) qcz)) (nomark _)) ?_ q3z;refine qgz (qmz (qrz (qbz (pv 0)) (qbz (pv 1))))
theorem qw8z:∀ds G Q,qbxz ds G Q->ds.length=1:=by
 intro ds G Q h;obtain⟨_,rfl,_⟩:=h;rfl
theorem qkrz(T:Txt K mg t):FnOk3 P w K mg base 1 t.f_z16 t.d_z16 ["seed"] qbxz:=by
 refine qfn3 (k:=0) (sp:=qbxz) T.F_z16 sc_z16 (by decide) qw8z (qjiz) (fun cdv A outer s H E hr=>?_) qtez;refine qez (qlz (i:=0) sc_z16.nd (qkz qcbz qb7z (qkz qxz qwz (qbz (pv 0)) qdz) qdz)) ?_;refine qgz (qmz (qkz qcbz qb7z ?_ qdz));refine qkz qxz qwz (qkz qxz qwz (qkz qcdz qccz (qbz (pv 0)) (qbz (pv 0))) (qkz qcdz qccz qdz (qbz (pv 0)))) qdz
theorem qw9z:∀ds G Q,qduz ds G Q->ds.length=1:=by
 intro ds G Q h;obtain⟨_,rfl,_⟩:=h;rfl
theorem qxaz(T:Txt K mg t):FnOk3 P w K mg base 1 t.f_z11 t.d_z11 ["cell"] qfbz:=by
 refine FnOk.imp ?_ qtiz;refine qfn3 (k:=0) (sp:=qduz) T.F_z11 sc_z11 (by decide) qw9z (qjkz) (fun cdv A outer s H E hr=>?_) qthz;refine qez (qlz (i:=1) sc_z11.nd (qe2z hr.units T.m_max (qaz (qbz (pv 0)) (qaz (qkz qdcz qc3z qdz (qbz (pv 0))) qcz)))) ?_;refine qgz (qmz (q2z (qaz (qbz (pv 1)) ?_)));refine qaz (qrsz hr.units T.m_int (qaz (qbuz l_ge ql2z (qbz (pv 1)) (qkz qoyz ql0z qdz qdz) (nomark _)) qcz)) ?_;refine qaz (qkz qcbz qb7z (qbz (pv 1)) qdz) qcz
theorem qxbz:∀ds G Q,qdtz ds G Q->ds.length=2:=by
 intro ds G Q h;obtain⟨_,_,_,_,_,rfl,_⟩:=h;rfl
theorem q8z(T:Txt K mg t):FnOk3 P w K mg base 2 t.f_z17 t.d_z17 ["pen","many"] q4z:=by
 refine FnOk.imp ?_ qtgz;refine qfn3 (k:=1) (sp:=qdtz) T.F_z17 sc_z17 (by decide) qxbz (qjjz) (fun cdv A outer s H E hr=>?_) qtfz;refine qez ?_ ?_;refine quz (qtz l_eq (qa9z hr.units) (qrz (qbz (pv 0)) qdz) qdz (nomark _)) ?_ q3z;refine qez (qlz (i:=2) sc_z17.nd (qkz qcbz qb7z (qrz (qbz (pv 0)) qdz) (qbz (pv 1)))) ?_;refine qez (qe1z (qkz qhlz qhkz (qrz (qbz (pv 0)) qdz) (qbz (pv 1))) (qiuz (qbz (pv 0)) qdz)) (qgz (qmz (qbz (pv 2))));refine qez (qe1z ?_ (qiuz (qbz (pv 0)) qdz)) ?_;refine qhz ((qkrz T).mono (by decide)) hr T.m_z16 T.F_z16.kp T.b_z16 (qaz ?_ qcz);refine qkz qxz qwz (qhz ((qkrz T).mono (by decide)) hr T.m_z16 T.F_z16.kp T.b_z16 (qaz (qrz (qbz (pv 0)) qdz) qcz)) (qdz);refine qgz (qmz (qkz qcbz qb7z (qkz qhlz qhkz (qrz (qbz (pv 0)) qdz) qdz) (qbz (pv 1))))
theorem qxcz:∀ds G Q,qbkz ds G Q->ds.length=1:=by
 intro ds G Q h
 first
  | (rcases ds with _|⟨_,_|⟨_,_|⟨_,_|⟨_,_⟩⟩⟩⟩<;>first|rfl|exact h.elim)
  | (obtain⟨rfl,_⟩:=h;rfl)
  | (obtain⟨_,rfl,_⟩:=h;rfl)
  | (obtain⟨_,_,rfl,_⟩:=h;rfl)
  | (obtain⟨_,_,_,rfl,_⟩:=h;rfl)
  | (obtain⟨_,_,_,_,rfl,_⟩:=h;rfl)
  | (obtain⟨_,_,_,_,_,rfl,_⟩:=h;rfl)
  | (obtain⟨_,_,_,_,_,_,rfl,_⟩:=h;rfl)
  | (obtain⟨_,_,_,_,_,_,_,rfl,_⟩:=h;rfl)
  | (obtain⟨_,_,_,_,_,_,_,_,rfl,_⟩:=h;rfl)
theorem qksz(T:Txt K mg t):FnH3 P w K mg base 1 t.f_z14 t.d_z14 ["found"] qbkz:=by
 refine qfnH (k:=0) (sp:=qbkz) T.F_z14 qwrz (by decide) qxcz (qtbz) (fun cdv A outer s H E hr=>?_) qtcz;refine qgz (qmz ?_);refine qbfz (qbhz qifz rfl (qbz (pv 0)) T.m_isinstance T.m_int rfl (by decide) (by decide)) ?_;refine qbez (qirz (qbhz qigz rfl (qbz (pv 0)) T.m_isinstance T.m_bool rfl (by decide) (by decide)))
theorem qktz(T:Txt K mg t):FnOk3 P w K mg base 1 t.f_z14 t.d_z14 ["found"] qbkz:=(qksz T).calm
theorem qxdz:∀ds G Q,(qczz rs) ds G Q->ds.length=1:=by
 intro ds G Q h
 first
  | (rcases ds with _|⟨_,_|⟨_,_|⟨_,_|⟨_,_⟩⟩⟩⟩<;>first|rfl|exact h.elim)
  | (obtain⟨rfl,_⟩:=h;rfl)
  | (obtain⟨_,rfl,_⟩:=h;rfl)
  | (obtain⟨_,_,rfl,_⟩:=h;rfl)
  | (obtain⟨_,_,_,rfl,_⟩:=h;rfl)
  | (obtain⟨_,_,_,_,rfl,_⟩:=h;rfl)
  | (obtain⟨_,_,_,_,_,rfl,_⟩:=h;rfl)
  | (obtain⟨_,_,_,_,_,_,rfl,_⟩:=h;rfl)
  | (obtain⟨_,_,_,_,_,_,_,rfl,_⟩:=h;rfl)
  | (obtain⟨_,_,_,_,_,_,_,_,rfl,_⟩:=h;rfl)
theorem qxez(T:Txt K mg t):FnH3 P w K mg base 1 t.f_z6 t.d_z6 ["e"] (qczz rs):=by
 refine qfnH (k:=0) (sp:=(qczz rs)) T.F_z6 sc_z6 (by decide) qxdz (qkaz rs) (fun cdv A outer s H E hr=>?_) (qvgz rs);refine qez (qlz (i:=1) sc_z6.nd ?_) ?_;refine q2z (qaz (qbiz (T.isx_NoClock) (qbz (pv 0)) T.m_isinstance T.m_NoClock) ?_);refine qaz (qbiz (T.isx_NoNumber) (qbz (pv 0)) T.m_isinstance T.m_NoNumber) ?_;refine qaz (qbiz (T.isx_NoPlace) (qbz (pv 0)) T.m_isinstance T.m_NoPlace) (qaz (qbiz (T.isx_NoRow) (qbz (pv 0)) T.m_isinstance T.m_NoRow) qcz);refine qez ?_ ?_;refine qlz (i:=1) sc_z6.nd (qkz qxz qwz (qbz (pv 1)) (q2z ?_));refine qaz (qbiz (T.isx_NoClocks) (qbz (pv 0)) T.m_isinstance T.m_NoClocks) ?_;refine qaz (qbiz (T.isx_NoText) (qbz (pv 0)) T.m_isinstance T.m_NoText) (qaz (qbiz (T.isx_TooGreat) (qbz (pv 0)) T.m_isinstance T.m_TooGreat) qcz);refine qez (quz (qahz ?_) (qgz (qmz qatz)) q3z) (qgz (qmz ?_));refine q7z (qzz (qyz (qs4z (T.isv) (qbz (pv 0)) T.m_isinstance T.m_ValueError))) (qajz ?_);refine qtz l_ne (qa0z hr.units) (qauz qsyz PySem.F.slot_list_count PySem.F.type_list_count qswz (qbz (pv 1)) (qaz qacz qcz)) qdz (nomark _);refine qixz (qaz qatz (qaz qatz (qaz qatz (qaz qatz (qaz qatz (qaz qatz (qaz qatz qcz))))))) ?_;refine qauz qszz PySem.F.slot_list_index PySem.F.type_list_index qsxz (qbz (pv 1)) (qaz qacz qcz)
theorem qxfz:∀ds G Q,qb1z ds G Q->ds.length=2:=by
 intro ds G Q h;obtain⟨_,_,rfl,_⟩:=h;rfl
theorem qkuz(T:Txt K mg t):FnOk3 P w K mg base 3 t.f_z3 t.d_z3 ["pen","most"] qb1z:=by
 refine qfn3 (k:=2) (sp:=qb1z) T.F_z3 sc_z3 (by decide) qxfz (qjqz) (fun cdv A outer s H E hr=>?_) qtqz;refine qez (qlz (i:=2) sc_z3.nd (qkz qxz qwz qdz ?_)) (qgz (qmz (qadz (qaz (qbz (pv 2)) ?_))));refine qhz ((q8z T).mono (by decide)) hr T.m_z17 T.F_z17.kp T.b_z17 (qaz (qbz (pv 0)) (qaz (qbz (pv 1)) qcz));refine qaz (qhz ((q8z T).mono (by decide)) hr T.m_z17 T.F_z17.kp T.b_z17 (qaz (qbz (pv 0)) (qaz (qbz (pv 2)) qcz))) (qcz)
theorem qxgz:∀ds G Q,qcsz ds G Q->ds.length=3:=by
 intro ds G Q h;obtain⟨_,_,_,rfl,_⟩:=h;rfl
theorem qxhz(T:Txt K mg t):FnOk3 P w K mg base 3 t.f_z5 t.d_z5 ["pen","least","most"] qcsz:=by
 refine qfn3 (k:=2) (sp:=qcsz) T.F_z5 sc_z5 (by decide) qxgz (qjuz) (fun cdv A outer s H E hr=>?_) qtxz;refine qez (qlz (i:=3) sc_z5.nd (q2z (qaz (qadz (qaz qdz (qaz qdz qcz))) qcz))) ?_;refine qez ?_ (qgz (qmz (qdrz hr.units T.m_sorted (qaz (qbz (pv 3)) qcz))));refine qivz PassesOwn.never (qahz ?_) ?_;refine q7z (qtz qbrz (qbqz hr.units0) (qaaz hr.units T.m_len (qaz (qbz (pv 3)) qcz)) (qbz (pv 1)) (nomark _)) (qajz (qahz ?_));refine qiqz ?_ (qipz (qtz qbrz (qbqz hr.units0) (qaaz hr.units T.m_len (qaz (qbz (pv 3)) qcz)) (qbz (pv 2)) (nomark _)));refine qtz l_gt qd7z (qhz ((q8z T).mono (by decide)) hr T.m_z17 T.F_z17.kp T.b_z17 (qaz (qbz (pv 0)) (qaz qdz qcz))) ?_ (nomark _);refine qdz;refine qez (qlz (i:=4) sc_z5.nd ?_) ?_;refine qixz (qaz qdz (qaz qdz (qaz qdz (qaz qdz (qaz qdz (qaz qdz qcz)))))) ?_;refine qhz ((q8z T).mono (by decide)) hr T.m_z17 T.F_z17.kp T.b_z17 (qaz (qbz (pv 0)) (qaz qdz qcz));refine qez (qlz (i:=4) sc_z5.nd ?_) ?_;refine qrtz hr.units T.m_min (qaz (qbz (pv 4)) (qaz (qe2z hr.units T.m_max ?_) qcz));refine qaz qdz (qaz (qkz qxz qwz (qkz qdcz qc3z (qbz (pv 2)) (qaaz hr.units T.m_len (qaz (qbz (pv 3)) qcz))) qdz) qcz);refine qez ?_ ?_;refine qe1z ?_ (qitz rfl (qdpz (qaiz (i:=5) sc_z5.nd) (qdpz (qaiz (i:=6) sc_z5.nd) qisz)));refine qauz qejz PySem.F.slot_list_pop PySem.F.type_list_pop qeaz (qbz (pv 3)) (qaz ?_ qcz);refine qhz ((q8z T).mono (by decide)) hr T.m_z17 T.F_z17.kp T.b_z17 ?_;refine qaz (qbz (pv 0)) (qaz (qaaz hr.units T.m_len (qaz (qbz (pv 3)) qcz)) qcz);refine qez ?_ ?_;refine quz (qtz l_gt qd7z (qkz qcdz qccz (qbz (pv 5)) (qbz (pv 4))) qdz (nomark _)) (qgz (qmz (qdrz hr.units T.m_sorted ?_))) q3z;refine qaz (qkz qxz qwz (qbz (pv 3)) (q2z (qaz (qadz (qaz (qbz (pv 5)) (qaz (qbz (pv 6)) qcz))) qcz))) qcz;refine qgz (qlz (i:=3) sc_z5.nd (qkz qxz qwz (qbz (pv 3)) ?_));refine qe4z rfl (show CmpOk qknz (defScope qd0z) _ ["part"] [5,4,6] from⟨rfl,by decide +kernel,by decide +kernel,by decide +kernel,by decide +kernel,by decide +kernel⟩) ?_ ?_;refine qcmz T.m_range (qaz (qbz (pv 4)) qcz);intro s0 H0 fp0;refine⟨(qaiz (i:=0) (show (["part","step","k","rest"]:List Str).Nodup by decide +kernel)),qcnz,?_⟩;refine qadz (qaz (qkz qcdz qccz (qbz (pv 1)) (qbz (pv 2))) ?_);refine qaz (qkz qxz qwz (qbz (pv 3)) (qkz qcdz qccz (qbz (pv 1)) (qbz (pv 0)))) qcz
theorem qxiz:∀ds G Q,qctz ds G Q->ds.length=2:=by
 intro ds G Q h;obtain⟨_,_,rfl,_⟩:=h;rfl
theorem qxjz(T:Txt K mg t):FnOk3 P w K mg base 4 t.f_z2 t.d_z2 ["pen","most"] qctz:=by
 refine qfn3 (k:=3) (sp:=qctz) T.F_z2 sc_z2 (by decide) qxiz (qjwz) (fun cdv A outer s H E hr=>?_) qt4z;refine qez (qlz (i:=2) sc_z2.nd ?_) ?_;refine qhz ((q8z T).mono (by decide)) hr T.m_z17 T.F_z17.kp T.b_z17 (qaz (qbz (pv 0)) (qaz qdz qcz));refine qez ?_ ?_;refine quz (qtz l_eq (qa9z hr.units) (qbz (pv 2)) qdz (nomark _)) (qgz ?_) (qgz ?_);refine qi1z (i:=3) rfl sc_z2.nd (show CmpOk qkoz (defScope qd1z) _ ["turn"] [0] from⟨rfl,by decide +kernel,by decide +kernel,by decide +kernel,by decide +kernel,by decide +kernel⟩) ?_ ?_;refine qcmz T.m_range (qaz ?_ qcz);refine qhz ((q8z T).mono (by decide)) hr T.m_z17 T.F_z17.kp T.b_z17 ?_;refine qaz (qbz (pv 0)) (qaz (qkz qxz qwz (qbz (pv 1)) qdz) qcz);intro s0 H0 fp0;refine⟨(qaiz (i:=0) (show (["turn","pen"]:List Str).Nodup by decide +kernel)),qcnz,?_⟩;refine qhz ((qkuz T).mono (by decide)) hr T.m_z3 T.F_z3.kp T.b_z3 (qaz (qbz (pv 1)) (qaz qdz qcz));refine quz (qtz l_eq (qa9z hr.units) (qbz (pv 2)) qdz (nomark _)) ?_ ?_;refine qez (qlz (i:=4) sc_z2.nd ?_) (qez (qlz (i:=3) sc_z2.nd (q2z qcz)) (qgz ?_));refine q2z (qaz qdz (qaz qdz (qaz qdz (qaz qdz (qaz qdz (qaz qdz (qaz qdz qcz)))))));refine qdqz PassesOwn.never rfl (qcmz T.m_range (qaz ?_ qcz)) (qaiz (i:=5) sc_z2.nd) ?_;refine qhz ((q8z T).mono (by decide)) hr T.m_z17 T.F_z17.kp T.b_z17 ?_;refine qaz (qbz (pv 0)) (qaz (qkz qxz qwz (qbz (pv 1)) qdz) qcz);refine qez (qlz (i:=6) sc_z2.nd ?_) (qgz (qclz ?_));refine qrz (qbz (pv 4)) (qhz ((q8z T).mono (by decide)) hr T.m_z17 T.F_z17.kp T.b_z17 (qaz (qbz (pv 0)) (qaz qdz qcz)));refine qauz qdhz PySem.F.slot_list_append PySem.F.type_list_append qb8z (qbz (pv 3)) (qaz (qadz (qaz (qbz (pv 6)) ?_)) qcz);refine qaz (qhz ((q8z T).mono (by decide)) hr T.m_z17 T.F_z17.kp T.b_z17 (qaz (qbz (pv 0)) (qaz (qbz (pv 6)) qcz))) (qcz);refine qez (qlz (i:=3) sc_z2.nd ?_) ?_;refine qhz ((qxhz T).mono (by decide)) hr T.m_z5 T.F_z5.kp T.b_z5 ?_;refine qaz (qbz (pv 0)) (qaz qdz (qaz (qe2z hr.units T.m_max (qaz qdz (qaz (qkz qdcz qc3z (qbz (pv 1)) qdz) qcz))) qcz));refine qez ?_ (qgz ?_);refine quz (qtz l_eq (qa9z hr.units) (qbz (pv 2)) qdz (nomark _)) (qgz ?_) q3z;refine qlz (i:=3) sc_z2.nd (qkz qxz qwz (qbz (pv 3)) (q2z (qaz ?_ qcz)));refine qhz ((qkuz T).mono (by decide)) hr T.m_z3 T.F_z3.kp T.b_z3 (qaz (qbz (pv 0)) (qaz qdz qcz));refine quz (qtz l_eq (qa9z hr.units) (qbz (pv 2)) qdz (nomark _)) (qgz (qclz ?_)) q3z;refine qauz qejz PySem.F.slot_list_pop PySem.F.type_list_pop qeaz (qbz (pv 3)) (qaz ?_ qcz);refine qhz ((q8z T).mono (by decide)) hr T.m_z17 T.F_z17.kp T.b_z17 ?_;refine qaz (qbz (pv 0)) (qaz (qaaz hr.units T.m_len (qaz (qbz (pv 3)) qcz)) qcz);refine qgz (qmz (qbgz (qe3z hr.units T.m_tuple (qaz (qruz hr.units (qbz (pv 3)) T.m_sorted T.m_set) qcz)) qbvz (qa2z (qbz (pv 1)))))
theorem qxkz:∀ds G Q,qb4z ds G Q->ds.length=1:=by
 intro ds G Q h
 first
  | (rcases ds with _|⟨_,_|⟨_,_|⟨_,_|⟨_,_⟩⟩⟩⟩<;>first|rfl|exact h.elim)
  | (obtain⟨rfl,_⟩:=h;rfl)
  | (obtain⟨_,rfl,_⟩:=h;rfl)
  | (obtain⟨_,_,rfl,_⟩:=h;rfl)
  | (obtain⟨_,_,_,rfl,_⟩:=h;rfl)
  | (obtain⟨_,_,_,_,rfl,_⟩:=h;rfl)
  | (obtain⟨_,_,_,_,_,rfl,_⟩:=h;rfl)
  | (obtain⟨_,_,_,_,_,_,rfl,_⟩:=h;rfl)
  | (obtain⟨_,_,_,_,_,_,_,rfl,_⟩:=h;rfl)
  | (obtain⟨_,_,_,_,_,_,_,_,rfl,_⟩:=h;rfl)
theorem qkvz(T:Txt K mg t):FnOk3 P w K mg base 2 t.f_z1 t.d_z1 ["thing"] qb4z:=by
 refine qfn3 (k:=1) (sp:=qb4z) T.F_z1 qwvz (by decide) qxkz (qfsz) (fun cdv A outer s H E hr=>?_) quyz;refine qez (quz (qahz ?_) (qgz (qmz qacz)) q3z) (qgz (qmz ?_));refine q7z (qzz (qyz (qbhz kit_tuple rfl (qbz (pv 0)) T.m_isinstance T.m_tuple rfl (by decide) (by decide)))) ?_;refine q7z (qtz l_ne (qa0z hr.units) (qaaz hr.units T.m_len (qaz (qbz (pv 0)) qcz)) qdz (nomark _)) ?_;refine q7z ?_ (qajz ?_);refine qzz (qyz (qhz ((qktz T).mono (by decide)) hr T.m_z14 T.F_z14.kp T.b_z14 (qaz (qrz (qbz (pv 0)) qdz) qcz)));refine qzz (qyz (qhz ((qktz T).mono (by decide)) hr T.m_z14 T.F_z14.kp T.b_z14 (qaz (qrz (qbz (pv 0)) qdz) qcz)));refine qbfz (qrwz (qrz (qbz (pv 0)) qdz) T.m_range (qaz qdz (qaz qdz qcz))) ?_;refine qbez (qrvz (qrz (qbz (pv 0)) qdz) T.m_range (qaz (qrz (qbz (pv 0)) qdz) qcz))
theorem qxlz:∀ds G Q,qcvz ds G Q->ds.length=1:=by
 intro ds G Q h
 first
  | (rcases ds with _|⟨_,_|⟨_,_|⟨_,_|⟨_,_⟩⟩⟩⟩<;>first|rfl|exact h.elim)
  | (obtain⟨rfl,_⟩:=h;rfl)
  | (obtain⟨_,rfl,_⟩:=h;rfl)
  | (obtain⟨_,_,rfl,_⟩:=h;rfl)
  | (obtain⟨_,_,_,rfl,_⟩:=h;rfl)
  | (obtain⟨_,_,_,_,rfl,_⟩:=h;rfl)
  | (obtain⟨_,_,_,_,_,rfl,_⟩:=h;rfl)
  | (obtain⟨_,_,_,_,_,_,rfl,_⟩:=h;rfl)
  | (obtain⟨_,_,_,_,_,_,_,rfl,_⟩:=h;rfl)
  | (obtain⟨_,_,_,_,_,_,_,_,rfl,_⟩:=h;rfl)
theorem qxmz(T:Txt K mg t):FnOk3 P w K mg base 3 t.f_z0 t.d_z0 ["thing"] qcvz:=by
 refine qfn3 (k:=2) (sp:=qcvz) T.F_z0 qwwz (by decide) qxlz (qftz) (fun cdv A outer s H E hr=>?_) qu0z;refine qez (quz (qahz ?_) (qgz (qmz qacz)) q3z) (qgz (qmz (qizz hr.units T.m_all (qaz ?_ qcz))));refine q7z (qzz (qyz (qbhz kit_tuple rfl (qbz (pv 0)) T.m_isinstance T.m_tuple rfl (by decide) (by decide)))) ?_;refine q7z (qtz l_gt qd7z (qaaz hr.units T.m_len (qaz (qbz (pv 0)) qcz)) qdz (nomark _)) ?_;refine qajz (qzz (qyz (qizz hr.units T.m_all (qaz ?_ qcz))));refine qe4z rfl (show CmpOk qf9z (defScope qc1z) _ ["clock"] [] from⟨rfl,by decide +kernel,by decide +kernel,by decide +kernel,by decide +kernel,by decide +kernel⟩) ?_ ?_;refine qiwz (qbz (pv 0));intro s0 H0 fp0;refine⟨(qaiz (i:=0) (show (["clock"]:List Str).Nodup by decide +kernel)),qcnz,?_⟩;refine qhz ((qkvz T).mono (by decide)) hr T.m_z1 T.F_z1.kp T.b_z1 (qaz (qbz (pv 0)) qcz);refine qe4z rfl (show CmpOk qf9z (defScope qc1z) _ ["k"] [0] from⟨rfl,by decide +kernel,by decide +kernel,by decide +kernel,by decide +kernel,by decide +kernel⟩) ?_ ?_;refine qrrz T.m_range (qaz qdz (qaz (qaaz hr.units T.m_len (qaz (qbz (pv 0)) qcz)) qcz));intro s0 H0 fp0;refine⟨(qaiz (i:=0) (show (["k","thing"]:List Str).Nodup by decide +kernel)),qcnz,?_⟩;refine qbuz qbrz (qbqz hr.units0) (qrz (qbz (pv 1)) (qkz qdcz qc3z (qbz (pv 0)) qdz)) (qrz (qbz (pv 1)) (qbz (pv 0))) (nomark _)
theorem qxnz:∀ds G Q,qc0z ds G Q->ds.length=2:=by
 intro ds G Q h;obtain⟨_,_,rfl,_⟩:=h;rfl
theorem qxoz(T:Txt K mg t):FnOk3 P w K mg base 3 t.f_z15 t.d_z15 ["pen","things"] qc0z:=by
 refine qfn3 (k:=2) (sp:=qc0z) T.F_z15 sc_z15 (by decide) qxnz (qkbz) (fun cdv A outer s H E hr=>?_) qvlz;refine qez (qlz (i:=2) sc_z15.nd (qiyz hr.units T.m_list (qaz (qbz (pv 1)) qcz))) ?_;refine qez (qlz (i:=3) sc_z15.nd (q2z qcz)) (qez ?_ (qgz (qmz (qbz (pv 3)))));refine qivz PassesOwn.never (qtz l_ne (qa0z hr.units) (qbz (pv 2)) (q2z qcz) (nomark _)) (qgz (qclz ?_));refine qauz qdhz PySem.F.slot_list_append PySem.F.type_list_append qb8z (qbz (pv 3)) (qaz ?_ qcz);refine qauz qejz PySem.F.slot_list_pop PySem.F.type_list_pop qeaz (qbz (pv 2)) (qaz ?_ qcz);refine qhz ((q8z T).mono (by decide)) hr T.m_z17 T.F_z17.kp T.b_z17 ?_;refine qaz (qbz (pv 0)) (qaz (qaaz hr.units T.m_len (qaz (qbz (pv 2)) qcz)) qcz)
theorem qxpz:∀ds G Q,qblz ds G Q->ds.length=2:=by
 intro ds G Q h;obtain⟨_,_,_,rfl,_⟩:=h;rfl
theorem qgdz(T:Txt K mg t):FnOk3 P w K mg base 3 t.f_z9 t.d_z9 ["things","pen"] qblz:=by
 refine qfn3 (k:=2) (sp:=qblz) T.F_z9 sc_z9 (by decide) qxpz (qkdz) (fun cdv A outer s H E hr=>?_) qvqz;refine qez (qlz (i:=2) sc_z9.nd ?_) ?_;refine qhz ((q8z T).mono (by decide)) hr T.m_z17 T.F_z17.kp T.b_z17 ?_;refine qaz (qbz (pv 1)) (qaz (qkz qxz qwz (qaaz hr.units T.m_len (qaz (qbz (pv 0)) qcz)) qdz) qcz);refine qez (qlz (i:=3) sc_z9.nd (qadz (qaz qdz (qaz qdz qcz)))) ?_;refine qez ?_ ?_;refine quz (qtz l_ne (qa0z hr.units) (qbz (pv 0)) (q2z qcz) (nomark _)) (qgz (qlz (i:=3) sc_z9.nd (qrz (qbz (pv 0)) ?_))) q3z;refine qhz ((q8z T).mono (by decide)) hr T.m_z17 T.F_z17.kp T.b_z17 ?_;refine qaz (qbz (pv 1)) (qaz (qaaz hr.units T.m_len (qaz (qbz (pv 0)) qcz)) qcz);refine qez ?_ (qgz (qmz ?_));refine qlz (i:=4) sc_z9.nd (q2z (qaz (qbz (pv 3)) (qaz (qbz (pv 3)) ?_)));refine qaz (qadz (qaz qdz (qaz qdz qcz))) (qaz (qadz (qaz qdz (qaz qdz qcz))) ?_);refine qaz (qadz (qaz qdz (qaz (qrpz qdz) qcz))) (qaz (qadz (qaz qacz (qaz qdz qcz))) ?_);refine qaz (qadz (qaz qdz (qaz qacz qcz))) (qaz (quwz (q2z (qaz qdz (qaz qdz qcz)))) ?_);refine qaz qa1z (qaz (qadz (qaz qdz qcz)) (qaz qdz (qaz (qadz (qaz qdz (qaz qdz qcz))) qcz)));refine qkz qxz qwz ?_ ?_;refine qkz qxz qwz (qbgz (qbz (pv 0)) qbvz (qa2z (qbz (pv 2)))) (q2z (qaz ?_ qcz));refine qrz (qbz (pv 4)) (qhz ((q8z T).mono (by decide)) hr T.m_z17 T.F_z17.kp T.b_z17 (qaz (qbz (pv 1)) (qaz qdz qcz)));refine qbgz (qbz (pv 0)) (qa2z (qkz qxz qwz (qbz (pv 2)) ?_)) qbvz;refine qhz ((q8z T).mono (by decide)) hr T.m_z17 T.F_z17.kp T.b_z17 (qaz (qbz (pv 1)) (qaz qdz qcz))
theorem qxqz:∀ds G Q,qalz ds G Q->ds.length=1:=by
 intro ds G Q h
 first
  | (rcases ds with _|⟨_,_|⟨_,_|⟨_,_|⟨_,_⟩⟩⟩⟩<;>first|rfl|exact h.elim)
  | (obtain⟨rfl,_⟩:=h;rfl)
  | (obtain⟨_,rfl,_⟩:=h;rfl)
  | (obtain⟨_,_,rfl,_⟩:=h;rfl)
  | (obtain⟨_,_,_,rfl,_⟩:=h;rfl)
  | (obtain⟨_,_,_,_,rfl,_⟩:=h;rfl)
  | (obtain⟨_,_,_,_,_,rfl,_⟩:=h;rfl)
  | (obtain⟨_,_,_,_,_,_,rfl,_⟩:=h;rfl)
  | (obtain⟨_,_,_,_,_,_,_,rfl,_⟩:=h;rfl)
  | (obtain⟨_,_,_,_,_,_,_,_,rfl,_⟩:=h;rfl)
theorem qbmz(T:Txt K mg t):FnOk3 P w K mg base 4 t.f_z13 t.d_z13 ["things"] qalz:=by
 refine qfn3 (k:=3) (sp:=qalz) T.F_z13 sc_z13 (by decide) qxqz (qkkz rs) (fun cdv A outer s H E hr=>?_) qv7z;refine qez (qlz (i:=1) sc_z13.nd qa1z) ?_;refine qez ?_ ?_;refine qdqz PassesOwn.never rfl (qcmz T.m_range (qaz (qaaz hr.units T.m_len (qaz (qbz (pv 0)) qcz)) qcz)) (qaiz (i:=2) sc_z13.nd) ?_;refine qez (qlz (i:=3) sc_z13.nd ?_) (qgz ?_);refine qbfz ?_ ?_;refine qhz ((qkvz T).mono (by decide)) hr T.m_z1 T.F_z1.kp T.b_z1 ?_;refine qaz (qrz (qbz (pv 0)) (qbz (pv 2))) qcz;refine qbfz ?_ (qbez (qbuz qbrz (qbqz hr.units0) (qbz (pv 2)) qdz (nomark _)));refine qbuz qroz (qrnz hr.units) (qrz (qbz (pv 0)) (qbz (pv 2))) (qbgz (qbz (pv 0)) qbvz (qa2z (qbz (pv 2)))) (by with_unfolding_all rfl);refine quz (qahz (qiqz (qtz l_is ql3z (qbz (pv 1)) qa1z (nomark _)) (qipz (qzz (qyz (qbz (pv 3))))))) ?_ q3z;refine qgz (qlz (i:=1) sc_z13.nd (qbz (pv 2)));refine qez (qlz (i:=4) sc_z13.nd (qiyz hr.units T.m_list (qaz (qbz (pv 0)) qcz))) ?_;refine qez (qlz (i:=5) sc_z13.nd qa1z) (qez (qlz (i:=6) sc_z13.nd qa1z) ?_);refine qutz (i:=7) (names:=rs) (th:=fun _=>_) frame0 T.takes T.m_ClockError sc_z13.nd ?_ ?_ ?_;refine qusz (i:=6) sc_z13.nd (quoz ((qw5z T).mono (by decide)) hr T.m_z12 T.F_z12.kp T.b_z12 (qaz (qbz (pv 4)) qcz)) ?_;refine qs2z;intro e0;refine qez (quz (qahz ?_) (qgz (qmz qacz)) q3z) (qgz (qlz (i:=5) sc_z13.nd (qjfz T.fld_number (qbz (pv 7)))));refine q7z (qtz l_ne (qa0z hr.units) ?_ qatz (nomark _)) (qajz (qzz (qyz ?_)));refine qjdz ((qxez T).mono (by decide)) hr.h.mark T.m_z6 T.F_z6.kp T.b_z6 (qaz (qbz (pv 7)) qcz);refine qjdz ((qksz T).mono (by decide)) hr.h.mark T.m_z14 T.F_z14.kp T.b_z14 (qaz (qjfz T.fld_number (qbz (pv 7))) qcz);refine qez (quz (qahz ?_) (qgz (qmz qacz)) q3z) ?_;refine q7z (qtz l_ne (qa0z hr.units) (qbz (pv 4)) (qbz (pv 0)) (nomark _)) ?_;refine qajz (qtz l_ne (qa0z hr.units) (qbz (pv 5)) (qbz (pv 1)) (nomark _));refine qez (qclz (qauz qdhz PySem.F.slot_list_append PySem.F.type_list_append qb8z (qbz (pv 4)) (qaz qa1z qcz))) (qgz ?_);refine qmz (qrqz (qbuz qo1z ql4z (qbz (pv 1)) qa1z (nomark _)) (qbez ?_));refine qbfz (qhz ((qxmz T).mono (by decide)) hr T.m_z0 T.F_z0.kp T.b_z0 (qaz (qbz (pv 6)) qcz)) ?_;refine qbez (qbuz l_eq (qa9z hr.units) (qbz (pv 6)) ?_ (nomark _));refine qe3z hr.units T.m_tuple (qaz (qdrz hr.units T.m_sorted (qaz (qbz (pv 0)) qcz)) qcz)
theorem qxrz:∀ds G Q,sp_law ds G Q->ds.length=1:=by
 intro ds G Q h;obtain⟨_,rfl,_⟩:=h;rfl
theorem ok_law(T:Txt K mg t):FnOk3 P w K mg base 5 t.f_law t.d_law ["script"] sp_law:=by
 refine qfn3 (k:=4) (sp:=sp_law) T.F_law sc_law (by decide) qxrz (qkmz) (fun cdv A outer s H E hr=>?_) qwfz;refine qez ?_ ?_;refine qi1z (i:=1) rfl sc_law.nd (show CmpOk qkpz (defScope qd2z) _ ["k"] [] from⟨rfl,by decide +kernel,by decide +kernel,by decide +kernel,by decide +kernel,by decide +kernel⟩) ?_ ?_;refine qcmz T.m_range (qaz qdz qcz);intro s0 H0 fp0;refine⟨(qaiz (i:=0) (show (["k"]:List Str).Nodup by decide +kernel)),qcnz,(qadz (qaz qdz (qaz (qbz (pv 0)) qcz)))⟩;refine qez (quz (qahz ?_) (qgz (qmz qacz)) q3z) (qez ?_ (qgz (qmz qacz)));refine q7z (qzz (qyz (qhz ((qbmz T).mono (by decide)) hr T.m_z13 T.F_z13.kp T.b_z13 (qaz (q2z qcz) qcz)))) ?_;refine q7z (qzz (qyz (qhz ((qbmz T).mono (by decide)) hr T.m_z13 T.F_z13.kp T.b_z13 (qaz (qbz (pv 1)) qcz)))) ?_;refine q7z (qzz (qyz ?_)) (qajz (qzz (qyz ?_)));refine qhz ((qbmz T).mono (by decide)) hr T.m_z13 T.F_z13.kp T.b_z13 (qaz (qbgz (qbz (pv 1)) qbvz (qa2z qdz)) qcz);refine qhz ((qbmz T).mono (by decide)) hr T.m_z13 T.F_z13.kp T.b_z13 ?_;refine qaz (qkz qxz qwz (qbgz (qbz (pv 1)) qbvz (qa2z qdz)) (q2z (qaz qa1z qcz))) qcz;refine qdqz PassesOwn.never rfl (qiwz ?_) (qaiz (i:=2) sc_law.nd) ?_;refine qkz qxz qwz (q2z ?_) (qbgz (qbz (pv 0)) (qa2z qdz) (qa2z qdz));refine qaz (qhz ((qw7z T).mono (by decide)) hr T.m_z7 T.F_z7.kp T.b_z7 (qaz (qbz (pv 0)) (qaz qdz qcz))) (qcz);refine qez ?_ ?_;refine qlz (i:=3) sc_law.nd (qhz ((qxaz T).mono (by decide)) hr T.m_z11 T.F_z11.kp T.b_z11 (qaz (qbz (pv 2)) qcz));refine qez (qlz (i:=4) sc_law.nd ?_) ?_;refine qhz ((qxoz T).mono (by decide)) hr T.m_z15 T.F_z15.kp T.b_z15 (qaz (qbz (pv 3)) (qaz ?_ qcz));refine qhz ((qxjz T).mono (by decide)) hr T.m_z2 T.F_z2.kp T.b_z2 (qaz (qbz (pv 3)) (qaz qdz qcz));refine qez (quz (qahz ?_) (qgz (qmz qacz)) q3z) (qgz (quz (qzz (qyz ?_)) (qgz (qmz qacz)) q3z));refine q7z (qzz (qyz (qhz ((qbmz T).mono (by decide)) hr T.m_z13 T.F_z13.kp T.b_z13 (qaz (qbz (pv 4)) qcz)))) ?_;refine qajz (qzz (qyz ?_));refine qhz ((qbmz T).mono (by decide)) hr T.m_z13 T.F_z13.kp T.b_z13 (qaz ?_ qcz);refine qhz ((qgdz T).mono (by decide)) hr T.m_z9 T.F_z9.kp T.b_z9 (qaz (qbz (pv 4)) (qaz (qbz (pv 3)) qcz));refine qhz ((qbmz T).mono (by decide)) hr T.m_z13 T.F_z13.kp T.b_z13 (qaz ?_ qcz);refine qhz ((qgdz T).mono (by decide)) hr T.m_z9 T.F_z9.kp T.b_z9 (qaz ?_ (qaz (qbz (pv 3)) qcz));refine qhz ((qgdz T).mono (by decide)) hr T.m_z9 T.F_z9.kp T.b_z9 (qaz (qbz (pv 4)) (qaz (qbz (pv 3)) qcz))
end
def Has(K:PySem.W.Frag)(nm:Str)(st:Stmt):Prop:=∃f d,Fun K nm nm st f d/\PySem.W.nsIn K mainGlobals nm=some (some (.ref f))
theorem has_mk{K:PySem.W.Frag}{nm:Str}{st:Stmt}{f:Addr}{od an:Option Addr}{sl:Array (Option Value)}{oc kV dc pm cd ct:Value}(a:PySem.W.nsIn K mainGlobals nm=some (some (.ref f)))(l:K.lookup f=some ⟨oc,od,.func (PySem.W.fnOf nm nm (defArgs st) (defBody st) (defScope st) .none kV dc pm an cd ct),sl⟩)(c:PySem.W.codeIn K cd nm=true)(k:PySem.W.keepIn K (.ref f)=true):Has K nm st:=⟨f,_,qgzz l c k,a⟩
theorem txt_mk{K:PySem.W.Frag}{h:Heap}{mg:Str->Option Value}(X:K.In h)(G:h.Ns mainGlobals mg)
  (h0:Has K "whole_good" qfyz)
  (h1:Has K "clock_good" qfzz)
  (h2:Has K "clocks_of" qf0z)
  (h3:Has K "_law_cell_at" qf1z)
  (h4:Has K "_law_next" qf2z)
  (h5:Has K "_law_pen_of" qf3z)
  (h6:Has K "_law_draw" qf4z)
  (h7:Has K "_law_whole" qf5z)
  (h8:Has K "_law_kind_of" qf6z)
  (h9:Has K "_law_clock_by" qf7z)
  (h10:Has K "_law_parts_by" qd0z)
  (h11:Has K "_law_clocks_by" qd1z)
  (h12:Has K "_law_clock_good" qf8z)
  (h13:Has K "_law_clocks_good" qc1z)
  (h14:Has K "_law_mixed" qgaz)
  (h15:Has K "_law_spoilt" qgbz)
  (h16:Has K "_law_right" qgcz)
  (h17:Has K "law" qd2z)
  {C_ClockError:Addr} (n_ClockError:PySem.W.nsIn K mainGlobals "ClockError" = some (some (.ref C_ClockError)))
  {C_NoClock:Addr} (n_NoClock:PySem.W.nsIn K mainGlobals "NoClock" = some (some (.ref C_NoClock)))
  {C_NoNumber:Addr} (n_NoNumber:PySem.W.nsIn K mainGlobals "NoNumber" = some (some (.ref C_NoNumber)))
  {C_NoPlace:Addr} (n_NoPlace:PySem.W.nsIn K mainGlobals "NoPlace" = some (some (.ref C_NoPlace)))
  {C_NoRow:Addr} (n_NoRow:PySem.W.nsIn K mainGlobals "NoRow" = some (some (.ref C_NoRow)))
  {C_NoClocks:Addr} (n_NoClocks:PySem.W.nsIn K mainGlobals "NoClocks" = some (some (.ref C_NoClocks)))
  {C_NoText:Addr} (n_NoText:PySem.W.nsIn K mainGlobals "NoText" = some (some (.ref C_NoText)))
  {C_TooGreat:Addr} (n_TooGreat:PySem.W.nsIn K mainGlobals "TooGreat" = some (some (.ref C_TooGreat)))
  {fi_NoClocks:Addr} (i_NoClocks:PySem.W.findIn K (.ref C_NoClocks) "__init__" = some (some (.ref fi_NoClocks)))
  {qd_NoClocks qn_NoClocks:Option Addr} {qs_NoClocks:Array (Option Value)} {qc_NoClocks qk_NoClocks qo_NoClocks qp_NoClocks qe_NoClocks qt_NoClocks:Value} (j_NoClocks:K.lookup fi_NoClocks=some ⟨qc_NoClocks,qd_NoClocks,.func (PySem.W.fnOf "__init__" "NoClocks.__init__" (defArgs qb6z) (defBody qb6z) (defScope qb6z) .none qk_NoClocks qo_NoClocks qp_NoClocks qn_NoClocks qe_NoClocks qt_NoClocks),qs_NoClocks⟩) (h_NoClocks:PySem.W.codeIn K qe_NoClocks "NoClocks.__init__" = true) (g_NoClocks:PySem.W.keepIn K (.ref fi_NoClocks)=true) (y_NoClocks:PySem.W.typeIn K (.ref fi_NoClocks)=some (.type "function"))
  (e_NoClocks:excIn K C_NoClocks (.ref C_ClockError::veTail) (some (.ref fi_NoClocks)) "ValueError.__new__" = true)
  (v1_NoClocks:PySem.W.findIn K (.ref C_NoClocks) "__setattr__" = some (some (.builtin "object.__setattr__"))) (v2_NoClocks:PySem.W.mroIn K C_NoClocks (.type "object")=some true) (v3_NoClocks:PySem.W.keepIn K (.ref C_NoClocks)=true) (v4_NoClocks:PySem.W.findIn K (.ref C_NoClocks) "__getattribute__" = some (some (.builtin "BaseException.__getattribute__"))) (v8_NoClocks:PySem.W.findIn K (.ref C_NoClocks) "__getattr__" = some none) (v9_NoClocks:PySem.W.mroIn K C_NoClocks (.type "BaseException")=some true) (v5_NoClocks:PySem.W.hasDictIn K C_NoClocks=true) (v6_NoClocks:PySem.W.findIn K (.ref C_NoClocks) "__class__" = some (some (.builtin "object.__class__")))
  (w_NoClocks_number:PySem.W.findIn K (.ref C_NoClocks) "number" = some none)
  (x_NoClocks_NoClock:PySem.W.kitOne K (.ref C_NoClocks) (.ref C_NoClock)=some false)
  (x_NoClocks_NoClocks:PySem.W.kitOne K (.ref C_NoClocks) (.ref C_NoClocks)=some true)
  (x_NoClocks_NoNumber:PySem.W.kitOne K (.ref C_NoClocks) (.ref C_NoNumber)=some false)
  (x_NoClocks_NoPlace:PySem.W.kitOne K (.ref C_NoClocks) (.ref C_NoPlace)=some false)
  (x_NoClocks_NoRow:PySem.W.kitOne K (.ref C_NoClocks) (.ref C_NoRow)=some false)
  (x_NoClocks_NoText:PySem.W.kitOne K (.ref C_NoClocks) (.ref C_NoText)=some false)
  (x_NoClocks_TooGreat:PySem.W.kitOne K (.ref C_NoClocks) (.ref C_TooGreat)=some false)
  (xv_NoClocks:PySem.W.kitOne K (.ref C_NoClocks) (.type "ValueError")=some true)
  (eb:excIn K C_ClockError veTail none "ValueError.__new__" = true) (u1:PySem.W.specialIn K (.builtin "object.__class__") "__get__" = some (some (.builtin "getset_descriptor.__get__"))) (u2:PySem.W.takesIn K (.builtin "object.__class__")=some true)
  {t0:Tok} (gint0:PySem.W.nsIn K mainGlobals "MOST_CLOCKS" = some (some (.int 12 t0)))
  {t1:Tok} (gint1:PySem.W.nsIn K mainGlobals "MOST_STEP" = some (some (.int 1000 t1)))
  (z0:PySem.W.nsIn K mainGlobals "ValueError" = some none)
  (z1:PySem.W.nsIn K mainGlobals "all" = some none)
  (z2:PySem.W.nsIn K mainGlobals "bool" = some none)
  (z3:PySem.W.nsIn K mainGlobals "enumerate" = some none)
  (z4:PySem.W.nsIn K mainGlobals "int" = some none)
  (z5:PySem.W.nsIn K mainGlobals "isinstance" = some none)
  (z6:PySem.W.nsIn K mainGlobals "len" = some none)
  (z7:PySem.W.nsIn K mainGlobals "list" = some none)
  (z8:PySem.W.nsIn K mainGlobals "max" = some none)
  (z9:PySem.W.nsIn K mainGlobals "min" = some none)
  (z10:PySem.W.nsIn K mainGlobals "range" = some none)
  (z11:PySem.W.nsIn K mainGlobals "set" = some none)
  (z12:PySem.W.nsIn K mainGlobals "sorted" = some none)
  (z13:PySem.W.nsIn K mainGlobals "tuple" = some none)
  : ∃t:Adr,Txt K mg t/\∀(s:Shared) (v:Value),BindsTo s t.d_law ⟨[v],[]⟩ [("script",v)]:=by
 obtain⟨f0,d0,F0,a0⟩:=h0;obtain⟨f1,d1,F1,a1⟩:=h1;obtain⟨f2,d2,F2,a2⟩:=h2;obtain⟨f3,d3,F3,a3⟩:=h3;obtain⟨f4,d4,F4,a4⟩:=h4;obtain⟨f5,d5,F5,a5⟩:=h5;obtain⟨f6,d6,F6,a6⟩:=h6;obtain⟨f7,d7,F7,a7⟩:=h7;obtain⟨f8,d8,F8,a8⟩:=h8;obtain⟨f9,d9,F9,a9⟩:=h9;obtain⟨f10,d10,F10,a10⟩:=h10;obtain⟨f11,d11,F11,a11⟩:=h11;obtain⟨f12,d12,F12,a12⟩:=h12;obtain⟨f13,d13,F13,a13⟩:=h13;obtain⟨f14,d14,F14,a14⟩:=h14;obtain⟨f15,d15,F15,a15⟩:=h15;obtain⟨f16,d16,F16,a16⟩:=h16;obtain⟨f17,d17,F17,a17⟩:=h17;have I_NoClocks:=qgzz (st:=qb6z) j_NoClocks h_NoClocks g_NoClocks;exact⟨⟨f0,d0,f1,d1,f2,d2,f3,d3,f4,d4,f5,d5,f6,d6,f7,d7,f8,d8,f9,d9,f10,d10,f11,d11,f12,d12,f13,d13,f14,d14,f15,d15,f16,d16,f17,d17,C_ClockError,C_NoClock,C_NoNumber,C_NoPlace,C_NoRow,C_NoClocks,C_NoText,C_TooGreat,fi_NoClocks,_,t0,t1⟩,⟨F0,
  PySem.W.mg_of X G a0,
  F0.binds (ps:=["thing"]) fun _ _ _ _ _ _ us hl=>by obtain⟨_,rfl⟩:=len1 hl;rfl,
  F1,
  PySem.W.mg_of X G a1,
  F1.binds (ps:=["thing"]) fun _ _ _ _ _ _ us hl=>by obtain⟨_,rfl⟩:=len1 hl;rfl,
  F2,
  PySem.W.mg_of X G a2,
  F2.binds (ps:=["things"]) fun _ _ _ _ _ _ us hl=>by obtain⟨_,rfl⟩:=len1 hl;rfl,
  F3,
  PySem.W.mg_of X G a3,
  F3.binds (ps:=["script","k"]) fun _ _ _ _ _ _ us hl=>by obtain⟨_,_,rfl⟩:=len2 hl;rfl,
  F4,
  PySem.W.mg_of X G a4,
  F4.binds (ps:=["seed"]) fun _ _ _ _ _ _ us hl=>by obtain⟨_,rfl⟩:=len1 hl;rfl,
  F5,
  PySem.W.mg_of X G a5,
  F5.binds (ps:=["cell"]) fun _ _ _ _ _ _ us hl=>by obtain⟨_,rfl⟩:=len1 hl;rfl,
  F6,
  PySem.W.mg_of X G a6,
  F6.binds (ps:=["pen","many"]) fun _ _ _ _ _ _ us hl=>by obtain⟨_,_,rfl⟩:=len2 hl;rfl,
  F7,
  PySem.W.mg_of X G a7,
  F7.binds (ps:=["found"]) fun _ _ _ _ _ _ us hl=>by obtain⟨_,rfl⟩:=len1 hl;rfl,
  F8,
  PySem.W.mg_of X G a8,
  F8.binds (ps:=["e"]) fun _ _ _ _ _ _ us hl=>by obtain⟨_,rfl⟩:=len1 hl;rfl,
  F9,
  PySem.W.mg_of X G a9,
  F9.binds (ps:=["pen","most"]) fun _ _ _ _ _ _ us hl=>by obtain⟨_,_,rfl⟩:=len2 hl;rfl,
  F10,
  PySem.W.mg_of X G a10,
  F10.binds (ps:=["pen","least","most"]) fun _ _ _ _ _ _ us hl=>by obtain⟨_,_,_,rfl⟩:=len3 hl;rfl,
  F11,
  PySem.W.mg_of X G a11,
  F11.binds (ps:=["pen","most"]) fun _ _ _ _ _ _ us hl=>by obtain⟨_,_,rfl⟩:=len2 hl;rfl,
  F12,
  PySem.W.mg_of X G a12,
  F12.binds (ps:=["thing"]) fun _ _ _ _ _ _ us hl=>by obtain⟨_,rfl⟩:=len1 hl;rfl,
  F13,
  PySem.W.mg_of X G a13,
  F13.binds (ps:=["thing"]) fun _ _ _ _ _ _ us hl=>by obtain⟨_,rfl⟩:=len1 hl;rfl,
  F14,
  PySem.W.mg_of X G a14,
  F14.binds (ps:=["pen","things"]) fun _ _ _ _ _ _ us hl=>by obtain⟨_,_,rfl⟩:=len2 hl;rfl,
  F15,
  PySem.W.mg_of X G a15,
  F15.binds (ps:=["things","pen"]) fun _ _ _ _ _ _ us hl=>by obtain⟨_,_,rfl⟩:=len2 hl;rfl,
  F16,
  PySem.W.mg_of X G a16,
  F16.binds (ps:=["things"]) fun _ _ _ _ _ _ us hl=>by obtain⟨_,rfl⟩:=len1 hl;rfl,
  F17,
  PySem.W.mg_of X G a17,
  F17.binds (ps:=["script"]) fun _ _ _ _ _ _ us hl=>by obtain⟨_,rfl⟩:=len1 hl;rfl,
  PySem.W.mg_of X G n_ClockError,
  n_ClockError,
  PySem.W.mg_of X G n_NoClock,
  n_NoClock,
  PySem.W.mg_of X G n_NoNumber,
  n_NoNumber,
  PySem.W.mg_of X G n_NoPlace,
  n_NoPlace,
  PySem.W.mg_of X G n_NoRow,
  n_NoRow,
  PySem.W.mg_of X G n_NoClocks,
  n_NoClocks,
  PySem.W.mg_of X G n_NoText,
  n_NoText,
  PySem.W.mg_of X G n_TooGreat,
  n_TooGreat,
  ⟨⟨e_NoClocks,eb⟩,⟨v1_NoClocks,v2_NoClocks,qs7z e_NoClocks,fun n hn=>by
   simp only[List.mem_cons,List.not_mem_nil,or_false] at hn;subst hn;exact w_NoClocks_number⟩,I_NoClocks,qw0z,.cons ⟨⟨_,_,_,_,rfl⟩,by decide⟩ (.nil),by decide +kernel,I_NoClocks.binds (ps:=["self","number"]) (fun _ _ _ _ _ _ us hl=>by obtain⟨_,_,rfl⟩:=len2 hl;rfl),v3_NoClocks,by decide,qs9z y_NoClocks⟩,
  ⟨⟨v4_NoClocks,v8_NoClocks,v9_NoClocks⟩,qs8z e_NoClocks,v6_NoClocks,u1,u2,v2_NoClocks⟩,
  x_NoClocks_NoClock,
  x_NoClocks_NoClocks,
  x_NoClocks_NoNumber,
  x_NoClocks_NoPlace,
  x_NoClocks_NoRow,
  x_NoClocks_NoText,
  x_NoClocks_TooGreat,
  xv_NoClocks,
  ⟨⟨v4_NoClocks,v8_NoClocks,v9_NoClocks⟩,v5_NoClocks,w_NoClocks_number⟩,
  PySem.W.mg_of X G gint0,
  PySem.W.mg_of X G gint1,
  PySem.W.mg_none_of X G z0,
  PySem.W.mg_none_of X G z1,
  PySem.W.mg_none_of X G z2,
  PySem.W.mg_none_of X G z3,
  PySem.W.mg_none_of X G z4,
  PySem.W.mg_none_of X G z5,
  PySem.W.mg_none_of X G z6,
  PySem.W.mg_none_of X G z7,
  PySem.W.mg_none_of X G z8,
  PySem.W.mg_none_of X G z9,
  PySem.W.mg_none_of X G z10,
  PySem.W.mg_none_of X G z11,
  PySem.W.mg_none_of X G z12,
  PySem.W.mg_none_of X G z13⟩,fun s v=>by
  obtain⟨_,_,_,_,_,_,_,_,_,rfl,_⟩:=F17.ex;exact .of_eq rfl⟩
theorem qxsz(K:PySem.W.Frag)(H:Hp)(a:Addr)(ns:List Int)(hl:ns.length≤63)(ho:Only H)(hS:SqL K H a (ns.map V.int)):lowSp K sp_law [.ref a] H (fun v _=>v=.bl true) fun _ _ _=>False:=by
 refine⟨[.scr (ns.map .int)],fun _=>none,fun d _=>d=.bl true,.cons ?_ .nil,(fun _ _ e=>nomatch e),⟨ns,rfl,hl,rfl⟩,fun v H' d G' hv _ _ q=>?_⟩
 ·unfold Hv;refine⟨a,ns.map V.int,rfl,?_,Hvs.ints ns⟩;rcases hS with (h|h)|h
  ·rcases ho a with z|⟨o,xs,z⟩
   ·rw[z] at h;cases h
   ·rw[z] at h;cases h
  ·exact .inl h
  ·exact .inr h
 ·subst q;exact qa7z hv
theorem walk{l:PySem.W.OpenLaw}{q:Program}{loose:List Str}{XP:(Str->Option Value)->Heap->Prop}{YP:World->Heap->Prop}{d:DefRec}{K:Params->PySem.W.Frag}(hn:l.most=some 63)(hdf:d.params.defaults=[])
  (hY:∀(w:World) (h:Heap),YP w h->(K w.params).In h)
  (F:∀(w:World) (mg:Str->Option Value) (fa:Addr) (h:Heap),(K w.params).In h->h.Ns mainGlobals mg->mg d.name=some (.ref fa) ->
   ∃fd:FuncData,(∀(s:Shared) (u:Value),BindsTo s fd ⟨[u],[]⟩ [("script",u)])/\∀base:Heap,(K w.params).In base->base.Ns mainGlobals mg->FnOk l.prog w (K w.params) mg base CX0 5 fa fd ["script"] (lowSp (K w.params) sp_law)):
  PySem.W.WalkO q loose XP YP l.row.toRowW d [] (fun f vs=>PySem.call f vs):=
 L2.walk_of (n:=63) (k:=5) (x:="script") (CX:=fun _=>CX0) (sp:=fun w=>lowSp (K w.params) sp_law) hn (by decide) hdf ⟨rfl,by decide,by decide⟩ hY F (fun w H a ns hl ho hS=>qxsz (K w.params) H a ns hl ho hS) fun _ _ _ _ _ z=>z
end My
open PySem PySem.W PyProof.Rows
set_option maxRecDepth 100000 in
set_option maxHeartbeats 0 in
theorem PySem.Challenge.cw_coverclocks_k02_clocks_made_holds : PySem.Challenge.rw_coverclocks_k02_clocks_made.Holds := by
 w_on;o_law;k_head;(case hw=>w_witness2)
 k_fill
 refine My.walk (l:=PySem.Challenge.rw_coverclocks_k02_clocks_made) rfl rfl (fun w h Y=>PySem.W.kIn_of Y) ?F
 case F=>
  intro w mg fa h KX G hmg
  refine' Exists.elim (My.txt_mk KX G (My.has_mk ?a0 ?l0 ?c0 ?k0) (My.has_mk ?a1 ?l1 ?c1 ?k1) (My.has_mk ?a2 ?l2 ?c2 ?k2) (My.has_mk ?a3 ?l3 ?c3 ?k3) (My.has_mk ?a4 ?l4 ?c4 ?k4) (My.has_mk ?a5 ?l5 ?c5 ?k5) (My.has_mk ?a6 ?l6 ?c6 ?k6) (My.has_mk ?a7 ?l7 ?c7 ?k7) (My.has_mk ?a8 ?l8 ?c8 ?k8) (My.has_mk ?a9 ?l9 ?c9 ?k9) (My.has_mk ?a10 ?l10 ?c10 ?k10) (My.has_mk ?a11 ?l11 ?c11 ?k11) (My.has_mk ?a12 ?l12 ?c12 ?k12) (My.has_mk ?a13 ?l13 ?c13 ?k13) (My.has_mk ?a14 ?l14 ?c14 ?k14) (My.has_mk ?a15 ?l15 ?c15 ?k15) (My.has_mk ?a16 ?l16 ?c16 ?k16) (My.has_mk ?a17 ?l17 ?c17 ?k17) ?n_ClockError ?n_NoClock ?n_NoNumber ?n_NoPlace ?n_NoRow ?n_NoClocks ?n_NoText ?n_TooGreat ?i_NoClocks ?j_NoClocks ?h_NoClocks ?g_NoClocks ?y_NoClocks ?e_NoClocks ?v1_NoClocks ?v2_NoClocks ?v3_NoClocks ?v4_NoClocks ?v8_NoClocks ?v9_NoClocks ?v5_NoClocks ?v6_NoClocks ?w_NoClocks_number ?x_NoClocks_NoClock ?x_NoClocks_NoClocks ?x_NoClocks_NoNumber ?x_NoClocks_NoPlace ?x_NoClocks_NoRow ?x_NoClocks_NoText ?x_NoClocks_TooGreat ?xv_NoClocks ?eb ?u1 ?u2 ?gint0 ?gint1 ?z0 ?z1 ?z2 ?z3 ?z4 ?z5 ?z6 ?z7 ?z8 ?z9 ?z10 ?z11 ?z12 ?z13) ?fin
  case a0|l0|c0|k0|a1|l1|c1|k1|a2|l2|c2|k2|a3|l3|c3|k3|a4|l4|c4|k4|a5|l5|c5|k5|a6|l6|c6|k6|a7|l7|c7|k7|a8|l8|c8|k8|a9|l9|c9|k9=>k_is
  case a10|l10|c10|k10|a11|l11|c11|k11|a12|l12|c12|k12|a13|l13|c13|k13|a14|l14|c14|k14|a15|l15|c15|k15|a16|l16|c16|k16|a17|l17|c17|k17|n_ClockError|n_NoClock|n_NoNumber|n_NoPlace|n_NoRow|n_NoClocks|n_NoText|n_TooGreat=>k_is
  case i_NoClocks|j_NoClocks|h_NoClocks|g_NoClocks|y_NoClocks=>k_is
  case e_NoClocks=>kernel_rfl
  case v1_NoClocks|v2_NoClocks|v3_NoClocks|v4_NoClocks|v8_NoClocks|v9_NoClocks|v5_NoClocks|v6_NoClocks|w_NoClocks_number=>k_is
  case x_NoClocks_NoClock|x_NoClocks_NoClocks|x_NoClocks_NoNumber|x_NoClocks_NoPlace|x_NoClocks_NoRow|x_NoClocks_NoText|x_NoClocks_TooGreat|xv_NoClocks|eb=>kernel_rfl
  case u1|u2|gint0|gint1|z0|z1|z2|z3|z4|z5|z6|z7|z8|z9|z10|z11|z12|z13=>k_is
  case fin=>
   rintro t ⟨T,b⟩
   have e2:=hmg.symm.trans T.m_law
   cases e2
   exact⟨t.d_law,b,fun base _ _=>My.ok_law T⟩
