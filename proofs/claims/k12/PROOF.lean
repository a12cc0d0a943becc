import PyProof.Rows.All
import Wide.All
import OpenK.AllK
import Wide.FinOn
import Lean
import PyProof.EqAt
import PyProof.EqKinds
import PyProof.TupleCall
import PyProof.NeKinds
import KE.KSortAsk
import PySem.SetTable
import PyProof.SetKind
import PyProof.TupleKey
import PyProof.IsRules
import PyProof.DictKinds
import PyProof.FactsAll.set
import PyProof.RangeIter
import PyProof.Seq
import PyProof.ForAny
import PyProof.WalksMore
import PyProof.CollectWalk
import PyProof.CollectIter
import PyProof.WalksS
import PyProof.Rows.SetFrom
import KE.KSortTup
import PyProof.Draws
import PyProof.Rows.Range3
import PyProof.ExcClass2
import PyProof.InstSpecial
import PyProof.RaisesMany
import PyProof.Rows.Own
import KE.KTryDeep
import PyProof.InstStoreFacts
import PyProof.ExcArgs
import PySem.Challenge.RW_coverclocks_k12_cover_papers_told
set_option Elab.async false
set_option linter.all false
set_option maxRecDepth 100000
set_option maxHeartbeats 6400000
namespace PySem.W.Fast
def tw10165327327429038706:=0
def tw10209044982830317982:=0
def tw10422774410223889323:=0
def tw1044305551459310060:=0
def tw1060294359805427603:=0
def tw10690784243558675344:=0
def tw10691675378289812290:=0
def tw10709669620298814538:=0
def tw10728382411382468822:=0
def tw10816982897401550461:=0
def tw10826892872715115462:=0
def tw10980176190411860502:=0
def tw11148691725907488991:=0
def tw11384760804222731366:=0
def tw11460768114857041393:=0
def tw11524836768709040569:=0
def tw11543606842052650018:=0
def tw11583863874581209161:=0
def tw11587612267889741008:=0
def tw11814898256166820825:=0
def tw1202225086740573609:=0
def tw12036468865083603605:=0
def tw1215962665914417754:=0
def tw12307189683512816805:=0
def tw12558053347536100526:=0
def tw12693168395149234052:=0
def tw12723592977650925202:=0
def tw12971139314798042213:=0
def tw12987614959041926372:=0
def tw130066278258606008:=0
def tw13389703379215117673:=0
def tw13419645790698332817:=0
def tw1349939922358477792:=0
def tw13500339115629103434:=0
def tw13864099818416898958:=0
def tw13924589403800104898:=0
def tw13990380293928544375:=0
def tw14406458152599199859:=0
def tw14447952536291438952:=0
def tw14488199295062581770:=0
def tw14536768823195239919:=0
def tw14678319310697069150:=0
def tw14690421992905175684:=0
def tw14742436669828255535:=0
def tw14748958172231538865:=0
def tw14784646436289702230:=0
def tw14816705265852045132:=0
def tw1481995925539363388:=0
def tw14915761948479041210:=0
def tw15145122856954018973:=0
def tw15333515057575705490:=0
def tw15562099091181714699:=0
def tw15696670837681064444:=0
def tw15815943494539760220:=0
def tw16035691673809154441:=0
def tw16185770664280535933:=0
def tw16281092352837183705:=0
def tw16504257478309018572:=0
def tw16840336009081788613:=0
def tw17072837913485874383:=0
def tw17203669364415671140:=0
def tw17210418389685605229:=0
def tw17236518437849666998:=0
def tw17492399000273697719:=0
def tw17565635610685582985:=0
def tw17567062749698724438:=0
def tw17764658838576948245:=0
def tw17814151160815200267:=0
def tw17845028602448710504:=0
def tw17871777421396130515:=0
def tw17995638928810719142:=0
def tw18087246445474008571:=0
def tw2115436524041098142:=0
def tw2123173685295662492:=0
def tw2156740095327606965:=0
def tw2191458493183542490:=0
def tw2460050171886266365:=0
def tw2790429723230273658:=0
def tw288033397784962750:=0
def tw3585342470253332116:=0
def tw376792505061396743:=0
def tw3902601915853443204:=0
def tw4140422927249212447:=0
def tw4376613172556995175:=0
def tw472501322472379410:=0
def tw4855934326805979174:=0
def tw4961602503344283026:=0
def tw5007049133939586928:=0
def tw5020680632112000101:=0
def tw5063218791099329645:=0
def tw5167850563822745147:=0
def tw5196566855834054888:=0
def tw5378921681622110897:=0
def tw5411090424407335644:=0
def tw5427962339153215641:=0
def tw5457675376485289145:=0
def tw5572256619400559130:=0
def tw5584042476751877002:=0
def tw5629686520524418476:=0
def tw5736140313719905057:=0
def tw5768411749525270953:=0
def tw5774783086716161145:=0
def tw58002620568073258:=0
def tw5951415887368619418:=0
def tw6221077529826701391:=0
def tw6675805007316532388:=0
def tw6705328036413343455:=0
def tw6744364659057032478:=0
def tw6838863899573908550:=0
def tw7050060253944830916:=0
def tw7078644398273866448:=0
def tw7109261772045274109:=0
def tw7121461108270186137:=0
def tw7132894619979478781:=0
def tw7213227024382216093:=0
def tw7233210364686534055:=0
def tw7263521140015700092:=0
def tw76569282950736624:=0
def tw7788227048505789408:=0
def tw7971907452524230369:=0
def tw8098075850357871620:=0
def tw8131582843969014437:=0
def tw8224118382135079846:=0
def tw8360943106525646511:=0
def tw8605997547781770471:=0
def tw8616945304325569655:=0
def tw8707392123476013809:=0
def tw8718042298174168546:=0
def tw876112121282119808:=0
def tw8832861473638681328:=0
def tw8905962311398584692:=0
def tw9048986403745651852:=0
def tw9064316053085651549:=0
def tw9132050162756910126:=0
def tw9244316578977348464:=0
def tw9248237796482818084:=0
def tw9451281483716852823:=0
def tw9545202146016835799:=0
def tw9756023408324600661:=0
def tw993825634113875699:=0
def tw9958674488062830201:=0
def tw1054509176039917359:=0
def tw10718403879681413052:=0
def tw10962100083151599524:=0
def tw12121891388695076342:=0
def tw1240914882373231817:=0
def tw13244666934796995331:=0
def tw13596083403447363834:=0
def tw13726462146030148212:=0
def tw1423725611533878885:=0
def tw14285883119888687873:=0
def tw14422419153935245910:=0
def tw14636391741324352466:=0
def tw14799065914773236347:=0
def tw15000695515686252902:=0
def tw15200340779455252424:=0
def tw16060688863356204943:=0
def tw16751317695292340141:=0
def tw17055588265301555445:=0
def tw17161119268876077936:=0
def tw18035181570012084557:=0
def tw1829431695875304487:=0
def tw18304385106717296003:=0
def tw2458049888959014708:=0
def tw2495648611332026852:=0
def tw2711216376353845222:=0
def tw3361466784961500164:=0
def tw3408590221359407651:=0
def tw3582119965259518272:=0
def tw3636753203218615285:=0
def tw3814853008349534160:=0
def tw3971673119614478432:=0
def tw4377113382654747703:=0
def tw4426706558552223499:=0
def tw4602542736801003011:=0
def tw4719911774521164555:=0
def tw5292878698781239471:=0
def tw5326401402222187789:=0
def tw6157332961685183192:=0
def tw6905750255346871708:=0
def tw718032611316892128:=0
def tw7337942015851684719:=0
def tw7755831304314795845:=0
def tw794564470883803250:=0
def tw7973472464658388789:=0
def tw8188451108355789451:=0
def tw8203353081161586750:=0
def tw8314839562829737020:=0
def tw8319587352255815923:=0
def tw8818883661554937341:=0
def tw9091332787936822443:=0
def tw9184559130481811360:=0
def tw9245067806024756198:=0
def tw9322479277861056932:=0
def tw10142773596335438241:=0
def tw10485413221195065145:=0
def tw10915899152902542858:=0
def tw11253259041513391375:=0
def tw11264341142591001415:=0
def tw1140230954169722996:=0
def tw11466119171346750329:=0
def tw12030816520819448370:=0
def tw1214711118925115957:=0
def tw12160496808993761201:=0
def tw12767723230070501596:=0
def tw13945173552896492150:=0
def tw14161203954158565007:=0
def tw14567435725066431294:=0
def tw14908666090523212654:=0
def tw1515670486380084100:=0
def tw15675325968913984117:=0
def tw15825032270576949683:=0
def tw15973591174681239323:=0
def tw16866117251135949733:=0
def tw18214656574959683211:=0
def tw1854430391569625227:=0
def tw2011274497256844671:=0
def tw2212447385725666907:=0
def tw2441328003938856139:=0
def tw2596496626860196677:=0
def tw28327245083901051:=0
def tw378075533850581671:=0
def tw4144683559208344313:=0
def tw4375850083774178781:=0
def tw4525964816276623931:=0
def tw4570108162186321930:=0
def tw6524872933795855437:=0
def tw6550104336226088293:=0
def tw7075722397030318452:=0
def tw7276595046381540316:=0
def tw7913353553733182324:=0
def tw7953770390714276249:=0
def tw7977419668517999099:=0
def tw8156363815343074138:=0
def tw8160042343630351958:=0
def tw8292843243628660977:=0
def tw9078128536278411268:=0
def tw9773867392754313378:=0
def tw10895012248011891258:=0
def tw12933159402946798260:=0
def tw13795325921266261860:=0
def tw15868584831832484631:=0
def tw16215013878566964121:=0
def tw18021021401853178931:=0
def tw18304295163686037189:=0
def tw370221522572569573:=0
def tw574697450527411211:=0
def tw6482329897856039653:=0
def tw6792788096241884585:=0
def tw7072952081280520386:=0
def tw7606786004523359295:=0
def tw7959187452622267799:=0
def tw8687548165082299770:=0
def tw9784946896001430436:=0
def tw12583040903319625089:=0
def tw12991643823072819122:=0
def tw13243877281944325015:=0
def tw14552844947937490857:=0
def tw15462372164670031684:=0
def tw15875406187327946607:=0
def tw18067849741485075737:=0
def tw5727637183605228060:=0
def tw8395886441299202731:=0
def tw13383059683300886335:=0
def tw15074934843435041547:=0
def tw15799549884766957094:=0
def tw16594501177438773453:=0
def tw1833208476212765396:=0
def tw4326481422465918461:=0
def tw7083281364922803599:=0
def tw8779966534272047228:=0
end PySem.W.Fast
namespace L2
open PySem PySem.Spec PyProof.Rows
abbrev Key:=Sum Int Str
def keyIs:Key->Value->Bool
 |.inl k,v=>Value.isInt k v
 |.inr x,v=>Value.isStrOf x v
def keyH(w:World):Key->Int
 |.inl k=>hashInt k
 |.inr x=>hashStr w x
theorem qazz:∀{k:Key} {v:Value},keyIs k v=true->(∃i t,k=Sum.inl i/\v=Value.int i t)∨(∃x t,k=Sum.inr x/\v=Value.str x t)
 |.inl i,v,h=>by
  obtain⟨t,e⟩:=Value.isInt_shape (k:=i) (v:=v) h;exact .inl ⟨i,t,rfl,e⟩
 |.inr x,v,h=>by
  obtain⟨t,e⟩:=Value.isStrOf_shape (x:=x) (v:=v) h;exact .inr ⟨x,t,rfl,e⟩
theorem qmlz(a b:Int):decide ((Sum.inl a:Key)=Sum.inl b)=(a==b):=by
 by_cases e:a=b
 ·subst e;simp
 ·have h:¬(Sum.inl a:Key)=Sum.inl b:=fun q=>e (Sum.inl.inj q);rw[decide_eq_false h];exact (beq_eq_false_iff_ne.mpr e).symm
theorem qmmz(a b:Str):decide ((Sum.inr a:Key)=Sum.inr b)=decide (a=b):=by
 by_cases e:a=b
 ·subst e;simp
 ·have h:¬(Sum.inr a:Key)=Sum.inr b:=fun q=>e (Sum.inr.inj q);rw[decide_eq_false h,decide_eq_false e]
theorem qmnz(a:Int)(b:Str):decide ((Sum.inl a:Key)=Sum.inr b)=false:=decide_eq_false (fun q=>nomatch q)
theorem qmoz(a:Str)(b:Int):decide ((Sum.inr a:Key)=Sum.inl b)=false:=decide_eq_false (fun q=>nomatch q)
def mixKind(prog:Program)(w:World):PySem.KeyKind prog w Key where
 is:=keyIs
 hash:=keyH w
 inj:=fun v a b ha hb=>by
  rcases qazz ha with⟨i,t,rfl,rfl⟩|⟨x,t,rfl,rfl⟩
  ·rcases qazz hb with⟨j,u,rfl,e⟩|⟨y,u,rfl,e⟩
   ·injection e with e1 _;rw[e1]
   ·exact nomatch e
  ·rcases qazz hb with⟨j,u,rfl,e⟩|⟨y,u,rfl,e⟩
   ·exact nomatch e
   ·injection e with e1 _;rw[e1]
 byValue:=fun k v h=>by
  rcases qazz h with⟨i,t,rfl,rfl⟩|⟨x,t,rfl,rfl⟩<;>rfl
 pyHash:=fun hv h=>by
  rcases qazz hv with⟨i,t,rfl,rfl⟩|⟨x,t,rfl,rfl⟩
  ·exact wpAny_pyHash_int h
  ·exact wpAny_pyHash_str h
 eqBool:=fun hu hv h=>by
  rcases qazz hu with⟨i,t,rfl,rfl⟩|⟨x,t,rfl,rfl⟩
  ·rcases qazz hv with⟨j,u,rfl,rfl⟩|⟨y,u,rfl,rfl⟩
   ·rw[qmlz] at h;exact wpAny_eqBool_int h
   ·rw[qmnz] at h;exact SeqAt.EqAt.int_str i t y u _ _ _ _ h
  ·rcases qazz hv with⟨j,u,rfl,rfl⟩|⟨y,u,rfl,rfl⟩
   ·rw[qmoz] at h;exact SeqAt.EqAt.str_int x t j u _ _ _ _ h
   ·rw[qmmz] at h;exact wpAny_eqBool_str h
 «strs»:=fun k x t v h=>by
  rcases qazz h with⟨i,u,rfl,e⟩|⟨y,u,rfl,e⟩
  ·exact nomatch e
  ·injection e with e1 _;subst e1;cases v<;>rfl
end L2
namespace L2
open PySem PySem.Spec PyProof.Rows
inductive V where
 |non|bl (b:Bool)|int (i:Int)|str (x:Str)|byt (b:Array UInt8)|flt (b:UInt64)|ref (a:Addr)|ty (n:String)
 deriving DecidableEq
def RelV:V->Value->Prop
 |.non,u=>u=Value.none
 |.bl b,u=>u=Value.bool b
 |.int i,u=>∃t,u=Value.int i t
 |.str x,u=>∃t,u=Value.str x t
 |.byt b,u=>∃t,u=Value.bytes b t
 |.flt b,u=>∃t,u=Value.float b t
 |.ref a,u=>u=Value.ref a
 |.ty n,u=>u=Value.type n
abbrev Vals:List V->List Value->Prop:=Paired RelV
theorem Vals.length{xs:List V}{us:List Value}(r:Vals xs us):xs.length=us.length:=Paired.length r
theorem Vals.get:∀{xs:List V} {us:List Value} {i:Nat} {x:V},Vals xs us->xs[i]?=some x->∃u,us[i]?=some u/\RelV x u
 |_,_,_,_,.nil,e=>by simp at e
 |_,_,0,_,.cons r _,e=>by simp at e;subst e;exact⟨_,rfl,r⟩
 |_,_,i+1,x,.cons _ t,e=>by
  obtain⟨u,h1,h2⟩:=Vals.get (i:=i) (x:=x) t (by simpa using e);exact⟨u,by simpa using h1,h2⟩
theorem Vals.set{x:V}{u:Value}(r:RelV x u):∀{xs:List V} {us:List Value} (i:Nat),Vals xs us->Vals (xs.set i x) (us.set i u)
 |_,_,_,.nil=>.nil
 |_,_,0,.cons _ t=>.cons r t
 |_,_,i+1,.cons q t=>.cons q (Vals.set r i t)
theorem Vals.append:∀{xs ys:List V} {us ws:List Value},Vals xs us->Vals ys ws->Vals (xs++ys) (us++ws)
 |_,_,_,_,.nil,s=>s
 |_,_,_,_,.cons r t,s=>.cons r (Vals.append t s)
theorem Vals.take:∀{xs:List V} {us:List Value} (n:Nat),Vals xs us->Vals (xs.take n) (us.take n)
 |_,_,0,_=>.nil
 |_,_,_+1,.nil=>.nil
 |_,_,n+1,.cons r t=>.cons r (Vals.take n t)
theorem Vals.drop:∀{xs:List V} {us:List Value} (n:Nat),Vals xs us->Vals (xs.drop n) (us.drop n)
 |_,_,0,r=>r
 |_,_,_+1,.nil=>.nil
 |_,_,n+1,.cons _ t=>Vals.drop n t
def RelO:Option V->Option Value->Prop
 |some v,some u=>RelV v u
 |none,none=>True
 |_,_=>False
def KV{κ:Type}:List (κ×V)->List (κ×Value)->Prop:=Paired fun (p:κ×V) (q:κ×Value)=>p.1=q.1/\RelV p.2 q.2
def kV:Key->V
 |.inl i=>.int i
 |.inr x=>.str x
inductive HO where
 |lst (xs:List V)
 |tup (xs:List V)
 |dK (kvs:List (Key×V))|dT (kvs:List (List Key×V))
 |set (S:Int->Bool) (n:Nat)
 |ins (C dx:Addr) (fs:List (Str×V))
 |own (x:Addr)
 |xd (fs:List (Str×V))
 |met (f x:Addr)
 |rng (lo hi:Int)
 |frz (o:Obj) (u:HO)
 |tbl (ps:Array Value)
 |ext (φ:Heap->Prop)
abbrev Hp:=Addr->Option HO
def upd(H:Hp)(a:Addr)(o:HO):Hp:=fun b=>if b=a then some o else H b
theorem qtz{H:Hp}{a:Addr}{o:HO}:upd H a o a=some o:=by unfold upd;rw[if_pos rfl]
theorem qlz{H:Hp}{a b:Addr}{o:HO}(h:b≠a):upd H a o b=H b:=by unfold upd;rw[if_neg h]
theorem qagz{H:Hp}{a b:Addr}{o:HO}(h:H a=some o)(h':H b=none):a≠b:=by
 intro e;subst e;rw[h] at h';cases h'
section
variable (P:Program) (w:World)
def ObjOk(H:Hp)(h:Heap)(a:Addr):HO->Prop
 |.lst xs=>xs.length≤sizeLine/\∃(its:List Value) (n:Nat),Vals xs its/\h.get? a=some { cls:=.type "list",data:=.seq its.toArray n }
 |.tup xs=>xs.length≤sizeLine/\∃its:List Value,Vals xs its/\IsTup h a its.toArray
 |.dK kvs=>kvs.length≤sizeLine/\(a==sysModules)=false/\∃vs,KV kvs vs/\h.DictOf (mixKind P w) a vs
 |.dT kvs=>kvs.length≤sizeLine/\(a==sysModules)=false/\∃xs:List (List Key×Addr×Value),
   Paired (fun (p:List Key×V) (q:List Key×Addr×Value)=>p.1=q.1/\H q.2.1=some (.tup (p.1.map kV))/\RelV p.2 q.2.2) kvs xs ∧
   ∃o es ep,h.get? a=some o/\o.ExactDict/\o.data=.dict es ep/\es.toList=xs.map (entryOfKey (tupleKind (mixKind P w)))/\(xs.map (·.1)).Nodup
 |.set S n=>h.SetOf (intKind P w) a S n
 |.ins C dx fs=>H dx=some (.own a)/\fs.length≤1000/\dx≠a/\h.get? a=some (PySem.W.instObj C dx) ∧
   ∃mA,h.Ns1 dx mA/\(∀f,RelO (fs.lookup f) (mA f))/\PySem.Within mA (fs.map (·.1))
 |.own _=>∃o,h.get? a=some o
 |.xd fs=>∃mA,h.Ns1 a mA/\∀f,RelO (fs.lookup f) (mA f)
 |.rng lo hi=>∃t u v,h.get? a=some { cls:=.type "range",data:=.fields #[.int lo t,.int hi u,.int 1 v]}
 |.frz o u=>h.get? a=some o/\ObjOk H h a u
 |.tbl ps=>h.get? a=some { cls:=.none,data:=.fields ps }
 |.met f x=>h.get? a=some (PySem.W.methodObj (.ref f) (.ref x))
 |.ext φ=>φ h/\(∃o,h.get? a=some o)/\∀h1 h2:Heap,φ h1->(∀o,h1.get? a=some o->h2.get? a=some o)->φ h2
def HOk(H:Hp)(h:Heap):Prop:=∀a o,H a=some o->ObjOk P w H h a o
end
section
variable {P:Program} {w:World} {H H':Hp} {h h':Heap} {a:Addr} {o:HO}
theorem ObjOk.lt(x:ObjOk P w H h a o):a<h.objs.size:=by
 cases o with
 |lst xs=>obtain⟨_,_,_,_,e⟩:=x;exact Heap.lt_size e
 |tup xs=>obtain⟨_,_,_,p⟩:=x;exact p.lt
 |dK kvs=>obtain⟨_,_,_,_,o,_,_,e,_⟩:=x;exact Heap.lt_size e
 |dT kvs=>obtain⟨_,_,_,_,o,_,_,e,_⟩:=x;exact Heap.lt_size e
 |set S n=>obtain⟨o,_,_,_,e,_⟩:=x;exact Heap.lt_size e
 |ins C dx fs=>obtain⟨_,_,_,e,_⟩:=x;exact Heap.lt_size e
 |own y=>obtain⟨_,e⟩:=x;exact Heap.lt_size e
 |xd fs=>obtain⟨_,⟨_,_,_,e,_⟩,_⟩:=x;exact Heap.lt_size e
 |rng lo hi=>obtain⟨_,_,_,e⟩:=x;exact Heap.lt_size e
 |frz ob u=>obtain⟨e,_⟩:=x;exact Heap.lt_size e
 |tbl ps=>exact Heap.lt_size (show h.get? a=some _ from x)
 |met f y=>exact Heap.lt_size (show h.get? a=some _ from x)
 |ext φ=>obtain⟨_,⟨_,e⟩,_⟩:=x;exact Heap.lt_size e
theorem Paired.mapP{α β:Type}{F G:α->β->Prop}:∀{l₁:List α} {l₂:List β},Paired F l₁ l₂->(∀a b,F a b->G a b)->Paired G l₁ l₂
 |_,_,.nil,_=>.nil
 |_,_,.cons r t,f=>.cons (f _ _ r) (Paired.mapP t f)
theorem ObjOk.stay(x:ObjOk P w H h a o)(k:∀b u,(b=a∨H b=some (.own a))->h.get? b=some u->h'.get? b=some u)
  (ho:∀b,H b=some (.own a)->H' b=some (.own a)) (ht:∀b xs,H b=some (.tup xs)->H' b=some (.tup xs)):ObjOk P w H' h' a o:=by
 induction o with
 |lst xs=>obtain⟨z,its,n,r,e⟩:=x;exact⟨z,its,n,r,k _ _ (.inl rfl) e⟩
 |tup xs=>obtain⟨z,its,r,ob,e,c⟩:=x;exact⟨z,its,r,ob,k _ _ (.inl rfl) e,c⟩
 |dK kvs=>obtain⟨z,y,vs,r,ob,es,ep,e,c⟩:=x;exact⟨z,y,vs,r,ob,es,ep,k _ _ (.inl rfl) e,c⟩
 |dT kvs=>
  obtain⟨z,y,xs,r,ob,es,ep,e,c⟩:=x;exact⟨z,y,xs,Paired.mapP r fun p q z=>⟨z.1,ht _ _ z.2.1,z.2.2⟩,ob,es,ep,k _ _ (.inl rfl) e,c⟩
 |set S n=>obtain⟨ob,es,ep,t,e,c⟩:=x;exact⟨ob,es,ep,t,k _ _ (.inl rfl) e,c⟩
 |ins C dx fs=>
  obtain⟨d,z,ne,e,mA,⟨od,es,ep,e2,c⟩,r⟩:=x;exact⟨ho _ d,z,ne,k _ _ (.inl rfl) e,mA,⟨od,es,ep,k _ _ (.inr d) e2,c⟩,r⟩
 |own y=>obtain⟨ob,e⟩:=x;exact⟨ob,k _ _ (.inl rfl) e⟩
 |xd fs=>obtain⟨mA,⟨od,es,ep,e,c⟩,r⟩:=x;exact⟨mA,⟨od,es,ep,k _ _ (.inl rfl) e,c⟩,r⟩
 |rng lo hi=>obtain⟨t,u,v,e⟩:=x;exact⟨t,u,v,k _ _ (.inl rfl) e⟩
 |frz ob u ih=>obtain⟨e,q⟩:=x;exact⟨k _ _ (.inl rfl) e,ih q⟩
 |tbl ps=>
  have e:h.get? a=some { cls:=.none,data:=.fields ps }:=x;show h'.get? a=some { cls:=.none,data:=.fields ps };exact k a _ (.inl rfl) e
 |met f y=>
  have e:h.get? a=some (PySem.W.methodObj (.ref f) (.ref y)):=x;show h'.get? a=some (PySem.W.methodObj (.ref f) (.ref y));exact k a _ (.inl rfl) e
 |ext φ=>obtain⟨p,⟨o,e⟩,st⟩:=x;exact⟨st _ _ p fun o q=>k _ _ (.inl rfl) q,⟨o,k _ _ (.inl rfl) e⟩,st⟩
theorem HOk.lt(x:HOk P w H h)(e:H a=some o):a<h.objs.size:=(x a o e).lt
theorem HOk.fresh(x:HOk P w H h)(e:h.objs.size≤a):H a=none:=by
 cases q:H a with
 |none=>rfl
 |some u=>exact absurd (Nat.lt_of_lt_of_le (x.lt q) e) (Nat.lt_irrefl _)
theorem HOk.kept(x:HOk P w H h)(k:∀b u,h.get? b=some u->h'.get? b=some u):HOk P w H h':=fun a o e=>
 (x a o e).stay (fun b u _ q=>k b u q) (fun _ q=>q) fun _ _ q=>q
theorem HOk.laid(x:HOk P w H h)(k:∀b u,h.get? b=some u->h'.get? b=some u)(hp:h.objs.size≤a)(new:ObjOk P w (upd H a o) h' a o):HOk P w (upd H a o) h':=fun b u e=>by
 have hn:=x.fresh hp;by_cases hb:b=a
 ·subst hb;rw[qtz] at e;cases e;exact new
 ·rw[qlz hb] at e;exact (x b u e).stay (fun c v _ q=>k c v q) (fun c q=>by rw[qlz (qagz q hn)];exact q) fun c xs q=>by rw[qlz (qagz q hn)];exact q
end
def Rd(H:Hp)(a:Addr)(u:HO):Prop:=H a=some u∨∃o,H a=some (.frz o u)
theorem Rd.ok{P:Program}{w:World}{H:Hp}{h:Heap}{a:Addr}{u:HO}(r:Rd H a u)(x:HOk P w H h):ObjOk P w H h a u:=by
 rcases r with r|⟨o,r⟩
 ·exact x a u r
 ·obtain⟨_,q⟩:=x a _ r;exact q
def Mut:Option HO->Prop
 |some (.lst _)=>True
 |some (.dK _)=>True
 |some (.dT _)=>True
 |some (.set _ _)=>True
 |some (.ins _ _ _)=>True
 |some (.ext _)=>True
 |_=>False
section
variable {P:Program} {w:World} {H:Hp} {h h':Heap} {x e:Addr} {o':HO}
theorem HOk.write(ok:HOk P w H h)(mu:Mut (H x))(he:e=x∨H e=some (.own x))(k:∀b u,b≠e->h.get? b=some u->h'.get? b=some u)(heo:∃u,h'.get? e=some u)
  (new:ObjOk P w (upd H x o') h' x o'):HOk P w (upd H x o') h':=fun b u q=>by
 have nown:∀c y,H c=some (.own y)->c≠x:=fun c y r z=>by subst z;rw[r] at mu;exact mu
 have ntup:∀c xs,H c=some (.tup xs)->c≠x:=fun c xs r z=>by subst z;rw[r] at mu;exact mu
 by_cases hb:b=x
 ·subst hb;rw[qtz] at q;cases q;exact new
 ·rw[qlz hb] at q;by_cases hbe:b=e
  ·have q':H b=some (.own x):=by
    rcases he with z|z
    ·exact absurd (hbe.trans z) hb
    ·rw[hbe];exact z
   rw[q] at q';cases q';obtain⟨v,hv⟩:=heo;exact⟨v,by rw[hbe];exact hv⟩
  ·refine (ok b u q).stay (fun c v hc r=>k c v ?_ r) (fun c r=>by rw[qlz (nown c b r)];exact r) fun c xs r=>by rw[qlz (ntup c xs r)];exact r
   rcases hc with rfl|hc
   ·exact hbe
   ·rintro rfl;rcases he with z|z
    ·exact nown c b hc z
    ·rw[hc] at z;cases z;exact hb rfl
end
structure Un(fs ex:List Addr)(H H':Hp)(h h':Heap):Prop where
 keep:∀b o,h.get? b=some o->H b=none->b∉fs->b∉ex->h'.get? b=some o
 slot:∀b o,h.get? b=some o->H b=none->b∈fs->b∉ex->∃sl,h'.get? b=some { o with slots:=sl }
 free:∀b o,h.get? b=some o->H b=none->b∉ex->H' b=none
 there:∀b o,h.get? b=some o->b∉ex->∃o',h'.get? b=some o'
 tups:∀b xs,H b=some (.tup xs)->H' b=some (.tup xs)
 frzs:∀b o u,H b=some (.frz o u)->H' b=some (.frz o u)
 tbls:∀b ps,H b=some (.tbl ps)->∃more,H' b=some (.tbl (ps++more))
section
variable {fs fs' ex ex':List Addr} {H H1 H2:Hp} {h h1 h2 h':Heap} {a x e:Addr} {o:HO}
theorem Un.any(u:Un fs ex H H1 h h1){b:Addr}{ob:Obj}(q:h.get? b=some ob)(n:H b=none)(hx:b∉ex):∃sl,h1.get? b=some { ob with slots:=sl }:=by
 by_cases hb:b∈fs
 ·exact u.slot b ob q n hb hx
 ·exact⟨ob.slots,u.keep b ob q n hb hx⟩
theorem Un.kept(k:∀b u,h.get? b=some u->h'.get? b=some u):Un fs ex H H h h':=
 ⟨fun b ob q _ _ _=>k b ob q,fun b ob q _ _ _=>⟨ob.slots,k b ob q⟩,fun _ _ _ n _=>n,fun b ob q _=>⟨ob,k b ob q⟩,fun _ _ q=>q,fun _ _ _ q=>q,fun _ ps q=>⟨#[],by rw[q];simp⟩⟩
theorem Un.refl:Un fs ex H H h h:=Un.kept fun _ _ q=>q
theorem Un.laid(k:∀b u,h.get? b=some u->h'.get? b=some u)(hp:h.objs.size≤a)(hn:H a=none):Un fs ex H (upd H a o) h h' where
 keep:=fun b u q _ _ _=>k b u q
 slot:=fun b u q _ _ _=>⟨u.slots,k b u q⟩
 free:=fun b u q n _=>by rw[qlz (Nat.ne_of_lt (Nat.lt_of_lt_of_le (Heap.lt_size q) hp))];exact n
 there:=fun b u q _=>⟨u,k b u q⟩
 tups:=fun b xs q=>by rw[qlz (qagz q hn)];exact q
 frzs:=fun b u xs q=>by rw[qlz (qagz q hn)];exact q
 tbls:=fun b ps q=>⟨#[],by rw[qlz (qagz q hn),q];simp⟩
theorem Un.write(mu:Mut (H x))(he:e=x∨H e=some (.own x))(k:∀b u,b≠e->h.get? b=some u->h'.get? b=some u)(heo:∃u,h'.get? e=some u):Un fs ex H (upd H x o) h h':=by
 have hx:∀b,H b=none->b≠x:=fun b n z=>by subst z;rw[n] at mu;exact mu
 have hb:∀b,H b=none->b≠e:=fun b n z=>by
  subst z;rcases he with r|r
  ·exact hx b n r
  ·rw[n] at r;cases r
 have hm:∀b u,H b=some u->¬Mut (some u)->b≠x:=fun b u q nm z=>by subst z;rw[q] at mu;exact nm mu
 refine⟨fun b u q n _ _=>k b u (hb b n) q,fun b u q n _ _=>⟨u.slots,k b u (hb b n) q⟩,fun b u q n _=>by rw[qlz (hx b n)];exact n,fun b u q _=>?_,
  fun b xs q=>by rw[qlz (hm b _ q fun z=>z)];exact q,fun b u xs q=>by rw[qlz (hm b _ q fun z=>z)];exact q,fun b ps q=>⟨#[],by rw[qlz (hm b _ q fun z=>z),q];simp⟩⟩
 by_cases hbe:b=e
 ·subst hbe;exact heo
 ·exact⟨u,k b u hbe q⟩
end
def trk(h:Heap)(H:Hp):List Addr:=(List.range h.objs.size).filter fun a=>(H a).isSome
def hidT(h:Heap)(H:Hp):Heap:=PySem.W.hideAll h (trk h H)
theorem qmpz(h:Heap)(H:Hp):(hidT h H).objs.size=h.objs.size:=PySem.W.hideAll_size _ _
theorem qmqz{h:Heap}{H:Hp}{b:Addr}{o:Obj}(e:h.get? b=some o)(n:H b=none):(hidT h H).get? b=some o:=
 PySem.W.hideAll_get _ e fun hm=>by
  have q:(H b).isSome=true:=(List.mem_filter.mp hm).2;rw[n] at q;simp at q
theorem qmrz{h:Heap}{H:Hp}{b:Addr}{o:Obj}(e:(hidT h H).get? b=some o):h.get? b=some o/\H b=none:=by
 have e':h.get? b=some o:=PySem.W.of_hideAll (trk h H) e;refine⟨e',?_⟩;cases q:H b with
 |none=>rfl
 |some x=>
  have hm:b∈trk h H:=List.mem_filter.mpr ⟨List.mem_range.mpr (Heap.lt_size e'),by simp[q]⟩;have z:(hidT h H).get? b=none:=PySem.W.hideAll_none (trk h H) hm;rw[z] at e;cases e
end L2
namespace L2
open PySem PySem.Spec PyProof.Rows
structure Mod(K:PySem.W.Frag)(mg:Str->Option Value)(base:Heap):Prop where
 kin:K.In base
 glob:base.Ns mainGlobals mg
 blt:∃mb,base.Ns builtinsNs mb/\∀x:Str,x≠"__name__"->mb x=bootBuiltins x
 nolimit:base.NoLimit
structure Cx where
 prog:Program
 w:World
 K:PySem.W.Frag
 mg:Str->Option Value
 base:Heap
 A:Around
 N:List Str
 s₀:Shared
 H₀:Hp
 env:Env
 outer:List Env
 stack:List Env
 ex:List Addr
 fn:Str->Bool
 calm:Bool
 pn:List (Addr×Obj)
 xe:Value->Shared->Prop
def frs(l:List Env):List Addr:=l.filterMap (·.frame)
abbrev Cx.fs(X:Cx):List Addr:=frs X.outer
def Vis(sc:Scope)(x:Str):Prop:=sc.names.lookup x=some .local∨sc.names.lookup x=some .cell∨sc.names.lookup x=some .free
def Loc(sc:Scope)(x:Str):Prop:=sc.names.lookup x=some .local∨sc.names.lookup x=some .cell
def Look(env:Env)(h:Heap)(m:Str->Option Value)(x:Str)(u:Value):Prop:=
 (env.kindOf x=some .local/\m x=some u)∨((env.kindOf x=some .cell∨env.kindOf x=some .free)/\∃c,env.cells.lookup x=some c/\h.IsCell c (some u))
structure Cx.Ok(X:Cx):Prop where
 mod:Mod X.K X.mg X.base
 kind:X.env.scope.kind=.function
 glob:X.env.globals=mainGlobals
 blt:X.env.builtins=builtinsNs
 above:X.s₀.heap.objs.size≤X.env.locals
 inj:∀x y c,X.env.cells.lookup x=some c->X.env.cells.lookup y=some c->x=y
 has:∀x,(X.env.kindOf x=some .cell∨X.env.kindOf x=some .free)->∃c,X.env.cells.lookup x=some c
 cab:∀x c,X.fn x=true->X.env.cells.lookup x=some c->X.s₀.heap.objs.size≤c
 hd:X.calm=true->X.A.handled=none
 frames:X.A.frames=some X.stack
 stk:X.stack=X.outer∨(X.stack=X.env::X.outer/\X.env.frame=some X.env.locals)
 exf:∀b∈X.ex,b≠X.env.locals/\∀x c,X.env.cells.lookup x=some c->c≠b
 bs:∀b o,X.base.get? b=some o->X.s₀.heap.get? b=some o/\X.H₀ b=none
 bsz:X.base.objs.size≤X.s₀.heap.objs.size
 noex:∀b o,X.base.get? b=some o->b∉X.ex
 exfs:∀b∈X.ex,b∉X.fs
 funs:X.s₀.heap.FunFrames X.base X.outer
 frf:∀b∈X.fs,X.H₀ b=none
structure Inv(X:Cx)(pins:List (Addr×Obj))(σ:List (Option V))(H:Hp)(s:Shared):Prop where
 ok:X.Ok
 os:s.os=X.s₀.os
 bare:AllBare s.gens
 base:Un X.fs X.ex X.H₀ H X.s₀.heap s.heap
 loc:∃m,s.heap.Ns X.env.locals m/\∀(i:Nat) (x:Str) (v:V),X.N[i]?=some x->σ[i]?=some (some v)->Vis X.env.scope x->∃u,RelV v u/\Look X.env s.heap m x u
 cell:∀x c,X.env.cells.lookup x=some c->∃v,s.heap.IsCell c v
 free:H X.env.locals=none
 freeC:∀x c,X.env.cells.lookup x=some c->H c=none
 pin:∀p∈X.pn++pins,s.heap.get? p.1=some p.2/\H p.1=none/\p.1≠X.env.locals/\p.1∉X.fs/\∀v,p.2.data≠.cell v
 hok:HOk X.prog X.w H s.heap
 len:σ.length=X.N.length
section
variable {X:Cx} {pins:List (Addr×Obj)} {σ:List (Option V)} {H H':Hp} {s:Shared} {h':Heap}
theorem Cx.Ok.nofr(ok:X.Ok){b:Addr}{o:Obj}(e:X.base.get? b=some o):b∉X.fs:=fun hb=>by
 have:=(ok.funs.mem hb).1;rw[e] at this;cases this
theorem Inv.bs(I:Inv X pins σ H s):∀b o,X.base.get? b=some o->s.heap.get? b=some o/\H b=none:=fun b o e=>
 ⟨I.base.keep b o (I.ok.bs b o e).1 (I.ok.bs b o e).2 (I.ok.nofr e) (I.ok.noex b o e),I.base.free b o (I.ok.bs b o e).1 (I.ok.bs b o e).2 (I.ok.noex b o e)⟩
theorem Inv.bk(I:Inv X pins σ H s):∀b o,X.base.get? b=some o->s.heap.get? b=some o:=fun b o e=>(I.bs b o e).1
theorem Inv.mod(I:Inv X pins σ H s):Mod X.K X.mg X.base:=I.ok.mod
theorem Inv.kIn(I:Inv X pins σ H s):X.K.In s.heap:=I.ok.mod.kin.keeps I.bk
theorem Inv.nolimit(I:Inv X pins σ H s):s.heap.NoLimit:=I.ok.mod.nolimit.keeps I.bk
theorem Inv.lt(I:Inv X pins σ H s):X.env.locals<s.heap.objs.size:=let ⟨_,hn,_⟩:=I.loc;hn.lt
theorem Inv.sz(I:Inv X pins σ H s):X.s₀.heap.objs.size≤s.heap.objs.size:=Nat.le_trans I.ok.above (Nat.le_of_lt I.lt)
theorem Inv.nofs(I:Inv X pins σ H s){a:Addr}(h:s.heap.objs.size≤a):a∉X.fs:=fun hb=>by
 obtain⟨_,o,ho,_⟩:=I.ok.funs.mem hb;exact absurd (Nat.lt_of_lt_of_le (Heap.lt_size ho) (Nat.le_trans I.sz h)) (Nat.lt_irrefl _)
theorem Inv.cne(I:Inv X pins σ H s):∀x c,X.env.cells.lookup x=some c->c≠X.env.locals:=fun x c e z=>by
 obtain⟨v,o,ho,hd⟩:=I.cell x c e;obtain⟨m,⟨o',es,ep,ho',hd',_⟩,_⟩:=I.loc;rw[z,ho'] at ho;cases ho;rw[hd'] at hd;cases hd
theorem Inv.funs(I:Inv X pins σ H s):s.heap.FunFrames X.base X.outer:=by
 have all:∀(l:List Env),(∀b∈frs l,b∈X.fs)->X.s₀.heap.FunFrames X.base l->s.heap.FunFrames X.base l:=by
  intro l
  induction l with
  |nil=>intro _ _;trivial
  |cons env r ih=>
   intro hs hl;obtain⟨hk,⟨L,o,hf,hn,ho,hd⟩,hr⟩:=hl;have hL:L∈X.fs:=hs L (by unfold frs;rw[List.filterMap_cons,hf];exact List.mem_cons_self);obtain⟨sl,e⟩:=I.base.slot L o ho (I.ok.frf L hL) hL fun z=>I.ok.exfs L z hL;exact⟨hk,⟨L,_,hf,hn,e,hd⟩,ih (fun b hb=>hs b (by unfold frs;rw[List.filterMap_cons,hf];exact List.mem_cons_of_mem _ hb)) hr⟩
 exact all X.outer (fun _ hb=>hb) I.ok.funs
theorem Inv.stack(I:Inv X pins σ H s):s.heap.FunFrames X.base X.stack:=by
 rcases I.ok.stk with e|⟨e,hf⟩
 ·rw[e];exact I.funs
 ·rw[e];obtain⟨m,hn,_⟩:=I.loc;refine .cons (by rw[I.ok.kind];decide) hf hn ?_ I.funs;exact Heap.get?_none_of_le (Nat.le_trans I.ok.bsz I.ok.above)
theorem Inv.stkSub(I:Inv X pins σ H s):∀b∈frs X.stack,b∈X.env.locals::X.fs:=fun b hb=>by
 rcases I.ok.stk with e|⟨e,hf⟩
 ·rw[e] at hb;exact List.mem_cons_of_mem _ hb
 ·rw[e] at hb;unfold frs at hb;rw[List.filterMap_cons,hf] at hb;exact hb
theorem Inv.stkFree(I:Inv X pins σ H s):∀b∈frs X.stack,H b=none:=fun b hb=>by
 rcases List.mem_cons.mp (I.stkSub b hb) with e|hb
 ·rw[e];exact I.free
 ·obtain⟨_,o,ho,_⟩:=I.ok.funs.mem hb;exact I.base.free b o ho (I.ok.frf b hb) fun z=>I.ok.exfs b z hb
theorem Inv.step{g':Array GenState}{t':Nat}{d':Drawn}{ch:List Addr}(I:Inv X pins σ H s)
  (hch:∀b∈ch,(b∈X.ex∨X.s₀.heap.objs.size≤b)/\b≠X.env.locals/\(∀x c,X.env.cells.lookup x=some c->c≠b)/\∀p∈X.pn++pins,p.1≠b)
  (keep:∀b o,b≠X.env.locals->b∉X.fs->b∉ch->s.heap.get? b=some o->H b=none->h'.get? b=some o)
  (slot:∀b o,b≠X.env.locals->b∈X.fs->b∉ch->s.heap.get? b=some o->H b=none->∃sl,h'.get? b=some { o with slots:=sl }) (free:∀b o,b∉ch->s.heap.get? b=some o->H b=none->H' b=none)
  (there:∀b o,b∉ch->s.heap.get? b=some o->∃o',h'.get? b=some o')
  (tups:∀b xs,H b=some (.tup xs)->H' b=some (.tup xs)) (frzs:∀b o u,H b=some (.frz o u)->H' b=some (.frz o u)) (tbls:∀b ps,H b=some (.tbl ps)->∃more,H' b=some (.tbl (ps++more)))
  (ns:∀m,s.heap.Ns X.env.locals m->h'.Ns X.env.locals m) (hok:HOk X.prog X.w H' h') (hg:AllBare g'):
  Inv X pins σ H' { s with heap:=h',gens:=g',drawn:=d',toks:=t' }:=by
 have neL:∀b o,X.s₀.heap.get? b=some o->b≠X.env.locals:=fun b o e=>Nat.ne_of_lt (Nat.lt_of_lt_of_le (Heap.lt_size e) I.ok.above);have neC:∀b o,X.s₀.heap.get? b=some o->b∉X.ex->b∉ch:=fun b o e hx hb=>by
  rcases (hch b hb).1 with z|z
  ·exact hx z
  ·exact absurd (Nat.lt_of_lt_of_le (Heap.lt_size e) z) (Nat.lt_irrefl _)
 have cellK:∀x c,X.env.cells.lookup x=some c->∀v,s.heap.IsCell c v->h'.IsCell c v:=fun x c e v ⟨o,ho,hd⟩=>by
  have nch:c∉ch:=fun z=>(hch c z).2.2.1 x c e rfl;by_cases hc:c∈X.fs
  ·obtain⟨sl,q⟩:=slot c o (I.cne x c e) hc nch ho (I.freeC x c e);exact⟨_,q,hd⟩
  ·exact⟨o,keep c o (I.cne x c e) hc nch ho (I.freeC x c e),hd⟩
 refine⟨I.ok,I.os,hg,⟨fun b o e n hb hx=>?_,fun b o e n hb hx=>?_,fun b o e n hx=>?_,fun b o e hx=>?_,fun b xs e=>tups b xs (I.base.tups b xs e),fun b o xs e=>frzs b o xs (I.base.frzs b o xs e),fun b ps e=>?_⟩,?_,fun x c e=>?_,?_,fun x c e=>?_,fun p hp=>?_,hok,I.len⟩
 ·exact keep b o (neL b o e) hb (neC b o e hx) (I.base.keep b o e n hb hx) (I.base.free b o e n hx)
 ·obtain⟨sl,e1⟩:=I.base.slot b o e n hb hx;obtain⟨sl',e2⟩:=slot b _ (neL b o e) hb (neC b o e hx) e1 (I.base.free b o e n hx);exact⟨sl',e2⟩
 ·obtain⟨o',e1⟩:=I.base.there b o e hx;exact free b o' (neC b o e hx) e1 (I.base.free b o e n hx)
 ·obtain⟨o',e1⟩:=I.base.there b o e hx;exact there b o' (neC b o e hx) e1
 ·obtain⟨m1,e1⟩:=I.base.tbls b ps e;obtain⟨m2,e2⟩:=tbls b _ e1;exact⟨m1++m2,by rw[e2,Array.append_assoc]⟩
 ·obtain⟨m,hn,hl⟩:=I.loc;refine⟨m,ns m hn,fun i x v e1 e2 e3=>?_⟩;obtain⟨u,r,l⟩:=hl i x v e1 e2 e3;refine⟨u,r,?_⟩;rcases l with l|⟨k,c,e,z⟩
  ·exact .inl l
  ·exact .inr ⟨k,c,e,cellK x c e _ z⟩
 ·obtain⟨v,z⟩:=I.cell x c e;exact⟨v,cellK x c e v z⟩
 ·obtain⟨m,⟨o,_,_,ho,_⟩,_⟩:=I.loc;exact free _ o (fun z=>(hch _ z).2.1 rfl) ho I.free
 ·obtain⟨v,o,ho,hd⟩:=I.cell x c e;exact free c o (fun z=>(hch c z).2.2.1 x c e rfl) ho (I.freeC x c e)
 ·obtain⟨e,n,ne,nf,d⟩:=I.pin p hp;have nch:p.1∉ch:=fun z=>(hch p.1 z).2.2.2 p hp rfl;exact⟨keep p.1 p.2 ne nf nch e n,free p.1 p.2 nch e n,ne,nf,d⟩
theorem Inv.un{t':Nat}(I:Inv X pins σ H s)(u:Un X.fs [] H H' s.heap h')(hok:HOk X.prog X.w H' h'):Inv X pins σ H' { s with heap:=h',toks:=t' }:=by
 obtain⟨m,⟨o,es,ep,ho,r⟩,_⟩:=id I.loc;obtain⟨sl,hL⟩:=u.any ho I.free (by simp);exact I.step (g':=s.gens) (d':=s.drawn) (ch:=[]) (fun _ z=>nomatch z) (fun b o _ hb _ e n=>u.keep b o e n hb (by simp)) (fun b o _ hb _ e n=>u.slot b o e n hb (by simp)) (fun b o _ e n=>u.free b o e n (by simp)) (fun b o _ e=>u.there b o e (by simp)) u.tups u.frzs u.tbls (fun m' hm=>by
  obtain⟨o',es',ep',ho',r'⟩:=hm;rw[ho] at ho';cases ho';exact⟨_,es',ep',hL,r'⟩) hok I.bare
theorem Inv.call{g':Array GenState}{t':Nat}{d':Drawn}{ch:List Addr}(I:Inv X pins σ H s)(u:Un (frs X.stack) ch H H' s.heap h')(hok:HOk X.prog X.w H' h')(hg:AllBare g')
  (hch:∀b∈ch,(b∈X.ex∨X.s₀.heap.objs.size≤b)/\b≠X.env.locals/\(∀x c,X.env.cells.lookup x=some c->c≠b)/\∀p∈X.pn++pins,p.1≠b):
  Inv X pins σ H' { s with heap:=h',gens:=g',drawn:=d',toks:=t' }:=by
 obtain⟨m,⟨o,es,ep,ho,r⟩,_⟩:=id I.loc;obtain⟨sl,hL⟩:=u.any ho I.free fun z=>(hch _ z).2.1 rfl;exact I.step (ch:=ch) hch (fun b o hL hb hc e n=>u.keep b o e n (fun z=>(List.mem_cons.mp (I.stkSub b z)).elim hL hb) hc) (fun b o _ _ hc e n=>u.any e n hc) (fun b o hc e n=>u.free b o e n hc) (fun b o hc e=>u.there b o e hc) u.tups u.frzs u.tbls (fun m' hm=>by
  obtain⟨o',es',ep',ho',r'⟩:=hm;rw[ho] at ho';cases ho';exact⟨_,es',ep',hL,r'⟩) hok hg
theorem Inv.turned{t':Nat}{it:Addr}(I:Inv X pins σ H s)(k:∀b o,b≠it->s.heap.get? b=some o->h'.get? b=some o)(hn:H it=none)(hL:it≠X.env.locals)
  (h1:it∈X.ex∨X.s₀.heap.objs.size≤it) (h2:∀x c,X.env.cells.lookup x=some c->c≠it) (h3:∀p∈X.pn++pins,p.1≠it):Inv X pins σ H { s with heap:=h',toks:=t' }:=by
 have nit:∀b u,H b=some u->b≠it:=fun b u e z=>by rw[z,hn] at e;cases e
 refine I.step (g':=s.gens) (d':=s.drawn) (ch:=[it]) (fun b hb=>?_) (fun b o _ _ hc e _=>k b o (fun z=>hc (by simp[z])) e) (fun b o _ _ hc e _=>⟨o.slots,k b o (fun z=>hc (by simp[z])) e⟩) (fun _ _ _ _ n=>n)
  (fun b o hc e=>⟨o,k b o (fun z=>hc (by simp[z])) e⟩) (fun _ _ e=>e) (fun _ _ _ e=>e) (fun b ps e=>⟨#[],by rw[e];simp⟩) (fun m hm=>?_) (fun b u e=>?_) I.bare
 ·have e:b=it:=by simpa using hb
  subst e;exact⟨h1,hL,h2,h3⟩
 ·obtain⟨o,es,ep,ho,r⟩:=hm;exact⟨o,es,ep,k _ o (Ne.symm hL) ho,r⟩
 ·refine (I.hok b u e).stay (fun c v hc q=>k c v ?_ q) (fun _ q=>q) fun _ _ q=>q;rcases hc with z|z
  ·rw[z];exact nit b u e
  ·exact nit c _ z
theorem Inv.tok(I:Inv X pins σ H s)(t:Nat):Inv X pins σ H { s with toks:=t }:=I.un (h':=s.heap) (t':=t) Un.refl I.hok
theorem Inv.kept{t':Nat}(I:Inv X pins σ H s)(k:∀b u,s.heap.get? b=some u->h'.get? b=some u):Inv X pins σ H { s with heap:=h',toks:=t' }:=I.un (Un.kept k) (I.hok.kept k)
theorem Inv.laid{a:Addr}{o:HO}{t':Nat}(I:Inv X pins σ H s)(k:∀b u,s.heap.get? b=some u->h'.get? b=some u)(hp:s.heap.objs.size≤a)(new:ObjOk X.prog X.w (upd H a o) h' a o):
  Inv X pins σ (upd H a o) { s with heap:=h',toks:=t' }:=I.un (Un.laid k hp (I.hok.fresh hp)) (I.hok.laid k hp new)
theorem Inv.write{x e:Addr}{o:HO}{t':Nat}(I:Inv X pins σ H s)(mu:Mut (H x))(he:e=x∨H e=some (.own x))(k:∀b u,b≠e->s.heap.get? b=some u->h'.get? b=some u)(heo:∃u,h'.get? e=some u)
  (new:ObjOk X.prog X.w (upd H x o) h' x o):Inv X pins σ (upd H x o) { s with heap:=h',toks:=t' }:=I.un (Un.write mu he k heo) (I.hok.write mu he k heo new)
theorem Inv.pins_of{pins':List (Addr×Obj)}(I:Inv X pins σ H s)(h:∀p∈pins',s.heap.get? p.1=some p.2/\H p.1=none/\p.1≠X.env.locals/\p.1∉X.fs/\∀v,p.2.data≠.cell v):Inv X pins' σ H s:=
 ⟨I.ok,I.os,I.bare,I.base,I.loc,I.cell,I.free,I.freeC,fun p hp=>(List.mem_append.mp hp).elim (fun z=>I.pin p (List.mem_append_left _ z)) (h p),I.hok,I.len⟩
theorem qhez{N:List Str}(hN:N.Nodup){i j:Nat}{x:Str}(a:N[i]?=some x)(b:N[j]?=some x):i=j:=by
 obtain⟨h1,e1⟩:=List.getElem?_eq_some_iff.mp a;obtain⟨h2,e2⟩:=List.getElem?_eq_some_iff.mp b;exact (List.getElem_inj hN).mp (e1.trans e2.symm)
theorem qeuz{M:Model}{A:Around}{E:Value->Shared->Prop}{i:Nat}{x:Str}{v:V}{u:Value}{Q:Unit->Shared->Prop}(I:Inv X pins σ H s)(hN:X.N.Nodup)(hi:X.N[i]?=some x)(hx:Loc X.env.scope x)(r:RelV v u)
  (h:∀s',Inv X pins (σ.set i (some v)) H s'->(∃a,Heap.SameBut a s.heap s'.heap/\(a=X.env.locals∨X.env.cells.lookup x=some a))->Q () s') (hf:X.fn x=true∨X.env.scope.names.lookup x=some .local:=by first|exact .inl rfl|exact .inr rfl|assumption):wpAny M A (storeName X.env x u) Q E s:=by
 obtain⟨m,hn,hl⟩:=id I.loc;have hcls:(X.env.scope.kind==.class||(X.env.scope.kind==.module&&X.env.locals != X.env.globals))=false:=by rw[I.ok.kind];rfl
 have hiσ:i<σ.length:=by rw[I.len];exact (List.getElem?_eq_some_iff.mp hi).1
 have cne:=I.cne;have tracked:∀{a:Addr} {h':Heap},(∃o,s.heap.get? a=some o/\H a=none)->Heap.SameBut a s.heap h'->HOk X.prog X.w H h':=fun {a h'} ha hs b ob e=>by
  obtain⟨_,_,hfree⟩:=ha;refine (I.hok b ob e).stay (fun c w' hc q=>(hs.2 c ?_).trans q) (fun _ q=>q) fun _ _ q=>q;rintro rfl;rcases hc with rfl|hc
  ·rw[hfree] at e;cases e
  ·rw[hfree] at hc;cases hc
 rcases hx with hk|hk
 ·refine wpAny_storeName_local hk hn (fun h' hn' hs=>?_) hcls;obtain⟨oL,_,_,hoL,_⟩:=id hn;refine h _ ⟨I.ok,I.os,I.bare,⟨fun b o e n hb hx=>?_,fun b o e n hb hx=>?_,I.base.free,fun b o e hx=>?_,I.base.tups,I.base.frzs,I.base.tbls⟩,⟨_,hn',fun j y v' e1 e2 e3=>?_⟩,fun y c e=>?_,I.free,I.freeC,fun p hp=>?_,tracked ⟨oL,hoL,I.free⟩ hs,by simpa using I.len⟩ ⟨_,hs,.inl rfl⟩
  ·exact (hs.2 b (Nat.ne_of_lt (Nat.lt_of_lt_of_le (Heap.lt_size e) I.ok.above))).trans (I.base.keep b o e n hb hx)
  ·obtain⟨sl,e1⟩:=I.base.slot b o e n hb hx;exact⟨sl,(hs.2 b (Nat.ne_of_lt (Nat.lt_of_lt_of_le (Heap.lt_size e) I.ok.above))).trans e1⟩
  ·obtain⟨o',e1⟩:=I.base.there b o e hx;exact⟨o',(hs.2 b (Nat.ne_of_lt (Nat.lt_of_lt_of_le (Heap.lt_size e) I.ok.above))).trans e1⟩
  ·by_cases hj:j=i
   ·subst hj;rw[hi] at e1;cases e1;rw[List.getElem?_set_self hiσ] at e2;cases e2;exact⟨u,r,.inl ⟨hk,by simp⟩⟩
   ·rw[List.getElem?_set_ne (Ne.symm hj)] at e2;obtain⟨u',r',q⟩:=hl j y v' e1 e2 e3;refine⟨u',r',?_⟩;rcases q with⟨k,e⟩|⟨k,c,e,z⟩
    ·refine .inl ⟨k,?_⟩;have:y≠x:=fun e=>hj (qhez hN e1 (e▸hi));simp[this,e]
    ·exact .inr ⟨k,c,e,z.sameBut hs (cne y c e)⟩
  ·obtain⟨w',z⟩:=I.cell y c e;exact⟨w',z.sameBut hs (cne y c e)⟩
  ·obtain⟨e,n,ne,nf,d⟩:=I.pin p hp;exact⟨(hs.2 p.1 ne).trans e,n,ne,nf,d⟩
 ·have hfn:X.fn x=true:=by
   rcases hf with z|z
   ·exact z
   ·rw[z] at hk;cases hk
  obtain⟨c,hc⟩:=I.ok.has x (.inl hk);obtain⟨w',z⟩:=I.cell x c hc;refine wpAny_storeName_cell I.ok.kind hk hc z (fun h' hc' hs=>?_);obtain⟨oc,hoc,hocd⟩:=id z;refine h { s with heap:=h' } ⟨I.ok,I.os,I.bare,⟨fun b o e n hb hx=>?_,fun b o e n hb hx=>?_,I.base.free,fun b o e hx=>?_,I.base.tups,I.base.frzs,I.base.tbls⟩,⟨m,hn.sameBut hs (Ne.symm (cne x c hc)),fun j y v' e1 e2 e3=>?_⟩,fun y c' e=>?_,I.free,I.freeC,fun p hp=>?_,tracked ⟨oc,hoc,I.freeC x c hc⟩ hs,by simpa using I.len⟩ ⟨c,hs,.inr hc⟩
  ·exact (hs.2 b (Nat.ne_of_lt (Nat.lt_of_lt_of_le (Heap.lt_size e) (I.ok.cab x c hfn hc)))).trans (I.base.keep b o e n hb hx)
  ·obtain⟨sl,e1⟩:=I.base.slot b o e n hb hx;exact⟨sl,(hs.2 b (Nat.ne_of_lt (Nat.lt_of_lt_of_le (Heap.lt_size e) (I.ok.cab x c hfn hc)))).trans e1⟩
  ·obtain⟨o',e1⟩:=I.base.there b o e hx;exact⟨o',(hs.2 b (Nat.ne_of_lt (Nat.lt_of_lt_of_le (Heap.lt_size e) (I.ok.cab x c hfn hc)))).trans e1⟩
  ·by_cases hj:j=i
   ·subst hj;rw[hi] at e1;cases e1;rw[List.getElem?_set_self hiσ] at e2;cases e2;exact⟨u,r,.inr ⟨.inl hk,c,hc,hc'⟩⟩
   ·rw[List.getElem?_set_ne (Ne.symm hj)] at e2;obtain⟨u',r',q⟩:=hl j y v' e1 e2 e3;refine⟨u',r',?_⟩;rcases q with q|⟨k,c',e,z'⟩
    ·exact .inl q
    ·refine .inr ⟨k,c',e,z'.sameBut hs ?_⟩;rintro rfl;exact hj (qhez hN e1 (I.ok.inj _ _ _ e hc▸hi))
  ·by_cases hcc:c'=c
   ·subst hcc;exact⟨_,hc'⟩
   ·obtain⟨w2,z2⟩:=I.cell y c' e;exact⟨w2,z2.sameBut hs hcc⟩
  ·obtain⟨e,n,ne,nf,d⟩:=I.pin p hp;refine⟨(hs.2 p.1 ?_).trans e,n,ne,nf,d⟩;intro q;rw[q,hoc] at e;have q':oc=p.2:=Option.some.inj e;exact d w' (by rw[←q'];exact hocd)
theorem qbiz{M:Model}{A:Around}{E:Value->Shared->Prop}{i:Nat}{x:Str}{v:V}{u:Value}{Q:Unit->Shared->Prop}(I:Inv X pins σ H s)(hN:X.N.Nodup)(hi:X.N[i]?=some x)(hx:Loc X.env.scope x)(r:RelV v u)
  (h:∀s',Inv X pins (σ.set i (some v)) H s'->Q () s') (hf:X.fn x=true∨X.env.scope.names.lookup x=some .local:=by first|exact .inl rfl|exact .inr rfl|assumption):wpAny M A (storeName X.env x u) Q E s:=
 qeuz I hN hi hx r (fun s' I' _=>h s' I') hf
theorem Inv.call'{s':Shared}{ch:List Addr}(I:Inv X pins σ H s)(ho:s'.os=s.os)(u:Un (frs X.stack) ch H H' s.heap s'.heap)(hok:HOk X.prog X.w H' s'.heap)(hg:AllBare s'.gens)
  (hch:∀b∈ch,(b∈X.ex∨X.s₀.heap.objs.size≤b)/\b≠X.env.locals/\(∀x c,X.env.cells.lookup x=some c->c≠b)/\∀p∈X.pn++pins,p.1≠b):Inv X pins σ H' s':=by
 obtain⟨h',g',d',t',o'⟩:=s';have e:o'=s.os:=ho;subst e;exact I.call (g':=g') (t':=t') (d':=d') u hok hg hch
end
abbrev XK:=Value->Option Addr->Hp->Prop
abbrev St:=List (Option V)
abbrev VK:=V->Hp->Prop
abbrev TE:=St->Hp->VK->Prop
abbrev TT:=St->Hp->(Bool->Hp->Prop)->Prop
abbrev TA:=St->Hp->(List V->Hp->Prop)->Prop
structure Ends where
 nx:St->Hp->Prop
 rt:VK
 bk:St->Hp->Prop:=fun _ _=>False
 ct:St->Hp->Prop:=fun _ _=>False
abbrev TS:=Ends->St->Hp->Prop
def EP(X:Cx)(pins:List (Addr×Obj))(σ:St)(Q:VK)(u:Value)(s':Shared):Prop:=∃v H',Inv X pins σ H' s'/\RelV v u/\Q v H'
def TP(X:Cx)(pins:List (Addr×Obj))(σ:St)(Q:Bool->Hp->Prop)(b:Bool)(s':Shared):Prop:=∃H',Inv X pins σ H' s'/\Q b H'
def AP(X:Cx)(pins:List (Addr×Obj))(σ:St)(Q:List V->Hp->Prop)(us:List Value)(s':Shared):Prop:=∃vs H',Inv X pins σ H' s'/\Vals vs us/\Q vs H'
def SP(X:Cx)(pins:List (Addr×Obj))(D:Ends)(f:Flow)(s':Shared):Prop:=
 match f with
 |.next=>∃σ' H',Inv X pins σ' H' s'/\D.nx σ' H'
 |.brk=>∃σ' H',Inv X pins σ' H' s'/\D.bk σ' H'
 |.cont=>∃σ' H',Inv X pins σ' H' s'/\D.ct σ' H'
 |.ret u=>∃v σ' H',Inv X pins σ' H' s'/\RelV v u/\D.rt v H'
def PE(X:Cx)(e:Expr)(t:TE):Prop:=
 ∀(pins:List (Addr×Obj)) (s:Shared) (σ:St) (H:Hp) (Q:VK),Inv X pins σ H s->t σ H Q->wpAny (model X.prog X.w) X.A (eval e X.env) (EP X pins σ Q) X.xe s
def PT(X:Cx)(e:Expr)(t:TT):Prop:=
 ∀(pins:List (Addr×Obj)) (s:Shared) (σ:St) (H:Hp) (Q:Bool->Hp->Prop),Inv X pins σ H s->t σ H Q->wpAny (model X.prog X.w) X.A (isTrue e X.env (eval e X.env)) (TP X pins σ Q) X.xe s
def PW(X:Cx)(e:Expr)(t:TT):Prop:=
 ∀(whole:Sem Value) (pins:List (Addr×Obj)) (s:Shared) (σ:St) (H:Hp) (Q:Bool->Hp->Prop),Inv X pins σ H s->t σ H Q->wpAny (model X.prog X.w) X.A (isTrue e X.env whole) (TP X pins σ Q) X.xe s
theorem PW.pt{X:Cx}{e:Expr}{t:TT}(h:PW X e t):PT X e t:=h _
def PA(X:Cx)(es:List Expr)(t:TA):Prop:=
 ∀(pos:Pos) (pins:List (Addr×Obj)) (s:Shared) (σ:St) (H:Hp) (Q:List V->Hp->Prop),Inv X pins σ H s->t σ H Q->wpAny (model X.prog X.w) X.A (spliced (backTo pos (starEach es X.env))) (AP X pins σ Q) X.xe s
def PS(X:Cx)(st:Stmt)(t:TS):Prop:=
 ∀(pins:List (Addr×Obj)) (s:Shared) (σ:St) (H:Hp) (D:Ends),Inv X pins σ H s->t D σ H->wpAny (model X.prog X.w) X.A (exec st X.env) (SP X pins D) X.xe s
def PSs(X:Cx)(st:List Stmt)(t:TS):Prop:=
 ∀(pins:List (Addr×Obj)) (s:Shared) (σ:St) (H:Hp) (D:Ends),Inv X pins σ H s->t D σ H->wpAny (model X.prog X.w) X.A (execs st X.env) (SP X pins D) X.xe s
theorem thn{α:Type}{t:Sem α}{Q Q':α->Shared->Prop}{M:Model}{A:Around}{E:Value->Shared->Prop}{s:Shared}(h:wpAny M A t Q E s)(hQ:∀a s,Q a s->Q' a s):wpAny M A t Q' E s:=wpAny_mono h hQ fun _ _ x=>x
end L2
namespace L2
open PySem PySem.Spec PyProof.Rows
section
variable {X:Cx}
theorem bin{a b:Expr}{ta tb:TE}(ha:PE X a ta)(hb:PE X b tb){pins:List (Addr×Obj)}{s:Shared}{σ:St}{H:Hp}{R:V->V->Hp->Prop}(I:Inv X pins σ H s)(h:ta σ H fun x H1=>tb σ H1 fun y H2=>R x y H2)
  {α:Type} {Q:α->Shared->Prop} {f:Value->Value->Sem α}
  (hf:∀v u s2 x y H2,Inv X pins σ H2 s2->RelV x v->RelV y u->R x y H2->wpAny (model X.prog X.w) X.A (f v u) Q X.xe s2):
  wpAny (model X.prog X.w) X.A (eval a X.env) (fun v s₁=>wpAny (model X.prog X.w) X.A (eval b X.env) (fun u s₂=>wpAny (model X.prog X.w) X.A (f v u) Q X.xe s₂) X.xe s₁) X.xe s:=by
 refine thn (ha pins s σ H _ I h) fun v s1 ⟨x,H1,I1,r1,q1⟩=>?_;refine thn (hb pins s1 σ H1 _ I1 q1) fun u s2 ⟨y,H2,I2,r2,q2⟩=>?_;exact hf v u s2 x y H2 I2 r1 r2 q2
def tVar(i:Nat):TE:=fun σ H Q=>∃v,σ[i]?=some (some v)/\Q v H
def tC(v:V):TE:=fun _ H Q=>Q v H
theorem qmsz{i:Nat}{x:Str}{pos:Pos}(hN:X.N[i]?=some x)(hv:Vis X.env.scope x)(hd:(x==("__debug__":Str))=false:=by decide)(hcd:(x==("__classdict__":Str))=false:=by decide):PE X (.Name x pos) (tVar i):=by
 intro pins s σ H Q I h;obtain⟨v,e,h⟩:=h;obtain⟨m,hn,hl⟩:=I.loc;obtain⟨u,r,l⟩:=hl i x v hN e hv;have fin:EP X pins σ Q u s:=⟨v,H,I,r,h⟩;rcases l with⟨hk,hm⟩|⟨hk,c,hc,hcell⟩
 ·exact wpAny_Name (wpAny_loadName_local I.ok.kind hk hn hm fin) hd
 ·rcases hk with hk|hk
  ·exact wpAny_Name (wpAny_loadName_cell I.ok.kind hk hc hcell fin) hd
  ·exact wpAny_Name (wpAny_loadName_free I.ok.kind hk hc hcell fin hcd) hd
theorem qmtz{i j pos}:PE X (.Constant (.int i) j pos) (tC (.int i)):=fun _ _ _ H _ I h=>wpAny_Constant_int ⟨.int i,H,I.tok _,⟨_,rfl⟩,h⟩
theorem qmuz{b j pos}:PE X (.Constant (.bool b) j pos) (tC (.bl b)):=fun _ _ _ H _ I h=>Constant_bool ⟨.bl b,H,I,rfl,h⟩
theorem qmvz{j pos}:PE X (.Constant .none j pos) (tC .non):=fun _ _ _ H _ I h=>Constant_none ⟨.non,H,I,rfl,h⟩
theorem qmwz{x j pos}:PE X (.Constant (.str x) j pos) (tC (.str x)):=fun _ _ _ H _ I h=>Calls.Constant_str ⟨.str x,H,I.tok _,⟨_,rfl⟩,h⟩
def Gl(X:Cx)(x:Str):Prop:=X.env.kindOf x=some .globalImplicit
theorem qa0z{E:Value->Shared->Prop}{pins:List (Addr×Obj)}{s:Shared}{σ:St}{H:Hp}{x:Str}{u:Value}{pos:Pos}{Q:Value->Shared->Prop}(I:Inv X pins σ H s)(hg:Gl X x)(hm:X.mg x=some u)(h:Q u s)
  (hd:(x==("__debug__":Str))=false:=by decide):wpAny (model X.prog X.w) X.A (eval (.Name x pos) X.env) Q E s:=
 Calls.Name_function_global I.ok.kind hg (Calls.loadGlobal_global (by rw[I.ok.glob];exact I.mod.glob.keeps I.bk) hm h) hd
theorem qa7z{E:Value->Shared->Prop}{pins:List (Addr×Obj)}{s:Shared}{σ:St}{H:Hp}{x:Str}{u:Value}{pos:Pos}{Q:Value->Shared->Prop}(I:Inv X pins σ H s)(hg:Gl X x)(hm:X.mg x=none)(hv:bootBuiltins x=some u)(h:Q u s)
  (hn:x≠"__name__":=by decide) (hd:(x==("__debug__":Str))=false:=by decide):wpAny (model X.prog X.w) X.A (eval (.Name x pos) X.env) Q E s:=by
 obtain⟨mb,h1,h2⟩:=I.mod.blt;exact Calls.Name_function_global I.ok.kind hg (Calls.loadGlobal_builtin (by rw[I.ok.glob];exact I.mod.glob.keeps I.bk) hm (by rw[I.ok.blt];exact h1.keeps I.bk) ((h2 x hn).trans hv) h) hd
theorem qhfz{x:Str}{v:V}{u:Value}{pos:Pos}(hg:Gl X x)(hm:X.mg x=some u)(r:RelV v u)(hd:(x==("__debug__":Str))=false:=by decide):PE X (.Name x pos) (tC v):=
 fun _ _ _ H _ I h=>qa0z I hg hm ⟨v,H,I,r,h⟩ hd
theorem qhgz{x:Str}{v:V}{u:Value}{pos:Pos}(hg:Gl X x)(hm:X.mg x=none)(hv:bootBuiltins x=some u)(r:RelV v u)(hn:x≠"__name__":=by decide)(hd:(x==("__debug__":Str))=false:=by decide):PE X (.Name x pos) (tC v):=
 fun _ _ _ H _ I h=>qa7z I hg hm hv ⟨v,H,I,r,h⟩ hn hd
variable {a b:Expr} {ta tb:TE} {pos:Pos}
def PC(X:Cx)(op:CmpOp)(a b:Expr)(t:TE):Prop:=
 ∀(pins:List (Addr×Obj)) (s:Shared) (σ:St) (H:Hp) (Q:VK),Inv X pins σ H s->t σ H Q ->
  wpAny (model X.prog X.w) X.A (eval a X.env) (fun v s₁=>wpAny (model X.prog X.w) X.A (eval b X.env) (fun u s₂=>wpAny (model X.prog X.w) X.A (compareOp op v u) (EP X pins σ Q) X.xe s₂) X.xe s₁) X.xe s
def tB(t:TE):TT:=fun σ H Q=>t σ H fun x H1=>∃c,x=.bl c/\Q c H1
theorem qmxz{op:CmpOp}{t:TE}(h:PC X op a b t)(h1:behindInMarks op b=false:=by first|exact nobehind _ (by decide) (by decide)|rfl):PT X (.Compare a [op] [b] pos) (tB t):=by
 intro pins s σ H Q I hw;refine wpAny_isTrue_Compare1 (thn (h pins s σ H _ I hw) fun v s1 h1=>thn h1 fun u s2 h2=>thn h2 fun c s3 ⟨x,H1,I1,r1,q1⟩=>?_) h1;obtain⟨d,rfl,q⟩:=q1;cases r1;exact wpAny_truthy_bool ⟨H1,I1,q⟩
variable {tA tB':TT} {rest:List Expr}
def tAnd(t u:TT):TT:=fun σ H Q=>t σ H fun c H1=>if c=true then u σ H1 Q else Q false H1
def tOr(t u:TT):TT:=fun σ H Q=>t σ H fun c H1=>if c=true then Q true H1 else u σ H1 Q
def tNot(t:TT):TT:=fun σ H Q=>t σ H fun c H1=>Q (!c) H1
theorem pw_and1(ha:PT X a tA):PW X (.BoolOp .And [a] pos) tA:=by
 intro wh pins s σ H Q I h;refine isTrue_and (thn (ha pins s σ H Q I h) fun c s1 e=>?_);cases c with
 |true=>exact isTrue_and_nil e
 |false=>exact e
theorem pw_or1(ha:PT X a tA):PW X (.BoolOp .Or [a] pos) tA:=by
 intro wh pins s σ H Q I h;refine isTrue_or (thn (ha pins s σ H Q I h) fun c s1 e=>?_);cases c with
 |false=>exact isTrue_or_nil e
 |true=>exact e
theorem pw_and(ha:PT X a tA)(hb:PW X (.BoolOp .And (b::rest) pos) tB'):PW X (.BoolOp .And (a::b::rest) pos) (tAnd tA tB'):=by
 intro wh pins s σ H Q I h;refine isTrue_and (thn (ha pins s σ H _ I h) fun c s1 ⟨H1,I1,q1⟩=>?_);cases c with
 |true=>exact hb wh pins s1 σ H1 Q I1 q1
 |false=>exact⟨H1,I1,q1⟩
theorem pw_or(ha:PT X a tA)(hb:PW X (.BoolOp .Or (b::rest) pos) tB'):PW X (.BoolOp .Or (a::b::rest) pos) (tOr tA tB'):=by
 intro wh pins s σ H Q I h;refine isTrue_or (thn (ha pins s σ H _ I h) fun c s1 ⟨H1,I1,q1⟩=>?_);cases c with
 |true=>exact⟨H1,I1,q1⟩
 |false=>exact hb wh pins s1 σ H1 Q I1 q1
theorem qmyz(ha:PT X a tA):PT X (.UnaryOp .Not a pos) (tNot tA):=by
 intro pins s σ H Q I h;exact isTrue_not (ha pins s σ H (fun c H1=>Q (!c) H1) I h)
def tAndV(ta tb:TE):TE:=fun σ H Q=>ta σ H fun x H1=>∃c,x=.bl c/\if c=true then tb σ H1 Q else Q (.bl false) H1
def tNotV(ta:TE):TE:=fun σ H Q=>ta σ H fun x H1=>∃c,x=.bl c/\Q (.bl (!c)) H1
theorem qmzz{op}{t:TE}(h:PE X a t):PE X (.BoolOp op [a] pos) t:=fun pins s σ H Q I hw=>BoolOp_one (h pins s σ H Q I hw)
theorem qm0z(ha:PE X a ta)(hb:PE X (.BoolOp .And (b::rest) pos) tb):PE X (.BoolOp .And (a::b::rest) pos) (tAndV ta tb):=by
 intro pins s σ H Q I h;refine BoolOp_and (thn (ha pins s σ H _ I h) fun v s1 ⟨x,H1,I1,r1,q1⟩=>?_);obtain⟨c,rfl,q1⟩:=q1;cases r1;refine wpAny_truthy_bool ?_;cases c with
 |true=>exact hb pins s1 σ H1 Q I1 q1
 |false=>exact⟨.bl false,H1,I1,rfl,q1⟩
theorem qm1z(ha:PE X a ta):PE X (.UnaryOp .Not a pos) (tNotV ta):=by
 intro pins s σ H Q I h;refine UnaryOp_ (thn (ha pins s σ H _ I h) fun v s1 ⟨x,H1,I1,r1,q1⟩=>?_);obtain⟨c,rfl,q1⟩:=q1;cases r1;exact not_of (wpAny_truthy_bool ⟨.bl (!c),H1,I1,rfl,q1⟩)
end
end L2
namespace L2
open PySem PySem.Spec PyProof.Rows
def SqL(K:PySem.W.Frag)(H:Hp)(a:Addr)(xs:List V):Prop:=
 Rd H a (.lst xs) ∨
  ∃(o:Obj) (its:Array Value) (n:Nat),K.lookup a=some o/\o.cls=.type "list"/\o.dict=none/\o.data=.seq its n/\its.size≤sizeLine/\Vals xs its.toList
def SqT(K:PySem.W.Frag)(H:Hp)(a:Addr)(xs:List V):Prop:=
 Rd H a (.tup xs) ∨
  ∃(o:Obj) (its:Array Value) (n:Nat),K.lookup a=some o/\o.cls=.type "tuple"/\o.data=.seq its n/\its.size≤sizeLine/\Vals xs its.toList
def absV:Value->Option V
 |.none=>some .non
 |.bool b=>some (.bl b)
 |.int i _=>some (.int i)
 |.str x _=>some (.str x)
 |.bytes b _=>some (.byt b)
 |.float b _=>some (.flt b)
 |.ref a=>some (.ref a)
 |.type n=>some (.ty n)
 |_=>none
theorem RelV.abs{x:V}{u:Value}(r:RelV x u):absV u=some x:=by
 cases x with
 |non=>cases r;rfl
 |bl _=>cases r;rfl
 |int _=>obtain⟨t,rfl⟩:=r;rfl
 |str _=>obtain⟨t,rfl⟩:=r;rfl
 |byt _=>obtain⟨t,rfl⟩:=r;rfl
 |flt _=>obtain⟨t,rfl⟩:=r;rfl
 |ref _=>cases r;rfl
 |ty _=>cases r;rfl
theorem RelV.inj{x y:V}{u:Value}(r:RelV x u)(q:RelV y u):x=y:=Option.some.inj (r.abs.symm.trans q.abs)
theorem Vals.inj:∀{xs ys:List V} {us:List Value},Vals xs us->Vals ys us->xs=ys
 |_,_,_,.nil,.nil=>rfl
 |_,_,_,.cons r t,.cons r' t'=>by rw[r.inj r',Vals.inj t t']
section
variable {X:Cx} {pins:List (Addr×Obj)} {σ:St} {H:Hp} {s:Shared} {a:Addr} {xs ys:List V}
theorem SqL.of{K:PySem.W.Frag}(h:H a=some (.lst xs)):SqL K H a xs:=.inl (.inl h)
theorem SqT.of{K:PySem.W.Frag}(h:H a=some (.tup xs)):SqT K H a xs:=.inl (.inl h)
theorem Inv.list(I:Inv X pins σ H s)(h:SqL X.K H a xs):∃its:List Value,Vals xs its/\PlainL s.heap a its.toArray/\xs.length≤sizeLine:=by
 rcases h with h|⟨o,its,n,hk,hc,hd,hs,hz,r⟩
 ·obtain⟨z,its,n,r,e⟩:=h.ok I.hok;exact⟨its,r,⟨_,n,e,rfl,rfl,rfl⟩,z⟩
 ·refine⟨its.toList,r,⟨o,n,I.kIn a o hk,hc,hd,by simpa using hs⟩,?_⟩;have e:=r.length;simp only[Array.length_toList] at e;lia
theorem Inv.tuple(I:Inv X pins σ H s)(h:SqT X.K H a xs):∃its:List Value,Vals xs its/\IsTup s.heap a its.toArray/\xs.length≤sizeLine:=by
 rcases h with h|⟨o,its,n,hk,hc,hs,hz,r⟩
 ·obtain⟨z,its,r,p⟩:=h.ok I.hok;exact⟨its,r,p,z⟩
 ·refine⟨its.toList,r,⟨o,I.kIn a o hk,hc,n,by simpa using hs⟩,?_⟩;have e:=r.length;simp only[Array.length_toList] at e;lia
theorem Inv.list_inj(I:Inv X pins σ H s)(h:SqL X.K H a xs)(h':SqL X.K H a ys):xs=ys:=by
 obtain⟨its,r,⟨o,n,e,_,_,d⟩,_⟩:=I.list h;obtain⟨its',r',⟨o',n',e',_,_,d'⟩,_⟩:=I.list h';rw[e] at e';cases e';rw[d] at d';injection d' with d1 _
 have:its=its':=by simpa using congrArg Array.toList d1
 subst this;exact r.inj r'
theorem Inv.tuple_inj(I:Inv X pins σ H s)(h:SqT X.K H a xs)(h':SqT X.K H a ys):xs=ys:=by
 obtain⟨its,r,⟨o,e,_,n,d⟩,_⟩:=I.tuple h;obtain⟨its',r',⟨o',e',_,n',d'⟩,_⟩:=I.tuple h';rw[e] at e';cases e';rw[d] at d';injection d' with d1 _
 have:its=its':=by simpa using congrArg Array.toList d1
 subst this;exact r.inj r'
end
abbrev Cx.wish(X:Cx)(E:Value->Shared->Prop):Cx:={ X with xe:=E }
abbrev Cx.nox(X:Cx):Cx:=X.wish fun _ _=>False
theorem Cx.Ok.wish{X:Cx}(ok:X.Ok)(E:Value->Shared->Prop):(X.wish E).Ok:=
 ⟨ok.mod,ok.kind,ok.glob,ok.blt,ok.above,ok.inj,ok.has,ok.cab,ok.hd,ok.frames,ok.stk,ok.exf,ok.bs,ok.bsz,ok.noex,ok.exfs,ok.funs,ok.frf⟩
theorem Cx.Ok.unwish{X:Cx}{E:Value->Shared->Prop}(ok:(X.wish E).Ok):X.Ok:=
 ⟨ok.mod,ok.kind,ok.glob,ok.blt,ok.above,ok.inj,ok.has,ok.cab,ok.hd,ok.frames,ok.stk,ok.exf,ok.bs,ok.bsz,ok.noex,ok.exfs,ok.funs,ok.frf⟩
section
variable {X:Cx} {pins:List (Addr×Obj)} {σ:St} {H:Hp} {s:Shared} {E:Value->Shared->Prop}
theorem Inv.wish(I:Inv X pins σ H s)(E:Value->Shared->Prop):Inv (X.wish E) pins σ H s:=⟨I.ok.wish E,I.os,I.bare,I.base,I.loc,I.cell,I.free,I.freeC,I.pin,I.hok,I.len⟩
theorem Inv.unwish(I:Inv (X.wish E) pins σ H s):Inv X pins σ H s:=⟨I.ok.unwish,I.os,I.bare,I.base,I.loc,I.cell,I.free,I.freeC,I.pin,I.hok,I.len⟩
theorem SP.unwish{D:Ends}{f:Flow}{s':Shared}(h:SP (X.wish E) pins D f s'):SP X pins D f s':=by
 cases f with
 |next=>obtain⟨σ',H',I,q⟩:=h;exact⟨σ',H',I.unwish,q⟩
 |brk=>obtain⟨σ',H',I,q⟩:=h;exact⟨σ',H',I.unwish,q⟩
 |cont=>obtain⟨σ',H',I,q⟩:=h;exact⟨σ',H',I.unwish,q⟩
 |ret u=>obtain⟨v,σ',H',I,r,q⟩:=h;exact⟨v,σ',H',I.unwish,r,q⟩
theorem PSs.nox{st:List Stmt}{t:TS}(h:PSs X.nox st t):PSs X st t:=fun pins s σ H D I hw=>
 wpAny_mono (h pins s σ H D (I.wish _) hw) (fun _ _ q=>q.unwish) fun _ _ z=>False.elim z
end
section
variable {X:Cx} {st:Stmt} {rest:List Stmt} {t u:TS} {e:Expr} {te:TE} {pos:Pos}
def tNext:TS:=fun D σ H=>D.nx σ H
def tSeq(t u:TS):TS:=fun D σ H=>t { D with nx:=u D } σ H
theorem qm2z:PSs X [] tNext:=fun _ _ σ H _ I h=>wpAny_execs_nil ⟨σ,H,I,h⟩
theorem qm3z(h1:PS X st t)(h2:PSs X rest u):PSs X (st::rest) (tSeq t u):=by
 intro pins s σ H D I h;refine wpAny_execs_cons (thn (h1 pins s σ H { D with nx:=u D } I h) fun f s1 q=>?_);cases f with
 |next=>
  obtain⟨σ',H',I',q⟩:=q;exact h2 pins s1 σ' H' D I' q
 |ret v=>exact q
 |brk=>exact q
 |cont=>exact q
theorem qm4z(h1:PS X st t):PSs X [st] t:=by
 intro pins s σ H D I h;refine wpAny_execs_cons (thn (h1 pins s σ H D I h) fun f s1 q=>?_);cases f with
 |next=>exact wpAny_execs_nil q
 |ret v=>exact q
 |brk=>exact q
 |cont=>exact q
theorem Inv.quiet{pins:List (Addr×Obj)}{σ:St}{H:Hp}{s:Shared}(I:Inv X pins σ H s):interactive X.env=false:=by simp[interactive,I.ok.kind]
def tDrop(te:TE):TS:=fun D σ H=>te σ H fun _ H1=>D.nx σ H1
theorem qm5z(he:PE X e te)(hs:swapsWith e none pos.line X.env=pure false:=by rfl):PS X (.Expr e pos) (tDrop te):=by
 intro pins s σ H D I h;exact wpAny_Expr_any (thn (he pins s σ H _ I h) fun v s1 ⟨x,H1,I1,r1,q1⟩=>⟨σ,H1,I1,q1⟩) I.quiet hs
def tRet(te:TE):TS:=fun D σ H=>te σ H D.rt
theorem qm6z(he:PE X e te):PS X (.Return (some e) pos) (tRet te):=by
 intro pins s σ H D I h;exact wpAny_Return_some (thn (he pins s σ H _ I h) fun v s1 ⟨x,H1,I1,r1,q1⟩=>⟨x,σ,H1,I1,r1,q1⟩)
def tIfS(c:TT)(t u:TS):TS:=fun D σ H=>c σ H fun b H1=>if b=true then t D σ H1 else u D σ H1
theorem qm7z{c:Expr}{a b:List Stmt}{tc:TT}(hc:PT X c tc)(ha:PSs X a t)(hb:PSs X b u):PS X (.If c a b pos) (tIfS tc t u):=by
 intro pins s σ H D I h;refine wpAny_If (thn (hc pins s σ H _ I h) fun d s1 ⟨H1,I1,q1⟩=>?_);cases d with
 |true=>exact ha pins s1 σ H1 D I1 q1
 |false=>exact hb pins s1 σ H1 D I1 q1
end
abbrev TG:=V->St->Hp->(St->Hp->Prop)->Prop
abbrev TGs:=List V->St->Hp->(St->Hp->Prop)->Prop
def PG(X:Cx)(target:Expr)(t:TG):Prop:=
 ∀(pins:List (Addr×Obj)) (s:Shared) (σ:St) (H:Hp) (v:V) (u:Value) (Q:St->Hp->Prop),Inv X pins σ H s->RelV v u->t v σ H Q ->
  wpAny (model X.prog X.w) X.A (assign target X.env u) (fun _ s'=>∃σ' H',Inv X pins σ' H' s'/\Q σ' H') X.xe s
def PGs(X:Cx)(ts:List Expr)(t:TGs):Prop:=
 ∀(pins:List (Addr×Obj)) (s:Shared) (σ:St) (H:Hp) (vs:List V) (us:List Value) (Q:St->Hp->Prop),Inv X pins σ H s->Vals vs us->t vs σ H Q ->
  wpAny (model X.prog X.w) X.A (assignInOrder ((assignEach ts X.env).map (·.2)) us) (fun _ s'=>∃σ' H',Inv X pins σ' H' s'/\Q σ' H') X.xe s
abbrev TSet:=V->V->V->Hp->(Hp->Prop)->Prop
def PSet(X:Cx)(t:TSet):Prop:=
 ∀(pins:List (Addr×Obj)) (s:Shared) (σ:St) (H:Hp) (o i v:V) (ov iv u:Value) (Q:Hp->Prop),Inv X pins σ H s->RelV o ov->RelV i iv->RelV v u->t o i v H Q ->
  wpAny (model X.prog X.w) X.A (setItem ov iv u) (fun _ s'=>∃H',Inv X pins σ H' s'/\Q H') X.xe s
abbrev TIp:=V->V->Hp->VK->Prop
def PIp(X:Cx)(op:Operator)(t:TIp):Prop:=
 ∀(pins:List (Addr×Obj)) (s:Shared) (σ:St) (H:Hp) (x y:V) (v u:Value) (Q:VK),Inv X pins σ H s->RelV x v->RelV y u->t x y H Q ->
  wpAny (model X.prog X.w) X.A (inplaceOp op v u) (EP X pins σ Q) X.xe s
section
variable {X:Cx} {pos:Pos}
def gName(i:Nat):TG:=fun v σ H Q=>Q (σ.set i (some v)) H
theorem qm8z{i:Nat}{x:Str}(hN:X.N.Nodup)(hi:X.N[i]?=some x)(hx:Loc X.env.scope x)(hf:X.fn x=true∨X.env.scope.names.lookup x=some .local:=by first|exact .inl rfl|exact .inr rfl|assumption):PG X (.Name x pos) (gName i):=by
 intro pins s σ H v u Q I r h;exact wpAny_assign_Name (qbiz I hN hi hx r (fun s' I'=>⟨_,H,I',h⟩) hf)
def gNil:TGs:=fun vs σ H Q=>vs=[]/\Q σ H
def gCons(t:TG)(u:TGs):TGs:=fun vs σ H Q=>∃v r,vs=v::r/\t v σ H fun σ' H'=>u r σ' H' Q
theorem qm9z:PGs X [] gNil:=by
 intro pins s σ H vs us Q I r h;obtain⟨e,h⟩:=h;subst e;cases r;exact assignInOrder_nil ⟨σ,H,I,h⟩
theorem qnaz{e:Expr}{es:List Expr}{t:TG}{u:TGs}(h1:PG X e t)(h2:PGs X es u)
  (hs:(assignEach (e::es) X.env).map (·.2)=assign e X.env::(assignEach es X.env).map (·.2):=by rfl):PGs X (e::es) (gCons t u):=by
 intro pins s σ H vs us Q I r h;obtain⟨v,vr,e1,h⟩:=h;subst e1;cases r with
 |cons r rr=>
  rw[hs];refine assignInOrder_cons (thn (h1 pins s σ H _ _ _ I r h) fun _ s1 ⟨σ1,H1,I1,q1⟩=>?_);exact h2 pins s1 σ1 H1 _ _ Q I1 rr q1
def gTup(K:PySem.W.Frag)(n:Nat)(t:TGs):TG:=fun v σ H Q=>∃a xs,v=.ref a/\SqT K H a xs/\xs.length=n/\t xs σ H Q
theorem qnbz{es:List Expr}{k:Nat}{t:TGs}{n:Nat}(hc:X.calm=true)(h:PGs X es t)
  (hn:(assignEach es X.env).length=n:=by rfl) (hst:(assignEach es X.env).findIdx? (·.1)=none:=by rfl):PG X (.Tuple es k pos) (gTup X.K n t):=by
 intro pins s σ H v u Q I r hw;obtain⟨a,xs,e1,hq,hl,hw⟩:=hw;subst e1;cases r;obtain⟨its,rv,ht,hz⟩:=I.tuple hq;refine assign_Tuple_tuple (I.ok.hd hc) ht (by simp[hn,←hl,rv.length]) hst fun h' hx=>?_;have I1:Inv X pins σ H { s with heap:=h' }:=I.kept (t':=s.toks) fun b o e=>hx b o (Nat.ne_of_lt (Heap.lt_size e)) e
 exact h pins _ σ H xs _ Q I1 (by simpa using rv) hw
def gSub(to ti:TE)(t:TSet):TG:=fun v σ H Q=>to σ H fun o H1=>ti σ H1 fun i H2=>t o i v H2 fun H3=>Q σ H3
theorem qncz{o i:Expr}{to ti:TE}{t:TSet}(ho:PE X o to)(hi:PE X i ti)(hs:PSet X t)
  (ha:∀v,assign (.Subscript o i pos) X.env v=(do
   let ov ←holding [v] (eval o X.env)
   let iv ←holding [v,ov] (eval i X.env)
   standAt pos
   holding [v,ov,iv] (setItem ov iv v)
   release [v,ov,iv] []):=by intro _;rfl):PG X (.Subscript o i pos) (gSub to ti t):=by
 intro pins s σ H v u Q I r h
 rw[ha]
 refine wpAny_bind (wpAny_holding (thn (ho pins s σ H _ I h) fun ov s1 ⟨x,H1,I1,r1,q1⟩=>?_))
 refine wpAny_bind (wpAny_holding (thn (hi pins s1 σ H1 _ I1 q1) fun iv s2 ⟨y,H2,I2,r2,q2⟩=>?_))
 refine wpAny_bind (wpAny_standAt (wpAny_bind (wpAny_holding (thn (hs pins s2 σ H2 x y v ov iv u _ I2 r1 r2 r q2) fun _ s3 ⟨H3,I3,q3⟩=>?_))))
 exact wpAny_release ⟨σ,H3,I3,q3⟩
def tAsg(te:TE)(g:TG):TS:=fun D σ H=>te σ H fun x H1=>g x σ H1 D.nx
theorem qndz{tg e:Expr}{te:TE}{g:TG}(he:PE X e te)(hg:PG X tg g)(hs:swapsWithSole [tg] e pos.line X.env=pure false:=by rfl)(hw:swappedStores [tg] e X.env=pure none:=by rfl)
  (h1:(assignEach [tg] X.env).map (·.2)=[assign tg X.env]:=by rfl):PS X (.Assign [tg] e pos) (tAsg te g):=by
 intro pins s σ H D I h;refine wpAny_Assign_stores (thn (he pins s σ H _ I h) fun v s1 ⟨x,H1,I1,r1,q1⟩=>?_) hs hw;rw[h1];exact thn (hg pins s1 σ H1 x v _ I1 r1 q1) fun _ s2 q=>q
theorem qnez{i:Nat}{x:Str}{e:Expr}{te:TE}{pos':Pos}(hN:X.N.Nodup)(hi:X.N[i]?=some x)(hx:Loc X.env.scope x)(he:PE X e te)(hs:swapsWith e (some (.Name x pos')) pos.line X.env=pure false:=by rfl)(hf:X.fn x=true∨X.env.scope.names.lookup x=some .local:=by first|exact .inl rfl|exact .inr rfl|assumption):
  PS X (.Assign [.Name x pos'] e pos) (tAsg te (gName i)):=by
 intro pins s σ H D I h;refine wpAny_Assign_Name (thn (he pins s σ H _ I h) fun v s1 ⟨y,H1,I1,r1,q1⟩=>?_) hs;exact qbiz I1 hN hi hx r1 (fun s2 I2=>⟨_,H1,I2,q1⟩) hf
def tPar(i j:Nat)(ta:TA):TS:=fun D σ H=>ta σ H fun vs H1=>∃v w,vs=[v,w]/\D.nx ((σ.set i (some v)).set j (some w)) H1
theorem qnfz{i j:Nat}{x y:Str}{a b:Expr}{ta:TA}{px py pt:Pos}{kt k2 pt2}(hc:X.calm=true)(hN:X.N.Nodup)(hi:X.N[i]?=some x)(hj:X.N[j]?=some y)(hij:i≠j)
  (hx:X.env.scope.names.lookup x=some .local) (hy:X.env.scope.names.lookup y=some .local) (ha:PA X [a,b] ta)
  (hw:swappedStores [.Tuple [.Name x px,.Name y py] kt pt] (.Tuple [a,b] k2 pt2) X.env=pure (some [x,y]))
  (hs:swapsWithSole [.Tuple [.Name x px,.Name y py] kt pt] (.Tuple [a,b] k2 pt2) pos.line X.env=pure false:=by rfl):
  PS X (.Assign [.Tuple [.Name x px,.Name y py] kt pt] (.Tuple [a,b] k2 pt2) pos) (tPar i j ta):=by
 intro pins s σ H D I h;rw[exec_Assign_arm];refine wpAny_bind (wpAny_standAt ?_);rw[hs];refine wpAny_bind (wpAny_pure ?_);rw[if_neg (by decide)];refine wpAny_bind (Tuple_ (thn (ha _ pins s σ H _ I h) fun us s1 ⟨vs,H1,I1,r1,q1⟩=>?_));obtain⟨v,w,e1,q1⟩:=q1;subst e1;obtain⟨u1,u2,rfl,rv,rw'⟩:∃u1 u2,us=[u1,u2]/\RelV v u1/\RelV w u2:=by
  cases r1 with
  |cons p q=>
   cases q with
   |cons p' q'=>
    cases q';exact⟨_,_,rfl,p,p'⟩
 refine wpAny_newObj_type ?_ (by show 2≤sizeLine;decide);have I2:Inv X pins σ H1 { s1 with heap:=s1.heap.push { cls:=.type "tuple",data:=.seq [u1,u2].toArray }}:=I1.kept (t':=s1.toks) fun b o e=>Heap.get?_push_of_some _ e;rw[hw];refine wpAny_bind (wpAny_pure ?_);show wpAny (model X.prog X.w) X.A (do rule "assign.swapped-stores";let items ←unpackItems (.ref s1.heap.objs.size) 2 none;assignInOrder [fun v=>bindName X.env y v,fun v=>bindName X.env x v] items.reverse;pure Flow.next) _ _ _
 refine wpAny_bind (wpAny_rule (wpAny_bind (unpackItems_tuple (items:=#[u1,u2]) (I.ok.hd hc) (IsTup.new s1.heap _) fun h' hx'=>?_)));have I3:=I2.kept (h':=h') (t':=s1.toks) fun b o e=>hx' b o (Nat.ne_of_lt (Heap.lt_size e)) e;show wpAny _ _ (assignInOrder [fun v=>bindName X.env y v,fun v=>bindName X.env x v] [u2,u1] >>= fun _=>pure Flow.next) _ _ _
 refine wpAny_bind (assignInOrder_cons (wpAny_bindName (qbiz I3 hN hj (.inl hy) rw' (fun s2 I4=>?_) (.inr hy))));refine assignInOrder_cons (wpAny_bindName (qbiz I4 hN hi (.inl hx) rv (fun s3 I5=>assignInOrder_nil (wpAny_pure ?_)) (.inr hx)));rw[List.set_comm _ _ (Ne.symm hij)] at I5;exact⟨_,H1,I5,q1⟩
def tAug(i:Nat)(te:TE)(ti:TIp):TS:=fun D σ H=>∃x,σ[i]?=some (some x)/\te σ H fun y H1=>ti x y H1 fun z H2=>D.nx (σ.set i (some z)) H2
theorem qngz{i:Nat}{x:Str}{e:Expr}{te:TE}{op:Operator}{ti:TIp}{pos':Pos}(hN:X.N.Nodup)(hi:X.N[i]?=some x)(hx:Loc X.env.scope x)(he:PE X e te)(ho:PIp X op ti)(hf:X.fn x=true∨X.env.scope.names.lookup x=some .local:=by first|exact .inl rfl|exact .inr rfl|assumption):
  PS X (.AugAssign (.Name x pos') op e pos) (tAug i te ti):=by
 intro pins s σ H D I h;obtain⟨v,e1,h⟩:=h;obtain⟨m,hn,hl⟩:=I.loc;have vis:Vis X.env.scope x:=by rcases hx with k|k;exact .inl k;exact .inr (.inl k)
 obtain⟨u,r,l⟩:=hl i x v hi e1 vis;refine wpAny_AugAssign_Name ?_;have go:wpAny (model X.prog X.w) X.A (eval e X.env) (fun w s₂=>wpAny (model X.prog X.w) X.A (inplaceOp op u w) (fun r s₃=>wpAny (model X.prog X.w) X.A (storeName X.env x r) (fun _=>SP X pins D .next) X.xe s₃) X.xe s₂) X.xe s:=by
  refine thn (he pins s σ H _ I h) fun w s1 ⟨y,H1,I1,r1,q1⟩=>?_;refine thn (ho pins s1 σ H1 v y u w _ I1 r r1 q1) fun z s2 ⟨zv,H2,I2,r2,q2⟩=>?_;exact qbiz I2 hN hi hx r2 (fun s3 I3=>⟨_,H2,I3,q2⟩) hf
 rcases l with⟨hk,hm⟩|⟨hk,c,hc,hcell⟩
 ·exact wpAny_loadName_local I.ok.kind hk hn hm go
 ·rcases hk with hk|hk
  ·exact wpAny_loadName_cell I.ok.kind hk hc hcell go
  ·rcases hx with k|k
   ·have:X.env.scope.names.lookup x=some .free:=hk;rw[k] at this;cases this
   ·have:X.env.scope.names.lookup x=some .free:=hk;rw[k] at this;cases this
def tAugS(to ti te:TE)(tget:V->V->Hp->VK->Prop)(tip:TIp)(tset:TSet):TS:=fun D σ H=>to σ H fun o H1=>ti σ H1 fun i H2=>tget o i H2 fun x H3=>te σ H3 fun y H4=>tip x y H4 fun z H5=>tset o i z H5 fun H6=>D.nx σ H6
def PGet(X:Cx)(t:V->V->Hp->VK->Prop):Prop:=
 ∀(pins:List (Addr×Obj)) (s:Shared) (σ:St) (H:Hp) (o i:V) (ov iv:Value) (Q:VK),Inv X pins σ H s->RelV o ov->RelV i iv->t o i H Q ->
  wpAny (model X.prog X.w) X.A (getItem ov iv) (EP X pins σ Q) X.xe s
theorem qnhz{o i e:Expr}{to ti te:TE}{tget:V->V->Hp->VK->Prop}{tip:TIp}{tset:TSet}{op:Operator}{tpos:Pos}(ho:PE X o to)(hi:PE X i ti)(hg:PGet X tget)(he:PE X e te)(hp:PIp X op tip)(hs:PSet X tset)
  (ha:∀ov iv new,augStore i ov iv new=(do holding [new,ov,iv] (setItem ov iv new);release [new,ov,iv] [];pure .next):=by intros;rfl):PS X (.AugAssign (.Subscript o i tpos) op e pos) (tAugS to ti te tget tip tset):=by
 intro pins s σ H D I h;refine wpAny_AugAssign_SubscriptAny (thn (ho pins s σ H _ I h) fun ov s1 ⟨x1,H1,I1,r1,q1⟩=>?_) ha;refine thn (hi pins s1 σ H1 _ I1 q1) fun iv s2 ⟨x2,H2,I2,r2,q2⟩=>?_;refine thn (hg pins s2 σ H2 x1 x2 ov iv _ I2 r1 r2 q2) fun old s3 ⟨x3,H3,I3,r3,q3⟩=>?_;refine thn (he pins s3 σ H3 _ I3 q3) fun v s4 ⟨x4,H4,I4,r4,q4⟩=>?_;refine thn (hp pins s4 σ H4 x3 x4 old v _ I4 r3 r4 q4) fun new s5 ⟨x5,H5,I5,r5,q5⟩=>?_;exact thn (hs pins s5 σ H5 x1 x2 x5 ov iv new _ I5 r1 r2 r5 q5) fun _ s6 ⟨H6,I6,q6⟩=>⟨σ,H6,I6,q6⟩
def ipI(f:Int->Int->Int):TIp:=fun x y H Q=>∃i j,x=.int i/\y=.int j/\Q (.int (f i j)) H
theorem qhhz:PIp X .Add (ipI fun i j=>i+j):=by
 intro pins s σ H x y v u Q I r1 r2 h;obtain⟨i,j,e1,e2,q⟩:=h;subst e1;subst e2;obtain⟨t,rfl⟩:=r1;obtain⟨t',rfl⟩:=r2;exact iadd_int ⟨.int _,H,I.tok _,⟨_,rfl⟩,q⟩
end
section
variable {X:Cx} {pos:Pos}
def tWhile(c:TT)(tb:TS):TS:=fun D σ H=>∃W:Nat->St->Hp->Prop,(∃m,W m σ H)/\∀m σ H,W m σ H ->
 c σ H fun b H1=>if b=true then ∃N:St->Hp->Prop,(∀σ' H',N σ' H'->∃m',m' < m/\W m' σ' H')/\tb { D with nx:=N,ct:=N,bk:=D.nx } σ H1 else D.nx σ H1
theorem qniz{c:Expr}{body:List Stmt}{tc:TT}{tb:TS}(hp:PassesOwn (model X.prog X.w) X.A X.env X.xe)(hc:PT X c tc)(hb:PSs X body tb):PS X (.While c body [] pos) (tWhile tc tb):=by
 intro pins s σ H D I h;obtain⟨W,⟨m0,w0⟩,turn⟩:=h;refine wpAny_While (codeAny_whileLoop (fun n s'=>∃σ' H',Inv X pins σ' H' s'/\W n σ' H') ?_ m0 ⟨σ,H,I,w0⟩);rintro n s1 ⟨σ1,H1,I1,w1⟩;refine wpAny_passesOwn hp (thn (hc pins s1 σ1 H1 _ I1 (turn n σ1 H1 w1)) fun b s2 ⟨H2,I2,q2⟩=>?_);cases b with
 |true=>
  obtain⟨N,hN,q2⟩:=q2;rw[if_pos rfl];refine wpAny_passesOwn hp (thn (hb pins s2 σ1 H2 _ I2 q2) fun f s3 q3=>?_);cases f with
  |next=>
   obtain⟨σ3,H3,I3,n3⟩:=q3;obtain⟨m',hm,w3⟩:=hN σ3 H3 n3;exact⟨m',hm,σ3,H3,I3,w3⟩
  |cont=>
   obtain⟨σ3,H3,I3,n3⟩:=q3;obtain⟨m',hm,w3⟩:=hN σ3 H3 n3;exact⟨m',hm,σ3,H3,I3,w3⟩
  |brk=>exact q3
  |ret v=>exact q3
 |false=>
  rw[if_neg Bool.false_ne_true];exact wpAny_execs_nil ⟨σ1,H2,I2,q2⟩
end
structure It where
 go:Nat->Hp->Prop
 yld:Nat->Hp->V->Hp->Prop
 stop:Nat->Hp->Prop
def FpOk(X:Cx)(pins:List (Addr×Obj))(H:Hp)(b:Addr):Prop:=
 H b=none/\b≠X.env.locals/\b∉X.fs/\(b∈X.ex∨X.s₀.heap.objs.size≤b)/\(∀x c,X.env.cells.lookup x=some c->c≠b)/\∀p∈X.pn++pins,p.1≠b
theorem Inv.fpOk{X:Cx}{pins:List (Addr×Obj)}{σ:St}{H H':Hp}{s:Shared}{b:Addr}(I:Inv X pins σ H s)(hb:s.heap.objs.size≤b)(hn:H' b=none):FpOk X pins H' b:=by
 refine⟨hn,Nat.ne_of_gt (Nat.lt_of_lt_of_le I.lt hb),I.nofs hb,.inr (Nat.le_trans I.sz hb),fun x c e z=>?_,fun p hp z=>?_⟩
 ·obtain⟨v,q⟩:=I.cell x c e;exact absurd (Nat.lt_of_lt_of_le q.lt (by rw[z];exact hb)) (Nat.lt_irrefl _)
 ·exact absurd (Nat.lt_of_lt_of_le (Heap.lt_size (I.pin p hp).1) (by rw[z];exact hb)) (Nat.lt_irrefl _)
structure Turn(P:Program)(w:World)(K:PySem.W.Frag)(tg:Expr)(J:It)(fp:List Addr)(it:Addr)(tn:Nat->Heap->Prop):Prop where
 mem:it∈fp
 obj:∀i h,tn i h->∀b∈fp,∃o,h.get? b=some o/\∀v,o.data≠.cell v
 keep:∀i h h',tn i h->(∀b∈fp,∀o,h.get? b=some o->h'.get? b=some o)->tn i h'
 item:∀(X:Cx),X.prog=P->X.w=w->X.K=K->X.calm=true->∀(i:Nat) (pins:List (Addr×Obj)) (s:Shared) (σ:St) (H:Hp) (E:Value->Shared->Prop),Inv X pins σ H s->(∀b∈fp,FpOk X pins H b)->tn i s.heap->J.go i H ->
  wpAny (model P w) X.A (pyNext (.ref it)) (fun r s1=>∃u,r=some u ∧
   wpAny (model P w) X.A (letOwnedTupleGo tg (.ref it) u) (fun _ s2=>∃x H',Inv X pins σ H' s2/\RelV x u/\J.yld i H x H'/\tn (i+1) s2.heap/\∀b∈fp,H' b=none) E s1) E s
 done:∀(X:Cx),X.prog=P->X.w=w->X.K=K->X.calm=true->∀(i:Nat) (pins:List (Addr×Obj)) (s:Shared) (σ:St) (H:Hp) (E:Value->Shared->Prop),Inv X pins σ H s->(∀b∈fp,FpOk X pins H b)->tn i s.heap->J.stop i H ->
  wpAny (model P w) X.A (pyNext (.ref it)) (fun r s1=>r=none/\Inv X pins σ H s1) E s
 self:∀(A:Around) (i:Nat) (s:Shared) (Q:Value->Shared->Prop) (E:Value->Shared->Prop),tn i s.heap->Q (.ref it) s->wpAny (model P w) A (pyIter (.ref it)) Q E s
abbrev TI:=St->Hp->(It->Hp->Prop)->Prop
def PIE(X:Cx)(pins:List (Addr×Obj))(σ:St)(tg:Expr)(R:It->Hp->Prop)(itv:Value)(s2:Shared):Prop:=
 ∃(it:Addr) (fp:List Addr) (tn:Nat->Heap->Prop) (J:It) (H':Hp),itv=.ref it/\Inv X pins σ H' s2/\Turn X.prog X.w X.K tg J fp it tn/\tn 0 s2.heap/\(∀b∈fp,FpOk X pins H' b)/\R J H'
def PI(X:Cx)(tg iter:Expr)(wi:TI):Prop:=
 ∀(pins:List (Addr×Obj)) (s:Shared) (σ:St) (H:Hp) (R:It->Hp->Prop),Inv X pins σ H s->wi σ H R ->
  wpAny (model X.prog X.w) X.A (eval iter X.env) (fun v s1=>wpAny (model X.prog X.w) X.A (pyIter v) (PIE X pins σ tg R) X.xe s1) X.xe s
theorem qcmz{M:Model}{A:Around}{E:Value->Shared->Prop}{s:Shared}{tg:Expr}{it:Addr}{u:Value}{o:Obj}{n:String}{vs:Array Value}{Q:Unit->Shared->Prop}(ho:s.heap.get? it=some o)(hc:o.cls=.type n)(hd:o.data=.fields vs)
    (hn:["enumerate","zip","dict_itemiterator","dict_reverseitemiterator","odict_iterator","itertools.zip_longest","itertools.pairwise"].contains n=false) (hQ:Q () s):wpAny M A (letOwnedTupleGo tg (.ref it) u) Q E s:=by
  unfold letOwnedTupleGo;cases tg<;>first
    |exact wpAny_pure hQ
    | (cases u<;>first
        |exact wpAny_pure hQ
        | (refine wpAny_bind (wpAny_load ho ?_)
           rw[hc,hd];show wpAny M A (if (["enumerate","zip","dict_itemiterator","dict_reverseitemiterator","odict_iterator","itertools.zip_longest","itertools.pairwise"].contains n&&vs[0]?==some (rawInt _))=true then _ else _) Q E s;rw[if_neg (by intro h;rw[hn,Bool.false_and] at h;cases h)];exact wpAny_pure hQ))
def Itl(K:PySem.W.Frag)(a:Addr):It:=
 ⟨fun i H=>∃xs x,SqL K H a xs/\xs[i]?=some x,fun i H x H'=>H'=H/\∀xs,SqL K H a xs->xs[i]?=some x,fun i H=>∃xs,SqL K H a xs/\xs.length≤i⟩
def Itt(K:PySem.W.Frag)(a:Addr):It:=
 ⟨fun i H=>∃xs x,SqT K H a xs/\xs[i]?=some x,fun i H x H'=>H'=H/\∀xs,SqT K H a xs->xs[i]?=some x,fun i H=>∃xs,SqT K H a xs/\xs.length≤i⟩
def Itr(lo:Int)(n:Nat):It:=⟨fun i _=>i<n,fun i H x H'=>H'=H/\x=.int (lo+i),fun i _=>n≤i⟩
theorem qnjz{P:Program}{w:World}{K:PySem.W.Frag}{tg:Expr}(a it:Addr):Turn P w K tg (Itl K a) [it] it (fun i h=>h.IsListIter it a i) where
 mem:=by simp
 obj:=fun i h st b hb=>by
  have e:b=it:=by simpa using hb
  subst e;obtain⟨o,e,c,d⟩:=st;exact⟨o,e,fun v z=>by rw[d] at z;cases z⟩
 keep:=fun i h h' st k=>st.at fun o e=>k it (by simp) o e
 item:=by
  intro X hP hw hK hc i pins s σ H E I hf st hg;subst hP hw hK;obtain⟨xs,x,hq,hx⟩:=hg;obtain⟨its,rv,p,hz⟩:=I.list hq;obtain⟨u,hu,ru⟩:=rv.get hx;obtain⟨f0,f1,f2,f3,f4,f5⟩:=hf it (by simp);refine wpAny_pyNext_list_item st p.isList (x:=u) (by simpa using hu) fun h' st' sb=>?_;have I1:Inv X pins σ H { s with heap:=h' }:=I.turned (t':=s.toks) (fun b o hb e=>(sb.2 b hb).trans e) f0 f1 f3 f4 f5;obtain⟨o,e,c,d⟩:=id st';exact⟨u,rfl,qcmz (s:={ s with heap:=h' }) e c d (by decide) ⟨x,H,I1,ru,⟨rfl,fun ys hy=>by rw[I.list_inj hy hq];exact hx⟩,st',fun b hb=>(hf b hb).1⟩⟩
 done:=by
  intro X hP hw hK hc i pins s σ H E I hf st hg;subst hP hw hK;obtain⟨xs,hq,hx⟩:=hg;obtain⟨its,rv,p,hz⟩:=I.list hq;obtain⟨f0,f1,f2,f3,f4,f5⟩:=hf it (by simp);have hl:=rv.length;exact wpAny_pyNext_list_end (I.ok.hd hc) st p.isList (by simp;lia) fun h' eb=>⟨rfl,I.turned (t':=s.toks) (fun b o hb e=>eb b o hb e) f0 f1 f3 f4 f5⟩
 self:=fun _ _ _ _ _ st h=>wpAny_pyIter_listiter st h
theorem qnkz{P:Program}{w:World}{K:PySem.W.Frag}{tg:Expr}(a it:Addr):Turn P w K tg (Itt K a) [it] it (fun i h=>h.IsTupleIter it a i) where
 mem:=by simp
 obj:=fun i h st b hb=>by
  have e:b=it:=by simpa using hb
  subst e;obtain⟨o,e,c,d⟩:=st;exact⟨o,e,fun v z=>by rw[d] at z;cases z⟩
 keep:=fun i h h' st k=>st.at fun o e=>k it (by simp) o e
 item:=by
  intro X hP hw hK hc i pins s σ H E I hf st hg;subst hP hw hK;obtain⟨xs,x,hq,hx⟩:=hg;obtain⟨its,rv,p,hz⟩:=I.tuple hq;obtain⟨u,hu,ru⟩:=rv.get hx;obtain⟨f0,f1,f2,f3,f4,f5⟩:=hf it (by simp);refine wpAny_pyNext_tuple_item st (show s.heap.IsTuple a its.toArray from p) (x:=u) (by simpa using hu) fun h' st' sb=>?_;have I1:Inv X pins σ H { s with heap:=h' }:=I.turned (t':=s.toks) (fun b o hb e=>(sb.2 b hb).trans e) f0 f1 f3 f4 f5;obtain⟨o,e,c,d⟩:=id st';exact⟨u,rfl,qcmz (s:={ s with heap:=h' }) e c d (by decide) ⟨x,H,I1,ru,⟨rfl,fun ys hy=>by rw[I.tuple_inj hy hq];exact hx⟩,st',fun b hb=>(hf b hb).1⟩⟩
 done:=by
  intro X hP hw hK hc i pins s σ H E I hf st hg;subst hP hw hK;obtain⟨xs,hq,hx⟩:=hg;obtain⟨its,rv,p,hz⟩:=I.tuple hq;obtain⟨f0,f1,f2,f3,f4,f5⟩:=hf it (by simp);have hl:=rv.length;exact wpAny_pyNext_tuple_end (I.ok.hd hc) st (show s.heap.IsTuple a its.toArray from p) (by simp;lia) fun h' eb=>⟨rfl,I.turned (t':=s.toks) (fun b o hb e=>eb b o hb e) f0 f1 f3 f4 f5⟩
 self:=fun _ _ _ _ _ st h=>wpAny_pyIter_tupleiter st h
theorem qnlz{P:Program}{w:World}{K:PySem.W.Frag}{tg:Expr}(it:Addr)(lo:Int)(n:Nat):Turn P w K tg (Itr lo n) [it] it (fun i h=>IsRangeIter h it (lo+(i:Nat)*1) ((n:Int)-(i:Nat)) 1) where
 mem:=by simp
 obj:=fun i h st b hb=>by
  have e:b=it:=by simpa using hb
  subst e;exact⟨_,st,fun v z=>by
   have z':Data.fields _=Data.cell v:=z;cases z'⟩
 keep:=fun i h h' st k=>k it (by simp) _ st
 item:=by
  intro X hP hw hK hc i pins s σ H E I hf st hg;subst hP hw hK;obtain⟨f0,f1,f2,f3,f4,f5⟩:=hf it (by simp);have W:=Walks.range (prog:=X.prog) (w:=X.w) (I.ok.hd hc) it lo 1 n;refine W.item i s _ _ hg st fun v h' tk hv st' kk=>?_;obtain⟨t,rfl⟩:=hv;have I1:Inv X pins σ H { s with heap:=h',toks:=tk }:=I.turned (fun b o hb e=>kk b o (by simpa using hb) e) f0 f1 f3 f4 f5;refine⟨_,rfl,qcmz (s:={ s with heap:=h',toks:=tk }) (n:="range_iterator") st' rfl rfl (by decide) ⟨.int (lo+i),H,I1,⟨t,?_⟩,⟨rfl,rfl⟩,st',fun b hb=>(hf b hb).1⟩⟩;rw[Int.mul_one]
 done:=by
  intro X hP hw hK hc i pins s σ H E I hf st hg;subst hP hw hK;obtain⟨f0,f1,f2,f3,f4,f5⟩:=hf it (by simp);exact wpAny_pyNext_range_end (I.ok.hd hc) st (by have:n≤i:=hg;lia) fun h' eb=>⟨rfl,I.turned (t':=s.toks) (fun b o hb e=>eb b o hb e) f0 f1 f3 f4 f5⟩
 self:=fun _ _ _ _ _ st h=>wpAny_pyIter_rangeiter st h
end L2
namespace L2
open PySem PySem.Spec PyProof.Rows
section
variable {X:Cx} {tg:Expr}
def iTup(K:PySem.W.Frag)(tl:TE):TI:=fun σ H R=>tl σ H fun x H1=>∃a,x=.ref a/\(∃xs,SqT K H1 a xs)/\R (Itt K a) H1
theorem qnmz{pins:List (Addr×Obj)}{σ:St}{H:Hp}{s:Shared}{R:It->Hp->Prop}{E:Value->Shared->Prop}{lo hi:Int}{t u v:Tok}{tk:Nat}(I:Inv X pins σ H s)(h1:-(2^62)≤lo)(h2:lo<2^62)(h3:-(2^62)≤hi)(h4:hi<2^62)
  (q:R (Itr lo (hi-lo).toNat) H):wpAny (model X.prog X.w) X.A (pyIter (.ref s.heap.objs.size)) (PIE X pins σ tg R) E { s with heap:=s.heap.push { cls:=.type "range",data:=.fields #[.int lo t,.int hi u,.int 1 v]},toks:=tk }:=by
 refine wpAny_pyIter_range (IsRange.new ..) (small_one h1 h2 h3 h4) ?_;have I1:Inv X pins σ H { s with heap:=s.heap.push { cls:=.type "range",data:=.fields #[.int lo t,.int hi u,.int 1 v]},toks:=tk }:=I.kept fun b o e=>Heap.get?_push_of_some _ e;refine⟨(s.heap.push { cls:=.type "range",data:=.fields #[.int lo t,.int hi u,.int 1 v]}).objs.size,[(s.heap.push { cls:=.type "range",data:=.fields #[.int lo t,.int hi u,.int 1 v]}).objs.size],_,_,H,rfl,
  I1.kept (t':=tk) fun b o e=>Heap.get?_push_of_some _ e,qnlz _ lo (hi-lo).toNat,?_,fun b hb=>?_,q⟩
 ·have e1:lo+((0:Nat):Int)*1=lo:=by simp
  have e2:(((hi-lo).toNat:Nat):Int)-((0:Nat):Int)=Builtin.Range.rangeSize lo hi 1:=by rw[rangeSize_one];split<;>lia
  show IsRangeIter _ _ (lo+((0:Nat):Int)*1) ((((hi-lo).toNat:Nat):Int)-((0:Nat):Int)) 1;rw[e1,e2];exact Heap.get?_push_size _ rfl
 ·have e:b=(s.heap.push { cls:=.type "range",data:=.fields #[.int lo t,.int hi u,.int 1 v]}).objs.size:=by simpa using hb
  subst e;exact I1.fpOk (Nat.le_refl _) (I1.hok.fresh (Nat.le_refl _))
def iRng1(ta:TA):TI:=fun σ H R=>ta σ H fun vs H1=>∃j:Int,vs=[.int j]/\-(2^62)≤j/\j<2^62/\R (Itr 0 j.toNat) H1
theorem qnnz{a:Expr}{ta:TA}{p pos:Pos}(hg:Gl X "range")(hm:X.mg "range" = none)(ha:PA X [a] ta)(hs:starEach [a] X.env=[(false,eval a X.env)]:=by rfl):PI X tg (.Call (.Name "range" p) [a] [] pos) (iRng1 ta):=by
 intro pins s σ H R I h;refine Call_ (qa7z I hg hm boot_range (PyProof.Rows.callWith_type1 (thn (ha pos pins s σ H _ I h) fun us s1 ⟨vs,H1,I1,r1,q1⟩=>?_) hs rfl));obtain⟨j,e,q1,q2,q⟩:=q1;subst e;cases r1 with
 |cons r rr=>
  cases rr;obtain⟨t,rfl⟩:=r;exact call_range_1 (qnmz I1 (by lia) (by lia) q1 q2 (by simpa using q))
def tFor(wi:TI)(g:TG)(tb:TS):TS:=fun D σ H=>wi σ H fun J H1=>∃W:Nat->Nat->St->Hp->Prop,(∃m,W 0 m σ H1)/\∀i m σ H,W i m σ H ->
 (J.stop i H/\D.nx σ H)∨(J.go i H/\∃N:St->Hp->Prop,(∀σ' H',N σ' H'->∃m',m' < m/\W (i+1) m' σ' H')/\∀x H',J.yld i H x H'->g x σ H' fun σ2 H2=>tb { D with nx:=N,ct:=N,bk:=D.nx } σ2 H2)
def pinsAt(fp:List Addr)(h:Heap):List (Addr×Obj):=fp.filterMap fun b=>(h.get? b).map fun o=>(b,o)
theorem qdiz{fp:List Addr}{h:Heap}{b:Addr}{o:Obj}(hb:b∈fp)(e:h.get? b=some o):(b,o)∈pinsAt fp h:=List.mem_filterMap.mpr ⟨b,hb,by rw[e];rfl⟩
theorem qnoz{fp:List Addr}{h:Heap}{p:Addr×Obj}(hp:p∈pinsAt fp h):p.1∈fp/\h.get? p.1=some p.2:=by
 obtain⟨b,hb,e⟩:=List.mem_filterMap.mp hp;cases q:h.get? b with
 |none=>rw[q] at e;cases e
 |some o=>
  rw[q] at e;have e':(b,o)=p:=Option.some.inj e;subst e';exact⟨hb,q⟩
theorem Inv.pinned{pins:List (Addr×Obj)}{σ:St}{H:Hp}{s:Shared}{fp:List Addr}(I:Inv X pins σ H s)(hf:∀b∈fp,FpOk X pins H b)(ho:∀b∈fp,∃o,s.heap.get? b=some o/\∀v,o.data≠.cell v):Inv X (pins++pinsAt fp s.heap) σ H s:=
 I.pins_of fun p hp=>(List.mem_append.mp hp).elim (fun z=>I.pin p (List.mem_append_right _ z)) fun z=>by
  obtain⟨hb,e⟩:=qnoz z;obtain⟨f0,f1,f2,_⟩:=hf p.1 hb;obtain⟨o,e',d⟩:=ho p.1 hb;rw[e] at e';cases e';exact⟨e,f0,f1,f2,d⟩
theorem Inv.unpinned{pins pl:List (Addr×Obj)}{σ:St}{H:Hp}{s:Shared}(I:Inv X (pins++pl) σ H s):Inv X pins σ H s:=I.pins_of fun p hp=>I.pin p (List.mem_append_right _ (List.mem_append_left _ hp))
theorem qnpz{iter:Expr}{body:List Stmt}{wi:TI}{g:TG}{tb:TS}{pos:Pos}(hp:PassesOwn (model X.prog X.w) X.A X.env X.xe)(hc:X.calm=true)(hi:PI X tg iter wi)(hg:PG X tg g)(hb:PSs X body tb)
  (hs:∀x,foldedSetIterable iter X.env x=pure x:=by intro _;rfl):PS X (.For tg iter body [] pos) (tFor wi g tb):=by
 intro pins s σ H D I h;refine wpAny_For (thn (hi pins s σ H _ I h) fun v s1 h1=>thn h1 fun itv s2 h2=>?_) hs;obtain⟨it,fp,tn,J,H2,e,I2,T,st2,f2,W,⟨m0,w0⟩,turn⟩:=h2;subst e
 -- what stays true of the iterator's objects through the loop
 have stat:∀{H':Hp},(∀b∈fp,H' b=none)->∀b∈fp,FpOk X pins H' b:=fun hn b hb=>⟨hn b hb,(f2 b hb).2⟩;refine codeAny_forLoop_any (fun n s'=>∃i σ' H',Inv X pins σ' H' s'/\tn i s'.heap/\(∀b∈fp,H' b=none)/\W i n σ' H') ?_ m0 ⟨0,σ,H2,I2,st2,fun b hb=>(f2 b hb).1,w0⟩;rintro n s3 ⟨i,σ3,H3,I3,st3,fr3,w3⟩;rcases turn i n σ3 H3 w3 with⟨stop,qn⟩|⟨go,N,hN,step⟩
 ·refine wpAny_passesOwn hp (thn (T.done X rfl rfl rfl hc i pins s3 σ3 H3 X.xe I3 (stat fr3) st3 stop) fun r s4 ⟨hr,I4⟩=>?_);subst hr;exact wpAny_execs_nil ⟨σ3,H3,I4,qn⟩
 ·refine wpAny_passesOwn hp (thn (T.item X rfl rfl rfl hc i pins s3 σ3 H3 X.xe I3 (stat fr3) st3 go) fun r s4 ⟨u,hr,h4⟩=>?_);subst hr;refine wpAny_passesOwn hp (thn h4 fun _ s5 ⟨x,H5,I5,r5,y5,st5,fr5⟩=>?_);have I5':=I5.pinned (stat fr5) (T.obj _ _ st5);refine wpAny_passesOwn hp (thn (hg _ s5 σ3 H5 x u _ I5' r5 (step x H5 y5)) fun _ s6 ⟨σ6,H6,I6,q6⟩=>?_);refine wpAny_passesOwn hp (thn (hb _ s6 σ6 H6 _ I6 q6) fun f s7 q7=>?_);have again:∀{σ7:St} {H7:Hp},Inv X (pins++pinsAt fp s5.heap) σ7 H7 s7->N σ7 H7->∃m,m<n/\∃i σ' H',Inv X pins σ' H' s7/\tn i s7.heap/\(∀b∈fp,H' b=none)/\W i m σ' H':=fun {σ7 H7} I7 n7=>by
   obtain⟨m',hm,w7⟩:=hN σ7 H7 n7;refine⟨m',hm,i+1,σ7,H7,I7.unpinned,T.keep _ _ _ st5 fun b hb o e=>(I7.pin (b,o) (List.mem_append_right _ (List.mem_append_right _ (qdiz hb e)))).1,fun b hb=>?_,w7⟩;obtain⟨o,e,d⟩:=T.obj _ _ st5 b hb;exact (I7.pin (b,o) (List.mem_append_right _ (List.mem_append_right _ (qdiz hb e)))).2.1
  cases f with
  |next=>obtain⟨σ7,H7,I7,n7⟩:=q7;exact again I7 n7
  |cont=>obtain⟨σ7,H7,I7,n7⟩:=q7;exact again I7 n7
  |brk=>obtain⟨σ7,H7,I7,q7⟩:=q7;exact⟨σ7,H7,I7.unpinned,q7⟩
  |ret v=>obtain⟨x7,σ7,H7,I7,r7,q7⟩:=q7;exact⟨x7,σ7,H7,I7.unpinned,r7,q7⟩
end
end L2
namespace L2
open PySem PySem.Spec PyProof.Rows
abbrev R2:=V->V->Hp->VK->Prop
def OpR(X:Cx)(f:Value->Value->Sem Value)(r:R2):Prop:=
 ∀(pins:List (Addr×Obj)) (s:Shared) (σ:St) (H:Hp) (x y:V) (v u:Value) (Q:VK),Inv X pins σ H s->RelV x v->RelV y u->r x y H Q ->
  wpAny (model X.prog X.w) X.A (f v u) (EP X pins σ Q) X.xe s
def CallR(X:Cx)(f:Value)(r:List V->Hp->VK->Prop):Prop:=
 ∀(pins:List (Addr×Obj)) (s:Shared) (σ:St) (H:Hp) (xs:List V) (us:List Value) (Q:VK),Inv X pins σ H s->Vals xs us->r xs H Q ->
  wpAny (model X.prog X.w) X.A (call f us) (EP X pins σ Q) X.xe s
def TruR(X:Cx)(r:V->Hp->(Bool->Hp->Prop)->Prop):Prop:=
 ∀(pins:List (Addr×Obj)) (s:Shared) (σ:St) (H:Hp) (x:V) (v:Value) (Q:Bool->Hp->Prop),Inv X pins σ H s->RelV x v->r x H Q ->
  wpAny (model X.prog X.w) X.A (truthy v) (TP X pins σ Q) X.xe s
def tOp(r:R2)(ta tb:TE):TE:=fun σ H Q=>ta σ H fun x H1=>tb σ H1 fun y H2=>r x y H2 Q
def rI(C:Int->Int->Prop)(g:Int->Int->V):R2:=fun x y H Q=>∃i j,x=.int i/\y=.int j/\C i j/\Q (g i j) H
def rI0(g:Int->Int->V):R2:=fun x y H Q=>∃i j,x=.int i/\y=.int j/\Q (g i j) H
section
variable {X:Cx} {a b c:Expr} {ta tb tc:TE} {pos:Pos}
theorem binT(ha:PE X a ta)(hb:PE X b tb){pins:List (Addr×Obj)}{s:Shared}{σ:St}{H:Hp}{R:V->V->Hp->Prop}(I:Inv X pins σ H s)
  (h:ta σ H fun x H1=>tb σ H1 fun y H2=>R x y H2) {Q:Value->Shared->Prop} {f:Value->Value->Sem Value}
  (hf:∀v u s2 x y H2,Inv X pins σ H2 s2->RelV x v->RelV y u->R x y H2->wpAny (model X.prog X.w) X.A (f v u) Q X.xe s2):
  wpAny (model X.prog X.w) X.A (eval a X.env) (fun v s₁=>wpAny (model X.prog X.w) X.A (eval b X.env) (fun u s₂=>wpAny (model X.prog X.w) X.A (f v u) Q X.xe s₂) X.xe s₁) X.xe s:=by
 refine thn (ha pins s σ H _ I h) fun v s1 ⟨x,H1,I1,r1,q1⟩=>?_;refine thn (hb pins s1 σ H1 _ I1 q1) fun u s2 ⟨y,H2,I2,r2,q2⟩=>?_;exact hf v u s2 x y H2 I2 r1 r2 q2
theorem qnqz{op:Operator}{r:R2}(ho:OpR X (binaryOp op) r)(ha:PE X a ta)(hb:PE X b tb):PE X (.BinOp a op b pos) (tOp r ta tb):=by
 intro pins s σ H Q I h;exact wpAny_BinOp (binT ha hb I h fun v u s2 x y H2 I2 rx ry q=>ho pins s2 σ H2 x y v u Q I2 rx ry q)
theorem opI{f:Value->Value->Sem Value}{C:Int->Int->Prop}{g:Int->Int->Int}
  (rule:∀(i j:Int) (t u:Tok) (s:Shared) (Q:Value->Shared->Prop) (E:Value->Shared->Prop),C i j->Q (.int (g i j) s.toks) { s with toks:=s.toks+1 }->wpAny (model X.prog X.w) X.A (f (.int i t) (.int j u)) Q E s):
  OpR X f (rI C fun i j=>.int (g i j)):=by
 intro pins s σ H x y v u Q I rx ry h;obtain⟨i,j,rfl,rfl,hc,q⟩:=h;obtain⟨t,rfl⟩:=rx;obtain⟨t',rfl⟩:=ry;exact rule i j t t' s _ _ hc ⟨.int (g i j),H,I.tok _,⟨_,rfl⟩,q⟩
theorem opI0{f:Value->Value->Sem Value}{g:Int->Int->Int}
  (rule:∀(i j:Int) (t u:Tok) (s:Shared) (Q:Value->Shared->Prop) (E:Value->Shared->Prop),Q (.int (g i j) s.toks) { s with toks:=s.toks+1 }->wpAny (model X.prog X.w) X.A (f (.int i t) (.int j u)) Q E s):
  OpR X f (rI0 fun i j=>.int (g i j)):=by
 intro pins s σ H x y v u Q I rx ry h;obtain⟨i,j,rfl,rfl,q⟩:=h;obtain⟨t,rfl⟩:=rx;obtain⟨t',rfl⟩:=ry;exact rule i j t t' s _ _ ⟨.int (g i j),H,I.tok _,⟨_,rfl⟩,q⟩
theorem opB0{f:Value->Value->Sem Value}{g:Int->Int->Bool}
  (rule:∀(i j:Int) (t u:Tok) (s:Shared) (Q:Value->Shared->Prop) (E:Value->Shared->Prop),Q (.bool (g i j)) s->wpAny (model X.prog X.w) X.A (f (.int i t) (.int j u)) Q E s):
  OpR X f (rI0 fun i j=>.bl (g i j)):=by
 intro pins s σ H x y v u Q I rx ry h;obtain⟨i,j,rfl,rfl,q⟩:=h;obtain⟨t,rfl⟩:=rx;obtain⟨t',rfl⟩:=ry;exact rule i j t t' s _ _ ⟨.bl (g i j),H,I,rfl,q⟩
def CPow(i j:Int):Prop:=0≤j/\j≤1000000/\i.natAbs<2^64
theorem op_add:OpR X (binaryOp .Add) (rI0 fun i j=>.int (i+j)):=opI0 fun _ _ _ _ _ _ _ q=>add_int q
theorem qevz:OpR X (binaryOp .Sub) (rI0 fun i j=>.int (i-j)):=opI0 fun _ _ _ _ _ _ _ q=>sub_int q
theorem qaaz:OpR X (binaryOp .Mod) (rI (fun _ j=>0<j) fun i j=>.int (i%j)):=opI fun i j _ _ _ _ _ hc q=>by
 have h1:(0:Int)<j:=hc;exact mod_int' (by lia) (by rw[Int.fmod_eq_emod_of_nonneg i (by lia)];exact q)
theorem qnrz:OpR X (binaryOp .Pow) (rI CPow fun i j=>.int (i^j.toNat)):=opI fun _ _ _ _ _ _ _ hc q=>pow_int_small hc.1 hc.2.1 hc.2.2 q
end
section
variable {X:Cx} {a b c:Expr} {ta tb tc:TE} {pos:Pos}
theorem qhiz{pins:List (Addr×Obj)}{σ:St}{H:Hp}{s:Shared}{Q:VK}{k k':Bool}(I:Inv X pins σ H s)(q:Q (.bl k) H)(e:k=k'):EP X pins σ Q (.bool k') s:=by
 subst e;exact⟨.bl k,H,I,rfl,q⟩
theorem op_lt:OpR X (compareOp .Lt) (rI0 fun i j=>.bl (decide (i<j))):=opB0 fun _ _ _ _ _ _ _ q=>lt_int q
theorem qhjz:OpR X (compareOp .LtE) (rI0 fun i j=>.bl (decide (i≤j))):=opB0 fun _ _ _ _ _ _ _ q=>le_int q
theorem qewz:OpR X (compareOp .Gt) (rI0 fun i j=>.bl (decide (j<i))):=opB0 fun _ _ _ _ _ _ _ q=>gt_int q
theorem qhkz:OpR X (compareOp .GtE) (rI0 fun i j=>.bl (decide (j≤i))):=opB0 fun _ _ _ _ _ _ _ q=>ge_int q
theorem qhlz:OpR X (compareOp .Is) (fun x y H Q=>y=.non/\Q (.bl (decide (x=.non))) H):=by
 intro pins s σ H x y v u Q I rx ry h;obtain⟨rfl,q⟩:=h;cases ry;refine is_none_gen (qhiz I q ?_);cases x<;>first
  | (cases rx;rfl)
  | (obtain⟨t,rfl⟩:=rx;rfl)
theorem OpR.or{f:Value->Value->Sem Value}{r r':R2}(h:OpR X f r)(h':OpR X f r'):OpR X f (fun x y H Q=>r x y H Q∨r' x y H Q):=by
 intro pins s σ H x y v u Q I rx ry q;rcases q with q|q
 ·exact h pins s σ H x y v u Q I rx ry q
 ·exact h' pins s σ H x y v u Q I rx ry q
theorem nomark(b:Expr){op:CmpOp}(h:op≠.In:=by decide)(h2:op≠.NotIn:=by decide):behindInMarks op b=false:=by
 have e1:(op==CmpOp.In)=false:=by cases op<;>first|rfl|exact absurd rfl h
 have e2:(op==CmpOp.NotIn)=false:=by cases op<;>first|rfl|exact absurd rfl h2
 cases b<;>simp[behindInMarks,e1,e2]
theorem qnsz{op:CmpOp}{r:R2}(ho:OpR X (compareOp op) r)(ha:PE X a ta)(hb:PE X b tb)(hm:behindInMarks op b=false):PE X (.Compare a [op] [b] pos) (tOp r ta tb):=by
 intro pins s σ H Q I h;exact wpAny_Compare1 (binT ha hb I h fun v u s2 x y H2 I2 rx ry q=>ho pins s2 σ H2 x y v u Q I2 rx ry q) hm
def tTest(t:TE):TT:=fun σ H Q=>t σ H fun x H'=>∃k,x=.bl k/\Q k H'
theorem qntz{op:CmpOp}{r:R2}(ho:OpR X (compareOp op) r)(ha:PE X a ta)(hb:PE X b tb)(hm:behindInMarks op b=false):PT X (.Compare a [op] [b] pos) (tTest (tOp r ta tb)):=by
 intro pins s σ H Q I h;refine wpAny_isTrue_Compare1 (thn (ha pins s σ H _ I h) fun v s1 ⟨x,H1,I1,r1,q1⟩=>thn (hb pins s1 σ H1 _ I1 q1) fun u s2 ⟨y,H2,I2,r2,q2⟩=>
  thn (ho pins s2 σ H2 x y v u _ I2 r1 r2 q2) fun c s3 ⟨z,H3,I3,r3,k,e,q3⟩=>?_) hm
 subst e;cases r3;exact wpAny_truthy_bool ⟨H3,I3,q3⟩
def tChain(r r':R2)(ta tb tc:TE):TE:=fun σ H Q=>ta σ H fun x H1=>tb σ H1 fun y H2=>r x y H2 fun z H3=>∃k,z=.bl k ∧
 (if k=true then tc σ H3 fun w' H4=>r' y w' H4 Q else Q (.bl false) H3)
theorem qnuz{op op':CmpOp}{r r':R2}(ho:OpR X (compareOp op) r)(ho':OpR X (compareOp op') r')(ha:PE X a ta)(hb:PE X b tb)(hc:PE X c tc)
  (hm:lastMarks [op,op'] [b,c]=false:=by with_unfolding_all rfl):PE X (.Compare a [op,op'] [b,c] pos) (tChain r r' ta tb tc):=by
 intro pins s σ H Q I h;refine Compare_chain (thn (ha pins s σ H _ I h) fun v s1 ⟨x,H1,I1,r1,q1⟩=>chain_link (thn (hb pins s1 σ H1 _ I1 q1) fun u s2 ⟨y,H2,I2,r2,q2⟩=>
  thn (ho pins s2 σ H2 x y v u _ I2 r1 r2 q2) fun d s3 ⟨z,H3,I3,r3,k,e,q3⟩=>?_)) hm
 subst e;cases r3;refine wpAny_truthy_bool ?_;cases k with
 |false=>exact ite_ff ⟨.bl false,H3,I3,rfl,q3⟩
 |true=>exact ite_tt (chain_last (thn (hc pins s3 σ H3 _ I3 q3) fun w' s4 ⟨z',H4,I4,r4,q4⟩=>ho' pins s4 σ H4 y z' u w' Q I4 r2 r4 q4))
def TruV(K:PySem.W.Frag)(x:V)(H:Hp)(k:Bool):Prop:=
 match x with
 |.non=>k=false
 |.bl b=>k=b
 |.int i=>k=(i != 0)
 |.str y=>y.length≤sizeLine/\k=((y.length:Int) != 0)
 |.byt y=>y.size≤sizeLine/\k=((y.size:Int) != 0)
 |.ref p=>(∃xs,SqL K H p xs/\k = !xs.isEmpty)∨(∃xs,SqT K H p xs/\k = !xs.isEmpty)∨∃kvs,H p=some (.dK kvs)/\k = !kvs.isEmpty
 |_=>False
theorem qnvz{κ:Type}{kvs:List (κ×V)}{vs:List (κ×Value)}(r:KV kvs vs):(!vs.isEmpty) = !kvs.isEmpty:=by
 cases r<;>rfl
theorem qhmz{xs:List V}{its:List Value}(r:Vals xs its):(!its.toArray.isEmpty) = !xs.isEmpty:=by
 cases r<;>simp
theorem line63:(sizeLine:Nat)<2^63:=by rw[sizeLine_eq];decide
theorem qnwz:TruR X (fun x H Q=>∃k,TruV X.K x H k/\Q k H):=by
 intro pins s σ H x v Q I rx h;obtain⟨k,e,q⟩:=h;have hl:=line63;have hs:sizeLine=16777216:=sizeLine_eq;cases x with
 |non=>
  cases rx;have e':k=false:=e;subst e';exact truthy_none ⟨H,I,q⟩
 |bl b=>
  cases rx;have e':k=b:=e;subst e';exact wpAny_truthy_bool ⟨H,I,q⟩
 |int i=>
  obtain⟨t,rfl⟩:=rx;have e':k=(i != 0):=e;subst e';exact PySem.P.truthy_int ⟨H,I,q⟩
 |str y=>
  obtain⟨t,rfl⟩:=rx;obtain⟨hy,e'⟩:y.length≤sizeLine/\k=((y.length:Int) != 0):=e;subst e';exact PySem.P.truthy_str (by lia) ⟨H,I.tok _,q⟩
 |byt y=>
  obtain⟨t,rfl⟩:=rx;obtain⟨hy,e'⟩:y.size≤sizeLine/\k=((y.size:Int) != 0):=e;subst e';exact PySem.W.truthy_bytes (by lia) ⟨H,I.tok _,q⟩
 |ref p=>
  cases rx;have e':(∃xs,SqL X.K H p xs/\k = !xs.isEmpty)∨(∃xs,SqT X.K H p xs/\k = !xs.isEmpty)∨∃kvs,H p=some (.dK kvs)/\k = !kvs.isEmpty:=e;rcases e' with⟨xs,hx,e'⟩|⟨xs,hx,e'⟩|⟨kvs,hx,e'⟩
  ·subst e';obtain⟨its,r,pl,hz⟩:=I.list hx;have hlen:=r.length;exact wpAny_truthy_list pl.isList (by simp only[List.size_toArray];lia) ⟨H,I.tok _,by rw[qhmz r];exact q⟩
  ·subst e';obtain⟨its,r,pl,hz⟩:=I.tuple hx;have hlen:=r.length;exact truthy_tuple pl (by simp only[List.size_toArray];lia) ⟨H,I.tok _,by rw[qhmz r];exact q⟩
  ·subst e';obtain⟨hz,hS,vs,r,m⟩:kvs.length≤sizeLine/\(p==sysModules)=false/\∃vs,KV kvs vs/\s.heap.DictOf (mixKind X.prog X.w) p vs:=I.hok p _ hx;have hlen:kvs.length=vs.length:=Paired.length r;exact wpAny_truthy_dict hS m (by lia) ⟨H,I.tok _,by rw[qnvz r];exact q⟩
 |_=>exact (show False from e).elim
theorem qnxz(ha:PE X a ta)(he:∀whole,isTrue a X.env whole=(do let v ←whole;standAt a.pos;holding [v] (truthy v))):
  PT X a (fun σ H Q=>ta σ H fun x H'=>∃k,TruV X.K x H' k/\Q k H'):=by
 intro pins s σ H Q I h;exact isTrue_plain (thn (ha pins s σ H _ I h) fun v s1 ⟨x,H1,I1,r1,q1⟩=>qnwz pins s1 σ H1 x v Q I1 r1 q1) (he _)
theorem vals1{x:V}{us:List Value}(r:Vals [x] us):∃u,us=[u]/\RelV x u:=by
 cases r with
 |cons r1 r2=>cases r2;exact⟨_,rfl,r1⟩
theorem vals2{x y:V}{us:List Value}(r:Vals [x,y] us):∃u w',us=[u,w']/\RelV x u/\RelV y w':=by
 cases r with
 |cons r1 r2=>
  cases r2 with
  |cons r3 r4=>cases r4;exact⟨_,_,rfl,r1,r3⟩
theorem qnyz(hc:X.calm=true):CallR X (.builtin "max") (fun xs H Q=>∃i j,xs=[.int i,.int j]/\Q (.int (if j > i then j else i)) H):=by
 intro pins s σ H xs us Q I r h;obtain⟨i,j,rfl,q⟩:=h;obtain⟨u,w',rfl,⟨t,rfl⟩,⟨t',rfl⟩⟩:=vals2 r;refine max_two_ints (I.ok.hd hc) fun h' tk k=>⟨_,H,I.kept k,?_,q⟩;by_cases hj:j > i
 ·rw[if_pos hj,if_pos hj];exact⟨_,rfl⟩
 ·rw[if_neg hj,if_neg hj];exact⟨_,rfl⟩
theorem qnzz:CallR X (.type "int") (fun xs H Q=>(∃i,xs=[.int i]/\Q (.int i) H)∨∃k,xs=[.bl k]/\Q (.int (if k then 1 else 0)) H):=by
 intro pins s σ H xs us Q I r h;rcases h with⟨i,rfl,q⟩|⟨k,rfl,q⟩
 ·obtain⟨u,rfl,t,rfl⟩:=vals1 r;exact call_int_int ⟨.int i,H,I,⟨_,rfl⟩,q⟩
 ·obtain⟨u,rfl,r1⟩:=vals1 r;cases r1;exact call_int_bool ⟨.int (if k then 1 else 0),H,I.tok _,⟨_,rfl⟩,q⟩
end
end L2
namespace L2
open PySem PySem.Spec PyProof.Rows
theorem qn0z{h:Heap}{dx:Addr}{mA:Str->Option Value}(n:h.Ns1 dx mA):∃od,h.get? dx=some od/\∀name,PySem.W.lookIn name od=some (mA name):=by
 obtain⟨o,es,ep,ho,hd,hk,_,hm⟩:=n;refine⟨o,ho,fun name=>?_⟩;have e:=hm name;unfold nsFind findBy at e;rw[←Array.find?_toList] at e;unfold PySem.W.lookIn;rw[hd];dsimp only;split
 ·rename_i y q;rw[q] at e;exact congrArg some e
 ·rename_i q;rw[q] at e;have a:es.toList.any (·.refKey)=false:=by
   rw[List.any_eq_false];intro y hy;obtain⟨z,t,hkey⟩:=hk y (Array.mem_toList_iff.mp hy);simp[DictEntry.refKey,hkey]
  have a':¬es.toList.any (·.refKey)=true:=by rw[a];exact Bool.false_ne_true
  rw[if_neg a'];exact congrArg some e
theorem RelO.some_of{v:V}{o:Option Value}(r:RelO (some v) o):∃u,o=some u/\RelV v u:=by
 cases o with
 |none=>exact (show False from r).elim
 |some u=>exact⟨u,rfl,r⟩
section
variable {X:Cx} {pins:List (Addr×Obj)} {σ:St} {H:Hp} {s:Shared} {a C dx:Addr} {fs:List (Str×V)} {f:Str} {v:V} {A:Around} {E:Value->Shared->Prop}
theorem qn1z{prog:Program}{w:World}{env:Env}{e:Expr}{f:Str}{pos:Pos}{s:Shared}{Q:Value->Shared->Prop}(hb:attributeBase e f env (eval e env)=eval e env)
  (h:wpAny (model prog w) A (eval e env) (fun o s₁=>wpAny (model prog w) A (getAttr o f true) Q E s₁) E s):wpAny (model prog w) A (eval (.Attribute e f pos) env) Q E s:=
 Attribute_any_ h (by rw[arm_eval_Attribute,hb])
end
end L2
namespace L2
open PySem PySem.Spec PyProof.Rows
structure Room(k:Nat)(A:Around):Prop where
 hd:A.handled=none
 dp:A.depth+3*k+5<recursionLimit
 un:A.units+16*k+200<cLine
theorem Room.mono{j k:Nat}{A:Around}(r:Room k A)(h:j≤k):Room j A:=⟨r.hd,by have:=r.dp;lia,by have:=r.un;lia⟩
theorem Room.deeper{k:Nat}{A:Around}(r:Room (k+1) A)(env:Env):Room k (A.deeper env):=
 ⟨r.hd,by have:=r.dp;show A.depth+1+3*k+5<_;lia,by have:=r.un;show A.units+3+16*k+200<_;lia⟩
theorem qn2z{A:Around}{C:Addr}{us:List Value}{kw:List (Str×Value)}:(A.under (.builtin "type.__call__" ⟨.ref C::us,kw⟩)).depth=A.depth+1:=by
 first|rfl|simp[Around.under,Code.weight,Code.isCreation,Code.isGuard,Code.isCaller,Code.frames,Code.isFrame,guardIds]
theorem Room.depth{k:Nat}{A:Around}(r:Room k A):A.depth<recursionLimit:=by have:=r.dp;lia
theorem Room.units{k:Nat}{A:Around}(r:Room k A):A.units+64<cLine:=by have:=r.un;lia
theorem Room.units0{k:Nat}{A:Around}(r:Room k A):A.units<cLine:=by have:=r.un;lia
def tNil:TA:=fun _ H Q=>Q [] H
def tCons(ta:TE)(tr:TA):TA:=fun σ H Q=>ta σ H fun x H1=>tr σ H1 fun xs H2=>Q (x::xs) H2
section
variable {X:Cx} {e:Expr} {es:List Expr} {te:TE} {t:TA} {pos:Pos}
theorem qb5z:PA X [] tNil:=fun _ _ _ _ H Q I h=>Calls.spliced_nil ⟨[],H,I,.nil,h⟩
theorem qa1z(ha:PE X e te)(hr:PA X es t)(hs:starEach (e::es) X.env=(false,eval e X.env)::starEach es X.env:=by rfl):PA X (e::es) (tCons te t):=by
 intro pos pins s σ H Q I h;rw[hs];show wpAny _ _ (spliced ((false,eval e X.env)::backTo pos (starEach es X.env))) _ _ s;refine Calls.spliced_cons (thn (ha pins s σ H _ I h) fun u s1 ⟨x,H1,I1,r1,q1⟩=>?_);exact thn (hr pos pins s1 σ H1 _ I1 q1) fun us s2 ⟨xs,H2,I2,r2,q2⟩=>⟨x::xs,H2,I2,.cons r1 r2,q2⟩
def tTup(t:TA):TE:=fun σ H Q=>t σ H fun xs H1=>xs.length≤sizeLine/\∀p,H1 p=none->Q (.ref p) (upd H1 p (.tup xs))
def tLst(t:TA):TE:=fun σ H Q=>t σ H fun xs H1=>xs.length≤sizeLine/\∀p,H1 p=none->Q (.ref p) (upd H1 p (.lst xs))
theorem qn3z{x1}(h:PA X es t):PE X (.Tuple es x1 pos) (tTup t):=by
 intro pins s σ H Q I hq;refine wpAny_Tuple_spliced (thn (h pos pins s σ H _ I hq) fun us s1 ⟨xs,H1,I1,r,z,q⟩=>⟨by rw[←r.length];exact z,?_⟩);have hf:H1 s1.heap.objs.size=none:=I1.hok.fresh (Nat.le_refl _);refine⟨.ref s1.heap.objs.size,upd H1 s1.heap.objs.size (.tup xs),I1.laid (t':=s1.toks) (fun b u e=>Heap.get?_push_of_some _ e) (Nat.le_refl _) ?_,rfl,q _ hf⟩;exact⟨z,us,r,⟨_,Heap.get?_push_size _ rfl,rfl,_,rfl⟩⟩
theorem qhnz(h:PA X es t):PE X (.List es pos) (tLst t):=by
 intro pins s σ H Q I hq;refine wpAny_List_spliced (thn (h pos pins s σ H _ I hq) fun us s1 ⟨xs,H1,I1,r,z,q⟩=>⟨by rw[←r.length];exact z,?_⟩);have hf:H1 s1.heap.objs.size=none:=I1.hok.fresh (Nat.le_refl _);refine⟨.ref s1.heap.objs.size,upd H1 s1.heap.objs.size (.lst xs),I1.laid (t':=s1.toks) (fun b u e=>Heap.get?_push_of_some _ e) (Nat.le_refl _) ?_,rfl,q _ hf⟩;exact⟨z,us,0,r,Heap.get?_push_size _ rfl⟩
end
abbrev Sp:=List V->Hp->VK->XK->Prop
abbrev CXT:=List Env->Hp->Shared->XK->Value->Shared->Prop
structure Env0(P:Program)(w:World)(K:PySem.W.Frag)(mg:Str->Option Value)(base:Heap)(A:Around)(outer:List Env)(s:Shared)(H:Hp):Prop where
 frames:A.frames=some outer
 mod:Mod K mg base
 bs:∀b o,base.get? b=some o->s.heap.get? b=some o/\H b=none
 bsz:base.objs.size≤s.heap.objs.size
 funs:s.heap.FunFrames base outer
 frf:∀b∈frs outer,H b=none
 hok:HOk P w H s.heap
 bare:AllBare s.gens
def CE(outer:List Env)(P:Program)(w:World)(H:Hp)(s:Shared)(Q:VK)(u:Value)(s':Shared):Prop:=
 ∃v H',s'.os=s.os/\AllBare s'.gens/\Un (frs outer) [] H H' s.heap s'.heap/\HOk P w H' s'.heap/\RelV v u/\Q v H'
def CR(CX:CXT)(outer:List Env)(P:Program)(w:World)(H:Hp)(s:Shared)(Q:VK)(E:XK)(r:Result)(s':Shared):Prop:=
 match r with
 |.ok (.ret u)=>CE outer P w H s Q u s'
 |.ok _=>False
 |.error e=>CX outer H s E e s'
structure FnOk(P:Program)(w:World)(K:PySem.W.Frag)(mg:Str->Option Value)(base:Heap)(CX:CXT)(k:Nat)(f:Addr)(fd:FuncData)(ps:List Str)(sp:Sp):Prop where
 len:∀vs H Q E,sp vs H Q E->vs.length=ps.length
 run:∀(A:Around) (outer:List Env) (s:Shared) (H:Hp) (args:Args) (us:List Value) (vs:List V) (Q:VK) (E:XK),Room k A->Env0 P w K mg base A outer s H->BindsTo s fd args (ps.zip us)->Vals vs us->sp vs H Q E ->
  codeAny (model P w) A (.call (.ref f) args) (CR CX outer P w H s Q E) s
theorem FnOk.mono{P:Program}{w:World}{K:PySem.W.Frag}{mg:Str->Option Value}{base:Heap}{CX:CXT}{j k:Nat}{f:Addr}{fd:FuncData}{ps:List Str}{sp:Sp}(F:FnOk P w K mg base CX j f fd ps sp)(h:j≤k):
  FnOk P w K mg base CX k f fd ps sp:=⟨F.len,fun A outer s H args us vs Q E hr=>F.run A outer s H args us vs Q E (hr.mono h)⟩
theorem FnOk.imp{P:Program}{w:World}{K:PySem.W.Frag}{mg:Str->Option Value}{base:Heap}{CX:CXT}{k:Nat}{f:Addr}{fd:FuncData}{ps:List Str}{sp sp':Sp}(F:FnOk P w K mg base CX k f fd ps sp)
  (h:∀vs H Q E,sp' vs H Q E->sp vs H Q E):FnOk P w K mg base CX k f fd ps sp':=
 ⟨fun vs H Q E q=>F.len vs H Q E (h _ _ _ _ q),fun A outer s H args us vs Q E hr he hb hv hs=>F.run A outer s H args us vs Q E hr he hb hv (h _ _ _ _ hs)⟩
section
variable {X:Cx} {pins:List (Addr×Obj)} {σ:St} {H:Hp} {s s':Shared}
theorem Inv.env0(I:Inv X pins σ H s):Env0 X.prog X.w X.K X.mg X.base X.A X.stack s H:=
 ⟨I.ok.frames,I.ok.mod,I.bs,Nat.le_trans I.ok.bsz I.sz,I.stack,I.stkFree,I.hok,I.bare⟩
theorem Inv.after{Q:VK}{u:Value}(I:Inv X pins σ H s)(h:CE X.stack X.prog X.w H s Q u s'):EP X pins σ Q u s':=by
 obtain⟨v,H',os,bare,un,hok,r,q⟩:=h;obtain⟨hh,g,d,t,os'⟩:=s';obtain rfl:os'=s.os:=os;exact⟨v,H',I.call (h':=hh) (g':=g) (d':=d) (t':=t) (ch:=[]) un hok bare (fun b z=>absurd z (by simp)),r,q⟩
end
def tCall(sp:Sp)(dvs:List V)(E:XK)(t:TA):TE:=fun σ H Q=>t σ H fun vs H1=>sp (vs++dvs) H1 Q E
def Binds(K:PySem.W.Frag)(fd:FuncData)(ps:List Str)(ds:List Value):Prop:=
 ∀(s:Shared) (us:List Value),K.In s.heap->(us++ds).length=ps.length->BindsTo s fd ⟨us,[]⟩ (ps.zip (us++ds))
theorem Binds.all{K:PySem.W.Frag}{fd:FuncData}{ps:List Str}(h:∀us:List Value,us.length=ps.length->bindArgs fd ⟨us,[]⟩=pure (ps.zip us)):Binds K fd ps []:=fun s us _ hl=>by
 rw[List.append_nil] at hl ⊢;exact .of_eq (h us hl)
def Passes(CX:CXT)(X:Cx)(E:XK):Prop:=∀(pins:List (Addr×Obj)) (σ:St) (H:Hp) (s:Shared) (e:Value) (s':Shared),Inv X pins σ H s->CX X.stack H s E e s'->X.xe e s'
section
variable {X:Cx} {CX:CXT} {k:Nat} {f C:Addr} {fd:FuncData} {ps:List Str} {sp:Sp} {dvs:List V} {ds:List Value} {E:XK} {x m:Str} {p pos apos:Pos} {e o:Expr} {es:List Expr} {ta:TE} {t:TA}
theorem qn4z{pins:List (Addr×Obj)}{σ:St}{H:Hp}{s:Shared}{Q:VK}{us:List Value}{vs:List V}(F:FnOk X.prog X.w X.K X.mg X.base CX k f fd ps sp)(hr:Room k X.A)(hb:Binds X.K fd ps ds)(hd:Vals dvs ds)(hx:Passes CX X E)
  (I:Inv X pins σ H s) (r:Vals vs us) (h:sp (vs++dvs) H Q E):wpAny (model X.prog X.w) X.A (call (.ref f) us) (EP X pins σ Q) X.xe s:=by
 have r2:Vals (vs++dvs) (us++ds):=r.append hd;have hl:(us++ds).length=ps.length:=by rw[←r2.length];exact F.len _ _ _ _ h
 refine wpAny_call (codeAny_mono (F.run X.A X.stack s H ⟨us,[]⟩ (us++ds) (vs++dvs) Q E hr I.env0 (hb s us I.kIn hl) r2 h) fun r s' hq=>?_);cases r with
 |error e=>exact hx pins σ H s e s' I hq
 |ok fl=>
  cases fl with
  |ret u=>exact I.after hq
  |next=>exact False.elim hq
  |brk=>exact False.elim hq
  |cont=>exact False.elim hq
theorem qn5z(F:FnOk X.prog X.w X.K X.mg X.base CX k f fd ps sp)(hr:Room k X.A)(hg:Gl X x)(hm:X.mg x=some (.ref f))(hk:PySem.W.keepIn X.K (.ref f)=true)(hb:Binds X.K fd ps ds)(hd:Vals dvs ds)(hx:Passes CX X E)
  (ha:PA X (e::es) t) (hdb:(x==("__debug__":Str))=false:=by decide) (he:starEach (e::es) X.env=(false,eval e X.env)::starEach es X.env:=by rfl) (hpl:(backTo pos (starEach es X.env)).any (·.1)=false:=by rfl):
  PE X (.Call (.Name x p) (e::es) [] pos) (tCall sp dvs E t):=by
 intro pins s σ H Q I h;refine wpAny_Call_Name_kw (qa0z I hg hm ?_ hdb);refine PySem.W.callWith_K (h₀:=X.base) I.ok.mod.kin hk (thn (ha pos pins s σ H _ I h) fun us s1 ⟨vs,H1,I1,r,q⟩=>⟨I1.kIn,?_⟩) he hpl;exact qn4z F hr hb hd hx I1 r q
end
structure FnScope(N P:List Str)(sc:Scope):Prop where
 kind:sc.kind=.function
 co:sc.isCoroutine=false
 gen:sc.isGenerator=false
 nd:N.Nodup
 pre:N.take P.length=P
 par:∀x∈P,sc.names.lookup x=some .local∨sc.names.lookup x=some .cell
 nofree:∀y∈sc.names,y.2≠.free
theorem qhoz{kindOf:Str->Option NameKind}{x:Str}:∀{binds:List (Str×Value)} {m:Str->Option Value},(∀v,(x,v)∉binds)->bindL kindOf binds m x=m x
 |[],_,_=>rfl
 | (n,v)::r,m,h=>by
  unfold bindL;rw[qhoz fun w hw=>h w (List.mem_cons_of_mem _ hw)];split
  ·have:x≠n:=by rintro rfl;exact h v List.mem_cons_self
   simp[this]
  ·rfl
theorem qhpz{kindOf:Str->Option NameKind}{x:Str}:∀{binds:List (Str×Value)} {m:Str->Option Value},(∀v,(x,v)∉binds)->bindC kindOf binds m x=m x
 |[],_,_=>rfl
 | (n,v)::r,m,h=>by
  unfold bindC;rw[qhpz fun w hw=>h w (List.mem_cons_of_mem _ hw)];split
  ·rfl
  ·have:x≠n:=by rintro rfl;exact h v List.mem_cons_self
   simp[this]
theorem qdjz{kindOf:Str->Option NameKind}{x:Str}{v:Value}:∀{P:List Str} {vs:List Value} {i:Nat} {m:Str->Option Value},P.Nodup->P[i]?=some x->vs[i]?=some v->kindOf x=some .local ->
  bindL kindOf (P.zip vs) m x=some v
 |[],_,_,_,_,h,_,_=>by simp at h
 |_::_,[],_,_,_,_,h,_=>by simp at h
 |p::P,w::vs,0,m,nd,h1,h2,hk=>by
  simp at h1 h2;subst h1;subst h2;show bindL kindOf ((p,w)::P.zip vs) m p=_;unfold bindL;rw[qhoz fun v hv=>(List.nodup_cons.mp nd).1 (List.of_mem_zip hv).1,if_pos hk];simp
 |p::P,w::vs,i+1,m,nd,h1,h2,hk=>by
  show bindL kindOf ((p,w)::P.zip vs) m x=_;unfold bindL;exact qdjz (i:=i) (List.nodup_cons.mp nd).2 (by simpa using h1) (by simpa using h2) hk
theorem qhqz{kindOf:Str->Option NameKind}{x:Str}{v:Value}:∀{P:List Str} {vs:List Value} {i:Nat} {m:Str->Option Value},P.Nodup->P[i]?=some x->vs[i]?=some v->kindOf x≠some .local ->
  bindC kindOf (P.zip vs) m x=some v
 |[],_,_,_,_,h,_,_=>by simp at h
 |_::_,[],_,_,_,_,h,_=>by simp at h
 |p::P,w::vs,0,m,nd,h1,h2,hk=>by
  simp at h1 h2;subst h1;subst h2;show bindC kindOf ((p,w)::P.zip vs) m p=_;unfold bindC;rw[qhpz fun v hv=>(List.nodup_cons.mp nd).1 (List.of_mem_zip hv).1,if_neg hk];simp
 |p::P,w::vs,i+1,m,nd,h1,h2,hk=>by
  show bindC kindOf ((p,w)::P.zip vs) m x=_;unfold bindC;exact qhqz (i:=i) (List.nodup_cons.mp nd).2 (by simpa using h1) (by simpa using h2) hk
def start(N:List Str)(vs:List V):St:=vs.map some++List.replicate (N.length-vs.length) none
def cxOf(CX:CXT)(P:Program)(w:World)(K:PySem.W.Frag)(mg:Str->Option Value)(base:Heap)(N:List Str)(qual:Str)(scope:Scope)(f:Addr)(cd:Value)(A:Around)(outer:List Env)(s:Shared)(H:Hp)(E:XK):Cx where
 prog:=P
 w:=w
 K:=K
 mg:=mg
 base:=base
 A:=A.deeper (envOfC qual scope s.heap.objs.size f cd)
 N:=N
 s₀:=s
 H₀:=H
 env:=envOfC qual scope s.heap.objs.size f cd
 outer:=outer
 stack:=envOfC qual scope s.heap.objs.size f cd::outer
 ex:=[]
 calm:=true
 fn:=fun _=>true
 pn:=[]
 xe:=fun e s'=>wpAny (model P w) (A.deeper (envOfC qual scope s.heap.objs.size f cd)) (leaving (envOfC qual scope s.heap.objs.size f cd) e) (fun _ s''=>CX outer H s E e s'') (fun e' s''=>CX outer H s E e' s'') s'
theorem qhrz{sc:Scope}{n:Nat}{x:Str}(h:sc.names.lookup x=some .cell):∃c,(cellsFrom n sc.names []).lookup x=some c:=by
 have q:=PySem.W.cellsFrom_some sc.names n [] (.inl h);exact Option.isSome_iff_exists.mp q
theorem qexz{CX:CXT}{P:Program}{w:World}{K:PySem.W.Frag}{mg:Str->Option Value}{base:Heap}{N ps:List Str}{qual:Str}{scope:Scope}{f:Addr}{cd:Value}{A:Around}{outer:List Env}{s s1:Shared}{H:Hp}{E:XK}{us:List Value}{vs:List V}
  (S:FnScope N ps scope) (hd:A.handled=none) (e0:Env0 P w K mg base A outer s H) (hl:vs.length=ps.length) (r:Vals vs us)
  (x:InCallC s s.heap.objs.size (bindL (envOfC qual scope s.heap.objs.size f cd).kindOf (ps.zip us) fun _=>none) (cellsFrom (s.heap.objs.size+1) scope.names []) (bindC (envOfC qual scope s.heap.objs.size f cd).kindOf (ps.zip us) fun _=>none) s1):
  Inv (cxOf CX P w K mg base N qual scope f cd A outer s H E) [] (start N vs) H s1:=by
 have hpl:ps.length≤N.length:=by have:=congrArg List.length S.pre;rw[List.length_take] at this;lia
 obtain⟨h1,tk,rfl,hk⟩:=x.done;have noA:∀b:Addr,b∉(cxOf CX P w K mg base N qual scope f cd A outer s H E).ex:=fun b z=>absurd (show b∈([]:List Addr) from z) (by simp);refine⟨⟨e0.mod,S.kind,rfl,rfl,Nat.le_refl _,fun y z c h1 h2=>?_,fun y hy=>?_,fun y c _ h=>?_,fun _=>hd,Around.frames_deeper e0.frames,.inr ⟨rfl,rfl⟩,fun b z=>absurd z (noA b),e0.bs,e0.bsz,fun b _ _=>noA b,fun b z=>absurd z (noA b),e0.funs,e0.frf⟩,
  rfl,e0.bare,Un.kept hk,⟨_,x.toInCall.ns,fun i y v h1 h2 h3=>?_⟩,fun y c h=>⟨_,x.cell y c h⟩,e0.hok.fresh (Nat.le_refl _),fun y c h=>?_,fun p hp=>absurd (show p∈([]:List (Addr×Obj)) from hp) (by simp),e0.hok.kept hk,?_⟩
 ·exact name_of_addr x.apart (PySem.mem_of_lookup h1) (PySem.mem_of_lookup h2)
 ·have hy:scope.names.lookup y=some .cell∨scope.names.lookup y=some .free:=hy;rcases hy with hy|hy
  ·exact qhrz hy
  ·exact absurd rfl (S.nofree _ (PySem.mem_of_lookup hy))
 ·exact Nat.le_of_lt (x.above y c (PySem.mem_of_lookup h))
 ·have hi:i<vs.length:=by
   unfold start at h2;by_cases hi:i<vs.length
   ·exact hi
   ·rw[List.getElem?_append_right (by simpa using hi)] at h2;rw[List.getElem?_replicate] at h2;split at h2<;>cases h2
  have ha:vs[i]?=some v:=by
   unfold start at h2;rw[List.getElem?_append_left (by simpa using hi),List.getElem?_map] at h2;cases e:vs[i]? with
   |none=>rw[e] at h2;cases h2
   |some a=>rw[e] at h2;cases h2;rfl
  obtain⟨u,hu,rv⟩:=r.get ha;have hp:ps[i]?=some y:=by
   rw[←S.pre,List.getElem?_take_of_lt (by lia)];exact h1
  have ndP:ps.Nodup:=by rw[←S.pre];exact S.nd.sublist (List.take_sublist _ _)
  refine⟨u,rv,?_⟩;rcases S.par y (List.mem_of_getElem? hp) with k|k
  ·exact .inl ⟨k,qdjz ndP hp hu k⟩
  ·obtain⟨c,e⟩:=qhrz (n:=s.heap.objs.size+1) k;refine .inr ⟨.inl k,c,e,?_⟩;have q:=x.cell y c e;rw[qhqz ndP hp hu (by show scope.names.lookup y≠_;rw[k];decide)] at q;exact q
 ·exact e0.hok.fresh (Nat.le_of_lt (x.above y c (PySem.mem_of_lookup h)))
 ·unfold start;show _=N.length;rw[List.length_append,List.length_map,List.length_replicate];lia
theorem qhsz{CX:CXT}{P:Program}{w:World}{K:PySem.W.Frag}{mg:Str->Option Value}{base:Heap}{k:Nat}{f:Addr}{name qual:Str}{params:Arguments}{body:List Stmt}{scope:Scope}{dV kV doc pm cdv ct oc:Value}{an od:Option Addr}
  {osl:Array (Option Value)} {N ps:List Str} {sp:Sp} (lk:K.lookup f=some ⟨oc,od,.func (PySem.W.fnOf name qual params body scope dV kV doc pm an cdv ct),osl⟩) (hcd:PySem.W.codeIn K cdv qual=true) (S:FnScope N ps scope)
  (len:∀vs H Q E,sp vs H Q E->vs.length=ps.length)
  (hbody:∀(A:Around) (outer:List Env) (s:Shared) (H:Hp) (vs:List V) (Q:VK) (E:XK),Room k (A.deeper (envOfC qual scope s.heap.objs.size f cdv))->sp vs H Q E ->
   ∃t,PSs (cxOf CX P w K mg base N qual scope f cdv A outer s H E) body t/\t { nx:=fun _ H'=>Q .non H',rt:=Q } (start N vs) H):
  FnOk P w K mg base CX (k+1) f (PySem.W.fnOf name qual params body scope dV kV doc pm an cdv ct) ps sp:=by
 refine⟨len,fun A outer s H args us vs Q E hr e0 hb r hsp=>?_⟩;have hl:=len _ _ _ _ hsp;have KX:K.In s.heap:=e0.mod.kin.keeps fun b o e=>(e0.bs b o e).1;have lim:s.heap.NoLimit:=e0.mod.nolimit.keeps fun b o e=>(e0.bs b o e).1;have hkind:∀y∈ps.zip us,scope.names.lookup y.1=some .local∨(scope.names.lookup y.1=some .cell/\((cellsFrom (s.heap.objs.size+1) scope.names []).lookup y.1).isSome=true):=fun⟨n,v⟩ hy=>by
  rcases S.par n (List.of_mem_zip hy).1 with q|q
  ·exact .inl q
  ·exact .inr ⟨q,PySem.W.cellsFrom_some _ _ _ (.inl q)⟩
 refine codeAny_call_function hr.depth (KX _ _ lk) rfl S.co S.gen rfl (PySem.W.codeRec_of KX hcd) (hb _ _ _ _ ?_);refine wpAny_newFunctionEnv_cells S.kind hkind fun env he s1 x=>?_;subst he;refine⟨lim.keeps x.toInCall.keep,codeAny_func ?_⟩;obtain⟨t,ht,hq⟩:=hbody A outer s H vs Q E (hr.deeper _) hsp;have I:Inv (cxOf CX P w K mg base N qual scope f cdv A outer s H E) [] (start N vs) H s1:=qexz S hr.hd e0 hl r x;refine wpAny_mono (ht [] s1 (start N vs) H _ I hq) (fun fl s' hs=>?_) fun e s' hs=>hs;have fin:∀{σ':St} {H':Hp} {v:V} {u:Value},Inv (cxOf CX P w K mg base N qual scope f cdv A outer s H E) [] σ' H' s'->RelV v u->Q v H'->CE outer P w H s Q u s':=
  fun {σ' H' v u} J rv q=>⟨v,H',J.os,J.bare,J.base,J.hok,rv,q⟩
 cases fl with
 |ret u=>
  obtain⟨v,σ',H',J,rv,q⟩:=hs;exact fin J rv q
 |next=>
  obtain⟨σ',H',J,q⟩:=hs;exact fin (v:=V.non) (u:=Value.none) J rfl q
 |brk=>
  obtain⟨_,_,_,q⟩:=hs;exact False.elim q
 |cont=>
  obtain⟨_,_,_,q⟩:=hs;exact False.elim q
end L2
namespace L2
open PySem PySem.Spec PyProof.Rows
section
variable {X:Cx} {x:Str} {p pos:Pos} {e:Expr} {es:List Expr} {t:TA} {id T:String} {r:List V->Hp->VK->Prop}
def tCB(r:List V->Hp->VK->Prop)(t:TA):TE:=fun σ H Q=>t σ H fun vs H1=>r vs H1 Q
theorem qa8z(hc:CallR X (.builtin id) r)(hg:Gl X x)(hm:X.mg x=none)(hv:bootBuiltins x=some (.builtin id))(ha:PA X (e::es) t)(hn:x≠"__name__":=by decide)(hdb:(x==("__debug__":Str))=false:=by decide)
  (he:starEach (e::es) X.env=(false,eval e X.env)::starEach es X.env:=by rfl) (hpl:(backTo pos (starEach es X.env)).any (·.1)=false:=by rfl):PE X (.Call (.Name x p) (e::es) [] pos) (tCB r t):=by
 intro pins s σ H Q I h;refine wpAny_Call_Name_kw (qa7z I hg hm hv ?_ hn hdb);exact PyProof.Rows.callWith_builtin1 (thn (ha pos pins s σ H _ I h) fun us s1 ⟨vs,H1,I1,r1,q1⟩=>hc pins s1 σ H1 vs us Q I1 r1 q1) he hpl
theorem qeyz(hc:CallR X (.type T) r)(hg:Gl X x)(hm:X.mg x=none)(hv:bootBuiltins x=some (.type T))(ha:PA X (e::es) t)(hn:x≠"__name__":=by decide)(hdb:(x==("__debug__":Str))=false:=by decide)
  (he:starEach (e::es) X.env=(false,eval e X.env)::starEach es X.env:=by rfl) (hpl:(backTo pos (starEach es X.env)).any (·.1)=false:=by rfl):PE X (.Call (.Name x p) (e::es) [] pos) (tCB r t):=by
 intro pins s σ H Q I h;refine wpAny_Call_Name_kw (qa7z I hg hm hv ?_ hn hdb);exact PyProof.Rows.callWith_type1 (thn (ha pos pins s σ H _ I h) fun us s1 ⟨vs,H1,I1,r1,q1⟩=>hc pins s1 σ H1 vs us Q I1 r1 q1) he hpl
end
end L2
namespace HT
open PySem PyProof.Rows
def lexLt:List Int->List Int->Bool
 |[],[]=>false
 |[],_::_=>true
 |_::_,[]=>false
 |x::xs,y::ys=>if x=y then lexLt xs ys else decide (x<y)
theorem qn6z(x y:Int)(xs ys:List Int):lexLt (x::xs) (y::ys)=if x=y then lexLt xs ys else decide (x<y):=rfl
theorem qn7z:lexLt [] []=false:=rfl
theorem qn8z(y:Int)(ys:List Int):lexLt [] (y::ys)=true:=rfl
theorem qn9z(x:Int)(xs:List Int):lexLt (x::xs) []=false:=rfl
theorem qoaz(A:Around)(s:Shared)(a:Int)(t:Tok)(c:Int)(u:Tok):∃e,SeqAt.EqAt A s (.int a t) (.int c u) e/\(e=true↔a=c):=
 ⟨(a==c),SeqAt.EqAt.int_int a t c u,by simp⟩
theorem qobz(A:Around)(s:Shared)(a:Int)(t:Tok)(c:Int)(u:Tok)(prog:Program)(w:World)(E:Value->Shared->Prop)(Q:Value->Shared->Prop)(h:Q (.bool (decide (a<c))) s):
  wpAny (model prog w) A (richCompare .Lt (.int a t) (.int c u)) Q E s:=
 (PyProof.Rows.lt_int h:wpAny (model prog w) A (compareOp .Lt (.int a t) (.int c u)) Q E s)
section
open PySem.SeqAt
open PySem.AutoSeq1 (wpAny_loadPart')
open PySem.MeetsSeq PySem.MeetsSeq2 PySem.MeetsSeq3
theorem qocz(l b:Addr)(items items2:Array Value)(n n2:Nat)(dd dd2:Option Addr)(sl sl2:Array (Option Value))(ns ms:List Int)(hi:IntsAre items.toList ns)(hj:IntsAre items2.toList ms):
  Meets (Builtin.«tuple.__lt__» ⟨[.ref l,.ref b],[]⟩)
   (fun _ R s=>s.heap.get? l=some { cls:=.type "tuple",dict:=dd,data:=.seq items n,slots:=sl }/\s.heap.get? b=some { cls:=.type "tuple",dict:=dd2,data:=.seq items2 n2,slots:=sl2 } ∧
    R (.ok (.ret (.bool (lexLt ns ms)))) s):=
 .of_wp fun prog w A R s h=>by
  obtain⟨hp,g,d,tk,os⟩:=s;obtain⟨hl,hb,h⟩:=h;have f2:=AutoSeq1.sub_tuple_tuple;have z1:items.size=ns.length:=by rw[←hi.length];simp
  have z2:items2.size=ms.length:=by rw[←hj.length];simp
  wp_walk using wpAny_loadPart' hl,wpAny_loadPart' hb,wpAny_forIn_list _ (fun rest b s'=>b.1=none/\s'=⟨hp,g,d,tk,os⟩/\∃(vs ws:List Value) (ns' ms':List Int),rest=vs.zip ws ∧
   IntsAre vs ns'/\IntsAre ws ms'/\ns'.length+items2.size=ms'.length+items.size/\R (.ok (.ret (.bool (lexLt ns' ms')))) ⟨hp,g,d,tk,os⟩) _
  case turn=>
   rintro⟨y,x⟩ rest b s' ⟨hb',rfl,vs,ws,ns',ms',hz,hvi,hwi,hlen,hR⟩;cases hvi with
   |nil=>rw[List.zip_nil_left] at hz;cases hz
   |cons a t hvi'=>
    cases hwi with
    |nil=>rw[List.zip_nil_right] at hz;cases hz
    |cons c u hwi'=>
     rw[List.zip_cons_cons] at hz;injection hz with hyx hrest;injection hyx with hy hx;subst hy hx;rw[qn6z] at hR;simp only[List.length_cons] at hlen;obtain⟨e,he,hiff⟩:=qoaz A.in1 ⟨hp,g,d,tk,os⟩ a t c u;refine wpAny_bind (he prog w _ _ ?_);cases e with
     |true=>
      rw[if_pos (hiff.mp rfl)] at hR;wp_walk;exact⟨rfl,rfl,_,_,_,_,hrest,hvi',hwi',by lia,hR⟩
     |false=>
      rw[if_neg (fun q=>absurd (hiff.mpr q) Bool.false_ne_true)] at hR;have hri:=qobz A.in1 ⟨hp,g,d,tk,os⟩ a t c u prog w;wp_walk using hri;exact⟨_,rfl,by simpa using hR⟩
  case fin=>
   rintro⟨b1,b2⟩ s' ⟨hb',rfl,vs,ws,ns',ms',hz,hvi,hwi,hlen,hR⟩;simp only at hb';subst hb';have hv:lexLt ns' ms'=decide (items.size<items2.size):=by
    cases hvi with
    |nil=>
     cases hwi with
     |nil=>
      simp only[List.length_nil] at hlen;rw[qn7z];exact (decide_eq_false (by lia)).symm
     |cons c u hw=>
      simp only[List.length_nil,List.length_cons] at hlen;rw[qn8z];exact (decide_eq_true (by lia)).symm
    |cons a t hv=>
     cases hwi with
     |nil=>
      simp only[List.length_nil,List.length_cons] at hlen;rw[qn9z];exact (decide_eq_false (by lia)).symm
     |cons c u hw=>
      rw[List.zip_cons_cons] at hz;cases hz
   rw[hv] at hR;wp_walk;exact⟨_,rfl,by simpa [Builtin.Tuple.tupleCompareSizes] using hR⟩
  case h=>
   exact⟨rfl,rfl,items.toList,items2.toList,ns,ms,rfl,hi,hj,by lia,h⟩
end
section
variable {prog:Program} {w:World} {A:Around} {E:Value->Shared->Prop} {s:Shared}
theorem lt_tupInts{l b:Addr}{items items2:Array Value}{ns ms:List Int}{Q:Value->Shared->Prop}(hl:IsTup s.heap l items)(hb:IsTup s.heap b items2)(hi:IntsAre items.toList ns)(hj:IntsAre items2.toList ms)
  (hu:A.units<cLine) (h:Q (.bool (lexLt ns ms)) s):wpAny (model prog w) A (compareOp .Lt (.ref l) (.ref b)) Q E s:=by
 obtain⟨⟨cls,dd,data,sl⟩,ho,hc,n,hd⟩:=id hl;obtain⟨⟨cls2,dd2,data2,sl2⟩,ho2,hc2,n2,hd2⟩:=id hb;simp only at hc hd hc2 hd2;subst hc hd hc2 hd2;exact richCompare_meets_room (op:=.Lt) ⟨_,ho,rfl⟩ ⟨_,ho2,rfl⟩ PySem.F.slot_tuple_lt PySem.F.entry_tuple_lt (PySem.F.args_tuple_lt_2 _ _) (qocz l b items items2 n n2 dd dd2 sl sl2 ns ms hi hj)
  ⟨ho,ho2,show Value.bool (lexLt ns ms)≠Value.notImplemented/\Q (.bool (lexLt ns ms)) s from⟨(fun x=>nomatch x),h⟩⟩ hu
theorem cat_tup{t b:Addr}{vs ws:List Value}{Q:Value->Shared->Prop}(ht:IsTup s.heap t vs.toArray)(hb:IsTup s.heap b ws.toArray)(hv:vs≠[])
  (h1:ws=[]->Q (.ref t) s) (h2:ws≠[]->Q (.ref s.heap.objs.size) { s with heap:=s.heap.push { cls:=.type "tuple",data:=.seq (vs++ws).toArray }})
  (hsz:vs.length+ws.length≤sizeLine):wpAny (model prog w) A (binaryOp .Add (.ref t) (.ref b)) Q E s:=by
 obtain⟨⟨cls,dd,data,sl⟩,ho,hc,n,hd⟩:=id ht;obtain⟨⟨cls2,dd2,data2,sl2⟩,ho2,hc2,n2,hd2⟩:=id hb;simp only at hc hd hc2 hd2;subst hc hd hc2 hd2;have e:vs.toArray++ws.toArray=(vs++ws).toArray:=by simp
 by_cases hw:ws=[]
 ·exact concat_meets ⟨_,ho,rfl⟩ ⟨_,ho2,rfl⟩ noFill_tuple_add seq_tuple_add PySem.F.slot_tuple_add PySem.F.entry_tuple_add (PySem.F.args_tuple_add_2 _ _)
   (tuple_addW1 t b vs.toArray ws.toArray n n2 dd dd2 sl sl2 (by simpa using hv) (by simp[hw])) ⟨ho,ho2,h1 hw⟩
 ·refine concat_meets ⟨_,ho,rfl⟩ ⟨_,ho2,rfl⟩ noFill_tuple_add seq_tuple_add PySem.F.slot_tuple_add PySem.F.entry_tuple_add (PySem.F.args_tuple_add_2 _ _)
   (tuple_addW2 t b vs.toArray ws.toArray n n2 dd dd2 sl sl2 (by simpa using hv) (by simpa using hw) (by rw[List.size_toArray,List.size_toArray];exact hsz)) ⟨ho,ho2,?_⟩
  rw[e];exact h2 hw
def sIx(n d:Nat):Option Int->Nat
 |none=>d
 |some v=>if v<0 then (v+(n:Int)).toNat else min v.toNat n
theorem sIx_none(n d:Nat):sIx n d none=d:=rfl
theorem sIx_nat(n d k:Nat):sIx n d (some (k:Int))=min k n:=by
 show (if (k:Int)<0 then ((k:Int)+(n:Int)).toNat else min (k:Int).toNat n)=min k n;rw[if_neg (by lia),Int.toNat_natCast]
theorem qodz(n d:Nat)(hd:d≤n)(o:Option Int):sIx n d o≤n:=by
 cases o with
 |none=>exact hd
 |some v=>
  show (if v<0 then (v+(n:Int)).toNat else min v.toNat n)≤n;by_cases hv:v<0
  ·rw[if_pos hv];lia
  ·rw[if_neg hv];exact Nat.min_le_right _ _
theorem qhtz(v:Int)(n d:Nat):(if v<0 then max (v+(n:Int)) 0 else min v (n:Int))=((sIx n d (some v):Nat):Int):=by
 show (if v<0 then max (v+(n:Int)) 0 else min v (n:Int))=(((if v<0 then (v+(n:Int)).toNat else min v.toNat n):Nat):Int);by_cases hv:v<0
 ·simp only[if_pos hv];lia
 ·simp only[if_neg hv];lia
theorem qoez(lo hi:Option Int)(n:Nat):Builtin.Slice.sliceAdjust lo hi 1 (n:Int)=(((sIx n 0 lo:Nat):Int),((sIx n n hi:Nat):Int)):=by
 have h1:¬((1:Int)<0):=by lia
 unfold Builtin.Slice.sliceAdjust;simp only[h1,if_false];refine Prod.ext ?_ ?_
 ·cases lo with
  |none=>rfl
  |some v=>exact qhtz v n 0
 ·cases hi with
  |none=>rfl
  |some v=>exact qhtz v n n
theorem qofz(i j:Nat):Builtin.Slice.slicePlaces (i:Int) (j:Int) 1=j-i:=by
 unfold Builtin.Slice.slicePlaces;have h1:(1:Int) > 0:=by lia
 simp only[h1,if_true,Int.ediv_one];split<;>lia
theorem qhuz{v:Value}{o:Option Int}{Q:Option Int->Shared->Prop}(p:IsPart v o)(h:Q o s):wpAny (model prog w) A (Builtin.Slice.slicePartIndex v) Q E s:=by
 cases p with
 |none=>exact slicePart_none h
 |int i t=>exact slicePart_int h
theorem sliceApplied_gen{sl:Addr}{vl vu:Value}{lo hi:Option Int}{n:Nat}{Q:Int×Int×Nat->Shared->Prop}(hs:s.heap.IsSliceOf sl vl vu .none)(pl:IsPart vl lo)(pu:IsPart vu hi)
  (h:Q (((sIx n 0 lo:Nat):Int),1,sIx n n hi-sIx n 0 lo) s):wpAny (model prog w) A (Builtin.Slice.sliceApplied (.ref sl) (pure (n:Int))) Q E s:=by
 obtain⟨os,hos,hcs,hds⟩:=id hs;unfold Builtin.Slice.sliceApplied Builtin.Slice.sliceFields;refine wpAny_bind (wpAny_bind (wpAny_field hos hds (x:=vl) rfl (wpAny_bind (wpAny_field hos hds (x:=vu) rfl (wpAny_bind (wpAny_field hos hds (x:=.none) rfl (wpAny_pure ?_)))))));refine wpAny_bind (slicePart_none ?_);show wpAny _ _ (if ((1:Int)==0)=true then _ else _) _ _ s;rw[if_neg (by decide)];refine wpAny_bind (qhuz pl (wpAny_bind (qhuz pu (wpAny_bind (wpAny_pure ?_)))));show wpAny _ _ (match Builtin.Slice.sliceAdjust lo hi 1 (n:Int) with|(lo,hi)=>pure (lo,(1:Int),Builtin.Slice.slicePlaces lo hi 1)) _ _ s
 rw[qoez lo hi n];show wpAny _ _ (pure (((sIx n 0 lo:Nat):Int),(1:Int),Builtin.Slice.slicePlaces ((sIx n 0 lo:Nat):Int) ((sIx n n hi:Nat):Int) 1)) _ _ s;rw[qofz];exact wpAny_pure h
theorem qogz(xs:Array Value)(i k:Nat):((List.range k).filterMap fun (m:Nat)=>xs[((i:Int)+(m:Int)*1).toNat]?).toArray=((xs.toList.drop i).take k).toArray:=by
 have e:(fun (m:Nat)=>xs[((i:Int)+(m:Int)*1).toNat]?)=fun m=>xs[i+m]?:=by
  funext m;have:((i:Int)+(m:Int)*1).toNat=i+m:=by lia
  rw[this]
 rw[e];have:=pick_run xs i k;rw[List.filterMap_map] at this;have e2:((fun x=>xs[x]?) ∘ fun x=>i+x)=fun m=>xs[i+m]?:=rfl;rw[e2] at this;rw[this]
theorem getItem_tuple_cut{t sl:Addr}{items:Array Value}{vl vu:Value}{lo hi:Option Int}{Q:Value->Shared->Prop}(ht:IsTup s.heap t items)(hs:s.heap.IsSliceOf sl vl vu .none)(pl:IsPart vl lo)(pu:IsPart vu hi)
  (hw:¬(sIx items.size 0 lo=0/\sIx items.size items.size hi=items.size))
  (h:Q (.ref s.heap.objs.size) { s with heap:=s.heap.push { cls:=.type "tuple",data:=.seq ((items.toList.drop (sIx items.size 0 lo)).take (sIx items.size items.size hi-sIx items.size 0 lo)).toArray }})
  (hsz:items.size≤sizeLine):wpAny (model prog w) A (getItem (.ref t) (.ref sl)) Q E s:=by
 have htake:sizeOk (.seq ((items.toList.drop (sIx items.size 0 lo)).take (sIx items.size items.size hi-sIx items.size 0 lo)).toArray):=by
  show ((items.toList.drop (sIx items.size 0 lo)).take (sIx items.size items.size hi-sIx items.size 0 lo)).toArray.size≤sizeLine;rw[List.size_toArray,List.length_take,List.length_drop,Array.length_toList];lia
 have hj:sIx items.size items.size hi≤items.size:=qodz _ _ (Nat.le_refl _) hi;obtain⟨os,hos,hcs,hds⟩:=id hs;have hTs:s.TypeIs (.ref sl) "slice":=⟨os,hos,hcs⟩;unfold getItem
 try with_reducible refine wpAny_holding ?_
 first|refine wpAny_bind (wpAny_pure ?_)|skip
 refine wpAny_bind (wpAny_sequenceKey ht.typeIs (by decide) ?_);refine wpAny_bind (wpAny_callSpecial?_slot (name:=Str.ofString "__getitem__") ht.typeIs PyProof.Rows.slot_tuple_getitem
  (wpAny_call_entry PyProof.Rows.slot_tuple_getitem ht.typeIs entry_tuple_getitem ?_ (args_tuple_getitem _ _)))
 show wpAny _ _ (Builtin.Tuple.tupleItemsOf (.ref t) >>= _) _ _ s;refine wpAny_bind (tupleItemsOf_ ht ?_);refine wpAny_bind (wpAny_typeOf hTs ?_);rw[if_pos (by decide)];refine wpAny_bind (sliceApplied_gen hs pl pu ?_);have hno:¬((((sIx items.size 0 lo:Nat):Int)==0&&(1:Int)==1&&(sIx items.size items.size hi-sIx items.size 0 lo)==items.size)=true):=by
  intro q;rw[Bool.and_eq_true,Bool.and_eq_true] at q;have q1:((sIx items.size 0 lo:Nat):Int)=0:=eq_of_beq q.1.1;have q2:sIx items.size items.size hi-sIx items.size 0 lo=items.size:=eq_of_beq q.2;exact hw ⟨by lia,by lia⟩
 show wpAny _ _ (if (((sIx items.size 0 lo:Nat):Int)==0&&(1:Int)==1&&(sIx items.size items.size hi-sIx items.size 0 lo)==items.size)=true then _ else _) _ _ s;rw[if_neg hno,qogz]
 first
  |exact wpAny_bind (m:=Builtin.Tuple.tupleExact _) (wpAny_newObj_type (wpAny_pure ⟨_,rfl,wpAny_pure h⟩) htake)
  |exact wpAny_bind (m:=Builtin.Tuple.tupleExact _) (wpAny_newObj_type (wpAny_bind (wpAny_pure (wpAny_pure ⟨_,rfl,wpAny_pure h⟩))) htake)
  |exact wpAny_bind (wpAny_bind (m:=Builtin.Tuple.tupleExact _) (wpAny_newObj_type (wpAny_pure (wpAny_pure ⟨_,rfl,wpAny_pure h⟩)) htake))
  |exact wpAny_bind (wpAny_bind (m:=Builtin.Tuple.tupleExact _) (wpAny_newObj_type (wpAny_pure ⟨_,rfl,wpAny_pure h⟩) htake))
end
end HT
namespace L2
open PySem PySem.Spec PyProof.Rows
abbrev TO:=St->Hp->(Option Int->Hp->Prop)->Prop
def PO(X:Cx)(e:Option Expr)(t:TO):Prop:=
 ∀(pins:List (Addr×Obj)) (s:Shared) (σ:St) (H:Hp) (Q:Option Int->Hp->Prop),Inv X pins σ H s->t σ H Q ->
  wpAny (model X.prog X.w) X.A (evalPart e X.env) (fun u s'=>∃o H',Inv X pins σ H' s'/\IsPart u o/\Q o H') X.xe s
def tNoPart:TO:=fun _ H Q=>Q none H
def tPart(t:TE):TO:=fun σ H Q=>t σ H fun x H1=>∃i,x=.int i/\Q (some i) H1
theorem intsAre_of{ns:List Int}:∀{us:List Value},Vals (ns.map V.int) us->IntsAre us ns:=by
 induction ns with
 |nil=>intro us r;rw[List.map_nil] at r;cases r;exact .nil
 |cons n ns ih=>
  intro us r;rw[List.map_cons] at r;cases r with
  |cons r1 r2=>
   obtain⟨t,e⟩:=r1;subst e;exact .cons n t (ih r2)
section
variable {X:Cx} {e:Expr} {te:TE} {lo hi:Option Expr} {tl th:TO} {pos p2:Pos}
theorem qohz:PO X none tNoPart:=by
 intro pins s σ H Q I h;rw[evalPart_none];exact wpAny_pure ⟨none,H,I,.none,h⟩
theorem qoiz(h:PE X e te):PO X (some e) (tPart te):=by
 intro pins s σ H Q I hw;rw[evalPart_some];refine thn (h pins s σ H _ I hw) fun u s1 ⟨x,H1,I1,r1,q1⟩=>?_;obtain⟨i,rfl,q⟩:=q1;obtain⟨t,rfl⟩:=r1;exact⟨some i,H1,I1,.int i t,q⟩
def SlR(X:Cx)(r:V->Option Int->Option Int->Hp->VK->Prop):Prop:=
 ∀(pins:List (Addr×Obj)) (s:Shared) (σ:St) (H:Hp) (x:V) (v vl vu:Value) (lo hi:Option Int) (sl:Addr) (Q:VK),Inv X pins σ H s->RelV x v->s.heap.IsSliceOf sl vl vu .none->IsPart vl lo->IsPart vu hi->r x lo hi H Q ->
  ∃T id,typeLookup (.type T) "__getitem__" = pure (some (.builtin id))/\s.TypeIs v T/\wpAny (model X.prog X.w) X.A (getItem v (.ref sl)) (EP X pins σ Q) X.xe s
theorem SlR.or{r r':V->Option Int->Option Int->Hp->VK->Prop}(h:SlR X r)(h':SlR X r'):SlR X (fun x lo hi H Q=>r x lo hi H Q∨r' x lo hi H Q):=by
 intro pins s σ H x v vl vu lo hi sl Q I rx hs pl pu q;rcases q with q|q
 ·exact h pins s σ H x v vl vu lo hi sl Q I rx hs pl pu q
 ·exact h' pins s σ H x v vl vu lo hi sl Q I rx hs pl pu q
def tSl(r:V->Option Int->Option Int->Hp->VK->Prop)(te:TE)(tl th:TO):TE:=fun σ H Q=>te σ H fun x H1=>tl σ H1 fun l H2=>th σ H2 fun u H3=>r x l u H3 Q
theorem qojz{r:V->Option Int->Option Int->Hp->VK->Prop}(hr:SlR X r)(he:PE X e te)(hl:PO X lo tl)(hu:PO X hi th):PE X (.Subscript e (.Slice lo hi none p2) pos) (tSl r te tl th):=by
 intro pins s σ H Q I h;refine Subscript_ (thn (he pins s σ H _ I h) fun v s1 ⟨x,H1,I1,r1,q1⟩=>?_);refine wpAny_Slice (thn (hl pins s1 σ H1 _ I1 q1) fun vl s2 ⟨l,H2,I2,pl,q2⟩=>thn (hu pins s2 σ H2 _ I2 q2) fun vu s3 ⟨u,H3,I3,pu,q3⟩=>?_);rw[evalPart_none];refine wpAny_pure ?_;have I4:Inv X pins σ H3 { s3 with heap:=s3.heap.push { cls:=.type "slice",data:=.fields #[vl,vu,.none]}}:=I3.kept (t':=s3.toks) fun b ob q=>Heap.get?_push_of_some _ q;obtain⟨T,id,hT,ht,hg⟩:=hr pins { s3 with heap:=s3.heap.push { cls:=.type "slice",data:=.fields #[vl,vu,.none]}} σ H3 x v vl vu l u s3.heap.objs.size Q I4 r1 (Heap.IsSliceOf.new ..) pl pu q3;show wpAny (model X.prog X.w) X.A (subscriptTail e (.Slice lo hi none p2) v (.ref s3.heap.objs.size)) (EP X pins σ Q) X.xe { s3 with heap:=s3.heap.push { cls:=.type "slice",data:=.fields #[vl,vu,.none]}};exact tail_any (ops:=[.ref s3.heap.objs.size,v]) ht hT hg (by with_unfolding_all rfl)
def cutV(xs:List V)(lo hi:Option Int):List V:=(xs.drop (HT.sIx xs.length 0 lo)).take (HT.sIx xs.length xs.length hi-HT.sIx xs.length 0 lo)
theorem qhvz(xs:List V)(lo hi:Option Int):(cutV xs lo hi).length≤xs.length:=by
 unfold cutV;rw[List.length_take,List.length_drop];lia
def rSlT(K:PySem.W.Frag):V->Option Int->Option Int->Hp->VK->Prop:=fun x lo hi H Q=>∃a xs,x=.ref a/\SqT K H a xs ∧
 ¬(HT.sIx xs.length 0 lo=0/\HT.sIx xs.length xs.length hi=xs.length)/\∀p,H p=none->Q (.ref p) (upd H p (.tup (cutV xs lo hi)))
theorem sl_tup:SlR X (rSlT X.K):=by
 intro pins s σ H x v vl vu lo hi sl Q I rx hs pl pu h;obtain⟨a,xs,rfl,hx,hw,q⟩:=h;cases rx;obtain⟨its,r,ht,hz⟩:=I.tuple hx;have hlen:its.toArray.size=xs.length:=by rw[List.size_toArray];exact r.length.symm
 refine⟨"tuple",_,PyProof.Rows.slot_tuple_getitem.lookup,ht.typeIs,?_⟩;refine HT.getItem_tuple_cut ht hs pl pu (by rw[hlen];exact hw) ?_ (by rw[hlen];exact hz);rw[hlen];refine⟨.ref s.heap.objs.size,_,I.laid (t':=s.toks) (o:=.tup (cutV xs lo hi)) (fun b ob q=>Heap.get?_push_of_some _ q) (Nat.le_refl _) ?_,rfl,q _ (I.hok.fresh (Nat.le_refl _))⟩;exact⟨Nat.le_trans (qhvz xs lo hi) hz,_,(r.drop (HT.sIx xs.length 0 lo)).take (HT.sIx xs.length xs.length hi-HT.sIx xs.length 0 lo),IsTup.new _ _⟩
def rLtT(K:PySem.W.Frag):R2:=fun x y H Q=>∃a b ns ms,x=.ref a/\y=.ref b/\SqT K H a (ns.map V.int)/\SqT K H b (ms.map V.int)/\Q (.bl (HT.lexLt ns ms)) H
theorem qokz(hu:X.A.units<cLine):OpR X (compareOp .Lt) (rLtT X.K):=by
 intro pins s σ H x y v u Q I rx ry h;obtain⟨a,b,ns,ms,rfl,rfl,ha,hb,q⟩:=h;cases rx;cases ry;obtain⟨its,r1,p1,_⟩:=I.tuple ha;obtain⟨its2,r2,p2,_⟩:=I.tuple hb;have i1:IntsAre its.toArray.toList ns:=intsAre_of r1;have i2:IntsAre its2.toArray.toList ms:=intsAre_of r2;exact HT.lt_tupInts p1 p2 i1 i2 hu ⟨.bl (HT.lexLt ns ms),H,I,rfl,q⟩
def rCatT(K:PySem.W.Frag):R2:=fun x y H Q=>∃a b xs ys,x=.ref a/\y=.ref b/\SqT K H a xs/\SqT K H b ys/\xs≠[]/\xs.length+ys.length≤sizeLine ∧
 (ys=[]->Q (.ref a) H)/\(ys≠[]->∀p,H p=none->Q (.ref p) (upd H p (.tup (xs++ys))))
theorem Vals.nil_iff{xs:List V}{us:List Value}(r:Vals xs us):us=[]↔xs=[]:=by
 cases r with
 |nil=>simp
 |cons _ _=>simp
theorem op_catT:OpR X (binaryOp .Add) (rCatT X.K):=by
 intro pins s σ H x y v u Q I rx ry h;obtain⟨a,b,xs,ys,rfl,rfl,ha,hb,hx,hz,q1,q2⟩:=h;cases rx;cases ry;obtain⟨its,r1,p1,_⟩:=I.tuple ha;obtain⟨its2,r2,p2,_⟩:=I.tuple hb;refine HT.cat_tup p1 p2 (fun z=>hx (r1.nil_iff.mp z)) (fun z=>⟨.ref a,H,I,rfl,q1 (r2.nil_iff.mp z)⟩) (fun z=>?_) (by rw[←r1.length,←r2.length];exact hz);refine⟨.ref s.heap.objs.size,_,I.laid (t':=s.toks) (o:=.tup (xs++ys)) (fun b ob q=>Heap.get?_push_of_some _ q) (Nat.le_refl _) ?_,rfl,q2 (fun w=>z (r2.nil_iff.mpr w)) _ (I.hok.fresh (Nat.le_refl _))⟩;exact⟨by rw[List.length_append];exact hz,_,r1.append r2,IsTup.new _ _⟩
end
end L2
namespace L2
open PySem PySem.Spec PyProof.Rows
def ixN(n:Nat)(i:Int):Option Nat:=if 0≤i then (if i<n then some i.toNat else none) else if -(n:Int)≤i then some (i+n).toNat else none
def atI{α:Type}(xs:List α)(i:Int):Option α:=(ixN xs.length i).bind fun j=>xs[j]?
theorem qhwz{n:Nat}{i:Int}{j:Nat}(h:ixN n i=some j):seqIndex? i n=some j/\j<n/\-(n:Int)≤i/\i<n:=by
 unfold ixN at h;by_cases h0:0≤i
 ·rw[if_pos h0] at h;by_cases h1:i<n
  ·rw[if_pos h1] at h;have e:i.toNat=j:=Option.some.inj h;exact⟨by rw[seqIndex_of h0 h1,e],by lia,by lia,h1⟩
  ·rw[if_neg h1] at h;cases h
 ·rw[if_neg h0] at h;by_cases h1:-(n:Int)≤i
  ·rw[if_pos h1] at h;have e:(i+n).toNat=j:=Option.some.inj h;exact⟨by rw[seqIndex_neg (by lia) h1,e],by lia,h1,by lia⟩
  ·rw[if_neg h1] at h;cases h
theorem qdkz{α:Type}{xs:List α}{i:Int}{v:α}(h:atI xs i=some v):∃j,seqIndex? i xs.length=some j/\xs[j]?=some v/\j<xs.length/\-(xs.length:Int)≤i/\i<xs.length:=by
 unfold atI at h;cases e:ixN xs.length i with
 |none=>rw[e] at h;cases h
 |some j=>
  rw[e] at h;obtain⟨h1,h2,h3,h4⟩:=qhwz e;exact⟨j,h1,h,h2,h3,h4⟩
theorem qbjz{α:Type}{xs:List α}{j:Nat}{v:α}(h:xs[j]?=some v):atI xs (j:Int)=some v:=by
 have hj:j<xs.length:=(List.getElem?_eq_some_iff.mp h).1;have e:ixN xs.length (j:Int)=some j:=by
  unfold ixN;rw[if_pos (by lia),if_pos (by lia)];simp
 unfold atI;rw[e];exact h
def PlainIx(b:Expr):Prop:=∀o i,subscripted b false o i=operate [o,i] (getItem o i)
def IxR(X:Cx)(r:R2):Prop:=
 ∀(value slice:Expr) (pins:List (Addr×Obj)) (s:Shared) (σ:St) (H:Hp) (x y:V) (v u:Value) (Q:VK),Inv X pins σ H s->RelV x v->RelV y u->r x y H Q ->
  subscripted slice false v u=operate [v,u] (getItem v u)->wpAny (model X.prog X.w) X.A (subscriptTail value slice v u) (EP X pins σ Q) X.xe s
def MtR(X:Cx)(id:String)(r:V->List V->Hp->VK->Prop):Prop:=
 ∀(pins:List (Addr×Obj)) (s:Shared) (σ:St) (H:Hp) (x:V) (xs:List V) (v:Value) (us:List Value) (Q:VK),Inv X pins σ H s->RelV x v->Vals xs us->r x xs H Q ->
  wpAny (model X.prog X.w) X.A (call (.builtin id) (v::us)) (EP X pins σ Q) X.xe s
section
variable {X:Cx} {a b:Expr} {ta tb:TE} {pos:Pos}
theorem IxR.or{r r':R2}(h:IxR X r)(h':IxR X r'):IxR X (fun x y H Q=>r x y H Q∨r' x y H Q):=by
 intro value slice pins s σ H x y v u Q I rx ry q hs;rcases q with q|q
 ·exact h value slice pins s σ H x y v u Q I rx ry q hs
 ·exact h' value slice pins s σ H x y v u Q I rx ry q hs
theorem qhxz{r:R2}(hr:IxR X r)(ha:PE X a ta)(hb:PE X b tb)(hs:PlainIx b):PE X (.Subscript a b pos) (tOp r ta tb):=by
 intro pins s σ H Q I h;exact Subscript_ (binT ha hb I h fun v u s2 x y H2 I2 rx ry q=>hr a b pins s2 σ H2 x y v u Q I2 rx ry q (hs _ _))
def rIxL(K:PySem.W.Frag):R2:=fun x y H Q=>∃p xs i v,x=.ref p/\y=.int i/\SqL K H p xs/\atI xs i=some v/\Q v H
def rIxT(K:PySem.W.Frag):R2:=fun x y H Q=>∃p xs i v,x=.ref p/\y=.int i/\SqT K H p xs/\atI xs i=some v/\Q v H
def rIxS:R2:=fun x y H Q=>∃z i c,x=.str z/\y=.int i/\z.length≤sizeLine/\atI z.cps.toList i=some c/\Q (.str ⟨#[c]⟩) H
theorem ix_list:IxR X (rIxL X.K):=by
 intro value slice pins s σ H x y v u Q I rx ry h hs;obtain⟨p,xs,i,z,rfl,rfl,hq,he,q⟩:=h;cases rx;obtain⟨t,rfl⟩:=ry;obtain⟨its,r,pl,hz⟩:=I.list hq;obtain⟨j,h1,h2,h3,h4,h5⟩:=qdkz he;obtain⟨w,ew,rw'⟩:=r.get h2;have hl:=r.length;have hn:=line63;have fin:EP X pins σ Q w s:=⟨z,H,I,rw',q⟩;by_cases h0:0≤i
 ·have hj:i.toNat=j:=by
   rw[seqIndex_of h0 h5] at h1;exact Option.some.inj h1
  exact item_listR pl.isList h0 (by lia) (by rw[hj];simpa using ew) fin hs
 ·have hj:(i+(its.toArray.size:Int)).toNat=j:=by
   rw[seqIndex_neg (by lia) h4] at h1;rw[List.size_toArray,←hl];exact Option.some.inj h1
  exact subscriptTail_builtinR (x:=w) pl.isList.typeIs slot_list_getitem.lookup
   (wpAny_getItem_list_neg (Q:=fun r s'=>r=w/\EP X pins σ Q r s') pl.isList (by lia) (by rw[List.size_toArray]<;>lia) (by lia) (by rw[hj];simpa using ew) ⟨rfl,fin⟩) hs
theorem ix_tup:IxR X (rIxT X.K):=by
 intro value slice pins s σ H x y v u Q I rx ry h hs;obtain⟨p,xs,i,z,rfl,rfl,hq,he,q⟩:=h;cases rx;obtain⟨t,rfl⟩:=ry;obtain⟨its,r,pl,hz⟩:=I.tuple hq;obtain⟨j,h1,h2,h3,h4,h5⟩:=qdkz he;obtain⟨w,ew,rw'⟩:=r.get h2;have hl:=r.length;have hn:=line63;have fin:EP X pins σ Q w s:=⟨z,H,I,rw',q⟩;exact subscriptTail_builtinR (x:=w) pl.typeIs slot_tuple_getitem.lookup
  (getItem_tuple (j:=j) (Q:=fun r s'=>r=w/\EP X pins σ Q r s') pl (by lia) (by lia) (by rw[List.size_toArray,←hl];exact h1) (by simpa using ew) ⟨rfl,fin⟩) hs
theorem qolz:IxR X rIxS:=by
 intro value slice pins s σ H x y v u Q I rx ry h hs;obtain⟨z,i,c,rfl,rfl,hz,he,q⟩:=h;obtain⟨t,rfl⟩:=rx;obtain⟨t',rfl⟩:=ry;obtain⟨j,h1,h2,h3,h4,h5⟩:=qdkz he;have hl:z.cps.toList.length=z.length:=by simp[Str.length]
 rw[hl] at h1 h4 h5;have hn:=line63;exact tail_any (typeIs_str s z t) slot_str_getitem.lookup (getItem_str (c:=c) (by
  have e1:decide (i < -(2^63:Int))=false:=decide_eq_false (by lia);have e2:decide (i≥2^63)=false:=decide_eq_false (by lia);rw[e1,e2,Bool.or_false]) (by rw[h1];simpa using h2) ⟨.str ⟨#[c]⟩,H,I.tok _,⟨_,rfl⟩,q⟩) hs
def rIx(K:PySem.W.Frag):R2:=fun x y H Q=>rIxL K x y H Q∨rIxT K x y H Q∨rIxS x y H Q
theorem qhyz:IxR X (rIx X.K):=ix_list.or (ix_tup.or qolz)
theorem qomz(its:List Value)(n j:Nat)(u:Value):Obj.mapSeq (·.setIfInBounds j u) { cls:=.type "list",data:=.seq its.toArray n }={ cls:=.type "list",data:=.seq (its.set j u).toArray n }:=by
 simp[Obj.mapSeq]
theorem Inv.lst{pins:List (Addr×Obj)}{σ:St}{H:Hp}{s:Shared}{p:Addr}{xs:List V}(I:Inv X pins σ H s)(h:H p=some (.lst xs)):
  ∃(its:List Value) (n:Nat),Vals xs its/\s.heap.get? p=some { cls:=.type "list",data:=.seq its.toArray n }/\xs.length≤sizeLine:=by
 obtain⟨z,its,n,r,e⟩:=I.hok p _ h;exact⟨its,n,r,e,z⟩
theorem Inv.lstUpd{pins:List (Addr×Obj)}{σ:St}{H:Hp}{s:Shared}{p:Addr}{xs ys:List V}{its its':List Value}{n n':Nat}{f:Obj->Obj}(I:Inv X pins σ H s)(h:H p=some (.lst xs))
  (ho:s.heap.get? p=some { cls:=.type "list",data:=.seq its.toArray n }) (hf:f { cls:=.type "list",data:=.seq its.toArray n }={ cls:=.type "list",data:=.seq its'.toArray n' }) (r:Vals ys its') (hz:ys.length≤sizeLine) (t:Nat):
  Inv X pins σ (upd H p (.lst ys)) { s with heap:=s.heap.update p f,toks:=t }:=by
 have e:(s.heap.update p f).get? p=some { cls:=.type "list",data:=.seq its'.toArray n' }:=by
  rw[Heap.get?_update_self f ho (by rw[hf]<;>rfl),hf]
 refine I.write (x:=p) (e:=p) (by rw[h];trivial) (.inl rfl) (fun b u hb q=>(Heap.get?_update_other _ _ (Ne.symm hb)).trans q) ⟨_,e⟩ ?_;exact⟨hz,its',n',r,e⟩
def rSetL:V->V->V->Hp->(Hp->Prop)->Prop:=fun o i v H Q=>∃p xs k j,o=.ref p/\i=.int k/\H p=some (.lst xs)/\ixN xs.length k=some j/\Q (upd H p (.lst (xs.set j v)))
theorem set_list:PSet X rSetL:=by
 intro pins s σ H o i v ov iv u Q I ro ri rv h;obtain⟨p,xs,k,j,rfl,rfl,hp,hj,q⟩:=h;cases ro;obtain⟨t,rfl⟩:=ri;obtain⟨its,n,r,ho,hz⟩:=I.lst hp;obtain⟨h1,h2,h3,h4⟩:=qhwz hj;have hl:=r.length;have hn:=line63;have I':Inv X pins σ (upd H p (.lst (xs.set j v))) { s with heap:=s.heap.update p (Obj.mapSeq (·.setIfInBounds j u))}:=
  I.lstUpd hp ho (qomz its n j u) (r.set rv j) (by rw[List.length_set];exact hz) s.toks
 by_cases h0:0≤k
 ·have hk:k.toNat=j:=by
   rw[seqIndex_of h0 h4] at h1;exact Option.some.inj h1
  exact PySem.W.ki_setAt ho h0 (by lia) (by rw[List.size_toArray,←hl];exact h4) (by rw[hk];exact⟨_,I',q⟩)
 ·have hk:(k+(its.toArray.size:Int)).toNat=j:=by
   rw[seqIndex_neg (by lia) h3] at h1;rw[List.size_toArray,←hl];exact Option.some.inj h1
  exact PySem.W.ki_setBack ho (by lia) (by rw[List.size_toArray,←hl];exact h3) (by lia) (by rw[hk];exact⟨_,I',q⟩)
theorem qonz(lo hi:Option Int)(n:Nat):(sliceBounds lo hi none n).1=((HT.sIx n 0 lo:Nat):Int)/\(sliceBounds lo hi none n).2.1=((HT.sIx n n hi:Nat):Int)/\(sliceBounds lo hi none n).2.2=1:=by
 refine⟨?_,?_,rfl⟩
 ·cases lo with
  |none=>simp[sliceBounds,HT.sIx]
  |some i=>
   simp only[sliceBounds,HT.sIx,Option.getD_none,show (1:Int) > 0 by decide,if_true];by_cases h:i<0
   ·simp only[h,if_true]<;>lia
   ·simp only[h,if_false]<;>lia
 ·cases hi with
  |none=>simp[sliceBounds,HT.sIx]
  |some i=>
   simp only[sliceBounds,HT.sIx,Option.getD_none,show (1:Int) > 0 by decide,if_true];by_cases h:i<0
   ·simp only[h,if_true]<;>lia
   ·simp only[h,if_false]<;>lia
theorem qooz(its:List Value)(lo hi:Option Int):slicePick its.toArray lo hi none=((its.drop (HT.sIx its.length 0 lo)).take (HT.sIx its.length its.length hi-HT.sIx its.length 0 lo)).toArray:=by
 obtain⟨h1,h2,h3⟩:=qonz lo hi its.toArray.size;unfold slicePick;rw[h1,h2,h3];simp only[sliceRange_one,pick_run,List.size_toArray]<;>rfl
def rSlL(K:PySem.W.Frag):V->Option Int->Option Int->Hp->VK->Prop:=fun x lo hi H Q=>∃a xs,x=.ref a/\SqL K H a xs/\∀p,H p=none->Q (.ref p) (upd H p (.lst (cutV xs lo hi)))
theorem qopz:SlR X (rSlL X.K):=by
 intro pins s σ H x v vl vu lo hi sl Q I rx hs pl pu h;obtain⟨a,xs,rfl,hx,q⟩:=h;cases rx;obtain⟨its,r,ht,hz⟩:=I.list hx;have hlen:=r.length;refine⟨"list",_,slot_list_getitem.lookup,ht.isList.typeIs,?_⟩;refine wpAny_getItem_list_slice ht.isList hs pl pu .none (by simp) ?_ (by rw[List.size_toArray]<;>lia)
 rw[qooz,←hlen];refine⟨.ref s.heap.objs.size,_,I.laid (t':=s.toks) (o:=.lst (cutV xs lo hi)) (fun b ob q=>Heap.get?_push_of_some _ q) (Nat.le_refl _) ?_,rfl,q _ (I.hok.fresh (Nat.le_refl _))⟩;exact⟨Nat.le_trans (qhvz xs lo hi) hz,_,0,(r.drop (HT.sIx xs.length 0 lo)).take (HT.sIx xs.length xs.length hi-HT.sIx xs.length 0 lo),Heap.get?_push_size _ rfl⟩
theorem qoqz:CallR X (.builtin "len") (fun xs H Q=>∃p ys,xs=[.ref p]/\(SqL X.K H p ys∨SqT X.K H p ys)/\Q (.int ys.length) H):=by
 intro pins s σ H xs us Q I r h;obtain⟨p,ys,rfl,hq,q⟩:=h;obtain⟨u,rfl,rx⟩:=vals1 r;cases rx;have hn:=line63;rcases hq with hq|hq
 ·obtain⟨its,r',pl,hz⟩:=I.list hq;have hlen:=r'.length;exact Calls.call_len_list pl.isList (by simp only[List.size_toArray]<;>lia) ⟨.int ys.length,H,I.tok _,⟨s.toks+1,by rw[List.size_toArray,hlen]⟩,q⟩
 ·obtain⟨its,r',pl,hz⟩:=I.tuple hq;have hlen:=r'.length;exact len_tuple pl (by simp only[List.size_toArray]<;>lia) ⟨.int ys.length,H,I.tok _,⟨s.toks+1,by rw[List.size_toArray,hlen]⟩,q⟩
theorem qorz:CallR X (.type "tuple") (fun xs H Q=>∃p ys,xs=[.ref p]/\((SqL X.K H p ys/\∀l,H l=none->Q (.ref l) (upd H l (.tup ys)))∨(SqT X.K H p ys/\Q (.ref p) H))):=by
 intro pins s σ H xs us Q I r h;obtain⟨p,ys,rfl,h⟩:=h;obtain⟨u,rfl,rx⟩:=vals1 r;cases rx;rcases h with⟨hq,q⟩|⟨hq,q⟩
 ·obtain⟨its,r',pl,hz⟩:=I.list hq;have hlen:=r'.length;refine call_tuple_list pl.isList (fun h' kp=>?_) (by simp only[List.size_toArray]<;>lia)
  have I1:Inv X pins σ H { s with heap:=h' }:=I.kept (t':=s.toks) kp;have I2:Inv X pins σ (upd H h'.objs.size (.tup ys)) { s with heap:=h'.push { cls:=.type "tuple",data:=.seq its.toArray }}:=
   I1.laid (t':=s.toks) (fun b o e=>Heap.get?_push_of_some _ e) (Nat.le_refl _) (show ObjOk X.prog X.w _ _ _ (.tup ys) from⟨hz,its,r',IsTup.new _ _⟩)
  exact⟨.ref h'.objs.size,_,I2,rfl,q _ (I1.hok.fresh (Nat.le_refl _))⟩
 ·obtain⟨its,r',pl,hz⟩:=I.tuple hq;exact call_tuple_same pl ⟨.ref p,H,I,rfl,q⟩
def tyV(K:PySem.W.Frag)(T:String)(x:V)(H:Hp):Prop:=match x with
 |.str _=>T="str"
 |.int _=>T="int"
 |.ref p=>(T="list"/\∃xs,SqL K H p xs)∨(T="tuple"/\∃o,K.lookup p=some o/\o.cls=.type "tuple"/\o.dict=none) ∨
   (T="dict"/\((∃kvs,H p=some (.dK kvs))∨∃kvs,H p=some (.dT kvs)))∨(T="set"/\∃S n,H p=some (.set S n))
 |_=>False
theorem qosz{pins:List (Addr×Obj)}{σ:St}{H:Hp}{s:Shared}{T:String}{x:V}{v:Value}(I:Inv X pins σ H s)(r:RelV x v)(ty:tyV X.K T x H):
  s.TypeIs v T/\∀a,v=.ref a->∃ob,s.heap.get? a=some ob/\ob.dict=none:=by
 cases x with
 |str z=>
  obtain⟨t,rfl⟩:=r;cases (show T="str" from ty);exact⟨typeIs_str s z t,fun _ e=>nomatch e⟩
 |int i=>
  obtain⟨t,rfl⟩:=r;cases (show T="int" from ty);exact⟨typeIs_int s i t,fun _ e=>nomatch e⟩
 |ref p=>
  cases r;rcases ty with⟨rfl,xs,hq⟩|⟨rfl,o,hk,hc,hd⟩|⟨rfl,hk⟩|⟨rfl,S,n,hk⟩
  ·obtain⟨its,_,pl,_⟩:=I.list hq;refine⟨pl.isList.typeIs,fun a e=>?_⟩;cases e;obtain⟨o,n,e,c,hd,_⟩:=pl;exact⟨o,e,hd⟩
  ·refine⟨⟨o,I.kIn p o hk,hc⟩,fun a e=>?_⟩;cases e;exact⟨o,I.kIn _ o hk,hd⟩
  ·have z:∃o,s.heap.get? p=some o/\o.ExactDict:=by
    rcases hk with⟨kvs,hk⟩|⟨kvs,hk⟩
    ·obtain⟨_,_,_,_,o,_,_,e,ex,_⟩:=I.hok p _ hk;exact⟨o,e,ex⟩
    ·obtain⟨_,_,_,_,o,_,_,e,ex,_⟩:=I.hok p _ hk;exact⟨o,e,ex⟩
   obtain⟨o,e,ex⟩:=z;refine⟨⟨o,e,ex.1⟩,fun a e2=>?_⟩;cases e2;exact⟨o,e,ex.2.1⟩
  ·obtain⟨o,_,_,_,e,ex,_⟩:=I.hok p _ hk;refine⟨⟨o,e,ex.1⟩,fun a e2=>?_⟩;cases e2;exact⟨o,e,ex.2.1⟩
 |_=>exact False.elim ty
def tBM(K:PySem.W.Frag)(T:String)(r:V->List V->Hp->VK->Prop)(to:TE)(t:TA):TE:=fun σ H Q=>to σ H fun x H1=>tyV K T x H1/\t σ H1 fun xs H2=>r x xs H2 Q
variable {o e:Expr} {es:List Expr} {to:TE} {t:TA} {name:Str} {apos cpos:Pos} {T id:String} {r:V->List V->Hp->VK->Prop}
theorem qotz(pa:PlainAttrs T)(slot:Slot T name id)(hty:typeOf (.builtin id)=pure (.type "method_descriptor"))(hm:MtR X id r)(ho:PE X o to)(ha:PA X (e::es) t)
  (hbase:attributeBase o name X.env (eval o X.env)=eval o X.env:=by rfl)
  (hfew:((backTo cpos (starEach (e::es) X.env)).all (fun x=>!x.1)&&(backToKw cpos (keywordEach [] X.env)).all (fun x=>x.1.isSome)
   && decide ((e::es).length+([]:List Keyword).length+(if ([]:List Keyword).isEmpty then 0 else 1)<30))=true:=by rfl)
  (hline:(apos.endLine==cpos.line)=true:=by rfl) (hs:starEach (e::es) X.env=(false,eval e X.env)::starEach es X.env:=by rfl) (hplain:(backTo cpos (starEach es X.env)).any (·.1)=false:=by rfl):
  PE X (.Call (.Attribute o name apos) (e::es) [] cpos) (tBM X.K T r to t):=by
 intro pins s σ H Q I h;refine wpAny_Call_method_late hbase hfew hline rfl (thn (ho pins s σ H _ I h) fun v s1 ⟨x,H1,I1,r1,ty,q1⟩=>?_);obtain⟨h1,h2⟩:=qosz I1 r1 ty;refine⟨T,id,pa,slot,hty,h1,h2,?_⟩;have hA:=ha cpos pins s1 σ H1 _ I1 q1;rw[hs] at hA ⊢;refine Calls.callWith_builtin (by show (false||(backTo cpos (starEach es X.env)).any (·.1))=false;rw[hplain]<;>rfl) (Calls.evalArgs_plain ?_)
 exact thn hA fun us s2 ⟨vs,H2,I2,r2,q2⟩=>hm pins s2 σ H2 x vs v us Q I2 r1 r2 q2
/- xs.append(e),list.index on a module's tuple .. are MtR facts of 06m -/
end
end L2
namespace L2
open PySem PySem.Spec PyProof.Rows
def MtM(X:Cx)(id:String)(r:V->List V->Hp->VK->Prop):Prop:=
 ∀(pins:List (Addr×Obj)) (s:Shared) (σ:St) (H:Hp) (x:V) (xs:List V) (v:Value) (us:List Value) (Q:VK),Inv X pins σ H s->RelV x v->Vals xs us->r x xs H Q ->
  wpAny (model X.prog X.w) X.A (call (.builtin id) (v::us)) (EP X pins σ Q) X.xe s
theorem Vals.one:∀{x:V} {us:List Value},Vals [x] us->∃u,us=[u]/\RelV x u
 |_,_,.cons r .nil=>⟨_,rfl,r⟩
theorem Vals.zero:∀{us:List Value},Vals [] us->us=[]
 |_,.nil=>rfl
theorem Vals.eraseIdx:∀{xs:List V} {us:List Value} (i:Nat),Vals xs us->Vals (xs.eraseIdx i) (us.eraseIdx i)
 |_,_,_,.nil=>.nil
 |_,_,0,.cons _ t=>t
 |_,_,i+1,.cons r t=>.cons r (Vals.eraseIdx i t)
theorem Vals.rep{xs:List V}{us:List Value}(h:Vals xs us):∀k:Nat,Vals (List.replicate k xs).flatten (List.replicate k us).flatten
 |0=>.nil
 |k+1=>by
  rw[List.replicate_succ,List.replicate_succ,List.flatten_cons,List.flatten_cons];exact Vals.append h (Vals.rep h k)
theorem qezz{α:Type}:∀(l:List α) (i:Nat),(l.eraseIdx i).length≤l.length
 |[],_=>Nat.le_refl _
 |_::_,0=>Nat.le_succ _
 |_::r,i+1=>Nat.succ_le_succ (qezz r i)
theorem foldl_rep(its:List Value):∀(k:Nat) (acc:List Value),
  List.foldl (fun x1 x2=>x1++x2) acc.toArray (List.replicate k its.toArray)=(acc++(List.replicate k its).flatten).toArray
 |0,acc=>by simp
 |k+1,acc=>by
  have e:acc.toArray++its.toArray=(acc++its).toArray:=by simp
  have e2:(acc++its)++(List.replicate k its).flatten=acc++(List.replicate (k+1) its).flatten:=by
   rw[List.replicate_succ,List.flatten_cons,List.append_assoc]
  rw[←e2,←foldl_rep its k (acc++its),←e,List.replicate_succ,List.foldl_cons]
section
variable {X:Cx} {pins:List (Addr×Obj)} {σ:St} {H:Hp} {s:Shared} {l b:Addr} {xs ys zs:List V}
theorem Inv.lset{its its':List Value}{n:Nat}{f:Array Value->Array Value}{t':Nat}(I:Inv X pins σ H s)(hH:H l=some (.lst xs))
  (e:s.heap.get? l=some { cls:=.type "list",data:=.seq its.toArray n }) (hf:f its.toArray=its'.toArray) (hv:Vals ys its') (hz:ys.length≤sizeLine):
  Inv X pins σ (upd H l (.lst ys)) { s with heap:=s.heap.update l (Obj.mapSeq f),toks:=t' }:=by
 have q:=PySem.IsL.update e f;rw[hf] at q;refine I.write (x:=l) (e:=l) (by rw[hH];exact trivial) (.inl rfl) (fun b' u hb hu=>(Heap.get?_update_other s.heap (Obj.mapSeq f) (Ne.symm hb)).trans hu) ⟨_,q⟩ ?_;exact⟨hz,its',_,hv,q⟩
theorem Inv.lnew{its:List Value}{t':Nat}(I:Inv X pins σ H s)(hv:Vals ys its)(hz:ys.length≤sizeLine):
  Inv X pins σ (upd H s.heap.objs.size (.lst ys)) { s with heap:=s.heap.push { cls:=.type "list",data:=.seq its.toArray },toks:=t' }:=
 I.laid (fun _ _ q=>Heap.get?_push_of_some _ q) (Nat.le_refl _) ⟨hz,its,0,hv,Heap.get?_push_size _ rfl⟩
theorem Inv.fresh(I:Inv X pins σ H s):H s.heap.objs.size=none:=I.hok.fresh (Nat.le_refl _)
theorem Inv.lstM(I:Inv X pins σ H s)(hH:H l=some (.lst xs)):xs.length≤sizeLine/\∃(its:List Value) (n:Nat),Vals xs its/\xs.length=its.length/\s.heap.get? l=some { cls:=.type "list",data:=.seq its.toArray n }:=by
 obtain⟨z,its,n,r,e⟩:=I.hok l _ hH;exact⟨z,its,n,r,r.length,e⟩
theorem notLongL{n:Nat}(h:n≤sizeLine):Builtin.List.listTooLong n=false:=by
 unfold Builtin.List.listTooLong;exact decide_eq_false (by lia)
end
section
variable {X:Cx}
def rAppend:V->List V->Hp->VK->Prop:=fun x vs H Q=>∃l xs y,x=.ref l/\vs=[y]/\H l=some (.lst xs)/\xs.length<sizeLine/\Q .non (upd H l (.lst (xs++[y])))
theorem qhzz:MtM X "list.append" rAppend:=by
 intro pins s σ H x vs v us Q I rx rv h;obtain⟨l,xs,y,rfl,rfl,hH,hz,q⟩:=h;cases rx;obtain⟨u,rfl,ru⟩:=rv.one;obtain⟨z,its,n,r,hl,e⟩:=I.lstM hH;refine call_meets F.slot_list_append ⟨_,e,rfl⟩ F.entry_list_append (F.args_list_append_2 _ _) (PySem.list_append l its.toArray n u (by rw[List.size_toArray];lia)) ⟨e,?_⟩;refine⟨.non,_,I.lset (its':=its++[u]) hH e (by simp) (r.append (.cons ru .nil)) ?_,rfl,q⟩;rw[List.length_append,List.length_singleton];lia
def rExtend:V->List V->Hp->VK->Prop:=fun x vs H Q=>∃l b xs zs,x=.ref l/\vs=[.ref b]/\H l=some (.lst xs)/\H b=some (.lst zs)/\xs.length+zs.length≤sizeLine/\Q .non (upd H l (.lst (xs++zs)))
theorem q38z:MtM X "list.extend" rExtend:=by
 intro pins s σ H x vs v us Q I rx rv h;obtain⟨l,b,xs,zs,rfl,rfl,hH,hB,hz,q⟩:=h;cases rx;obtain⟨u,rfl,ru⟩:=rv.one;cases ru;obtain⟨z,its,n,r,hl,e⟩:=I.lstM hH;obtain⟨z2,its2,n2,r2,hl2,e2⟩:=I.lstM hB;have hsz:its.toArray.size+its2.toArray.size≤sizeLine:=by rw[List.size_toArray,List.size_toArray];lia
 have hlong:¬(!its.toArray.isEmpty&&Builtin.List.listTooLong (its.toArray.size+its2.toArray.size))=true:=by
  rw[notLongL hsz,Bool.and_false];exact Bool.false_ne_true
 refine call_meets F.slot_list_extend ⟨_,e,rfl⟩ F.entry_list_extend (F.args_list_extend_2 _ _)
  (AutoSeq1.list_extend_list_list_0 l its.toArray n b its2.toArray n2 hlong (by rw[List.size_toArray];lia) (by lia)) ⟨e,e2,?_⟩
 refine⟨.non,_,I.lset (its':=its++its2) hH e (by simp) (r.append r2) ?_,rfl,q⟩;rw[List.length_append];lia
def rPopAt:V->List V->Hp->VK->Prop:=fun x vs H Q=>∃l xs i k y,x=.ref l/\vs=[.int i]/\H l=some (.lst xs)/\-(2^63)≤i/\i<2^63/\seqIndex? i xs.length=some k/\xs[k]?=some y/\Q y (upd H l (.lst (xs.eraseIdx k)))
theorem qouz:MtM X "list.pop" rPopAt:=by
 intro pins s σ H x vs v us Q I rx rv h;obtain⟨l,xs,i,k,y,rfl,rfl,hH,h1,h2,hk,hy,q⟩:=h;cases rx;obtain⟨u,rfl,ru⟩:=rv.one;obtain⟨t,rfl⟩:=ru;obtain⟨z,its,n,r,hl,e⟩:=I.lstM hH;obtain⟨w,hw,rw'⟩:=r.get hy;refine call_meets F.slot_list_pop ⟨_,e,rfl⟩ F.entry_list_pop (F.args_list_pop_2 _ _)
  (MeetsSeq.list_pop_at l its.toArray n i t k w (fitsIndex_both h1 h2) (by rw[List.size_toArray,←hl];exact hk) (by rw[←Array.getElem?_toList];exact hw) (by rw[List.size_toArray];lia)) ⟨e,?_⟩
 refine⟨y,_,I.lset (its':=its.eraseIdx k) hH e ?_ (r.eraseIdx k) ?_,rw',q⟩
 ·show its.toArray.eraseIdxIfInBounds k=(its.eraseIdx k).toArray;rw[List.eraseIdxIfInBounds_toArray]
 ·have:=qezz xs k;lia
def rCat:R2:=fun x y H Q=>∃l b xs zs,x=.ref l/\y=.ref b/\H l=some (.lst xs)/\H b=some (.lst zs)/\xs.length+zs.length≤sizeLine/\∀p,H p=none->Q (.ref p) (upd H p (.lst (xs++zs)))
theorem op_cat:OpR X (binaryOp .Add) rCat:=by
 intro pins s σ H x y v u Q I rx ry h;obtain⟨l,b,xs,zs,rfl,rfl,hH,hB,hz,q⟩:=h;cases rx;cases ry;obtain⟨z,its,n,r,hl,e⟩:=I.lstM hH;obtain⟨z2,its2,n2,r2,hl2,e2⟩:=I.lstM hB;refine PySem.P.add_list e e2 ?_ (by rw[List.size_toArray,List.size_toArray];lia);have ea:its.toArray++its2.toArray=(its++its2).toArray:=by simp
 rw[ea];exact⟨.ref _,_,I.lnew (t':=s.toks) (r.append r2) (by rw[List.length_append];lia),rfl,q _ I.fresh⟩
def rRep:R2:=fun x y H Q=>∃l k xs,x=.ref l/\y=.int k/\H l=some (.lst xs)/\-(2^63)≤k/\k<2^63/\xs.length*k.toNat≤sizeLine ∧
 ∀p,H p=none->Q (.ref p) (upd H p (.lst (List.replicate k.toNat xs).flatten))
theorem len_rep{α:Type}(xs:List α)(k:Nat):(List.replicate k xs).flatten.length=k*xs.length:=by
 induction k with
 |zero=>simp
 |succ k ih=>rw[List.replicate_succ,List.flatten_cons,List.length_append,ih,Nat.succ_mul,Nat.add_comm]
theorem qovz:OpR X (binaryOp .Mult) rRep:=by
 intro pins s σ H x y v u Q I rx ry h;obtain⟨l,k,xs,rfl,rfl,hH,h1,h2,hz,q⟩:=h;cases rx;obtain⟨t,rfl⟩:=ry;obtain⟨z,its,n,r,hl,e⟩:=I.lstM hH;have hlen:its.toArray.size*k.toNat≤sizeLine:=by rw[List.size_toArray,←hl];exact hz
 have hcap:¬its.toArray.size*k.toNat > (2^63-1) / 8:=by
  have:(sizeLine:Nat)≤(2^63-1) / 8:=by decide
  lia
 have hfit:¬(!Builtin.List.listFitsIndex k)=true:=by
  rw[fitsIndex_both h1 h2];exact Bool.false_ne_true
 have hlong:¬Builtin.List.listTooLong (its.toArray.size*k.toNat)=true:=by
  rw[notLongL hlen];exact Bool.false_ne_true
 have hnew:List.foldl (fun x1 x2=>x1++x2) #[] (List.replicate (if its.toArray.isEmpty=true then 0 else k.toNat) its.toArray)=(List.replicate k.toNat its).flatten.toArray:=by
  have f0:∀m:Nat,List.foldl (fun x1 x2=>x1++x2) #[] (List.replicate m its.toArray)=(List.replicate m its).flatten.toArray:=fun m=>by
   have:=foldl_rep its m [];rw[List.nil_append] at this;exact this
  rw[f0];cases its with
  |nil=>simp
  |cons a r'=>rw[if_neg (by simp)]
 refine wpAny_binaryOp_repeat_ref (T:="list") (U:="int") (by decide) ⟨_,e,rfl⟩ (fun s'=>typeIs_int s' k t) noFill_list_mul F.fills_int_mul F.slot_int_rmul repeat_list F.slot_int_index.lookup
  (call_meets F.slot_int_rmul (typeIs_int s k t) F.entry_int_rmul (F.args_int_rmul_2 _ _) (int___rmul___int_list k t l its.toArray n)
   ⟨e,rfl,⟨_,e,rfl⟩,call_meets F.slot_list_mul ⟨_,e,rfl⟩ F.entry_list_mul (F.args_list_mul_2 _ _) (AutoListH.list___mul___list_int_3 l its.toArray n k t hfit hcap hlong) ⟨e,?_⟩⟩)
 rw[hnew];exact⟨.ref _,_,I.lnew (t':=s.toks) (r.rep k.toNat) (by rw[len_rep,Nat.mul_comm];exact hz),rfl,q _ I.fresh⟩
end
end L2
namespace Att
open PySem PySem.W PySem.Calls PyProof.Rows
theorem qowz{P:Params}{h:Heap}:∀(ns:List Int) (vs:List Value),WellAll P h vs (ns.map WData.int)->IntsAre vs ns:=by
 intro ns
 induction ns with
 |nil=>
  intro vs w;rw[List.map_nil] at w;cases w;exact .nil
 |cons n ns ih=>
  intro vs w;rw[List.map_cons] at w;cases w with
  |cons a b=>
   cases a;exact .cons _ _ (ih _ b)
theorem qoxz{l:OpenLaw}{n:Nat}(hn:l.most=some n){P:Params}{h:Heap}{args:List WData}{vals:List Value}
  (hpre:l.row.toRowW.claim.pre args=true) (hwl:WellAll P h vals args):
  ∃a vs ns,vals=[Value.ref a]/\args=[WData.list (ns.map WData.int)]/\h.get? a=some { cls:=.type "list",data:=.seq vs.toArray }/\IntsAre vs ns/\ns.length≤n:=by
 have hsh:WShape.hasAll [] args [.list .int]=true:=(pre_splitW hpre).1;have hc:l.pre.holds [] { args:=args }=true:=(pre_splitW hpre).2;obtain⟨d,r,rfl,h1,h2⟩:=hasAllW_cons hsh;obtain rfl:=hasAllW_nil h2;obtain⟨xs,rfl,h3⟩:=hasW_list h1;obtain⟨ns,rfl⟩:=items_int h3;have hlen:ns.length≤n:=by
  unfold OpenLaw.pre at hc;have h4:(WTm.not (.lt (.lit (.int (n:Int))) (.len (.arg 0)))).holds [] { args:=[.list (ns.map .int)]}=true:=by
   have h4:=(holds_andW hc).1;rw[hn] at h4;exact h4
  have h5:=condW_of h4 (w_not (w_lt w_lit (w_len_list (w_arg rfl))));rw[List.length_map] at h5;refine Nat.le_of_not_lt fun q=>?_;have q':(n:Int)<((ns.length:Nat):Int):=by lia
  first
   | (rw[decide_eq_true q'] at h5;exact absurd h5 (by decide))
   | (simp at h5;lia)
 cases hwl with
 |cons w1 w2=>
  cases w2;cases w1 with
  |list ho hall=>exact⟨_,_,ns,rfl,rfl,ho,qowz ns _ hall,hlen⟩
theorem qoyz(l:OpenLaw)(args:List WData):l.row.toRowW.claim.post args (.bool true) args=true:=
 postW_of (r:=l.row.toRowW) (X:=(true==true))
  (show WShape.has [] (.bool true) .bool=true by first|rfl|decide|simp[WShape.has,WShape.arms,WShape.armsAll])
  (show (WTm.eq .res (.lit (.bool true))).value [] { args:=args,res:=some (.bool true),after:=args }=some (.bool (true==true)) from w_eq_bool (w_res rfl) w_lit) rfl
theorem attach_call{l:OpenLaw}{n:Nat}{q:Program}{loose:List Str}{XP:(Str->Option Value)->Heap->Prop}{YP:World->Heap->Prop}{d:DefRec}
  (hn:l.most=some n) (hdf:d.params.defaults=[])
  (call:∀(w:World) (s₀ s₁:Shared) (mg mb:Str->Option Value) (fa:Addr) (o:Obj) (pm cd doc:Value) (a:Addr) (vs:List Value) (ns:List Int),
   Ground q loose [] XP w s₀ mg mb s₁.heap->YP w s₁.heap ->
   s₁.heap.get? fa=some o->o.data=.func (docDef d.name d.params d.body d.scope pm cd doc)->s₁.heap.CodeRec cd d.name->mg d.name=some (.ref fa) ->
   s₁.heap.get? a=some { cls:=.type "list",data:=.seq vs.toArray }->IntsAre vs ns->ns.length≤n->s₁.gens = #[] ->
   codeAny (model l.prog w) callerA (.call (.ref fa) ⟨[.ref a],[]⟩) (fun r s'=>r=.ok (.ret (.bool true))/\OldK s₁.heap s'.heap/\s'.os=s₁.os/\AllBare s'.gens) s₁):
  WalkO q loose XP YP l.row.toRowW d [] (fun f vs=>PySem.call f vs):=by
 intro w s₀ s₁ mg mb G Y fa o pm cd doc dV kV ho hd hcd hD hmg hg args vals as hpre hlay hrd hwl hlo;obtain rfl:dV=.none:=Dflts.none hD hdf;obtain rfl:kV=.none:=Dflts.noKw hD;obtain⟨a,vs,ns,rfl,rfl,hobj,hints,hlen⟩:=qoxz hn hpre hwl;refine enter_call (codeAny_mono (call w s₀ s₁ mg mb fa o pm cd doc a vs ns G Y ho (fd_plain hd) hcd hmg hobj hints hlen hg) fun r s' hq=>?_);obtain⟨rfl,h2,h3,h4⟩:=hq;exact⟨.inl ⟨.bool true,.bool true,[],rfl,fun _=>rfl,.bool true,qoyz l _,fun _=>⟨List.Pairwise.nil,fun _ hm=>(nomatch hm)⟩⟩,h2,h3,h4⟩
end Att
namespace L2
open PySem PySem.Spec PyProof.Rows
theorem qh0z:∀{vs:List Value} {ns:List Int},IntsAre vs ns->Vals (ns.map V.int) vs
 |_,_,.nil=>.nil
 |_,_,.cons n t h=>.cons ⟨t,rfl⟩ (qh0z h)
def Only(H:Hp):Prop:=∀b,H b=none∨∃o xs,H b=some (.frz o (.lst xs))
theorem qozz{P:Program}{w:World}{K:PySem.W.Frag}{mg mb:Str->Option Value}{CX:CXT}{k:Nat}{fa a:Addr}{fd:FuncData}{x:Str}{sp:Sp}{s₁:Shared}{vs:List Value}{ns:List Int}
  (KX:K.In s₁.heap) (hns:s₁.heap.Ns mainGlobals mg) (hb:s₁.heap.Ns builtinsNs mb) (hbb:∀x:Str,x≠"__name__"->mb x=bootBuiltins x) (hlim:s₁.heap.NoLimit) (hg:s₁.gens = #[])
  (ha:s₁.heap.get? a=some { cls:=.type "list",data:=.seq vs.toArray }) (hi:IntsAre vs ns) (hl:ns.length≤sizeLine) (hr:Room k callerA)
  (F:∀base:Heap,K.In base->base.Ns mainGlobals mg->FnOk P w K mg base CX k fa fd [x] sp) (hbind:∀(s:Shared) (u:Value),BindsTo s fd ⟨[u],[]⟩ [(x,u)])
  (hsp:∀H:Hp,Only H->SqL K H a (ns.map V.int)->sp [.ref a] H (fun v _=>v=.bl true) fun _ _ _=>False)
  (hCX:∀H e s',CX [] H s₁ (fun _ _ _=>False) e s'->False):
  codeAny (model P w) callerA (.call (.ref fa) ⟨[.ref a],[]⟩) (fun r s'=>r=.ok (.ret (.bool true))/\OldK s₁.heap s'.heap/\s'.os=s₁.os/\AllBare s'.gens) s₁:=by
 have rv:=qh0z hi;have lenV:=hi.length
 -- from an abstract heap in which nothing but the script may be tracked
 have core:∀H:Hp,Only H->SqL K H a (ns.map V.int)->HOk P w H s₁.heap->(∀b,H b≠none->b=a)->(H a≠none->K.lookup a=none) ->
   codeAny (model P w) callerA (.call (.ref fa) ⟨[.ref a],[]⟩) (fun r s'=>r=.ok (.ret (.bool true))/\OldK s₁.heap s'.heap/\s'.os=s₁.os/\AllBare s'.gens) s₁:=by
  intro H hO hS hok hA hK;have base_of:∀{b:Addr} {o:Obj},s₁.heap.get? b=some o->H b=none->(hidT s₁.heap H).get? b=some o:=fun e n=>qmqz e n;have noA:∀{b:Addr} {o:Obj} {es:Array DictEntry} {ep:Nat},s₁.heap.get? b=some o->o.data=.dict es ep->H b=none:=fun {b o es ep} e d=>by
   cases q:H b with
   |none=>rfl
   |some u=>
    have e':b=a:=hA b (by rw[q];simp);subst e';rw[ha] at e;cases e;have d':Data.seq vs.toArray _=Data.dict es ep:=d;cases d'
  have nsK:∀{b:Addr} {m:Str->Option Value},s₁.heap.Ns b m->(hidT s₁.heap H).Ns b m:=fun {b m} ⟨o,es,ep,e,d,r⟩=>⟨o,es,ep,base_of e (noA e d),d,r⟩;have hKb:K.In (hidT s₁.heap H):=fun b o e=>base_of (KX b o e) (by
   cases q:H b with
   |none=>rfl
   |some u=>
    have e':b=a:=hA b (by rw[q];simp);subst e';rw[hK (by rw[q];simp)] at e;cases e)
  have hM:Mod K mg (hidT s₁.heap H):=⟨hKb,nsK hns,⟨mb,nsK hb,hbb⟩,let ⟨mc,h1,h2⟩:=hlim;⟨mc,nsK h1,h2⟩⟩
  have e0:Env0 P w K mg (hidT s₁.heap H) callerA [] s₁ H:=⟨rfl,hM,fun b o e=>qmrz e,Nat.le_of_eq (qmpz _ _),trivial,fun b hb=>absurd (show b∈([]:List Addr) from hb) (by simp),hok,.of_eq hg⟩;refine codeAny_mono ((F _ hKb (nsK hns)).run callerA [] s₁ H ⟨[.ref a],[]⟩ [.ref a] [.ref a] _ _ hr e0 (hbind s₁ (.ref a)) (.cons rfl .nil) (hsp H hO hS)) fun r s' h=>?_;cases r with
  |error e=>exact (hCX H e s' h).elim
  |ok fl=>
   cases fl with
   |next=>exact False.elim h
   |brk=>exact False.elim h
   |cont=>exact False.elim h
   |ret u=>
    obtain⟨v,H',os,bare,un,hok',r',q⟩:=h;have q':v=.bl true:=q;subst q';obtain rfl:u=Value.bool true:=r';refine⟨rfl,OldK.of_keep fun b o e=>?_,os,bare⟩;cases q:H b with
    |none=>exact un.keep b o e q (by intro z;exact absurd (show b∈([]:List Addr) from z) (by simp)) (by simp)
    |some u=>
     rcases hO b with z|⟨ob,xs,z⟩
     ·rw[q] at z;cases z
     ·have z2:=un.frzs b ob _ z;obtain⟨e1,_⟩:=hok b _ z;obtain⟨e2,_⟩:=hok' b _ z2;rw[e] at e1;cases e1;exact e2
 cases hk:K.lookup a with
 |some o=>
  -- the script is one of the module's own objects
  have e:=KX a o hk;rw[ha] at e;cases e;refine core (fun _=>none) (fun _=>.inl rfl) (.inr ⟨_,vs.toArray,_,hk,rfl,rfl,rfl,by rw[List.size_toArray,lenV];exact hl,by simpa using rv⟩) (fun b u z=>by have z':(none:Option HO)=some u:=z;cases z') (fun b z=>absurd rfl z) fun z=>absurd rfl z
 |none=>
  refine core (fun b=>if b=a then some (.frz { cls:=.type "list",data:=.seq vs.toArray } (.lst (ns.map V.int))) else none) (fun b=>?_) (.inl (.inr ⟨{ cls:=.type "list",data:=.seq vs.toArray },if_pos rfl⟩)) (fun b u z=>?_) (fun b z=>?_) fun _=>hk
  ·by_cases hb:b=a
   ·exact .inr ⟨_,_,if_pos hb⟩
   ·exact .inl (if_neg hb)
  ·by_cases hb:b=a
   ·have z':=(if_pos hb).symm.trans z;cases z';subst hb;exact⟨ha,by rw[List.length_map];exact hl,vs,_,rv,ha⟩
   ·have z':=(if_neg hb).symm.trans z;cases z'
  ·by_cases hb:b=a
   ·exact hb
   ·exact absurd (if_neg hb) z
end L2
namespace L2
open PySem PySem.Spec PyProof.Rows
theorem walk_of{l:PySem.W.OpenLaw}{n k:Nat}{q:Program}{loose:List Str}{XP:(Str->Option Value)->Heap->Prop}{YP:World->Heap->Prop}{d:DefRec}{K:Params->PySem.W.Frag}{CX:World->CXT}{sp:World->Sp}{x:Str}
  (hn:l.most=some n) (hn2:n≤sizeLine) (hdf:d.params.defaults=[]) (hr:Room k callerA)
  (hY:∀(w:World) (h:Heap),YP w h->(K w.params).In h)
  (F:∀(w:World) (mg:Str->Option Value) (fa:Addr) (h:Heap),(K w.params).In h->h.Ns mainGlobals mg->mg d.name=some (.ref fa) ->
   ∃fd:FuncData,(∀(s:Shared) (u:Value),BindsTo s fd ⟨[u],[]⟩ [(x,u)]) ∧
    ∀base:Heap,(K w.params).In base->base.Ns mainGlobals mg->FnOk l.prog w (K w.params) mg base (CX w) k fa fd [x] (sp w))
  (hsp:∀(w:World) (H:Hp) (a:Addr) (ns:List Int),ns.length≤n->Only H->SqL (K w.params) H a (ns.map V.int)->sp w [.ref a] H (fun v _=>v=.bl true) fun _ _ _=>False)
  (hCX:∀(w:World) (H:Hp) (s:Shared) (e:Value) (s':Shared),CX w [] H s (fun _ _ _=>False) e s'->False):
  PySem.W.WalkO q loose XP YP l.row.toRowW d [] (fun f vs=>PySem.call f vs):=by
 refine Att.attach_call hn hdf fun w s₀ s₁ mg mb fa o pm cd doc a vs ns G Y ho hd hcd hmg hobj hints hlen hg=>?_;have KX:=hY w _ Y;obtain⟨fd,hb,hF⟩:=F w mg fa _ KX G.T.g hmg;exact qozz KX G.T.g G.T.b G.T.builtins G.T.nolimit hg hobj hints (Nat.le_trans hlen hn2) hr hF hb (fun H hO hS=>hsp w H a ns hlen hO hS) fun H e s'=>hCX w H s₁ e s'
end L2
/- THE LAST THEOREM (shape;LID,My.* are yours):
  My.Adr: a structure of the addresses that your layer names (classes,functions);My.Txt K t: a structure (Prop) of the equations over K;
  My.txt_mk:{K} {implicit addresses ..} (e1:nsIn K mainGlobals "law" = some (some (.ref f))) (e2:K.lookup f=some ⟨oc,od,.func (fnOf "law" "law" params body scope dV kV doc pm an cdv ct),sl⟩) (e3:codeIn K cdv "law" = true) ..:∃t,My.Txt K t
set_option maxRecDepth 100000 in
set_option maxHeartbeats 0 in
theorem PySem.Challenge.cw_LID_holds : PySem.Challenge.rw_LID.Holds := by
 w_on;o_law;k_head;(case hw=>w_witness2)
 k_fill
 refine L2.walk_of (l:=PySem.Challenge.rw_LID) (n:=63) (k:=40) (x:="script") (CX:=fun w=>..) (sp:=fun _=>My.sp_law) rfl (by decide) rfl ⟨rfl,by decide,by decide⟩ (fun w h Y=>PySem.W.kIn_of Y) ?F ?S ?C
 case F=>
  intro w mg fa h KX G hmg
  have T:∃t,My.Txt (L2.KOf KX) t:=by
   dsimp only[L2.KOf]                          -- K must stand as «<heap const> w.params» for k_is
   refine' My.txt_mk ?e1 ?e2 ?e3 ..
   (case e1=>PySem.W.k_is)                    -- in the order: a name -> its address -> its object -> its parts
   (case e2=>PySem.W.k_is)
   ..
  obtain⟨t,T⟩:=T
  have e0:=hmg.symm.trans (PySem.W.mg_of KX G T.law)
  cases e0                                       -- fa is the law's own address
  exact⟨_,fun s u=>.of_eq rfl,fun base kb nb=>My.law_fn T kb nb⟩     -- if «.of_eq rfl» comes too early: refine' ⟨_,?b,fun base kb nb=>My.law_fn T kb nb⟩;exact fun s u=>.of_eq rfl
 case S=>exact fun w H a ns hl hO hS=>..
 case C=>exact ..
(the tactic k_is has no namespace: write k_is) -/
namespace L2
open PySem PySem.Spec PyProof.Rows
def defArgs(s:Stmt):Arguments:=match s with
 |.FunctionDef _ a _ _ _ _ _ _ _ _=>a
 |_=>{ posonlyargs:=[],args:=[],vararg:=none,kwonlyargs:=[],kw_defaults:=[],kwarg:=none,defaults:=[]}
def defBody(s:Stmt):List Stmt:=match s with
 |.FunctionDef _ _ b _ _ _ _ _ _ _=>b
 |_=>[]
def defScope(s:Stmt):Scope:=match s with
 |.FunctionDef _ _ _ _ _ _ sc _ _ _=>sc
 |_=>{ kind:=.function,names:=[],isGenerator:=false,isCoroutine:=false }
abbrev CX0:CXT:=fun _ _ _ _ _ _=>False
abbrev E0:XK:=fun _ _ _=>False
theorem pass0{X:Cx}:Passes CX0 X E0:=fun _ _ _ _ _ _ _ h=>h.elim
structure Fun(K:PySem.W.Frag)(x qual:Str)(st:Stmt)(f:Addr)(fd:FuncData):Prop where
 ex:∃(oc:Value) (od:Option Addr) (kV doc pm:Value) (an:Option Addr) (cdv ct:Value) (osl:Array (Option Value)),
  fd=PySem.W.fnOf x qual (defArgs st) (defBody st) (defScope st) .none kV doc pm an cdv ct/\K.lookup f=some ⟨oc,od,.func fd,osl⟩/\PySem.W.codeIn K cdv qual=true
 kp:PySem.W.keepIn K (.ref f)=true
section
variable {P:Program} {w:World} {K:PySem.W.Frag} {mg:Str->Option Value} {base:Heap}
theorem Fun.ok{x qual:Str}{st:Stmt}{f:Addr}{fd:FuncData}{N ps:List Str}{k:Nat}{sp:Sp}(F:Fun K x qual st f fd)(S:FnScope N ps (defScope st))(len:∀vs H Q E,sp vs H Q E->vs.length=ps.length)
  (hbody:∀(cdv:Value) (A:Around) (outer:List Env) (s:Shared) (H:Hp) (vs:List V) (Q:VK) (E:XK),Room k (A.deeper (envOfC qual (defScope st) s.heap.objs.size f cdv))->sp vs H Q E ->
   ∃t,PSs (cxOf CX0 P w K mg base N qual (defScope st) f cdv A outer s H E).nox (defBody st) t/\t { nx:=fun _ H'=>Q .non H',rt:=Q } (start N vs) H):FnOk P w K mg base CX0 (k+1) f fd ps sp:=by
 obtain⟨oc,od,kV,doc,pm,an,cdv,ct,osl,rfl,lk,hcd⟩:=F.ex;refine qhsz lk hcd S len fun A outer s H vs Q E hr hsp=>?_;obtain⟨t,h,q⟩:=hbody cdv A outer s H vs Q E hr hsp;exact⟨t,h.nox,q⟩
theorem Fun.binds{x qual:Str}{st:Stmt}{f:Addr}{fd:FuncData}{ps:List Str}(F:Fun K x qual st f fd)
  (h:∀(kV doc pm:Value) (an:Option Addr) (cdv ct:Value) (us:List Value),us.length=ps.length->bindArgs (PySem.W.fnOf x qual (defArgs st) (defBody st) (defScope st) .none kV doc pm an cdv ct) ⟨us,[]⟩=pure (ps.zip us)):Binds K fd ps []:=by
 obtain⟨oc,od,kV,doc,pm,an,cdv,ct,osl,rfl,lk,hcd⟩:=F.ex;exact .all (h kV doc pm an cdv ct)
theorem qh1z{x qual:Str}{st:Stmt}{f:Addr}{oc:Value}{od an:Option Addr}{osl:Array (Option Value)}{kV doc pm cdv ct:Value}(l:K.lookup f=some ⟨oc,od,.func (PySem.W.fnOf x qual (defArgs st) (defBody st) (defScope st) .none kV doc pm an cdv ct),osl⟩)
  (c:PySem.W.codeIn K cdv qual=true) (k:PySem.W.keepIn K (.ref f)=true):Fun K x qual st f (PySem.W.fnOf x qual (defArgs st) (defBody st) (defScope st) .none kV doc pm an cdv ct):=⟨⟨oc,od,kV,doc,pm,an,cdv,ct,osl,rfl,l,c⟩,k⟩
end
section
variable {X:Cx}
theorem pv(i:Nat){x:Str}{pos:Pos}(hN:X.N[i]?=some x:=by rfl)(hv:Vis X.env.scope x:=by first|exact Or.inl rfl|exact Or.inr (Or.inl rfl)|exact Or.inr (Or.inr rfl))(hd:(x==("__debug__":Str))=false:=by decide)
  (hcd:(x==("__classdict__":Str))=false:=by decide):PE X (.Name x pos) (tVar i):=qmsz hN hv hd hcd
end
end L2
namespace L3
open PySem PySem.Spec PyProof.Rows L2
inductive D where
 |non|bl (b:Bool)|int (i:Int)|str (x:Str)|tup (xs:List D)|scr (xs:List D)|obj (a:Addr)|dc (a:Addr)
def SqF(K:PySem.W.Frag)(H:Hp)(a:Addr)(xs:List V):Prop:=
 (∃o,H a=some (.frz o (.lst xs))) ∨
  ∃(o:Obj) (its:Array Value) (n:Nat),K.lookup a=some o/\o.cls=.type "list"/\o.dict=none/\o.data=.seq its n/\its.size≤sizeLine/\Vals xs its.toList
theorem SqF.l{K:PySem.W.Frag}{H:Hp}{a:Addr}{xs:List V}(h:SqF K H a xs):SqL K H a xs:=by
 rcases h with h|h
 ·exact .inl (.inr h)
 ·exact .inr h
mutual
def Hv(K:PySem.W.Frag)(H:Hp):D->V->Prop
 |.non,v=>v=.non
 |.bl b,v=>v=.bl b
 |.int i,v=>v=.int i
 |.str x,v=>v=.str x
 |.tup ds,v=>∃a vs,v=.ref a/\SqT K H a vs/\Hvs K H ds vs
 |.scr ds,v=>∃a vs,v=.ref a/\SqF K H a vs/\Hvs K H ds vs
 |.obj a,v=>v=.ref a
 |.dc a,v=>v=.ref a/\∃ob φ,H a=some (.frz ob (.ext φ))/\ob.cls=.type "dict"
def Hvs(K:PySem.W.Frag)(H:Hp):List D->List V->Prop
 |[],vs=>vs=[]
 |d::ds,vs=>∃v r,vs=v::r/\Hv K H d v/\Hvs K H ds r
end
inductive GO where
 |lst (ds:List D)|pen|dct
 |gen (R:PySem.W.Frag->Addr->Hp->Prop)
def GO.plain:GO->Prop
 |.gen _=>False
 |_=>True
abbrev Gp:=Addr->Option GO
def upd3(G:Gp)(a:Addr)(o:GO):Gp:=fun b=>if b=a then some o else G b
theorem qahz{G:Gp}{a:Addr}{o:GO}:upd3 G a o a=some o:=by simp[upd3]
theorem qabz{G:Gp}{a b:Addr}{o:GO}(h:b≠a):upd3 G a o b=G b:=by simp[upd3,h]
theorem qo0z{G:Gp}{a b:Addr}{o u:GO}(hn:G a=none)(h:G b=some u):upd3 G a o b=some u:=by
 rw[qabz]
 ·exact h
 ·intro e;rw[e,hn] at h;cases h
theorem qo1z{G:Gp}{a:Addr}{o u:GO}:upd3 (upd3 G a o) a u=upd3 G a u:=by
 funext b;unfold upd3;by_cases h:b=a
 ·rw[if_pos h,if_pos h]
 ·rw[if_neg h,if_neg h,if_neg h]
def PenOk(a b c:Int):Prop:=0≤a/\0≤c/\c<2147483647
def GOk(K:PySem.W.Frag)(H:Hp)(a:Addr):GO->Prop
 |.lst ds=>∃vs,H a=some (.lst vs)/\Hvs K H ds vs
 |.pen=>∃i j k,H a=some (.lst [.int i,.int j,.int k])/\PenOk i j k
 |.dct=>H a=some (.ext fun h=>∃o,h.get? a=some o/\o.cls=.type "dict")
 |.gen R=>R K a H/\(∃o,H a=some o/\(∀xs,o≠.tup xs)/\∀ob u,o≠.frz ob u)/\∀H1 H2:Hp,(∀b xs,H1 b=some (.tup xs)->H2 b=some (.tup xs))->(∀b o u,H1 b=some (.frz o u)->H2 b=some (.frz o u))->H2 a=H1 a->R K a H1->R K a H2
def RepG(K:PySem.W.Frag)(G:Gp)(H:Hp):Prop:=∀a o,G a=some o->GOk K H a o
structure Ext(H H':Hp):Prop where
 tup:∀b xs,H b=some (.tup xs)->H' b=some (.tup xs)
 frz:∀b o u,H b=some (.frz o u)->H' b=some (.frz o u)
theorem Ext.refl(H:Hp):Ext H H:=⟨fun _ _ h=>h,fun _ _ _ h=>h⟩
theorem Ext.trans{H H1 H2:Hp}(a:Ext H H1)(b:Ext H1 H2):Ext H H2:=⟨fun c x h=>b.tup c x (a.tup c x h),fun c o u h=>b.frz c o u (a.frz c o u h)⟩
structure Step(H:Hp)(G:Gp)(H':Hp)(G':Gp):Prop where
 fr:∀a o,H a=some o->G a=none->H' a=some o
 trk:∀a,H a≠none->H' a≠none
 new:∀a,G a=none->G' a≠none->H a=none
theorem Step.refl(H:Hp)(G:Gp):Step H G H G:=⟨fun _ _ h _=>h,fun _ h=>h,fun _ h1 h2=>absurd h1 h2⟩
theorem Step.trans{H H1 H2:Hp}{G G1 G2:Gp}(a:Step H G H1 G1)(b:Step H1 G1 H2 G2):Step H G H2 G2 where
 fr:=fun c o h n=>b.fr c o (a.fr c o h n) (by
  refine Classical.byContradiction fun q=>?_;rw[a.new c n q] at h;cases h)
 trk:=fun c h=>b.trk c (a.trk c h)
 new:=fun c n q=>by
  by_cases h1:G1 c=none
  ·have h2:=b.new c h1 q;refine Classical.byContradiction fun z=>?_;exact a.trk c z h2
  ·exact a.new c n h1
def Sub(G' G:Gp):Prop:=∀a o,G' a=some o->G a=some o
theorem Sub.refl(G:Gp):Sub G G:=fun _ _ h=>h
theorem Sub.trans{A B C:Gp}(a:Sub A B)(b:Sub B C):Sub A C:=fun x o h=>b x o (a x o h)
theorem Sub.upd{G:Gp}{a:Addr}{o:GO}(h:G a=none):Sub G (upd3 G a o):=fun _ _ e=>qo0z h e
theorem Sub.of_none{G' G:Gp}(s:Sub G' G){a:Addr}(h:G a=none):G' a=none:=by
 cases e:G' a with
 |none=>rfl
 |some o=>
  rw[s a o e] at h;cases h
structure New(G:Gp)(p:Addr)(o:GO)(G':Gp):Prop where
 non:G p=none
 sub:Sub G G'
 at_:G' p=some o
theorem New.mk'{G:Gp}{p:Addr}{o:GO}(h:G p=none):New G p o (upd3 G p o):=⟨h,Sub.upd h,qahz⟩
theorem Step.sub{H:Hp}{G G':Gp}(s:Sub G' G):Step H G H G':=⟨fun _ _ h _=>h,fun _ h=>h,fun a n q=>by
 exact absurd (s.of_none n) q⟩
section
variable {K:PySem.W.Frag} {H H':Hp} {G G':Gp}
theorem RepG.sub(R:RepG K G H)(s:Sub G' G):RepG K G' H:=fun a o e=>R a o (s a o e)
theorem GOk.mut{a:Addr}{o:GO}(h:GOk K H a o):∃o,H a=some o/\(∀xs,o≠.tup xs)/\∀ob u,o≠.frz ob u:=by
 cases o with
 |lst ds=>obtain⟨vs,e,_⟩:=h;exact⟨_,e,fun _=>nofun,fun _ _=>nofun⟩
 |pen=>obtain⟨i,j,k,e,_⟩:=h;exact⟨_,e,fun _=>nofun,fun _ _=>nofun⟩
 |dct=>exact⟨_,h,fun _=>nofun,fun _ _=>nofun⟩
 |gen R=>exact h.2.1
theorem RepG.outT(R:RepG K G H){a:Addr}{xs:List V}(e:H a=some (.tup xs)):G a=none:=by
 cases q:G a with
 |none=>rfl
 |some u=>
  obtain⟨o,z,h1,_⟩:=(R a u q).mut;rw[e] at z;exact absurd (Option.some.inj z).symm (h1 xs)
theorem RepG.outF(R:RepG K G H){a:Addr}{ob:Obj}{u:HO}(e:H a=some (.frz ob u)):G a=none:=by
 cases q:G a with
 |none=>rfl
 |some g=>
  obtain⟨o,z,_,h1⟩:=(R a g q).mut;rw[e] at z;exact absurd (Option.some.inj z).symm (h1 ob u)
theorem RepG.free(R:RepG K G H){a:Addr}(e:H a=none):G a=none:=by
 cases q:G a with
 |none=>rfl
 |some u=>
  obtain⟨o,z,_⟩:=(R a u q).mut;rw[e] at z;cases z
theorem Step.ext(S:Step H G H' G')(R:RepG K G H):Ext H H':=⟨fun b xs h=>S.fr b _ h (R.outT h),fun b o u h=>S.fr b _ h (R.outF h)⟩
theorem SqT.ext{a:Addr}{xs:List V}(E:Ext H H')(h:SqT K H a xs):SqT K H' a xs:=by
 rcases h with (h|⟨o,h⟩)|h
 ·exact .inl (.inl (E.tup _ _ h))
 ·exact .inl (.inr ⟨o,E.frz _ _ _ h⟩)
 ·exact .inr h
theorem SqF.ext{a:Addr}{xs:List V}(E:Ext H H')(h:SqF K H a xs):SqF K H' a xs:=by
 rcases h with⟨o,h⟩|h
 ·exact .inl ⟨o,E.frz _ _ _ h⟩
 ·exact .inr h
mutual
theorem Hv.ext(E:Ext H H'):∀{d:D} {v:V},Hv K H d v->Hv K H' d v
 |.non,_,h=>by simpa [Hv] using h
 |.bl _,_,h=>by simpa [Hv] using h
 |.int _,_,h=>by simpa [Hv] using h
 |.str _,_,h=>by simpa [Hv] using h
 |.obj _,_,h=>by simpa [Hv] using h
 |.dc a,v,h=>by
  unfold Hv at h ⊢;obtain⟨e,ob,φ,q,c⟩:=h;exact⟨e,ob,φ,E.frz _ _ _ q,c⟩
 |.tup ds,v,h=>by
  unfold Hv at h ⊢;obtain⟨a,vs,e,q,r⟩:=h;exact⟨a,vs,e,SqT.ext E q,Hvs.ext E r⟩
 |.scr ds,v,h=>by
  unfold Hv at h ⊢;obtain⟨a,vs,e,q,r⟩:=h;exact⟨a,vs,e,SqF.ext E q,Hvs.ext E r⟩
theorem Hvs.ext(E:Ext H H'):∀{ds:List D} {vs:List V},Hvs K H ds vs->Hvs K H' ds vs
 |[],_,h=>by simpa [Hvs] using h
 |d::ds,vs,h=>by
  unfold Hvs at h ⊢;obtain⟨v,r,e,q,z⟩:=h;exact⟨v,r,e,Hv.ext E q,Hvs.ext E z⟩
end
theorem Hvs.nil:Hvs K H [] []:=by simp[Hvs]
theorem Hvs.cons{d:D}{v:V}{ds:List D}{vs:List V}(h:Hv K H d v)(r:Hvs K H ds vs):Hvs K H (d::ds) (v::vs):=by
 unfold Hvs;exact⟨v,vs,rfl,h,r⟩
theorem Hvs.inv{d:D}{ds:List D}{vs:List V}(h:Hvs K H (d::ds) vs):∃v r,vs=v::r/\Hv K H d v/\Hvs K H ds r:=by
 unfold Hvs at h;exact h
theorem Hvs.inv0{vs:List V}(h:Hvs K H [] vs):vs=[]:=by
 unfold Hvs at h;exact h
theorem Hvs.length:∀{ds:List D} {vs:List V},Hvs K H ds vs->ds.length=vs.length
 |[],_,h=>by rw[h.inv0];rfl
 |d::ds,vs,h=>by
  obtain⟨v,r,rfl,_,q⟩:=h.inv;simp[q.length]
theorem Hvs.get:∀{ds:List D} {vs:List V} {i:Nat} {d:D},Hvs K H ds vs->ds[i]?=some d->∃v,vs[i]?=some v/\Hv K H d v
 |[],_,_,_,_,e=>by simp at e
 |x::ds,vs,0,d,h,e=>by
  obtain⟨v,r,rfl,q,_⟩:=h.inv;simp at e;subst e;exact⟨v,rfl,q⟩
 |x::ds,vs,i+1,d,h,e=>by
  obtain⟨v,r,rfl,_,q⟩:=h.inv;simp at e;obtain⟨u,e2,q2⟩:=q.get e;exact⟨u,by simpa using e2,q2⟩
theorem Hvs.append:∀{ds es:List D} {vs us:List V},Hvs K H ds vs->Hvs K H es us->Hvs K H (ds++es) (vs++us)
 |[],es,_,_,h,q=>by rw[h.inv0];exact q
 |d::ds,es,vs,us,h,q=>by
  obtain⟨v,r,rfl,z,w⟩:=h.inv;exact .cons z (w.append q)
theorem Hvs.drop:∀{ds:List D} {vs:List V} (n:Nat),Hvs K H ds vs->Hvs K H (ds.drop n) (vs.drop n)
 |ds,vs,0,h=>h
 |[],_,n+1,h=>by rw[h.inv0];exact .nil
 |d::ds,vs,n+1,h=>by
  obtain⟨v,r,rfl,_,q⟩:=h.inv;exact q.drop n
theorem Hvs.take:∀{ds:List D} {vs:List V} (n:Nat),Hvs K H ds vs->Hvs K H (ds.take n) (vs.take n)
 |ds,vs,0,h=>by simpa using Hvs.nil
 |[],_,n+1,h=>by rw[h.inv0];exact .nil
 |d::ds,vs,n+1,h=>by
  obtain⟨v,r,rfl,q,z⟩:=h.inv;exact .cons q (z.take n)
theorem Hvs.set:∀{ds:List D} {vs:List V} (i:Nat) {d:D} {v:V},Hvs K H ds vs->Hv K H d v->Hvs K H (ds.set i d) (vs.set i v)
 |[],_,i,d,v,h,_=>by rw[h.inv0];exact .nil
 |x::ds,vs,0,d,v,h,q=>by
  obtain⟨u,r,rfl,_,z⟩:=h.inv;exact .cons q z
 |x::ds,vs,i+1,d,v,h,q=>by
  obtain⟨u,r,rfl,y,z⟩:=h.inv;exact .cons y (z.set i q)
theorem Hvs.erase:∀{ds:List D} {vs:List V} (i:Nat),Hvs K H ds vs->Hvs K H (ds.eraseIdx i) (vs.eraseIdx i)
 |[],_,i,h=>by rw[h.inv0];exact .nil
 |x::ds,vs,0,h=>by
  obtain⟨u,r,rfl,_,z⟩:=h.inv;exact z
 |x::ds,vs,i+1,h=>by
  obtain⟨u,r,rfl,y,z⟩:=h.inv;exact .cons y (z.erase i)
theorem Hvs.rep{ds:List D}{vs:List V}(h:Hvs K H ds vs):∀k:Nat,Hvs K H (List.replicate k ds).flatten (List.replicate k vs).flatten
 |0=>.nil
 |k+1=>by
  simp only[List.replicate_succ,List.flatten_cons];exact h.append (h.rep k)
theorem Hvs.ints:∀(ns:List Int),Hvs K H (ns.map D.int) (ns.map V.int)
 |[]=>.nil
 |n::ns=>.cons (by simp[Hv]) (Hvs.ints ns)
theorem Ext.laid{p:Addr}{o:HO}(h:H p=none):Ext H (upd H p o):=⟨fun b xs e=>by rw[qlz (qagz e h)];exact e,fun b x u e=>by rw[qlz (qagz e h)];exact e⟩
theorem GOk.ext{a:Addr}{o:GO}(h:GOk K H a o)(E:Ext H H')(e:H' a=H a):GOk K H' a o:=by
 cases o with
 |lst ds=>
  obtain⟨vs,z,q⟩:=h;exact⟨vs,e.trans z,q.ext E⟩
 |pen=>
  obtain⟨i,j,k,z,q⟩:=h;exact⟨i,j,k,e.trans z,q⟩
 |dct=>exact e.trans h
 |gen R=>
  obtain⟨h1,h2,h3⟩:=h;exact⟨h3 H H' E.tup E.frz e h1,by rw[e];exact h2,h3⟩
theorem RepG.laid{p:Addr}{o:HO}(R:RepG K G H)(h:H p=none):RepG K G (upd H p o):=fun a u e=>by
 have hne:a≠p:=fun z=>by
  rw[z,R.free h] at e;cases e
 exact (R a u e).ext (Ext.laid h) (qlz hne)
theorem RepG.laidG{p:Addr}{o:HO}{g:GO}(R:RepG K G H)(h:H p=none)(new:GOk K (upd H p o) p g):RepG K (upd3 G p g) (upd H p o):=fun a u e=>by
 by_cases z:a=p
 ·subst z;rw[qahz] at e;cases e;exact new
 ·rw[qabz z] at e;exact (R.laid h) a u e
theorem Step.laid{p:Addr}{o:HO}(h:H p=none):Step H G (upd H p o) G:=⟨fun a u e _=>by rw[qlz (qagz e h)];exact e,fun a q=>by
 by_cases z:a=p
 ·rw[z,qtz];simp
 ·rw[qlz z];exact q,fun a n q=>absurd n q⟩
theorem Step.laidG{p:Addr}{o:HO}{g:GO}(h:H p=none):Step H G (upd H p o) (upd3 G p g):=⟨(Step.laid (G:=G) h).fr,(Step.laid (G:=G) h).trk,fun a n q=>by
 by_cases z:a=p
 ·rw[z];exact h
 ·rw[qabz z] at q;exact absurd n q⟩
theorem qo2z{p b:Addr}{xs ys:List V}(h:H p=some (.lst xs))(e:H b=some (.tup ys)):b≠p:=fun z=>by
 rw[z,h] at e;cases e
theorem qo3z{p b:Addr}{xs:List V}{o:Obj}{u:HO}(h:H p=some (.lst xs))(e:H b=some (.frz o u)):b≠p:=fun z=>by
 rw[z,h] at e;cases e
theorem Ext.wrote{p:Addr}{xs:List V}{o:HO}(h:H p=some (.lst xs)):Ext H (upd H p o):=
 ⟨fun b ys e=>by rw[qlz (qo2z h e)];exact e,fun b x u e=>by rw[qlz (qo3z h e)];exact e⟩
theorem RepG.wrote{p:Addr}{xs:List V}{o:HO}{g:GO}(R:RepG K G H)(h:H p=some (.lst xs))(new:GOk K (upd H p o) p g):RepG K (upd3 G p g) (upd H p o):=fun a u e=>by
 by_cases z:a=p
 ·subst z;rw[qahz] at e;cases e;exact new
 ·rw[qabz z] at e;exact (R a u e).ext (Ext.wrote h) (qlz z)
theorem RepG.newL{p:Addr}{xs:List V}{ds:List D}(R:RepG K G H)(h:H p=none)(hv:Hvs K H ds xs):RepG K (upd3 G p (.lst ds)) (upd H p (.lst xs)):=R.laidG h ⟨xs,qtz,hv.ext (.laid h)⟩
theorem RepG.wroteL{p:Addr}{xs ys:List V}{ds:List D}(R:RepG K G H)(e:H p=some (.lst xs))(hv:Hvs K H ds ys):RepG K (upd3 G p (.lst ds)) (upd H p (.lst ys)):=R.wrote e ⟨ys,qtz,hv.ext (.wrote e)⟩
theorem Step.wrote{p:Addr}{o:HO}{g u:GO}(h:G p=some u):Step H G (upd H p o) (upd3 G p g):=⟨fun a x e n=>by
 have hne:a≠p:=fun z=>by
  rw[z,h] at n;cases n
 rw[qlz hne];exact e,fun a q=>by
 by_cases z:a=p
 ·rw[z,qtz];simp
 ·rw[qlz z];exact q,fun a n q=>by
 have hne:a≠p:=fun z=>by
  rw[z,h] at n;cases n
 rw[qabz hne] at q;exact absurd n q⟩
end
abbrev S3:=List (Option D)
def at3:S3->Nat->Option D
 |[],_=>none
 |x::_,0=>x
 |_::r,n+1=>at3 r n
def set3:S3->Nat->D->S3
 |[],_,_=>[]
 |_::r,0,d=>some d::r
 |x::r,n+1,d=>x::set3 r n d
structure RepS(K:PySem.W.Frag)(τ:S3)(σ:L2.St)(H:Hp):Prop where
 len:τ.length=σ.length
 at_:∀(i:Nat) d,at3 τ i=some d->∃v,σ[i]?=some (some v)/\Hv K H d v
theorem qh2z:∀(τ:S3) (i:Nat) (d:D),(set3 τ i d).length=τ.length
 |[],_,_=>rfl
 |_::r,0,d=>rfl
 |x::r,n+1,d=>by simp[set3,qh2z r n d]
theorem qh3z:∀(τ:S3) (i j:Nat) (d:D),at3 (set3 τ i d) j=if j=i/\i<τ.length then some d else at3 τ j
 |[],i,j,d=>by simp[set3,at3]
 |x::r,0,0,d=>by simp[set3,at3]
 |x::r,0,j+1,d=>by simp[set3,at3]
 |x::r,i+1,0,d=>by simp[set3,at3]
 |x::r,i+1,j+1,d=>by
  simp only[set3,at3,qh3z r i j d,List.length_cons];by_cases h:j=i/\i<r.length
  ·rw[if_pos h,if_pos (by lia)]
  ·rw[if_neg h,if_neg (by lia)]
section
variable {K:PySem.W.Frag} {τ:S3} {σ:L2.St} {H H':Hp}
theorem RepS.ext(R:RepS K τ σ H)(E:Ext H H'):RepS K τ σ H':=⟨R.len,fun i d h=>by
 obtain⟨v,e,q⟩:=R.at_ i d h;exact⟨v,e,q.ext E⟩⟩
theorem RepS.set(R:RepS K τ σ H){i:Nat}{d:D}{v:V}(h:Hv K H d v):RepS K (set3 τ i d) (σ.set i (some v)) H:=⟨by rw[qh2z,List.length_set];exact R.len,fun j e q=>by
 rw[qh3z] at q;by_cases c:j=i/\i<τ.length
 ·rw[if_pos c] at q;cases q;refine⟨v,?_,h⟩;rw[c.1,List.getElem?_set_self (by rw[←R.len];exact c.2)]
 ·rw[if_neg c] at q;obtain⟨u,e1,e2⟩:=R.at_ j e q;refine⟨u,?_,e2⟩;by_cases hij:i=j
  ·subst hij;have:σ.length≤i:=by
    have:=R.len;have:¬i<τ.length:=fun z=>c ⟨rfl,z⟩;lia
   rw[List.getElem?_eq_none_iff.mpr this] at e1;cases e1
  ·rw[List.getElem?_set_ne hij];exact e1⟩
end
def start3:List Str->List D->S3
 |[],_=>[]
 |_::N,[]=>none::start3 N []
 |_::N,d::ds=>some d::start3 N ds
theorem qe0z:∀(N:List Str) (ds:List D),(start3 N ds).length=N.length
 |[],_=>rfl
 |_::N,[]=>by simp[start3,qe0z N []]
 |_::N,d::ds=>by simp[start3,qe0z N ds]
theorem qh4z:∀(N:List Str) (i:Nat),at3 (start3 N []) i=none
 |[],i=>rfl
 |_::N,0=>rfl
 |_::N,i+1=>qh4z N i
theorem qh5z:∀(N:List Str) (ds:List D) (i:Nat) (d:D),at3 (start3 N ds) i=some d->ds[i]?=some d
 |[],_,_,_,h=>by cases h
 |_::N,[],i,d,h=>by
  rw[qh4z] at h;cases h
 |_::N,x::ds,0,d,h=>by
  simp only[start3,at3] at h;simpa using h
 |_::N,x::ds,i+1,d,h=>by
  simp only[start3,at3] at h;simpa using qh5z N ds i d h
theorem RepS.start{K:PySem.W.Frag}{N:List Str}{ds:List D}{vs:List V}{H:Hp}(h:Hvs K H ds vs)(hl:vs.length≤N.length):RepS K (start3 N ds) (L2.start N vs) H:=⟨by
 rw[qe0z];simp[L2.start];lia,fun i d e=>by
 obtain⟨v,e1,q⟩:=h.get (qh5z N ds i d e);refine⟨v,?_,q⟩;unfold L2.start;have hi:i<vs.length:=(List.getElem?_eq_some_iff.mp e1).1;rw[List.getElem?_append_left (by simpa using hi),List.getElem?_map,e1];rfl⟩
abbrev V3:=D->Gp->Prop
abbrev TE3:=S3->Gp->V3->Prop
abbrev TT3:=S3->Gp->(Bool->Gp->Prop)->Prop
abbrev TA3:=S3->Gp->(List D->Gp->Prop)->Prop
structure Ends3 where
 nx:S3->Gp->Prop
 rt:V3
 bk:S3->Gp->Prop:=fun _ _=>False
 ct:S3->Gp->Prop:=fun _ _=>False
abbrev TS3:=Ends3->S3->Gp->Prop
def low(K:PySem.W.Frag)(t:TE3):TE:=fun σ H Q=>∃τ G Q3,RepS K τ σ H/\RepG K G H/\t τ G Q3/\∀v H' d G',Hv K H' d v->Step H G H' G'->RepG K G' H'->Q3 d G'->Q v H'
def lowT(K:PySem.W.Frag)(t:TT3):TT:=fun σ H Q=>∃τ G Q3,RepS K τ σ H/\RepG K G H/\t τ G Q3/\∀b H' G',Step H G H' G'->RepG K G' H'->Q3 b G'->Q b H'
def lowA(K:PySem.W.Frag)(t:TA3):TA:=fun σ H Q=>∃τ G Q3,RepS K τ σ H/\RepG K G H/\t τ G Q3/\∀vs H' ds G',Hvs K H' ds vs->Step H G H' G'->RepG K G' H'->Q3 ds G'->Q vs H'
structure EndsLow(K:PySem.W.Frag)(H:Hp)(G:Gp)(D3:Ends3)(D2:Ends):Prop where
 nx:∀τ σ G' H',RepS K τ σ H'->Step H G H' G'->RepG K G' H'->D3.nx τ G'->D2.nx σ H'
 bk:∀τ σ G' H',RepS K τ σ H'->Step H G H' G'->RepG K G' H'->D3.bk τ G'->D2.bk σ H'
 ct:∀τ σ G' H',RepS K τ σ H'->Step H G H' G'->RepG K G' H'->D3.ct τ G'->D2.ct σ H'
 rt:∀d v G' H',Hv K H' d v->Step H G H' G'->RepG K G' H'->D3.rt d G'->D2.rt v H'
theorem EndsLow.step{K:PySem.W.Frag}{H H1:Hp}{G G1:Gp}{D3:Ends3}{D2:Ends}(E:EndsLow K H G D3 D2)(S:Step H G H1 G1):EndsLow K H1 G1 D3 D2:=
 ⟨fun τ σ G' H' a b c q=>E.nx τ σ G' H' a (S.trans b) c q,fun τ σ G' H' a b c q=>E.bk τ σ G' H' a (S.trans b) c q,fun τ σ G' H' a b c q=>E.ct τ σ G' H' a (S.trans b) c q,fun d v G' H' a b c q=>E.rt d v G' H' a (S.trans b) c q⟩
def lowS(K:PySem.W.Frag)(t:TS3):TS:=fun D2 σ H=>∃τ G D3,RepS K τ σ H/\RepG K G H/\t D3 τ G/\EndsLow K H G D3 D2
abbrev PE3(X:Cx)(e:Expr)(t:TE3):Prop:=PE X e (low X.K t)
abbrev PT3(X:Cx)(e:Expr)(t:TT3):Prop:=PT X e (lowT X.K t)
abbrev PW3(X:Cx)(e:Expr)(t:TT3):Prop:=PW X e (lowT X.K t)
abbrev PA3(X:Cx)(es:List Expr)(t:TA3):Prop:=PA X es (lowA X.K t)
abbrev PS3(X:Cx)(st:Stmt)(t:TS3):Prop:=PS X st (lowS X.K t)
abbrev PSs3(X:Cx)(st:List Stmt)(t:TS3):Prop:=PSs X st (lowS X.K t)
section
variable {X:Cx} {e:Expr}
theorem qvz{t t':TE}(h:PE X e t)(f:∀σ H Q,t' σ H Q->t σ H Q):PE X e t':=fun pins s σ H Q I q=>h pins s σ H Q I (f σ H Q q)
theorem qdlz{t t':TT}(h:PT X e t)(f:∀σ H Q,t' σ H Q->t σ H Q):PT X e t':=fun pins s σ H Q I q=>h pins s σ H Q I (f σ H Q q)
theorem pw_of{t t':TT}(h:PW X e t)(f:∀σ H Q,t' σ H Q->t σ H Q):PW X e t':=fun w pins s σ H Q I q=>h w pins s σ H Q I (f σ H Q q)
theorem qh6z{es:List Expr}{t t':TA}(h:PA X es t)(f:∀σ H Q,t' σ H Q->t σ H Q):PA X es t':=fun p pins s σ H Q I q=>h p pins s σ H Q I (f σ H Q q)
theorem qakz{st:Stmt}{t t':TS}(h:PS X st t)(f:∀D σ H,t' D σ H->t D σ H):PS X st t':=fun pins s σ H Q I q=>h pins s σ H Q I (f Q σ H q)
theorem qh7z{st:List Stmt}{t t':TS}(h:PSs X st t)(f:∀D σ H,t' D σ H->t D σ H):PSs X st t':=fun pins s σ H Q I q=>h pins s σ H Q I (f Q σ H q)
end
def Br(b:Bool)(A B:Prop):Prop:=(b=true->A)/\(b=false->B)
theorem Br.ite{b:Bool}{A B A' B':Prop}(h:Br b A B)(f:A->A')(g:B->B'):if b=true then A' else B':=by
 cases b with
 |true=>rw[if_pos rfl];exact f (h.1 rfl)
 |false=>rw[if_neg Bool.false_ne_true];exact g (h.2 rfl)
section
variable {X:Cx} {a b e c:Expr} {ta tb te:TE3} {tA tB:TT3} {pos:Pos} {es rest:List Expr}
def eC(d:D):TE3:=fun _ G Q=>Q d G
def eVar(i:Nat):TE3:=fun τ G Q=>match at3 τ i with
 |some d=>Q d G
 |none=>False
theorem qo4z{i:Nat}{x:Str}(h:PE X (.Name x pos) (tVar i)):PE3 X (.Name x pos) (eVar i):=qvz h fun σ H Q ⟨τ,G,Q3,RS,RG,h,k⟩=>by
 unfold eVar at h;cases hd:at3 τ i with
 |none=>rw[hd] at h;exact h.elim
 |some d=>
  rw[hd] at h;obtain⟨v,e1,e2⟩:=RS.at_ i d hd;exact⟨v,e1,k v H d G e2 (.refl H G) RG h⟩
theorem qcnz{v:V}{d:D}(h:PE X e (tC v))(r:∀H,Hv X.K H d v):PE3 X e (eC d):=qvz h fun σ H Q ⟨τ,G,Q3,RS,RG,h,k⟩=>k v H d G (r H) (.refl H G) RG h
theorem qo5z{i:Int}{j}:PE3 X (.Constant (.int i) j pos) (eC (.int i)):=qcnz qmtz fun H=>by simp[Hv]
theorem e_bl{i:Bool}{j}:PE3 X (.Constant (.bool i) j pos) (eC (.bl i)):=qcnz qmuz fun H=>by simp[Hv]
theorem qo6z{j}:PE3 X (.Constant .none j pos) (eC .non):=qcnz qmvz fun H=>by simp[Hv]
theorem qo7z{x:Str}{j}:PE3 X (.Constant (.str x) j pos) (eC (.str x)):=qcnz qmwz fun H=>by simp[Hv]
theorem qo8z{x:Str}{i:Int}{u:Tok}(hm:X.mg x=some (.int i u))(hg:Gl X x:=by rfl)(hd:(x==("__debug__":Str))=false:=by decide):PE3 X (.Name x pos) (eC (.int i)):=qcnz (v:=.int i) (qhfz hg hm ⟨u,rfl⟩ hd) fun H=>by simp[Hv]
abbrev R3:=D->D->Gp->V3->Prop
def eOp(r:R3)(ta tb:TE3):TE3:=fun τ G Q=>ta τ G fun x G1=>tb τ G1 fun y G2=>r x y G2 Q
def LowR(K:PySem.W.Frag)(r:R3)(r2:R2):Prop:=∀x y vx vy G H Q3 Q,Hv K H x vx->Hv K H y vy->RepG K G H->r x y G Q3->(∀v H' d G',Hv K H' d v->Step H G H' G'->RepG K G' H'->Q3 d G'->Q v H')->r2 vx vy H Q
theorem qdmz{K:PySem.W.Frag}{r:R3}{r2:R2}(L:LowR K r r2){σ:L2.St}{H:Hp}{Q:VK}(h:low K (eOp r ta tb) σ H Q):tOp r2 (low K ta) (low K tb) σ H Q:=by
 obtain⟨τ,G,Q3,RS,RG,h,k⟩:=h;refine⟨τ,G,_,RS,RG,h,fun v1 H1 d1 G1 h1 S1 R1 q1=>?_⟩;refine⟨τ,G1,_,RS.ext (S1.ext RG),R1,q1,fun v2 H2 d2 G2 h2 S2 R2 q2=>?_⟩;exact L _ _ _ _ _ _ _ _ (h1.ext (S2.ext R1)) h2 R2 q2 fun v H' d G' z1 z2 z3 z4=>k v H' d G' z1 ((S1.trans S2).trans z2) z3 z4
theorem e_op{op:Operator}{r:R3}{r2:R2}(L:LowR X.K r r2)(ho:OpR X (binaryOp op) r2)(ha:PE3 X a ta)(hb:PE3 X b tb):PE3 X (.BinOp a op b pos) (eOp r ta tb):=
 qvz (qnqz ho ha hb) fun _ _ _ h=>qdmz L h
theorem qo9z{op:CmpOp}{r:R3}{r2:R2}(L:LowR X.K r r2)(ho:OpR X (compareOp op) r2)(ha:PE3 X a ta)(hb:PE3 X b tb)(hm:behindInMarks op b=false):PE3 X (.Compare a [op] [b] pos) (eOp r ta tb):=
 qvz (qnsz ho ha hb hm) fun _ _ _ h=>qdmz L h
def eTest(t:TE3):TT3:=fun τ G Q=>t τ G fun x G1=>match x with
 |.bl k=>Q k G1
 |_=>False
theorem qe1z{K:PySem.W.Frag}{t:TE3}{σ:L2.St}{H:Hp}{Q:Bool->Hp->Prop}(h:lowT K (eTest t) σ H Q):tTest (low K t) σ H Q:=by
 obtain⟨τ,G,Q3,RS,RG,h,k⟩:=h;refine⟨τ,G,_,RS,RG,h,fun v H' d G' h1 h2 h3 h4=>?_⟩;cases d with
 |bl c=>
  unfold Hv at h1;exact⟨c,h1,k c H' G' h2 h3 h4⟩
 |_=>exact h4.elim
theorem qpaz{op:CmpOp}{r:R3}{r2:R2}(L:LowR X.K r r2)(ho:OpR X (compareOp op) r2)(ha:PE3 X a ta)(hb:PE3 X b tb)(hm:behindInMarks op b=false):PT3 X (.Compare a [op] [b] pos) (eTest (eOp r ta tb)):=
 qdlz (qntz ho ha hb hm) fun σ H Q h=>by
  obtain⟨τ,G,Q3,RS,RG,h,k⟩:=qe1z h;exact qdmz L ⟨τ,G,Q3,RS,RG,h,k⟩
theorem qpbz(h:PE3 X a ta)(he:∀whole,isTrue a X.env whole=(do let v ←whole;standAt a.pos;holding [v] (truthy v)):=by intro _;rfl):PT3 X a (eTest ta):=
 qdlz (qnxz h he) fun σ H Q h=>by
  obtain⟨τ,G,Q3,RS,RG,h,k⟩:=qe1z h;refine⟨τ,G,Q3,RS,RG,h,fun v H' d G' h1 h2 h3 h4=>?_⟩;obtain⟨c,rfl,q⟩:=k v H' d G' h1 h2 h3 h4;exact⟨c,rfl,q⟩
def eChain(r r':R3)(ta tb tc:TE3):TE3:=fun τ G Q=>ta τ G fun x G1=>tb τ G1 fun y G2=>r x y G2 fun z G3=>match z with
 |.bl k=>Br k (tc τ G3 fun w G4=>r' y w G4 Q) (Q (.bl false) G3)
 |_=>False
theorem qpcz{K:PySem.W.Frag}{r r':R3}{r2 r2':R2}(L:LowR K r r2)(L':LowR K r' r2'){tc:TE3}{σ:L2.St}{H:Hp}{Q:VK}(h:low K (eChain r r' ta tb tc) σ H Q):tChain r2 r2' (low K ta) (low K tb) (low K tc) σ H Q:=by
 obtain⟨τ,G,Q3,RS,RG,h,k⟩:=h;refine⟨τ,G,_,RS,RG,h,fun v1 H1 d1 G1 h1 S1 R1 q1=>?_⟩;refine⟨τ,G1,_,RS.ext (S1.ext RG),R1,q1,fun v2 H2 d2 G2 h2 S2 R2 q2=>?_⟩;refine L _ _ _ _ _ _ _ _ (h1.ext (S2.ext R1)) h2 R2 q2 fun v H3 d G3 z1 S3 R3 z4=>?_;cases d with
 |bl c=>
  unfold Hv at z1;refine⟨c,z1,Br.ite z4 (fun q=>?_) fun q=>?_⟩
  ·refine⟨τ,G3,_,((RS.ext (S1.ext RG)).ext (S2.ext R1)).ext (S3.ext R2),R3,q,fun v4 H4 d4 G4 h4 S4 R4 q4=>?_⟩;exact L' _ _ _ _ _ _ _ _ ((h2.ext (S3.ext R2)).ext (S4.ext R3)) h4 R4 q4 fun v H' d G' y1 y2 y3 y4=>k v H' d G' y1 ((((S1.trans S2).trans S3).trans S4).trans y2) y3 y4
  ·exact k _ H3 (.bl false) G3 (by simp[Hv]) ((S1.trans S2).trans S3) R3 q
 |_=>exact z4.elim
theorem qpdz{op op':CmpOp}{r r':R3}{r2 r2':R2}{tc:TE3}(L:LowR X.K r r2)(L':LowR X.K r' r2')(h:PE X e (tChain r2 r2' (low X.K ta) (low X.K tb) (low X.K tc))):PE3 X e (eChain r r' ta tb tc):=
 qvz h fun _ _ _ h=>qpcz L L' h
def eAnd(t u:TT3):TT3:=fun τ G Q=>t τ G fun c G1=>Br c (u τ G1 Q) (Q false G1)
def eOr(t u:TT3):TT3:=fun τ G Q=>t τ G fun c G1=>Br c (Q true G1) (u τ G1 Q)
def eNot(t:TT3):TT3:=fun τ G Q=>t τ G fun c G1=>Q (!c) G1
theorem qpez(ha:PT3 X a tA):PW3 X (.BoolOp .And [a] pos) tA:=pw_and1 ha
theorem qpfz(ha:PT3 X a tA):PW3 X (.BoolOp .Or [a] pos) tA:=pw_or1 ha
theorem qpgz(ha:PT3 X a tA)(hb:PW3 X (.BoolOp .And (b::rest) pos) tB):PW3 X (.BoolOp .And (a::b::rest) pos) (eAnd tA tB):=pw_of (pw_and ha hb) fun σ H Q h=>by
 obtain⟨τ,G,Q3,RS,RG,h,k⟩:=h;refine⟨τ,G,_,RS,RG,h,fun c H1 G1 S1 R1 q1=>?_⟩;exact Br.ite q1 (fun q=>⟨τ,G1,Q3,RS.ext (S1.ext RG),R1,q,fun b' H' G' y1 y2 y3=>k b' H' G' (S1.trans y1) y2 y3⟩) fun q=>k false H1 G1 S1 R1 q
theorem qphz(ha:PT3 X a tA)(hb:PW3 X (.BoolOp .Or (b::rest) pos) tB):PW3 X (.BoolOp .Or (a::b::rest) pos) (eOr tA tB):=pw_of (pw_or ha hb) fun σ H Q h=>by
 obtain⟨τ,G,Q3,RS,RG,h,k⟩:=h;refine⟨τ,G,_,RS,RG,h,fun c H1 G1 S1 R1 q1=>?_⟩;exact Br.ite q1 (fun q=>k true H1 G1 S1 R1 q) fun q=>⟨τ,G1,Q3,RS.ext (S1.ext RG),R1,q,fun b' H' G' y1 y2 y3=>k b' H' G' (S1.trans y1) y2 y3⟩
theorem tt_w(h:PW3 X a tA):PT3 X a tA:=h.pt
theorem qpiz(ha:PT3 X a tA):PT3 X (.UnaryOp .Not a pos) (eNot tA):=qdlz (qmyz ha) fun σ H Q h=>by
 obtain⟨τ,G,Q3,RS,RG,h,k⟩:=h;exact⟨τ,G,_,RS,RG,h,fun c H1 G1 S1 R1 q1=>k _ H1 G1 S1 R1 q1⟩
def eAndV(ta tb:TE3):TE3:=fun τ G Q=>ta τ G fun x G1=>match x with
 |.bl c=>Br c (tb τ G1 Q) (Q (.bl false) G1)
 |_=>False
def eNotV(ta:TE3):TE3:=fun τ G Q=>ta τ G fun x G1=>match x with
 |.bl c=>Q (.bl (!c)) G1
 |_=>False
theorem qpjz{op}(h:PE3 X a ta):PE3 X (.BoolOp op [a] pos) ta:=qmzz h
theorem qpkz(ha:PE3 X a ta)(hb:PE3 X (.BoolOp .And (b::rest) pos) tb):PE3 X (.BoolOp .And (a::b::rest) pos) (eAndV ta tb):=qvz (qm0z ha hb) fun σ H Q h=>by
 obtain⟨τ,G,Q3,RS,RG,h,k⟩:=h;refine⟨τ,G,_,RS,RG,h,fun v H1 d G1 h1 S1 R1 q1=>?_⟩;cases d with
 |bl c=>
  unfold Hv at h1;exact⟨c,h1,Br.ite q1 (fun q=>⟨τ,G1,Q3,RS.ext (S1.ext RG),R1,q,fun b' H' d' G' y0 y1 y2 y3=>k b' H' d' G' y0 (S1.trans y1) y2 y3⟩) fun q=>k _ H1 (.bl false) G1 (by simp[Hv]) S1 R1 q⟩
 |_=>exact q1.elim
theorem qplz(ha:PE3 X a ta):PE3 X (.UnaryOp .Not a pos) (eNotV ta):=qvz (qm1z ha) fun σ H Q h=>by
 obtain⟨τ,G,Q3,RS,RG,h,k⟩:=h;refine⟨τ,G,_,RS,RG,h,fun v H1 d G1 h1 S1 R1 q1=>?_⟩;cases d with
 |bl c=>
  unfold Hv at h1;exact⟨c,h1,k _ H1 (.bl (!c)) G1 (by simp[Hv]) S1 R1 q1⟩
 |_=>exact q1.elim
def notStar:Expr->Bool
 |.Starred ..=>false
 |_=>true
theorem qmz{e:Expr}{es:List Expr}{env:Env}(h:notStar e=true):starEach (e::es) env=(false,eval e env)::starEach es env:=by
 cases e<;>first|rfl|(simp[notStar] at h)
theorem qyz{pos:Pos}{env:Env}:∀{es:List Expr},es.all notStar=true->(backTo pos (starEach es env)).any (·.1)=false
 |[],_=>rfl
 |e::es,h=>by
  rw[List.all_cons,Bool.and_eq_true] at h;rw[qmz h.1];show (false||(backTo pos (starEach es env)).any (·.1))=false;rw[qyz h.2];rfl
def aNil:TA3:=fun _ G Q=>Q [] G
def aCons(ta:TE3)(tr:TA3):TA3:=fun τ G Q=>ta τ G fun x G1=>tr τ G1 fun xs G2=>Q (x::xs) G2
theorem qpmz:PA3 X [] aNil:=qh6z qb5z fun σ H Q ⟨τ,G,Q3,RS,RG,h,k⟩=>k [] H [] G .nil (.refl H G) RG h
theorem qpnz{tr:TA3}(ha:PE3 X a ta)(hr:PA3 X es tr)(hs:notStar a=true:=by rfl):PA3 X (a::es) (aCons ta tr):=qh6z (qa1z ha hr (qmz hs)) fun σ H Q h=>by
 obtain⟨τ,G,Q3,RS,RG,h,k⟩:=h;refine⟨τ,G,_,RS,RG,h,fun v1 H1 d1 G1 h1 S1 R1 q1=>?_⟩;refine⟨τ,G1,_,RS.ext (S1.ext RG),R1,q1,fun vs H2 ds G2 h2 S2 R2 q2=>?_⟩;exact k _ H2 _ G2 (.cons (h1.ext (S2.ext R1)) h2) (S1.trans S2) R2 q2
def smallL{α:Type}(P:Prop):List α->Nat->Prop
 |[],_=>P
 |_::_,0=>False
 |_::xs,n+1=>smallL P xs n
theorem qdnz{α:Type}{P:Prop}:∀{xs:List α} {n:Nat},smallL P xs n->xs.length≤n/\P
 |[],n,h=>⟨Nat.zero_le _,h⟩
 |_::_,0,h=>h.elim
 |_::xs,n+1,h=>by
  obtain⟨h1,h2⟩:=qdnz (xs:=xs) (n:=n) h;exact⟨Nat.succ_le_succ h1,h2⟩
theorem line64{n:Nat}(h:n≤64):n≤sizeLine:=Nat.le_trans h (by decide)
def eTup(t:TA3):TE3:=fun τ G Q=>t τ G fun ds G1=>smallL (Q (.tup ds) G1) ds 64
def eLst(t:TA3):TE3:=fun τ G Q=>t τ G fun ds G1=>smallL (∀p G2,New G1 p (.lst ds) G2->Q (.obj p) G2) ds 64
theorem qpoz{t:TA3}{x1}(h:PA3 X es t):PE3 X (.Tuple es x1 pos) (eTup t):=qvz (qn3z h) fun σ H Q h=>by
 obtain⟨τ,G,Q3,RS,RG,h,k⟩:=h;refine⟨τ,G,_,RS,RG,h,fun vs H1 ds G1 h1 S1 R1 q1=>?_⟩;obtain⟨z,q1⟩:=qdnz q1;refine⟨by rw[←h1.length];exact line64 z,fun p hp=>?_⟩;refine k _ _ (.tup ds) G1 ?_ (S1.trans (.laid hp)) (R1.laid hp) q1;unfold Hv;exact⟨p,vs,rfl,.of qtz,h1.ext (.laid hp)⟩
theorem qppz{t:TA3}(h:PA3 X es t):PE3 X (.List es pos) (eLst t):=qvz (qhnz h) fun σ H Q h=>by
 obtain⟨τ,G,Q3,RS,RG,h,k⟩:=h;refine⟨τ,G,_,RS,RG,h,fun vs H1 ds G1 h1 S1 R1 q1=>?_⟩;obtain⟨z,q1⟩:=qdnz q1;refine⟨by rw[←h1.length];exact line64 z,fun p hp=>?_⟩;exact k _ _ (.obj p) (upd3 G1 p (.lst ds)) (by simp[Hv]) (S1.trans (.laidG hp)) (R1.laidG hp ⟨vs,qtz,h1.ext (.laid hp)⟩) (q1 p _ (.mk' (R1.free hp)))
end
end L3
namespace L2
open PySem PySem.Spec PyProof.Rows
def clos(env:Env):List (Str×NameKind)->List (Str×Addr)->List (Str×Addr)
 |[],acc=>acc
 | (n,k)::r,acc=>clos env r (if k=.free then (n,(env.cells.lookup n).getD 0)::acc else acc)
theorem qh8z{scope:Scope}{env:Env}(h:∀y∈scope.names,y.2=.free->∃c,env.cells.lookup y.1=some c):closureFor scope env=pure (clos env scope.names []):=by
 have key:∀(l:List (Str×NameKind)) (acc:List (Str×Addr)),(∀y∈l,y.2=.free->∃c,env.cells.lookup y.1=some c) ->
   (forIn l acc fun (x:Str×NameKind) (r:List (Str×Addr))=>(do
    if (x.2==NameKind.free)=true then do
     let a ←cellOf env x.1
     pure (ForInStep.yield ((x.1,a)::r))
    else pure (ForInStep.yield r):Sem (ForInStep (List (Str×Addr)))))=pure (clos env l acc):=by
  intro l
  induction l with
  |nil=>intro acc _;rfl
  |cons y r ih=>
   intro acc hy;obtain⟨n,k⟩:=y;rw[List.forIn_cons];by_cases hk:k=.free
   ·obtain⟨c,hc⟩:=hy (n,k) List.mem_cons_self hk;have e1:cellOf env n=pure c:=by unfold cellOf;rw[show env.cells.lookup n=some c from hc]
    subst hk;simp only[beq_self_eq_true,if_true,e1,pure_bind];rw[ih _ fun y hy'=>hy y (List.mem_cons_of_mem _ hy')];show _=pure (clos env r (if NameKind.free=NameKind.free then (n,(env.cells.lookup n).getD 0)::acc else acc));rw[if_pos rfl,show env.cells.lookup n=some c from hc];rfl
   ·have hb:(k==NameKind.free)=false:=by simpa using hk
    simp only[hb,Bool.false_eq_true,if_false,pure_bind];rw[ih _ fun y hy'=>hy y (List.mem_cons_of_mem _ hy')];show _=pure (clos env r (if k=NameKind.free then (n,(env.cells.lookup n).getD 0)::acc else acc));rw[if_neg hk]
 have:=key scope.names [] h;unfold closureFor
 first
  |exact (by simpa using this)
  | (simp only[bind_pure];exact this)
theorem qh9z{env:Env}{x:Str}{c:Addr}:∀(l:List (Str×NameKind)) (acc:List (Str×Addr)),(clos env l acc).lookup x=some c ->
  acc.lookup x=some c∨((x,NameKind.free)∈l/\c=(env.cells.lookup x).getD 0)
 |[],_,h=>.inl h
 | (n,k)::r,acc,h=>by
  rcases qh9z r _ h with q|⟨q1,q2⟩
  ·by_cases hk:k=.free
   ·rw[if_pos hk,List.lookup_cons] at q;by_cases hx:(x==n)=true
    ·rw[hx] at q;have hx':x=n:=by simpa using hx
     subst hx' hk;exact .inr ⟨List.mem_cons_self,(Option.some.inj q).symm⟩
    ·have hx2:(x==n)=false:=by simpa using hx
     rw[hx2] at q;exact .inl q
   ·rw[if_neg hk] at q;exact .inl q
  ·exact .inr ⟨List.mem_cons_of_mem _ q1,q2⟩
theorem qiaz{env:Env}{x:Str}:∀(l:List (Str×NameKind)) (acc:List (Str×Addr)),acc.lookup x=some ((env.cells.lookup x).getD 0)->(clos env l acc).lookup x=some ((env.cells.lookup x).getD 0)
 |[],_,h=>h
 | (n,k)::r,acc,h=>by
  refine qiaz r _ ?_;by_cases hk:k=.free
  ·rw[if_pos hk,List.lookup_cons];by_cases hx:(x==n)=true
   ·rw[hx];have hx':x=n:=by simpa using hx
    rw[hx']
   ·have hx2:(x==n)=false:=by simpa using hx
    rw[hx2];exact h
  ·rw[if_neg hk];exact h
theorem qibz{env:Env}{x:Str}:∀(l:List (Str×NameKind)) (acc:List (Str×Addr)),(x,NameKind.free)∈l->(clos env l acc).lookup x=some ((env.cells.lookup x).getD 0)
 |[],_,h=>by cases h
 | (n,k)::r,acc,h=>by
  rcases List.mem_cons.mp h with e|e
  ·cases e;refine qiaz r _ ?_;rw[if_pos rfl,List.lookup_cons,beq_self_eq_true]
  ·exact qibz r _ e
structure CmpOk(N:List Str)(sc scope:Scope)(own:List Str)(js:List Nat):Prop where
 kind:scope.kind=.function
 nocell:∀y∈scope.names,y.2≠.cell
 names:∀y∈scope.names,y.2=.local->scope.names.lookup y.1=some .local
 free:∀y∈scope.names,y.2=.free->sc.names.lookup y.1=some .cell/\own.contains y.1=false
 only:∀y∈scope.names,y.2=.free->scope.names.lookup y.1=some .free
 js:∀j∈js,j<N.length/\(N.getD j Str.empty,NameKind.free)∈scope.names
def cmpN(N own:List Str)(js:List Nat):List Str:=own++js.map fun j=>N.getD j Str.empty
def cmpSt(own:List Str)(js:List Nat)(σ:St):St:=List.replicate own.length none++js.map fun j=>(σ[j]?).getD none
def Cx.cmp(X:Cx)(scope:Scope)(own:List Str)(js:List Nat)(s:Shared)(H:Hp)(fp:List Addr):Cx:=
 { X with N:=cmpN X.N own js,s₀:=s,H₀:=H,env:=compEnvC scope (clos X.env scope.names []) s.heap.objs.size X.env,outer:=X.stack,ex:=fp,fn:=fun x=>own.contains x,pn:=[],xe:=fun _ _=>False }
theorem qdoz{sc:Scope}{env:Env}{x:Str}{k:NameKind}:∀(names:List (Str×NameKind)),
  (names.map fun (n,k)=>if (k==NameKind.free&&env.scope.kind==.function&&env.kindOf n==some .cell) then (n,NameKind.cell) else (n,k)).lookup x=some k ->
  (names.lookup x=some k/\(k≠.free∨k=.free))∨(k=.cell/\names.lookup x=some .free)
 |[],h=>by simp at h
 | (n,k')::r,h=>by
  have ih:=@qdoz sc env x k r;have h':List.lookup x ((if (k'==NameKind.free&&env.scope.kind==.function&&env.kindOf n==some .cell)=true then (n,NameKind.cell) else (n,k'))::_)=some k:=h;rw[List.lookup_cons];by_cases hc:(k'==NameKind.free&&env.scope.kind==.function&&env.kindOf n==some .cell)=true
  ·rw[if_pos hc,List.lookup_cons] at h';cases hx:x==n with
   |true=>
    rw[hx] at h';have e:NameKind.cell=k:=Option.some.inj h';have hk':k'=.free:=by
     rw[Bool.and_eq_true,Bool.and_eq_true] at hc;simpa using hc.1.1
    exact .inr ⟨e.symm,by rw[hk']⟩
   |false=>
    rw[hx] at h';exact ih h'
  ·rw[if_neg hc,List.lookup_cons] at h';cases hx:x==n with
   |true=>
    rw[hx] at h';have e:k'=k:=Option.some.inj h';subst e;exact .inl ⟨rfl,by by_cases z:k'=.free;exact .inr z;exact .inl z⟩
   |false=>
    rw[hx] at h';exact ih h'
theorem qe2z{x:Str}{k:NameKind}{l:List (Str×NameKind)}(h:l.lookup x=some k):(x,k)∈l:=PySem.mem_of_lookup h
section
variable {X:Cx} {pins:List (Addr×Obj)} {σ:St} {H:Hp} {s:Shared} {scope:Scope} {own:List Str} {js:List Nat} {fp:List Addr}
theorem CmpOk.cells(C:CmpOk X.N X.env.scope scope own js)(ok:X.Ok):∀y∈scope.names,y.2=.free->∃c,X.env.cells.lookup y.1=some c:=fun y hy e=>
 ok.has y.1 (.inl (C.free y hy e).1)
theorem CmpOk.cl_of(C:CmpOk X.N X.env.scope scope own js)(ok:X.Ok){x:Str}{c:Addr}(h:(clos X.env scope.names []).lookup x=some c):(x,NameKind.free)∈scope.names/\X.env.cells.lookup x=some c:=by
 rcases qh9z scope.names [] h with q|⟨q1,q2⟩
 ·cases q
 ·obtain⟨c',e⟩:=C.cells ok _ q1 rfl;refine⟨q1,?_⟩;rw[q2,show X.env.cells.lookup x=some c' from e];rfl
theorem CmpOk.cl_has(C:CmpOk X.N X.env.scope scope own js)(ok:X.Ok){x:Str}(h:(x,NameKind.free)∈scope.names):∃c,(clos X.env scope.names []).lookup x=some c/\X.env.cells.lookup x=some c:=by
 obtain⟨c,e⟩:=C.cells ok _ h rfl;refine⟨c,?_,e⟩;rw[qibz scope.names [] h,show X.env.cells.lookup x=some c from e];rfl
theorem Inv.cmpOk(I:Inv X pins σ H s)(C:CmpOk X.N X.env.scope scope own js)(hf:∀b∈fp,FpOk X pins H b/\b<s.heap.objs.size):(X.cmp scope own js s H fp).Ok where
 mod:=I.ok.mod
 kind:=C.kind
 glob:=I.ok.glob
 blt:=I.ok.blt
 above:=Nat.le_refl _
 inj:=fun x y c h1 h2=>I.ok.inj x y c (C.cl_of I.ok h1).2 (C.cl_of I.ok h2).2
 has:=fun x h=>by
  have hfree:(x,NameKind.free)∈scope.names:=by
   rcases h with h|h
   ·rcases qdoz (sc:=scope) (env:=X.env) scope.names h with⟨q,_⟩|⟨_,q⟩
    ·exact absurd rfl (C.nocell _ (qe2z q))
    ·exact qe2z q
   ·rcases qdoz (sc:=scope) (env:=X.env) scope.names h with⟨q,_⟩|⟨q,_⟩
    ·exact qe2z q
    ·cases q
  obtain⟨c,e,_⟩:=C.cl_has I.ok hfree;exact⟨c,e⟩
 cab:=fun x c h1 h2=>by
  have q:=(C.free _ (C.cl_of I.ok h2).1 rfl).2;have h1':own.contains x=true:=h1;rw[q] at h1';cases h1'
 hd:=I.ok.hd
 frames:=I.ok.frames
 stk:=.inl rfl
 exf:=fun b hb=>⟨Nat.ne_of_lt (hf b hb).2,fun x c e=>(hf b hb).1.2.2.2.2.1 x c (C.cl_of I.ok e).2⟩
 bs:=I.bs
 bsz:=Nat.le_trans I.ok.bsz I.sz
 noex:=fun b o e hb=>by
  rcases (hf b hb).1.2.2.2.1 with z|z
  ·exact I.ok.noex b o e z
  ·exact absurd (Nat.lt_of_lt_of_le (Heap.lt_size e) (Nat.le_trans I.ok.bsz z)) (Nat.lt_irrefl _)
 exfs:=fun b hb z=>by
  rcases List.mem_cons.mp (I.stkSub b z) with e|e
  ·exact (hf b hb).1.2.1 e
  ·exact (hf b hb).1.2.2.1 e
 funs:=I.stack
 frf:=I.stkFree
theorem qpqz{N:List Str}{js:List Nat}{i:Nat}{x:Str}(h:(js.map fun j=>N.getD j Str.empty)[i]?=some x):∃j,js[i]?=some j/\x=N.getD j Str.empty:=by
 rw[List.getElem?_map] at h;cases e:js[i]? with
 |none=>rw[e] at h;cases h
 |some j=>rw[e] at h;exact⟨j,rfl,(Option.some.inj h).symm⟩
theorem Inv.cmp(I:Inv X pins σ H s)(C:CmpOk X.N X.env.scope scope own js)(hf:∀b∈fp,FpOk X pins H b/\b<s.heap.objs.size){h':Heap}{tk:Nat}(hn:h'.Ns s.heap.objs.size fun _=>none)
  (kept:∀b o,s.heap.get? b=some o->h'.get? b=some o):Inv (X.cmp scope own js s H fp) [] (cmpSt own js σ) H { s with heap:=h',toks:=tk }:=by
 have ok:=I.cmpOk C hf;refine⟨ok,rfl,I.bare,Un.kept kept,⟨_,hn,fun i x v h1 h2 h3=>?_⟩,fun x c e=>?_,I.hok.fresh (Nat.le_refl _),fun x c e=>I.freeC x c (C.cl_of I.ok e).2,fun p hp=>?_,I.hok.kept kept,?_⟩
 ·have h1':(own++js.map fun j=>X.N.getD j Str.empty)[i]?=some x:=h1;have h2':(List.replicate own.length none++js.map fun j=>(σ[j]?).getD none)[i]?=some (some v):=h2;by_cases hi:i<own.length
  ·rw[List.getElem?_append_left (by simpa using hi),List.getElem?_replicate,if_pos hi] at h2';cases h2'
  ·rw[List.getElem?_append_right (by lia)] at h1';rw[List.getElem?_append_right (by simp;lia),List.length_replicate] at h2';obtain⟨j,hj,rfl⟩:=qpqz h1';rw[List.getElem?_map,hj] at h2';have h2'':(σ[j]?).getD none=some v:=Option.some.inj h2';have hσ:σ[j]?=some (some v):=by
    cases e:σ[j]? with
    |none=>rw[e] at h2'';cases h2''
    |some o=>
     rw[e] at h2'';have:o=some v:=h2'';rw[this]
   obtain⟨jl,jf⟩:=C.js j (List.mem_of_getElem? hj);have hN:X.N[j]?=some (X.N.getD j Str.empty):=by
    rw[List.getD_eq_getElem?_getD,List.getElem?_eq_getElem jl];rfl
   have hcell:=(C.free _ jf rfl).1;obtain⟨m,hm,hl⟩:=I.loc;obtain⟨u,ru,lk⟩:=hl j _ v hN hσ (.inr (.inl hcell));refine⟨u,ru,?_⟩;obtain⟨c,e1,e2⟩:=C.cl_has I.ok jf;rcases lk with⟨z,_⟩|⟨_,c',z1,z2⟩
   ·have z':X.env.scope.names.lookup (X.N.getD j Str.empty)=some .local:=z;rw[show X.env.scope.names.lookup (X.N.getD j Str.empty)=some .cell from hcell] at z';cases z'
   ·rw[e2] at z1;cases z1;have ic:h'.IsCell c (some u):=by
     obtain⟨o,q1,q2⟩:=z2;exact⟨o,kept _ _ q1,q2⟩
    rcases h3 with h3|h3|h3
    ·exfalso;rcases qdoz (sc:=scope) (env:=X.env) scope.names h3 with⟨q,_⟩|⟨q,_⟩
     ·have z:=C.only _ jf rfl;rw[q] at z;cases z
     ·cases q
    ·exact .inr ⟨.inl h3,c,e1,ic⟩
    ·exact .inr ⟨.inr h3,c,e1,ic⟩
 ·obtain⟨v,o,q1,q2⟩:=I.cell x c (C.cl_of I.ok e).2;exact⟨v,o,kept _ _ q1,q2⟩
 ·exact absurd (show p∈([]:List (Addr×Obj)) from hp) (by simp)
 ·show (List.replicate own.length none++js.map fun j=>(σ[j]?).getD none).length=(own++js.map fun j=>X.N.getD j Str.empty).length;simp
theorem Inv.uncmp{σ':St}{H':Hp}{s':Shared}{pl:List (Addr×Obj)}(I:Inv X pins σ H s)(hf:∀b∈fp,FpOk X pins H b/\b<s.heap.objs.size)(J:Inv (X.cmp scope own js s H fp) pl σ' H' s'):Inv X pins σ H' s':=by
 refine I.call' (ch:=fp) J.os J.base J.hok J.bare fun b hb=>?_;obtain⟨f0,f1,f2,f3,f4,f5⟩:=(hf b hb).1;exact⟨f3,f1,f4,f5⟩
theorem Inv.other{H':Hp}{s':Shared}{h':Heap}{b:Addr}(I0:Inv X pins σ H s)(I:Inv X pins σ H' s')(hb:s.heap.objs.size≤b)(hn:H' b=none)(sb:Heap.SameBut b s'.heap h'):Inv X pins σ H' { s' with heap:=h' }:=by
 obtain⟨f0,f1,f2,f3,f4,f5⟩:=I0.fpOk hb hn;exact I.turned (t':=s'.toks) (fun c o hc e=>(sb.2 c hc).trans e) f0 f1 f3 f4 f5
end
def PCt(X:Cx)(ifs:List Expr)(t:TT):Prop:=
 ∀(pins:List (Addr×Obj)) (s:Shared) (σ:St) (H:Hp) (Q:Bool->Hp->Prop),Inv X pins σ H s->t σ H Q ->
  wpAny (model X.prog X.w) X.A (forIn ifs true fun c r=>if r=true then do let ok ←isTrue c X.env (eval c X.env);pure (ForInStep.yield ok) else pure (ForInStep.yield r)) (TP X pins σ Q) X.xe s
def tNoTest:TT:=fun _ H Q=>Q true H
theorem qprz{X:Cx}:PCt X [] tNoTest:=fun _ _ _ H _ I h=>wpAny_tests_nil ⟨H,I,h⟩
theorem qpsz{X:Cx}{c:Expr}{t:TT}(h:PT X c t):PCt X [c] t:=fun pins s σ H Q I hq=>wpAny_tests_one (h pins s σ H Q I hq)
section
variable {prog:Program} {w:World} {A:Around} {R:Result->Shared->Prop} {s:Shared}
theorem qptz{elt target iter:Expr}{ifs:List Expr}{scope:Scope}{pos:Pos}{it acc:Value}{env:Env}(I:Nat->Shared->Prop)
  (turn:∀n s,I n s->wpAny (model prog w) A (pyNext it) (fun r s₁=>match r with
   |none=>R (.ok .next) s₁
   | some v=>wpAny (model prog w) A (letOwnedTupleGo target it v) (fun _ s₁'=>wpAny (model prog w) A (assign target env v) (fun _ s₂=>
     wpAny (model prog w) A (forIn ifs true fun c r=>if r=true then do let ok ←isTrue c env (eval c env);pure (ForInStep.yield ok) else pure (ForInStep.yield r)) (fun ok s₃=>
      if ok=true then wpAny (model prog w) A (eval elt env) (fun x s₄=>
       wpAny (model prog w) A (call (.builtin "list.append") [acc,x]) (fun _ s₅=>∃m,m<n/\I m s₅) (fun _ _=>False) s₄) (fun _ _=>False) s₃
      else ∃m,m<n/\I m s₃) (fun _ _=>False) s₂) (fun _ _=>False) s₁') (fun _ _=>False) s₁) (fun _ _=>False) s)
  (n:Nat) (h:I n s):
  codeAny (model prog w) A (.compLoop (.ListComp elt [⟨target,iter,ifs,0⟩] scope pos) 0 it acc env) R s:=by
 refine codeAny_loop rfl I (fun n s hI=>?_) n h;show wpAny _ A ((compTurn (.ListComp elt [⟨target,iter,ifs,0⟩] scope pos) 0 it acc env).onRaise (fun x=>do noteFrame x env;theTreesLotGoes x)) _ _ s
 refine wpAny_noted ?_;rw[compTurn_list];refine wpAny_bind (wpAny_standAt (wpAny_bind (wpAny_mono (turn n s hI) (fun r s₁ h₁=>?_) fun _ _ h'=>h'.elim)));cases r with
 |none=>exact wpAny_pure h₁
 |some v=>
  refine wpAny_bind (wpAny_mono h₁ (fun _ s₁' h₁'=>?_) fun _ _ h'=>h'.elim);refine wpAny_bind (wpAny_mono h₁' (fun _ s₂ h₂=>wpAny_bind (wpAny_mono h₂ (fun ok s₃ h₃=>?_) fun _ _ h'=>h'.elim)) fun _ _ h'=>h'.elim);cases ok with
  |false=>exact wpAny_pure ⟨rfl,h₃⟩
  |true=>
   exact wpAny_bind (wpAny_bind (wpAny_mono h₃ (fun x s₄ h₄=>wpAny_bind (wpAny_mono h₄ (fun _ s₅ h₅=>wpAny_pure (wpAny_pure ⟨rfl,h₅⟩)) fun _ _ h'=>h'.elim)) fun _ _ h'=>h'.elim))
end
def LcRd(own:List Str)(js:List Nat)(g:TG)(tc:TT)(te:TE)(J:It)(σ:St)(H:Hp)(Q:VK):Prop:=
 ∀D,H D=none->∃W:Nat->Nat->List V->St->Hp->Prop,(∃m,W 0 m [] (cmpSt own js σ) (upd H D (.lst [])))/\∀i m ys σ' H',W i m ys σ' H'->H' D=some (.lst ys) ∧
  ((J.stop i H'/\Q (.ref D) H')∨(J.go i H'/\ys.length<sizeLine/\∀x H2,J.yld i H' x H2->g x σ' H2 fun σ2 H3=>tc σ2 H3 fun b H4=>
   if b=true then te σ2 H4 fun v H5=>H5 D=some (.lst ys)/\∃m',m' < m/\W (i+1) m' (ys++[v]) σ2 (upd H5 D (.lst (ys++[v]))) else ∃m',m' < m/\W (i+1) m' ys σ2 H4))
def tLc(own:List Str)(js:List Nat)(wi:TI)(g:TG)(tc:TT)(te:TE):TE:=fun σ H Q=>wi σ H fun J H1=>LcRd own js g tc te J σ H1 Q
section
variable {X:Cx} {tg iter elt:Expr} {ifs:List Expr} {scope:Scope} {pos:Pos} {own:List Str} {js:List Nat} {g:TG} {tc:TT} {te:TE}
theorem qicz{pins:List (Addr×Obj)}{σ:St}{H:Hp}{s:Shared}{Q:VK}{it:Addr}{fp:List Addr}{tn:Nat->Heap->Prop}{J:It}{E:Value->Shared->Prop}{RR:Value->Addr->Result->Shared->Prop}
  (hc:X.calm=true) (C:CmpOk X.N X.env.scope scope own js)
  (hb:∀s H fp,PG (X.cmp scope own js s H fp) tg g/\PCt (X.cmp scope own js s H fp) ifs tc/\PE (X.cmp scope own js s H fp) elt te)
  (I:Inv X pins σ H s) (T:Turn X.prog X.w X.K tg J fp it tn) (st:tn 0 s.heap) (hf:∀b∈fp,FpOk X pins H b) (rd:LcRd own js g tc te J σ H Q)
  (hRR:∀D N s' H',Inv X pins σ H' s'->Q (.ref D) H'->s.heap.objs.size≤N->H' N=none->(∃m,s'.heap.Ns N m)->RR (.ref D) N (.ok .next) s'):
  wpAny (model X.prog X.w) X.A (newList []) (fun acc s₃=>wpAny (model X.prog X.w) X.A (newFunctionEnv scope X.env.globals (clos X.env scope.names []) [] X.env.qual none .none (some X.env)) (fun cenv s₄=>
   codeAny (model X.prog X.w) X.A (.compStart (.ListComp elt [⟨tg,iter,ifs,0⟩] scope pos) 0 (.ref it) acc { cenv with scope:=relabel scope X.env }) (RR acc cenv.locals) s₄) E s₃) E s:=by
 have hD:H s.heap.objs.size=none:=I.fresh;obtain⟨W,⟨m0,w0⟩,turn⟩:=rd s.heap.objs.size hD;refine wpAny_newObj_type ?_;have hI3:Inv X pins σ (upd H s.heap.objs.size (.lst [])) { s with heap:=s.heap.push { cls:=.type "list",data:=.seq ([]:List Value).toArray }}:=
  I.lnew (t':=s.toks) (its:=[]) (ys:=[]) .nil (Nat.zero_le _)
 have hlt:∀b∈fp,b<s.heap.objs.size:=fun b hb=>by
  obtain⟨o,e,_⟩:=T.obj 0 _ st b hb;exact Heap.lt_size e
 have st3:tn 0 (s.heap.push { cls:=.type "list",data:=.seq ([]:List Value).toArray }):=T.keep 0 _ _ st fun b _ o e=>Heap.get?_push_of_some _ e;generalize hs3:({ s with heap:=s.heap.push { cls:=.type "list",data:=.seq ([]:List Value).toArray }}:Shared)=s3 at hI3 ⊢;have hsz3:s3.heap.objs.size=s.heap.objs.size+1:=by rw[←hs3];exact Heap.size_push ..
 have st3':tn 0 s3.heap:=by rw[←hs3];exact st3
 have hf3:∀b∈fp,FpOk X pins (upd H s.heap.objs.size (.lst [])) b/\b<s3.heap.objs.size:=fun b hb=>by
  obtain⟨f0,f1⟩:=hf b hb;refine⟨⟨?_,f1⟩,by rw[hsz3];exact Nat.lt_succ_of_lt (hlt b hb)⟩;rw[qlz (Nat.ne_of_lt (hlt b hb))];exact f0
 refine wpAny_newFunctionEnv C.nocell (by intro y hy;simp at hy) (fun h₁ hns₁ hsb₁=>?_) C.kind;have kept1:∀b o,s3.heap.get? b=some o->h₁.get? b=some o:=fun b o e=>(hsb₁.2 b (Nat.ne_of_lt (Heap.lt_size e))).trans (Heap.get?_push_of_some _ e);have I4:Inv (X.cmp scope own js s3 (upd H s.heap.objs.size (.lst [])) fp) [] (cmpSt own js σ) (upd H s.heap.objs.size (.lst [])) { s3 with heap:=h₁,toks:=s3.toks+([]:List (Str×Value)).length }:=
  hI3.cmp C hf3 hns₁ kept1
 have st4:tn 0 h₁:=T.keep 0 _ _ st3' fun b _ o e=>kept1 b o e;obtain⟨hg,ht,he⟩:=hb s3 (upd H s.heap.objs.size (.lst [])) fp
 -- the iterator's objects in the block's context
 have stat:∀{H':Hp},(∀b∈fp,H' b=none)->∀b∈fp,FpOk (X.cmp scope own js s3 (upd H s.heap.objs.size (.lst [])) fp) [] H' b:=fun {H'} hn b hb=>by
  have q:=I4.ok;exact⟨hn b hb,(q.exf b hb).1,q.exfs b hb,.inl hb,(q.exf b hb).2,fun p hp=>absurd (show p∈([]:List (Addr×Obj)) from hp) (by simp)⟩
 have loop:codeAny (model X.prog X.w) X.A (.compLoop (.ListComp elt [⟨tg,iter,ifs,0⟩] scope pos) 0 (.ref it) (.ref s.heap.objs.size) (compEnvC scope (clos X.env scope.names []) s3.heap.objs.size X.env))
   (RR (.ref s.heap.objs.size) s3.heap.objs.size) { s3 with heap:=h₁,toks:=s3.toks+([]:List (Str×Value)).length }:=by
  refine qptz (fun n s'=>∃i ys σ' H',Inv (X.cmp scope own js s3 (upd H s.heap.objs.size (.lst [])) fp) [] σ' H' s'/\tn i s'.heap/\(∀b∈fp,H' b=none)/\W i n ys σ' H') ?_ m0
   ⟨0,[],_,_,I4,st4,fun b hb=>(hf3 b hb).1.1,w0⟩
  rintro n s5 ⟨i,ys,σ5,H5,I5,st5,fr5,w5⟩;obtain⟨hacc,hcase⟩:=turn i n ys σ5 H5 w5;rcases hcase with⟨stop,qn⟩|⟨go,hys,step⟩
  ·refine thn (T.done (X.cmp scope own js s3 (upd H s.heap.objs.size (.lst [])) fp) rfl rfl rfl hc i [] s5 σ5 H5 (fun _ _=>False) I5 (stat fr5) st5 stop) fun r s6 ⟨hr,I6⟩=>?_;subst hr;have I7:=hI3.uncmp hf3 I6;obtain⟨m,hm,_⟩:=I6.loc;exact hRR _ _ _ _ I7 qn (by rw[hsz3];exact Nat.le_succ _) I6.free ⟨m,hm⟩
  ·refine thn (T.item (X.cmp scope own js s3 (upd H s.heap.objs.size (.lst [])) fp) rfl rfl rfl hc i [] s5 σ5 H5 (fun _ _=>False) I5 (stat fr5) st5 go) fun r s6 ⟨u,hr,h6⟩=>?_;subst hr;refine thn h6 fun _ s7 ⟨x,H7,I7,r7,y7,st7,fr7⟩=>?_;have I7':=I7.pinned (stat fr7) (T.obj _ _ st7);refine thn (hg _ s7 σ5 H7 x u _ I7' r7 (step x H7 y7)) fun _ s8 ⟨σ8,H8,I8,q8⟩=>?_;refine thn (ht _ s8 σ8 H8 _ I8 q8) fun ok s9 ⟨H9,I9,q9⟩=>?_;have back:∀{σ':St} {H':Hp} {s':Shared} {ys':List V},Inv (X.cmp scope own js s3 (upd H s.heap.objs.size (.lst [])) fp) ([]++pinsAt fp s7.heap) σ' H' s'->(∃m',m' < n/\W (i+1) m' ys' σ' H') ->
     ∃m',m' < n/\∃i ys σ' H',Inv (X.cmp scope own js s3 (upd H s.heap.objs.size (.lst [])) fp) [] σ' H' s'/\tn i s'.heap/\(∀b∈fp,H' b=none)/\W i m' ys σ' H':=fun {σ' H' s' ys'} I' ⟨m',hm,w'⟩=>by
    refine⟨m',hm,i+1,ys',σ',H',I'.unpinned,T.keep _ _ _ st7 fun b hb o e=>(I'.pin (b,o) (List.mem_append_right _ (List.mem_append_right _ (qdiz hb e)))).1,fun b hb=>?_,w'⟩;obtain⟨o,e,d⟩:=T.obj _ _ st7 b hb;exact (I'.pin (b,o) (List.mem_append_right _ (List.mem_append_right _ (qdiz hb e)))).2.1
   cases ok with
   |false=>
    rw[if_neg Bool.false_ne_true] at q9 ⊢;exact back I9 q9
   |true=>
    rw[if_pos rfl] at q9 ⊢;refine thn (he _ s9 σ8 H9 _ I9 q9) fun xv s10 ⟨v,H10,I10,r10,hD10,q10⟩=>?_;refine thn (qhzz (X:=X.cmp scope own js s3 (upd H s.heap.objs.size (.lst [])) fp) _ s10 σ8 H10 (.ref s.heap.objs.size) [v] (.ref s.heap.objs.size) [xv] (fun _ H'=>H'=upd H10 s.heap.objs.size (.lst (ys++[v]))) I10 rfl (.cons r10 .nil)
     ⟨_,ys,v,rfl,rfl,hD10,hys,rfl⟩) fun _ s11 ⟨_,H11,I11,_,e11⟩=>?_
    subst e11;exact back I11 q10
 exact codeAny_compStart_list loop (T.self _ 0 _ _ _ st4 loop)
theorem qpuz{wi:TI}(hc:X.calm=true)(C:CmpOk X.N X.env.scope scope own js)(hi:PI X tg iter wi)
  (hb:∀s H fp,PG (X.cmp scope own js s H fp) tg g/\PCt (X.cmp scope own js s H fp) ifs tc/\PE (X.cmp scope own js s H fp) elt te)
  (hs:∀x,foldedSetIterable iter X.env x=pure x:=by intro _;rfl):PE X (.ListComp elt [⟨tg,iter,ifs,0⟩] scope pos) (tLc own js wi g tc te):=by
 intro pins s σ H Q I h;rw[eval_ListComp];refine wpAny_comprehension_free (use:=none) rfl hs (qh8z (C.cells I.ok)) C.kind C.names (thn (hi pins s σ H _ I h) fun xv s₁ h₁=>thn h₁ fun itv s₂ h₂=>?_);obtain⟨it,fp,tn,J,H2,e,I2,T,st2,f2,rd⟩:=h₂;subst e;refine qicz (RR:=fun acc C'=>compPost (model X.prog X.w) X.A X.xe none (EP X pins σ Q) acc C') hc C hb I2 T st2 f2 rd fun D N s' H' I' q hN hHN ⟨m,hm⟩=>?_;exact⟨m,hm,fun h' sb=>⟨.ref D,H',I2.other I' hN hHN sb,rfl,q⟩⟩
theorem qpvz{wi:TI}{i:Nat}{y:Str}{py spos:Pos}(hc:X.calm=true)(hN:X.N.Nodup)(hy:X.N[i]?=some y)(hyl:X.env.scope.names.lookup y=some .local)(C:CmpOk X.N X.env.scope scope own js)(hi:PI X tg iter wi)
  (hb:∀s H fp,PG (X.cmp scope own js s H fp) tg g/\PCt (X.cmp scope own js s H fp) ifs tc/\PE (X.cmp scope own js s H fp) elt te)
  (hsw:swapsWith (.ListComp elt [⟨tg,iter,ifs,0⟩] scope pos) (some (.Name y py)) spos.line X.env=pure true:=by rfl)
  (hs:∀x,foldedSetIterable iter X.env x=pure x:=by intro _;rfl):PS X (.Assign [.Name y py] (.ListComp elt [⟨tg,iter,ifs,0⟩] scope pos) spos) (tAsg (tLc own js wi g tc te) (gName i)):=by
 intro pins s σ H D I h;rw[exec_Assign_Name_used _ _ _ _ hsw];refine wpAny_bind (wpAny_standAt (wpAny_bind ?_));show wpAny _ X.A (do let _ ←comprehension (.ListComp elt [⟨tg,iter,ifs,0⟩] scope pos) scope X.env _ (newList []) false (eval iter X.env) (some (assign (.Name y py) X.env))) _ _ s;refine wpAny_bind (wpAny_mono (wpAny_comprehension_free (use:=some (assign (.Name y py) X.env)) (Q:=fun _ s'=>SP X pins D .next s') rfl hs (qh8z (C.cells I.ok)) C.kind C.names
  (thn (hi pins s σ H _ I h) fun xv s₁ h₁=>thn h₁ fun itv s₂ h₂=>?_)) (fun _ s' hq=>wpAny_pure (wpAny_pure hq)) fun _ _ e=>e)
 obtain⟨it,fp,tn,J,H2,e,I2,T,st2,f2,rd⟩:=h₂;subst e;refine qicz (RR:=fun acc C'=>compPost (model X.prog X.w) X.A X.xe (some (assign (.Name y py) X.env)) (fun _ s'=>SP X pins D .next s') acc C') hc C hb I2 T st2 f2 rd fun L N s' H' I' q hN' hHN ⟨m,hm⟩=>?_
 show wpAny _ _ (assign (.Name y py) X.env (.ref L)) _ _ _;refine wpAny_assign_Name (qeuz I' hN hy (.inl hyl) (v:=.ref L) rfl (fun s'' I'' ⟨a,sb,ha⟩=>?_) (.inr hyl));have hNa:N≠a:=by
  obtain⟨f0,f1,f2,f3,f4,f5⟩:=I2.fpOk hN' hHN;rcases ha with rfl|ha
  ·exact f1
  ·exact Ne.symm (f4 _ _ ha)
 refine⟨m,hm.sameBut sb hNa,fun h'' sb''=>?_⟩;refine⟨σ.set i (some (.ref L)),H',?_,q⟩;obtain⟨f0,f1,f2,f3,f4,f5⟩:=I2.fpOk hN' hHN;exact I''.turned (t':=s''.toks) (fun c o hc e=>(sb''.2 c hc).trans e) f0 f1 f3 f4 f5
end
end L2
namespace L3
open PySem PySem.Spec PyProof.Rows L2
section
variable {X:Cx} {st:Stmt} {rest:List Stmt} {t u:TS3} {e c:Expr} {te:TE3} {tc:TT3} {pos:Pos}
def sNext:TS3:=fun D τ G=>D.nx τ G
def sSeq(t u:TS3):TS3:=fun D τ G=>t { D with nx:=u D } τ G
theorem qpwz:PSs3 X [] sNext:=qh7z qm2z fun D σ H ⟨τ,G,D3,RS,RG,h,k⟩=>k.nx τ σ G H RS (.refl H G) RG h
theorem qpxz(h1:PS3 X st t)(h2:PSs3 X rest u):PSs3 X (st::rest) (sSeq t u):=qh7z (qm3z h1 h2) fun D σ H ⟨τ,G,D3,RS,RG,h,k⟩=>
 ⟨τ,G,{ D3 with nx:=u D3 },RS,RG,h,⟨fun τ' σ' G' H' a b c q=>⟨τ',G',D3,a,c,q,k.step b⟩,k.bk,k.ct,k.rt⟩⟩
theorem qpyz(h1:PS3 X st t):PSs3 X [st] t:=qm4z h1
def sDrop(te:TE3):TS3:=fun D τ G=>te τ G fun _ G1=>D.nx τ G1
theorem qpzz(he:PE3 X e te)(hs:swapsWith e none pos.line X.env=pure false:=by rfl):PS3 X (.Expr e pos) (sDrop te):=qakz (qm5z he hs) fun D σ H ⟨τ,G,D3,RS,RG,h,k⟩=>
 ⟨τ,G,_,RS,RG,h,fun v H1 d G1 h1 S1 R1 q1=>k.nx τ σ G1 H1 (RS.ext (S1.ext RG)) S1 R1 q1⟩
def sRet(te:TE3):TS3:=fun D τ G=>te τ G D.rt
theorem qp0z(he:PE3 X e te):PS3 X (.Return (some e) pos) (sRet te):=qakz (qm6z he) fun D σ H ⟨τ,G,D3,RS,RG,h,k⟩=>
 ⟨τ,G,D3.rt,RS,RG,h,fun v H1 d G1 h1 S1 R1 q1=>k.rt d v G1 H1 h1 S1 R1 q1⟩
def sIf(c:TT3)(t u:TS3):TS3:=fun D τ G=>c τ G fun b G1=>Br b (t D τ G1) (u D τ G1)
theorem s_if{a b:List Stmt}(hc:PT3 X c tc)(ha:PSs3 X a t)(hb:PSs3 X b u):PS3 X (.If c a b pos) (sIf tc t u):=qakz (qm7z hc ha hb) fun D σ H ⟨τ,G,D3,RS,RG,h,k⟩=>
 ⟨τ,G,_,RS,RG,h,fun b H1 G1 S1 R1 q1=>Br.ite q1 (fun q=>⟨τ,G1,D3,RS.ext (S1.ext RG),R1,q,k.step S1⟩) fun q=>⟨τ,G1,D3,RS.ext (S1.ext RG),R1,q,k.step S1⟩⟩
end
abbrev TG3:=D->S3->Gp->(S3->Gp->Prop)->Prop
abbrev TGs3:=List D->S3->Gp->(S3->Gp->Prop)->Prop
def lowG(K:PySem.W.Frag)(t:TG3):TG:=fun v σ H Q=>∃d τ G Q3,Hv K H d v/\RepS K τ σ H/\RepG K G H/\t d τ G Q3/\∀τ' σ' G' H',RepS K τ' σ' H'->Step H G H' G'->RepG K G' H'->Q3 τ' G'->Q σ' H'
def lowGs(K:PySem.W.Frag)(t:TGs3):TGs:=fun vs σ H Q=>∃ds τ G Q3,Hvs K H ds vs/\RepS K τ σ H/\RepG K G H/\t ds τ G Q3/\∀τ' σ' G' H',RepS K τ' σ' H'->Step H G H' G'->RepG K G' H'->Q3 τ' G'->Q σ' H'
abbrev PG3(X:Cx)(tg:Expr)(t:TG3):Prop:=PG X tg (lowG X.K t)
abbrev PGs3(X:Cx)(tgs:List Expr)(t:TGs3):Prop:=PGs X tgs (lowGs X.K t)
section
variable {X:Cx} {pos:Pos} {e:Expr} {es:List Expr}
theorem qdpz{t t':TG}(h:PG X e t)(f:∀v σ H Q,t' v σ H Q->t v σ H Q):PG X e t':=fun pins s σ H v u Q I r q=>h pins s σ H v u Q I r (f v σ H Q q)
theorem qidz{t t':TGs}(h:PGs X es t)(f:∀v σ H Q,t' v σ H Q->t v σ H Q):PGs X es t':=fun pins s σ H v u Q I r q=>h pins s σ H v u Q I r (f v σ H Q q)
def hName(i:Nat):TG3:=fun d τ G Q=>Q (set3 τ i d) G
theorem qp1z{i:Nat}{x:Str}(hN:X.N.Nodup)(hi:X.N[i]?=some x:=by rfl)(hx:Loc X.env.scope x:=by first|exact Or.inl rfl|exact Or.inr rfl)(hf:X.fn x=true∨X.env.scope.names.lookup x=some .local:=by first|exact .inl rfl|exact .inr rfl|assumption):PG3 X (.Name x pos) (hName i):=
 qdpz (qm8z hN hi hx hf) fun v σ H Q ⟨d,τ,G,Q3,hd,RS,RG,h,k⟩=>k _ _ G H (RS.set hd) (.refl H G) RG h
def hNil:TGs3:=fun ds τ G Q=>match ds with
 |[]=>Q τ G
 |_::_=>False
def hCons(t:TG3)(u:TGs3):TGs3:=fun ds τ G Q=>match ds with
 |[]=>False
 |d::r=>t d τ G fun τ' G'=>u r τ' G' Q
theorem qp2z:PGs3 X [] hNil:=qidz qm9z fun vs σ H Q ⟨ds,τ,G,Q3,hd,RS,RG,h,k⟩=>by
 cases ds with
 |nil=>exact⟨hd.inv0,k _ _ G H RS (.refl H G) RG h⟩
 |cons d r=>exact h.elim
theorem qp3z{t:TG3}{u:TGs3}(h1:PG3 X e t)(h2:PGs3 X es u)(hs:(assignEach (e::es) X.env).map (·.2)=assign e X.env::(assignEach es X.env).map (·.2):=by rfl):PGs3 X (e::es) (hCons t u):=
 qidz (qnaz h1 h2 hs) fun vs σ H Q ⟨ds,τ,G,Q3,hd,RS,RG,h,k⟩=>by
  cases ds with
  |nil=>exact h.elim
  |cons d r=>
   obtain⟨v,vr,rfl,q1,q2⟩:=hd.inv;refine⟨v,vr,rfl,d,τ,G,_,q1,RS,RG,h,fun τ' σ' G' H' a b c q=>?_⟩;exact⟨r,τ',G',Q3,q2.ext (b.ext RG),a,c,q,fun τ2 σ2 G2 H2 a2 b2 c2=>k τ2 σ2 G2 H2 a2 (b.trans b2) c2⟩
def hTup(n:Nat)(t:TGs3):TG3:=fun d τ G Q=>match d with
 |.tup ds=>ds.length=n/\t ds τ G Q
 |_=>False
theorem qp4z{k:Nat}{t:TGs3}{n:Nat}(hc:X.calm=true)(h:PGs3 X es t)(hn:(assignEach es X.env).length=n:=by rfl)(hst:(assignEach es X.env).findIdx? (·.1)=none:=by rfl):PG3 X (.Tuple es k pos) (hTup n t):=
 qdpz (qnbz hc h hn hst) fun v σ H Q ⟨d,τ,G,Q3,hd,RS,RG,h,k⟩=>by
  cases d with
  |tup ds=>
   unfold Hv at hd;obtain⟨a,vs,e1,e2,e3⟩:=hd;exact⟨a,vs,e1,e2,by rw[←e3.length];exact h.1,ds,τ,G,Q3,e3,RS,RG,h.2,k⟩
  |_=>exact h.elim
def sAsg(te:TE3)(g:TG3):TS3:=fun D τ G=>te τ G fun x G1=>g x τ G1 D.nx
theorem qp5z{tg:Expr}{te:TE3}{g:TG3}(he:PE3 X e te)(hg:PG3 X tg g)(hs:swapsWithSole [tg] e pos.line X.env=pure false:=by rfl)(hw:swappedStores [tg] e X.env=pure none:=by rfl)
  (h1:(assignEach [tg] X.env).map (·.2)=[assign tg X.env]:=by rfl):PS3 X (.Assign [tg] e pos) (sAsg te g):=qakz (qndz he hg hs hw h1) fun D σ H ⟨τ,G,D3,RS,RG,h,k⟩=>
 ⟨τ,G,_,RS,RG,h,fun v H1 d G1 h1 S1 R1 q1=>⟨d,τ,G1,D3.nx,h1,RS.ext (S1.ext RG),R1,q1,fun τ' σ' G' H' a b c q=>k.nx τ' σ' G' H' a (S1.trans b) c q⟩⟩
theorem qp6z{i:Nat}{x:Str}{te:TE3}{pos':Pos}(hN:X.N.Nodup)(he:PE3 X e te)(hi:X.N[i]?=some x:=by rfl)(hx:Loc X.env.scope x:=by first|exact Or.inl rfl|exact Or.inr rfl)(hs:swapsWith e (some (.Name x pos')) pos.line X.env=pure false:=by rfl)
  (hf:X.fn x=true∨X.env.scope.names.lookup x=some .local:=by first|exact .inl rfl|exact .inr rfl|assumption):PS3 X (.Assign [.Name x pos'] e pos) (sAsg te (hName i)):=qakz (qnez hN hi hx he hs hf) fun D σ H ⟨τ,G,D3,RS,RG,h,k⟩=>
 ⟨τ,G,_,RS,RG,h,fun v H1 d G1 h1 S1 R1 q1=>k.nx _ _ G1 H1 ((RS.ext (S1.ext RG)).set h1) S1 R1 q1⟩
def sPar(i j:Nat)(ta:TA3):TS3:=fun D τ G=>ta τ G fun ds G1=>match ds with
 |[a,b]=>D.nx (set3 (set3 τ i a) j b) G1
 |_=>False
theorem qiez{i j:Nat}{st:Stmt}{ta:TA3}(h:PS X st (tPar i j (lowA X.K ta))):PS3 X st (sPar i j ta):=qakz h fun D σ H ⟨τ,G,D3,RS,RG,h,k⟩=>
 ⟨τ,G,_,RS,RG,h,fun vs H1 ds G1 h1 S1 R1 q1=>by
  match ds,h1,q1 with
  |[a,b],h1,q1=>
   obtain⟨v,r,rfl,z1,z2⟩:=h1.inv;obtain⟨w,r2,rfl,z3,z4⟩:=z2.inv;cases z4.inv0;exact⟨v,w,rfl,k.nx _ _ G1 H1 (((RS.ext (S1.ext RG)).set z1).set z3) S1 R1 q1⟩
  |[],_,q1=>exact q1.elim
  |[_],_,q1=>exact q1.elim
  |_::_::_::_,_,q1=>exact q1.elim⟩
def sAug(i:Nat)(te:TE3)(r:R3):TS3:=fun D τ G=>match at3 τ i with
 |some x=>te τ G fun y G1=>r x y G1 fun z G2=>D.nx (set3 τ i z) G2
 |none=>False
theorem qp7z{i:Nat}{x:Str}{te:TE3}{op:Operator}{r:R3}{r2:TIp}{pos':Pos}(L:LowR X.K r r2)(hN:X.N.Nodup)(he:PE3 X e te)(ho:PIp X op r2)(hi:X.N[i]?=some x:=by rfl)(hx:Loc X.env.scope x:=by first|exact Or.inl rfl|exact Or.inr rfl)(hf:X.fn x=true∨X.env.scope.names.lookup x=some .local:=by first|exact .inl rfl|exact .inr rfl|assumption):
  PS3 X (.AugAssign (.Name x pos') op e pos) (sAug i te r):=qakz (qngz hN hi hx he ho hf) fun D σ H ⟨τ,G,D3,RS,RG,h,k⟩=>by
 unfold sAug at h;cases hd:at3 τ i with
 |none=>rw[hd] at h;exact h.elim
 |some d=>
  rw[hd] at h;obtain⟨v,e1,e2⟩:=RS.at_ i d hd;refine⟨v,e1,τ,G,_,RS,RG,h,fun v1 H1 d1 G1 h1 S1 R1 q1=>?_⟩;refine L _ _ _ _ _ _ _ _ (e2.ext (S1.ext RG)) h1 R1 q1 fun v2 H2 d2 G2 z1 z2 z3 z4=>?_;exact k.nx _ _ G2 H2 (((RS.ext (S1.ext RG)).ext (z2.ext R1)).set z1) (S1.trans z2) z3 z4
def rSet3:D->D->D->Gp->(Gp->Prop)->Prop:=fun o i v G Q=>match o,i with
 |.obj p,.int k=>∃ds j,G p=some (.lst ds)/\ixN ds.length k=some j/\Q (upd3 G p (.lst (ds.set j v)))
 |_,_=>False
def hSub(to ti:TE3):TG3:=fun v τ G Q=>to τ G fun o G1=>ti τ G1 fun i G2=>rSet3 o i v G2 fun G3=>Q τ G3
theorem qifz{K:PySem.W.Frag}{o i v:D}{vo vi vv:V}{G:Gp}{H:Hp}{Q3:Gp->Prop}{Q:Hp->Prop}(ho:Hv K H o vo)(hi:Hv K H i vi)(hv:Hv K H v vv)(RG:RepG K G H)(h:rSet3 o i v G Q3)
  (k:∀H' G',Step H G H' G'->RepG K G' H'->Q3 G'->Q H'):rSetL vo vi vv H Q:=by
 match o,i,ho,hi,h with
 |.obj p,.int j,ho,hi,h=>
  unfold Hv at ho hi;obtain⟨ds,n,e1,e2,q⟩:=h;obtain⟨vs,e3,e4⟩:=RG p _ e1;refine⟨p,vs,j,n,ho,hi,e3,by rw[←e4.length];exact e2,k _ _ (Step.wrote (g:=.lst (ds.set n v)) e1) (RG.wrote e3 ⟨_,qtz,?_⟩) q⟩;exact (e4.ext (Ext.wrote e3)).set n (hv.ext (Ext.wrote e3))
 |.obj _,.non,_,_,h=>exact h.elim
 |.obj _,.bl _,_,_,h=>exact h.elim
 |.obj _,.str _,_,_,h=>exact h.elim
 |.obj _,.tup _,_,_,h=>exact h.elim
 |.obj _,.scr _,_,_,h=>exact h.elim
 |.obj _,.obj _,_,_,h=>exact h.elim
 |.obj _,.dc _,_,_,h=>exact h.elim
 |.dc _,_,_,_,h=>exact h.elim
 |.non,_,_,_,h=>exact h.elim
 |.bl _,_,_,_,h=>exact h.elim
 |.int _,_,_,_,h=>exact h.elim
 |.str _,_,_,_,h=>exact h.elim
 |.tup _,_,_,_,h=>exact h.elim
 |.scr _,_,_,_,h=>exact h.elim
theorem qp8z{o i:Expr}{to ti:TE3}(ho:PE3 X o to)(hi:PE3 X i ti)
  (ha:∀v,assign (.Subscript o i pos) X.env v=(do
   let ov ←holding [v] (eval o X.env)
   let iv ←holding [v,ov] (eval i X.env)
   standAt pos
   holding [v,ov,iv] (setItem ov iv v)
   release [v,ov,iv] []):=by intro _;rfl):PG3 X (.Subscript o i pos) (hSub to ti):=qdpz (qncz ho hi set_list ha) fun v σ H Q ⟨d,τ,G,Q3,hd,RS,RG,h,k⟩=>
 ⟨τ,G,_,RS,RG,h,fun v1 H1 d1 G1 h1 S1 R1 q1=>⟨τ,G1,_,RS.ext (S1.ext RG),R1,q1,fun v2 H2 d2 G2 h2 S2 R2 q2=>
  qifz (h1.ext (S2.ext R1)) h2 ((hd.ext (S1.ext RG)).ext (S2.ext R1)) R2 q2 fun H' G' y1 y2 y3=>k _ _ G' H' (((RS.ext (S1.ext RG)).ext (S2.ext R1)).ext (y1.ext R2)) ((S1.trans S2).trans y1) y2 y3⟩⟩
def sAugS(to ti te:TE3)(f:Int->Int->Int):TS3:=fun D τ G=>to τ G fun o G1=>ti τ G1 fun i G2=>match o,i with
 |.obj p,.int k=>∃ds x,G2 p=some (.lst ds)/\atI ds k=some (.int x)/\te τ G2 fun y G3=>match y with
  |.int y=>rSet3 o i (.int (f x y)) G3 fun G4=>D.nx τ G4
  |_=>False
 |_,_=>False
def sWhile(c:TT3)(tb:TS3):TS3:=fun D τ G=>∃W:Nat->S3->Gp->Prop,(∃m,W m τ G)/\∀m τ G,W m τ G ->
 c τ G fun b G1=>Br b (tb { D with nx:=fun τ' G'=>∃m',m' < m/\W m' τ' G',ct:=fun τ' G'=>∃m',m' < m/\W m' τ' G',bk:=D.nx } τ G1) (D.nx τ G1)
theorem qp9z{c:Expr}{body:List Stmt}{tc:TT3}{tb:TS3}(hp:PassesOwn (model X.prog X.w) X.A X.env X.xe)(hc:PT3 X c tc)(hb:PSs3 X body tb):PS3 X (.While c body [] pos) (sWhile tc tb):=
 qakz (qniz hp hc hb) fun D σ H ⟨τ,G,D3,RS,RG,⟨W,⟨m0,w0⟩,turn⟩,k⟩=>by
  refine⟨fun m σ' H'=>∃τ' G',W m τ' G'/\RepS X.K τ' σ' H'/\RepG X.K G' H'/\Step H G H' G',⟨m0,τ,G,w0,RS,RG,.refl H G⟩,fun m σ1 H1 ⟨τ1,G1,w1,RS1,RG1,S1⟩=>?_⟩;refine⟨τ1,G1,_,RS1,RG1,turn m τ1 G1 w1,fun b H2 G2 S2 R2 q2=>Br.ite q2 (fun q=>?_) fun q=>k.nx _ _ G2 H2 (RS1.ext (S2.ext RG1)) (S1.trans S2) R2 q⟩;refine⟨fun σ' H'=>∃τ' G',(∃m',m' < m/\W m' τ' G')/\RepS X.K τ' σ' H'/\RepG X.K G' H'/\Step H G H' G',fun σ' H' ⟨τ',G',⟨m',hm,w'⟩,a,b,c⟩=>⟨m',hm,τ',G',w',a,b,c⟩,?_⟩;refine⟨τ1,G2,_,RS1.ext (S2.ext RG1),R2,q,⟨?_,?_,?_,?_⟩⟩
  ·exact fun τ' σ' G' H' a b c q=>⟨τ',G',q,a,c,(S1.trans S2).trans b⟩
  ·exact fun τ' σ' G' H' a b c q=>k.nx τ' σ' G' H' a ((S1.trans S2).trans b) c q
  ·exact fun τ' σ' G' H' a b c q=>⟨τ',G',q,a,c,(S1.trans S2).trans b⟩
  ·exact fun d v G' H' a b c q=>k.rt d v G' H' a ((S1.trans S2).trans b) c q
end
abbrev Sp3:=List D->Gp->V3->Prop
def lowSp(K:PySem.W.Frag)(sp:Sp3):Sp:=fun vs H Q _=>∃ds G Q3,Hvs K H ds vs/\RepG K G H/\sp ds G Q3/\∀v H' d G',Hv K H' d v->Step H G H' G'->RepG K G' H'->Q3 d G'->Q v H'
abbrev FnOk3(P:Program)(w:World)(K:PySem.W.Frag)(mg:Str->Option Value)(base:Heap)(k:Nat)(f:Addr)(fd:FuncData)(ps:List Str)(sp:Sp3):Prop:=FnOk P w K mg base CX0 k f fd ps (lowSp K sp)
def eCall(sp:Sp3)(t:TA3):TE3:=fun τ G Q=>t τ G fun ds G1=>sp ds G1 Q
section
variable {X:Cx} {k:Nat} {f:Addr} {fd:FuncData} {ps:List Str} {sp:Sp3} {x:Str} {p pos:Pos} {e:Expr} {es:List Expr} {t:TA3}
theorem qe3z{K:PySem.W.Frag}{σ:L2.St}{H:Hp}{Q:VK}{E:XK}(h:low K (eCall sp t) σ H Q):tCall (lowSp K sp) [] E (lowA K t) σ H Q:=by
 obtain⟨τ,G,Q3,RS,RG,h,k⟩:=h;refine⟨τ,G,_,RS,RG,h,fun vs H1 ds G1 h1 S1 R1 q1=>?_⟩;refine⟨ds,G1,Q3,by rw[List.append_nil];exact h1,R1,q1,fun v H' d G' z1 z2 z3 z4=>k v H' d G' z1 (S1.trans z2) z3 z4⟩
theorem qqaz(F:FnOk3 X.prog X.w X.K X.mg X.base k f fd ps sp)(hr:Room k X.A)(hm:X.mg x=some (.ref f))(hk:PySem.W.keepIn X.K (.ref f)=true)(hb:Binds X.K fd ps [])(ha:PA3 X (e::es) t)(hg:Gl X x:=by rfl)
  (hdb:(x==("__debug__":Str))=false:=by decide) (he:notStar e=true:=by rfl) (hpl:es.all notStar=true:=by rfl):
  PE3 X (.Call (.Name x p) (e::es) [] pos) (eCall sp t):=qvz (qn5z (E:=E0) F hr hg hm hk hb .nil pass0 ha hdb (qmz he) (qyz hpl)) fun σ H Q h=>qe3z h
end
section
variable {P:Program} {w:World} {K:PySem.W.Frag} {mg:Str->Option Value} {base:Heap}
def endsOf(Q:V3):Ends3:={ nx:=fun _ G'=>∃G0,Sub G0 G'/\Q .non G0,rt:=fun d G'=>∃G0,Sub G0 G'/\Q d G0 }
theorem fn3{x qual:Str}{st:Stmt}{f:Addr}{fd:FuncData}{N ps:List Str}{k:Nat}{sp:Sp3}(F:Fun K x qual st f fd)(S:FnScope N ps (defScope st))(hN:ps.length≤N.length)(len:∀ds G Q,sp ds G Q->ds.length=ps.length)(tb:TS3)
  (hbody:∀(cdv:Value) (A:Around) (outer:List Env) (s:Shared) (H:Hp) (E:XK),Room k (A.deeper (envOfC qual (defScope st) s.heap.objs.size f cdv)) ->
   PSs3 (cxOf CX0 P w K mg base N qual (defScope st) f cdv A outer s H E).nox (defBody st) tb)
  (hrd:∀ds G Q,sp ds G Q->tb (endsOf Q) (start3 N ds) G):FnOk3 P w K mg base (k+1) f fd ps sp:=by
 refine F.ok S (fun vs H Q E h=>?_) (fun cdv A outer s H vs Q E hr h=>?_)
 ·obtain⟨ds,G,Q3,h1,h2,h3,h4⟩:=h;rw[←h1.length];exact len _ _ _ h3
 ·obtain⟨ds,G,Q3,h1,h2,h3,h4⟩:=h;refine⟨_,hbody cdv A outer s H E hr,start3 N ds,G,endsOf Q3,.start h1 ?_,h2,hrd _ _ _ h3,⟨?_,?_,?_,?_⟩⟩
  ·rw[←h1.length,len _ _ _ h3];exact hN
  ·exact fun τ σ G' H' a b c ⟨G0,s0,q⟩=>h4 _ H' .non G0 (by simp[Hv]) (b.trans (.sub s0)) (c.sub s0) q
  ·exact fun τ σ G' H' a b c q=>q.elim
  ·exact fun τ σ G' H' a b c q=>q.elim
  ·exact fun d v G' H' a b c ⟨G0,s0,q⟩=>h4 _ H' d G0 a (b.trans (.sub s0)) (c.sub s0) q
end
end L3
namespace L3
open PySem PySem.Spec PyProof.Rows L2
structure Src where
 items:List D
 guard:Gp->Prop
structure SrcOk(K:PySem.W.Frag)(H0:Hp)(J:It)(S:Src):Prop where
 go:∀(i:Nat) d H G,Ext H0 H->RepG K G H->S.guard G->S.items[i]?=some d->J.go i H/\∀x H',J.yld i H x H'->Hv K H' d x/\Step H G H' G/\RepG K G H'
 stop:∀(i:Nat) H G,Ext H0 H->RepG K G H->S.guard G->S.items.length≤i->J.stop i H
abbrev TI3:=S3->Gp->(Src->Gp->Prop)->Prop
def lowI(K:PySem.W.Frag)(ti:TI3):TI:=fun σ H R=>∃τ G R3,RepS K τ σ H/\RepG K G H/\ti τ G R3/\∀J H' S G',SrcOk K H' J S->Step H G H' G'->RepG K G' H'->R3 S G'->R J H'
abbrev PI3(X:Cx)(tg iter:Expr)(ti:TI3):Prop:=PI X tg iter (lowI X.K ti)
section
variable {X:Cx} {tg iter:Expr} {pos p:Pos}
theorem qdqz{t t':TI}(h:PI X tg iter t)(f:∀σ H R,t' σ H R->t σ H R):PI X tg iter t':=fun pins s σ H R I q=>h pins s σ H R I (f σ H R q)
def iSeq(te:TE3):TI3:=fun τ G R=>te τ G fun x G1=>match x with
 |.obj p=>∃ds,G1 p=some (.lst ds)/\R ⟨ds,fun G=>G p=some (.lst ds)⟩ G1
 |.tup ds=>R ⟨ds,fun _=>True⟩ G1
 |.scr ds=>R ⟨ds,fun _=>True⟩ G1
 |_=>False
theorem qqbz{l:Expr}{te:TE3}(hl:PE3 X l te):PI3 X tg l (iSeq te):=by
 intro pins s σ H R I h;obtain⟨τ,G,R3,RS,RG,h,k⟩:=h
 -- the state carries what a list of the heap is
 refine thn (hl pins s σ H (fun v H'=>∃d G',Hv X.K H' d v/\Step H G H' G'/\RepG X.K G' H'/\(match d with
  |.obj p=>∃ds,G' p=some (.lst ds)/\R3 ⟨ds,fun G=>G p=some (.lst ds)⟩ G'
  |.tup ds=>R3 ⟨ds,fun _=>True⟩ G'
  |.scr ds=>R3 ⟨ds,fun _=>True⟩ G'
  | _=>False)) I ⟨τ,G,_,RS,RG,h,fun v H' d G' a b c q=>⟨d,G',a,b,c,q⟩⟩) fun v s1 ⟨x,H1,I1,r1,d,G1,hv,S1,R1,q⟩=>?_
 have hlist:∀(a:Addr) (its:List Value) (xs:List V),Vals xs its->PlainL s1.heap a its.toArray->R (Itl X.K a) H1->wpAny (model X.prog X.w) X.A (pyIter (.ref a)) (PIE X pins σ tg R) X.xe s1:=by
  intro a its xs rv p q;refine wpAny_pyIter_list p.isList ?_;refine⟨s1.heap.objs.size,[s1.heap.objs.size],_,_,H1,rfl,I1.kept (t':=s1.toks) fun b o e=>Heap.get?_push_of_some _ e,qnjz a _,⟨_,Heap.get?_push_size _ rfl,rfl,rfl⟩,fun b hb=>?_,q⟩;have e:b=s1.heap.objs.size:=by simpa using hb
  subst e;exact I1.fpOk (Nat.le_refl _) (I1.hok.fresh (Nat.le_refl _))
 cases d with
 |obj a=>
  unfold Hv at hv;subst hv;cases r1;obtain⟨ds,e1,q⟩:=q;obtain⟨vs,e2,e3⟩:=R1 a _ e1;obtain⟨its,rv,p,hz⟩:=I1.list (SqL.of e2);refine hlist a its vs rv p (k _ _ _ _ ⟨?_,?_⟩ S1 R1 q)
  ·intro i d H' G' E' RG' hg hi;obtain⟨vs',z1,z2⟩:=RG' a _ hg;obtain⟨v',y1,y2⟩:=z2.get hi;refine⟨⟨vs',v',.of z1,y1⟩,fun x H'' hy=>?_⟩;obtain⟨rfl,hy⟩:=hy;have:=hy vs' (.of z1);rw[y1] at this;cases this;exact⟨y2,.refl _ _,RG'⟩
  ·intro i H' G' E' RG' hg hi;obtain⟨vs',z1,z2⟩:=RG' a _ hg;exact⟨vs',.of z1,by rw[←z2.length];exact hi⟩
 |tup ds=>
  unfold Hv at hv;obtain⟨a,vs,rfl,e2,e3⟩:=hv;cases r1;obtain⟨its,rv,p,hz⟩:=I1.tuple e2;have hq:R (Itt X.K a) H1:=by
   refine k _ _ _ _ ⟨?_,?_⟩ S1 R1 q
   ·intro i d H' G' E' RG' hg hi;obtain⟨v',y1,y2⟩:=e3.get hi;refine⟨⟨vs,v',SqT.ext E' e2,y1⟩,fun x H'' hy=>?_⟩;obtain⟨rfl,hy⟩:=hy;have:=hy vs (SqT.ext E' e2);rw[y1] at this;cases this;exact⟨y2.ext E',.refl _ _,RG'⟩
   ·intro i H' G' E' RG' hg hi;exact⟨vs,SqT.ext E' e2,by rw[←e3.length];exact hi⟩
  refine wpAny_pyIter_tuple (show s1.heap.IsTuple a its.toArray from p) ?_;refine⟨s1.heap.objs.size,[s1.heap.objs.size],_,_,H1,rfl,I1.kept (t':=s1.toks) fun b o e=>Heap.get?_push_of_some _ e,qnkz a _,⟨_,Heap.get?_push_size _ rfl,rfl,rfl⟩,fun b hb=>?_,hq⟩;have e:b=s1.heap.objs.size:=by simpa using hb
  subst e;exact I1.fpOk (Nat.le_refl _) (I1.hok.fresh (Nat.le_refl _))
 |scr ds=>
  unfold Hv at hv;obtain⟨a,vs,rfl,e2,e3⟩:=hv;cases r1;obtain⟨its,rv,p,hz⟩:=I1.list e2.l;refine hlist a its vs rv p (k _ _ _ _ ⟨?_,?_⟩ S1 R1 q)
  ·intro i d H' G' E' RG' hg hi;obtain⟨v',y1,y2⟩:=e3.get hi;refine⟨⟨vs,v',(SqF.ext E' e2).l,y1⟩,fun x H'' hy=>?_⟩;obtain⟨rfl,hy⟩:=hy;have:=hy vs (SqF.ext E' e2).l;rw[y1] at this;cases this;exact⟨y2.ext E',.refl _ _,RG'⟩
  ·intro i H' G' E' RG' hg hi;exact⟨vs,(SqF.ext E' e2).l,by rw[←e3.length];exact hi⟩
 |non=>exact q.elim
 |bl _=>exact q.elim
 |int _=>exact q.elim
 |str _=>exact q.elim
 |dc _=>exact q.elim
def rngL(lo:Int)(n:Nat):List D:=(List.range n).map fun i:Nat=>.int (lo+(i:Int))
theorem qigz{lo:Int}{n i:Nat}{d:D}(h:(rngL lo n)[i]?=some d):i<n/\d=.int (lo+(i:Int)):=by
 unfold rngL at h;rw[List.getElem?_map] at h;by_cases hi:i<n
 ·rw[List.getElem?_range hi] at h;simp at h;exact⟨hi,h.symm⟩
 ·rw[List.getElem?_eq_none_iff.mpr (by simpa using hi)] at h;cases h
theorem qbkz(lo:Int)(n:Nat):(rngL lo n).length=n:=by simp[rngL]
theorem qqcz{K:PySem.W.Frag}{H:Hp}(lo:Int)(n:Nat):SrcOk K H (Itr lo n) ⟨rngL lo n,fun _=>True⟩:=⟨by
 intro i d H' G' _ RG _ hi;obtain⟨h1,h2⟩:=qigz hi;refine⟨h1,fun x H'' hy=>?_⟩;obtain⟨rfl,rfl⟩:=hy;exact⟨by rw[h2];simp[Hv],.refl _ _,RG⟩,by
 intro i H' G' _ RG _ hi;rw[qbkz] at hi;exact hi⟩
def iRng1(ta:TA3):TI3:=fun τ G R=>ta τ G fun ds G1=>match ds with
 |[.int j]=>(-(2^62)≤j/\j<2^62)/\R ⟨rngL 0 j.toNat,fun _=>True⟩ G1
 |_=>False
theorem qqdz{a:Expr}{ta:TA3}(hm:X.mg "range" = none)(ha:PA3 X [a] ta)(hg:Gl X "range":=by rfl)(hs:notStar a=true:=by rfl):PI3 X tg (.Call (.Name "range" p) [a] [] pos) (iRng1 ta):=
 qdqz (qnnz hg hm ha (qmz hs)) fun σ H R ⟨τ,G,R3,RS,RG,h,k⟩=>⟨τ,G,_,RS,RG,h,fun vs H1 ds G1 h1 S1 R1 q1=>by
  rcases ds with _|⟨d,_|⟨d2,ds⟩⟩
  ·exact q1.elim
  ·cases d with
   |int j=>
    obtain⟨v,r,rfl,z1,z2⟩:=h1.inv;cases z2.inv0;unfold Hv at z1;exact⟨j,by rw[z1],q1.1.1,q1.1.2,k _ _ _ _ (qqcz 0 _) S1 R1 q1.2⟩
   |_=>exact q1.elim
  ·cases d<;>exact q1.elim⟩
def forGo(guard:Gp->Prop)(g:TG3)(tb:TS3)(D3:Ends3):List D->S3->Gp->Prop
 |[],τ,G=>guard G/\D3.nx τ G
 |d::ds,τ,G=>guard G/\g d τ G fun τ2 G2=>tb { D3 with nx:=forGo guard g tb D3 ds,ct:=forGo guard g tb D3 ds,bk:=D3.nx } τ2 G2
def sFor(ti:TI3)(g:TG3)(tb:TS3):TS3:=fun D3 τ G=>ti τ G fun S G1=>forGo S.guard g tb D3 S.items τ G1
theorem qqez{body:List Stmt}{ti:TI3}{g:TG3}{tb:TS3}(hp:PassesOwn (model X.prog X.w) X.A X.env X.xe)(hc:X.calm=true)(hi:PI3 X tg iter ti)(hg:PG3 X tg g)(hb:PSs3 X body tb)
  (hs:∀x,foldedSetIterable iter X.env x=pure x:=by intro _;rfl):PS3 X (.For tg iter body [] pos) (sFor ti g tb):=qakz (qnpz hp hc hi hg hb hs) fun D2 σ H ⟨τ,G,D3,RS,RG,h,k⟩=>by
 refine⟨τ,G,_,RS,RG,h,fun J H1 S G1 ok S1 R1 q1=>?_⟩;refine⟨fun i m σ' H'=>∃τ' G',RepS X.K τ' σ' H'/\RepG X.K G' H'/\Step H G H' G'/\Ext H1 H'/\forGo S.guard g tb D3 (S.items.drop i) τ' G'/\m+i=S.items.length,⟨S.items.length,τ,G1,RS.ext (S1.ext RG),R1,S1,.refl H1,by simpa using q1,by lia⟩,?_⟩;rintro i m σ' H' ⟨τ',G',RS',RG',S',E',q,hm⟩;by_cases hlt:i<S.items.length
 ·have hd:S.items.drop i=S.items[i]::S.items.drop (i+1):=List.drop_eq_getElem_cons hlt;have hget:S.items[i]?=some S.items[i]:=List.getElem?_eq_getElem hlt;rw[hd] at q;obtain⟨hgd,q⟩:=q;obtain⟨z1,z2⟩:=ok.go i _ H' G' E' RG' hgd hget;refine .inr ⟨z1,fun σ2 H2=>∃τ2 G2,RepS X.K τ2 σ2 H2/\RepG X.K G2 H2/\Step H G H2 G2/\Ext H1 H2/\forGo S.guard g tb D3 (S.items.drop (i+1)) τ2 G2,fun σ2 H2 ⟨τ2,G2,a1,a2,a3,a4,a5⟩=>⟨m-1,by lia,τ2,G2,a1,a2,a3,a4,a5,by lia⟩,fun x H2 hy=>?_⟩;obtain⟨y1,y2,y3⟩:=z2 x H2 hy;refine⟨S.items[i],τ',G',_,y1,RS'.ext (y2.ext RG'),y3,q,fun τ3 σ3 G3 H3 b1 b2 b3 b4=>?_⟩;refine⟨τ3,G3,_,b1,b3,b4,⟨?_,?_,?_,?_⟩⟩
  ·exact fun τ4 σ4 G4 H4 c1 c2 c3 c4=>⟨τ4,G4,c1,c3,((S'.trans y2).trans b2).trans c2,((E'.trans (y2.ext RG')).trans (b2.ext y3)).trans (c2.ext b3),c4⟩
  ·exact fun τ4 σ4 G4 H4 c1 c2 c3 c4=>k.nx τ4 σ4 G4 H4 c1 (((S'.trans y2).trans b2).trans c2) c3 c4
  ·exact fun τ4 σ4 G4 H4 c1 c2 c3 c4=>⟨τ4,G4,c1,c3,((S'.trans y2).trans b2).trans c2,((E'.trans (y2.ext RG')).trans (b2.ext y3)).trans (c2.ext b3),c4⟩
  ·exact fun d v G4 H4 c1 c2 c3 c4=>k.rt d v G4 H4 c1 (((S'.trans y2).trans b2).trans c2) c3 c4
 ·have hd:S.items.drop i=[]:=List.drop_eq_nil_of_le (by lia);rw[hd] at q;exact .inl ⟨ok.stop i H' G' E' RG' q.1 (by lia),k.nx τ' σ' G' H' RS' S' RG' q.2⟩
def compGo(guard:Gp->Prop)(g:TG3)(tc:TT3)(te:TE3)(Q:List D->Gp->Prop):List D->List D->S3->Gp->Prop
 |[],acc,τ,G=>guard G/\Q acc G
 |d::ds,acc,τ,G=>guard G/\g d τ G fun τ2 G2=>tc τ2 G2 fun b G3=>Br b (te τ2 G3 fun v G4=>compGo guard g tc te Q ds (acc++[v]) τ2 G4) (compGo guard g tc te Q ds acc τ2 G3)
def cmp3(own:List Str)(js:List Nat)(τ:S3):S3:=(own.map fun _=>none)++js.map fun j=>at3 τ j
def eComp(own:List Str)(js:List Nat)(ti:TI3)(g:TG3)(tc:TT3)(te:TE3):TE3:=fun τ G Q=>ti τ G fun S G1=>S.items.length≤sizeLine ∧
 compGo S.guard g tc te (fun ds G2=>∀p G3,New G2 p (.lst ds) G3->Q (.obj p) G3) S.items [] (cmp3 own js τ) G1
theorem qihz:∀(τ:S3) (i:Nat),at3 τ i=(τ[i]?).getD none
 |[],i=>by simp[at3]
 |x::r,0=>by simp[at3]
 |x::r,i+1=>by simp[at3,qihz r i]
theorem RepS.cmp{K:PySem.W.Frag}{τ:S3}{σ:L2.St}{H:Hp}(own:List Str)(js:List Nat)(R:RepS K τ σ H):RepS K (cmp3 own js τ) (cmpSt own js σ) H:=⟨by simp[cmp3,cmpSt],fun i d h=>by
 rw[qihz] at h;unfold cmp3 at h;by_cases hi:i<own.length
 ·rw[List.getElem?_append_left (by simpa using hi)] at h;rw[List.getElem?_map,List.getElem?_eq_getElem hi] at h;cases h
 ·rw[List.getElem?_append_right (by simpa using hi),List.getElem?_map] at h;simp only[List.length_map] at h;cases hj:js[i-own.length]? with
  |none=>rw[hj] at h;cases h
  |some j=>
   rw[hj] at h;have h':at3 τ j=some d:=h;obtain⟨v,e1,e2⟩:=R.at_ j d h';refine⟨v,?_,e2⟩;unfold cmpSt;rw[List.getElem?_append_right (by simpa using hi),List.getElem?_map];simp only[List.length_replicate,hj,Option.map_some,e1,Option.getD_some]⟩
def tNoTest3:TT3:=fun _ G Q=>Q true G
theorem qqfz:PCt X [] (lowT X.K tNoTest3):=fun pins s σ H Q I ⟨τ,G,Q3,RS,RG,h,k⟩=>qprz pins s σ H Q I (k true H G (.refl H G) RG h)
theorem qqgz{c:Expr}{t:TT3}(h:PT3 X c t):PCt X [c] (lowT X.K t):=qpsz h
theorem qiiz{K:PySem.W.Frag}{own:List Str}{js:List Nat}{ti:TI3}{g:TG3}{tc:TT3}{te:TE3}{σ:L2.St}{H:Hp}{Q:VK}(h:low K (eComp own js ti g tc te) σ H Q):tLc own js (lowI K ti) (lowG K g) (lowT K tc) (low K te) σ H Q:=by
 obtain⟨τ,G,Q3,RS,RG,h,k⟩:=h;refine⟨τ,G,_,RS,RG,h,fun J H1 S G1 ok S1 R1 q1=>?_⟩;obtain⟨hz,q1⟩:=q1;intro p hp;have hGp:G1 p=none:=R1.free hp;refine⟨fun i m ys σ' H'=>∃τ' G' acc,RepS K τ' σ' H'/\RepG K G' H'/\Step H G H' G'/\Ext H1 H'/\H' p=some (.lst ys)/\G' p=none/\Hvs K H' acc ys ∧
  compGo S.guard g tc te (fun ds G2=>∀p G3,New G2 p (.lst ds) G3->Q3 (.obj p) G3) (S.items.drop i) acc τ' G'/\m+i=S.items.length/\ys.length≤i,?_,?_⟩
 ·have E1:Ext H1 (upd H1 p (.lst [])):=.laid hp;exact⟨S.items.length,cmp3 own js τ,G1,[],((RS.ext (S1.ext RG)).cmp own js).ext E1,R1.laid hp,S1.trans (.laid hp),E1,qtz,hGp,.nil,by simpa using q1,by lia,Nat.zero_le _⟩
 rintro i m ys σ' H' ⟨τ',G',acc,RS',RG',S',E',hpl,hG',hacc,q,hm,hy⟩;refine⟨hpl,?_⟩;by_cases hlt:i<S.items.length
 ·have hd:S.items.drop i=S.items[i]::S.items.drop (i+1):=List.drop_eq_getElem_cons hlt;have hget:S.items[i]?=some S.items[i]:=List.getElem?_eq_getElem hlt;rw[hd] at q;obtain⟨hgd,q⟩:=q;obtain⟨z1,z2⟩:=ok.go i _ H' G' E' RG' hgd hget;refine .inr ⟨z1,by lia,fun x H2 hyl=>?_⟩;obtain⟨y1,y2,y3⟩:=z2 x H2 hyl
  -- what is not in G stays
  have keep:∀{Ha Hb:Hp} {Ga Gb:Gp},Step Ha Ga Hb Gb->Ha p=some (.lst ys)->Ga p=none->Hb p=some (.lst ys)/\Gb p=none:=fun {Ha Hb Ga Gb} st e n=>by
   refine⟨st.fr p _ e n,?_⟩;refine Classical.byContradiction fun z=>?_;rw[st.new p n z] at e;cases e
  obtain⟨p2,n2⟩:=keep y2 hpl hG';refine⟨S.items[i],τ',G',_,y1,RS'.ext (y2.ext RG'),y3,q,fun τ3 σ3 G3 H3 b1 b2 b3 b4=>?_⟩;obtain⟨p3,n3⟩:=keep b2 p2 n2;refine⟨τ3,G3,_,b1,b3,b4,fun bb H4 G4 c1 c2 c3=>?_⟩;obtain⟨p4,n4⟩:=keep c1 p3 n3;have E4:Ext H' H4:=((y2.ext RG').trans (b2.ext y3)).trans (c1.ext b3);have S4:Step H G H4 G4:=((S'.trans y2).trans b2).trans c1;have RS4:=b1.ext (c1.ext b3);refine Br.ite c3 (fun c3=>?_) fun c3=>?_
  ·refine⟨τ3,G4,_,RS4,c2,c3,fun v H5 d G5 e1 e2 e3 e4=>?_⟩;obtain⟨p5,n5⟩:=keep e2 p4 n4;refine⟨p5,m-1,by lia,τ3,G5,acc++[d],?_,?_,?_,?_,qtz,n5,?_,e4,by lia,by rw[List.length_append];simp;lia⟩
   ·exact (RS4.ext (e2.ext c2)).ext (.wrote p5)
   ·intro a o e;have hne:a≠p:=fun z=>by
     rw[z,n5] at e;cases e
    exact (e3 a o e).ext (.wrote p5) (qlz hne)
   ·refine⟨fun a o e n=>?_,fun a q=>?_,fun a n q=>((S4.trans e2).new a n q)⟩
    ·by_cases hne:a=p
     ·exfalso;rw[hne] at e n;have hh:=S1.fr p o e n;rw[hp] at hh;cases hh
     ·rw[qlz hne];exact (S4.trans e2).fr a o e n
    ·by_cases hne:a=p
     ·rw[hne,qtz];simp
     ·rw[qlz hne];exact (S4.trans e2).trk a q
   ·exact ((E'.trans E4).trans (e2.ext c2)).trans (.wrote p5)
   ·have E5:Ext H' (upd H5 p (.lst (ys++[v]))):=(E4.trans (e2.ext c2)).trans (.wrote p5);exact (hacc.ext E5).append (.cons (e1.ext (.wrote p5)) .nil)
  ·exact⟨m-1,by lia,τ3,G4,acc,RS4,c2,S4,E'.trans E4,p4,n4,hacc.ext E4,c3,by lia,by lia⟩
 ·have hd:S.items.drop i=[]:=List.drop_eq_nil_of_le (by lia);rw[hd] at q;refine .inl ⟨ok.stop i H' G' E' RG' q.1 (by lia),?_⟩;refine k _ H' (.obj p) (upd3 G' p (.lst acc)) (by simp[Hv]) ?_ ?_ (q.2 p _ (.mk' hG'))
  ·refine⟨S'.fr,S'.trk,fun a n z=>?_⟩;by_cases hne:a=p
   ·rw[hne];cases hh:H p with
    |none=>rfl
    |some o=>
     exfalso;rw[hne] at n;have:=S1.fr p o hh n;rw[hp] at this;cases this
   ·rw[qabz hne] at z;exact S'.new a n z
  ·intro a o e;by_cases hne:a=p
   ·rw[hne,qahz] at e;cases e;rw[hne];exact⟨ys,hpl,hacc⟩
   ·rw[qabz hne] at e;exact RG' a o e
theorem qqhz{elt:Expr}{ifs:List Expr}{scope:Scope}{own:List Str}{js:List Nat}{ti:TI3}{g:TG3}{tc:TT3}{te:TE3}(hc:X.calm=true)(C:CmpOk X.N X.env.scope scope own js)(hi:PI3 X tg iter ti)
  (hb:∀s H fp,PG3 (X.cmp scope own js s H fp) tg g/\PCt (X.cmp scope own js s H fp) ifs (lowT X.K tc)/\PE3 (X.cmp scope own js s H fp) elt te)
  (hs:∀x,foldedSetIterable iter X.env x=pure x:=by intro _;rfl):PE3 X (.ListComp elt [⟨tg,iter,ifs,0⟩] scope pos) (eComp own js ti g tc te):=
 qvz (qpuz hc C hi hb hs) fun σ H Q h=>qiiz h
theorem qqiz{elt:Expr}{ifs:List Expr}{scope:Scope}{own:List Str}{js:List Nat}{ti:TI3}{g:TG3}{tc:TT3}{te:TE3}{i:Nat}{y:Str}{py spos:Pos}(hc:X.calm=true)(hN:X.N.Nodup)(C:CmpOk X.N X.env.scope scope own js)(hi:PI3 X tg iter ti)
  (hb:∀s H fp,PG3 (X.cmp scope own js s H fp) tg g/\PCt (X.cmp scope own js s H fp) ifs (lowT X.K tc)/\PE3 (X.cmp scope own js s H fp) elt te) (hy:X.N[i]?=some y:=by rfl) (hyl:X.env.scope.names.lookup y=some .local:=by rfl)
  (hsw:swapsWith (.ListComp elt [⟨tg,iter,ifs,0⟩] scope pos) (some (.Name y py)) spos.line X.env=pure true:=by rfl)
  (hs:∀x,foldedSetIterable iter X.env x=pure x:=by intro _;rfl):PS3 X (.Assign [.Name y py] (.ListComp elt [⟨tg,iter,ifs,0⟩] scope pos) spos) (sAsg (eComp own js ti g tc te) (hName i)):=
 qakz (qpvz hc hN hy hyl C hi hb hsw hs) fun D2 σ H ⟨τ,G,D3,RS,RG,h,k⟩=>
  qiiz ⟨τ,G,_,RS,RG,h,fun v H1 d G1 h1 S1 R1 q1=>k.nx _ _ G1 H1 ((RS.ext (S1.ext RG)).set h1) S1 R1 q1⟩
theorem qqjz{guard:Gp->Prop}{g:TG3}{tb:TS3}{D3:Ends3}(I:List D->S3->Gp->Prop)(hg:∀ds τ G,I ds τ G->guard G)
  (step:∀d ds τ G,I (d::ds) τ G->g d τ G fun τ2 G2=>tb { D3 with nx:=I ds,ct:=I ds,bk:=D3.nx } τ2 G2) (hend:∀τ G,I [] τ G->D3.nx τ G)
  (mono:∀(N N':S3->Gp->Prop),(∀τ G,N τ G->N' τ G)->∀d τ G,(g d τ G fun τ2 G2=>tb { D3 with nx:=N,ct:=N,bk:=D3.nx } τ2 G2)->g d τ G fun τ2 G2=>tb { D3 with nx:=N',ct:=N',bk:=D3.nx } τ2 G2):
  ∀ds τ G,I ds τ G->forGo guard g tb D3 ds τ G
 |[],τ,G,h=>⟨hg _ _ _ h,hend _ _ h⟩
 |d::ds,τ,G,h=>⟨hg _ _ _ h,mono (I ds) _ (fun τ G q=>qqjz I hg step hend mono ds τ G q) d τ G (step d ds τ G h)⟩
theorem qarz{guard:Gp->Prop}{g:TG3}{tb:TS3}{D3:Ends3}(I:List D->S3->Gp->Prop)(hg:∀ds τ G,I ds τ G->guard G)
  (step:∀d ds τ G (N:S3->Gp->Prop),I (d::ds) τ G->(∀τ' G',I ds τ' G'->N τ' G')->g d τ G fun τ2 G2=>tb { D3 with nx:=N,ct:=N,bk:=D3.nx } τ2 G2) (hend:∀τ G,I [] τ G->D3.nx τ G):
  ∀ds τ G,I ds τ G->forGo guard g tb D3 ds τ G
 |[],τ,G,h=>⟨hg _ _ _ h,hend _ _ h⟩
 |d::ds,τ,G,h=>⟨hg _ _ _ h,step d ds τ G _ h fun τ' G' q=>qarz I hg step hend ds τ' G' q⟩
end
end L3
namespace Dat
open PySem PySem.SeqAt
inductive D where
 |non|bl (b:Bool)|int (i:Int)|str (x:Str)|tup (xs:List D)|lst (xs:List D)|dct
mutual
def D.eqb:D->D->Bool
 |.non,.non=>true
 |.bl a,.bl b=>a==b
 |.bl a,.int b=>(if a then 1 else 0)==b
 |.int a,.bl b=>a==(if b then 1 else 0)
 |.int a,.int b=>a==b
 |.str a,.str b=>a==b
 |.tup xs,.tup ys=>eqbs xs ys
 |.lst xs,.lst ys=>eqbs xs ys
 |_,_=>false
def eqbs:List D->List D->Bool
 |[],[]=>true
 |x::xs,y::ys=>x.eqb y&&eqbs xs ys
 |_,_=>false
end
mutual
def D.dep:D->Nat
 |.tup xs=>deps xs+1
 |.lst xs=>deps xs+1
 |_=>0
def deps:List D->Nat
 |[]=>0
 |x::xs=>max x.dep (deps xs)
end
theorem qblz{d:D}:∀{xs:List D},d∈xs->d.dep≤deps xs
 |x::xs,h=>by
  unfold deps;rcases List.mem_cons.mp h with e|e
  ·rw[e];exact Nat.le_max_left _ _
  ·exact Nat.le_trans (qblz e) (Nat.le_max_right _ _)
mutual
def Hv(h:Heap):D->Value->Prop
 |.non,u=>u=.none
 |.bl b,u=>u=.bool b
 |.int i,u=>∃t,u=.int i t
 |.str x,u=>∃t,u=.str x t
 |.tup ds,u=>∃(a:Addr) (its:List Value),u=.ref a/\h.IsTuple a its.toArray/\Hvs h ds its
 |.lst ds,u=>∃(a:Addr) (its:List Value),u=.ref a/\h.IsList a its.toArray/\Hvs h ds its
 |.dct,_=>False
def Hvs(h:Heap):List D->List Value->Prop
 |[],us=>us=[]
 |d::ds,us=>∃u r,us=u::r/\Hv h d u/\Hvs h ds r
end
theorem Hvs.length{h:Heap}:∀{ds:List D} {us:List Value},Hvs h ds us->us.length=ds.length
 |[],us,e=>by
  unfold Hvs at e;rw[e];rfl
 |d::ds,us,e=>by
  unfold Hvs at e;obtain⟨u,r,rfl,_,e2⟩:=e;rw[List.length_cons,List.length_cons,e2.length]
theorem Hvs.get{h:Heap}:∀{ds:List D} {us:List Value} {j:Nat} {d:D} {u:Value},Hvs h ds us->ds[j]?=some d->us[j]?=some u->Hv h d u
 |[],_,_,_,_,_,e,_=>by simp at e
 |d::ds,us,0,_,_,q,e1,e2=>by
  unfold Hvs at q;obtain⟨u,r,rfl,q1,_⟩:=q;simp at e1 e2;rw[←e1,←e2];exact q1
 |d::ds,us,j+1,_,_,q,e1,e2=>by
  unfold Hvs at q;obtain⟨u,r,rfl,_,q2⟩:=q;exact q2.get (j:=j) (by simpa using e1) (by simpa using e2)
theorem qijz{h:Heap}{a:Addr}{xs ys:Array Value}(hl:h.IsList a xs)(ht:h.IsTuple a ys):False:=by
 obtain⟨o,ho,hc,_⟩:=hl;obtain⟨o',ho',hc',_⟩:=ht;rw[ho] at ho';cases ho';rw[hc] at hc';exact absurd hc' (by decide)
mutual
theorem Hv.inj{h:Heap}:∀{d e:D} {u:Value},Hv h d u->Hv h e u->d=e
 |d,e,u,p,q=>by
  cases d with
  |non=>unfold Hv at p;subst p;cases e<;>unfold Hv at q<;>first|rfl|(simp at q)
  |bl b=>unfold Hv at p;subst p;cases e<;>unfold Hv at q<;>first|(simp at q;rw[q])|(simp at q)
  |int b=>unfold Hv at p;obtain⟨t,rfl⟩:=p;cases e<;>unfold Hv at q<;>first|(simp at q;rw[q])|(simp at q)
  |str b=>unfold Hv at p;obtain⟨t,rfl⟩:=p;cases e<;>unfold Hv at q<;>first|(simp at q;rw[q])|(simp at q)
  |dct=>unfold Hv at p;exact p.elim
  |tup ds=>
   unfold Hv at p;obtain⟨a,its,rfl,ha,p⟩:=p;cases e with
   |tup es=>
    unfold Hv at q;obtain⟨a',its',e1,ha',q⟩:=q;cases e1;have e2:its=its':=by
     obtain⟨o,ho,_,n,hd⟩:=ha;obtain⟨o',ho',_,n',hd'⟩:=ha';rw[ho] at ho';cases ho';rw[hd] at hd';injection hd' with e3 _
     simpa using congrArg Array.toList e3
    subst e2;rw[Hvs.inj p q]
   |lst es=>
    unfold Hv at q;obtain⟨a',its',e1,ha',q⟩:=q;cases e1;exact (qijz ha' ha).elim
   |_=>unfold Hv at q<;>simp at q
  |lst ds=>
   unfold Hv at p;obtain⟨a,its,rfl,ha,p⟩:=p;cases e with
   |lst es=>
    unfold Hv at q;obtain⟨a',its',e1,ha',q⟩:=q;cases e1;have e2:its=its':=by
     obtain⟨o,ho,_,n,hd⟩:=ha;obtain⟨o',ho',_,n',hd'⟩:=ha';rw[ho] at ho';cases ho';rw[hd] at hd';injection hd' with e3 _
     simpa using congrArg Array.toList e3
    subst e2;rw[Hvs.inj p q]
   |tup es=>
    unfold Hv at q;obtain⟨a',its',e1,ha',q⟩:=q;cases e1;exact (qijz ha ha').elim
   |_=>unfold Hv at q<;>simp at q
theorem Hvs.inj{h:Heap}:∀{ds es:List D} {us:List Value},Hvs h ds us->Hvs h es us->ds=es
 |[],[],_,_,_=>rfl
 |[],e::es,us,p,q=>by
  unfold Hvs at p q;subst p;obtain⟨_,_,e1,_⟩:=q;cases e1
 |d::ds,[],us,p,q=>by
  unfold Hvs at p q;subst q;obtain⟨_,_,e1,_⟩:=p;cases e1
 |d::ds,e::es,us,p,q=>by
  unfold Hvs at p q;obtain⟨u,r,rfl,p1,p2⟩:=p;obtain⟨u',r',e1,q1,q2⟩:=q;cases e1;rw[Hv.inj p1 q1,Hvs.inj p2 q2]
end
theorem qbmz:∀(ds es:List D),((List.range (min ds.length es.length)).all (fun j=>(ds.getD j .non).eqb (es.getD j .non))&&ds.length==es.length)=eqbs ds es
 |[],[]=>by simp[eqbs]
 |[],e::es=>by simp[eqbs]
 |d::ds,[]=>by simp[eqbs]
 |d::ds,e::es=>by
  have ih:=qbmz ds es;unfold eqbs;rw[←ih];rw[List.length_cons,List.length_cons,show min (ds.length+1) (es.length+1)=min ds.length es.length+1 by lia,List.range_succ_eq_map,List.all_cons,List.all_map];have e1:((ds.length+1==es.length+1):Bool)=(ds.length==es.length):=by simp
  rw[e1,Bool.and_assoc];rfl
theorem qdrz:∀(ds es:List D),ds.length≠es.length->eqbs ds es=false
 |[],[],h=>absurd rfl h
 |[],e::es,_=>rfl
 |d::ds,[],_=>rfl
 |d::ds,e::es,h=>by
  unfold eqbs;rw[qdrz ds es (by simpa using h),Bool.and_false]
mutual
theorem Hv.refl{h:Heap}:∀{d:D} {u:Value},Hv h d u->d.eqb d=true
 |.non,_,_=>rfl
 |.bl b,_,_=>by unfold D.eqb;simp
 |.int b,_,_=>by unfold D.eqb;simp
 |.str b,_,_=>by unfold D.eqb;simp
 |.dct,_,p=>by unfold Hv at p;exact p.elim
 |.tup ds,_,p=>by
  unfold Hv at p;obtain⟨_,_,_,_,p⟩:=p;unfold D.eqb;exact Hvs.refl p
 |.lst ds,_,p=>by
  unfold Hv at p;obtain⟨_,_,_,_,p⟩:=p;unfold D.eqb;exact Hvs.refl p
theorem Hvs.refl{h:Heap}:∀{ds:List D} {us:List Value},Hvs h ds us->eqbs ds ds=true
 |[],_,_=>rfl
 |d::ds,us,p=>by
  unfold Hvs at p;obtain⟨u,r,_,p1,p2⟩:=p;unfold eqbs;rw[Hv.refl p1,Hvs.refl p2];rfl
end
theorem qzz{h:Heap}{ds:List D}{us:List Value}(p:Hvs h ds us){j:Nat}(hj:j<us.toArray.size):Hv h (ds.getD j .non) (us.toArray[j])/\ds.getD j .non∈ds:=by
 have hl:=p.length;have hj':j<ds.length:=by simp at hj;lia
 have e1:ds[j]?=some (ds.getD j .non):=by simp[hj']
 exact⟨p.get e1 (by simp at hj;simp[hj]),List.mem_of_getElem? e1⟩
theorem eqAt{s:Shared}:∀(d e:D) (u v:Value) (A:Around),Hv s.heap d u->Hv s.heap e v->A.units+d.dep+1<cLine->EqAt A s u v (d.eqb e)
 |.non,.non,u,v,A,p1,p2,hu=>by
  unfold Hv at p1;subst p1;unfold Hv at p2;subst p2;exact EqAt.same _
 |.non,.bl b2,u,v,A,p1,p2,hu=>by
  unfold Hv at p1;subst p1;unfold Hv at p2;subst p2;exact EqAt.none_bool  b2
 |.non,.int b2,u,v,A,p1,p2,hu=>by
  unfold Hv at p1;subst p1;unfold Hv at p2;obtain⟨t2,rfl⟩:=p2;exact EqAt.none_int  b2 t2
 |.non,.str b2,u,v,A,p1,p2,hu=>by
  unfold Hv at p1;subst p1;unfold Hv at p2;obtain⟨t2,rfl⟩:=p2;exact EqAt.none_str  b2 t2
 |.non,.tup ds2,u,v,A,p1,p2,hu=>by
  unfold Hv at p1;subst p1;unfold Hv at p2;obtain⟨a2,its2,rfl,l2,p2⟩:=p2;exact EqAt.none_tuple  l2 (by lia)
 |.non,.lst ds2,u,v,A,p1,p2,hu=>by
  unfold Hv at p1;subst p1;unfold Hv at p2;obtain⟨a2,its2,rfl,l2,p2⟩:=p2;exact EqAt.none_list  l2 (by lia)
 |.bl b1,.non,u,v,A,p1,p2,hu=>by
  unfold Hv at p1;subst p1;unfold Hv at p2;subst p2;exact EqAt.bool_none b1
 |.bl b1,.bl b2,u,v,A,p1,p2,hu=>by
  unfold Hv at p1;subst p1;unfold Hv at p2;subst p2;exact EqAt.bool_bool b1 b2
 |.bl b1,.int b2,u,v,A,p1,p2,hu=>by
  unfold Hv at p1;subst p1;unfold Hv at p2;obtain⟨t2,rfl⟩:=p2;exact EqAt.bool_int b1 b2 t2
 |.bl b1,.str b2,u,v,A,p1,p2,hu=>by
  unfold Hv at p1;subst p1;unfold Hv at p2;obtain⟨t2,rfl⟩:=p2;exact EqAt.bool_str b1 b2 t2
 |.bl b1,.tup ds2,u,v,A,p1,p2,hu=>by
  unfold Hv at p1;subst p1;unfold Hv at p2;obtain⟨a2,its2,rfl,l2,p2⟩:=p2;exact EqAt.bool_tuple b1 l2 (by lia)
 |.bl b1,.lst ds2,u,v,A,p1,p2,hu=>by
  unfold Hv at p1;subst p1;unfold Hv at p2;obtain⟨a2,its2,rfl,l2,p2⟩:=p2;exact EqAt.bool_list b1 l2 (by lia)
 |.int b1,.non,u,v,A,p1,p2,hu=>by
  unfold Hv at p1;obtain⟨t1,rfl⟩:=p1;unfold Hv at p2;subst p2;exact EqAt.int_none b1 t1
 |.int b1,.bl b2,u,v,A,p1,p2,hu=>by
  unfold Hv at p1;obtain⟨t1,rfl⟩:=p1;unfold Hv at p2;subst p2;exact EqAt.int_bool b1 t1 b2
 |.int b1,.int b2,u,v,A,p1,p2,hu=>by
  unfold Hv at p1;obtain⟨t1,rfl⟩:=p1;unfold Hv at p2;obtain⟨t2,rfl⟩:=p2;exact EqAt.int_int b1 t1 b2 t2
 |.int b1,.str b2,u,v,A,p1,p2,hu=>by
  unfold Hv at p1;obtain⟨t1,rfl⟩:=p1;unfold Hv at p2;obtain⟨t2,rfl⟩:=p2;exact EqAt.int_str b1 t1 b2 t2
 |.int b1,.tup ds2,u,v,A,p1,p2,hu=>by
  unfold Hv at p1;obtain⟨t1,rfl⟩:=p1;unfold Hv at p2;obtain⟨a2,its2,rfl,l2,p2⟩:=p2;exact EqAt.int_tuple b1 t1 l2 (by lia)
 |.int b1,.lst ds2,u,v,A,p1,p2,hu=>by
  unfold Hv at p1;obtain⟨t1,rfl⟩:=p1;unfold Hv at p2;obtain⟨a2,its2,rfl,l2,p2⟩:=p2;exact EqAt.int_list b1 t1 l2 (by lia)
 |.str b1,.non,u,v,A,p1,p2,hu=>by
  unfold Hv at p1;obtain⟨t1,rfl⟩:=p1;unfold Hv at p2;subst p2;exact EqAt.str_none b1 t1
 |.str b1,.bl b2,u,v,A,p1,p2,hu=>by
  unfold Hv at p1;obtain⟨t1,rfl⟩:=p1;unfold Hv at p2;subst p2;exact EqAt.str_bool b1 t1 b2
 |.str b1,.int b2,u,v,A,p1,p2,hu=>by
  unfold Hv at p1;obtain⟨t1,rfl⟩:=p1;unfold Hv at p2;obtain⟨t2,rfl⟩:=p2;exact EqAt.str_int b1 t1 b2 t2
 |.str b1,.str b2,u,v,A,p1,p2,hu=>by
  unfold Hv at p1;obtain⟨t1,rfl⟩:=p1;unfold Hv at p2;obtain⟨t2,rfl⟩:=p2;exact EqAt.str_str b1 t1 b2 t2
 |.str b1,.tup ds2,u,v,A,p1,p2,hu=>by
  unfold Hv at p1;obtain⟨t1,rfl⟩:=p1;unfold Hv at p2;obtain⟨a2,its2,rfl,l2,p2⟩:=p2;exact EqAt.str_tuple b1 t1 l2 (by lia)
 |.str b1,.lst ds2,u,v,A,p1,p2,hu=>by
  unfold Hv at p1;obtain⟨t1,rfl⟩:=p1;unfold Hv at p2;obtain⟨a2,its2,rfl,l2,p2⟩:=p2;exact EqAt.str_list b1 t1 l2 (by lia)
 |.tup ds1,.non,u,v,A,p1,p2,hu=>by
  unfold Hv at p1;obtain⟨a1,its1,rfl,l1,p1⟩:=p1;unfold Hv at p2;subst p2;exact EqAt.tuple_none  l1 (by lia)
 |.tup ds1,.bl b2,u,v,A,p1,p2,hu=>by
  unfold Hv at p1;obtain⟨a1,its1,rfl,l1,p1⟩:=p1;unfold Hv at p2;subst p2;exact EqAt.tuple_bool b2 l1 (by lia)
 |.tup ds1,.int b2,u,v,A,p1,p2,hu=>by
  unfold Hv at p1;obtain⟨a1,its1,rfl,l1,p1⟩:=p1;unfold Hv at p2;obtain⟨t2,rfl⟩:=p2;exact EqAt.tuple_int b2 t2 l1 (by lia)
 |.tup ds1,.str b2,u,v,A,p1,p2,hu=>by
  unfold Hv at p1;obtain⟨a1,its1,rfl,l1,p1⟩:=p1;unfold Hv at p2;obtain⟨t2,rfl⟩:=p2;exact EqAt.tuple_str b2 t2 l1 (by lia)
 |.tup ds1,.tup ds2,u,v,A,p1,p2,hu=>by
  unfold Hv at p1;obtain⟨a1,its1,rfl,l1,p1⟩:=p1;unfold Hv at p2;obtain⟨a2,its2,rfl,l2,p2⟩:=p2;unfold D.eqb;by_cases ha:a1=a2
  ·subst ha;have e0:(.tup ds1:D)=.tup ds2:=Hv.inj (h:=s.heap) (u:=.ref a1) (by unfold Hv;exact⟨a1,its1,rfl,l1,p1⟩) (by unfold Hv;exact⟨a1,its2,rfl,l2,p2⟩);injection e0 with e0;subst e0;rw[p1.refl];exact EqAt.same _
  ·refine EqAt.of_refs ha ?_;have hdep:A.units+deps ds1+1+1<cLine:=by
    have e9:(.tup ds1:D).dep=deps ds1+1:=by first|rfl|(unfold D.dep;rfl)
    lia
   have q:=RcAt.tuples (e:=fun j=>(ds1.getD j .non).eqb (ds2.getD j .non)) l1 l2 (by lia) fun j h1 h2=>
    have m:=(qzz p1 h1).2
    eqAt (ds1.getD j .non) (ds2.getD j .non) _ _ A.in1 (qzz p1 h1).1 (qzz p2 h2).1 (by
     have:=qblz m;show A.units+1+_+1<cLine;lia)
   rw[List.size_toArray,List.size_toArray,p1.length,p2.length,qbmz] at q;exact q
 |.tup ds1,.lst ds2,u,v,A,p1,p2,hu=>by
  unfold Hv at p1;obtain⟨a1,its1,rfl,l1,p1⟩:=p1;unfold Hv at p2;obtain⟨a2,its2,rfl,l2,p2⟩:=p2;exact EqAt.tuple_list l1 l2 (by lia)
 |.lst ds1,.non,u,v,A,p1,p2,hu=>by
  unfold Hv at p1;obtain⟨a1,its1,rfl,l1,p1⟩:=p1;unfold Hv at p2;subst p2;exact EqAt.list_none  l1 (by lia)
 |.lst ds1,.bl b2,u,v,A,p1,p2,hu=>by
  unfold Hv at p1;obtain⟨a1,its1,rfl,l1,p1⟩:=p1;unfold Hv at p2;subst p2;exact EqAt.list_bool b2 l1 (by lia)
 |.lst ds1,.int b2,u,v,A,p1,p2,hu=>by
  unfold Hv at p1;obtain⟨a1,its1,rfl,l1,p1⟩:=p1;unfold Hv at p2;obtain⟨t2,rfl⟩:=p2;exact EqAt.list_int b2 t2 l1 (by lia)
 |.lst ds1,.str b2,u,v,A,p1,p2,hu=>by
  unfold Hv at p1;obtain⟨a1,its1,rfl,l1,p1⟩:=p1;unfold Hv at p2;obtain⟨t2,rfl⟩:=p2;exact EqAt.list_str b2 t2 l1 (by lia)
 |.lst ds1,.tup ds2,u,v,A,p1,p2,hu=>by
  unfold Hv at p1;obtain⟨a1,its1,rfl,l1,p1⟩:=p1;unfold Hv at p2;obtain⟨a2,its2,rfl,l2,p2⟩:=p2;exact EqAt.list_tuple l1 l2 (by lia)
 |.lst ds1,.lst ds2,u,v,A,p1,p2,hu=>by
  unfold Hv at p1;obtain⟨a1,its1,rfl,l1,p1⟩:=p1;unfold Hv at p2;obtain⟨a2,its2,rfl,l2,p2⟩:=p2;unfold D.eqb;by_cases ha:a1=a2
  ·subst ha;have e0:(.lst ds1:D)=.lst ds2:=Hv.inj (h:=s.heap) (u:=.ref a1) (by unfold Hv;exact⟨a1,its1,rfl,l1,p1⟩) (by unfold Hv;exact⟨a1,its2,rfl,l2,p2⟩);injection e0 with e0;subst e0;rw[p1.refl];exact EqAt.same _
  ·refine EqAt.of_refs ha ?_;have hdep:A.units+deps ds1+1+1<cLine:=by
    have e9:(.lst ds1:D).dep=deps ds1+1:=by first|rfl|(unfold D.dep;rfl)
    lia
   by_cases hn:ds1.length=ds2.length
   ·have q:=RcAt.lists (e:=fun j=>(ds1.getD j .non).eqb (ds2.getD j .non)) l1 l2 (by simp[p1.length,p2.length,hn]) (by lia) fun j h1 h2=>
     have m:=(qzz p1 h1).2
     eqAt (ds1.getD j .non) (ds2.getD j .non) _ _ A.in1 (qzz p1 h1).1 (qzz p2 h2).1 (by
      have:=qblz m;show A.units+1+_+1<cLine;lia)
    have q2:=qbmz ds1 ds2;rw[hn,Nat.min_self,beq_self_eq_true,Bool.and_true] at q2;rw[List.size_toArray,p1.length,hn,q2] at q;exact q
   ·rw[qdrz _ _ hn];exact RcAt.lists_lengths l1 l2 (by simp[p1.length,p2.length,hn]) (by lia)
 |.non,.dct,u,v,A,p1,p2,hu=>by
  unfold Hv at p2;exact p2.elim
 |.bl b1,.dct,u,v,A,p1,p2,hu=>by
  unfold Hv at p2;exact p2.elim
 |.int b1,.dct,u,v,A,p1,p2,hu=>by
  unfold Hv at p2;exact p2.elim
 |.str b1,.dct,u,v,A,p1,p2,hu=>by
  unfold Hv at p2;exact p2.elim
 |.tup ds1,.dct,u,v,A,p1,p2,hu=>by
  unfold Hv at p2;exact p2.elim
 |.lst ds1,.dct,u,v,A,p1,p2,hu=>by
  unfold Hv at p2;exact p2.elim
 |.dct,e,u,v,A,p1,p2,hu=>by
  unfold Hv at p1;exact p1.elim
termination_by d=>sizeOf d
decreasing_by
 all_goals (have:=List.sizeOf_lt_of_mem m;first|(rw[D.tup.sizeOf_spec];lia)|(rw[D.lst.sizeOf_spec];lia))
theorem rcAt{s:Shared}(d e:D)(u v:Value)(A:Around)(p1:Hv s.heap d u)(p2:Hv s.heap e v)(hu:A.units+d.dep+1<cLine):RcAt A s u v (d.eqb e):=
 match d,e,p1,p2,hu with
 |.non,.non,p1,p2,hu=>by
  unfold Hv at p1;subst p1;unfold Hv at p2;subst p2;exact RcAt.none_none
 |.non,.bl b2,p1,p2,hu=>by
  unfold Hv at p1;subst p1;unfold Hv at p2;subst p2;exact RcAt.none_bool  b2
 |.non,.int b2,p1,p2,hu=>by
  unfold Hv at p1;subst p1;unfold Hv at p2;obtain⟨t2,rfl⟩:=p2;exact RcAt.none_int  b2 t2
 |.non,.str b2,p1,p2,hu=>by
  unfold Hv at p1;subst p1;unfold Hv at p2;obtain⟨t2,rfl⟩:=p2;exact RcAt.none_str  b2 t2
 |.non,.tup ds2,p1,p2,hu=>by
  unfold Hv at p1;subst p1;unfold Hv at p2;obtain⟨a2,its2,rfl,l2,p2⟩:=p2;exact RcAt.none_tuple  l2 (by lia)
 |.non,.lst ds2,p1,p2,hu=>by
  unfold Hv at p1;subst p1;unfold Hv at p2;obtain⟨a2,its2,rfl,l2,p2⟩:=p2;exact RcAt.none_list  l2 (by lia)
 |.bl b1,.non,p1,p2,hu=>by
  unfold Hv at p1;subst p1;unfold Hv at p2;subst p2;exact RcAt.bool_none b1
 |.bl b1,.bl b2,p1,p2,hu=>by
  unfold Hv at p1;subst p1;unfold Hv at p2;subst p2;exact RcAt.bool_bool b1 b2
 |.bl b1,.int b2,p1,p2,hu=>by
  unfold Hv at p1;subst p1;unfold Hv at p2;obtain⟨t2,rfl⟩:=p2;exact RcAt.bool_int b1 b2 t2
 |.bl b1,.str b2,p1,p2,hu=>by
  unfold Hv at p1;subst p1;unfold Hv at p2;obtain⟨t2,rfl⟩:=p2;exact RcAt.bool_str b1 b2 t2
 |.bl b1,.tup ds2,p1,p2,hu=>by
  unfold Hv at p1;subst p1;unfold Hv at p2;obtain⟨a2,its2,rfl,l2,p2⟩:=p2;exact RcAt.bool_tuple b1 l2 (by lia)
 |.bl b1,.lst ds2,p1,p2,hu=>by
  unfold Hv at p1;subst p1;unfold Hv at p2;obtain⟨a2,its2,rfl,l2,p2⟩:=p2;exact RcAt.bool_list b1 l2 (by lia)
 |.int b1,.non,p1,p2,hu=>by
  unfold Hv at p1;obtain⟨t1,rfl⟩:=p1;unfold Hv at p2;subst p2;exact RcAt.int_none b1 t1
 |.int b1,.bl b2,p1,p2,hu=>by
  unfold Hv at p1;obtain⟨t1,rfl⟩:=p1;unfold Hv at p2;subst p2;exact RcAt.int_bool b1 t1 b2
 |.int b1,.int b2,p1,p2,hu=>by
  unfold Hv at p1;obtain⟨t1,rfl⟩:=p1;unfold Hv at p2;obtain⟨t2,rfl⟩:=p2;exact RcAt.int_int b1 t1 b2 t2
 |.int b1,.str b2,p1,p2,hu=>by
  unfold Hv at p1;obtain⟨t1,rfl⟩:=p1;unfold Hv at p2;obtain⟨t2,rfl⟩:=p2;exact RcAt.int_str b1 t1 b2 t2
 |.int b1,.tup ds2,p1,p2,hu=>by
  unfold Hv at p1;obtain⟨t1,rfl⟩:=p1;unfold Hv at p2;obtain⟨a2,its2,rfl,l2,p2⟩:=p2;exact RcAt.int_tuple b1 t1 l2 (by lia)
 |.int b1,.lst ds2,p1,p2,hu=>by
  unfold Hv at p1;obtain⟨t1,rfl⟩:=p1;unfold Hv at p2;obtain⟨a2,its2,rfl,l2,p2⟩:=p2;exact RcAt.int_list b1 t1 l2 (by lia)
 |.str b1,.non,p1,p2,hu=>by
  unfold Hv at p1;obtain⟨t1,rfl⟩:=p1;unfold Hv at p2;subst p2;exact RcAt.str_none b1 t1
 |.str b1,.bl b2,p1,p2,hu=>by
  unfold Hv at p1;obtain⟨t1,rfl⟩:=p1;unfold Hv at p2;subst p2;exact RcAt.str_bool b1 t1 b2
 |.str b1,.int b2,p1,p2,hu=>by
  unfold Hv at p1;obtain⟨t1,rfl⟩:=p1;unfold Hv at p2;obtain⟨t2,rfl⟩:=p2;exact RcAt.str_int b1 t1 b2 t2
 |.str b1,.str b2,p1,p2,hu=>by
  unfold Hv at p1;obtain⟨t1,rfl⟩:=p1;unfold Hv at p2;obtain⟨t2,rfl⟩:=p2;exact RcAt.str_str b1 t1 b2 t2
 |.str b1,.tup ds2,p1,p2,hu=>by
  unfold Hv at p1;obtain⟨t1,rfl⟩:=p1;unfold Hv at p2;obtain⟨a2,its2,rfl,l2,p2⟩:=p2;exact RcAt.str_tuple b1 t1 l2 (by lia)
 |.str b1,.lst ds2,p1,p2,hu=>by
  unfold Hv at p1;obtain⟨t1,rfl⟩:=p1;unfold Hv at p2;obtain⟨a2,its2,rfl,l2,p2⟩:=p2;exact RcAt.str_list b1 t1 l2 (by lia)
 |.tup ds1,.non,p1,p2,hu=>by
  unfold Hv at p1;obtain⟨a1,its1,rfl,l1,p1⟩:=p1;unfold Hv at p2;subst p2;exact RcAt.tuple_none  l1 (by lia)
 |.tup ds1,.bl b2,p1,p2,hu=>by
  unfold Hv at p1;obtain⟨a1,its1,rfl,l1,p1⟩:=p1;unfold Hv at p2;subst p2;exact RcAt.tuple_bool b2 l1 (by lia)
 |.tup ds1,.int b2,p1,p2,hu=>by
  unfold Hv at p1;obtain⟨a1,its1,rfl,l1,p1⟩:=p1;unfold Hv at p2;obtain⟨t2,rfl⟩:=p2;exact RcAt.tuple_int b2 t2 l1 (by lia)
 |.tup ds1,.str b2,p1,p2,hu=>by
  unfold Hv at p1;obtain⟨a1,its1,rfl,l1,p1⟩:=p1;unfold Hv at p2;obtain⟨t2,rfl⟩:=p2;exact RcAt.tuple_str b2 t2 l1 (by lia)
 |.tup ds1,.tup ds2,p1,p2,hu=>by
  unfold Hv at p1;obtain⟨a1,its1,rfl,l1,p1⟩:=p1;unfold Hv at p2;obtain⟨a2,its2,rfl,l2,p2⟩:=p2;unfold D.eqb;have hdep:A.units+deps ds1+1+1<cLine:=by
   have e9:(.tup ds1:D).dep=deps ds1+1:=by first|rfl|(unfold D.dep;rfl)
   lia
  have q:=RcAt.tuples (e:=fun j=>(ds1.getD j .non).eqb (ds2.getD j .non)) l1 l2 (by lia) fun j h1 h2=>
   eqAt (ds1.getD j .non) (ds2.getD j .non) _ _ A.in1 (qzz p1 h1).1 (qzz p2 h2).1 (by
    have:=qblz (qzz p1 h1).2;show A.units+1+_+1<cLine;lia)
  rw[List.size_toArray,List.size_toArray,p1.length,p2.length,qbmz] at q;exact q
 |.tup ds1,.lst ds2,p1,p2,hu=>by
  unfold Hv at p1;obtain⟨a1,its1,rfl,l1,p1⟩:=p1;unfold Hv at p2;obtain⟨a2,its2,rfl,l2,p2⟩:=p2;exact RcAt.tuple_list l1 l2 (by lia)
 |.lst ds1,.non,p1,p2,hu=>by
  unfold Hv at p1;obtain⟨a1,its1,rfl,l1,p1⟩:=p1;unfold Hv at p2;subst p2;exact RcAt.list_none  l1 (by lia)
 |.lst ds1,.bl b2,p1,p2,hu=>by
  unfold Hv at p1;obtain⟨a1,its1,rfl,l1,p1⟩:=p1;unfold Hv at p2;subst p2;exact RcAt.list_bool b2 l1 (by lia)
 |.lst ds1,.int b2,p1,p2,hu=>by
  unfold Hv at p1;obtain⟨a1,its1,rfl,l1,p1⟩:=p1;unfold Hv at p2;obtain⟨t2,rfl⟩:=p2;exact RcAt.list_int b2 t2 l1 (by lia)
 |.lst ds1,.str b2,p1,p2,hu=>by
  unfold Hv at p1;obtain⟨a1,its1,rfl,l1,p1⟩:=p1;unfold Hv at p2;obtain⟨t2,rfl⟩:=p2;exact RcAt.list_str b2 t2 l1 (by lia)
 |.lst ds1,.tup ds2,p1,p2,hu=>by
  unfold Hv at p1;obtain⟨a1,its1,rfl,l1,p1⟩:=p1;unfold Hv at p2;obtain⟨a2,its2,rfl,l2,p2⟩:=p2;exact RcAt.list_tuple l1 l2 (by lia)
 |.lst ds1,.lst ds2,p1,p2,hu=>by
  unfold Hv at p1;obtain⟨a1,its1,rfl,l1,p1⟩:=p1;unfold Hv at p2;obtain⟨a2,its2,rfl,l2,p2⟩:=p2;unfold D.eqb;have hdep:A.units+deps ds1+1+1<cLine:=by
   have e9:(.lst ds1:D).dep=deps ds1+1:=by first|rfl|(unfold D.dep;rfl)
   lia
  by_cases hn:ds1.length=ds2.length
  ·have q:=RcAt.lists (e:=fun j=>(ds1.getD j .non).eqb (ds2.getD j .non)) l1 l2 (by simp[p1.length,p2.length,hn]) (by lia) fun j h1 h2=>
    eqAt (ds1.getD j .non) (ds2.getD j .non) _ _ A.in1 (qzz p1 h1).1 (qzz p2 h2).1 (by
     have:=qblz (qzz p1 h1).2;show A.units+1+_+1<cLine;lia)
   have q2:=qbmz ds1 ds2;rw[hn,Nat.min_self,beq_self_eq_true,Bool.and_true] at q2;rw[List.size_toArray,p1.length,hn,q2] at q;exact q
  ·rw[qdrz _ _ hn];exact RcAt.lists_lengths l1 l2 (by simp[p1.length,p2.length,hn]) (by lia)
 |d,.dct,p1,p2,hu=>by
  unfold Hv at p2;exact p2.elim
 |.dct,e,p1,p2,hu=>by
  unfold Hv at p1;exact p1.elim
theorem rcNe{s:Shared}(d e:D)(u v:Value)(A:Around)(p1:Hv s.heap d u)(p2:Hv s.heap e v)(hu:A.units+d.dep+1<cLine):RcNeAt A s u v (!d.eqb e):=
 match d,e,p1,p2,hu with
 |.non,.non,p1,p2,hu=>by
  unfold Hv at p1;subst p1;unfold Hv at p2;subst p2;exact RcNeAt.none_none
 |.non,.bl b2,p1,p2,hu=>by
  unfold Hv at p1;subst p1;unfold Hv at p2;subst p2;exact RcNeAt.none_bool  b2
 |.non,.int b2,p1,p2,hu=>by
  unfold Hv at p1;subst p1;unfold Hv at p2;obtain⟨t2,rfl⟩:=p2;exact RcNeAt.none_int  b2 t2
 |.non,.str b2,p1,p2,hu=>by
  unfold Hv at p1;subst p1;unfold Hv at p2;obtain⟨t2,rfl⟩:=p2;exact RcNeAt.none_str  b2 t2
 |.non,.tup ds2,p1,p2,hu=>by
  unfold Hv at p1;subst p1;unfold Hv at p2;obtain⟨a2,its2,rfl,l2,p2⟩:=p2;exact RcNeAt.none_tuple  l2 (by lia)
 |.non,.lst ds2,p1,p2,hu=>by
  unfold Hv at p1;subst p1;unfold Hv at p2;obtain⟨a2,its2,rfl,l2,p2⟩:=p2;exact RcNeAt.none_list  l2 (by lia)
 |.bl b1,.non,p1,p2,hu=>by
  unfold Hv at p1;subst p1;unfold Hv at p2;subst p2;exact RcNeAt.bool_none b1
 |.bl b1,.bl b2,p1,p2,hu=>by
  unfold Hv at p1;subst p1;unfold Hv at p2;subst p2;exact RcNeAt.bool_bool b1 b2
 |.bl b1,.int b2,p1,p2,hu=>by
  unfold Hv at p1;subst p1;unfold Hv at p2;obtain⟨t2,rfl⟩:=p2;exact RcNeAt.bool_int b1 b2 t2
 |.bl b1,.str b2,p1,p2,hu=>by
  unfold Hv at p1;subst p1;unfold Hv at p2;obtain⟨t2,rfl⟩:=p2;exact RcNeAt.bool_str b1 b2 t2
 |.bl b1,.tup ds2,p1,p2,hu=>by
  unfold Hv at p1;subst p1;unfold Hv at p2;obtain⟨a2,its2,rfl,l2,p2⟩:=p2;exact RcNeAt.bool_tuple b1 l2 (by lia)
 |.bl b1,.lst ds2,p1,p2,hu=>by
  unfold Hv at p1;subst p1;unfold Hv at p2;obtain⟨a2,its2,rfl,l2,p2⟩:=p2;exact RcNeAt.bool_list b1 l2 (by lia)
 |.int b1,.non,p1,p2,hu=>by
  unfold Hv at p1;obtain⟨t1,rfl⟩:=p1;unfold Hv at p2;subst p2;exact RcNeAt.int_none b1 t1
 |.int b1,.bl b2,p1,p2,hu=>by
  unfold Hv at p1;obtain⟨t1,rfl⟩:=p1;unfold Hv at p2;subst p2;exact RcNeAt.int_bool b1 t1 b2
 |.int b1,.int b2,p1,p2,hu=>by
  unfold Hv at p1;obtain⟨t1,rfl⟩:=p1;unfold Hv at p2;obtain⟨t2,rfl⟩:=p2;exact RcNeAt.int_int b1 t1 b2 t2
 |.int b1,.str b2,p1,p2,hu=>by
  unfold Hv at p1;obtain⟨t1,rfl⟩:=p1;unfold Hv at p2;obtain⟨t2,rfl⟩:=p2;exact RcNeAt.int_str b1 t1 b2 t2
 |.int b1,.tup ds2,p1,p2,hu=>by
  unfold Hv at p1;obtain⟨t1,rfl⟩:=p1;unfold Hv at p2;obtain⟨a2,its2,rfl,l2,p2⟩:=p2;exact RcNeAt.int_tuple b1 t1 l2 (by lia)
 |.int b1,.lst ds2,p1,p2,hu=>by
  unfold Hv at p1;obtain⟨t1,rfl⟩:=p1;unfold Hv at p2;obtain⟨a2,its2,rfl,l2,p2⟩:=p2;exact RcNeAt.int_list b1 t1 l2 (by lia)
 |.str b1,.non,p1,p2,hu=>by
  unfold Hv at p1;obtain⟨t1,rfl⟩:=p1;unfold Hv at p2;subst p2;exact RcNeAt.str_none b1 t1
 |.str b1,.bl b2,p1,p2,hu=>by
  unfold Hv at p1;obtain⟨t1,rfl⟩:=p1;unfold Hv at p2;subst p2;exact RcNeAt.str_bool b1 t1 b2
 |.str b1,.int b2,p1,p2,hu=>by
  unfold Hv at p1;obtain⟨t1,rfl⟩:=p1;unfold Hv at p2;obtain⟨t2,rfl⟩:=p2;exact RcNeAt.str_int b1 t1 b2 t2
 |.str b1,.str b2,p1,p2,hu=>by
  unfold Hv at p1;obtain⟨t1,rfl⟩:=p1;unfold Hv at p2;obtain⟨t2,rfl⟩:=p2;exact RcNeAt.str_str b1 t1 b2 t2
 |.str b1,.tup ds2,p1,p2,hu=>by
  unfold Hv at p1;obtain⟨t1,rfl⟩:=p1;unfold Hv at p2;obtain⟨a2,its2,rfl,l2,p2⟩:=p2;exact RcNeAt.str_tuple b1 t1 l2 (by lia)
 |.str b1,.lst ds2,p1,p2,hu=>by
  unfold Hv at p1;obtain⟨t1,rfl⟩:=p1;unfold Hv at p2;obtain⟨a2,its2,rfl,l2,p2⟩:=p2;exact RcNeAt.str_list b1 t1 l2 (by lia)
 |.tup ds1,.non,p1,p2,hu=>by
  unfold Hv at p1;obtain⟨a1,its1,rfl,l1,p1⟩:=p1;unfold Hv at p2;subst p2;exact RcNeAt.tuple_none  l1 (by lia)
 |.tup ds1,.bl b2,p1,p2,hu=>by
  unfold Hv at p1;obtain⟨a1,its1,rfl,l1,p1⟩:=p1;unfold Hv at p2;subst p2;exact RcNeAt.tuple_bool b2 l1 (by lia)
 |.tup ds1,.int b2,p1,p2,hu=>by
  unfold Hv at p1;obtain⟨a1,its1,rfl,l1,p1⟩:=p1;unfold Hv at p2;obtain⟨t2,rfl⟩:=p2;exact RcNeAt.tuple_int b2 t2 l1 (by lia)
 |.tup ds1,.str b2,p1,p2,hu=>by
  unfold Hv at p1;obtain⟨a1,its1,rfl,l1,p1⟩:=p1;unfold Hv at p2;obtain⟨t2,rfl⟩:=p2;exact RcNeAt.tuple_str b2 t2 l1 (by lia)
 |.tup ds1,.tup ds2,p1,p2,hu=>by
  unfold Hv at p1;obtain⟨a1,its1,rfl,l1,p1⟩:=p1;unfold Hv at p2;obtain⟨a2,its2,rfl,l2,p2⟩:=p2;unfold D.eqb;have hdep:A.units+deps ds1+1+1<cLine:=by
   have e9:(.tup ds1:D).dep=deps ds1+1:=by first|rfl|(unfold D.dep;rfl)
   lia
  have q:=RcNeAt.tuples (e:=fun j=>(ds1.getD j .non).eqb (ds2.getD j .non)) l1 l2 (by lia) fun j h1 h2=>
   eqAt (ds1.getD j .non) (ds2.getD j .non) _ _ A.in1 (qzz p1 h1).1 (qzz p2 h2).1 (by
    have:=qblz (qzz p1 h1).2;show A.units+1+_+1<cLine;lia)
  rw[List.size_toArray,List.size_toArray,p1.length,p2.length,qbmz] at q;exact q
 |.tup ds1,.lst ds2,p1,p2,hu=>by
  unfold Hv at p1;obtain⟨a1,its1,rfl,l1,p1⟩:=p1;unfold Hv at p2;obtain⟨a2,its2,rfl,l2,p2⟩:=p2;exact RcNeAt.tuple_list l1 l2 (by lia)
 |.lst ds1,.non,p1,p2,hu=>by
  unfold Hv at p1;obtain⟨a1,its1,rfl,l1,p1⟩:=p1;unfold Hv at p2;subst p2;exact RcNeAt.list_none  l1 (by lia)
 |.lst ds1,.bl b2,p1,p2,hu=>by
  unfold Hv at p1;obtain⟨a1,its1,rfl,l1,p1⟩:=p1;unfold Hv at p2;subst p2;exact RcNeAt.list_bool b2 l1 (by lia)
 |.lst ds1,.int b2,p1,p2,hu=>by
  unfold Hv at p1;obtain⟨a1,its1,rfl,l1,p1⟩:=p1;unfold Hv at p2;obtain⟨t2,rfl⟩:=p2;exact RcNeAt.list_int b2 t2 l1 (by lia)
 |.lst ds1,.str b2,p1,p2,hu=>by
  unfold Hv at p1;obtain⟨a1,its1,rfl,l1,p1⟩:=p1;unfold Hv at p2;obtain⟨t2,rfl⟩:=p2;exact RcNeAt.list_str b2 t2 l1 (by lia)
 |.lst ds1,.tup ds2,p1,p2,hu=>by
  unfold Hv at p1;obtain⟨a1,its1,rfl,l1,p1⟩:=p1;unfold Hv at p2;obtain⟨a2,its2,rfl,l2,p2⟩:=p2;exact RcNeAt.list_tuple l1 l2 (by lia)
 |.lst ds1,.lst ds2,p1,p2,hu=>by
  unfold Hv at p1;obtain⟨a1,its1,rfl,l1,p1⟩:=p1;unfold Hv at p2;obtain⟨a2,its2,rfl,l2,p2⟩:=p2;unfold D.eqb;have hdep:A.units+deps ds1+1+1<cLine:=by
   have e9:(.lst ds1:D).dep=deps ds1+1:=by first|rfl|(unfold D.dep;rfl)
   lia
  by_cases hn:ds1.length=ds2.length
  ·have q:=RcNeAt.lists (e:=fun j=>(ds1.getD j .non).eqb (ds2.getD j .non)) l1 l2 (by simp[p1.length,p2.length,hn]) (by lia) fun j h1 h2=>
    eqAt (ds1.getD j .non) (ds2.getD j .non) _ _ A.in1 (qzz p1 h1).1 (qzz p2 h2).1 (by
     have:=qblz (qzz p1 h1).2;show A.units+1+_+1<cLine;lia)
   have q2:=qbmz ds1 ds2;rw[hn,Nat.min_self,beq_self_eq_true,Bool.and_true] at q2;rw[List.size_toArray,p1.length,hn,q2] at q;exact q
  ·rw[qdrz _ _ hn];exact RcNeAt.lists_lengths l1 l2 (by simp[p1.length,p2.length,hn]) (by lia)
 |d,.dct,p1,p2,hu=>by
  unfold Hv at p2;exact p2.elim
 |.dct,e,p1,p2,hu=>by
  unfold Hv at p1;exact p1.elim
end Dat
namespace L3
open PySem PySem.Spec PyProof.Rows L2
section
variable {X:Cx} {K:PySem.W.Frag}
def rI3(f:Int->Int->D):R3:=fun x y G Q=>match x,y with
 |.int i,.int j=>Q (f i j) G
 |_,_=>False
theorem qsz{H:Hp}{i:Int}{v:V}(h:Hv K H (.int i) v):v=.int i:=by unfold Hv at h;exact h
theorem qa2z{H:Hp}{i:Bool}{v:V}(h:Hv K H (.bl i) v):v=.bl i:=by unfold Hv at h;exact h
theorem qwz{H:Hp}{a:Addr}{v:V}(h:Hv K H (.obj a) v):v=.ref a:=by unfold Hv at h;exact h
theorem qalz{H:Hp}{ds:List D}{v:V}(h:Hv K H (.tup ds) v):∃a vs,v=.ref a/\SqT K H a vs/\Hvs K H ds vs:=by unfold Hv at h;exact h
theorem qbnz{H:Hp}{ds:List D}{v:V}(h:Hv K H (.scr ds) v):∃a vs,v=.ref a/\SqF K H a vs/\Hvs K H ds vs:=by unfold Hv at h;exact h
theorem q1z{H:Hp}{i:Int}:Hv K H (.int i) (.int i):=by simp[Hv]
theorem qacz{H:Hp}{i:Bool}:Hv K H (.bl i) (.bl i):=by simp[Hv]
theorem qb6z{H:Hp}{a:Addr}:Hv K H (.obj a) (.ref a):=by simp[Hv]
theorem qa3z{H:Hp}{ds:List D}{a:Addr}{vs:List V}(h:SqT K H a vs)(q:Hvs K H ds vs):Hv K H (.tup ds) (.ref a):=by
 unfold Hv;exact⟨a,vs,rfl,h,q⟩
theorem low_ints{f:Int->Int->D}{g:Int->Int->V}(hf:∀i j H,Hv K H (f i j) (g i j)):LowR K (rI3 f) (rI0 g):=fun x y vx vy G H Q3 Q hx hy RG h k=>by
 cases x with
 |int i=>
  cases y with
  |int j=>
   rw[qsz hx,qsz hy];exact⟨i,j,rfl,rfl,k _ H _ G (hf i j H) (.refl H G) RG h⟩
  |_=>exact h.elim
 |_=>exact h.elim
abbrev rSub3:R3:=rI3 fun i j=>.int (i-j)
theorem qe4z:LowR K rSub3 (rI0 fun i j=>.int (i-j)):=low_ints fun _ _ _=>q1z
abbrev rLe3:R3:=rI3 fun i j=>.bl (decide (i≤j))
theorem l_le:LowR K rLe3 (rI0 fun i j=>.bl (decide (i≤j))):=low_ints fun _ _ _=>qacz
abbrev rGt3:R3:=rI3 fun i j=>.bl (decide (j<i))
theorem l_gt:LowR K rGt3 (rI0 fun i j=>.bl (decide (j<i))):=low_ints fun _ _ _=>qacz
abbrev rGe3:R3:=rI3 fun i j=>.bl (decide (j≤i))
theorem l_ge:LowR K rGe3 (rI0 fun i j=>.bl (decide (j≤i))):=low_ints fun _ _ _=>qacz
def Big(i:Int):Prop:=i.natAbs<2^4000
theorem qikz{i:Int}(h:Big i):i.natAbs.log2<4000:=by
 by_cases h0:i.natAbs=0
 ·rw[h0];decide
 ·exact (Nat.log2_lt h0).mpr h
theorem qilz{i:Int}(h:Big i):Builtin.Int.intBits i≤4000:=by
 unfold Builtin.Int.intBits;split
 ·exact Nat.zero_le _
 ·exact qikz h
theorem qqkz{i j:Int}(h1:Big i)(h2:Big j):IntMulOk i j:=by
 unfold IntMulOk Builtin.Int.intTooBig;have b1:=qilz h1;have b2:=qilz h2;have:¬((Builtin.Int.intBits i:Int)+(Builtin.Int.intBits j:Int) > (bitsLine:Int)):=by
  have:(bitsLine:Int)=134217728:=by decide
  lia
 rw[decide_eq_false this];simp
theorem qb7z:OpR X (binaryOp .FloorDiv) (rI (fun _ j=>0<j/\Big j) fun i j=>.int (i / j)):=opI fun i j _ _ _ _ _ hc q=>by
 have h1:(0:Int)<j:=hc.1;exact floordiv_int (by lia) (by rw[Int.fdiv_eq_ediv_of_nonneg i (by lia)];exact q) (.inl (PyProof.noPylong_of_log2 (Nat.lt_trans (qikz hc.2) (by decide))))
theorem op_mulB:OpR X (binaryOp .Mult) (rI (fun i j=>Big i/\Big j) fun i j=>.int (i*j)):=opI fun _ _ _ _ _ _ _ hc q=>mul_int q (qqkz hc.1 hc.2)
def rIC3(C:Int->Int->Prop)(f:Int->Int->D):R3:=fun x y G Q=>match x,y with
 |.int i,.int j=>C i j/\Q (f i j) G
 |_,_=>False
theorem qe5z{C:Int->Int->Prop}{f:Int->Int->D}{g:Int->Int->V}(hf:∀i j H,Hv K H (f i j) (g i j)):LowR K (rIC3 C f) (rI C g):=fun x y vx vy G H Q3 Q hx hy RG h k=>by
 cases x with
 |int i=>
  cases y with
  |int j=>
   rw[qsz hx,qsz hy];exact⟨i,j,rfl,rfl,h.1,k _ H _ G (hf i j H) (.refl H G) RG h.2⟩
  |_=>exact h.elim
 |_=>exact h.elim
abbrev rDiv3:R3:=rIC3 (fun _ j=>0<j/\Big j) fun i j=>.int (i / j)
theorem qb8z:LowR K rDiv3 (rI (fun _ j=>0<j/\Big j) fun i j=>.int (i / j)):=qe5z fun _ _ _=>q1z
abbrev rMod3:R3:=rIC3 (fun _ j=>0<j) fun i j=>.int (i%j)
theorem qadz:LowR K rMod3 (rI (fun _ j=>0<j) fun i j=>.int (i%j)):=qe5z fun _ _ _=>q1z
abbrev rPow3:R3:=rIC3 CPow fun i j=>.int (i^j.toNat)
theorem qqlz:LowR K rPow3 (rI CPow fun i j=>.int (i^j.toNat)):=qe5z fun _ _ _=>q1z
theorem qqmz{prog:Program}{w:World}{A:Around}{E:Value->Shared->Prop}{s:Shared}{t b:Addr}{ws:List Value}{Q:Value->Shared->Prop}(ht:IsTup s.heap t #[])(hb:IsTup s.heap b ws.toArray)(h1:Q (.ref b) s):
  wpAny (model prog w) A (binaryOp .Add (.ref t) (.ref b)) Q E s:=by
 obtain⟨⟨cls,dd,data,sl⟩,ho,hc,n,hd⟩:=id ht;obtain⟨⟨cls2,dd2,data2,sl2⟩,ho2,hc2,n2,hd2⟩:=id hb;simp only at hc hd hc2 hd2;subst hc hd hc2 hd2;exact concat_meets ⟨_,ho,rfl⟩ ⟨_,ho2,rfl⟩ noFill_tuple_add seq_tuple_add PySem.F.slot_tuple_add PySem.F.entry_tuple_add (PySem.F.args_tuple_add_2 _ _)
   (tuple_addW0 t b #[] ws.toArray n n2 dd dd2 sl sl2 rfl) ⟨ho,ho2,h1⟩
def rCatT0(K:PySem.W.Frag):R2:=fun x y H Q=>∃a b ys,x=.ref a/\y=.ref b/\SqT K H a []/\SqT K H b ys/\Q (.ref b) H
theorem qqnz:OpR X (binaryOp .Add) (rCatT0 X.K):=by
 intro pins s σ H x y v u Q I rx ry h;obtain⟨a,b,ys,rfl,rfl,ha,hb,q⟩:=h;cases rx;cases ry;obtain⟨its,r1,p1,_⟩:=I.tuple ha;obtain⟨its2,r2,p2,_⟩:=I.tuple hb;cases r1;exact qqmz p1 p2 ⟨.ref b,H,I,rfl,q⟩
def rAdd3:R3:=fun x y G Q=>match x,y with
 |.int i,.int j=>Q (.int (i+j)) G
 |.obj a,.obj b=>∃ds es,G a=some (.lst ds)/\G b=some (.lst es)/\ds.length+es.length≤sizeLine/\∀p G',New G p (.lst (ds++es)) G'->Q (.obj p) G'
 |.tup ds,.tup es=>ds.length+es.length≤sizeLine/\Q (.tup (ds++es)) G
 |_,_=>False
abbrev rAdd2(K:PySem.W.Frag):R2:=fun x y H Q=>rI0 (fun i j=>.int (i+j)) x y H Q∨(rCat x y H Q∨(rCatT K x y H Q∨rCatT0 K x y H Q))
theorem q7z:OpR X (binaryOp .Add) (rAdd2 X.K):=op_add.or (op_cat.or (op_catT.or qqnz))
theorem q8z:LowR K rAdd3 (rAdd2 K):=fun x y vx vy G H Q3 Q hx hy RG h k=>by
 cases x with
 |int i=>
  cases y with
  |int j=>
   rw[qsz hx,qsz hy];exact .inl ⟨i,j,rfl,rfl,k _ H _ G q1z (.refl H G) RG h⟩
  |_=>exact h.elim
 |obj a=>
  cases y with
  |obj b=>
   rw[qwz hx,qwz hy];obtain⟨ds,es,e1,e2,hz,q⟩:=h;obtain⟨vs,z1,z2⟩:=RG a _ e1;obtain⟨us,y1,y2⟩:=RG b _ e2;refine .inr (.inl ⟨a,b,vs,us,rfl,rfl,z1,y1,by rw[←z2.length,←y2.length];exact hz,fun p hp=>?_⟩);exact k _ _ (.obj p) _ qb6z (.laidG hp) (RG.newL hp (z2.append y2)) (q p _ (.mk' (RG.free hp)))
  |_=>exact h.elim
 |tup ds=>
  cases y with
  |tup es=>
   obtain⟨a,vs,rfl,e1,e2⟩:=qalz hx;obtain⟨b,us,rfl,y1,y2⟩:=qalz hy;by_cases h0:vs=[]
   ·subst h0;have:ds=[]:=by
     have:=e2.length;exact List.eq_nil_of_length_eq_zero (by simpa using this)
    subst this;exact .inr (.inr (.inr ⟨a,b,us,rfl,rfl,e1,y1,k _ H (.tup es) G (qa3z y1 y2) (.refl H G) RG h.2⟩))
   ·refine .inr (.inr (.inl ⟨a,b,vs,us,rfl,rfl,e1,y1,h0,by rw[←e2.length,←y2.length];exact h.1,fun z=>?_,fun z p hp=>?_⟩))
    ·subst z;have:es=[]:=List.eq_nil_of_length_eq_zero (by simpa using y2.length);subst this;refine k _ H (.tup ds) G (qa3z e1 e2) (.refl H G) RG ?_;have:=h.2;rwa [List.append_nil] at this
    ·exact k _ _ (.tup (ds++es)) G (qa3z (.of qtz) ((e2.append y2).ext (.laid hp))) (.laid hp) (RG.laid hp) h.2
  |_=>exact h.elim
 |_=>exact h.elim
def rMul3:R3:=fun x y G Q=>match x,y with
 |.int i,.int j=>(Big i/\Big j)/\Q (.int (i*j)) G
 |.obj a,.int k=>∃ds,G a=some (.lst ds)/\(-(2^63)≤k/\k<2^63)/\ds.length*k.toNat≤sizeLine/\∀p G',New G p (.lst (List.replicate k.toNat ds).flatten) G'->Q (.obj p) G'
 |_,_=>False
abbrev rMul2:R2:=fun x y H Q=>rI (fun i j=>Big i/\Big j) (fun i j=>.int (i*j)) x y H Q∨rRep x y H Q
theorem qaez:OpR X (binaryOp .Mult) rMul2:=op_mulB.or qovz
theorem qafz:LowR K rMul3 rMul2:=fun x y vx vy G H Q3 Q hx hy RG h k=>by
 cases x with
 |int i=>
  cases y with
  |int j=>
   rw[qsz hx,qsz hy];exact .inl ⟨i,j,rfl,rfl,h.1,k _ H _ G q1z (.refl H G) RG h.2⟩
  |_=>exact h.elim
 |obj a=>
  cases y with
  |int j=>
   rw[qwz hx,qsz hy];obtain⟨ds,e1,hk,hz,q⟩:=h;obtain⟨vs,z1,z2⟩:=RG a _ e1;refine .inr ⟨a,j,vs,rfl,rfl,z1,hk.1,hk.2,by rw[←z2.length];exact hz,fun p hp=>?_⟩;exact k _ _ (.obj p) _ qb6z (.laidG hp) (RG.newL hp (z2.rep _)) (q p _ (.mk' (RG.free hp)))
  |_=>exact h.elim
 |_=>exact h.elim
def isNon:D->Bool
 |.non=>true
 |_=>false
def rIs3(neg:Bool):R3:=fun x y G Q=>match y with
 |.non=>Q (.bl (if neg then !isNon x else isNon x)) G
 |_=>False
theorem qqoz{H:Hp}{x:D}{v:V}(h:Hv K H x v):decide (v=.non)=isNon x:=by
 cases x with
 |non=>unfold Hv at h;subst h;rfl
 |bl b=>rw[qa2z h];rfl
 |int b=>rw[qsz h];rfl
 |str b=>unfold Hv at h;subst h;rfl
 |obj b=>rw[qwz h];rfl
 |tup ds=>obtain⟨a,vs,rfl,_⟩:=qalz h;rfl
 |scr ds=>obtain⟨a,vs,rfl,_⟩:=qbnz h;rfl
 |dc a=>unfold Hv at h;rw[h.1];rfl
theorem l_is:LowR K (rIs3 false) (fun x y H Q=>y=.non/\Q (.bl (decide (x=.non))) H):=fun x y vx vy G H Q3 Q hx hy RG h k=>by
 cases y with
 |non=>
  refine⟨by unfold Hv at hy;exact hy,?_⟩;rw[qqoz hx];exact k _ H _ G qacz (.refl H G) RG h
 |_=>exact h.elim
def intsOf:List D->Option (List Int)
 |[]=>some []
 |.int i::r=>(intsOf r).map (i::·)
 |_::_=>none
theorem qb9z{H:Hp}:∀{ds:List D} {vs:List V} {ns:List Int},Hvs K H ds vs->intsOf ds=some ns->vs=ns.map V.int
 |[],vs,ns,h,e=>by
  cases e;exact h.inv0
 |d::ds,vs,ns,h,e=>by
  cases d with
  |int i=>
   obtain⟨v,r,rfl,z1,z2⟩:=h.inv;unfold intsOf at e;cases hm:intsOf ds with
   |none=>rw[hm] at e;cases e
   |some ms=>
    rw[hm] at e;cases e;rw[qsz z1,qb9z z2 hm];rfl
  |_=>cases e
def rLtT3:R3:=fun x y G Q=>match x,y with
 |.int i,.int j=>Q (.bl (decide (i<j))) G
 |.tup ds,.tup es=>∃ns ms,intsOf ds=some ns/\intsOf es=some ms/\Q (.bl (HT.lexLt ns ms)) G
 |_,_=>False
abbrev rLtA(K:PySem.W.Frag):R2:=fun x y H Q=>rI0 (fun i j=>.bl (decide (i<j))) x y H Q∨rLtT K x y H Q
theorem qboz(hu:X.A.units<cLine):OpR X (compareOp .Lt) (rLtA X.K):=op_lt.or (qokz hu)
theorem qbpz:LowR K rLtT3 (rLtA K):=fun x y vx vy G H Q3 Q hx hy RG h k=>by
 cases x with
 |int i=>
  cases y with
  |int j=>
   rw[qsz hx,qsz hy];exact .inl ⟨i,j,rfl,rfl,k _ H _ G qacz (.refl H G) RG h⟩
  |_=>exact h.elim
 |tup ds=>
  cases y with
  |tup es=>
   obtain⟨a,vs,rfl,e1,e2⟩:=qalz hx;obtain⟨b,us,rfl,y1,y2⟩:=qalz hy;obtain⟨ns,ms,z1,z2,q⟩:=h;have q1:=qb9z e2 z1;have q2:=qb9z y2 z2;subst q1 q2;exact .inr ⟨a,b,ns,ms,rfl,rfl,e1,y1,k _ H _ G qacz (.refl H G) RG q⟩
  |_=>exact h.elim
 |_=>exact h.elim
def rIx3:R3:=fun x y G Q=>match x,y with
 |.tup ds,.int i=>∃d,atI ds i=some d/\Q d G
 |.scr ds,.int i=>∃d,atI ds i=some d/\Q d G
 |.obj p,.int i=>∃ds d,G p=some (.lst ds)/\atI ds i=some d/\Q d G
 |_,_=>False
theorem qcoz{H:Hp}{ds:List D}{vs:List V}{i:Int}{d:D}(h:Hvs K H ds vs)(e:atI ds i=some d):∃v,atI vs i=some v/\Hv K H d v:=by
 unfold atI at e ⊢;rw[←h.length];cases hx:ixN ds.length i with
 |none=>rw[hx] at e;cases e
 |some j=>
  rw[hx] at e;exact h.get e
theorem l_ix:LowR K rIx3 (rIx K):=fun x y vx vy G H Q3 Q hx hy RG h k=>by
 cases y with
 |int i=>
  rw[qsz hy];cases x with
  |tup ds=>
   obtain⟨d,e,q⟩:=h;obtain⟨a,vs,rfl,e1,e2⟩:=qalz hx;obtain⟨v,z1,z2⟩:=qcoz e2 e;exact .inr (.inl ⟨a,vs,i,v,rfl,rfl,e1,z1,k _ H d G z2 (.refl H G) RG q⟩)
  |scr ds=>
   obtain⟨d,e,q⟩:=h;obtain⟨a,vs,rfl,e1,e2⟩:=qbnz hx;obtain⟨v,z1,z2⟩:=qcoz e2 e;exact .inl ⟨a,vs,i,v,rfl,rfl,e1.l,z1,k _ H d G z2 (.refl H G) RG q⟩
  |obj p=>
   obtain⟨ds,d,e0,e,q⟩:=h;rw[qwz hx];obtain⟨vs,e1,e2⟩:=RG p _ e0;obtain⟨v,z1,z2⟩:=qcoz e2 e;exact .inl ⟨p,vs,i,v,rfl,rfl,.of e1,z1,k _ H d G z2 (.refl H G) RG q⟩
  |_=>exact h.elim
 |_=>cases x<;>exact h.elim
theorem e_ix{a b:Expr}{ta tb:TE3}{pos:Pos}(ha:PE3 X a ta)(hb:PE3 X b tb)(hs:PlainIx b:=by intro _ _;rfl):PE3 X (.Subscript a b pos) (eOp rIx3 ta tb):=qvz (qhxz qhyz ha hb hs) fun _ _ _ h=>qdmz l_ix h
def eLstIx(ta:TA3)(tb:TE3):TE3:=fun τ G Q=>ta τ G fun ds G1=>smallL (tb τ G1 fun y G2=>match y with
 |.int i=>∃d,atI ds i=some d/\Q d G2
 | _=>False) ds 64
theorem qqpz{es:List Expr}{b:Expr}{ta:TA3}{tb:TE3}{pos pos':Pos}(ha:PA3 X es ta)(hb:PE3 X b tb)(hs:PlainIx b:=by intro _ _;rfl):PE3 X (.Subscript (.List es pos') b pos) (eLstIx ta tb):=
 qvz (qhxz qhyz (qhnz ha) hb hs) fun σ H Q ⟨τ,G,Q3,RS,RG,h,k⟩=>by
  refine⟨τ,G,_,RS,RG,h,fun vs H1 ds G1 h1 S1 R1 q1=>?_⟩;obtain⟨z,q1⟩:=qdnz q1;refine⟨by rw[←h1.length];exact line64 z,fun p hp=>?_⟩;refine⟨τ,G1,_,(RS.ext (S1.ext RG)).ext (.laid hp),R1.laid hp,q1,fun v2 H2 d2 G2 h2 S2 R2 q2=>?_⟩;have e2:H2 p=some (.lst vs):=S2.fr p _ qtz (R1.free hp);cases d2 with
  |int i=>
   obtain⟨d,e,q⟩:=q2;obtain⟨v,z1,z2⟩:=qcoz ((h1.ext (.laid hp)).ext (S2.ext (R1.laid hp))) e;rw[qsz h2];exact .inl ⟨p,vs,i,v,rfl,rfl,.of e2,z1,k _ H2 d G2 z2 ((S1.trans (.laid hp)).trans S2) R2 q⟩
  |_=>exact q2.elim
end
end L3
namespace L3
open PySem PySem.Spec PyProof.Rows L2
mutual
def toDat0:D->Option Dat.D
 |.non=>some .non
 |.bl b=>some (.bl b)
 |.int i=>some (.int i)
 |.str x=>some (.str x)
 |.tup ds=>match toDats0 ds with
  |some xs=>some (.tup xs)
  |none=>none
 |.scr ds=>match toDats0 ds with
  |some xs=>some (.lst xs)
  |none=>none
 |.obj _=>none
 |.dc _=>none
def toDats0:List D->Option (List Dat.D)
 |[]=>some []
 |d::ds=>match toDat0 d with
  |some x=>match toDats0 ds with
   |some xs=>some (x::xs)
   |none=>none
  |none=>none
end
def toDat(G:Gp):D->Option Dat.D
 |.obj a=>match G a with
  |some (.lst ds)=>match toDats0 ds with
   |some xs=>some (.lst xs)
   |none=>none
  |_=>none
 |d=>toDat0 d
section
variable {X:Cx} {pins:List (Addr×Obj)} {σ:L2.St} {H:Hp} {s:Shared}
mutual
theorem qa9z(I:Inv X pins σ H s):∀{d:D} {v:V} {u:Value} {x:Dat.D},Hv X.K H d v->RelV v u->toDat0 d=some x->Dat.Hv s.heap x u
 |.non,v,u,x,h,r,e=>by
  unfold Hv at h;subst h;cases e;unfold Dat.Hv;exact r
 |.bl b,v,u,x,h,r,e=>by
  unfold Hv at h;subst h;cases e;unfold Dat.Hv;exact r
 |.int b,v,u,x,h,r,e=>by
  unfold Hv at h;subst h;cases e;unfold Dat.Hv;exact r
 |.str b,v,u,x,h,r,e=>by
  unfold Hv at h;subst h;cases e;unfold Dat.Hv;exact r
 |.obj a,v,u,x,h,r,e=>by cases e
 |.dc a,v,u,x,h,r,e=>by cases e
 |.tup ds,v,u,x,h,r,e=>by
  obtain⟨a,vs,rfl,q1,q2⟩:=qalz h;cases r;unfold toDat0 at e;cases hd:toDats0 ds with
  |none=>rw[hd] at e;cases e
  |some xs=>
   rw[hd] at e;cases e;obtain⟨its,rv,p,_⟩:=I.tuple q1;unfold Dat.Hv;exact⟨a,its,rfl,p,qdsz I q2 rv hd⟩
 |.scr ds,v,u,x,h,r,e=>by
  obtain⟨a,vs,rfl,q1,q2⟩:=qbnz h;cases r;unfold toDat0 at e;cases hd:toDats0 ds with
  |none=>rw[hd] at e;cases e
  |some xs=>
   rw[hd] at e;cases e;obtain⟨its,rv,p,_⟩:=I.list q1.l;unfold Dat.Hv;exact⟨a,its,rfl,p.isList,qdsz I q2 rv hd⟩
theorem qdsz(I:Inv X pins σ H s):∀{ds:List D} {vs:List V} {us:List Value} {xs:List Dat.D},Hvs X.K H ds vs->Vals vs us->toDats0 ds=some xs->Dat.Hvs s.heap xs us
 |[],vs,us,xs,h,r,e=>by
  cases h.inv0;cases r;cases e;unfold Dat.Hvs;rfl
 |d::ds,vs,us,xs,h,r,e=>by
  obtain⟨v,vr,rfl,q1,q2⟩:=h.inv;unfold toDats0 at e;cases hd:toDat0 d with
  |none=>rw[hd] at e;cases e
  |some x=>
   rw[hd] at e;cases hr:toDats0 ds with
   |none=>rw[hr] at e;cases e
   |some xr=>
    rw[hr] at e;cases e;cases r with
    |cons r1 r2=>
     unfold Dat.Hvs;exact⟨_,_,rfl,qa9z I q1 r1 hd,qdsz I q2 r2 hr⟩
end
theorem qdtz{G:Gp}(I:Inv X pins σ H s)(RG:RepG X.K G H){d:D}{v:V}{u:Value}{x:Dat.D}(h:Hv X.K H d v)(r:RelV v u)(e:toDat G d=some x):Dat.Hv s.heap x u:=by
 cases d with
 |obj a=>
  rw[qwz h] at r;cases r;unfold toDat at e;cases hG:G a with
  |none=>simp[hG] at e
  |some o=>
   cases o with
   |lst ds=>
    simp only[hG] at e;cases hr:toDats0 ds with
    |none=>rw[hr] at e;cases e
    |some xs=>
     rw[hr] at e;cases e;obtain⟨vs,e1,e2⟩:=RG a _ hG;obtain⟨its,rv,p,_⟩:=I.list (SqL.of e1);unfold Dat.Hv;exact⟨a,its,rfl,p.isList,qdsz I e2 rv hr⟩
   |pen=>simp[hG] at e
   |dct=>simp[hG] at e
   |gen R=>simp[hG] at e
 |non=>exact qa9z I h r e
 |bl _=>exact qa9z I h r e
 |int _=>exact qa9z I h r e
 |str _=>exact qa9z I h r e
 |tup _=>exact qa9z I h r e
 |scr _=>exact qa9z I h r e
 |dc _=>exact qa9z I h r e
end
section
variable {X:Cx} {a b e:Expr} {ta tb:TE3} {pos:Pos}
def rEq3(neg:Bool):R3:=fun x y G Q=>∃u v,toDat G x=some u/\toDat G y=some v/\u.dep≤50/\Q (.bl (if neg then !u.eqb v else u.eqb v)) G
def CmpR(X:Cx)(f:Value->Value->Sem Value)(r:R3):Prop:=
 ∀(pins:List (Addr×Obj)) (s:Shared) (σ:L2.St) (H:Hp) (G:Gp) (x y:D) (vx vy:V) (u v:Value) (Q3:V3),Inv X pins σ H s->RepG X.K G H->Hv X.K H x vx->Hv X.K H y vy->RelV vx u->RelV vy v->r x y G Q3 ->
  wpAny (model X.prog X.w) X.A (f u v) (EP X pins σ fun w H'=>∃d G',Hv X.K H' d w/\Step H G H' G'/\RepG X.K G' H'/\Q3 d G') X.xe s
theorem eqR(hu:X.A.units+64<cLine):CmpR X (compareOp .Eq) (rEq3 false):=by
 intro pins s σ H G x y vx vy u v Q3 I RG hx hy rx ry ⟨p,q,e1,e2,hd,h⟩;have:=Dat.rcAt p q u v X.A (qdtz I RG hx rx e1) (qdtz I RG hy ry e2) (by lia);exact this _ _ _ _ ⟨.bl (p.eqb q),H,I,rfl,.bl (p.eqb q),G,qacz,.refl H G,RG,h⟩
theorem neR(hu:X.A.units+64<cLine):CmpR X (compareOp .NotEq) (rEq3 true):=by
 intro pins s σ H G x y vx vy u v Q3 I RG hx hy rx ry ⟨p,q,e1,e2,hd,h⟩;have:=Dat.rcNe p q u v X.A (qdtz I RG hx rx e1) (qdtz I RG hy ry e2) (by lia);exact this _ _ _ _ ⟨.bl (!p.eqb q),H,I,rfl,.bl (!p.eqb q),G,qacz,.refl H G,RG,h⟩
def cmpR2(K:PySem.W.Frag)(r:R3):R2:=fun vx vy H Q=>∃x y G Q3,RepG K G H/\Hv K H x vx/\Hv K H y vy/\r x y G Q3/\∀v H' d G',Hv K H' d v->Step H G H' G'->RepG K G' H'->Q3 d G'->Q v H'
theorem CmpR.op{f:Value->Value->Sem Value}{r:R3}(h:CmpR X f r):OpR X f (cmpR2 X.K r):=by
 intro pins s σ H vx vy u v Q I rx ry ⟨x,y,G,Q3,RG,hx,hy,q,k⟩;refine thn (h pins s σ H G x y vx vy u v Q3 I RG hx hy rx ry q) fun w s' ⟨v',H',I',r',d,G',z1,z2,z3,z4⟩=>⟨v',H',I',r',k v' H' d G' z1 z2 z3 z4⟩
theorem qimz{K:PySem.W.Frag}{r:R3}:LowR K r (cmpR2 K r):=fun x y vx vy G H Q3 Q hx hy RG h k=>⟨x,y,G,Q3,RG,hx,hy,h,k⟩
theorem q2z(hu:X.A.units+64<cLine):OpR X (compareOp .Eq) (cmpR2 X.K (rEq3 false)):=(eqR hu).op
theorem qavz(hu:X.A.units+64<cLine):OpR X (compareOp .NotEq) (cmpR2 X.K (rEq3 true)):=(neR hu).op
theorem l_eq{K:PySem.W.Frag}:LowR K (rEq3 false) (cmpR2 K (rEq3 false)):=qimz
theorem l_ne{K:PySem.W.Frag}:LowR K (rEq3 true) (cmpR2 K (rEq3 true)):=qimz
abbrev TO3:=S3->Gp->(Option Int->Gp->Prop)->Prop
def lowO(K:PySem.W.Frag)(t:TO3):TO:=fun σ H Q=>∃τ G Q3,RepS K τ σ H/\RepG K G H/\t τ G Q3/\∀o H' G',Step H G H' G'->RepG K G' H'->Q3 o G'->Q o H'
abbrev PO3(X:Cx)(e:Option Expr)(t:TO3):Prop:=PO X e (lowO X.K t)
theorem qinz{o:Option Expr}{t t':TO}(h:PO X o t)(f:∀σ H Q,t' σ H Q->t σ H Q):PO X o t':=fun pins s σ H Q I q=>h pins s σ H Q I (f σ H Q q)
def oNone:TO3:=fun _ G Q=>Q none G
def oSome(t:TE3):TO3:=fun τ G Q=>t τ G fun x G1=>match x with
 |.int i=>Q (some i) G1
 |_=>False
theorem qqqz:PO3 X none oNone:=qinz qohz fun σ H Q ⟨τ,G,Q3,RS,RG,h,k⟩=>k none H G (.refl H G) RG h
theorem qqrz(h:PE3 X e ta):PO3 X (some e) (oSome ta):=qinz (qoiz h) fun σ H Q ⟨τ,G,Q3,RS,RG,h,k⟩=>
 ⟨τ,G,_,RS,RG,h,fun v H1 d G1 h1 S1 R1 q1=>by
  cases d with
  |int i=>exact⟨i,qsz h1,k (some i) H1 G1 S1 R1 q1⟩
  |_=>exact q1.elim⟩
def cut3(ds:List D)(lo hi:Option Int):List D:=(ds.drop (HT.sIx ds.length 0 lo)).take (HT.sIx ds.length ds.length hi-HT.sIx ds.length 0 lo)
def eSl(ta:TE3)(tl th:TO3):TE3:=fun τ G Q=>ta τ G fun x G1=>tl τ G1 fun lo G2=>th τ G2 fun hi G3=>match x with
 |.tup ds=>Q (.tup (cut3 ds lo hi)) G3
 |.scr ds=>∀p G4,New G3 p (.lst (cut3 ds lo hi)) G4->Q (.obj p) G4
 |.obj a=>∃ds,G3 a=some (.lst ds)/\∀p G4,New G3 p (.lst (cut3 ds lo hi)) G4->Q (.obj p) G4
 |_=>False
theorem qe6z{K:PySem.W.Frag}{H:Hp}{ds:List D}{vs:List V}(h:Hvs K H ds vs)(lo hi:Option Int):Hvs K H (cut3 ds lo hi) (cutV vs lo hi):=by
 unfold cut3 cutV;rw[h.length];exact (h.drop _).take _
theorem qqsz{prog:Program}{w:World}{A:Around}{E:Value->Shared->Prop}{s:Shared}{t sl:Addr}{items:Array Value}{vl vu:Value}{lo hi:Option Int}{Q:Value->Shared->Prop}(ht:IsTup s.heap t items)(hs:s.heap.IsSliceOf sl vl vu .none)(pl:IsPart vl lo)(pu:IsPart vu hi)
  (hw:HT.sIx items.size 0 lo=0/\HT.sIx items.size items.size hi=items.size) (h:Q (.ref t) s):wpAny (model prog w) A (getItem (.ref t) (.ref sl)) Q E s:=by
 obtain⟨os,hos,hcs,hds⟩:=id hs;have hTs:s.TypeIs (.ref sl) "slice":=⟨os,hos,hcs⟩;unfold getItem
 try with_reducible refine wpAny_holding ?_
 first|refine wpAny_bind (wpAny_pure ?_)|skip
 refine wpAny_bind (wpAny_sequenceKey ht.typeIs (by decide) ?_);refine wpAny_bind (wpAny_callSpecial?_slot (name:=Str.ofString "__getitem__") ht.typeIs PyProof.Rows.slot_tuple_getitem
  (wpAny_call_entry PyProof.Rows.slot_tuple_getitem ht.typeIs entry_tuple_getitem ?_ (args_tuple_getitem _ _)))
 show wpAny _ _ (Builtin.Tuple.tupleItemsOf (.ref t) >>= _) _ _ s;refine wpAny_bind (tupleItemsOf_ ht ?_);refine wpAny_bind (wpAny_typeOf hTs ?_);rw[if_pos (by decide)];refine wpAny_bind (HT.sliceApplied_gen hs pl pu ?_);have hyes:(((HT.sIx items.size 0 lo:Nat):Int)==0&&(1:Int)==1&&(HT.sIx items.size items.size hi-HT.sIx items.size 0 lo)==items.size)=true:=by
  rw[hw.1,hw.2];simp
 show wpAny _ _ (if (((HT.sIx items.size 0 lo:Nat):Int)==0&&(1:Int)==1&&(HT.sIx items.size items.size hi-HT.sIx items.size 0 lo)==items.size)=true then _ else _) _ _ s;rw[if_pos hyes];unfold Builtin.Tuple.tupleIsExact;refine wpAny_bind (wpAny_bind (wpAny_typeOf ht.typeIs (wpAny_pure ?_)));rw[if_pos (by decide)];exact wpAny_bind (wpAny_rule (wpAny_pure ⟨_,rfl,wpAny_pure h⟩))
def rSlT3(K:PySem.W.Frag):V->Option Int->Option Int->Hp->VK->Prop:=fun x lo hi H Q=>∃a xs,x=.ref a/\SqT K H a xs ∧
 (HT.sIx xs.length 0 lo=0/\HT.sIx xs.length xs.length hi=xs.length)/\Q (.ref a) H
theorem sl_tupW:SlR X (rSlT3 X.K):=by
 intro pins s σ H x v vl vu lo hi sl Q I rx hs pl pu h;obtain⟨a,xs,rfl,hx,hw,q⟩:=h;cases rx;obtain⟨its,r,ht,hz⟩:=I.tuple hx;have hlen:its.toArray.size=xs.length:=by rw[List.size_toArray];exact r.length.symm
 refine⟨"tuple",_,PyProof.Rows.slot_tuple_getitem.lookup,ht.typeIs,?_⟩;exact qqsz ht hs pl pu (by rw[hlen];exact hw) ⟨.ref a,H,I,rfl,q⟩
theorem e_sl{lo hi:Option Expr}{tl th:TO3}{p2:Pos}(ha:PE3 X a ta)(hl:PO3 X lo tl)(hh:PO3 X hi th):PE3 X (.Subscript a (.Slice lo hi none p2) pos) (eSl ta tl th):=
 qvz (qojz (sl_tup.or (sl_tupW.or qopz)) ha hl hh) fun σ H Q ⟨τ,G,Q3,RS,RG,h,k⟩=>by
  refine⟨τ,G,_,RS,RG,h,fun v1 H1 d1 G1 h1 S1 R1 q1=>?_⟩;have RS1:=RS.ext (S1.ext RG);refine⟨τ,G1,_,RS1,R1,q1,fun l H2 G2 S2 R2 q2=>?_⟩;have RS2:=RS1.ext (S2.ext R1);refine⟨τ,G2,_,RS2,R2,q2,fun u H3 G3 S3 R3 q3=>?_⟩;have S13:Step H G H3 G3:=(S1.trans S2).trans S3;have hv:=(h1.ext (S2.ext R1)).ext (S3.ext R2);cases d1 with
  |tup ds=>
   obtain⟨a',vs,rfl,e1,e2⟩:=qalz hv;by_cases hw:HT.sIx vs.length 0 l=0/\HT.sIx vs.length vs.length u=vs.length
   ·refine .inr (.inl ⟨a',vs,rfl,e1,hw,k _ H3 (.tup (cut3 ds l u)) G3 (qa3z e1 ?_) S13 R3 q3⟩);have:cut3 ds l u=ds:=by
     unfold cut3;rw[e2.length,hw.1,hw.2];simp[←e2.length]
    rw[this];exact e2
   ·refine .inl ⟨a',vs,rfl,e1,hw,fun p hp=>?_⟩;exact k _ _ (.tup (cut3 ds l u)) G3 (qa3z (.of qtz) ((qe6z e2 l u).ext (.laid hp))) (S13.trans (.laid hp)) (R3.laid hp) q3
  |scr ds=>
   obtain⟨a',vs,rfl,e1,e2⟩:=qbnz hv;refine .inr (.inr ⟨a',vs,rfl,e1.l,fun p hp=>?_⟩);exact k _ _ (.obj p) _ qb6z (S13.trans (.laidG hp)) (R3.newL hp (qe6z e2 l u)) (q3 p _ (.mk' (R3.free hp)))
  |obj a'=>
   rw[qwz hv];obtain⟨ds,e0,q3⟩:=q3;obtain⟨vs,e1,e2⟩:=R3 a' _ e0;refine .inr (.inr ⟨a',vs,rfl,.of e1,fun p hp=>?_⟩);exact k _ _ (.obj p) _ qb6z (S13.trans (.laidG hp)) (R3.newL hp (qe6z e2 l u)) (q3 p _ (.mk' (R3.free hp)))
  |_=>exact q3.elim
end
end L3
namespace L3
open PySem PySem.Spec PyProof.Rows L2
abbrev C3:=List D->Gp->V3->Prop
def eCB(r:C3)(t:TA3):TE3:=fun τ G Q=>t τ G fun ds G1=>r ds G1 Q
def LowC(K:PySem.W.Frag)(r:C3)(r2:List V->Hp->VK->Prop):Prop:=∀ds vs G H Q3 Q,Hvs K H ds vs->RepG K G H->r ds G Q3->(∀v H' d G',Hv K H' d v->Step H G H' G'->RepG K G' H'->Q3 d G'->Q v H')->r2 vs H Q
section
variable {X:Cx} {K:PySem.W.Frag} {e:Expr} {es:List Expr} {t:TA3} {ta:TE3} {pos p:Pos}
theorem qqtz{r:C3}{r2:List V->Hp->VK->Prop}(L:LowC K r r2){σ:L2.St}{H:Hp}{Q:VK}(h:low K (eCB r t) σ H Q):tCB r2 (lowA K t) σ H Q:=by
 obtain⟨τ,G,Q3,RS,RG,h,k⟩:=h;refine⟨τ,G,_,RS,RG,h,fun vs H1 ds G1 h1 S1 R1 q1=>?_⟩;exact L _ _ _ _ _ _ h1 R1 q1 fun v H' d G' z1 z2 z3 z4=>k v H' d G' z1 (S1.trans z2) z3 z4
theorem e_cb{r:C3}{r2:List V->Hp->VK->Prop}(L:LowC X.K r r2)(h:PE X e (tCB r2 (lowA X.K t))):PE3 X e (eCB r t):=qvz h fun _ _ _ h=>qqtz L h
theorem hvs1{H:Hp}{d:D}{vs:List V}(h:Hvs K H [d] vs):∃v,vs=[v]/\Hv K H d v:=by
 obtain⟨v,r,rfl,z1,z2⟩:=h.inv;cases z2.inv0;exact⟨v,rfl,z1⟩
theorem hvs2{H:Hp}{d d':D}{vs:List V}(h:Hvs K H [d,d'] vs):∃v v',vs=[v,v']/\Hv K H d v/\Hv K H d' v':=by
 obtain⟨v,r,rfl,z1,z2⟩:=h.inv;obtain⟨v',rfl,z3⟩:=hvs1 z2;exact⟨v,v',rfl,z1,z3⟩
def q0z:C3:=fun ds G Q=>match ds with
 |[.obj a]=>∃xs,G a=some (.lst xs)/\Q (.int xs.length) G
 |[.tup xs]=>Q (.int xs.length) G
 |[.scr xs]=>Q (.int xs.length) G
 |_=>False
theorem qquz:LowC K q0z (fun xs H Q=>∃p ys,xs=[.ref p]/\(SqL K H p ys∨SqT K H p ys)/\Q (.int ys.length) H):=fun ds vs G H Q3 Q h RG q k=>by
 rcases ds with _|⟨d,_|⟨d2,ds⟩⟩
 ·exact q.elim
 ·obtain⟨v,rfl,hv⟩:=hvs1 h;cases d with
  |obj a=>
   obtain⟨xs,e,q⟩:=q;obtain⟨us,e1,e2⟩:=RG a _ e;rw[qwz hv];exact⟨a,us,rfl,.inl (.of e1),by rw[←e2.length];exact k _ H _ G q1z (.refl H G) RG q⟩
  |tup xs=>
   obtain⟨a,us,rfl,e1,e2⟩:=qalz hv;exact⟨a,us,rfl,.inr e1,by rw[←e2.length];exact k _ H _ G q1z (.refl H G) RG q⟩
  |scr xs=>
   obtain⟨a,us,rfl,e1,e2⟩:=qbnz hv;exact⟨a,us,rfl,.inl e1.l,by rw[←e2.length];exact k _ H _ G q1z (.refl H G) RG q⟩
  |_=>exact q.elim
 ·cases d<;>exact q.elim
theorem qqvz(hu:X.A.units+64<cLine)(hm:X.mg "len" = none)(ha:PA3 X (e::es) t)(hg:Gl X "len":=by rfl)(he:notStar e=true:=by rfl)(hpl:es.all notStar=true:=by rfl):
  PE3 X (.Call (.Name "len" p) (e::es) [] pos) (eCB q0z t):=e_cb qquz (qa8z qoqz hg hm PySem.boot_len ha (he:=qmz he) (hpl:=qyz hpl))
def qduz:C3:=fun ds G Q=>match ds with
 |[.bl b]=>Q (.int (if b then 1 else 0)) G
 |[.int i]=>Q (.int i) G
 |_=>False
theorem qqwz:LowC K qduz (fun xs H Q=>(∃i,xs=[.int i]/\Q (.int i) H)∨∃k,xs=[.bl k]/\Q (.int (if k then 1 else 0)) H):=fun ds vs G H Q3 Q h RG q k=>by
 rcases ds with _|⟨d,_|⟨d2,ds⟩⟩
 ·exact q.elim
 ·obtain⟨v,rfl,hv⟩:=hvs1 h;cases d with
  |bl b=>
   rw[qa2z hv];exact .inr ⟨b,rfl,k _ H _ G q1z (.refl H G) RG q⟩
  |int b=>
   rw[qsz hv];exact .inl ⟨b,rfl,k _ H _ G q1z (.refl H G) RG q⟩
  |_=>exact q.elim
 ·cases d<;>exact q.elim
theorem qqxz(hu:X.A.units+64<cLine)(hm:X.mg "int" = none)(ha:PA3 X (e::es) t)(hg:Gl X "int":=by rfl)(he:notStar e=true:=by rfl)(hpl:es.all notStar=true:=by rfl):
  PE3 X (.Call (.Name "int" p) (e::es) [] pos) (eCB qduz t):=e_cb qqwz (qeyz qnzz hg hm rfl ha (he:=qmz he) (hpl:=qyz hpl))
def qe7z:C3:=fun ds G Q=>match ds with
 |[.int i,.int j]=>Q (.int (if j > i then j else i)) G
 |_=>False
theorem qqyz{f:Int->Int->Int}:LowC K (fun ds G Q=>match ds with
 |[.int i,.int j]=>Q (.int (f i j)) G
 | _=>False) (fun xs H Q=>∃i j,xs=[.int i,.int j]/\Q (.int (f i j)) H):=fun ds vs G H Q3 Q h RG q k=>by
 rcases ds with _|⟨d,_|⟨d2,_|⟨d3,ds⟩⟩⟩
 ·exact q.elim
 ·cases d<;>exact q.elim
 ·obtain⟨v,v',rfl,h1,h2⟩:=hvs2 h;cases d with
  |int i=>
   cases d2 with
   |int j=>
    rw[qsz h1,qsz h2];exact⟨i,j,rfl,k _ H _ G q1z (.refl H G) RG q⟩
   |_=>exact q.elim
  |_=>exact q.elim
 ·cases d with
  |int i=>cases d2<;>exact q.elim
  |_=>exact q.elim
theorem qqzz(hu:X.A.units+64<cLine)(hm:X.mg "max" = none)(ha:PA3 X (e::es) t)(hc:X.calm=true:=by rfl)(hg:Gl X "max":=by rfl)(he:notStar e=true:=by rfl)(hpl:es.all notStar=true:=by rfl):
  PE3 X (.Call (.Name "max" p) (e::es) [] pos) (eCB qe7z t):=e_cb (qqyz (f:=fun i j=>if j > i then j else i)) (qa8z (qnyz hc) hg hm rfl ha (he:=qmz he) (hpl:=qyz hpl))
def qcaz:C3:=fun ds G Q=>match ds with
 |[.obj a]=>∃xs,G a=some (.lst xs)/\Q (.tup xs) G
 |[.tup xs]=>Q (.tup xs) G
 |[.scr xs]=>Q (.tup xs) G
 |_=>False
theorem qq0z:LowC K qcaz (fun xs H Q=>∃p ys,xs=[.ref p]/\((SqL K H p ys/\∀l,H l=none->Q (.ref l) (upd H l (.tup ys)))∨(SqT K H p ys/\Q (.ref p) H))):=fun ds vs G H Q3 Q h RG q k=>by
 rcases ds with _|⟨d,_|⟨d2,ds⟩⟩
 ·exact q.elim
 ·obtain⟨v,rfl,hv⟩:=hvs1 h;cases d with
  |obj a=>
   obtain⟨xs,e,q⟩:=q;obtain⟨us,e1,e2⟩:=RG a _ e;rw[qwz hv];exact⟨a,us,rfl,.inl ⟨.of e1,fun l hl=>k _ _ (.tup xs) G (qa3z (.of qtz) (e2.ext (.laid hl))) (.laid hl) (RG.laid hl) q⟩⟩
  |tup xs=>
   obtain⟨a,us,rfl,e1,e2⟩:=qalz hv;exact⟨a,us,rfl,.inr ⟨e1,k _ H _ G (qa3z e1 e2) (.refl H G) RG q⟩⟩
  |scr xs=>
   obtain⟨a,us,rfl,e1,e2⟩:=qbnz hv;exact⟨a,us,rfl,.inl ⟨e1.l,fun l hl=>k _ _ (.tup xs) G (qa3z (.of qtz) (e2.ext (.laid hl))) (.laid hl) (RG.laid hl) q⟩⟩
  |_=>exact q.elim
 ·cases d<;>exact q.elim
theorem qq1z(hu:X.A.units+64<cLine)(hm:X.mg "tuple" = none)(ha:PA3 X (e::es) t)(hg:Gl X "tuple":=by rfl)(he:notStar e=true:=by rfl)(hpl:es.all notStar=true:=by rfl):
  PE3 X (.Call (.Name "tuple" p) (e::es) [] pos) (eCB qcaz t):=e_cb qq0z (qeyz qorz hg hm rfl ha (he:=qmz he) (hpl:=qyz hpl))
def eM(r:D->List D->Gp->V3->Prop)(to:TE3)(t:TA3):TE3:=fun τ G Q=>to τ G fun x G1=>(∃a xs,x=.obj a/\G1 a=some (.lst xs))/\t τ G1 fun ds G2=>r x ds G2 Q
def LowM(K:PySem.W.Frag)(r:D->List D->Gp->V3->Prop)(r2:V->List V->Hp->VK->Prop):Prop:=∀x vx ds vs G H Q3 Q,Hv K H x vx->Hvs K H ds vs->RepG K G H->r x ds G Q3->(∀v H' d G',Hv K H' d v->Step H G H' G'->RepG K G' H'->Q3 d G'->Q v H')->r2 vx vs H Q
theorem qq2z{r:D->List D->Gp->V3->Prop}{r2:V->List V->Hp->VK->Prop}{to:TE3}(L:LowM K r r2){σ:L2.St}{H:Hp}{Q:VK}(h:low K (eM r to t) σ H Q):tBM K "list" r2 (low K to) (lowA K t) σ H Q:=by
 obtain⟨τ,G,Q3,RS,RG,h,k⟩:=h;refine⟨τ,G,_,RS,RG,h,fun v1 H1 d1 G1 h1 S1 R1 q1=>?_⟩;obtain⟨⟨a,xs,rfl,e1⟩,q1⟩:=q1;obtain⟨us,e2,e3⟩:=R1 a _ e1;refine⟨?_,τ,G1,_,RS.ext (S1.ext RG),R1,q1,fun vs H2 ds G2 h2 S2 R2 q2=>?_⟩
 ·rw[qwz h1];exact .inl ⟨rfl,us,.of e2⟩
 ·exact L _ _ _ _ _ _ _ _ (h1.ext (S2.ext R1)) h2 R2 q2 fun v H' d G' z1 z2 z3 z4=>k v H' d G' z1 ((S1.trans S2).trans z2) z3 z4
def qioz:D->List D->Gp->V3->Prop:=fun x ds G Q=>match x,ds with
 |.obj a,[d]=>∃xs,G a=some (.lst xs)/\xs.length<sizeLine/\Q .non (upd3 G a (.lst (xs++[d])))
 |_,_=>False
theorem qq3z:LowM K qioz rAppend:=fun x vx ds vs G H Q3 Q hx hs RG q k=>by
 rcases ds with _|⟨d,_|⟨d2,ds⟩⟩
 ·cases x<;>exact q.elim
 ·cases x with
  |obj a=>
   obtain⟨xs,e1,hz,q⟩:=q;obtain⟨us,e2,e3⟩:=RG a _ e1;obtain⟨v,rfl,hv⟩:=hvs1 hs;rw[qwz hx];refine⟨a,us,v,rfl,rfl,e2,by rw[←e3.length];exact hz,?_⟩;exact k _ _ .non _ (by simp[Hv]) (.wrote e1) (RG.wroteL e2 (e3.append (.cons hv .nil))) q
  |_=>exact q.elim
 ·cases x<;>exact q.elim
theorem qq4z{r:D->List D->Gp->V3->Prop}{r2:V->List V->Hp->VK->Prop}{to:TE3}(L:LowM X.K r r2)(h:PE X e (tBM X.K "list" r2 (low X.K to) (lowA X.K t))):PE3 X e (eM r to t):=qvz h fun _ _ _ z=>qq2z L z
def qipz:D->List D->Gp->V3->Prop:=fun x ds G Q=>match x,ds with
 |.obj a,[.int i]=>∃xs k d,G a=some (.lst xs)/\(-(2^63)≤i/\i<2^63)/\seqIndex? i xs.length=some k/\xs[k]?=some d/\Q d (upd3 G a (.lst (xs.eraseIdx k)))
 |_,_=>False
theorem qq5z:LowM K qipz rPopAt:=fun x vx ds vs G H Q3 Q hx hs RG q k=>by
 rcases ds with _|⟨d,_|⟨d2,ds⟩⟩
 ·cases x<;>exact q.elim
 ·cases x with
  |obj a=>
   cases d with
   |int i=>
    obtain⟨xs,j,y,e1,hb,hk,hy,q⟩:=q;obtain⟨us,e2,e3⟩:=RG a _ e1;obtain⟨v,rfl,hv⟩:=hvs1 hs;obtain⟨w,e4,e5⟩:=e3.get hy;rw[qwz hx,qsz hv];refine⟨a,us,i,j,w,rfl,rfl,e2,hb.1,hb.2,by rw[←e3.length];exact hk,e4,?_⟩;exact k _ _ y _ (e5.ext (.wrote e2)) (.wrote e1) (RG.wroteL e2 (e3.erase j)) q
   |_=>exact q.elim
  |_=>exact q.elim
 ·cases x with
  |obj a=>cases d<;>exact q.elim
  |_=>exact q.elim
def instD(T:String)(G:Gp):D->Option Bool
 |.non=>some false
 |.bl _=>some (T=="bool" || T=="int")
 |.int _=>some (T=="int")
 |.str _=>some (T=="str")
 |.tup _=>some (T=="tuple")
 |.scr _=>some (T=="list")
 |.dc _=>some (T=="dict")
 |.obj a=>match G a with
  |some (.lst _)=>some (T=="list")
  |some .pen=>some (T=="list")
  |some .dct=>some (T=="dict")
  |some (.gen _)=>none
  |none=>none
def eInst(T:String)(ta:TE3):TE3:=fun τ G Q=>ta τ G fun x G1=>match instD T G1 x with
 |some b=>Q (.bl b) G1
 |none=>False
end
end L3
namespace KasS
open PySem PySem.W PyProof.Rows
structure Ord(n:Nat)(lt:Nat->Nat->Bool):Prop where
 asy:∀a b,a<n->b<n->lt a b=true->lt b a=false
 tra:∀a b c,a<n->b<n->c<n->lt b a=false->lt c b=false->lt c a=false
abbrev g(p:Array Nat)(i:Nat):Nat:=p.getD i 0
structure Va(n:Nat)(p:Array Nat):Prop where
 perm:p.toList.Perm (List.range n)
section
variable {n:Nat} {lt:Nat->Nat->Bool} {cmp:Nat->Nat->(Bool->Shared->Prop)->Shared->Prop} {s:Shared}
theorem Va.size{p:Array Nat}(v:Va n p):p.size=n:=by
 have:=v.perm.length_eq;simpa using this
theorem Va.get{p:Array Nat}(v:Va n p){i:Nat}(hi:i<n):p[i]?=some (g p i):=by
 have h:=v.size;simp[g,Array.getD,h,hi]
theorem Va.inr{p:Array Nat}(v:Va n p){i:Nat}(hi:i<n):g p i<n:=by
 have h:=v.get hi;have hm:g p i∈p.toList:=List.mem_of_getElem? (by rw[Array.getElem?_toList];exact h);have:=v.perm.mem_iff.mp hm;simpa using this
theorem Ord.refl(O:Ord n lt){a:Nat}(ha:a<n):lt a a=false:=by
 cases h:lt a a with
 |false=>rfl
 |true=>
  have:=O.asy a a ha ha h;rw[h] at this;exact this
def So(lt:Nat->Nat->Bool)(p:Array Nat)(k:Nat):Prop:=∀i j,i≤j->j<k->lt (g p j) (g p i)=false
def Ni(lt:Nat->Nat->Bool)(p:Array Nat)(k:Nat):Prop:=∀i j,i≤j->j<k->lt (g p i) (g p j)=false
def Eq'(lt:Nat->Nat->Bool)(p:Array Nat)(lo hi:Nat):Prop:=∀i j,lo≤i->i<hi->lo≤j->j<hi->lt (g p i) (g p j)=false
theorem So.one(O:Ord n lt){p:Array Nat}(v:Va n p)(hn:1≤n):So lt p 1:=fun i j h1 h2=>by
 have e1:i=0:=by lia
 have e2:j=0:=by lia
 rw[e1,e2];exact O.refl (v.inr (by lia))
theorem So.next(O:Ord n lt){p:Array Nat}(v:Va n p){a:Nat}(h1:1≤a)(ha:a<n)(S:So lt p a)(h:lt (g p a) (g p (a-1))=false):So lt p (a+1):=fun i j hij hj=>by
 by_cases hja:j<a
 ·exact S i j hij hja
 ·have e:j=a:=by lia
  subst e;by_cases hij':i=j
  ·rw[hij'];exact O.refl (v.inr ha)
  ·exact O.tra (g p i) (g p (j-1)) (g p j) (v.inr (by lia)) (v.inr (by lia)) (v.inr ha) (S i (j-1) (by lia) (by lia)) h
theorem Ni.next(O:Ord n lt){p:Array Nat}(v:Va n p){a:Nat}(h1:1≤a)(ha:a<n)(S:Ni lt p a)(h:lt (g p (a-1)) (g p a)=false):Ni lt p (a+1):=fun i j hij hj=>by
 by_cases hja:j<a
 ·exact S i j hij hja
 ·have e:j=a:=by lia
  subst e;by_cases hij':i=j
  ·rw[hij'];exact O.refl (v.inr ha)
  ·exact O.tra (g p j) (g p (j-1)) (g p i) (v.inr ha) (v.inr (by lia)) (v.inr (by lia)) h (S i (j-1) (by lia) (by lia))
theorem qbqz{p:Array Nat}(v:Va n p)(i j:Nat):Va n (kas_rev p i j):=⟨(mirror_perm p i j _).toList.trans v.perm⟩
theorem qdvz{p:Array Nat}(v:Va n p){lo hi k:Nat}(hh:hi≤n)(hk:k<n):g (kas_rev p lo hi) k=if lo≤k/\k<hi then g p (lo+hi-1-k) else g p k:=by
 have h1:=getElem?_mirror_all (xs:=p) (i:=lo) (j:=hi) (by rw[v.size];exact hh) k;have h2:=(qbqz v lo hi).get hk;have h3:(kas_rev p lo hi)[k]?=_:=h1;rw[h2] at h3;by_cases hc:lo≤k/\k<hi
 ·rw[if_pos hc] at h3 ⊢;rw[v.get (by lia)] at h3;exact Option.some.inj h3
 ·rw[if_neg hc] at h3 ⊢;rw[v.get hk] at h3;exact Option.some.inj h3
theorem qe8z{p:Array Nat}(v:Va n p){lo hi k:Nat}(hh:hi≤k)(hk:k≤n)(S:Ni lt p k)(e:Eq' lt p lo hi):Ni lt (kas_rev p lo hi) k:=fun i j hij hj=>by
 rw[qdvz v (by lia) (show i<n by lia),qdvz v (by lia) (show j<n by lia)];by_cases hi':lo≤i/\i<hi
 ·rw[if_pos hi'];by_cases hj':lo≤j/\j<hi
  ·rw[if_pos hj'];exact e _ _ (by lia) (by lia) (by lia) (by lia)
  ·rw[if_neg hj'];exact S _ _ (by lia) hj
 ·rw[if_neg hi'];by_cases hj':lo≤j/\j<hi
  ·rw[if_pos hj'];exact S _ _ (by lia) (by lia)
  ·rw[if_neg hj'];exact S _ _ hij hj
theorem qq6z{p:Array Nat}(v:Va n p){k:Nat}(hk:k≤n)(S:Ni lt p k):So lt (kas_rev p 0 k) k:=fun i j hij hj=>by
 rw[qdvz v hk (show i<n by lia),qdvz v hk (show j<n by lia),if_pos (by lia),if_pos (by lia)];exact S _ _ (by lia) (by lia)
variable (O:Ord n lt) (hc:∀i j,i<n->j<n->∀(C:Bool->Shared->Prop) (s:Shared),C (lt i j) s->cmp i j C s)
include O hc
theorem qe9z{p:Array Nat}(v:Va n p){G:Nat->Shared->Prop}:∀(f a:Nat),1≤a->a+f≤n->So lt p a->(∀m,a≤m->m≤a+f->So lt p m->(m=a+f∨lt (g p m) (g p (m-1))=true)->G m s)->(kas_asc p f a).kasWp cmp G s
 |0,a,_,_,S,h=>h a (Nat.le_refl _) (by lia) S (.inl (by lia))
 |f+1,a,h1,h2,S,h=>by
  show cmp _ _ _ s;refine hc _ _ (v.inr (by lia)) (v.inr (by lia)) _ s ?_;cases hb:lt (g p a) (g p (a-1)) with
  |true=>
   ((try dsimp only);rw[if_pos rfl])
   exact h a (Nat.le_refl _) (by lia) S (.inr hb)
  |false=>
   ((try dsimp only);rw[if_neg Bool.false_ne_true])
   exact qe9z v f (a+1) (by lia) (by lia) (S.next O v h1 (by lia) hb) fun m q1 q2 q3 q4=>h m (by lia) (by lia) q3 (by
    rcases q4 with q4|q4
    ·exact .inl (by lia)
    ·exact .inr q4)
theorem qdwz{G:Array Nat×Nat×Nat->Shared->Prop}:∀(f:Nat) (p:Array Nat) (a q:Nat),Va n p->q+1≤a->a+f≤n->Ni lt p a->Eq' lt p (a-(q+1)) a ->
  (∀p' m q',Va n p'->a≤m->m≤a+f->q'+1≤m->Ni lt p' m->Eq' lt p' (m-(q'+1)) m->G (p',m,q') s)->(kas_desc f p a q).kasWp cmp G s
 |0,p,a,q,v,h1,h2,S,e,h=>h p a q v (Nat.le_refl _) (by lia) h1 S e
 |f+1,p,a,q,v,h1,h2,S,e,h=>by
  show cmp _ _ _ s;refine hc _ _ (v.inr (by lia)) (v.inr (by lia)) _ s ?_;have one:∀{p':Array Nat},Va n p'->Eq' lt p' (a+1-(0+1)) (a+1):=fun {p'} v' i j i1 i2 j1 j2=>by
   have e1:i=a:=by lia
   have e2:j=a:=by lia
   rw[e1,e2];exact O.refl (v'.inr (by lia))
  cases hb:lt (g p a) (g p (a-1)) with
  |true=>
   ((try dsimp only);rw[if_pos rfl])
   have S':=S.next O v (by lia) (by lia) (O.asy _ _ (v.inr (by lia)) (v.inr (by lia)) hb)
   by_cases hq:q > 0
   ·rw[if_pos hq];exact qdwz f _ (a+1) 0 (qbqz v _ _) (by lia) (by lia) (qe8z v (by lia) (by lia) S' e) (one (qbqz v _ _)) fun p' m q' r1 r2 r3 r4 r5 r6=>h p' m q' r1 (by lia) (by lia) r4 r5 r6
   ·rw[if_neg hq];exact qdwz f _ (a+1) 0 v (by lia) (by lia) S' (one v) fun p' m q' r1 r2 r3 r4 r5 r6=>h p' m q' r1 (by lia) (by lia) r4 r5 r6
  |false=>
   ((try dsimp only);rw[if_neg Bool.false_ne_true])
   show cmp _ _ _ s;refine hc _ _ (v.inr (by lia)) (v.inr (by lia)) _ s ?_;cases hd:lt (g p (a-1)) (g p a) with
   |true=>
    ((try dsimp only);rw[if_pos rfl])
    exact h p a q v (Nat.le_refl _) (by lia) h1 S e
   |false=>
    ((try dsimp only);rw[if_neg Bool.false_ne_true])
    refine qdwz f _ (a+1) (q+1) v (by lia) (by lia) (S.next O v (by lia) (by lia) hd) (fun i j i1 i2 j1 j2=>?_) fun p' m q' r1 r2 r3 r4 r5 r6=>h p' m q' r1 (by lia) (by lia) r4 r5 r6
    have L:∀k,k<n->g p k<n:=fun k hk=>v.inr hk;by_cases hi:i=a
    ·by_cases hj:j=a
     ·rw[hi,hj];exact O.refl (L _ (by lia))
     ·rw[hi];exact O.tra (g p j) (g p (a-1)) (g p a) (L _ (by lia)) (L _ (by lia)) (L _ (by lia)) (e (a-1) j (by lia) (by lia) (by lia) (by lia)) hb
    ·by_cases hj:j=a
     ·rw[hj];exact O.tra (g p a) (g p (a-1)) (g p i) (L _ (by lia)) (L _ (by lia)) (L _ (by lia)) hd (e i (a-1) (by lia) (by lia) (by lia) (by lia))
     ·exact e i j (by lia) (by lia) (by lia) (by lia)
theorem qiqz{p:Array Nat}(v:Va n p){a:Nat}{G:Nat×Array Nat->Shared->Prop}(h1:1≤a)(h2:a≤n)(S:Ni lt p a)(h:∀m p',Va n p'->1≤m->m≤n->So lt p' m->G (m,p') s):(kas_tail3 a n p).kasWp cmp G s:=by
 unfold kas_tail3;rw[KasT.kasWp_bind];exact qe9z O hc (qbqz v 0 a) (n-a) a h1 (by lia) (qq6z v h2 S) fun m q1 q2 q3 _=>h m _ (qbqz v 0 a) (by lia) (by lia) q3
theorem qirz{p:Array Nat}(v:Va n p){a:Nat}{G:Nat×Array Nat->Shared->Prop}(h1:1≤a)(h2:a+1≤n)(S:Ni lt p (a+1))(h:∀m p',Va n p'->1≤m->m≤n->So lt p' m->G (m,p') s):(kas_descPart a n p).kasWp cmp G s:=by
 unfold kas_descPart;rw[KasT.kasWp_bind];refine qdwz O hc (n-(a+1)) p (a+1) 0 v (by lia) (by lia) S (fun i j i1 i2 j1 j2=>?_) fun p' m q' r1 r2 r3 r4 r5 r6=>?_
 ·have e1:i=a:=by lia
  have e2:j=a:=by lia
  rw[e1,e2];exact O.refl (v.inr (by lia))
 ·dsimp only;by_cases hq:q' > 0
  ·rw[if_pos hq];exact qiqz O hc (qbqz r1 _ _) (by lia) (by lia) (qe8z r1 (Nat.le_refl _) (by lia) r5 r6) h
  ·rw[if_neg hq];exact qiqz O hc r1 (by lia) (by lia) r5 h
theorem qq7z{p:Array Nat}(v:Va n p){G:Nat×Array Nat->Shared->Prop}(hn:1≤n)(h:∀m p',Va n p'->1≤m->m≤n->So lt p' m->G (m,p') s):(kas_count n p).kasWp cmp G s:=by
 unfold kas_count;rw[KasT.kasWp_bind];refine qe9z O hc v (n-1) 1 (Nat.le_refl _) (by lia) (So.one O v hn) fun a q1 q2 q3 q4=>?_;have L:∀k,k<n->g p k<n:=fun k hk=>v.inr hk;by_cases e1:(a==n)=true
 ·rw[if_pos e1];exact h a p v q1 (by lia) q3
 ·rw[if_neg e1];have hne:a≠n:=fun z=>e1 (by rw[z];exact beq_self_eq_true _);have hlt:lt (g p a) (g p (a-1))=true:=by
   rcases q4 with q4|q4
   ·lia
   ·exact q4
  have hle:=O.asy _ _ (L a (by lia)) (L (a-1) (by lia)) hlt;by_cases e2:a > 1
  ·rw[if_pos e2];show cmp _ _ _ s;refine hc _ _ (v.inr (by lia)) (v.inr (by lia)) _ s ?_;cases hb:lt (g p 0) (g p (a-1)) with
   |true=>
    ((try dsimp only);rw[if_pos rfl])
    exact h a p v q1 (by lia) q3
   |false=>
    ((try dsimp only);rw[if_neg Bool.false_ne_true])
    -- all of the run are alike
    have eqv:Eq' lt p 0 a:=fun i j i1 i2 j1 j2=>by
     have h1:lt (g p i) (g p 0)=false:=q3 0 i (by lia) i2;have h2:lt (g p (a-1)) (g p j)=false:=q3 j (a-1) (by lia) (by lia);have h3:lt (g p 0) (g p j)=false:=O.tra _ _ _ (L j (by lia)) (L (a-1) (by lia)) (L 0 (by lia)) h2 hb;have h4:lt (g p (a-1)) (g p i)=false:=q3 i (a-1) (by lia) (by lia);exact O.tra _ _ _ (L j (by lia)) (L 0 (by lia)) (L i (by lia)) h3 h1
    have ni:Ni lt p (a+1):=Ni.next O v (by lia) (by lia) (fun i j hij hj=>eqv i j (by lia) (by lia) (by lia) hj) hle
    exact qirz O hc (qbqz v _ _) (by lia) (by lia) (qe8z v (by lia) (by lia) ni eqv) h
  ·rw[if_neg e2];have ea:a=1:=by lia
   subst ea;refine qirz O hc v (Nat.le_refl _) (by lia) (Ni.next O v (by lia) (by lia) (fun i j hij hj=>?_) hle) h
   have e3:i=0:=by lia
   have e4:j=0:=by lia
   rw[e3,e4];exact O.refl (L 0 (by lia))
theorem qfaz{p:Array Nat}(v:Va n p){k:Nat}(hk:k<n)(S:So lt p k){G:Nat->Shared->Prop}:∀(f l r:Nat),l≤r->r≤k->r-l≤f->(∀i,i<l->lt (g p k) (g p i)=false)->(∀i,r≤i->i<k->lt (g p k) (g p i)=true) ->
  (∀l,l≤k->(∀i,i<l->lt (g p k) (g p i)=false)->(∀i,l≤i->i<k->lt (g p k) (g p i)=true)->G l s)->(kas_place p k f l r).kasWp cmp G s
 |0,l,r,h1,h2,h3,h4,h5,h=>by
  have e:l=r:=by lia
  subst e;exact h l h2 h4 h5
 |f+1,l,r,h1,h2,h3,h4,h5,h=>by
  unfold kas_place;by_cases hlr:l≥r
  ·rw[if_pos hlr];have e:l=r:=by lia
   subst e;exact h l h2 h4 h5
  ·rw[if_neg hlr];show cmp _ _ _ s;refine hc _ _ (v.inr hk) (v.inr (by lia)) _ s ?_;have L:∀k,k<n->g p k<n:=fun k hk=>v.inr hk;cases hb:lt (g p k) (g p ((l+r) / 2)) with
   |true=>
    ((try dsimp only);rw[if_pos rfl])
    refine qfaz v hk S f l ((l+r) / 2) (by lia) (by lia) (by lia) h4 (fun i i1 i2=>?_) h;by_cases hri:r≤i
    ·exact h5 i hri i2
    ·cases hx:lt (g p k) (g p i) with
     |true=>rfl
     |false=>
      have h6:lt (g p i) (g p ((l+r) / 2))=false:=S _ _ i1 i2;have:=O.tra _ _ _ (L ((l+r) / 2) (by lia)) (L i (by lia)) (L k hk) h6 hx;rw[hb] at this;exact this.symm
   |false=>
    ((try dsimp only);rw[if_neg Bool.false_ne_true])
    refine qfaz v hk S f ((l+r) / 2+1) r (by lia) h2 (by lia) (fun i hi=>?_) h5 h;exact O.tra _ _ _ (L i (by lia)) (L ((l+r) / 2) (by lia)) (L k hk) (S i ((l+r) / 2) (by lia) (by lia)) hb
theorem qisz{G:Array Nat->Shared->Prop}:∀(f:Nat) (p:Array Nat) (k:Nat),Va n p->k+f=n->So lt p k->(∀p',Va n p'->So lt p' n->G p' s)->(kas_bin f p k).kasWp cmp G s
 | 0,p,k,v,hk,S,h=>h p v (by
  have e:k=n:=by lia
  rw[←e];exact S)
 |f+1,p,k,v,hk,S,h=>by
  show ((kas_place p k k 0 k).bind fun l=>kas_bin f (bubble p k (k-l)) (k+1)).kasWp cmp G s;rw[KasT.kasWp_bind];refine qfaz O hc v (by lia) S k 0 k (by lia) (Nat.le_refl _) (by lia) (fun i hi=>by lia) (fun i i1 i2=>by lia) fun l hl q1 q2=>?_;have v':Va n (bubble p k (k-l)):=⟨(bubble_perm p k (k-l)).toList.trans v.perm⟩;have L:∀k,k<n->g p k<n:=fun k hk=>v.inr hk;have bg:∀i,i<n->g (bubble p k (k-l)) i=if i=l then g p k else if l<i/\i≤k then g p (i-1) else g p i:=fun i hi=>by
   have h1:=getElem?_bubble (xs:=p) (src:=k) (by rw[v.size];lia) (k-l) (by lia) i;rw[v'.get hi,show k-(k-l)=l by lia] at h1;by_cases c1:i=l
   ·rw[if_pos c1] at h1 ⊢;rw[v.get (by lia)] at h1;exact Option.some.inj h1
   ·rw[if_neg c1] at h1 ⊢;by_cases c2:l<i/\i≤k
    ·rw[if_pos c2] at h1 ⊢;rw[v.get (by lia)] at h1;exact Option.some.inj h1
    ·rw[if_neg c2] at h1 ⊢;rw[v.get hi] at h1;exact Option.some.inj h1
  refine qisz f _ (k+1) v' (by lia) (fun i j hij hj=>?_) h;rw[bg i (by lia),bg j (by lia)];by_cases ci:i=l
  ·rw[if_pos ci];by_cases cj:j=l
   ·rw[if_pos cj];exact O.refl (L k (by lia))
   ·rw[if_neg cj,if_pos (by lia)];exact O.asy _ _ (L k (by lia)) (L _ (by lia)) (q2 (j-1) (by lia) (by lia))
  ·rw[if_neg ci];by_cases cj:j=l
   ·rw[if_pos cj,if_neg (by lia)];exact q1 i (by lia)
   ·rw[if_neg cj];by_cases c3:l<i/\i≤k
    ·rw[if_pos c3,if_pos (by lia)];exact S (i-1) (j-1) (by lia) (by lia)
    ·rw[if_neg c3];by_cases c4:l<j/\j≤k
     ·rw[if_pos c4];exact S i (j-1) (by lia) (by lia)
     ·rw[if_neg c4];exact S i j hij (by lia)
theorem qq8z{G:Array Nat->Shared->Prop}(hn:1≤n)(h:∀p,Va n p->So lt p n->G p s):(kas_sort n).kasWp cmp G s:=by
 unfold kas_sort;rw[KasT.kasWp_bind];have v0:Va n (List.toArray (List.range n)):=⟨by simp⟩;refine qq7z O hc v0 hn fun m p' v m1 m2 S=>?_;dsimp only;by_cases hm:m<n
 ·rw[if_pos hm];have e:max m 1=m:=by lia
  rw[e];exact qisz O hc (n-m) p' m v (by lia) S h
 ·rw[if_neg hm];have e:m=n:=by lia
  subst e;exact h p' v S
end
end KasS
namespace SetP
open PySem PySem.SetTable
def Masky(m:Nat):Prop:=m=7∨m=31∨m=127
def adv(m:Nat)(p:Probe):Probe:=
 if p.more > 0 then { p with j:=p.j+1,more:=p.more-1 } else
 { p with j:=(leap m p.i p.perturb).1,more:=runEnd m (leap m p.i p.perturb).1-(leap m p.i p.perturb).1,i:=(leap m p.i p.perturb).1,perturb:=(leap m p.i p.perturb).2 }
def rs(m:Nat)(q:Nat×Nat):Probe:={ j:=q.1,more:=runEnd m q.1-q.1,i:=q.1,perturb:=q.2,dummy:=none }
def sta(m:Nat)(h:Int):Probe:=rs m (bits h%(m+1),bits h)
def sq(m:Nat)(h:Int):Nat->Probe
 |0=>sta m h
 |k+1=>adv m (sq m h k)
def rn(m:Nat)(h:Int):Nat->Nat×Nat
 |0=>(bits h%(m+1),bits h)
 |r+1=>leap m (rn m h r).1 (rn m h r).2
theorem qitz(m:Nat)(h:Int):∀k,(sq m h k).dummy=none
 |0=>rfl
 |k+1=>by
  show (adv m (sq m h k)).dummy=none;have ih:=qitz m h k;unfold adv;split<;>simpa using ih
theorem qq9z(m i:Nat):runEnd m i-i≤9:=by
 unfold runEnd;split<;>lia
theorem qfbz(m:Nat)(h:Int)(n:Nat)(q:Nat×Nat)(e:sq m h n=rs m q):∀d,d≤runEnd m q.1-q.1->sq m h (n+d)={ j:=q.1+d,more:=runEnd m q.1-q.1-d,i:=q.1,perturb:=q.2,dummy:=none }
 |0,_=>by rw[Nat.add_zero,e];rfl
 |d+1,hd=>by
  have ih:=qfbz m h n q e d (by lia);show adv m (sq m h (n+d))=_;rw[ih];unfold adv;rw[if_pos (show runEnd m q.1-q.1-d > 0 by lia)];simp only[Probe.mk.injEq,and_true,true_and];lia
theorem qiuz(m:Nat)(h:Int)(n:Nat)(q:Nat×Nat)(e:sq m h n=rs m q):sq m h (n+(runEnd m q.1-q.1)+1)=rs m (leap m q.1 q.2):=by
 show adv m (sq m h (n+(runEnd m q.1-q.1)))=_;rw[qfbz m h n q e _ (Nat.le_refl _)];unfold adv;rw[if_neg (by simp)];rfl
theorem qivz(m:Nat)(h:Int):∀r,∃n,n≤10*r/\sq m h n=rs m (rn m h r)
 |0=>⟨0,by lia,rfl⟩
 |r+1=>by
  obtain⟨n,hn,e⟩:=qivz m h r;have:=qq9z m (rn m h r).1;exact⟨n+(runEnd m (rn m h r).1-(rn m h r).1)+1,by lia,qiuz m h n _ e⟩
theorem qraz(h:Int):bits h<2^64:=by
 unfold bits;have h1:h%(2^64:Int)<2^64:=Int.emod_lt_of_pos _ (by decide);have h2:0≤h%(2^64:Int):=Int.emod_nonneg _ (by decide);lia
theorem qiwz(m:Nat)(h:Int):∀r,(rn m h r).2=bits h / 32^r
 |0=>by simp[rn]
 |r+1=>by
  show (rn m h r).2 / 32=_;rw[qiwz m h r,Nat.div_div_eq_div_mul,Nat.pow_succ]
theorem qrbz(m:Nat)(h:Int)(r:Nat)(hr:13≤r):(rn m h r).2=0:=by
 rw[qiwz];have h1:=qraz h;have h2:(32:Nat)^13≤32^r:=Nat.pow_le_pow_right (by decide) hr;have h3:(2:Nat)^64<32^13:=by decide
 exact Nat.div_eq_of_lt (by lia)
def fl(m x:Nat):Nat:=(x*5+1)%(m+1)
def it(m:Nat):Nat->Nat->Nat
 |0,x=>x
 |n+1,x=>fl m (it m n x)
theorem qcpz(m:Nat)(a:Nat):∀b x,it m (b+a) x=it m b (it m a x)
 |0,x=>by rw[Nat.zero_add];rfl
 |b+1,x=>by
  rw[show b+1+a=(b+a)+1 by lia];show fl m (it m (b+a) x)=fl m (it m b (it m a x));rw[qcpz m a b x]
theorem qfcz(m:Nat)(h:Int):∀n,(rn m h (13+n)).1=it m n (rn m h 13).1
 |0=>rfl
 |n+1=>by
  show ((rn m h (13+n)).1*5+1+(rn m h (13+n)).2 / 32)%(m+1)=fl m (it m n (rn m h 13).1);rw[qrbz m h (13+n) (by lia),qfcz m h n];rfl
theorem qfdz(m:Nat)(h:Int):∀r,(rn m h r).1<m+1
 |0=>Nat.mod_lt _ (Nat.succ_pos _)
 |r+1=>Nat.mod_lt _ (Nat.succ_pos _)
def orb(m:Nat):Nat->Nat->List Nat
 |0,_=>[]
 |n+1,x=>x::orb m n (fl m x)
theorem qdxz(m:Nat):∀(n x y:Nat),y∈orb m n x->∃k,k<n/\y=it m k x
 |0,_,_,h=>by cases h
 |n+1,x,y,h=>by
  rcases List.mem_cons.mp h with e|e
  ·exact⟨0,by lia,e⟩
  ·obtain⟨k,hk,e⟩:=qdxz m n (fl m x) y e;refine⟨k+1,by lia,?_⟩;rw[qcpz m 1 k x];exact e
theorem orb7:((List.range 8).all fun x=>(orb 7 8 0).contains x)=true:=by decide +kernel
theorem orb31:((List.range 32).all fun x=>(orb 31 32 0).contains x)=true:=by decide +kernel
theorem orb127:((List.range 128).all fun x=>(orb 127 128 0).contains x)=true:=by decide +kernel
theorem back7:it 7 8 0=0:=by decide +kernel
theorem back31:it 31 32 0=0:=by decide +kernel
theorem back127:it 127 128 0=0:=by decide +kernel
theorem orbit{m:Nat}(hm:Masky m){x:Nat}(hx:x<m+1):∃k,k<m+1/\x=it m k 0:=by
 rcases hm with rfl|rfl|rfl
 ·have:=List.all_eq_true.mp orb7 x (List.mem_range.mpr hx);exact qdxz 7 8 0 x (by simpa using this)
 ·have:=List.all_eq_true.mp orb31 x (List.mem_range.mpr hx);exact qdxz 31 32 0 x (by simpa using this)
 ·have:=List.all_eq_true.mp orb127 x (List.mem_range.mpr hx);exact qdxz 127 128 0 x (by simpa using this)
theorem back{m:Nat}(hm:Masky m):it m (m+1) 0=0:=by
 rcases hm with rfl|rfl|rfl
 ·exact back7
 ·exact back31
 ·exact back127
theorem period{m:Nat}(hm:Masky m){x y:Nat}(hx:x<m+1)(hy:y<m+1):∃n,n≤m/\it m n x=y:=by
 obtain⟨a,ha,ea⟩:=orbit hm hx;obtain⟨b,hb,eb⟩:=orbit hm hy;by_cases hab:a≤b
 ·refine⟨b-a,by lia,?_⟩;rw[ea,←qcpz,eb];congr 1;lia
 ·refine⟨m+1-a+b,by lia,?_⟩;rw[ea,←qcpz,eb,show m+1-a+b+a=b+(m+1) by lia,qcpz,back hm]
theorem comes{m:Nat}(hm:Masky m)(h:Int){e:Nat}(he:e≤m):∃k,k≤10*m+130/\(sq m h k).j=e:=by
 obtain⟨n,hn,en⟩:=period hm (qfdz m h 13) (show e<m+1 by lia);obtain⟨k,hk,ek⟩:=qivz m h (13+n);refine⟨k,by lia,?_⟩;rw[ek];show (rn m h (13+n)).1=e;rw[qfcz,en]
theorem qfez{xs:Array Nat}{j:Nat}(hr:xs.toList.Pairwise (· < ·)):∀(fuel lo hi:Nat),hi-lo≤fuel->lo≤hi->hi≤xs.size->(∀i x,i<lo->xs[i]?=some x->x<j)->(∀i x,hi≤i->xs[i]?=some x->j≤x) ->
  below.go xs j fuel lo hi≤xs.size/\(∀i x,i<below.go xs j fuel lo hi->xs[i]?=some x->x<j)/\(∀i x,below.go xs j fuel lo hi≤i->xs[i]?=some x->j≤x)
 |0,lo,hi,hf,hl,hs,h1,h2=>by
  have e:lo=hi:=by lia
  subst e;exact⟨hs,h1,h2⟩
 |fuel+1,lo,hi,hf,hl,hs,h1,h2=>by
  unfold below.go;by_cases hlt:lo<hi
  ·rw[if_pos hlt];dsimp only;have hmid:(lo+hi) / 2<xs.size:=by lia
   have hg:xs.getD ((lo+hi) / 2) j=xs[(lo+hi) / 2]:=by simp[Array.getD,hmid]
   rw[hg];have pw:∀a b x y,a<b->xs[a]?=some x->xs[b]?=some y->x<y:=fun a b x y hab ea eb=>by
    have ha':a<xs.toList.length:=by
     have:=(Array.getElem?_eq_some_iff.mp ea).1;simpa using this
    have hb':b<xs.toList.length:=by
     have:=(Array.getElem?_eq_some_iff.mp eb).1;simpa using this
    have:=List.pairwise_iff_getElem.mp hr a b ha' hb' hab;obtain⟨_,e1⟩:=Array.getElem?_eq_some_iff.mp ea;obtain⟨_,e2⟩:=Array.getElem?_eq_some_iff.mp eb;simpa [e1,e2] using this
   have em:xs[(lo+hi) / 2]?=some xs[(lo+hi) / 2]:=by simp[hmid]
   by_cases hc:xs[(lo+hi) / 2]<j
   ·rw[if_pos hc];refine qfez hr fuel _ hi (by lia) (by lia) hs (fun i x hi' e=>?_) h2;by_cases hi2:i=(lo+hi) / 2
    ·subst hi2;rw[em] at e;cases e;exact hc
    ·exact Nat.lt_trans (pw i _ x _ (by lia) e em) hc
   ·rw[if_neg hc];refine qfez hr fuel lo _ (by lia) (by lia) (by lia) h1 (fun i x hi' e=>?_);by_cases hi2:i=(lo+hi) / 2
    ·subst hi2;rw[em] at e;cases e;lia
    ·have:=pw _ i _ x (by lia) em e;lia
  ·rw[if_neg hlt];have e:lo=hi:=by lia
   subst e;exact⟨hs,h1,h2⟩
theorem qdyz{xs:Array Nat}{j:Nat}(hr:xs.toList.Pairwise (· < ·)):below xs j≤xs.size/\(∀i x,i<below xs j->xs[i]?=some x->x<j)/\(∀i x,below xs j≤i->xs[i]?=some x->j≤x):=
 qfez hr xs.size 0 xs.size (by lia) (by lia) (by lia) (fun i _ h=>by lia) fun i x h e=>by
  have:=(Array.getElem?_eq_some_iff.mp e).1;lia
theorem below_at{xs:Array Nat}{j i:Nat}(hr:xs.toList.Pairwise (· < ·))(e:xs[i]?=some j):below xs j=i:=by
 obtain⟨h0,h1,h2⟩:=qdyz (j:=j) hr;have hi:=(Array.getElem?_eq_some_iff.mp e).1;by_cases hlt:i<below xs j
 ·exact absurd (h1 i j hlt e) (Nat.lt_irrefl _)
 ·by_cases hgt:below xs j<i
  ·have hb:below xs j<xs.size:=by lia
   have eb:xs[below xs j]?=some xs[below xs j]:=by simp[hb]
   have q1:=h2 _ _ (Nat.le_refl _) eb;have pw:=List.pairwise_iff_getElem.mp hr (below xs j) i (by simpa using hb) (by simpa using hi) hgt;obtain⟨_,e1⟩:=Array.getElem?_eq_some_iff.mp e;simp[e1] at pw;lia
  ·lia
end SetP
namespace SetP
open PySem PySem.SetTable
structure Tab(t:SetTable)(hs:List Int):Prop where
 mask:Masky t.mask
 size:t.place.size=hs.length
 rise:t.place.toList.Pairwise (· < ·)
 bound:∀j∈t.place.toList,j≤t.mask
 nodum:t.dummies = #[]
 room:hs.length*5<t.mask*3
 reach:∀j h,(j,h)∈t.place.toList.zip hs->∃k,(sq t.mask h k).j=j/\∀k',k' < k->(sq t.mask h k').j∈t.place.toList
theorem qixz{t:SetTable}{j i:Nat}(hr:t.place.toList.Pairwise (· < ·))(e:t.place[i]?=some j):t.slot j=.live i:=by
 unfold slot;dsimp only;rw[below_at hr e,e];simp
theorem qrcz{t:SetTable}{j:Nat}(hd:t.dummies = #[])(e:j∉t.place.toList):t.slot j=.empty:=by
 unfold slot;dsimp only;have h1:¬(t.place[below t.place j]?==some j)=true:=by
  intro h;have h':t.place[below t.place j]?=some j:=by simpa using h
  exact e (by
   rw[←Array.getElem?_toList] at h';exact List.mem_of_getElem? h')
 rw[if_neg h1];have h2:has t.dummies j=false:=by
  rw[hd];rfl
 rw[h2];rfl
theorem qffz:∀(n:Nat) (L:List Nat),(∀e,e<n->e∈L)->n≤L.length
 |0,_,_=>Nat.zero_le _
 |n+1,L,h=>by
  have h1:=h n (Nat.lt_succ_self n);have h2:=qffz n (L.erase n) fun e he=>(List.mem_erase_of_ne (by lia)).mpr (h e (by lia));have h3:=List.length_erase_of_mem h1;have h4:=List.length_pos_of_mem h1;lia
theorem qrdz{t:SetTable}{hs:List Int}(T:Tab t hs)(h:Int):∃ke,ke≤10*t.mask+130/\(sq t.mask h ke).j∉t.place.toList/\∀k,k<ke->(sq t.mask h k).j∈t.place.toList:=by
 -- some slot is empty
 have hex:∃e,e≤t.mask/\e∉t.place.toList:=by
  refine Classical.byContradiction fun hn=>?_;have hall:∀e,e≤t.mask->e∈t.place.toList:=fun e he=>Classical.byContradiction fun q=>hn ⟨e,he,q⟩;have hl:=qffz (t.mask+1) t.place.toList fun e he=>hall e (by lia);have e1:t.place.toList.length=t.place.size:=by simp
  have:=T.size;have:=T.room;lia
 obtain⟨e,he,ne⟩:=hex;obtain⟨k,hk,ek⟩:=comes T.mask h he;have hP:∃k,(sq t.mask h k).j∉t.place.toList:=⟨k,by rw[ek];exact ne⟩
 -- the least one
 have least:∀n,(∃k,k≤n/\(sq t.mask h k).j∉t.place.toList)->∃ke,ke≤n/\(sq t.mask h ke).j∉t.place.toList/\∀k,k<ke->(sq t.mask h k).j∈t.place.toList:=by
  intro n
  induction n with
  |zero=>
   rintro⟨k,hk,q⟩;have:k=0:=by lia
   subst this;exact⟨0,Nat.le_refl _,q,fun k hk=>by lia⟩
  |succ n ih=>
   rintro⟨k,hk,q⟩;by_cases hp:∃k,k≤n/\(sq t.mask h k).j∉t.place.toList
   ·obtain⟨ke,h1,h2,h3⟩:=ih hp;exact⟨ke,by lia,h2,h3⟩
   ·have hk':k=n+1:=by
     refine Classical.byContradiction fun z=>hp ⟨k,by lia,q⟩
    subst hk';exact⟨n+1,Nat.le_refl _,q,fun k' hk'=>Classical.byContradiction fun z=>hp ⟨k',by lia,z⟩⟩
 obtain⟨ke,h1,h2,h3⟩:=least k ⟨k,Nat.le_refl _,by rw[ek];exact ne⟩;exact⟨ke,by lia,h2,h3⟩
inductive Meets(t:SetTable)(hashAt:Nat->Int)(h:Int)(n ke:Nat):Met->Prop where
 |cand {k i:Nat} (h1:n≤k) (h2:k<ke) (h3:t.place[i]?=some (sq t.mask h k).j) (h4:hashAt i=h) (h5:∀k' i',n≤k'->k' < k->t.place[i']?=some (sq t.mask h k').j->hashAt i'≠h):
   Meets t hashAt h n ke (.candidate (sq t.mask h k).j i (sq t.mask h (k+1)))
 |free (h1:n≤ke) (h5:∀k' i',n≤k'->k' < ke->t.place[i']?=some (sq t.mask h k').j->hashAt i'≠h):Meets t hashAt h n ke (.empty (sq t.mask h ke).j none)
theorem qiyz{t:SetTable}{hashAt:Nat->Int}{h:Int}{ke:Nat}(hr:t.place.toList.Pairwise (· < ·))(hd:t.dummies = #[])(he:(sq t.mask h ke).j∉t.place.toList)(hl:∀k,k<ke->(sq t.mask h k).j∈t.place.toList):
  ∀(fuel n:Nat),n≤ke->ke-n<fuel->∃met,probe.go t hashAt h fuel (sq t.mask h n)=some met/\Meets t hashAt h n ke met
 |0,n,_,hf=>by lia
 |fuel+1,n,hn,hf=>by
  unfold probe.go;by_cases hlast:n=ke
  ·subst hlast;rw[qrcz hd he,qitz];exact⟨_,rfl,.free (Nat.le_refl _) fun k' i' h1 h2=>by lia⟩
  ·have hmem:=hl n (by lia);obtain⟨i,hi⟩:=List.getElem?_of_mem hmem;have hi':t.place[i]?=some (sq t.mask h n).j:=by rw[←Array.getElem?_toList];exact hi
   rw[qixz hr hi'];dsimp only;by_cases hh:hashAt i=h
   ·rw[if_pos (by simpa using hh)];exact⟨_,rfl,.cand (Nat.le_refl _) (by lia) hi' hh fun k' i' h1 h2=>by lia⟩
   ·rw[if_neg (by simpa using hh)];obtain⟨met,e,m⟩:=qiyz (hashAt:=hashAt) hr hd he hl fuel (n+1) (by lia) (by lia);refine⟨met,e,?_⟩;have one:∀i',t.place[i']?=some (sq t.mask h n).j->hashAt i'≠h:=fun i' e'=>by
     have e1:=below_at hr hi';have e2:=below_at hr e';have:i'=i:=by lia
     rw[this];exact hh
    cases m with
    |cand h1 h2 h3 h4 h5=>
     refine .cand (by lia) h2 h3 h4 fun k' i' q1 q2 q3=>?_;by_cases hk:k'=n
     ·subst hk;exact one i' q3
     ·exact h5 k' i' (by lia) q2 q3
    |free h1 h5=>
     refine .free (by lia) fun k' i' q1 q2 q3=>?_;by_cases hk:k'=n
     ·subst hk;exact one i' q3
     ·exact h5 k' i' (by lia) q2 q3
theorem qrez{t:SetTable}{hs:List Int}(T:Tab t hs){hashAt:Nat->Int}{h:Int}{ke n:Nat}(hk:ke≤10*t.mask+130)(he:(sq t.mask h ke).j∉t.place.toList)(hl:∀k,k<ke->(sq t.mask h k).j∈t.place.toList)(hn:n≤ke):
  ∃met,t.probe hashAt h (sq t.mask h n)=some met/\Meets t hashAt h n ke met:=by
 unfold probe;exact qiyz T.rise T.nodum he hl _ n hn (by unfold turns;lia)
theorem qbrz{α:Type}(xs:Array α)(p:Nat)(x:α):(insertAt xs p x).toList=xs.toList.take p++x::xs.toList.drop p:=by
 unfold insertAt;have e:(xs.extract p xs.size).toList=xs.toList.drop p:=by
  rw[Array.toList_extract];simp[List.extract];exact List.take_of_length_le (by simp)
 simp[Array.toList_extract,List.extract];exact List.take_of_length_le (by simp)
theorem qizz{α β:Type}:∀(p:Nat) (xs:List α) (ys:List β) (x:α) (y:β),xs.length=ys.length->((xs.take p++x::xs.drop p).zip (ys.take p++y::ys.drop p)).Perm ((x,y)::xs.zip ys)
 |0,xs,ys,x,y,_=>by simp
 |p+1,[],ys,x,y,h=>by
  have:ys=[]:=List.length_eq_zero_iff.mp (by simpa using h.symm);subst this;simp
 |p+1,a::xs,[],x,y,h=>by simp at h
 |p+1,a::xs,b::ys,x,y,h=>by
  have ih:=qizz p xs ys x y (by simpa using h);simp only[List.take_succ_cons,List.drop_succ_cons,List.cons_append,List.zip_cons_cons];exact (List.Perm.cons (a,b) ih).trans (List.Perm.swap _ _ _)
theorem qcbz{α:Type}(p:Nat)(xs:List α)(x:α):(xs.take p++x::xs.drop p).Perm (x::xs):=by
 have:=List.perm_middle (a:=x) (l₁:=xs.take p) (l₂:=xs.drop p);rw[List.take_append_drop] at this;exact this
theorem qrfz{t:SetTable}{j:Nat}(hd:t.dummies = #[]):t.put j=({ t with place:=insertAt t.place (below t.place j) j,dummies:=#[]},below t.place j):=by
 unfold put;dsimp only;have h2:has t.dummies j=false:=by
  rw[hd];rfl
 rw[h2];simp[hd]
structure TabR(t:SetTable)(hs:List Int):Prop where
 mask:Masky t.mask
 size:t.place.size=hs.length
 rise:t.place.toList.Pairwise (· < ·)
 bound:∀j∈t.place.toList,j≤t.mask
 nodum:t.dummies = #[]
 fit:hs.length≤t.mask
 reach:∀j h,(j,h)∈t.place.toList.zip hs->∃k,(sq t.mask h k).j=j/\∀k',k' < k->(sq t.mask h k').j∈t.place.toList
theorem qi0z{m:Nat}(hm:Masky m)(h:Int):∀k,(sq m h k).j≤m/\(sq m h k).j+(sq m h k).more≤m:=by
 have hrun:∀i,i≤m->runEnd m i≤m:=fun i hi=>by
  unfold runEnd;split<;>lia
 have hrs:∀q:Nat×Nat,q.1≤m->(rs m q).j≤m/\(rs m q).j+(rs m q).more≤m:=fun q hq=>by
  have:=hrun q.1 hq;have h2:q.1≤runEnd m q.1:=by unfold runEnd;split<;>lia
  show q.1≤m/\q.1+(runEnd m q.1-q.1)≤m;lia
 intro k
 induction k with
 |zero=>exact hrs _ (by show bits h%(m+1)≤m;have:bits h%(m+1)<m+1:=Nat.mod_lt (bits h) (Nat.succ_pos m);lia)
 |succ k ih=>
  show (adv m (sq m h k)).j≤m/\(adv m (sq m h k)).j+(adv m (sq m h k)).more≤m;unfold adv;by_cases hc:(sq m h k).more > 0
  ·rw[if_pos hc];show (sq m h k).j+1≤m/\(sq m h k).j+1+((sq m h k).more-1)≤m;lia
  ·rw[if_neg hc];have hlt:(leap m (sq m h k).i (sq m h k).perturb).1≤m:=by
    show ((sq m h k).i*5+1+(sq m h k).perturb / 32)%(m+1)≤m;have:((sq m h k).i*5+1+(sq m h k).perturb / 32)%(m+1)<m+1:=Nat.mod_lt _ (Nat.succ_pos m);lia
   exact hrs (leap m (sq m h k).i (sq m h k).perturb) hlt
theorem Tab.put{t:SetTable}{hs:List Int}(T:Tab t hs){h:Int}{ke:Nat}(he:(sq t.mask h ke).j∉t.place.toList)(hl:∀k,k<ke->(sq t.mask h k).j∈t.place.toList):
  TabR { t with place:=insertAt t.place (below t.place (sq t.mask h ke).j) (sq t.mask h ke).j,dummies:=#[]} (hs.take (below t.place (sq t.mask h ke).j)++h::hs.drop (below t.place (sq t.mask h ke).j)):=by
 obtain⟨b0,b1,b2⟩:=qdyz (j:=(sq t.mask h ke).j) T.rise;have hlen:t.place.toList.length=hs.length:=by simpa using T.size
 have hmem:∀x,x∈(insertAt t.place (below t.place (sq t.mask h ke).j) (sq t.mask h ke).j).toList↔x=(sq t.mask h ke).j∨x∈t.place.toList:=fun x=>by
  rw[qbrz,(qcbz _ t.place.toList _).mem_iff,List.mem_cons]
 refine⟨T.mask,?_,?_,fun j hj=>?_,rfl,?_,fun j h' hj=>?_⟩
 ·show (insertAt t.place (below t.place (sq t.mask h ke).j) (sq t.mask h ke).j).size=_;have e1:(insertAt t.place (below t.place (sq t.mask h ke).j) (sq t.mask h ke).j).size=(insertAt t.place (below t.place (sq t.mask h ke).j) (sq t.mask h ke).j).toList.length:=by simp
  rw[e1,qbrz,(qcbz _ t.place.toList _).length_eq,(qcbz _ hs _).length_eq];simp only[List.length_cons];lia
 ·show (insertAt t.place (below t.place (sq t.mask h ke).j) (sq t.mask h ke).j).toList.Pairwise (· < ·);rw[qbrz];refine List.pairwise_append.mpr ⟨T.rise.sublist (List.take_sublist _ _),List.pairwise_cons.mpr ⟨fun x hx=>?_,T.rise.sublist (List.drop_sublist _ _)⟩,fun a ha b hb=>?_⟩
  ·obtain⟨i,hi⟩:=List.getElem?_of_mem hx;rw[List.getElem?_drop] at hi;have q:=b2 (below t.place (sq t.mask h ke).j+i) x (by lia) (by rw[←Array.getElem?_toList];exact hi);have ne:x≠(sq t.mask h ke).j:=fun e=>he (e▸List.mem_of_getElem? hi);lia
  ·obtain⟨i,hi⟩:=List.getElem?_of_mem ha;have hil:i<below t.place (sq t.mask h ke).j:=by
    have:=(List.getElem?_eq_some_iff.mp hi).1;rw[List.length_take] at this;lia
   rw[List.getElem?_take_of_lt hil] at hi;have qa:=b1 i a hil (by rw[←Array.getElem?_toList];exact hi);rcases List.mem_cons.mp hb with e|hb
   ·rw[e];exact qa
   ·obtain⟨i2,hi2⟩:=List.getElem?_of_mem hb;rw[List.getElem?_drop] at hi2;have q:=b2 (below t.place (sq t.mask h ke).j+i2) b (by lia) (by rw[←Array.getElem?_toList];exact hi2);lia
 ·rcases (hmem j).mp hj with e|e
  ·rw[e];exact (qi0z T.mask h ke).1
  ·exact T.bound j e
 ·rw[(qcbz _ hs _).length_eq];have:=T.room;rcases T.mask with e|e|e<;>(simp only[List.length_cons];show _≤t.mask;lia)
 ·have hp:(j,h')∈(t.place.toList.take (below t.place (sq t.mask h ke).j)++(sq t.mask h ke).j::t.place.toList.drop (below t.place (sq t.mask h ke).j)).zip
    (hs.take (below t.place (sq t.mask h ke).j)++h::hs.drop (below t.place (sq t.mask h ke).j)):=by
   rw[←qbrz];exact hj
  rw[(qizz _ _ _ _ _ hlen).mem_iff] at hp;rcases List.mem_cons.mp hp with e|e
  ·cases e;exact⟨ke,rfl,fun k' hk'=>(hmem _).mpr (.inr (hl k' hk'))⟩
  ·obtain⟨k,e1,e2⟩:=T.reach j h' e;exact⟨k,e1,fun k' hk'=>(hmem _).mpr (.inr (e2 k' hk'))⟩
theorem TabR.tab{t:SetTable}{hs:List Int}(T:TabR t hs)(h:t.tooFull=false):Tab t hs:=by
 refine⟨T.mask,T.size,T.rise,T.bound,T.nodum,?_,T.reach⟩;have h':¬(t.fill*5≥t.mask*3):=by simpa [tooFull] using h
 have e:t.fill=hs.length:=by
  unfold fill;rw[T.size,T.nodum];rfl
 rw[e] at h';lia
end SetP
namespace SetP
open PySem PySem.SetTable
def Taken(ow:Array (Option Nat))(j:Nat):Prop:=∃k,ow[j]?=some (some k)
theorem qfgz{ow:Array (Option Nat)}{j:Nat}(hj:j<ow.size):(ow.getD j (some 0)).isNone=true↔¬Taken ow j:=by
 have e:ow.getD j (some 0)=ow[j]:=by simp[Array.getD,hj]
 rw[e];unfold Taken;rw[Array.getElem?_eq_getElem hj];cases ow[j] with
 |none=>simp
 |some k=>simp
theorem qi1z{m:Nat}(hm:Masky m){h:Int}{ow:Array (Option Nat)}(hs:ow.size=m+1):∀(fuel r n:Nat),sq m h n=rs m (rn m h r)->(∀k,k<n->Taken ow (sq m h k).j) ->
  (∃r',r≤r'/\r' < r+fuel/\¬Taken ow (rn m h r').1)->∃ke,layClean.free m ow fuel (rn m h r).1 (rn m h r).2=some (sq m h ke).j/\¬Taken ow (sq m h ke).j/\∀k,k<ke->Taken ow (sq m h k).j
 |0,r,n,_,_,hx=>by
  obtain⟨r',h1,h2,_⟩:=hx;lia
 |fuel+1,r,n,hn,hk,hx=>by
  have hi:=qfdz m h r;have hre:runEnd m (rn m h r).1≤m:=by unfold runEnd;split<;>lia
  have hre2:(rn m h r).1≤runEnd m (rn m h r).1:=by unfold runEnd;split<;>lia
  have at_d:∀d,d≤runEnd m (rn m h r).1-(rn m h r).1->(sq m h (n+d)).j=(rn m h r).1+d:=fun d hd=>by
   rw[qfbz m h n _ hn d hd]
  unfold layClean.free;cases hf:(List.range (runEnd m (rn m h r).1+1-(rn m h r).1)).find? (fun k=>(ow.getD ((rn m h r).1+k) (some 0)).isNone) with
  |some k=>
   obtain⟨p1,p2,p3⟩:=List.find?_range_eq_some.mp hf;have hkr:=List.mem_range.mp p2;refine⟨n+k,?_,?_,fun k' hk'=>?_⟩
   ·rw[at_d k (by lia)]
   ·rw[at_d k (by lia)];exact (qfgz (by lia)).mp p1
   ·by_cases hlt:k' < n
    ·exact hk k' hlt
    ·obtain⟨d,rfl⟩:∃d,k'=n+d:=⟨k' - n,by lia⟩;rw[at_d d (by lia)];have q:=p3 d (by lia);refine Classical.byContradiction fun z=>?_;rw[(qfgz (by lia)).mpr z] at q;cases q
  |none=>
   have hnone:=List.find?_eq_none.mp hf;have occ:∀d,d≤runEnd m (rn m h r).1-(rn m h r).1->Taken ow ((rn m h r).1+d):=fun d hd=>
    Classical.byContradiction fun z=>hnone d (List.mem_range.mpr (by lia)) ((qfgz (by lia)).mpr z)
   refine qi1z hm hs fuel (r+1) (n+(runEnd m (rn m h r).1-(rn m h r).1)+1) (qiuz m h n _ hn) (fun k hk'=>?_) ?_
   ·by_cases hlt:k<n
    ·exact hk k hlt
    ·obtain⟨d,rfl⟩:∃d,k=n+d:=⟨k-n,by lia⟩;rw[at_d d (by lia)];exact occ d (by lia)
   ·obtain⟨r',h1,h2,h3⟩:=hx;refine⟨r',?_,by lia,h3⟩;have:r'≠r:=fun e=>h3 (by
     rw[e];have:=occ 0 (Nat.zero_le _);simpa using this)
    lia
structure Own(m:Nat)(ow:Array (Option Nat))(l:List Int):Prop where
 size:ow.size=m+1
 all:∀(k:Nat),k<l.length->∃j:Nat,ow[j]?=some (some k)
 one:∀(j j' k:Nat),ow[j]?=some (some k)->ow[j']?=some (some k)->j=j'
 reach:∀(j k:Nat),ow[j]?=some (some k)->∃h,l[k]?=some h/\∃n,(sq m h n).j=j/\∀n',n' < n->Taken ow (sq m h n').j
theorem Own.nil(m:Nat):Own m (Array.replicate (m+1) none) []:=by
 have hno:∀(j k:Nat),¬(Array.replicate (m+1) (none:Option Nat))[j]?=some (some k):=fun j k e=>by
  rw[Array.getElem?_replicate] at e;split at e<;>simp at e
 exact⟨by simp,fun k hk=>by simp at hk,fun j j' k e=>absurd e (hno j k),fun j k e=>absurd e (hno j k)⟩
theorem Own.room{m:Nat}{ow:Array (Option Nat)}{l:List Int}(O:Own m ow l)(hl:l.length≤m):∃e,e≤m/\¬Taken ow e:=by
 refine Classical.byContradiction fun hn=>?_;have hall:∀e,e≤m->Taken ow e:=fun e he=>Classical.byContradiction fun q=>hn ⟨e,he,q⟩;obtain⟨g,hg⟩:∃g:Nat->Nat,∀k,k<l.length->ow[g k]?=some (some k):=by
  refine⟨fun k=>if q:k<l.length then (O.all k q).choose else 0,fun k hk=>?_⟩;dsimp only;rw[dif_pos hk];exact (O.all k hk).choose_spec
 have hlen:=qffz (m+1) ((List.range l.length).map g) fun e he=>by
  obtain⟨k,hk⟩:=hall e (by lia);obtain⟨h,e1,_⟩:=O.reach e k hk;have hkl:=(List.getElem?_eq_some_iff.mp e1).1;exact List.mem_map.mpr ⟨k,List.mem_range.mpr hkl,O.one _ _ k (hg k hkl) hk⟩
 simp at hlen;lia
theorem Own.add{m:Nat}(hm:Masky m){ow:Array (Option Nat)}{l:List Int}{h:Int}(O:Own m ow l)(hl:l.length≤m):
  ∃j,layClean.free m ow (turns m) (bits h%(m+1)) (bits h)=some j/\Own m (ow.setIfInBounds j (some l.length)) (l++[h]):=by
 obtain⟨e,he,ne⟩:=O.room hl;obtain⟨n0,hn0,en0⟩:=period hm (qfdz m h 13) (show e<m+1 by lia);obtain⟨ke,h1,h2,h3⟩:=qi1z hm (h:=h) O.size (turns m) 0 0 rfl (fun k hk=>by lia) ⟨13+n0,by lia,by unfold turns;lia,by rw[qfcz,en0];exact ne⟩;refine⟨(sq m h ke).j,h1,?_⟩;have hj:(sq m h ke).j<ow.size:=by
  have:=(qi0z hm h ke).1;rw[O.size];lia
 have hget:∀j:Nat,(ow.setIfInBounds (sq m h ke).j (some l.length))[j]?=if (sq m h ke).j=j then some (some l.length) else ow[j]?:=fun j=>by
  rw[Array.getElem?_setIfInBounds];by_cases e:(sq m h ke).j=j
  ·rw[if_pos e,if_pos e,if_pos (by lia)]
  ·rw[if_neg e,if_neg e]
 have tk:∀j,Taken ow j->Taken (ow.setIfInBounds (sq m h ke).j (some l.length)) j:=fun j ⟨k,hk⟩=>by
  unfold Taken;rw[hget];by_cases e:(sq m h ke).j=j
  ·exact⟨_,if_pos e⟩
  ·exact⟨k,by rw[if_neg e];exact hk⟩
 have lt_of:∀j k:Nat,ow[j]?=some (some k)->k<l.length:=fun j k e=>by
  obtain⟨h',e1,_⟩:=O.reach j k e;exact (List.getElem?_eq_some_iff.mp e1).1
 refine⟨by rw[Array.size_setIfInBounds];exact O.size,fun k hk=>?_,fun j j' k q q'=>?_,fun j k q=>?_⟩
 ·rw[List.length_append,List.length_singleton] at hk;by_cases hkl:k<l.length
  ·obtain⟨j,hj'⟩:=O.all k hkl;refine⟨j,?_⟩;rw[hget,if_neg (fun e=>h2 ⟨k,by rw[e];exact hj'⟩)];exact hj'
  ·have:k=l.length:=by lia
   exact⟨(sq m h ke).j,by rw[hget,if_pos rfl,this]⟩
 ·rw[hget] at q q';by_cases e:(sq m h ke).j=j
  ·rw[if_pos e] at q;by_cases e':(sq m h ke).j=j'
   ·lia
   ·rw[if_neg e'] at q';cases q;exact absurd (lt_of _ _ q') (Nat.lt_irrefl _)
  ·rw[if_neg e] at q;by_cases e':(sq m h ke).j=j'
   ·rw[if_pos e'] at q';cases q';exact absurd (lt_of _ _ q) (Nat.lt_irrefl _)
   ·rw[if_neg e'] at q';exact O.one j j' k q q'
 ·rw[hget] at q;by_cases e:(sq m h ke).j=j
  ·rw[if_pos e] at q;cases q;exact⟨h,by simp,ke,e,fun n' hn'=>tk _ (h3 n' hn')⟩
  ·rw[if_neg e] at q;obtain⟨h',e1,n,e2,e3⟩:=O.reach j k q;exact⟨h',by rw[List.getElem?_append_left (lt_of j k q)];exact e1,n,e2,fun n' hn'=>tk _ (e3 n' hn')⟩
theorem qi2z{m:Nat}(hm:Masky m):∀(l' l:List Int) (ow:Array (Option Nat)),Own m ow l->l.length+l'.length≤m+1 ->
  ∃ow',(l'.foldl (fun (acc:Option (Array (Option Nat)×Nat)) h=>do
   let (owner,k) ←acc
   let j ←layClean.free m owner (turns m) (bits h%(m+1)) (bits h)
   pure (owner.setIfInBounds j (some k),k+1)) (some (ow,l.length)))=some (ow',(l++l').length)/\Own m ow' (l++l')
 |[],l,ow,O,_=>⟨ow,by simp,by simpa using O⟩
 |h::l',l,ow,O,hl=>by
  rw[List.length_cons] at hl
  obtain⟨j,e,O'⟩:=O.add hm (h:=h) (by lia)
  obtain⟨ow',e2,O2⟩:=qi2z hm l' (l++[h]) _ O' (by simp;lia)
  refine⟨ow',?_,by simpa using O2⟩
  rw[List.foldl_cons]
  have hs:(do
   let (owner,k) ←(some (ow,l.length):Option (Array (Option Nat)×Nat))
   let j ←layClean.free m owner (turns m) (bits h%(m+1)) (bits h)
   pure (owner.setIfInBounds j (some k),k+1))=some (ow.setIfInBounds j (some l.length),(l++[h]).length):=by
   show (do
    let j ←layClean.free m ow (turns m) (bits h%(m+1)) (bits h)
    pure (ow.setIfInBounds j (some l.length),l.length+1))=_
   rw[e]
   simp
  rw[hs,e2]
  simp
theorem qfhz{α:Type}:∀l:List α,((List.range l.length).filterMap fun k=>l[k]?)=l
 |[]=>rfl
 |a::l=>by
  rw[List.length_cons,List.range_succ_eq_map,List.filterMap_cons_some (b:=a) (by simp),List.filterMap_map];have ih:=qfhz l;congr 1
theorem qrgz{α:Type}(xs:Array α):((List.range xs.size).filterMap fun k=>xs[k]?)=xs.toList:=by
 have:=qfhz xs.toList;simpa using this
theorem qrhz{m finger moves:Nat}{led plain:Bool}(hm:Masky m)(hs:Array Int)(hl:hs.size*5<m*3):
  ∃t order,laid m finger moves led plain hs=some (t,order)/\t.mask=m/\t.led=led/\t.plain=plain/\t.finger=finger/\order.toList.Perm (List.range hs.size)/\Tab t (order.toList.filterMap fun k=>hs[k]?):=by
 obtain⟨ow,e,O⟩:=qi2z hm hs.toList [] _ (Own.nil m) (by simp;lia);rw[List.nil_append] at e O;have hlc:layClean m hs=some ow:=by
  unfold layClean;rw[←Array.foldl_toList];have e':=congrArg (Option.map fun x:Array (Option Nat)×Nat=>x.1) e;exact e'
 have hmem:∀j k,(j,k)∈((List.range (m+1)).filterMap fun j=>(ow.getD j none).map (j,·))↔ow[j]?=some (some k):=fun j k=>by
  rw[List.mem_filterMap];constructor
  ·rintro⟨a,ha,q⟩;have ha':=List.mem_range.mp ha;cases ho:ow.getD a none with
   |none=>rw[ho] at q;cases q
   |some k'=>
    rw[ho] at q;cases q;have:ow.getD j none=ow[j]'(by rw[O.size];exact ha'):=by simp[Array.getD,O.size,ha']
    rw[this] at ho;rw[Array.getElem?_eq_getElem (by rw[O.size];exact ha'),ho]
  ·intro q;have hj:=(Array.getElem?_eq_some_iff.mp q).1;rw[O.size] at hj;refine⟨j,List.mem_range.mpr hj,?_⟩;have:ow.getD j none=some k:=by
    rw[Array.getD_eq_getD_getElem?,q];rfl
   rw[this];rfl
 generalize hL:((List.range (m+1)).filterMap fun j=>(ow.getD j none).map (j,·))=L at hmem;have rise:L.Pairwise fun a b=>a.1<b.1:=by
  rw[←hL];refine List.Pairwise.filterMap _ (fun a a' hlt b hb b' hb'=>?_) (List.pairwise_lt_range (n:=m+1));cases ho:ow.getD a none with
  |none=>rw[ho] at hb;cases hb
  |some k=>
   rw[ho] at hb;cases hb;cases ho':ow.getD a' none with
   |none=>rw[ho'] at hb';cases hb'
   |some k'=>
    rw[ho'] at hb';cases hb';exact hlt
 have nd:(L.map (·.2)).Nodup:=by
  refine List.Pairwise.map _ (R:=fun a b=>a.2≠b.2) (fun _ _ z=>z) ?_;refine List.Pairwise.imp_of_mem (fun {a b} ha hb hab=>?_) rise;intro q;obtain⟨j,k⟩:=a;obtain⟨j',k'⟩:=b;have ea:=(hmem j k).mp ha;have eb:=(hmem j' k').mp hb;have hab':j<j':=hab;have q':k=k':=q;subst q';have:=O.one j j' k ea eb;lia
 have hperm:(L.map (·.2)).Perm (List.range hs.size):=by
  refine (List.perm_ext_iff_of_nodup nd List.nodup_range).mpr fun k=>?_;rw[List.mem_map,List.mem_range];constructor
  ·rintro⟨⟨j,k'⟩,hjk,rfl⟩;obtain⟨h,e1,_⟩:=O.reach j k' ((hmem j k').mp hjk);have:=(List.getElem?_eq_some_iff.mp e1).1;simpa using this
  ·intro hk;obtain⟨j,ej⟩:=O.all k (by simpa using hk);exact⟨(j,k),(hmem j k).mpr ej,rfl⟩
 -- the hashes in the slots' order
 have hzip:∀j h,(j,h)∈(L.map (·.1)).zip ((L.map (·.2)).filterMap fun k=>hs[k]?)->∃k,(j,k)∈L/\hs[k]?=some h:=by
  have hall:∀p∈L,∃h,hs[p.2]?=some h:=fun p hp=>by
   obtain⟨h,e1,_⟩:=O.reach p.1 p.2 ((hmem p.1 p.2).mp hp);exact⟨h,by rw[←Array.getElem?_toList];exact e1⟩
  clear hmem rise nd hperm hL
  induction L with
  |nil=>intro j h q;cases q
  |cons p L ih=>
   intro j h q;obtain⟨h0,e0⟩:=hall p List.mem_cons_self;rw[List.map_cons,List.map_cons,List.filterMap_cons_some e0,List.zip_cons_cons] at q;rcases List.mem_cons.mp q with q|q
   ·cases q;exact⟨p.2,List.mem_cons_self,e0⟩
   ·obtain⟨k,q1,q2⟩:=ih (fun p hp=>hall p (List.mem_cons_of_mem _ hp)) j h q;exact⟨k,List.mem_cons_of_mem _ q1,q2⟩
 have hlenL:((L.map (·.2)).filterMap fun k=>hs[k]?).length=L.length:=by
  have h1:=(hperm.filterMap fun k=>hs[k]?).length_eq;rw[qrgz] at h1;have h3:=hperm.length_eq;rw[List.length_map,List.length_range] at h3;rw[h1,h3];simp
 refine⟨_,_,by unfold laid;rw[hlc];rfl,rfl,rfl,rfl,rfl,?_,?_⟩
 ·rw[hL];exact hperm
 ·rw[hL];have hlen:L.length=hs.size:=by
   have:=hperm.length_eq;simpa using this
  refine⟨hm,?_,?_,fun j hj=>?_,rfl,?_,fun j h hj=>?_⟩
  ·rw[hlenL];simp
  ·exact List.Pairwise.map _ (fun _ _ z=>z) rise
  ·obtain⟨⟨j',k⟩,hp,rfl⟩:=List.mem_map.mp hj;have:=(Array.getElem?_eq_some_iff.mp ((hmem j' k).mp hp)).1;rw[O.size] at this;show j'≤m;lia
  ·rw[hlenL,hlen];exact hl
  ·obtain⟨k,q1,q2⟩:=hzip j h hj;obtain⟨h',e1,n,e2,e3⟩:=O.reach j k ((hmem j k).mp q1);have eh:h'=h:=by
    rw[Array.getElem?_toList,q2] at e1;exact (Option.some.inj e1).symm
   subst eh;refine⟨n,e2,fun n' hn'=>?_⟩;obtain⟨k',hk'⟩:=e3 n' hn';exact List.mem_map.mpr ⟨(_,k'),(hmem _ k').mpr hk',rfl⟩
end SetP
namespace SetM
open PySem SetP
section
variable {prog:Program} {w:World} {A:Around} {E:Value->Shared->Prop} {s:Shared}
abbrev hk(prog:Program)(w:World)(ks:List Int):Int:=tupleKeyHash (intKind prog w) ks
abbrev IsK(prog:Program)(w:World)(h:Heap)(ks:List Int)(a:Addr):Prop:=IsTupleKey (intKind prog w) h ks a
def ent(prog:Program)(w:World)(p:List Int×Addr):Int×Value:=(hk prog w p.1,.ref p.2)
structure SetAt(prog:Program)(w:World)(h:Heap)(a:Addr)(o:Obj)(es:Array (Int×Value))(ep:Nat)(t:SetTable)(xs:List (List Int×Addr)):Prop where
 at_:h.get? a=some o
 ex:o.ExactSet
 dat:o.data=.set es ep t
 ents:es.toList=xs.map (ent prog w)
 keys:∀p∈xs,IsK prog w h p.1 p.2
 nd:(xs.map (·.1)).Nodup
 plain:t.plain=true
 led:t.led = !(w.params.followText "set-order")
theorem qcqz{es:Array (Int×Value)}:(es.toList.map (·.1)).length=es.size:=by simp
theorem qbsz{es:Array (Int×Value)}{t:SetTable}(T:TabR t (es.toList.map (·.1))):t.fits es.size=true:=by
 unfold SetTable.fits;have h1:=T.size;rw[qcqz] at h1;have h2:=T.fit;rw[qcqz] at h2;have h3:t.fill=es.size:=by
  unfold SetTable.fill;rw[h1,T.nodum];rfl
 rw[h3,h1];simp;exact h2
theorem Tab.r{t:SetTable}{hs:List Int}(T:Tab t hs):TabR t hs:=by
 refine⟨T.mask,T.size,T.rise,T.bound,T.nodum,?_,T.reach⟩;have:=T.room;lia
theorem qriz{t:SetTable}(h:Masky t.mask):t.gaveWay=false:=by
 unfold SetTable.gaveWay;rcases h with e|e|e<;>rw[e]<;>rfl
theorem qrjz(n:Nat){v:Value}(h:carriedByValue v=true):ofAClassStatement n v=pure false:=by
 cases v with
 |ref a=>simp[carriedByValue] at h
 |_=>first|rfl|(cases n<;>rfl)
theorem qi3z{ks:List Int}{a:Addr}{Q:Bool->Shared->Prop}(hx:IsK prog w s.heap ks a)(h:Q false s):wpAny (model prog w) A (ofAClassStatement 8 (.ref a)) Q E s:=by
 have hT:=hx.typeIs;obtain⟨o,items,n,ho,hc,hd,hi⟩:=hx;unfold ofAClassStatement;refine wpAny_bind (wpAny_typeOf hT ?_);dsimp only;rw[if_pos (by decide)];refine wpAny_bind (wpAny_pure ?_);rw[if_neg (by decide)];refine wpAny_bind (wpAny_seqItems ho hd ?_);dsimp only;refine wpAny_bind ?_;rw[←Array.forIn_toList];refine wpAny_forIn_list _ (fun rest r s'=>r.1=none/\s'=s/\∀v∈rest,carriedByValue v=true) _ ?_ ?_ _ _ ⟨rfl,rfl,hi.byValue⟩
 ·rintro v rest r s' ⟨hr,rfl,hall⟩;rw[qrjz _ (hall v List.mem_cons_self)];refine wpAny_bind (wpAny_pure ?_);rw[if_neg Bool.false_ne_true];exact wpAny_pure ⟨rfl,rfl,fun u hu'=>hall u (List.mem_cons_of_mem _ hu')⟩
 ·rintro⟨r1,r2⟩ s' ⟨hr,rfl,_⟩;simp only at hr;subst hr;exact wpAny_pure h
theorem qrkz{ks:List Int}{a:Addr}{Q:Bool->Shared->Prop}(hx:IsK prog w s.heap ks a)(l:List Value)(hl:∀v∈l,∃k y,v=.ref y/\IsK prog w s.heap k y)(h:Q false s):
  wpAny (model prog w) A (searchCouldBeSeen (.ref a) l) Q E s:=by
 unfold searchCouldBeSeen;refine wpAny_bind ?_;refine wpAny_forIn_list _ (fun rest r s'=>r.1=none/\s'=s/\∀v∈rest,∃k y,v=.ref y/\IsK prog w s.heap k y) _ ?_ ?_ _ _ ⟨rfl,rfl,hl⟩
 ·rintro v rest r s' ⟨hr,rfl,hall⟩;obtain⟨k,y,rfl,hy⟩:=hall v List.mem_cons_self;have hrest:∀v∈rest,∃k y,v=Value.ref y/\IsK prog w s'.heap k y:=fun v hv=>hall v (List.mem_cons_of_mem _ hv);dsimp only;by_cases hc:((a==y)||(carriedByValue (.ref a)&&carriedByValue (.ref y)))=true
  ·rw[if_pos hc];exact wpAny_pure ⟨rfl,rfl,hrest⟩
  ·rw[if_neg hc];refine wpAny_bind (wpAny_eqIsQuiet_tuple hx ?_);rw[if_neg (by decide)];refine wpAny_bind (wpAny_eqIsQuiet_tuple hy ?_);rw[if_neg (by decide)];refine wpAny_bind (qi3z hx ?_);rw[if_neg Bool.false_ne_true];refine wpAny_bind (qi3z hy ?_);rw[if_neg Bool.false_ne_true];exact wpAny_pure ⟨rfl,rfl,hrest⟩
 ·rintro⟨r1,r2⟩ s' ⟨hr,rfl,_⟩;simp only at hr;subst hr;exact wpAny_pure h
theorem qrlz{ks:List Int}{a:Addr}{Q:Bool->Shared->Prop}(hx:IsK prog w s.heap ks a)(h:Q true s):wpAny (model prog w) A (hashByValue 8 (.ref a)) Q E s:=by
 have hT:=hx.typeIs;obtain⟨o,items,n,ho,hc,hd,hi⟩:=hx;unfold hashByValue;refine wpAny_bind (wpAny_specialOf hT F.slot_tuple_hash.lookup ?_);dsimp only;refine wpAny_bind (wpAny_seqItems ho hd ?_);refine wpAny_bind ?_;show wpAny _ _ (forIn items _ _) _ _ s;rw[←Array.forIn_toList];refine wpAny_forIn_list _ (fun rest r s'=>r.1=none/\s'=s/\∃l,ItemsAre (intKind prog w) l rest) _ ?_ ?_ _ _ ⟨rfl,rfl,ks,hi⟩
 ·rintro v rest r s' ⟨hr,rfl,l,hl⟩;cases hl with
  |@cons k v' _ _ h1 h2=>
   obtain⟨tk,rfl⟩:=Value.isInt_shape (k:=k) h1;have e:hashByValue 7 (.int k tk)=pure true:=by rfl
   rw[e];refine wpAny_bind (wpAny_pure ?_);rw[if_neg (by decide)];exact wpAny_pure ⟨rfl,rfl,_,h2⟩
 ·rintro⟨r1,r2⟩ s' ⟨hr,rfl,_⟩;simp only at hr;subst hr;exact wpAny_pure h
theorem qrmz{es:Array (Int×Value)}{xs:List (List Int×Addr)}(he:es.toList=xs.map (ent prog w)){i:Nat}(hi:i<es.size):∃p,xs[i]?=some p/\es[i]?=some (ent prog w p):=by
 have hl:xs.length=es.size:=by
  have:=congrArg List.length he;simpa using this.symm
 obtain⟨p,hp⟩:∃p,xs[i]?=some p:=⟨xs[i]'(by lia),List.getElem?_eq_getElem (by lia)⟩;refine⟨p,hp,?_⟩;rw[←Array.getElem?_toList,he,List.getElem?_map,hp];rfl
theorem qi4z{a:Addr}{o:Obj}{es:Array (Int×Value)}{ep:Nat}{t:SetTable}{xs:List (List Int×Addr)}(S:SetAt prog w s.heap a o es ep t xs)(T:Tab t (es.toList.map (·.1)))(hu:A.units<cLine)
  {ks:List Int} {x:Addr} (hx:IsK prog w s.heap ks x) {ke:Nat} (hke:ke≤10*t.mask+130) (hemp:(sq t.mask (hk prog w ks) ke).j∉t.place.toList) (hliv:∀k,k<ke->(sq t.mask (hk prog w ks) k).j∈t.place.toList)
  {Q:SetFound->Shared->Prop} (hin:ks∈xs.map (·.1)->Q (.there none) s) (hout:ks∉xs.map (·.1)->Q (.free (sq t.mask (hk prog w ks) ke).j false) s):
  ∀(fuel n:Nat) (stand:Option SetTable.Probe),stand.getD (t.probeStart (hk prog w ks))=sq t.mask (hk prog w ks) n->n≤ke->ke-n<fuel ->
   (∀(k' i':Nat) p,k' < n->t.place[i']?=some (sq t.mask (hk prog w ks) k').j->xs[i']?=some p->p.1≠ks) ->
   wpAny (model prog w) A (setSearchFrom a (.ref x) (hk prog w ks) true fuel stand) Q E s
 |0,n,stand,_,_,hf,_=>by lia
 |fuel+1,n,stand,hst,hn,hf,hprev=>by
  have hsz:t.place.size=es.size:=by
   have:=T.size
   rw[qcqz] at this
   exact this
  have hfit:=qbsz (Tab.r T)
  have hal:∀(i:Nat) (p:List Int×Addr),xs[i]?=some p->((es[i]?).map fun z:Int×Value=>z.1).getD 0=hk prog w p.1:=fun i p hp=>by
   rw[←Array.getElem?_toList,S.ents,List.getElem?_map,hp]
   rfl
  unfold setSearchFrom
  refine wpAny_bind (wpAny_setState_of S.at_ S.dat hfit ?_)
  dsimp only
  rw[qriz T.mask,if_neg Bool.false_ne_true,hst]
  obtain⟨met,e,m⟩:=qrez T (hashAt:=fun i=>((es[i]?).map fun z:Int×Value=>z.1).getD 0) hke hemp hliv hn
  erw [e]
  dsimp only
  cases m with
  |free h1 h5=>
   dsimp only
   refine wpAny_pure (hout fun hmem=>?_)
   obtain⟨p,hp,rfl⟩:=List.mem_map.mp hmem
   obtain⟨i,hi⟩:=List.getElem?_of_mem hp
   have hil:i<es.size:=by
    have h1:=(List.getElem?_eq_some_iff.mp hi).1
    have h2:=congrArg List.length S.ents
    simp at h2
    lia
   have hj:∃j,t.place[i]?=some j:=⟨t.place[i]'(by lia),by simp⟩
   obtain⟨j,hj⟩:=hj
   have hz:(j,hk prog w p.1)∈t.place.toList.zip (es.toList.map (·.1)):=by
    refine List.mem_of_getElem? (i:=i) ?_
    rw[List.getElem?_zip_eq_some]
    refine⟨by rw[Array.getElem?_toList];exact hj,?_⟩
    rw[S.ents,List.map_map,List.getElem?_map,hi]
    rfl
   obtain⟨k,hk1,hk2⟩:=T.reach _ _ hz
   have hkke:k<ke:=by
    refine Classical.byContradiction fun z=>hemp ?_
    by_cases q:k=ke
    ·rw[←q,hk1]
     exact List.mem_of_getElem? (by rw[Array.getElem?_toList];exact hj)
    ·exact hk2 ke (by lia)
   rw[←hk1] at hj
   by_cases hkn:k<n
   ·exact hprev k i p hkn hj hi rfl
   ·exact h5 k i (by lia) hkke hj (hal i p hi)
  |@cand k i h1 h2 h3 h4 h5=>
   dsimp only
   have hil:i<es.size:=by
    have:=(Array.getElem?_eq_some_iff.mp h3).1
    lia
   obtain⟨p,hp,hesi⟩:=qrmz S.ents hil
   have hyk:=S.keys p (List.mem_of_getElem? hp)
   have hpk:p∈xs:=List.mem_of_getElem? hp
   have go:wpAny (model prog w) A (do
     let some (_,y):=es[i]? | unsupported "internal:set-entry"
     let equal ←holding [y] (eqBool y (.ref x))
     let (es',_,t') ←setState a
     if true&&equal then return .there none
     let some same:=t'.sameMemory t.moves t.mask|unsupported "set.changed-during-lookup:is-the-new-block-at-the-old-address"
     let still ←match (if same then t'.slot (sq t.mask (hk prog w ks) k).j else .empty) with
      |.live i'=>match es'[i']? with
       |some (_,y')=>do pure (if ←isSame y' y then some i' else none)
       |none=>pure none
      |_=>pure none
     match still with
     |none=>rule "set.search.anew";setSearchFrom a (.ref x) (hk prog w ks) true fuel none
     | some i'=>if equal then return .there (some i') else setSearchFrom a (.ref x) (hk prog w ks) true fuel (some (sq t.mask (hk prog w ks) (k+1)))) Q E s:=by
    rw[hesi]
    dsimp only[ent]
    refine wpAny_bind (wpAny_holding (wpAny_eqBool_tuple hu hyk hx ?_))
    refine wpAny_bind (wpAny_setState_of S.at_ S.dat hfit ?_)
    dsimp only
    by_cases heq:p.1=ks
    ·rw[decide_eq_true heq,if_pos (by decide)]
     exact wpAny_pure (hin (List.mem_map.mpr ⟨p,hpk,heq⟩))
    ·rw[decide_eq_false heq,if_neg (by decide)]
     have hsm:t.sameMemory t.moves t.mask=some true:=by unfold SetTable.sameMemory;simp
     rw[hsm]
     dsimp only
     rw[if_pos rfl,qixz T.rise h3]
     dsimp only
     rw[hesi]
     dsimp only[ent]
     refine wpAny_bind (wpAny_isSame_ref_self ?_)
     rw[if_pos rfl]
     refine wpAny_bind (wpAny_pure ?_)
     dsimp only
     rw[if_neg Bool.false_ne_true]
     refine qi4z S T hu hx hke hemp hliv hin hout fuel (k+1) _ rfl (by lia) (by lia) fun k' i' p' hk' hpl hp'=>?_
     by_cases hkn:k' < n
     ·exact hprev k' i' p' hkn hpl hp'
     ·by_cases hkk:k'=k
      ·subst hkk
       have e1:=below_at T.rise h3
       have e2:=below_at T.rise hpl
       have:i'=i:=by lia
       subst this
       rw[hp] at hp'
       cases hp'
       exact heq
      ·intro he
       exact h5 k' i' (by lia) (by lia) hpl (by rw[hal i' p' hp',he])
   by_cases hled:t.led=true
   ·rw[hled]
    rw[if_neg (by decide)]
    exact go
   ·have hled':t.led=false:=by simpa using hled
    rw[hled']
    rw[if_pos (by decide)]
    refine wpAny_bind (qrkz hx _ (fun v hv=>?_) ?_)
    ·obtain⟨e0,he0,rfl⟩:=List.mem_map.mp hv
     have he1:e0∈es.toList:=by
      have:=Array.mem_toList_iff.mp he0
      exact Array.mem_toList_iff.mpr (Array.mem_filter.mp this).1
     rw[S.ents] at he1
     obtain⟨p0,hp0,rfl⟩:=List.mem_map.mp he1
     exact⟨p0.1,p0.2,rfl,S.keys p0 hp0⟩
    ·rw[if_neg Bool.false_ne_true]
     exact go
end
end SetM
namespace SetM
open PySem SetP
section
variable {prog:Program} {w:World} {A:Around} {E:Value->Shared->Prop} {s:Shared}
def SetOn(prog:Program)(w:World)(h:Heap)(a:Addr)(xs:List (List Int×Addr)):Prop:=
 ∃o es ep t,SetAt prog w h a o es ep t xs/\Tab t (es.toList.map (·.1))
theorem qdzz{h h':Heap}{a y:Addr}{ks:List Int}{o:Obj}{es:Array (Int×Value)}{ep:Nat}{t:SetTable}(ho:h.get? a=some o)(hd:o.data=.set es ep t)(sb:Heap.SameBut a h h')(hy:IsK prog w h ks y):IsK prog w h' ks y:=by
 obtain⟨oy,items,n,hoy,hc,hdy,hi⟩:=hy;have ne:y≠a:=by
  intro e;subst e;rw[ho] at hoy;cases hoy;rw[hd] at hdy;cases hdy
 exact⟨oy,items,n,(sb.2 y ne).trans hoy,hc,hdy,hi⟩
theorem qi5z{h:Heap}{a:Addr}{o:Obj}{es es':Array (Int×Value)}{ep:Nat}{t t':SetTable}(ho:h.get? a=some o)(hd:o.data=.set es ep t):
  (h.update a (Obj.putSet es' t')).get? a=some { o with data:=.set es' (ep+1) t' }:=by
 have q:=Heap.get?_update_self (Obj.putSet es' t') ho (by rw[putSet_of es' t' hd];rfl);rw[putSet_of es' t' hd] at q;exact q
theorem qrnz:∀n,n<8->5≤n->SetTable.sizeAbove (SetTable.grown n)=32:=by decide +kernel
theorem qroz:∀n,n<32->19≤n->SetTable.sizeAbove (SetTable.grown n)=128:=by decide +kernel
theorem qrpz{t:SetTable}{hs:List Int}(T:TabR t hs)(hf:t.tooFull=true)(h64:hs.length≤64):∃m,SetTable.sizeAbove (SetTable.grown hs.length)=m+1/\Masky m/\hs.length*5<m*3/\m+1≤128:=by
 have hfill:t.fill=hs.length:=by
  unfold SetTable.fill;rw[T.size,T.nodum];rfl
 have h':hs.length*5≥t.mask*3:=by
  unfold SetTable.tooFull at hf;rw[hfill] at hf;simpa using hf
 have hfit:=T.fit;rcases T.mask with e|e|e
 ·rw[e] at h' hfit;exact⟨31,qrnz _ (by lia) (by lia),.inr (.inl rfl),by lia,by lia⟩
 ·rw[e] at h' hfit;exact⟨127,qroz _ (by lia) (by lia),.inr (.inr rfl),by lia,by lia⟩
 ·rw[e] at h';lia
theorem qrqz{α β:Type}(f:α->β)(l:List α)(o:List Nat):(o.filterMap fun k=>(l.map f)[k]?)=(o.filterMap fun k=>l[k]?).map f:=by
 rw[List.map_filterMap];congr 1;funext k;rw[List.getElem?_map]
theorem qrrz{a:Addr}{o:Obj}{es:Array (Int×Value)}{ep:Nat}{t:SetTable}{xs:List (List Int×Addr)}(S:SetAt prog w s.heap a o es ep t xs)(T:TabR t (es.toList.map (·.1)))(hf:t.tooFull=true)(h64:es.size≤64)
  {Q:Unit->Shared->Prop} (h:∀h' xs',Heap.SameBut a s.heap h'->SetOn prog w h' a xs'->xs'.Perm xs->Q () { s with heap:=h' }):
  wpAny (model prog w) A (setRelay a (SetTable.grown es.size)) Q E s:=by
 have hsz:(es.toList.map (·.1)).length=es.size:=qcqz
 obtain⟨m,hm1,hm2,hm3,hm4⟩:=qrpz T hf (by rw[hsz];exact h64)
 rw[hsz] at hm1 hm3
 unfold setRelay
 refine wpAny_bind (wpAny_setState_of S.at_ S.dat (qbsz T) ?_)
 dsimp only
 rw[hm1,if_neg (by rw[sizeLine_eq];lia)]
 obtain⟨t2,order,e2,em,el,ep2,ef,hperm,T2⟩:=qrhz (finger:=t.finger) (moves:=t.movedTo m) (led:=t.led) (plain:=t.plain) hm2 (es.map (·.1)) (by simpa using hm3)
 have erel:t.relaid (es.map (·.1)) (SetTable.grown es.size)=some (t2,order):=by
  unfold SetTable.relaid
  rw[hm1,Nat.add_sub_cancel]
  exact e2
 have hosz:(es.map (·.1)).size=es.size:=by simp
 rw[hosz] at hperm
 have hes2:(order.filterMap (es[·]?)).toList=(order.toList.filterMap fun k=>xs[k]?).map (ent prog w):=by
  rw[Array.toList_filterMap,←qrqz,←S.ents]
  congr 1
  funext k
  rw[Array.getElem?_toList]
 have hxl:xs.length=es.size:=by
  have:=congrArg List.length S.ents
  simpa using this.symm
 have hxp:(order.toList.filterMap fun k=>xs[k]?).Perm xs:=by
  have:=hperm.filterMap fun k=>xs[k]?
  rw[←hxl,qfhz] at this
  exact this
 have hsz2:(order.filterMap (es[·]?)).size=es.size:=by
  have:=congrArg List.length hes2
  simp only[List.length_map] at this
  rw[hxp.length_eq,hxl] at this
  rw[←Array.length_toList]
  exact this
 refine wpAny_bind ?_
 show wpAny _ _ (do
  let some (t,order):=t.relaid (es.map (·.1)) (SetTable.grown es.size)|unsupported "internal:set-table-without-room"
  let es':=order.filterMap (es[·]?)
  if es'.size != es.size then unsupported "internal:set-table-lost-an-element"
  pure (es',t)) _ _ _
 rw[erel]
 dsimp only
 rw[hsz2,if_neg (by simp)]
 refine wpAny_pure ?_
 dsimp only
 refine wpAny_storeSet_of S.at_ S.dat ?_ (by rw[hsz2,sizeLine_eq];lia)
 have sb:=Heap.SameBut.update s.heap a (Obj.putSet (order.filterMap (es[·]?)) t2)
 refine h _ _ sb ⟨_,_,_,_,⟨qi5z S.at_ S.dat,⟨S.ex.1,S.ex.2.1,S.ex.2.2⟩,rfl,hes2,fun p hp=>qdzz S.at_ S.dat sb (S.keys p (hxp.mem_iff.mp hp)),?_,ep2.trans S.plain,el.trans S.led⟩,?_⟩ hxp
 ·exact (hxp.map _).nodup_iff.mpr S.nd
 ·have eT:(order.filterMap (es[·]?)).toList.map (·.1)=order.toList.filterMap fun k=>(es.map (·.1))[k]?:=by
   rw[Array.toList_filterMap,List.map_filterMap]
   congr 1
   funext k
   simp
  rw[eT]
  exact T2
theorem qrsz{a:Addr}{xs:List (List Int×Addr)}(S:SetOn prog w s.heap a xs)(h64:xs.length<64)(hu:A.units<cLine){ks:List Int}{x:Addr}(hx:IsK prog w s.heap ks x)
  {Q:Bool->Shared->Prop} (h:∀b h' tk xs',s.toks≤tk->Heap.SameBut a s.heap h'->SetOn prog w h' a xs'->(ks∈xs.map (·.1)->xs'.Perm xs)->(ks∉xs.map (·.1)->xs'.Perm ((ks,x)::xs))->Q b { s with heap:=h',toks:=tk }):
  wpAny (model prog w) A (setAdd a (.ref x)) Q E s:=by
 obtain⟨o,es,ep,t,S,T⟩:=S;have hxl:xs.length=es.size:=by
  have:=congrArg List.length S.ents;simpa using this.symm
 unfold setAdd;refine wpAny_holding (wpAny_bind (wpAny_pyHash_tuple hu hx ?_));unfold setAddHashed;refine wpAny_holding ?_;have hend:∀b h' xs',Heap.SameBut a s.heap h'->SetOn prog w h' a xs'->(ks∈xs.map (·.1)->xs'.Perm xs)->(ks∉xs.map (·.1)->xs'.Perm ((ks,x)::xs))->Q b { s with heap:=h',toks:=s.toks+(ks.length+1)}:=
  fun b h' xs' q1 q2 q3 q4=>h b h' _ xs' (Nat.le_add_right _ _) q1 q2 q3 q4
 obtain⟨ke,hke,hemp,hliv⟩:=qrdz T (hk prog w ks);unfold setAddHashedIn;refine wpAny_bind (wpAny_setState_of (s:={ s with toks:=s.toks+(ks.length+1)}) S.at_ S.dat (qbsz (Tab.r T)) ?_);dsimp only;rw[show byScan (.ref x) es=false from rfl,if_neg Bool.false_ne_true];refine wpAny_bind ?_;unfold setSearch;refine qi4z (s:={ s with toks:=s.toks+(ks.length+1)}) S T hu hx hke hemp hliv (fun hin=>?_) (fun hout=>?_) 100000 0 none rfl (Nat.zero_le _) (by rcases T.mask with e|e|e<;>rw[e] at hke<;>lia) fun k' i' p hk'=>absurd hk' (Nat.not_lt_zero _)
 ·dsimp only;exact wpAny_pure (hend false s.heap xs (.refl _ _) ⟨o,es,ep,t,S,T⟩ (fun _=>.refl _) fun z=>absurd hin z)
 ·dsimp only;refine wpAny_bind (wpAny_setState_of (s:={ s with toks:=s.toks+(ks.length+1)}) S.at_ S.dat (qbsz (Tab.r T)) ?_);dsimp only;rw[qrfz T.nodum];dsimp only;rw[S.plain,if_pos rfl];refine wpAny_bind (qrlz (s:={ s with toks:=s.toks+(ks.length+1)}) hx ?_);rw[if_pos rfl];have TR:=T.put hemp hliv;generalize hp:SetTable.below t.place (sq t.mask (hk prog w ks) ke).j=p at TR ⊢;have hes1:(SetTable.insertAt es p (hk prog w ks,Value.ref x)).toList=(xs.take p++(ks,x)::xs.drop p).map (ent prog w):=by
   rw[qbrz,S.ents,List.map_append,List.map_cons,List.map_take,List.map_drop];rfl
  have hhs:(SetTable.insertAt es p (hk prog w ks,Value.ref x)).toList.map (·.1)=(es.toList.map (·.1)).take p++hk prog w ks::(es.toList.map (·.1)).drop p:=by
   rw[qbrz,List.map_append,List.map_cons,List.map_take,List.map_drop]
  have hsz1:(SetTable.insertAt es p (hk prog w ks,Value.ref x)).size=es.size+1:=by
   rw[←Array.length_toList,qbrz,(qcbz p es.toList _).length_eq,List.length_cons,Array.length_toList]
  rw[←hhs] at TR;refine wpAny_bind (wpAny_storeSet_of (s:={ s with toks:=s.toks+(ks.length+1)}) S.at_ S.dat ?_ (by rw[hsz1,sizeLine_eq];lia));have sb:=Heap.SameBut.update s.heap a (Obj.putSet (SetTable.insertAt es p (hk prog w ks,Value.ref x)) { t with place:=SetTable.insertAt t.place p (sq t.mask (hk prog w ks) ke).j,dummies:=#[],plain:=true });have hpx:(xs.take p++(ks,x)::xs.drop p).Perm ((ks,x)::xs):=qcbz p xs _;have S1:SetAt prog w (s.heap.update a (Obj.putSet (SetTable.insertAt es p (hk prog w ks,Value.ref x)) { t with place:=SetTable.insertAt t.place p (sq t.mask (hk prog w ks) ke).j,dummies:=#[],plain:=true })) a { o with data:=.set (SetTable.insertAt es p (hk prog w ks,Value.ref x)) (ep+1) { t with place:=SetTable.insertAt t.place p (sq t.mask (hk prog w ks) ke).j,dummies:=#[],plain:=true }} (SetTable.insertAt es p (hk prog w ks,Value.ref x)) (ep+1)
    { t with place:=SetTable.insertAt t.place p (sq t.mask (hk prog w ks) ke).j,dummies:=#[],plain:=true } (xs.take p++(ks,x)::xs.drop p):=by
   refine⟨qi5z S.at_ S.dat,⟨S.ex.1,S.ex.2.1,S.ex.2.2⟩,rfl,hes1,fun q hq=>?_,?_,rfl,S.led⟩
   ·rcases List.mem_cons.mp (hpx.mem_iff.mp hq) with e|e
    ·rw[e];exact qdzz S.at_ S.dat sb hx
    ·exact qdzz S.at_ S.dat sb (S.keys q e)
   ·refine (hpx.map _).nodup_iff.mpr ?_;rw[List.map_cons,List.nodup_cons];exact⟨hout,S.nd⟩
  have TR':TabR { t with place:=SetTable.insertAt t.place p (sq t.mask (hk prog w ks) ke).j,dummies:=#[],plain:=true } ((SetTable.insertAt es p (hk prog w ks,Value.ref x)).toList.map (·.1)):=
   ⟨TR.mask,TR.size,TR.rise,TR.bound,TR.nodum,TR.fit,TR.reach⟩
  by_cases hfull:({ t with place:=SetTable.insertAt t.place p (sq t.mask (hk prog w ks) ke).j,dummies:=#[],plain:=true }:SetTable).tooFull=true
  ·rw[hfull,if_pos (by decide)];refine wpAny_bind ?_;rw[←hsz1];refine qrrz (s:={ s with heap:=s.heap.update a _,toks:=s.toks+(ks.length+1)}) S1 TR' hfull (by rw[hsz1];lia) fun h' xs' sb' S2 pm=>?_;exact wpAny_pure (hend true h' xs' (sb.trans sb') S2 (fun z=>absurd z hout) fun _=>pm.trans hpx)
  ·have hfull':({ t with place:=SetTable.insertAt t.place p (sq t.mask (hk prog w ks) ke).j,dummies:=#[],plain:=true }:SetTable).tooFull=false:=by simpa using hfull
   rw[hfull',if_neg (by decide)];exact wpAny_pure (hend true _ _ sb ⟨_,_,_,_,S1,TR'.tab hfull'⟩ (fun z=>absurd z hout) fun _=>hpx)
end
end SetM
namespace SetM
open PySem SetP
theorem slot_sit_next:Slot "set_iterator" "__next__" "set_iterator.__next__":=
 .of (owner:="set_iterator") (n:="__next__")
  (by rw[typeLookup_type,builtinLookup_eq_fast];kernel_rfl)
  (by decide +kernel) (by decide +kernel) (by decide +kernel)
  (by first|exact .inl (by decide +kernel)|exact .inr (by decide +kernel))
  (by rw[isSubtype_type];kernel_rfl)
theorem qi6z:Slot "set_iterator" "__iter__" "set_iterator.__iter__":=
 .of (owner:="set_iterator") (n:="__iter__")
  (by rw[typeLookup_type,builtinLookup_eq_fast];kernel_rfl)
  (by decide +kernel) (by decide +kernel) (by decide +kernel)
  (by first|exact .inl (by decide +kernel)|exact .inr (by decide +kernel))
  (by rw[isSubtype_type];kernel_rfl)
theorem qi7z:entryFor table "set_iterator.__next__" = some Builtin.«set_iterator.__next__»:=entryFor_of_tree (by kernel_rfl)
theorem qrtz:entryFor table "set.__iter__" = some Builtin.«frozenset.__iter__»:=
 entryFor_alias (id':="frozenset.__iter__") (by rw[fastTable_eq_tree];kernel_rfl) (by decide +kernel) (by decide +kernel) (by rw[fastTable_eq_tree];kernel_rfl)
theorem qi8z:Manifest.owners.lookup (String.ofList ['r','o','t','a','r','e','t','i','_','t','e','s'].reverse)=some Manifest.sig_set_iterator:=by kernel_rfl
theorem qi9z(a:Value):argsOk "set_iterator.__next__" ⟨[a],[]⟩:=by
 unfold argsOk;rw[signature?_of (id:="set_iterator.__next__") (n:=['_','_','t','x','e','n','_','_']) (o:=['r','o','t','a','r','e','t','i','_','t','e','s']) (by kernel_rfl) qi8z]
 kernel_rfl
theorem qjaz{α:Type}(next:Nat->Nat):∀(fuel k:Nat) (left:List α) (out:Array α),left.length≤fuel->(pickOrder.go next fuel k left out).toList.Perm (out.toList++left)
 |0,k,left,out,h=>by
  have:left=[]:=List.length_eq_zero_iff.mp (by lia);subst this;show out.toList.Perm (out.toList++[]);rw[List.append_nil]
 |fuel+1,k,left,out,h=>by
  unfold pickOrder.go;cases hl:left[next k%left.length]? with
  |none=>
   have:left=[]:=by
    cases left with
    |nil=>rfl
    |cons a l=>
     have:=Nat.mod_lt (next k) (show 0<(a::l).length by simp)
     rw[List.getElem?_eq_getElem this] at hl;cases hl
   subst this;show out.toList.Perm (out.toList++[]);rw[List.append_nil]
  |some x=>
   have hlt:=(List.getElem?_eq_some_iff.mp hl).1;have ih:=qjaz next fuel (k+1) (left.eraseIdx (next k%left.length)) (out.push x) (by rw[List.length_eraseIdx];split<;>lia)
   refine ih.trans ?_;rw[Array.toList_push,List.append_assoc];refine List.Perm.append_left _ ?_;obtain⟨_,e⟩:=List.getElem?_eq_some_iff.mp hl;rw[←e,List.eraseIdx_eq_take_drop_succ];have q:=List.perm_middle (a:=left[next k%left.length]) (l₁:=left.take (next k%left.length)) (l₂:=left.drop (next k%left.length+1))
   rw[List.getElem_cons_drop,List.take_append_drop] at q;exact q.symm
theorem qruz{α:Type}(next:Nat->Nat)(xs:Array α):(pickOrder next xs).toList.Perm xs.toList:=by
 have:=qjaz next xs.size 0 xs.toList #[] (by simp)
 unfold pickOrder;simpa using this
def byText(w:World):Bool:=w.params.followText "set-order"
def walkL(w:World)(a:Addr)(ep:Nat)(es:Array (Int×Value)):List (Int×Value):=if byText w then (pickOrder (w.params.setOrder a ep) es).toList else es.toList
theorem walkL_perm(w:World)(a:Addr)(ep:Nat)(es:Array (Int×Value)):(walkL w a ep es).Perm es.toList:=by
 unfold walkL;split
 ·exact qruz _ _
 ·exact .refl _
def IsSit(h:Heap)(it a:Addr)(slot i n ep:Nat):Prop:=h.get? it=some { cls:=.type "set_iterator",data:=.fields #[rawInt slot,rawInt i,.ref a,rawInt n,rawInt ep]}
def SlotOk(w:World)(t:SetTable)(slot i:Nat):Prop:=byText w=true∨SetTable.below t.place slot=i
section
variable {prog:Program} {w:World} {A:Around} {E:Value->Shared->Prop} {s:Shared}
theorem qfiz{Q:Bool->Shared->Prop}(h:Q (byText w) s):wpAny (model prog w) A setsByText Q E s:=by
 unfold setsByText;exact wpAny_bind (wpAny_askSetting (wpAny_pure h))
theorem qrvz{a:Addr}{o:Obj}{es:Array (Int×Value)}{ep:Nat}{t:SetTable}{xs:List (List Int×Addr)}(S:SetAt prog w s.heap a o es ep t xs)(T:Tab t (es.toList.map (·.1)))
  {Q:Value->Shared->Prop} (h:Q (.ref s.heap.objs.size) { s with heap:=s.heap.push { cls:=.type "set_iterator",data:=.fields #[rawInt (0:Nat),rawInt (0:Nat),.ref a,rawInt es.size,rawInt ep]}}):
  wpAny (model prog w) A (pyIter (.ref a)) Q E s:=by
 have hT:s.TypeIs (.ref a) "set":=⟨o,S.at_,S.ex.1⟩;have hfit:=qbsz (Tab.r T);refine wpAny_pyIter_slot hT F.slot_set_iter (wpAny_call_entry F.slot_set_iter hT qrtz ?_ (F.args_set_iter_1 _));unfold Builtin.«frozenset.__iter__»;show wpAny _ _ (Builtin.Frozenset.slot0 "__iter__" ⟨[.ref a],[]⟩ >>= _) _ _ s;refine wpAny_bind (m:=Builtin.Frozenset.slot0 "__iter__" ⟨[.ref a],[]⟩) (wpAny_of_eq (a:=a) rfl ?_);unfold Builtin.Frozenset.sizeOf setEntries;refine wpAny_bind (wpAny_bind (wpAny_bind (wpAny_setState_of S.at_ S.dat hfit (wpAny_pure (wpAny_pure ?_)))));unfold setDrawn;refine wpAny_bind (wpAny_bind (wpAny_setState_of S.at_ S.dat hfit ?_));refine wpAny_bind (qfiz (wpAny_pure ?_));have hnd:(!byText w&&(!t.plain&&decide (es.size > 1)))=false:=by rw[S.plain];simp
 show wpAny _ _ (if (!byText w&&(!t.plain&&decide (es.size > 1)))=true then _ else _) _ _ s;rw[hnd,if_neg Bool.false_ne_true];refine wpAny_bind (wpAny_pure ?_);refine wpAny_bind (wpAny_setEpoch_of S.at_ S.dat hfit ?_);refine wpAny_bind ?_;unfold newFields;refine wpAny_newObj_type ?_;refine wpAny_pure ⟨_,rfl,"set_iterator",_,⟨_,Heap.get?_push_size _ rfl,rfl⟩,slot_sit_next.lookup,h⟩
theorem qjbz{a:Addr}{o:Obj}{es:Array (Int×Value)}{ep:Nat}{t:SetTable}{xs:List (List Int×Addr)}(S:SetAt prog w s.heap a o es ep t xs)(T:Tab t (es.toList.map (·.1))){slot i:Nat}(hsl:SlotOk w t slot i)
  {Q:Option (Value×Nat)->Shared->Prop} (h1:∀p slot',(walkL w a ep es)[i]?=some p->SlotOk w t slot' (i+1)->Q (some (p.2,slot')) s) (h2:(walkL w a ep es)[i]?=none->Q none s):
  wpAny (model prog w) A (setNext a slot i ep) Q E s:=by
 have hfit:=qbsz (Tab.r T);have hsz:t.place.size=es.size:=by
  have:=T.size;rw[qcqz] at this;exact this
 unfold setNext;refine wpAny_bind (wpAny_setState_of S.at_ S.dat hfit ?_);dsimp only;refine wpAny_bind (qfiz ?_);unfold walkL at h1 h2;cases hbt:byText w with
 |true=>
  rw[hbt] at h1 h2;rw[if_pos rfl];simp only[if_true,Array.getElem?_toList] at h1 h2;rw[if_neg (by simp)];unfold setWalk;refine wpAny_bind (wpAny_bind (wpAny_setState_of S.at_ S.dat hfit ?_));dsimp only;refine wpAny_bind (qfiz ?_);rw[hbt,if_pos rfl];refine wpAny_bind (wpAny_askSetting (wpAny_pure ?_));refine wpAny_pure ?_;show Q (Option.map (fun e=>(e.snd,slot)) (pickOrder (w.params.setOrder a ep) es)[i]?) s;cases hp:(pickOrder (w.params.setOrder a ep) es)[i]? with
  |none=>exact h2 hp
  |some p=>exact h1 p slot hp (.inl hbt)
 |false=>
  rw[hbt] at h1 h2;rw[if_neg Bool.false_ne_true];simp only[Bool.false_eq_true,if_false,Array.getElem?_toList] at h1 h2;have hled:t.led=true:=by
   rw[S.led];show (!byText w)=true;rw[hbt];rfl
  have hb:SetTable.below t.place slot=i:=by
   rcases hsl with z|z
   ·rw[hbt] at z;cases z
   ·exact z
  have hnd:(!t.plain&&decide (es.size > 1))=false:=by rw[S.plain];simp
  show wpAny _ _ (if (!t.plain&&decide (es.size > 1))=true then _ else _) _ _ s;rw[hnd,if_neg Bool.false_ne_true];refine wpAny_bind ?_;show wpAny _ _ (if (!t.led && !es.isEmpty)=true then _ else _) _ _ s;rw[hled,if_neg (by simp)];refine wpAny_pure ?_;rw[hb];cases hp:es[i]? with
  |none=>
   refine wpAny_pure ?_;have hpl:t.place[i]?=none:=by
    have:=Array.getElem?_eq_none_iff.mp hp;exact Array.getElem?_eq_none_iff.mpr (by lia)
   exact h2 hp
  |some p=>
   have hil:=(Array.getElem?_eq_some_iff.mp hp).1;have hj:t.place[i]?=some (t.place[i]'(by lia)):=by simp[hsz,hil]
   rw[hj];obtain⟨ph,pv⟩:=p;refine wpAny_pure (h1 (ph,pv) _ hp (.inr ?_))
   -- the next place
   obtain⟨b0,b1,b2⟩:=qdyz (j:=t.place[i]'(by lia)+1) T.rise;refine Classical.byContradiction fun hne=>?_;by_cases hlt:SetTable.below t.place (t.place[i]'(by lia)+1)≤i
   ·have:=b2 i _ hlt hj;lia
   ·have hgt:i+1<SetTable.below t.place (t.place[i]'(by lia)+1):=by lia
    have hi1:i+1<t.place.size:=by lia
    have e1:t.place[i+1]?=some (t.place[i+1]):=by simp[hi1]
    have q:=b1 (i+1) _ hgt e1;have pw:=List.pairwise_iff_getElem.mp T.rise i (i+1) (by simp;lia) (by simpa using hi1) (Nat.lt_succ_self i);simp at pw;lia
theorem qfjz{it a:Addr}{slot i n ep:Nat}(hit:IsSit s.heap it a slot i n ep):s.TypeIs (.ref it) "set_iterator":=⟨_,hit,rfl⟩
theorem qjcz{a it:Addr}{o:Obj}{es:Array (Int×Value)}{ep:Nat}{t:SetTable}{xs:List (List Int×Addr)}(S:SetAt prog w s.heap a o es ep t xs)(T:Tab t (es.toList.map (·.1))){slot i:Nat}(hit:IsSit s.heap it a slot i es.size ep)
  {P:PySem.Fin->Shared->Prop} (h:wpAny (model prog w) A (do
   match ←setNext a slot i ep with
   |some (x,next)=>
    setField (.ref it) 0 (rawInt next)
    setField (.ref it) 1 (rawInt ((i:Int)+1))
    ret x
   | none=>setField (.ref it) 2 .none;raiseNew (←newExc (.type "StopIteration") [])) P E s):
  wpAny (model prog w) A (Builtin.«set_iterator.__next__» ⟨[.ref it],[]⟩) P E s:=by
 have hfit:=qbsz (Tab.r T);unfold Builtin.«set_iterator.__next__»;refine wpAny_bind (m:=slotArgs "__next__" 0 ⟨[.ref it],[]⟩) (wpAny_of_eq (a:=(.ref it,[])) rfl ?_);refine wpAny_bind (wpAny_fieldsOf hit rfl ?_);dsimp only[rawInt];unfold setEntries;refine wpAny_bind (wpAny_bind (wpAny_setState_of S.at_ S.dat hfit (wpAny_pure ?_)));rw[if_neg (by simp)];exact h
theorem qrwz{a it:Addr}{o:Obj}{es:Array (Int×Value)}{ep:Nat}{t:SetTable}{xs:List (List Int×Addr)}(S:SetAt prog w s.heap a o es ep t xs)(T:Tab t (es.toList.map (·.1))){slot i:Nat}(hsl:SlotOk w t slot i)(hit:IsSit s.heap it a slot i es.size ep)
  {p:Int×Value} (hp:(walkL w a ep es)[i]?=some p) {Q:Option Value->Shared->Prop}
  (h:∀h' slot',IsSit h' it a slot' (i+1) es.size ep->SlotOk w t slot' (i+1)->Heap.SameBut it s.heap h'->Q (some p.2) { s with heap:=h' }):wpAny (model prog w) A (pyNext (.ref it)) Q E s:=by
 have hT:=qfjz hit;unfold pyNext;refine wpAny_bind (wpAny_attempt (wpAny_callSpecial?_slot (name:=Str.ofString "__next__") hT slot_sit_next
  (wpAny_call_entry slot_sit_next hT qi7z (qjcz S T hit (wpAny_bind (qjbz S T hsl (fun q slot' hq hs'=>?_) fun hn=>?_))) (qi9z _))))
 ·rw[hp] at hq;cases hq;dsimp only;refine wpAny_bind (wpAny_setField_rec hit (by simp) fun h1 e1 sb1=>?_);refine wpAny_bind (wpAny_setField_rec (s:={ s with heap:=h1 }) e1 (by simp) fun h2 e2 sb2=>?_)
  refine wpAny_pure ⟨_,rfl,wpAny_pure (h h2 slot' ?_ hs' (sb1.trans sb2))⟩;unfold IsSit;rw[e2];rfl
 ·rw[hp] at hn;cases hn
theorem qrxz{a it:Addr}{o:Obj}{es:Array (Int×Value)}{ep:Nat}{t:SetTable}{xs:List (List Int×Addr)}(hh:A.handled=none)(S:SetAt prog w s.heap a o es ep t xs)(T:Tab t (es.toList.map (·.1))){slot i:Nat}(hsl:SlotOk w t slot i)(hit:IsSit s.heap it a slot i es.size ep)
  (hp:(walkL w a ep es)[i]?=none) {Q:Option Value->Shared->Prop}
  (h:∀h',Heap.ExtBut it s.heap h'->Q none { s with heap:=h' }):wpAny (model prog w) A (pyNext (.ref it)) Q E s:=by
 have hT:=qfjz hit;unfold pyNext;refine wpAny_bind (wpAny_attempt (wpAny_callSpecial?_slot (name:=Str.ofString "__next__") hT slot_sit_next
  (wpAny_call_entry slot_sit_next hT qi7z (qjcz S T hit (wpAny_bind (qjbz S T hsl (fun q slot' hq hs'=>?_) fun hn=>?_))) (qi9z _))))
 ·rw[hp] at hq;cases hq
 ·dsimp only;refine wpAny_bind (wpAny_setField_rec hit (by simp) fun h1 e1 sb1=>?_);refine wpAny_bind ?_;simp only[newExc,newTuple];refine wpAny_bind (wpAny_newObj_type ?_ (by size_fits));refine wpAny_bind (m:=firstArgMember _ _) (wpAny_of_eq (a:=Value.none) (by first|rfl|(simp only[firstArgMember];rfl)) ?_)
  refine wpAny_newObj_type ?_ (by size_fits);simp only[raiseNew];refine wpAny_bind (wpAny_handled ?_);rw[show A.in1.handled=none from hh];refine wpAny_bind (wpAny_pure (wpAny_throw ?_));refine wpAny_bind (wpAny_isInstance (T:="StopIteration") (b:=true) ⟨_,Heap.get?_push_size _ rfl,rfl⟩ isSubtype_stop ?_);refine wpAny_pure (h _ fun b ob hb e=>?_);exact Heap.get?_push_of_some _ (Heap.get?_push_of_some _ ((sb1.2 b hb).trans e))
end
end SetM
namespace SetM
open PySem SetP
section
variable {prog:Program} {w:World} {A:Around} {E:Value->Shared->Prop} {s:Shared}
theorem SetAt.kept{h h':Heap}{a:Addr}{o:Obj}{es:Array (Int×Value)}{ep:Nat}{t:SetTable}{xs:List (List Int×Addr)}(S:SetAt prog w h a o es ep t xs)
  (k:∀b∈a::xs.map (·.2),∀ob,h.get? b=some ob->h'.get? b=some ob):SetAt prog w h' a o es ep t xs:=by
 refine⟨k a List.mem_cons_self _ S.at_,S.ex,S.dat,S.ents,fun p hp=>?_,S.nd,S.plain,S.led⟩;obtain⟨oy,items,n,ho,r⟩:=S.keys p hp;exact⟨oy,items,n,k _ (List.mem_cons_of_mem _ (List.mem_map.mpr ⟨p,hp,rfl⟩)) _ ho,r⟩
theorem SetAt.ne_sit{h:Heap}{a it:Addr}{o:Obj}{es:Array (Int×Value)}{ep ep':Nat}{t:SetTable}{xs:List (List Int×Addr)}{slot i n:Nat}{b:Addr}(S:SetAt prog w h a o es ep t xs)(hit:IsSit h it b slot i n ep'):
  ∀c∈a::xs.map (·.2),c≠it:=fun c hc e=>by
 subst e;unfold IsSit at hit;rcases List.mem_cons.mp hc with e|e
 ·rw[e,S.at_] at hit;cases hit;have:=S.dat;cases this
 ·obtain⟨p,hp,rfl⟩:=List.mem_map.mp e;obtain⟨oy,items,k,ho,hc,hd,_⟩:=S.keys p hp;rw[ho] at hit;cases hit;cases hd
theorem qryz(hh:A.handled=none){a it:Addr}{o:Obj}{es:Array (Int×Value)}{ep:Nat}{t:SetTable}{xs:List (List Int×Addr)}(T:Tab t (es.toList.map (·.1))):
  Walks prog w A it (it::a::xs.map (·.2)) [it] es.size (fun i v=>∃p,(walkL w a ep es)[i]?=some p/\v=p.2)
   (fun i h=>∃slot,IsSit h it a slot i es.size ep/\SlotOk w t slot i/\SetAt prog w h a o es ep t xs) where
 sub:=fun b hb=>by
  have:b=it:=by simpa using hb
  simp[this]
 frame:=fun i h h' ⟨slot,h1,h2,h3⟩ k=>⟨slot,k it List.mem_cons_self _ h1,h2,h3.kept fun b hb ob e=>k b (List.mem_cons_of_mem _ hb) ob e⟩
 item:=fun i s Q E hi ⟨slot,h1,h2,h3⟩ hQ=>by
  have hlen:(walkL w a ep es).length=es.size:=by rw[(walkL_perm w a ep es).length_eq];simp
  have hp:(walkL w a ep es)[i]?=some ((walkL w a ep es)[i]'(by lia)):=List.getElem?_eq_getElem (by lia);refine qrwz h3 T h2 h1 hp fun h' slot' q1 q2 sb=>?_;refine hQ _ h' s.toks ⟨_,hp,rfl⟩ ⟨slot',q1,q2,h3.kept fun b hb ob e=>(sb.2 b (h3.ne_sit h1 b hb)).trans e⟩ fun b ob hb e=>?_;exact (sb.2 b (by simpa using hb)).trans e
 done:=fun s Q E ⟨slot,h1,h2,h3⟩ hQ=>by
  have hlen:(walkL w a ep es).length=es.size:=by rw[(walkL_perm w a ep es).length_eq];simp
  refine qrxz hh h3 T h2 h1 (List.getElem?_eq_none_iff.mpr (by lia)) fun h' q=>?_;exact hQ h' s.toks fun b ob hb e=>q b ob (by simpa using hb) e
 self:=fun i s Q E ⟨slot,h1,h2,h3⟩ h=>by
  have hT:=qfjz h1;refine wpAny_pyIter_slot hT qi6z (wpAny_call_entry qi6z hT (b:=Builtin.«dict_keyiterator.__iter__») ?_ ?_ ?_)
  ·exact entryFor_alias (id':="dict_keyiterator.__iter__") (by kernel_rfl) (by decide +kernel) (by decide +kernel) (by kernel_rfl)
  ·show wpAny _ _ (ret (.ref it)) _ _ s;exact wpAny_pure ⟨_,rfl,"set_iterator",_,hT,slot_sit_next.lookup,h⟩
  ·unfold argsOk;rw[signature?_of (id:="set_iterator.__iter__") (n:=['_','_','r','e','t','i','_','_']) (o:=['r','o','t','a','r','e','t','i','_','t','e','s']) (by kernel_rfl) qi8z]
   kernel_rfl
theorem wp_collect_set(hh:A.handled=none){a:Addr}{o:Obj}{es:Array (Int×Value)}{ep:Nat}{t:SetTable}{xs:List (List Int×Addr)}(S:SetAt prog w s.heap a o es ep t xs)(T:Tab t (es.toList.map (·.1)))(h64:es.size≤64)
  {Q:List Value->Shared->Prop} (h:∀s',Moved [] (fun x y=>y=x) s s'->Q ((walkL w a ep es).map (·.2)) s'):wpAny (model prog w) A (collect (.ref a)) Q E s:=by
 have hT:s.TypeIs (.ref a) "set":=⟨o,S.at_,S.ex.1⟩;have hal:a<s.heap.objs.size:=Heap.lt_size S.at_;unfold collect;refine wpAny_bind (wpAny_runValue (codeAny_builtin F.entry_proto_collect ?_));rw[Around.under_plainId F.plain_proto_collect _];show wpAny _ A.in1 (newList [] >>= fun q=>again (.builtin "list.__iadd__" ⟨[q,.ref a],[]⟩)) _ _ s;refine wpAny_bind (wpAny_newObj_type ?_);refine wpAny_pure ⟨plainId_quiet F.plain_list_iadd _,codeAny_builtin F.entry_list_iadd ?_⟩;rw[Around.under_plainId F.plain_list_iadd _];show wpAny _ A.in1 (Builtin.List.listExtendWith (.ref s.heap.objs.size) (.ref a) (.ref s.heap.objs.size)) _ _ _;unfold Builtin.List.listExtendWith;have S1:SetAt prog w (s.heap.push { cls:=.type "list",data:=.seq ([]:List Value).toArray }) a o es ep t xs:=S.kept fun b _ ob e=>Heap.get?_push_of_some _ e;have hT1:Shared.TypeIs { s with heap:=s.heap.push { cls:=.type "list",data:=.seq ([]:List Value).toArray }} (.ref a) "set":=⟨o,S1.at_,S.ex.1⟩;refine wpAny_bind (wpAny_typeOf hT1 ?_);have ne:s.heap.objs.size≠a:=Nat.ne_of_gt hal;have e1:Builtin.List.listSameRef (.ref s.heap.objs.size) (.ref a)=false:=by simp[Builtin.List.listSameRef,ne]
 rw[if_neg (by rw[e1];decide)];refine wpAny_bind (qrvz (s:={ s with heap:=s.heap.push { cls:=.type "list",data:=.seq ([]:List Value).toArray }}) S1 T ?_);have S2:=S1.kept (h':=(s.heap.push { cls:=.type "list",data:=.seq ([]:List Value).toArray }).push { cls:=.type "set_iterator",data:=.fields #[rawInt (0:Nat),rawInt (0:Nat),.ref a,rawInt es.size,rawInt ep]}) fun b _ ob e=>Heap.get?_push_of_some _ e;have hit:IsSit ((s.heap.push { cls:=.type "list",data:=.seq ([]:List Value).toArray }).push { cls:=.type "set_iterator",data:=.fields #[rawInt (0:Nat),rawInt (0:Nat),.ref a,rawInt es.size,rawInt ep]})
   (s.heap.push { cls:=.type "list",data:=.seq ([]:List Value).toArray }).objs.size a 0 0 es.size ep:=Heap.get?_push_size _ rfl
 have hS0:((s.heap.push { cls:=.type "list",data:=.seq ([]:List Value).toArray }).push { cls:=.type "set_iterator",data:=.fields #[rawInt (0:Nat),rawInt (0:Nat),.ref a,rawInt es.size,rawInt ep]}).get? s.heap.objs.size
   = some { cls:=.type "list",data:=.seq ([]:List Value).toArray }:=Heap.get?_push_of_some _ (Heap.get?_push_size _ rfl)
 have keep0:∀b ob,s.heap.get? b=some ob->((s.heap.push { cls:=.type "list",data:=.seq ([]:List Value).toArray }).push { cls:=.type "set_iterator",data:=.fields #[rawInt (0:Nat),rawInt (0:Nat),.ref a,rawInt es.size,rawInt ep]}).get? b=some ob:=
  fun b ob e=>Heap.get?_push_of_some _ (Heap.get?_push_of_some _ e)
 have hI:(s.heap.push { cls:=.type "list",data:=.seq ([]:List Value).toArray }).objs.size=s.heap.objs.size+1:=Heap.size_push ..;generalize (s.heap.push { cls:=.type "list",data:=.seq ([]:List Value).toArray }).objs.size=it at hI hit ⊢;generalize ((s.heap.push { cls:=.type "list",data:=.seq ([]:List Value).toArray }).push { cls:=.type "set_iterator",data:=.fields #[rawInt (0:Nat),rawInt (0:Nat),.ref a,rawInt es.size,rawInt ep]})=hp at S2 hit hS0 keep0 ⊢;refine wpAny_bind (wpAny_holding ?_);have hT2:Shared.TypeIs { s with heap:=hp } (.ref a) "set":=⟨o,S2.at_,S.ex.1⟩;unfold Builtin.List.listLengthHint;refine wpAny_bind (wpAny_specialOf hT2 F.slot_set_len.lookup ?_);generalize hid:("set.__len__":String)=id0;dsimp only;rw[show splitId id0=some ("set","__len__") from by subst hid;decide +kernel];subst hid;dsimp only;refine wpAny_bind (wpAny_isInstance (b:=true) hT2 (by rw[isSubtype_type];kernel_rfl) ?_)
 rw[if_neg (by decide)];show wpAny _ A.in1 (typeOf (.ref a) >>= _) _ _ _;refine wpAny_bind (wpAny_typeOf hT2 (wpAny_pure ?_));show wpAny _ A.in1 (rule "list.extend.makes-room" >>= fun _=>Builtin.List.listTouch (.ref s.heap.objs.size) >>= fun _=>again (.builtin "list.extend.loop" ⟨[.ref s.heap.objs.size,.ref it,.ref s.heap.objs.size],[]⟩)) _ _ _;refine wpAny_bind (wpAny_rule (wpAny_bind ?_));show wpAny _ A.in1 (updateSeq s.heap.objs.size (·.push .none) >>= fun _=>updateSeq s.heap.objs.size (·.pop)) _ _ _;refine wpAny_bind (wpAny_updateSeq (s:={ s with heap:=hp }) hS0 rfl ?_);have q1:=Heap.get?_update_self (Obj.mapSeq (·.push Value.none)) hS0 rfl;refine wpAny_updateSeq (s:={ s with heap:=hp.update s.heap.objs.size (Obj.mapSeq (·.push Value.none))}) q1 rfl ?_;have q2:=Heap.get?_update_self (Obj.mapSeq (·.pop)) q1 rfl;have oth:∀b ob,b≠s.heap.objs.size->hp.get? b=some ob->((hp.update s.heap.objs.size (Obj.mapSeq (·.push Value.none))).update s.heap.objs.size (Obj.mapSeq (·.pop))).get? b=some ob:=
  fun b ob hb e=>(Heap.get?_update_other _ _ (Ne.symm hb)).trans ((Heap.get?_update_other _ _ (Ne.symm hb)).trans e)
 have q3:∃c,((hp.update s.heap.objs.size (Obj.mapSeq (·.push Value.none))).update s.heap.objs.size (Obj.mapSeq (·.pop))).get? s.heap.objs.size=some { cls:=.type "list",dict:=none,data:=.seq #[] c,slots:=#[]}:=⟨_,q2⟩;clear q2;generalize (hp.update s.heap.objs.size (Obj.mapSeq (·.push Value.none))).update s.heap.objs.size (Obj.mapSeq (·.pop))=hp2 at q3 oth ⊢;obtain⟨c0,q2⟩:=q3;have hfp:∀b∈it::a::xs.map (·.2),b≠s.heap.objs.size:=fun b hb e=>by
  rcases List.mem_cons.mp hb with z|z
  ·lia
  ·have hlt:b<s.heap.objs.size:=by
    rcases List.mem_cons.mp z with z|z
    ·rw[z];exact hal
    ·obtain⟨p,hp',rfl⟩:=List.mem_map.mp z;obtain⟨oy,_,_,ho,_⟩:=S.keys p hp';exact Heap.lt_size ho
   lia
 have W:=(qryz (prog:=prog) (w:=w) (A:=A.in1) (by simpa using hh) (it:=it) (a:=a) (o:=o) (ep:=ep) (xs:=xs) T).toS;refine wpAny_pure ⟨plainId_quiet F.plain_extend_loop _,codeAny_extend_loopS W (by rw[sizeLine_eq];lia) _ (fun hm=>hfp _ hm rfl) _ es.size 0 _ _ _ rfl (Nat.zero_le _) ?_ q2 (ItemsOf.nil _) fun s' acc' c' hm hS' hacc=>?_⟩
 ·refine⟨0,oth _ _ (hfp _ List.mem_cons_self) hit,?_,S2.kept fun b hb ob e=>oth b ob (hfp b (List.mem_cons_of_mem _ hb)) e⟩;by_cases hb:byText w=true
  ·exact .inl hb
  ·refine .inr ?_;obtain⟨b0,b1,b2⟩:=qdyz (j:=0) T.rise;refine Classical.byContradiction fun hne=>?_;have hpos:0<SetTable.below t.place 0:=by lia
   have h0:0<t.place.size:=by lia
   have:=b1 0 (t.place[0]) hpos (by simp[h0]);lia
 ·show wpAny _ A (load s.heap.objs.size >>= _) _ _ s';refine wpAny_bind (wpAny_load hS' ?_);refine wpAny_pure ?_;have hlen:(walkL w a ep es).length=es.size:=by rw[(walkL_perm w a ep es).length_eq];simp
  have eacc:acc'.toList=(walkL w a ep es).map (·.2):=by
   refine List.ext_getElem? fun i=>?_;rw[List.getElem?_map,Array.getElem?_toList];cases ha:acc'[i]? with
   |none=>
    have h1:=Array.getElem?_eq_none_iff.mp ha;rw[hacc.1] at h1;rw[List.getElem?_eq_none_iff.mpr (by lia)];rfl
   |some v=>
    obtain⟨p,e1,e2⟩:=hacc.2 i v ha;rw[e1,e2];rfl
  show Q acc'.toList s';rw[eacc];refine h s' ⟨fun b ob _ e=>?_,hm.gens,hm.drawn,hm.os,?_⟩
  ·have hlt:=Heap.lt_size e;refine hm.heap b ob ?_ (oth b ob (Nat.ne_of_lt hlt) (keep0 b ob e));intro z;rcases List.mem_cons.mp z with z|z
   ·rw[z] at hlt;exact Nat.lt_irrefl _ hlt
   ·have:b=it:=by simpa using z
    rw[this,hI] at hlt;exact Nat.lt_irrefl _ (Nat.lt_of_succ_lt hlt)
  ·exact hm.toks
end
end SetM
namespace SetM
open PySem SetP
section
variable {prog:Program} {w:World} {A:Around} {E:Value->Shared->Prop} {s:Shared}
def freshSet(w:World):Obj:={ cls:=.type "set",dict:=none,data:=.set #[] 0 (.fresh 0 0 (!(byText w)))}
theorem qrzz(a:Value){Q₁:Value->Shared->Prop}(h:Q₁ (.ref s.heap.objs.size) { s with heap:=s.heap.push (freshSet w)}):
  codeAny (model prog w) A (.call (.builtin "set.__new__") ⟨[.type "set",a],[]⟩) (wants Q₁ E) s:=by
 refine codeAny_of_tree ?_;show wpAny _ A.in1 (checkBuiltinCall "set.__new__" ⟨[.type "set",a],[]⟩ >>= fun _=>again (.builtin "set.__new__" ⟨[.type "set",a],[]⟩)) _ _ s;refine wpAny_bind (wpAny_of_eq (F.newCall_set_1 a) (wpAny_pure ⟨plainId_quiet F.plain_set_new _,codeAny_builtin F.entry_set_new ?_⟩));rw[Around.under_plainId F.plain_set_new _];unfold Builtin.«set.__new__» Builtin.Frozenset.newClass;have hsub:=sub_set_self;obtain⟨hp,g,d,tk,os⟩:=s;dsimp only;wp_walk;refine wpAny_askSetting (wpAny_pure ?_);dsimp only;simp only[newObj];refine wpAny_bind (wpAny_alloc (wpAny_pure ?_));exact wpAny_pure h
theorem qr0z(led:Bool):Tab (SetTable.fresh 0 0 led) []:=
 ⟨.inl rfl,rfl,List.Pairwise.nil,(fun j hj=>(nomatch hj)),rfl,(by show 0*5<7*3;decide),(fun j h hj=>(nomatch hj))⟩
structure Ded(ps xs:List (List Int×Addr)):Prop where
 sub:∀p∈xs,p∈ps
 all:∀p∈ps,p.1∈xs.map (·.1)
 len:xs.length≤ps.length
theorem Ded.add{ps xs xs':List (List Int×Addr)}{p:List Int×Addr}(d:Ded ps xs)(h1:p.1∈xs.map (·.1)->xs'.Perm xs)(h2:p.1∉xs.map (·.1)->xs'.Perm (p::xs)):Ded (ps++[p]) xs':=by
 by_cases hm:p.1∈xs.map (·.1)
 ·have pm:=h1 hm;refine⟨fun q hq=>List.mem_append_left _ (d.sub q (pm.mem_iff.mp hq)),fun q hq=>?_,?_⟩
  ·rw[(pm.map _).mem_iff];rcases List.mem_append.mp hq with hq|hq
   ·exact d.all q hq
   ·have:q=p:=by simpa using hq
    rw[this];exact hm
  ·rw[pm.length_eq,List.length_append];have:=d.len;lia
 ·have pm:=h2 hm;refine⟨fun q hq=>?_,fun q hq=>?_,?_⟩
  ·rcases List.mem_cons.mp (pm.mem_iff.mp hq) with e|e
   ·exact List.mem_append_right _ (by simp[e])
   ·exact List.mem_append_left _ (d.sub q e)
  ·rw[(pm.map _).mem_iff,List.map_cons];rcases List.mem_append.mp hq with hq|hq
   ·exact List.mem_cons_of_mem _ (d.all q hq)
   ·have:q=p:=by simpa using hq
    rw[this];exact List.mem_cons_self
  ·rw[pm.length_eq,List.length_append,List.length_cons,List.length_singleton];have:=d.len;lia
theorem qr1z{I:Addr}{fp:List Addr}{n:Nat}{P:Nat->Value->Prop}{St:Nat->Heap->Prop}(W:Walks prog w A.in1 I fp [I] n P St)(S:Addr)(hSf:S∉fp)(ps:List (List Int×Addr))(hps:ps.length=n)(hn:n≤60)
  (hu:A.in1.units<cLine) (hval:∀(i:Nat) v,P i v->∃p,ps[i]?=some p/\v=.ref p.2) (hpf:∀p∈ps,p.2≠I/\p.2≠S) {R:Result->Shared->Prop}:
  ∀(k i:Nat) (s:Shared) (xs:List (List Int×Addr)),n-i=k->i≤n->St i s.heap->SetOn prog w s.heap S xs->Ded (ps.take i) xs->(∀p∈ps,IsK prog w s.heap p.1 p.2) ->
   (∀h' tk xs',(∀b ob,b≠S->b≠I->s.heap.get? b=some ob->h'.get? b=some ob)->SetOn prog w h' S xs'->Ded ps xs'->R (.ok (.ret .none)) { s with heap:=h',toks:=tk }) ->
   codeAny (model prog w) A (.builtin "set.update.loop" ⟨[.ref S,.ref I],[]⟩) R s:=by
 have hSI:S≠I:=fun e=>hSf (W.sub _ (by rw[e];simp));have on_kept:∀{h h':Heap} {xs:List (List Int×Addr)},SetOn prog w h S xs->(∀p∈xs,p∈ps)->(∀b ob,b≠I->h.get? b=some ob->h'.get? b=some ob)->SetOn prog w h' S xs:=fun {h h' xs} ⟨o,es,ep,t,q,T⟩ sub kp=>
  ⟨o,es,ep,t,q.kept fun b hb ob e=>kp b ob (by
   rcases List.mem_cons.mp hb with z|z
   ·rw[z];exact hSI
   ·obtain⟨p,hp,rfl⟩:=List.mem_map.mp z;exact (hpf p (sub p hp)).1) e,T⟩
 intro k
 induction k with
 |zero=>
  intro i s xs hk hi hst hS hd hkeys hR;have hin:i=n:=by lia
  subst hin;refine codeAny_builtin PyProof.Rows.F.entry_set_update_loop ?_;rw[Around.under_plainId PyProof.Rows.F.plain_set_update_loop _];show wpAny _ A.in1 (pyNext (.ref I) >>= _) _ _ s;refine wpAny_bind (W.done s _ _ hst fun h' tk kp=>?_);show wpAny _ A.in1 (ret Value.none) _ _ _;have hd':Ded ps xs:=by
   rw[←hps,List.take_length] at hd;exact hd
  exact wpAny_pure (hR h' tk xs (fun b ob _ hb e=>kp b ob (by simpa using hb) e) (on_kept hS hd'.sub fun b ob hb e=>kp b ob (by simpa using hb) e) hd')
 |succ k ih=>
  intro i s xs hk hi hst hS hd hkeys hR;have hlt:i<n:=by lia
  refine codeAny_builtin PyProof.Rows.F.entry_set_update_loop ?_;rw[Around.under_plainId PyProof.Rows.F.plain_set_update_loop _];show wpAny _ A.in1 (pyNext (.ref I) >>= _) _ _ s;refine wpAny_bind (W.item i s _ _ hlt hst fun v h1 tk1 hP hst1 kp1=>?_);obtain⟨p,hp,rfl⟩:=hval i v hP;have hpm:p∈ps:=List.mem_of_getElem? hp;have kp1':∀b ob,b≠I->s.heap.get? b=some ob->h1.get? b=some ob:=fun b ob hb e=>kp1 b ob (by simpa using hb) e;have key1:∀q∈ps,IsK prog w h1 q.1 q.2:=fun q hq=>by
   obtain⟨oy,items,m,ho,r⟩:=hkeys q hq;exact⟨oy,items,m,kp1' _ _ (hpf q hq).1 ho,r⟩
  have sub0:∀q∈xs,q∈ps:=fun q hq=>List.mem_of_mem_take (hd.sub q hq);have hS1:=on_kept hS sub0 kp1';show wpAny _ A.in1 (holding [Value.ref p.2] (setAdd S (.ref p.2)) >>= _) _ _ _;have hlen:xs.length<64:=by
   have h1:=hd.len;rw[List.length_take] at h1;lia
  refine wpAny_bind (wpAny_holding (qrsz (s:={ s with heap:=h1,toks:=tk1 }) hS1 hlen hu (key1 p hpm) fun b h2 tk2 xs2 _ sb hS2 q1 q2=>?_));have hd2:Ded (ps.take (i+1)) xs2:=by
   rw[List.take_add_one,hp];exact hd.add q1 q2
  obtain⟨oS,_,_,_,SS,_⟩:=hS1;refine wpAny_pure ⟨plainId_quiet PyProof.Rows.F.plain_set_update_loop _,ih (i+1) _ xs2 (by lia) hlt (W.frame _ _ _ hst1 fun c hc ob e=>(sb.2 c (fun z=>hSf (z▸hc))).trans e) hS2 hd2 (fun q hq=>qdzz SS.at_ SS.dat sb (key1 q hq)) fun h' tk xs' kp' a1 a2=>?_⟩;exact hR h' tk xs' (fun c ob c1 c2 e=>kp' c ob c1 c2 ((sb.2 c c1).trans (kp1' c ob c2 e))) a1 a2
set_option maxHeartbeats 6400000 in
theorem call_set_tups{l:Addr}{vs:List Value}{ps:List (List Int×Addr)}{Q:Value->Shared->Prop}(hh:A.handled=none)(hl:s.heap.IsList l vs.toArray)(hv:vs=ps.map fun p=>Value.ref p.2)(hk:∀p∈ps,IsK prog w s.heap p.1 p.2)(hn:ps.length≤60)
  (hu:A.units+4<cLine)
  (h:∀h' tk xs,(∀b ob,s.heap.get? b=some ob->h'.get? b=some ob)->SetOn prog w h' s.heap.objs.size xs->Ded ps xs->Q (.ref s.heap.objs.size) { s with heap:=h',toks:=tk }):
  wpAny (model prog w) A (call (.type "set") [.ref l]) Q E s:=by
 obtain⟨c,tl,hmro⟩:=F.called_set.mro;have hmade:=F.called_set.made;have hsub:=F.called_set.sub;refine wpAny_call (codeAny_of_tree ?_);show wpAny _ _ (callAny (.type "set") _) _ _ _;refine wpAny_pure ⟨Code.quiet_builtin _ (by decide +kernel),codeAny_builtin F.entry_type_call ?_⟩;rw[Around.under_plain (weight_type_call_type "set" [.ref l] []) rfl];have h1:=F.called_set.notType;have h2:=F.called_set.canCreate;have hct:=F.typeCall_set_1 (.ref l)
 repeat (any_goals (first|assumption|wp_step))
 refine codeAny_mono (qrzz (.ref l) (E:=E) (Q₁:=fun obj s₁=>obj=.ref s.heap.objs.size/\s₁={ s with heap:=s.heap.push (freshSet w)}) ⟨rfl,rfl⟩) fun r s₁ hr=>?_;cases r with
 |error e=>exact hr
 |ok fl=>
  cases fl with
  |ret obj=>
   obtain⟨rfl,rfl⟩:=hr;have hS:(s.heap.push (freshSet w)).get? s.heap.objs.size=some (freshSet w):=Heap.get?_push_size _ rfl;have hT:Shared.TypeIs { s with heap:=s.heap.push (freshSet w)} (.ref s.heap.objs.size) "set":=⟨_,hS,rfl⟩;have hli:=F.called_set.init.lookup;have hbi:=F.called_set.init.bind (.ref s.heap.objs.size)
   repeat (any_goals (first|assumption|wp_step))
   refine codeAny_mono (codeAny_call_builtin (R:=wants (fun r s₂=>r=.none/\∃h' tk xs,s₂={ s with heap:=h',toks:=tk }/\(∀b ob,s.heap.get? b=some ob->h'.get? b=some ob)/\SetOn prog w h' s.heap.objs.size xs/\Ded ps xs) E)
    F.called_set.init.plain F.entry_set_init (check_set_init_1 hT ?_)) fun r₂ s₂ hr₂=>?_
   ·obtain⟨ol,hol,hcl,nl,hdl⟩:=hl;obtain⟨ocls,odict,odata,oslots⟩:=ol;simp only at hcl hdl;subst hcl;subst hdl;have hol':(s.heap.push (freshSet w)).get? l=some { cls:=.type "list",dict:=odict,data:=.seq vs.toArray nl,slots:=oslots }:=Heap.get?_push_of_some _ hol;have hsls:=F.sub_list_set;have hslf:=F.sub_list_frozenset;have hne:(Value.type "list" == Value.type "dict")=false:=by decide
    have hl1:(s.heap.push (freshSet w)).IsList l vs.toArray:=⟨_,hol',rfl,nl,rfl⟩;have hS2:(s.heap.push (freshSet w)).get? s.heap.objs.size=some { cls:=.type "set",dict:=none,data:=.set #[] 0 (.fresh 0 0 (!(byText w)))}:=hS;unfold Builtin.«set.__init__» noKeywords Builtin.Frozenset.updateFrom;generalize hPI:pyIter=PI;wp_walk;subst hPI;refine wpAny_pyIter_list hl1 ?_;refine wpAny_bind (wpAny_runValue ?_);have hlS:l<s.heap.objs.size:=Heap.lt_size hol;have hh3:A.in1.in1.in1.handled=none:=by simp[hh]
    have hu3:A.in1.in1.in1.units<cLine:=by
     show A.units+1+1+1<cLine;lia
    have hsz:(s.heap.push (freshSet w)).objs.size=s.heap.objs.size+1:=Heap.size_push ..;have hneI:l≠(s.heap.push (freshSet w)).objs.size:=by
     rw[hsz];exact Nat.ne_of_lt (Nat.lt_succ_of_lt hlS)
    have hSf:s.heap.objs.size∉[(s.heap.push (freshSet w)).objs.size,l]:=by
     rw[hsz];intro z;rcases List.mem_cons.mp z with z|z
     ·exact absurd z (Nat.ne_of_lt (Nat.lt_succ_self _))
     ·have:s.heap.objs.size=l:=by simpa using z
      exact absurd this (Nat.ne_of_gt hlS)
    have hlen:vs.toArray.size=ps.length:=by rw[hv];simp
    refine qr1z (Walks.list hh3 _ l hneI vs.toArray) s.heap.objs.size hSf ps hlen.symm (by rw[hlen];exact hn) hu3 (fun i v e=>?_) (fun p hp=>?_) (vs.toArray.size-0) 0 _ [] rfl (Nat.zero_le _)
     ⟨⟨_,Heap.get?_push_size _ rfl,rfl,rfl⟩,hl1.push _⟩ ?hS0 ⟨(fun p hp=>(nomatch hp)),(fun p hp=>by rw[List.take_zero] at hp;cases hp),Nat.zero_le _⟩ (fun p hp=>?_) ?hR
    case hS0=>
     refine⟨_,#[],0,_,⟨Heap.get?_push_of_some _ hS2,⟨rfl,rfl,rfl⟩,rfl,rfl,(fun p hp=>(nomatch hp)),List.nodup_nil,rfl,rfl⟩,qr0z _⟩
    case hR=>
     intro h' tk xs q1 q2 q3;refine wpAny_pure ?_;show wpAny _ _ (ret Value.none) _ _ _;refine wpAny_pure ⟨rfl,h',tk,xs,rfl,fun b ob e=>?_,q2,q3⟩;have hb:=Heap.lt_size e;refine q1 b ob (Nat.ne_of_lt hb) ?_ (Heap.get?_push_of_some _ (Heap.get?_push_of_some _ e));rw[hsz];exact Nat.ne_of_lt (Nat.lt_succ_of_lt hb)
    ·rw[hv,List.getElem?_toArray,List.getElem?_map] at e;cases hp:ps[i]? with
     |none=>rw[hp] at e;cases e
     |some p=>rw[hp] at e;exact⟨p,rfl,(Option.some.inj e).symm⟩
    ·obtain⟨oy,_,_,ho,_⟩:=hk p hp;have hb:=Heap.lt_size ho;rw[hsz];exact⟨Nat.ne_of_lt (Nat.lt_succ_of_lt hb),Nat.ne_of_lt hb⟩
    ·obtain⟨oy,items,m,ho,r⟩:=hk p hp;exact⟨oy,items,m,Heap.get?_push_of_some _ (Heap.get?_push_of_some _ ho),r⟩
   ·cases r₂ with
    |error e=>exact hr₂
    |ok fl₂=>
     cases fl₂ with
     |ret r=>
      obtain⟨rfl,h',tk,xs,rfl,q1,q2,q3⟩:=hr₂
      repeat (any_goals (first|assumption|wp_step))
      exact h _ _ _ q1 q2 q3
     |_=>exact hr₂.elim
  |_=>exact hr.elim
end
end SetM
namespace SortV
open PySem PySem.W PyProof.Rows SetM KasS
def lx:List Int->List Int->Bool
 |[],[]=>false
 |[],_::_=>true
 |_::_,[]=>false
 |x::xs,y::ys=>if x=y then lx xs ys else decide (x<y)
theorem qjdz:∀{x y:List Int},lx x y=true->lx y x=false
 |[],[],h=>by cases h
 |[],_::_,_=>rfl
 |_::_,[],h=>by cases h
 |x::xs,y::ys,h=>by
  unfold lx at h ⊢;by_cases e:x=y
  ·rw[if_pos e] at h;rw[if_pos e.symm];exact qjdz h
  ·rw[if_neg e] at h;rw[if_neg (Ne.symm e)];have:=of_decide_eq_true h;exact decide_eq_false (by lia)
theorem qjez:∀{a b c:List Int},lx b a=false->lx c b=false->lx c a=false
 |[],b,[],_,_=>rfl
 |[],[],c::cs,_,h=>h
 |[],b::bs,c::cs,h,_=>rfl
 |a::as,[],c,h,_=>by cases h
 |a::as,b::bs,[],_,h=>by cases h
 |a::as,b::bs,c::cs,h1,h2=>by
  unfold lx at h1 h2 ⊢;by_cases e1:b=a
  ·rw[if_pos e1] at h1;by_cases e2:c=b
   ·rw[if_pos e2] at h2;rw[if_pos (e2.trans e1)];exact qjez h1 h2
   ·rw[if_neg e2] at h2;have:=of_decide_eq_false h2;by_cases e3:c=a
    ·lia
    ·rw[if_neg e3];exact decide_eq_false (by lia)
  ·rw[if_neg e1] at h1;have:=of_decide_eq_false h1;by_cases e2:c=b
   ·rw[if_neg (by lia)];exact decide_eq_false (by lia)
   ·rw[if_neg e2] at h2;have:=of_decide_eq_false h2;by_cases e3:c=a
    ·lia
    ·rw[if_neg e3];exact decide_eq_false (by lia)
section
variable {prog:Program} {w:World} {A:Around} {E:Value->Shared->Prop} {s:Shared}
theorem qr2z{Q:Bool->Shared->Prop}:∀(xs ys:List Int) (us vs:List Value) (i:Nat) (fin:Bool),ItemsAre (intKind prog w) xs us->ItemsAre (intKind prog w) ys vs ->
  (fin=decide (us.length<vs.length)∨∃n m,fin=decide (n+us.length<n+vs.length)/\m=n)->Q (lx xs ys) s->KatLex prog w A true fin Q (us.zip vs) i s:=by
 intro xs
 induction xs with
 |nil=>
  intro ys us vs i fin h1 h2 hf h;cases h1;cases h2 with
  |nil=>
   have:fin=false:=by
    rcases hf with hf|⟨n,m,hf,_⟩<;>simp at hf<;>exact hf
   rw[this];exact kat_nil h
  |cons h3 h4=>
   have:fin=true:=by
    rcases hf with hf|⟨n,m,hf,_⟩<;>rw[hf]<;>simp
   rw[this];exact kat_nil h
 |cons x xs ih=>
  intro ys us vs i fin h1 h2 hf h;cases h1 with
  |cons h1 h1'=>
  cases h2 with
  |nil=>
   have:fin=false:=by
    rcases hf with hf|⟨n,m,hf,_⟩<;>rw[hf]<;>simp
   rw[this];exact kat_nil h
  |cons h3 h4=>
   obtain⟨t,rfl⟩:=Value.isInt_shape h1;obtain⟨t',rfl⟩:=Value.isInt_shape h3;refine kat_cons (wpAny_eqBool_int ?_);unfold lx at h;rename_i _ y ys _;by_cases e:x=y
   ·rw[if_pos e] at h;have:(x==y)=true:=by simpa using e
    rw[this];refine kat_yes (ih ys _ _ (i+1) fin h1' h4 (.inr ?_) h);rcases hf with hf|⟨n,m,hf,_⟩
    ·exact⟨1,1,by rw[hf];simp[Nat.add_comm],rfl⟩
    ·exact⟨n+1,n+1,by rw[hf];congr 1;simp only[List.length_cons];apply propext;lia,rfl⟩
   ·rw[if_neg e] at h;have:(x==y)=false:=by simpa using e
    rw[this];refine kat_no ?_;by_cases hi:i=0
    ·subst hi;exact oneLt_int h
    ·have hb:(true&&i==0)=false:=by simp[hi]
     rw[hb];exact kat_one _ _ (lt_int h)
theorem qr3z{Q:Bool->Shared->Prop}{x y:List Int}{a b:Addr}(hx:IsK prog w s.heap x a)(hy:IsK prog w s.heap y b)(h:Q (lx x y) s):wpAny (model prog w) A (keyLt' (tuples' true) (.ref a) (.ref b)) Q E s:=by
 obtain⟨o,its,n,ho,_,hd,hi⟩:=hx;obtain⟨o',its',n',ho',_,hd',hi'⟩:=hy;exact kat_lt ho hd ho' hd' (qr2z x y its.toList its'.toList 0 _ hi hi' (.inl (by simp)) h)
def plt(ps:List (List Int×Addr))(i j:Nat):Bool:=lx ((ps.getD i ([],0)).1) ((ps.getD j ([],0)).1)
theorem qr4z(ps:List (List Int×Addr))(n:Nat):Ord n (plt ps):=⟨fun a b _ _ h=>qjdz h,fun a b c _ _ _ h1 h2=>qjez h1 h2⟩
def cmpP(n:Nat)(lt:Nat->Nat->Bool)(i j:Nat)(C:Bool->Shared->Prop)(s:Shared):Prop:=i<n/\j<n/\C (lt i j) s
theorem conv{α:Type}{n:Nat}{lt:Nat->Nat->Bool}{κ:SortKind}{vs:List Value}{Q:α->Shared->Prop}(ha:∀i j,i<n->j<n->∀C:Bool->Shared->Prop,C (lt i j) s->kas_ask prog w A κ vs i j C s):
  ∀t:KasT α,t.kasWp (cmpP n lt) Q s->t.kasWp (kas_ask prog w A κ vs) Q s
 |.ret a,h=>h
 |.ask i j k,h=>by
  obtain⟨h1,h2,h3⟩:=h;exact ha i j h1 h2 _ (conv ha (k (lt i j)) h3)
theorem qfkz{ps:List (List Int×Addr)}{i:Nat}(hi:i<ps.length):(ps.map fun p=>Value.ref p.2).getD i Value.none=.ref (ps.getD i ([],0)).2:=by
 simp[List.getD,hi]
theorem getD_mem{ps:List (List Int×Addr)}{i:Nat}(hi:i<ps.length):ps.getD i ([],0)∈ps:=by
 simp[List.getD,hi]
theorem qr5z{ps:List (List Int×Addr)}(hk:∀p∈ps,IsK prog w s.heap p.1 p.2):∀i j,i<ps.length->j<ps.length->∀C:Bool->Shared->Prop,C (plt ps i j) s->kas_ask prog w A (tuples' true) (ps.map fun p=>Value.ref p.2) i j C s:=fun i j hi hj C h=>by
 unfold kas_ask;rw[qfkz hi,qfkz hj];exact qr3z (hk _ (getD_mem hi)) (hk _ (getD_mem hj)) h
theorem qjfz{h:Heap}:∀{ps:List (List Int×Addr)},(∀p∈ps,IsK prog w h p.1 p.2/\p.1≠[])->∃fs,KatTups h (ps.map fun p=>Value.ref p.2) fs/\fs.length=ps.length/\∀v∈fs,∃i t,v=.int i t
 |[],_=>⟨[],.nil,rfl,fun v hv=>nomatch hv⟩
 |p::ps,hk=>by
  obtain⟨fs,h1,h2,h3⟩:=qjfz (ps:=ps) fun q hq=>hk q (List.mem_cons_of_mem _ hq);obtain⟨⟨o,its,n,ho,hc,hd,hi⟩,hne⟩:=hk p List.mem_cons_self;obtain⟨ks,a⟩:=p;cases ks with
  |nil=>exact absurd rfl hne
  |cons k ks=>
   obtain⟨its⟩:=its;cases hi with
   |cons h4 h5=>
    rename_i v vs;obtain⟨t,e⟩:=Value.isInt_shape h4;refine⟨v::fs,KatTups.cons ho hc hd (by simp) h1,by simp[h2],fun u hu=>?_⟩;rcases List.mem_cons.mp hu with q|q
    ·exact⟨k,t,q.trans e⟩
    ·exact h3 u q
theorem qr6z{ps:List (List Int×Addr)}(hne:ps≠[])(hk:∀p∈ps,IsK prog w s.heap p.1 p.2/\p.1≠[]){Q:SortKind->Shared->Prop}(h:Q (tuples' true) s):wpAny (model prog w) A (keyKind' (ps.map fun p=>Value.ref p.2).toArray) Q E s:=by
 obtain⟨fs,h1,h2,h3⟩:=qjfz hk;have hl:0<fs.length:=by
  rw[h2];exact List.length_pos_iff.mpr hne
 refine kat_kind (T:=.type "int") h1 hl (fun v hv=>?_) rfl h;obtain⟨i,t,rfl⟩:=h3 v hv;exact .now
structure Srt(ps qs:List (List Int×Addr)):Prop where
 perm:qs.Perm ps
 rise:qs.Pairwise fun x y=>lx y.1 x.1=false
theorem qr7z{ps:List (List Int×Addr)}{p:Array Nat}(v:Va ps.length p)(S:So (plt ps) p ps.length):Srt ps (p.toList.map fun i=>ps.getD i ([],0)):=by
 refine⟨?_,?_⟩
 ·refine (v.perm.map _).trans ?_;have:(List.range ps.length).map (fun i=>ps.getD i ([],0))=ps:=by
   refine List.ext_getElem? fun i=>?_;by_cases hi:i<ps.length
   ·simp[List.getElem?_map,List.getElem?_range hi,List.getD,hi]
   ·rw[List.getElem?_eq_none_iff.mpr (by simpa using hi),List.getElem?_eq_none_iff.mpr (by lia)]
  rw[this]
 ·rw[List.pairwise_map,List.pairwise_iff_getElem];intro i j hi hj hij;have hs:=v.size;have h1:i<ps.length:=by rw[←hs];simpa using hi
  have h2:j<ps.length:=by rw[←hs];simpa using hj
  have e1:p.toList[i]=g p i:=by
   have:=v.get h1;simp[g,Array.getD,hs,h1]
  have e2:p.toList[j]=g p j:=by simp[g,Array.getD,hs,h2]
  rw[e1,e2];exact S i j (Nat.le_of_lt hij) h2
theorem qr8z{ps:List (List Int×Addr)}{p:Array Nat}(v:Va ps.length p):(p.toList.map fun i=>(ps.map fun q=>Value.ref q.2).getD i Value.none)=(p.toList.map fun i=>ps.getD i ([],0)).map fun q=>Value.ref q.2:=by
 rw[List.map_map];refine List.map_congr_left fun i hi=>?_;have:i<ps.length:=by
  have:=v.perm.mem_iff.mp hi;simpa using this
 exact qfkz this
theorem qr9z{h h':Heap}{ks:List Int}{a b:Addr}{its:Array Value}{n:Nat}(hb:h.get? b=some (seqObj "list" its n))(keep:∀c o,c≠b->h.get? c=some o->h'.get? c=some o)(hk:IsK prog w h ks a):IsK prog w h' ks a:=by
 obtain⟨o,it,m,ho,hc,hd,hi⟩:=hk;refine⟨o,it,m,keep a o (fun e=>?_) ho,hc,hd,hi⟩;rw[e,hb] at ho;cases ho;injection hc with hc
 exact absurd hc (by decide)
theorem qsaz{a:Addr}{n:Nat}{ps:List (List Int×Addr)}{P:PySem.Fin->Shared->Prop}(ho:s.heap.get? a=some (seqObj "list" (ps.map fun p=>Value.ref p.2).toArray n))(hk:∀p∈ps,IsK prog w s.heap p.1 p.2/\p.1≠[])(h2:2≤ps.length)(h64:ps.length<64)
  (h:∀qs h' c,Srt ps qs->h'.get? a=some (seqObj "list" (qs.map fun p=>Value.ref p.2).toArray c)->(∀b o,b≠a->s.heap.get? b=some o->h'.get? b=some o)->P (.done (.ret .none)) { s with heap:=h' }):
  wpAny (model prog w) A (Builtin.«list.sort» ⟨[.ref a],[]⟩) P E s:=by
 have ha:a<s.heap.objs.size:=Heap.lt_size ho;have s1:=Heap.SameBut.update s.heap a (Obj.mapSeq fun _=>(#[]:Array Value));obtain⟨e1,ho1⟩:∃e1,(s.heap.update a (Obj.mapSeq fun _=>(#[]:Array Value))).get? a=some (seqObj "list" #[] e1):=⟨_,get?_update_seq ho fun _=>#[]⟩;generalize hvs:(ps.map fun p=>Value.ref p.2)=vs at ho;have hlen:vs.length=ps.length:=by rw[←hvs,List.length_map]
 have hu3:∀b o,b≠a->s.heap.get? b=some o->(((s.heap.update a (Obj.mapSeq fun _=>(#[]:Array Value))).push (seqObj "tuple" vs.toArray 0)).push (seqObj "list" #[] 0)).get? b=some o:=fun b o hb e=>
  Heap.get?_push_of_some _ (Heap.get?_push_of_some _ ((s1.2 b hb).trans e))
 have ho3:(((s.heap.update a (Obj.mapSeq fun _=>(#[]:Array Value))).push (seqObj "tuple" vs.toArray 0)).push (seqObj "list" #[] 0)).get? a=some (seqObj "list" #[] e1):=Heap.get?_push_of_some _ (Heap.get?_push_of_some _ ho1);rw[list_sort_plain];refine wpAny_bind (listItems_at ho rfl ?_);refine wpAny_bind (listUpdate_at ho rfl ?_ (by rw[List.size_toArray,sizeLine_eq];lia) (Nat.zero_le _));refine wpAny_bind (seqEpoch_at ho1 rfl ?_);refine wpAny_bind (wpAny_newTuple ?_ (by show vs.length≤_;rw[sizeLine_eq];lia));refine wpAny_bind (wpAny_newList ?_ (Nat.zero_le _));refine wpAny_holding ?_;show wpAny (model prog w) A _ P E { s with heap:=((s.heap.update a (Obj.mapSeq fun _=>(#[]:Array Value))).push (seqObj "tuple" vs.toArray 0)).push (seqObj "list" #[] 0)};generalize ((s.heap.update a (Obj.mapSeq fun _=>(#[]:Array Value))).push (seqObj "tuple" vs.toArray 0)).push (seqObj "list" #[] 0)=h3 at hu3 ho3 ⊢;have hk3:∀p∈ps,IsK prog w h3 p.1 p.2/\p.1≠[]:=fun p hp=>⟨qr9z ho hu3 (hk p hp).1,(hk p hp).2⟩;dsimp only;have hn2:¬vs.toArray.size<2:=by rw[List.size_toArray];lia
 rw[if_neg hn2,if_neg hn2];have hne:ps≠[]:=fun z=>by rw[z] at h2;simp at h2
 refine wpAny_bind ?_;rw[←hvs];refine qr6z (s:={ s with heap:=h3 }) hne hk3 ?_;have hsort:(kas_sort vs.length).kasWp (kas_ask prog w A (tuples' true) (ps.map fun p=>Value.ref p.2)) (fun p s'=>s'={ s with heap:=h3 }/\Va ps.length p/\So (plt ps) p ps.length) { s with heap:=h3 }:=by
  refine conv (lt:=plt ps) (n:=ps.length) (qr5z (s:={ s with heap:=h3 }) fun p hp=>(hk3 p hp).1) _ ?_
  rw[hlen];exact qq8z (qr4z ps ps.length) (fun i j hi hj C s' hC=>⟨hi,hj,hC⟩) (by lia) fun p v S=>⟨rfl,v,S⟩
 have hsort:(kas_sort (ps.map fun p=>Value.ref p.2).length).kasWp (kas_ask prog w A (tuples' true) (ps.map fun p=>Value.ref p.2)) (fun p s'=>s'={ s with heap:=h3 }/\Va ps.length p/\So (plt ps) p ps.length) { s with heap:=h3 }:=by
  rw[hlen] at hsort;rw[List.length_map];exact hsort
 refine wpAny_bind (wpAny_mono (kat_run (Q:=fun st' s'=>∃p:Array Nat,p.size=(ps.map fun p=>Value.ref p.2).length/\arrOf st'=p.map (kas_item ((ps.map fun p=>Value.ref p.2).toArray.zip (ps.map fun p=>Value.ref p.2).toArray))/\failedOf st'=none/\s'={ s with heap:=h3 }/\Va ps.length p/\So (plt ps) p ps.length)
  rfl (by rw[List.length_map];exact h2) (by rw[List.length_map];exact h64) (fun p' st' s' a1 a2 a3 a4=>⟨p',a1,a2,a3,a4⟩) hsort) ?_ fun _ _ e=>e)
 rintro⟨⟨⟩,st'⟩ s' ⟨p,hp,har,hf,rfl,va,so⟩;dsimp only;have hout:=kat_snds rfl har;rw[qr8z va] at hout;have hS:=qr7z va so;generalize (p.toList.map fun i=>ps.getD i ([],0))=qs at hout hS;have hsz:(List.toArray (qs.map fun q=>Value.ref q.2)).size=ps.length:=by rw[List.size_toArray,List.length_map,hS.perm.length_eq]
 rw[hout];have s2:=Heap.SameBut.update h3 a (Obj.mapSeq fun _=>List.toArray (qs.map fun q=>Value.ref q.2));obtain⟨c2,hc2⟩:∃c2,(h3.update a (Obj.mapSeq fun _=>List.toArray (qs.map fun q=>Value.ref q.2))).get? a=some (seqObj "list" (List.toArray (qs.map fun q=>Value.ref q.2)) c2):=⟨_,get?_update_seq ho3 fun _=>List.toArray (qs.map fun q=>Value.ref q.2)⟩;refine wpAny_bind (seqEpoch_at ho3 rfl ?_);refine wpAny_bind (listUpdate_at ho3 rfl ?_ (Nat.zero_le _) (Nat.le_trans (Nat.le_of_eq hsz) (by rw[sizeLine_eq];lia)));rw[hf];simp only[bne_self_eq_false,Bool.false_eq_true,if_false];exact wpAny_pure (h qs _ c2 hS hc2 fun b o hb e=>(s2.2 b hb).trans (hu3 b o hb e))
theorem qsbz{a:Addr}{n:Nat}{vs:List Value}{P:PySem.Fin->Shared->Prop}(ho:s.heap.get? a=some (seqObj "list" vs.toArray n))(h2:vs.length<2)
  (h:∀h' c,h'.get? a=some (seqObj "list" vs.toArray c)->(∀b o,b≠a->s.heap.get? b=some o->h'.get? b=some o)->P (.done (.ret .none)) { s with heap:=h' }):
  wpAny (model prog w) A (Builtin.«list.sort» ⟨[.ref a],[]⟩) P E s:=by
 have s1:=Heap.SameBut.update s.heap a (Obj.mapSeq fun _=>(#[]:Array Value));obtain⟨e1,ho1⟩:∃e1,(s.heap.update a (Obj.mapSeq fun _=>(#[]:Array Value))).get? a=some (seqObj "list" #[] e1):=⟨_,get?_update_seq ho fun _=>#[]⟩;have hu3:∀b o,b≠a->s.heap.get? b=some o->(((s.heap.update a (Obj.mapSeq fun _=>(#[]:Array Value))).push (seqObj "tuple" vs.toArray 0)).push (seqObj "list" #[] 0)).get? b=some o:=fun b o hb e=>
  Heap.get?_push_of_some _ (Heap.get?_push_of_some _ ((s1.2 b hb).trans e))
 have ho3:(((s.heap.update a (Obj.mapSeq fun _=>(#[]:Array Value))).push (seqObj "tuple" vs.toArray 0)).push (seqObj "list" #[] 0)).get? a=some (seqObj "list" #[] e1):=Heap.get?_push_of_some _ (Heap.get?_push_of_some _ ho1);rw[list_sort_plain];refine wpAny_bind (listItems_at ho rfl ?_);refine wpAny_bind (listUpdate_at ho rfl ?_ (by rw[List.size_toArray,sizeLine_eq];lia) (Nat.zero_le _));refine wpAny_bind (seqEpoch_at ho1 rfl ?_);refine wpAny_bind (wpAny_newTuple ?_ (by show vs.length≤_;rw[sizeLine_eq];lia));refine wpAny_bind (wpAny_newList ?_ (Nat.zero_le _));refine wpAny_holding ?_;show wpAny (model prog w) A _ P E { s with heap:=((s.heap.update a (Obj.mapSeq fun _=>(#[]:Array Value))).push (seqObj "tuple" vs.toArray 0)).push (seqObj "list" #[] 0)};generalize ((s.heap.update a (Obj.mapSeq fun _=>(#[]:Array Value))).push (seqObj "tuple" vs.toArray 0)).push (seqObj "list" #[] 0)=h3 at hu3 ho3 ⊢;dsimp only;have hn2:vs.toArray.size<2:=by rw[List.size_toArray];lia
 rw[if_pos hn2,if_pos hn2];refine wpAny_bind (wpAny_pure ?_);rw[StateT.run_pure];refine wpAny_bind (wpAny_pure ?_);dsimp only;have hout:(arrOf (SortSt.mk' general' (vs.toArray.zip vs.toArray) #[] 7 none)).map (·.2)=vs.toArray:=by
  show (vs.toArray.zip vs.toArray).map (·.2)=vs.toArray;refine Array.ext (by simp) fun i h1 h2=>?_;simp
 rw[hout];have s2:=Heap.SameBut.update h3 a (Obj.mapSeq fun _=>vs.toArray);obtain⟨c2,hc2⟩:∃c2,(h3.update a (Obj.mapSeq fun _=>vs.toArray)).get? a=some (seqObj "list" vs.toArray c2):=⟨_,get?_update_seq ho3 fun _=>vs.toArray⟩;refine wpAny_bind (seqEpoch_at ho3 rfl ?_);refine wpAny_bind (listUpdate_at ho3 rfl ?_ (Nat.zero_le _) (by rw[List.size_toArray,sizeLine_eq];lia));simp only[bne_self_eq_false,Bool.false_eq_true,if_false];exact wpAny_pure (h _ c2 hc2 fun b o hb e=>(s2.2 b hb).trans (hu3 b o hb e))
theorem qscz{h h':Heap}{ks:List Int}{a:Addr}(keep:∀c o,h.get? c=some o->h'.get? c=some o)(hk:IsK prog w h ks a):IsK prog w h' ks a:=by
 obtain⟨o,it,m,ho,r⟩:=hk;exact⟨o,it,m,keep a o ho,r⟩
theorem sorted_of{l:Addr}{ps:List (List Int×Addr)}{Q:Value->Shared->Prop}(hk:∀p∈ps,IsK prog w s.heap p.1 p.2/\p.1≠[])(h64:ps.length<64)
  (hcol:∀(R:List Value->Shared->Prop),(∀s',Moved [] (fun x y=>y=x) s s'->R (ps.map fun p=>Value.ref p.2) s')->wpAny (model prog w) A.in1 (collect (.ref l)) R E s)
  (h:∀qs s' c D,Srt ps qs->s.heap.get? D=none->s'.heap.get? D=some (seqObj "list" (qs.map fun p=>Value.ref p.2).toArray c)->Moved [] (fun x y=>y=x) s s'->Q (.ref D) s'):
  wpAny (model prog w) A (call (.builtin "sorted") [.ref l]) Q E s:=by
 refine Calls.call_function_entry kind_sorted plain_sorted entry_sorted (args_sorted1 _) ?_;unfold Builtin.«sorted»;refine wpAny_bind (m:=checkCount "sorted" 1 1 _) (wpAny_pure ?_);refine wpAny_bind (hcol _ fun s1 hm=>?_);refine wpAny_bind (wpAny_newList ?_ (by rw[List.length_map,sizeLine_eq];lia));have hoL:(s1.heap.push (seqObj "list" (ps.map fun p=>Value.ref p.2).toArray 0)).get? s1.heap.objs.size=some (seqObj "list" (ps.map fun p=>Value.ref p.2).toArray 0):=Heap.get?_push_size _ rfl;have keep0:∀b o,s.heap.get? b=some o->s1.heap.get? b=some o:=fun b o e=>hm.heap b o (fun z=>nomatch z) e;have hfr:s.heap.get? s1.heap.objs.size=none:=by
  cases hz:s.heap.get? s1.heap.objs.size with
  |none=>rfl
  |some o=>exact absurd (Heap.lt_size (keep0 _ _ hz)) (Nat.lt_irrefl _)
 have keep:∀b o,s.heap.get? b=some o->(s1.heap.push (seqObj "list" (ps.map fun p=>Value.ref p.2).toArray 0)).get? b=some o:=fun b o e=>Heap.get?_push_of_some _ (keep0 b o e);show wpAny _ _ _ _ _ { s1 with heap:=s1.heap.push (seqObj "list" (ps.map fun p=>Value.ref p.2).toArray 0)};refine wpAny_bind (wpAny_holding (wpAny_call_entry slot_list_sort ⟨_,hoL,rfl⟩ entry_list_sort ?body (args_list_sort _)));have fin:∀qs h' c,Srt ps qs->h'.get? s1.heap.objs.size=some (seqObj "list" (qs.map fun p=>Value.ref p.2).toArray c)->(∀b o,b≠s1.heap.objs.size->(s1.heap.push (seqObj "list" (ps.map fun p=>Value.ref p.2).toArray 0)).get? b=some o->h'.get? b=some o)->Q (.ref s1.heap.objs.size) { s1 with heap:=h' }:=fun qs h' c hS e kk=>
  h qs _ c _ hS hfr e ⟨fun b o _ e1=>kk b o (Nat.ne_of_lt (Heap.lt_size (keep0 b o e1))) (keep b o e1),hm.gens,hm.drawn,hm.os,hm.toks⟩
 case body=>
  by_cases h2:2≤ps.length
  ·refine qsaz (s:={ s1 with heap:=s1.heap.push (seqObj "list" (ps.map fun p=>Value.ref p.2).toArray 0)}) hoL (fun p hp=>⟨qscz keep (hk p hp).1,(hk p hp).2⟩) h2 h64 fun qs h' c hS e kk=>?_;exact⟨_,rfl,wpAny_pure ⟨_,rfl,fin qs h' c hS e kk⟩⟩
  ·refine qsbz (s:={ s1 with heap:=s1.heap.push (seqObj "list" (ps.map fun p=>Value.ref p.2).toArray 0)}) hoL (by rw[List.length_map];lia) fun h' c e kk=>?_;have hS:Srt ps ps:=⟨.refl _,by
    rcases ps with _|⟨x,_|⟨y,r⟩⟩
    ·exact .nil
    ·exact List.pairwise_singleton _ _
    ·simp at h2⟩
   exact⟨_,rfl,wpAny_pure ⟨_,rfl,fin ps h' c hS e kk⟩⟩
end
end SortV
namespace L3
open PySem PySem.Spec PyProof.Rows L2
structure Kit(T:String):Prop where
 non:∀K,PySem.W.kitOne K (.type "NoneType") (.type T)=some false
 bl:∀K,PySem.W.kitOne K (.type "bool") (.type T)=some (T=="bool" || T=="int")
 int:∀K,PySem.W.kitOne K (.type "int") (.type T)=some (T=="int")
 str:∀K,PySem.W.kitOne K (.type "str") (.type T)=some (T=="str")
 tup:∀K,PySem.W.kitOne K (.type "tuple") (.type T)=some (T=="tuple")
 lst:∀K,PySem.W.kitOne K (.type "list") (.type T)=some (T=="list")
 dct:∀K,PySem.W.kitOne K (.type "dict") (.type T)=some (T=="dict")
theorem qjgz:Kit "int":=⟨fun _=>rfl,fun _=>rfl,fun _=>rfl,fun _=>rfl,fun _=>rfl,fun _=>rfl,fun _=>rfl⟩
theorem qjhz:Kit "bool":=⟨fun _=>rfl,fun _=>rfl,fun _=>rfl,fun _=>rfl,fun _=>rfl,fun _=>rfl,fun _=>rfl⟩
theorem kit_tuple:Kit "tuple":=⟨fun _=>rfl,fun _=>rfl,fun _=>rfl,fun _=>rfl,fun _=>rfl,fun _=>rfl,fun _=>rfl⟩
theorem qsdz:Kit "str":=⟨fun _=>rfl,fun _=>rfl,fun _=>rfl,fun _=>rfl,fun _=>rfl,fun _=>rfl,fun _=>rfl⟩
section
variable {X:Cx} {a e:Expr} {es:List Expr} {ta:TE3} {t:TA3} {pos p p2:Pos}
theorem qsez{T:String}(k:Kit T):CallR X (.builtin "isinstance") (fun vs H Q=>∃d v G b,vs=[v,.ty T]/\Hv X.K H d v/\RepG X.K G H/\instD T G d=some b/\Q (.bl b) H):=by
 intro pins s σ H vs us Q I r h;obtain⟨d,v,G,b,rfl,hd,RG,hb,q⟩:=h;obtain⟨u,c,rfl,ru,rc⟩:=vals2 r;cases (show c=Value.type T from rc);have fin:∀tk,EP X pins σ Q (.bool b) { s with toks:=tk }:=fun tk=>⟨.bl b,H,I.tok tk,rfl,q⟩
 cases d with
 |non=>
  unfold Hv at hd;subst hd;cases (show u=Value.none from ru);cases hb;exact PySem.W.kia_one PySem.W.kitx_none I.kIn True.intro (k.non _) (fun z=>nomatch z) fin
 |bl y=>
  rw[qa2z hd] at ru;cases (show u=Value.bool y from ru);cases hb;exact PySem.W.kia_one PySem.W.kitx_bool I.kIn True.intro (k.bl _) (fun z=>nomatch z) fin
 |int y=>
  rw[qsz hd] at ru;obtain⟨t,rfl⟩:=(show ∃t,u=Value.int y t from ru);cases hb;exact PySem.W.kia_one PySem.W.kitx_int I.kIn True.intro (k.int _) (fun z=>nomatch z) fin
 |str y=>
  unfold Hv at hd;subst hd;obtain⟨t,rfl⟩:=(show ∃t,u=Value.str y t from ru);cases hb;exact PySem.W.kia_one PySem.W.kitx_str I.kIn True.intro (k.str _) (fun z=>nomatch z) fin
 |tup ds=>
  obtain⟨x,xs,rfl,e1,_⟩:=qalz hd;cases (show u=Value.ref x from ru);cases hb;obtain⟨its,_,⟨o,h1,h2,_⟩,_⟩:=I.tuple e1;exact PySem.W.kia_one PySem.W.kitx_tuple I.kIn ⟨o,h1,h2⟩ (k.tup _) (fun z=>nomatch z) fin
 |scr ds=>
  obtain⟨x,xs,rfl,e1,_⟩:=qbnz hd;cases (show u=Value.ref x from ru);cases hb;obtain⟨its,_,p1,_⟩:=I.list e1.l;obtain⟨o,h1,h2,_⟩:=p1.isList;exact PySem.W.kia_one PySem.W.kitx_list I.kIn ⟨o,h1,h2⟩ (k.lst _) (fun z=>nomatch z) fin
 |dc x=>
  unfold Hv at hd;obtain⟨rfl,ob,φ,e1,c⟩:=hd;cases (show u=Value.ref x from ru);cases hb;obtain⟨h1,_⟩:=I.hok x _ e1;exact PySem.W.kia_one PySem.W.kitx_dict I.kIn ⟨ob,h1,c⟩ (k.dct _) (fun z=>nomatch z) fin
 |obj x=>
  rw[qwz hd] at ru;cases (show u=Value.ref x from ru);unfold instD at hb;cases hG:G x with
  |none=>simp[hG] at hb
  |some o=>
   have hl:∀xs,H x=some (.lst xs)->∃o,s.heap.get? x=some o/\o.cls=.type "list":=fun xs e=>by
    obtain⟨_,_,n,_,h1⟩:=(show ObjOk X.prog X.w H s.heap x (.lst xs) from I.hok x _ e);exact⟨_,h1,rfl⟩
   cases o with
   |lst ds=>
    simp only[hG] at hb;cases hb;obtain⟨vs,e1,_⟩:=RG x _ hG;obtain⟨o,h1,h2⟩:=hl _ e1;exact PySem.W.kia_one PySem.W.kitx_list I.kIn ⟨o,h1,h2⟩ (k.lst _) (fun z=>nomatch z) fin
   |pen=>
    simp only[hG] at hb;cases hb;obtain⟨_,_,_,e1,_⟩:=RG x _ hG;obtain⟨o,h1,h2⟩:=hl _ e1;exact PySem.W.kia_one PySem.W.kitx_list I.kIn ⟨o,h1,h2⟩ (k.lst _) (fun z=>nomatch z) fin
   |gen R=>simp[hG] at hb
   |dct=>
    simp only[hG] at hb;cases hb;have e1:H x=some (.ext fun h=>∃o,h.get? x=some o/\o.cls=.type "dict"):=RG x _ hG;obtain⟨⟨o,h1,h2⟩,_⟩:=(show ObjOk X.prog X.w H s.heap x _ from I.hok x _ e1);exact PySem.W.kia_one PySem.W.kitx_dict I.kIn ⟨o,h1,h2⟩ (k.dct _) (fun z=>nomatch z) fin
theorem qsfz{T:String}{TS:Str}(k:Kit T)(hv:bootBuiltins TS=some (.type T))(ha:PE3 X a ta)(hm:X.mg "isinstance" = none)(hm2:X.mg TS=none)(hgT:Gl X TS)(hnT:TS≠"__name__")(hdT:(TS==("__debug__":Str))=false)(hg:Gl X "isinstance":=by rfl)
  (he:notStar a=true:=by rfl):
  PE3 X (.Call (.Name "isinstance" p) [a,.Name TS p2] [] pos) (eInst T ta):=
 qvz (qa8z (qsez k) hg hm rfl (qa1z ha (qa1z (qhgz (v:=.ty T) hgT hm2 hv rfl hnT hdT) qb5z (qmz rfl)) (qmz he)) (he:=qmz he) (hpl:=qyz rfl)) fun σ H Q ⟨τ,G,Q3,RS,RG,h,k⟩=>by
  refine⟨τ,G,_,RS,RG,h,fun v H1 d G1 h1 S1 R1 q1=>?_⟩;cases hb:instD T G1 d with
  |none=>rw[hb] at q1;exact q1.elim
  |some b=>
   rw[hb] at q1;exact⟨d,v,G1,b,rfl,h1,R1,hb,k _ H1 (.bl b) G1 qacz S1 R1 q1⟩
end
def tupI(ns:List Int):D:=.tup (ns.map D.int)
section
variable {P:Program} {w:World} {H:Hp} {h:Heap} {a:Addr} {o:HO}
theorem qsgz(x:ObjOk P w H h a o):∃o,h.get? a=some o:=by
 cases o with
 |lst xs=>obtain⟨_,_,_,_,e⟩:=x;exact⟨_,e⟩
 |tup xs=>obtain⟨_,_,_,o,e,_⟩:=x;exact⟨_,e⟩
 |dK kvs=>obtain⟨_,_,_,_,o,_,_,e,_⟩:=x;exact⟨_,e⟩
 |dT kvs=>obtain⟨_,_,_,_,o,_,_,e,_⟩:=x;exact⟨_,e⟩
 |set S n=>obtain⟨o,_,_,_,e,_⟩:=x;exact⟨_,e⟩
 |ins C dx fs=>obtain⟨_,_,_,e,_⟩:=x;exact⟨_,e⟩
 |own y=>obtain⟨_,e⟩:=x;exact⟨_,e⟩
 |xd fs=>obtain⟨_,⟨_,_,_,e,_⟩,_⟩:=x;exact⟨_,e⟩
 |rng lo hi=>obtain⟨_,_,_,e⟩:=x;exact⟨_,e⟩
 |frz ob u=>obtain⟨e,_⟩:=x;exact⟨_,e⟩
 |tbl ps=>exact⟨_,(show h.get? a=some _ from x)⟩
 |met f y=>exact⟨_,(show h.get? a=some _ from x)⟩
 |ext φ=>obtain⟨_,⟨_,e⟩,_⟩:=x;exact⟨_,e⟩
end
section
variable {X:Cx} {pins:List (Addr×Obj)} {σ:L2.St} {H:Hp} {s:Shared}
theorem Inv.freeN(I:Inv X pins σ H s){a:Addr}(hn:s.heap.get? a=none):H a=none:=by
 cases e:H a with
 |none=>rfl
 |some o=>
  obtain⟨ob,h⟩:=qsgz (I.hok a o e);rw[hn] at h;cases h
theorem Inv.laidN{a:Addr}{o:HO}{t':Nat}{h':Heap}(I:Inv X pins σ H s)(k:∀b u,s.heap.get? b=some u->h'.get? b=some u)(hn:s.heap.get? a=none)(new:ObjOk X.prog X.w (upd H a o) h' a o):
  Inv X pins σ (upd H a o) { s with heap:=h',toks:=t' }:=by
 have hH:=Inv.freeN I hn;have ne:∀b u,s.heap.get? b=some u->b≠a:=fun b u e z=>by rw[z,hn] at e;cases e
 refine I.un ⟨fun b u q _ _ _=>k b u q,fun b u q _ _ _=>⟨u.slots,k b u q⟩,fun b u q n _=>by rw[qlz (ne b u q)];exact n,fun b u q _=>⟨u,k b u q⟩,fun b xs q=>by rw[qlz (qagz q hH)];exact q,
  fun b u xs q=>by rw[qlz (qagz q hH)];exact q,fun b ps q=>⟨#[],by rw[qlz (qagz q hH),q];simp⟩⟩ fun b u e=>?_
 by_cases hb:b=a
 ·subst hb;rw[qtz] at e;cases e;exact new
 ·rw[qlz hb] at e;exact (I.hok b u e).stay (fun c v _ q=>k c v q) (fun c q=>by rw[qlz (qagz q hH)];exact q) fun c xs q=>by rw[qlz (qagz q hH)];exact q
theorem qjiz{ns:List Int}:∀{us:List Value},Vals (ns.map V.int) us->ItemsAre (intKind X.prog X.w) ns us:=by
 induction ns with
 |nil=>intro us r;cases r;exact .nil
 |cons n ns ih=>
  intro us r;cases r with
  |cons r1 r2=>
   obtain⟨t,rfl⟩:=(show ∃t,_=Value.int n t from r1);exact .cons (by show Value.isInt n (.int n t)=true;simp[Value.isInt]) (ih r2)
theorem qflz(I:Inv X pins σ H s):∀{nss:List (List Int)} {vs:List V} {us:List Value},Hvs X.K H (nss.map tupI) vs->Vals vs us ->
  ∃ps:List (List Int×Addr),ps.map (·.1)=nss/\vs=ps.map (fun p=>.ref p.2)/\us=ps.map (fun p=>Value.ref p.2)/\∀p∈ps,SqT X.K H p.2 (p.1.map V.int)/\SetM.IsK X.prog X.w s.heap p.1 p.2
 |[],vs,us,h,r=>by
  cases h.inv0;cases r;exact⟨[],rfl,rfl,rfl,fun p hp=>nomatch hp⟩
 |ns::nss,vs,us,h,r=>by
  obtain⟨v,vr,rfl,q1,q2⟩:=h.inv;cases r with
  |cons r1 r2=>
   obtain⟨ps,e1,e2,e3,e4⟩:=qflz I q2 r2;obtain⟨a,ws,rfl,z1,z2⟩:=qalz q1;have hw:ws=ns.map V.int:=by
    refine qb9z z2 ?_;clear z2 z1 q1 h e1 e2 e3 e4 q2 r2 r1
    induction ns with
    |nil=>rfl
    |cons n ns ih=>simp[intsOf,ih]
   subst hw;cases (show _=Value.ref a from r1);obtain⟨its,rv,⟨o,h1,h2,n,h3⟩,_⟩:=I.tuple z1;refine⟨(ns,a)::ps,by simp[e1],by simp[e2],by simp[e3],fun p hp=>?_⟩;rcases List.mem_cons.mp hp with rfl|hp
   ·exact⟨z1,o,its.toArray,n,h1,h2,h3,qjiz rv⟩
   ·exact e4 p hp
theorem qfmz{K:PySem.W.Frag}{H:Hp}:∀{qs:List (List Int×Addr)},(∀p∈qs,SqT K H p.2 (p.1.map V.int))->Hvs K H ((qs.map (·.1)).map tupI) (qs.map fun p=>.ref p.2)
 |[],_=>.nil
 |q::qs,h=>.cons (qa3z (h q List.mem_cons_self) (Hvs.ints _)) (qfmz fun p hp=>h p (List.mem_cons_of_mem _ hp))
theorem qjjz:∀(qs:List (List Int×Addr)),Vals (qs.map fun p=>V.ref p.2) (qs.map fun p=>Value.ref p.2)
 |[]=>.nil
 |q::qs=>.cons rfl (qjjz qs)
def RiseL(nss:List (List Int)):Prop:=nss.Pairwise fun x y=>SortV.lx y x=false
theorem qjkz{Q:VK}(I:Inv X pins σ H s){ps qs:List (List Int×Addr)}{s':Shared}{c:Nat}{D':Addr}(hz:ps.length<64)(hS:SortV.Srt ps qs)(hn:s.heap.get? D'=none)(hD:s'.heap.get? D'=some (seqObj "list" (qs.map fun p=>Value.ref p.2).toArray c))
  (hm:Moved [] (fun x y=>y=x) s s') (q:H D'=none->Q (.ref D') (upd H D' (.lst (qs.map fun p=>.ref p.2)))):EP X pins σ Q (.ref D') s':=by
 have e:s'={ s with heap:=s'.heap,toks:=s'.toks }:=by
  cases s';cases s;have h1:=hm.gens;have h2:=hm.drawn;have h3:=hm.os;simp only at h1 h2 h3;subst h1 h2 h3;rfl
 rw[e];refine⟨.ref D',_,Inv.laidN I (o:=.lst (qs.map fun p=>.ref p.2)) (fun b u z=>hm.heap b u (fun y=>nomatch y) z) hn ?_,rfl,q (Inv.freeN I hn)⟩;refine⟨?_,_,c,qjjz qs,hD⟩;rw[List.length_map,hS.perm.length_eq,sizeLine_eq];lia
theorem qshz(hc:X.calm=true)(hu:X.A.units+64<cLine):CallR X (.builtin "sorted") (fun vs H Q=>∃(a:Addr) (xs:List V) (nss:List (List Int)),vs=[.ref a]/\SqL X.K H a xs/\Hvs X.K H (nss.map tupI) xs/\nss.length<64/\(∀ns∈nss,ns≠[]) ∧
  ∀(p:Addr) (mss:List (List Int)) (ys:List V),H p=none->mss.Perm nss->RiseL mss->Hvs X.K H (mss.map tupI) ys->Q (.ref p) (upd H p (.lst ys))):=by
 intro pins s σ H vs us Q I r h;obtain⟨a,xs,nss,rfl,hl,hv,hz,hne,q⟩:=h;obtain⟨u,rfl,ru⟩:=vals1 r;cases ru;obtain⟨its,rv,pl,_⟩:=I.list hl;obtain⟨ps,e1,e2,e3,e4⟩:=qflz I hv rv;subst e3;have hlen:ps.length=nss.length:=by rw[←e1,List.length_map]
 refine SortV.sorted_of (ps:=ps) (fun p hp=>⟨(e4 p hp).2,hne _ (by rw[←e1];exact List.mem_map.mpr ⟨p,hp,rfl⟩)⟩) (by lia) (fun R hR=>?_) fun qs s' c D' hS hn hD hm=>?_
 ·refine collect_list pl.isList (hR _ ⟨fun b o _ e=>?_,rfl,rfl,rfl,Nat.le_refl _⟩) (by rw[List.length_map,sizeLine_eq];lia);have hlt:=Heap.lt_size e;show ((s.heap.push (seqObj "list" #[] 0)).update s.heap.objs.size _).get? b=some o;rw[Heap.get?_update_other _ _ (Nat.ne_of_gt hlt)];exact Heap.get?_push_of_some _ e
 ·refine qjkz I (by lia) hS hn hD hm fun hf=>?_;refine q _ (qs.map (·.1)) _ hf (by rw[←e1];exact hS.perm.map _) ?_ (qfmz fun p hp=>(e4 p (hS.perm.mem_iff.mp hp)).1);exact List.pairwise_map.mpr hS.rise
end
end L3
namespace L3
open PySem PySem.Spec PyProof.Rows L2
def setφ(P:Program)(w:World)(b:Addr)(zs:List (List Int×Addr)):Heap->Prop:=fun h=>∃o es ep t,h.get? b=some o/\o.ExactSet/\o.data=.set es ep t/\es.toList=zs.map (SetM.ent P w)/\(zs.map (·.1)).Nodup/\t.plain=true ∧
 t.led=(!(w.params.followText "set-order"))/\SetP.Tab t (es.toList.map (·.1))
theorem qsiz{α β:Type}{f:α->β}{l l':List β}(h:l.Perm l'):∀{zs:List α},l'=zs.map f->∃zs':List α,zs'.Perm zs/\l=zs'.map f:=by
 induction h with
 |nil=>
  intro zs e;have:zs=[]:=by simpa using e.symm
  subst this;exact⟨[],.nil,rfl⟩
 |cons x _ ih=>
  intro zs e;cases zs with
  |nil=>cases e
  |cons z zs=>
   simp only[List.map_cons,List.cons.injEq] at e;obtain⟨zs',h1,h2⟩:=ih e.2;exact⟨z::zs',h1.cons z,by simp[e.1,h2]⟩
 |swap x y l=>
  intro zs e;rcases zs with _|⟨z,_|⟨z2,zs⟩⟩
  ·cases e
  ·simp at e
  ·simp only[List.map_cons,List.cons.injEq] at e;exact⟨z2::z::zs,.swap _ _ _,by simp[e.1,e.2.1,e.2.2]⟩
 |trans _ _ ih1 ih2=>
  intro zs e;obtain⟨z2,h1,h2⟩:=ih2 e;obtain⟨z1,h3,h4⟩:=ih1 h2;exact⟨z1,h3.trans h1,h4⟩
section
variable {X:Cx}
theorem qsjz(hc:X.calm=true)(hu:X.A.units+64<cLine):CallR X (.type "set") (fun vs H Q=>∃(a:Addr) (xs:List V) (nss:List (List Int)),vs=[.ref a]/\SqL X.K H a xs/\Hvs X.K H (nss.map tupI) xs/\nss.length≤60 ∧
  ∀(b:Addr) (zs:List (List Int×Addr)),H b=none->(∀p∈zs,SqT X.K H p.2 (p.1.map V.int))->(∀ns,ns∈zs.map (·.1)↔ns∈nss)->(zs.map (·.1)).Nodup->zs.length≤nss.length->Q (.ref b) (upd H b (.ext (setφ X.prog X.w b zs)))):=by
 intro pins s σ H vs us Q I r h;obtain⟨a,xs,nss,rfl,hl,hv,hz,q⟩:=h;obtain⟨u,rfl,ru⟩:=vals1 r;cases ru;obtain⟨its,rv,pl,_⟩:=I.list hl;obtain⟨ps,e1,e2,e3,e4⟩:=qflz I hv rv;subst e3;have hlen:ps.length=nss.length:=by rw[←e1,List.length_map]
 refine SetM.call_set_tups (ps:=ps) (I.ok.hd hc) pl.isList rfl (fun p hp=>(e4 p hp).2) (by lia) (by lia) fun h' tk zs kk hS hD=>?_;obtain⟨o,es,ep,t,S,T⟩:=hS;refine⟨.ref s.heap.objs.size,_,I.laid (o:=.ext (setφ X.prog X.w s.heap.objs.size zs)) kk (Nat.le_refl _) ?_,rfl,q _ zs (I.hok.fresh (Nat.le_refl _)) (fun p hp=>(e4 p (hD.sub p hp)).1) (fun ns=>?_) S.nd ?_⟩
 ·refine⟨⟨o,es,ep,t,S.at_,S.ex,S.dat,S.ents,S.nd,S.plain,S.led,T⟩,⟨o,S.at_⟩,fun h1 h2 ⟨o',es',ep',t',y1,y⟩ kk2=>⟨o',es',ep',t',kk2 _ y1,y⟩⟩
 ·rw[←e1];constructor
  ·intro hm;obtain⟨p,hp,rfl⟩:=List.mem_map.mp hm;exact List.mem_map.mpr ⟨p,hD.sub p hp,rfl⟩
  ·intro hm;obtain⟨p,hp,rfl⟩:=List.mem_map.mp hm;exact hD.all p hp
 ·rw[←hlen];exact hD.len
theorem qskz(hc:X.calm=true)(hu:X.A.units+64<cLine):CallR X (.builtin "sorted") (fun vs H Q=>∃(b:Addr) (zs:List (List Int×Addr)),vs=[.ref b]/\H b=some (.ext (setφ X.prog X.w b zs))/\(∀p∈zs,SqT X.K H p.2 (p.1.map V.int))/\zs.length≤60/\(∀p∈zs,p.1≠[]) ∧
  ∀(p:Addr) (mss:List (List Int)) (ys:List V),H p=none->mss.Perm (zs.map (·.1))->RiseL mss->Hvs X.K H (mss.map tupI) ys->Q (.ref p) (upd H p (.lst ys))):=by
 intro pins s σ H vs us Q I r h;obtain⟨b,zs,rfl,hb,hk,hz,hne,q⟩:=h;obtain⟨u,rfl,ru⟩:=vals1 r;cases ru;obtain⟨⟨o,es,ep,t,y1,y2,y3,y4,y5,y6,y7,T⟩,_⟩:=(show ObjOk X.prog X.w H s.heap b _ from I.hok b _ hb);have hK:∀p∈zs,SetM.IsK X.prog X.w s.heap p.1 p.2:=fun p hp=>by
  obtain⟨its,rv,⟨o,h1,h2,n,h3⟩,_⟩:=I.tuple (hk p hp);exact⟨o,its.toArray,n,h1,h2,h3,qjiz rv⟩
 have S:SetM.SetAt X.prog X.w s.heap b o es ep t zs:=⟨y1,y2,y3,y4,hK,y5,y6,y7⟩;obtain⟨zs',p1,p2⟩:=qsiz (SetM.walkL_perm X.w b ep es) y4;have hsz:es.size=zs.length:=by
  have:es.toList.length=zs.length:=by rw[y4,List.length_map]
  simpa using this
 refine SortV.sorted_of (ps:=zs') (fun p hp=>⟨hK p (p1.mem_iff.mp hp),hne p (p1.mem_iff.mp hp)⟩) (by rw[p1.length_eq];lia) (fun R hR=>?_) fun qs s' c D' hS hn hD hm=>?_
 ·refine SetM.wp_collect_set (by have:=I.ok.hd hc;simpa using this) S T (by lia) fun s' hm=>?_;have:=hR s' hm;rw[p2,List.map_map];exact this
 ·refine qjkz I (by rw[p1.length_eq];lia) hS hn hD hm fun hf=>?_;refine q _ (qs.map (·.1)) _ hf ((hS.perm.map _).trans (p1.map _)) ?_ (qfmz fun p hp=>hk p (p1.mem_iff.mp (hS.perm.mem_iff.mp hp)));exact List.pairwise_map.mpr hS.rise
end
section
variable {X:Cx} {K:PySem.W.Frag} {e:Expr} {es:List Expr} {t:TA3} {ta:TE3} {pos p p' pos':Pos}
def qd0z:C3:=fun ds G Q=>match ds with
 |[.obj a]=>∃nss:List (List Int),G a=some (.lst (nss.map tupI))/\nss.length<64/\(∀ns∈nss,ns≠[])/\∀(p:Addr) (mss:List (List Int)) (G':Gp),New G p (.lst (mss.map tupI)) G'->mss.Perm nss->RiseL mss->Q (.obj p) G'
 |_=>False
theorem qslz:LowC K qd0z (fun vs H Q=>∃(a:Addr) (xs:List V) (nss:List (List Int)),vs=[.ref a]/\SqL K H a xs/\Hvs K H (nss.map tupI) xs/\nss.length<64/\(∀ns∈nss,ns≠[]) ∧
  ∀(p:Addr) (mss:List (List Int)) (ys:List V),H p=none->mss.Perm nss->RiseL mss->Hvs K H (mss.map tupI) ys->Q (.ref p) (upd H p (.lst ys))):=fun ds vs G H Q3 Q h RG q k=>by
 rcases ds with _|⟨d,_|⟨d2,ds⟩⟩
 ·exact q.elim
 ·obtain⟨v,rfl,hv⟩:=hvs1 h;cases d with
  |obj a=>
   obtain⟨nss,e1,hz,hne,q⟩:=q;obtain⟨xs,e2,e3⟩:=RG a _ e1;rw[qwz hv];exact⟨a,xs,nss,rfl,.of e2,e3,hz,hne,fun p mss ys hp h1 h2 h3=>k _ _ (.obj p) _ qb6z (.laidG hp) (RG.newL hp h3) (q p mss _ (.mk' (RG.free hp)) h1 h2)⟩
  |_=>exact q.elim
 ·cases d<;>exact q.elim
theorem qsmz(hu:X.A.units+64<cLine)(hm:X.mg "sorted" = none)(ha:PA3 X (e::es) t)(hc:X.calm=true:=by rfl)(hg:Gl X "sorted":=by rfl)(he:notStar e=true:=by rfl)(hpl:es.all notStar=true:=by rfl):
  PE3 X (.Call (.Name "sorted" p) (e::es) [] pos) (eCB qd0z t):=e_cb qslz (qa8z (qshz hc hu) hg hm rfl ha (he:=qmz he) (hpl:=qyz hpl))
def eSortSet(ta:TE3):TE3:=fun τ G Q=>ta τ G fun x G1=>match x with
 |.obj a=>∃nss:List (List Int),G1 a=some (.lst (nss.map tupI))/\nss.length≤60/\(∀ns∈nss,ns≠[])/\∀(p:Addr) (mss:List (List Int)) (G':Gp),New G1 p (.lst (mss.map tupI)) G'->(∀ns,ns∈mss↔ns∈nss)->mss.Nodup->RiseL mss->mss.length≤nss.length->Q (.obj p) G'
 |_=>False
theorem qsnz(hu:X.A.units+64<cLine)(ha:PE3 X e ta)(hm:X.mg "sorted" = none)(hm2:X.mg "set" = none)(hc:X.calm=true:=by rfl)(hg:Gl X "sorted":=by rfl)(hg2:Gl X "set":=by rfl)(he2:notStar e=true:=by rfl):
  PE3 X (.Call (.Name "sorted" p) [.Call (.Name "set" p') [e] [] pos'] [] pos) (eSortSet ta):=
 qvz (qa8z (qskz hc hu) hg hm rfl (qa1z (qeyz (qsjz hc hu) hg2 hm2 rfl (qa1z ha qb5z (qmz he2)) (he:=qmz he2) (hpl:=qyz rfl)) qb5z (qmz rfl)) (he:=qmz rfl) (hpl:=qyz rfl)) fun σ H Q ⟨τ,G,Q3,RS,RG,h,k⟩=>by
  refine⟨τ,G,_,RS,RG,h,fun v H1 d G1 h1 S1 R1 q1=>?_⟩;cases d with
  |obj a=>
   obtain⟨nss,e1,hz,hne,q⟩:=q1;obtain⟨xs,e2,e3⟩:=R1 a _ e1;rw[qwz h1];refine⟨a,xs,nss,rfl,.of e2,e3,hz,fun b zs hb hk hmem hnd hlen=>?_⟩;have E2:Ext H1 (upd H1 b (.ext (setφ X.prog X.w b zs))):=.laid hb;refine⟨b,zs,rfl,qtz,fun p hp=>SqT.ext E2 (hk p hp),by lia,fun p hp=>hne _ ((hmem _).mp (List.mem_map.mpr ⟨p,hp,rfl⟩)),fun p mss ys hp hpm hr hv=>?_⟩;have R2:RepG X.K G1 (upd H1 b (.ext (setφ X.prog X.w b zs))):=R1.laid hb;refine k _ _ (.obj p) _ qb6z ((S1.trans (.laid hb)).trans (.laidG hp)) (R2.newL hp hv) (q p mss _ (.mk' (R2.free hp)) (fun ns=>?_) ?_ hr ?_)
   ·rw[hpm.mem_iff];exact hmem ns
   ·exact hpm.nodup_iff.mpr hnd
   ·rw[hpm.length_eq,List.length_map];exact hlen
  |_=>exact q1.elim
def blsOf:List D->Option (List Bool)
 |[]=>some []
 |.bl b::r=>(blsOf r).map (b::·)
 |_::_=>none
theorem qd1z{H:Hp}:∀{ds:List D} {vs:List V} {bs:List Bool},Hvs K H ds vs->blsOf ds=some bs->vs=bs.map V.bl
 |[],vs,ns,h,e=>by
  cases e;exact h.inv0
 |d::ds,vs,ns,h,e=>by
  cases d with
  |bl i=>
   obtain⟨v,r,rfl,z1,z2⟩:=h.inv;unfold blsOf at e;cases hm:blsOf ds with
   |none=>rw[hm] at e;cases e
   |some ms=>
    rw[hm] at e;cases e;rw[qa2z z1,qd1z z2 hm];rfl
  |_=>cases e
theorem qjlz:∀{bs:List Bool} {us:List Value},Vals (bs.map V.bl) us->us=bs.map Value.bool
 |[],_,.nil=>rfl
 |b::bs,_,.cons r rr=>by
  rw[(show _=Value.bool b from r),qjlz rr];rfl
theorem range_all(bs:List Bool):(List.range bs.length).all (fun i=>bs.getD i false)=bs.all id:=by
 rw[Bool.eq_iff_iff];simp only[List.all_eq_true,List.mem_range,id_eq];constructor
 ·intro h b hb;obtain⟨i,hi,rfl⟩:=List.mem_iff_getElem.mp hb;have:=h i hi;simpa [List.getD,hi] using this
 ·intro h i hi;have:=h bs[i] (List.getElem_mem hi);simpa [List.getD,hi] using this
theorem qsoz(hc:X.calm=true){pins:List (Addr×Obj)}{s:Shared}{σ:L2.St}{H:Hp}{a:Addr}{xs:List V}{E:Value->Shared->Prop}(I:Inv X pins σ H s)(hl:SqL X.K H a xs){Q:Value->Shared->Prop}
  (q:∀(its:List Value) (I':Addr),Vals xs its->WalksS X.prog X.w X.A.in1 I' [I',a] [I'] (fun x y=>y=x) its.length (fun i v=>its[i]?=some v) (fun i s=>s.heap.IsListIter I' a i/\s.heap.IsList a its.toArray) ->
   (s.heap.push { cls:=.type "list_iterator",data:=.fields #[.ref a,.int 0 0]}).IsListIter I' a 0->(s.heap.push { cls:=.type "list_iterator",data:=.fields #[.ref a,.int 0 0]}).IsList a its.toArray ->
   (∀b∈[I',a],b<(s.heap.push { cls:=.type "list_iterator",data:=.fields #[.ref a,.int 0 0]}).objs.size) ->
   (∀s',Moved [I'] (fun x y=>y=x) { s with heap:=s.heap.push { cls:=.type "list_iterator",data:=.fields #[.ref a,.int 0 0]}} s'->Inv X pins σ H s')->Q (.ref I') { s with heap:=s.heap.push { cls:=.type "list_iterator",data:=.fields #[.ref a,.int 0 0]}}):
  wpAny (model X.prog X.w) X.A.in1 (pyIter (.ref a)) Q E s:=by
 obtain⟨its,rv,pl,_⟩:=I.list hl;have hla:a<s.heap.objs.size:=by
  obtain⟨o,h1,_⟩:=pl.isList;exact Heap.lt_size h1
 refine wpAny_pyIter_list pl.isList ?_;have hW:=(Walks.list (prog:=X.prog) (w:=X.w) (A:=X.A.in1) (by have:=I.ok.hd hc;simpa using this) s.heap.objs.size a (Nat.ne_of_lt hla) its.toArray).toS;refine q its s.heap.objs.size rv (by simpa using hW) ⟨_,Heap.get?_push_size _ rfl,rfl,rfl⟩ ?_ ?_ fun s' hm=>?_
 ·obtain⟨o,h1,h2⟩:=pl.isList;exact⟨o,Heap.get?_push_of_some _ h1,h2⟩
 ·intro b hb;rw[size_push'];rcases List.mem_cons.mp hb with e|e
  ·rw[e];exact Nat.lt_succ_self _
  ·have:b=a:=by simpa using e
   rw[this];exact Nat.lt_succ_of_lt hla
 ·have e:s'={ s with heap:=s'.heap,toks:=s'.toks }:=by
   cases s';cases s;have h1:=hm.gens;have h2:=hm.drawn;have h3:=hm.os;simp only at h1 h2 h3;subst h1 h2 h3;rfl
  rw[e];exact I.kept fun b u z=>hm.heap b u (fun y=>by
   have:b=s.heap.objs.size:=by simpa using y
   exact absurd (this▸Heap.lt_size z) (Nat.lt_irrefl _)) (Heap.get?_push_of_some _ z)
theorem qspz(hc:X.calm=true):CallR X (.builtin "all") (fun vs H Q=>∃(a:Addr) (bs:List Bool),vs=[.ref a]/\SqL X.K H a (bs.map V.bl)/\Q (.bl (bs.all id)) H):=by
 intro pins s σ H vs us Q I r h;obtain⟨a,bs,rfl,hl,q⟩:=h;obtain⟨u,rfl,ru⟩:=vals1 r;cases ru;refine call_all_walkS (qsoz hc I hl fun its I' rv W h1 h2 h3 back=>⟨I',_,_,_,_,_,_,fun i=>bs.getD i false,rfl,W,⟨h1,h2⟩,?_,fun s' hm=>?_⟩)
 ·intro i v s' Q' E' hv hq;have hx:=qjlz rv;subst hx;rw[List.getElem?_map] at hv;cases hb:bs[i]? with
  |none=>rw[hb] at hv;cases hv
  |some b=>
   rw[hb] at hv;cases hv;have:bs.getD i false=b:=by simp[List.getD,hb]
   dsimp only at hq;rw[this] at hq;exact wpAny_truthy_bool hq
 ·have:its.length=bs.length:=by rw[←rv.length,List.length_map]
  rw[this,range_all];exact⟨.bl (bs.all id),H,back s' hm,rfl,q⟩
def qd2z:C3:=fun ds G Q=>match ds with
 |[.obj a]=>∃xs bs,G a=some (.lst xs)/\blsOf xs=some bs/\Q (.bl (bs.all id)) G
 |_=>False
theorem qsqz:LowC K qd2z (fun vs H Q=>∃(a:Addr) (bs:List Bool),vs=[.ref a]/\SqL K H a (bs.map V.bl)/\Q (.bl (bs.all id)) H):=fun ds vs G H Q3 Q h RG q k=>by
 rcases ds with _|⟨d,_|⟨d2,ds⟩⟩
 ·exact q.elim
 ·obtain⟨v,rfl,hv⟩:=hvs1 h;cases d with
  |obj a=>
   obtain⟨xs,bs,e1,e2,q⟩:=q;obtain⟨ys,e3,e4⟩:=RG a _ e1;rw[qwz hv];rw[qd1z e4 e2] at e3;exact⟨a,bs,rfl,.of e3,k _ H _ G qacz (.refl H G) RG q⟩
  |_=>exact q.elim
 ·cases d<;>exact q.elim
theorem qsrz(hu:X.A.units+64<cLine)(hm:X.mg "all" = none)(ha:PA3 X (e::es) t)(hc:X.calm=true:=by rfl)(hg:Gl X "all":=by rfl)(he:notStar e=true:=by rfl)(hpl:es.all notStar=true:=by rfl):
  PE3 X (.Call (.Name "all" p) (e::es) [] pos) (eCB qd2z t):=e_cb qsqz (qa8z (qspz hc) hg hm rfl ha (he:=qmz he) (hpl:=qyz hpl))
end
end L3
namespace L3
open PySem PySem.Spec PyProof.Rows L2
section
variable {prog:Program} {w:World} {A:Around} {E:Value->Shared->Prop} {s:Shared}
theorem qssz(lo hi i:Int):(Builtin.Range.rangePlace? lo hi 1 i).isSome=(decide (lo≤i)&&decide (i<hi)):=by
 unfold Builtin.Range.rangePlace?;dsimp only;rw[if_pos (c:=(1:Int) > 0) (by decide),Int.emod_one];cases (decide (lo≤i)&&decide (i<hi))<;>rfl
theorem qjmz{r:Addr}{lo hi i:Int}{t u v tk:Tok}{Q:Bool->Shared->Prop}(hr:s.heap.get? r=some { cls:=.type "range",data:=.fields #[.int lo t,.int hi u,.int 1 v]})(h:Q (decide (lo≤i)&&decide (i<hi)) s):
  wpAny (model prog w) A (contains (.ref r) (.int i tk)) Q E s:=by
 have hT:s.TypeIs (.ref r) "range":=⟨_,hr,rfl⟩;refine wpAny_contains_slot hT PySem.F.slot_range_contains (wpAny_call_entry PySem.F.slot_range_contains hT PySem.F.entry_range_contains ?_ (PySem.F.args_range_contains_2 _ _));show wpAny _ _ (Builtin.Range.rangeFields (.ref r) >>= _) _ _ s;unfold Builtin.Range.rangeFields;refine wpAny_bind (wpAny_bind (wpAny_field hr rfl (x:=.int lo t) rfl (wpAny_bind (wpAny_pure (wpAny_bind (wpAny_field hr rfl (x:=.int hi u) rfl (wpAny_bind (wpAny_pure (wpAny_bind (wpAny_field hr rfl (x:=.int 1 v) rfl (wpAny_bind (wpAny_pure (wpAny_pure ?_)))))))))))));show wpAny _ _ (pure (Fin.done (Flow.ret (Value.bool (Builtin.Range.rangePlace? lo hi 1 i).isSome)))) _ _ s;rw[qssz];exact wpAny_pure ⟨_,rfl,wpAny_truthy_bool h⟩
end
section
variable {X:Cx} {a b c:Expr} {ta:TE} {tb:TA} {op:CmpOp} {p pos pos':Pos}
def inB(neg:Bool)(lo hi i:Int):Bool:=if neg then !(decide (lo≤i)&&decide (i<hi)) else (decide (lo≤i)&&decide (i<hi))
def tInR1(neg:Bool)(ta:TE)(tb:TA):TE:=fun σ H Q=>ta σ H fun x H1=>tb σ H1 fun vs H2=>∃i hi,x=.int i/\vs=[.int hi]/\Q (.bl (inB neg 0 hi i)) H2
def opR(neg:Bool):CmpOp:=if neg then .NotIn else .In
theorem qstz{pins:List (Addr×Obj)}{s:Shared}{σ:L2.St}{H:Hp}{Q:VK}{i lo hi:Int}{t u v tk:Tok}{tks:Nat}(I:L2.Inv X pins σ H s)(q:Q (.bl (decide (lo≤i)&&decide (i<hi))) H):
  wpAny (model X.prog X.w) X.A (compareOp .In (.int i tk) (.ref s.heap.objs.size)) (EP X pins σ Q) X.xe { s with heap:=s.heap.push { cls:=.type "range",data:=.fields #[.int lo t,.int hi u,.int 1 v]},toks:=tks }:=by
 show wpAny _ _ (contains (.ref s.heap.objs.size) (.int i tk) >>= fun b=>pure (Value.bool b)) _ _ _;refine wpAny_bind (qjmz (Heap.get?_push_size _ rfl) (wpAny_pure ⟨.bl _,H,I.kept fun b ob q=>Heap.get?_push_of_some _ q,rfl,q⟩))
theorem qsuz{pins:List (Addr×Obj)}{s:Shared}{σ:L2.St}{H:Hp}{Q:VK}{i lo hi:Int}{t u v tk:Tok}{tks:Nat}(I:L2.Inv X pins σ H s)(q:Q (.bl (!(decide (lo≤i)&&decide (i<hi)))) H):
  wpAny (model X.prog X.w) X.A (compareOp .NotIn (.int i tk) (.ref s.heap.objs.size)) (EP X pins σ Q) X.xe { s with heap:=s.heap.push { cls:=.type "range",data:=.fields #[.int lo t,.int hi u,.int 1 v]},toks:=tks }:=by
 show wpAny _ _ (contains (.ref s.heap.objs.size) (.int i tk) >>= fun b=>pure (Value.bool (!b))) _ _ _;refine wpAny_bind (qjmz (Heap.get?_push_size _ rfl) (wpAny_pure ⟨.bl _,H,I.kept fun b ob q=>Heap.get?_push_of_some _ q,rfl,q⟩))
theorem qsvz{neg:Bool}{pins:List (Addr×Obj)}{s:Shared}{σ:L2.St}{H:Hp}{Q:VK}{i lo hi:Int}{t u v tk:Tok}{tks:Nat}(I:L2.Inv X pins σ H s)(q:Q (.bl (inB neg lo hi i)) H):
  wpAny (model X.prog X.w) X.A (compareOp (opR neg) (.int i tk) (.ref s.heap.objs.size)) (EP X pins σ Q) X.xe { s with heap:=s.heap.push { cls:=.type "range",data:=.fields #[.int lo t,.int hi u,.int 1 v]},toks:=tks }:=by
 cases neg with
 |false=>exact qstz I q
 |true=>exact qsuz I q
theorem qswz{neg:Bool}(hg:Gl X "range")(hm:X.mg "range" = none)(ha:PE X a ta)(hb:PA X [b] tb)(hs:starEach [b] X.env=[(false,eval b X.env)]):PC X (opR neg) a (.Call (.Name "range" p) [b] [] pos) (tInR1 neg ta tb):=by
 intro pins s σ H Q I h;refine thn (ha pins s σ H _ I h) fun v s1 ⟨x,H1,I1,r1,q1⟩=>?_;refine Call_ (qa7z I1 hg hm boot_range (PyProof.Rows.callWith_type1 (thn (hb pos pins s1 σ H1 _ I1 q1) fun us s2 ⟨vs,H2,I2,r2,q2⟩=>?_) hs rfl));obtain⟨i,hi,rfl,rfl,q⟩:=q2;obtain⟨tk,rfl⟩:=r1;cases r2 with
 |cons r rr=>
  cases rr;obtain⟨t,rfl⟩:=r;exact call_range_1 (qsvz I2 q)
end
section
variable {X:Cx} {a b c:Expr} {ta:TE3} {tb:TA3} {p pos pos':Pos}
def eInRng1(neg:Bool)(ta:TE3)(tb:TA3):TE3:=fun τ G Q=>ta τ G fun x G1=>tb τ G1 fun ds G2=>match x,ds with
 |.int i,[.int hi]=>Q (.bl (inB neg 0 hi i)) G2
 |_,_=>False
theorem qsxz{neg:Bool}{σ:L2.St}{H:Hp}{Q:VK}(h:low X.K (eInRng1 neg ta tb) σ H Q):tInR1 neg (low X.K ta) (lowA X.K tb) σ H Q:=by
 obtain⟨τ,G,Q3,RS,RG,h,k⟩:=h;refine⟨τ,G,_,RS,RG,h,fun v1 H1 d1 G1 h1 S1 R1 q1=>?_⟩;refine⟨τ,G1,_,RS.ext (S1.ext RG),R1,q1,fun vs H2 ds G2 h2 S2 R2 q2=>?_⟩;rcases ds with _|⟨d,_|⟨d2,ds⟩⟩
 ·cases d1<;>exact q2.elim
 ·cases d1 with
  |int i=>
   cases d with
   |int j=>
    obtain⟨v,r,rfl,z1,z2⟩:=h2.inv;cases z2.inv0;unfold Hv at z1 h1;exact⟨i,j,h1,by rw[z1],k _ _ _ _ qacz (S1.trans S2) R2 q2⟩
   |_=>exact q2.elim
  |_=>exact q2.elim
 ·cases d1 with
  |int i=>cases d<;>exact q2.elim
  |_=>exact q2.elim
theorem qsyz(ha:PE3 X a ta)(hm:X.mg "range" = none)(hb:PA3 X [b] tb)(hg:Gl X "range":=by rfl)(hs:notStar b=true:=by rfl):PT3 X (.Compare a [.NotIn] [.Call (.Name "range" p) [b] [] pos'] pos) (eTest (eInRng1 true ta tb)):=
 qdlz (qmxz (op:=.NotIn) (qswz (neg:=true) hg hm ha hb (qmz hs)) rfl) fun _ _ _ h=>qsxz (qe1z h)
end
end L3
namespace L3
open PySem PySem.Spec PyProof.Rows L2
open Sem (wp)
def Ik(k:Bool)(h:Heap)(jt a:Addr)(i:Nat):Prop:=match k with
 |true=>h.IsListIter jt a i
 |false=>h.IsTupleIter jt a i
def Sk(k:Bool)(h:Heap)(a:Addr)(xs:Array Value):Prop:=match k with
 |true=>h.IsList a xs
 |false=>h.IsTuple a xs
theorem Ik.of{k:Bool}{h h':Heap}{jt a:Addr}{i:Nat}(x:Ik k h jt a i)(f:∀o,h.get? jt=some o->h'.get? jt=some o):Ik k h' jt a i:=by
 cases k<;>(obtain⟨o,e,r⟩:=x;exact⟨o,f o e,r⟩)
theorem Sk.of{k:Bool}{h h':Heap}{a:Addr}{xs:Array Value}(x:Sk k h a xs)(f:∀o,h.get? a=some o->h'.get? a=some o):Sk k h' a xs:=by
 cases k<;>(obtain⟨o,e,r⟩:=x;exact⟨o,f o e,r⟩)
theorem Ik.obj{k:Bool}{h:Heap}{jt a:Addr}{i:Nat}(x:Ik k h jt a i):∃o,h.get? jt=some o/\∀v,o.data≠.cell v:=by
 cases k<;>(obtain⟨o,e,c,d⟩:=x;exact⟨o,e,fun v z=>by rw[d] at z;cases z⟩)
section
variable {P:Program} {w:World} {A:Around} {E:Value->Shared->Prop} {s:Shared}
theorem nextK{k:Bool}{jt a:Addr}{i:Nat}{xs:Array Value}{u:Value}{Q:Value->Shared->Prop}(hi:Ik k s.heap jt a i)(ha:Sk k s.heap a xs)(hx:xs[i]?=some u)
  (q:∀h',Ik k h' jt a (i+1)->Heap.SameBut jt s.heap h'->Q u { s with heap:=h' }):wpAny (model P w) A (Builtin.SmallTypes.nextOf (.ref jt)) Q E s:=by
 cases k with
 |true=>exact wpAny_nextOf_list_item hi ha hx q
 |false=>
  have hi:s.heap.IsTupleIter jt a i:=hi;obtain⟨o,e1,c1,d1⟩:=id hi;obtain⟨oa,e2,c2,n2,d2⟩:=(show s.heap.IsTuple a xs from ha);unfold Builtin.SmallTypes.nextOf;refine wpAny_bind (wpAny_callSpecial?_slot (name:=Str.ofString "__next__") hi.typeIs F.slot_tuple_iterator_next (wpAny_call_entry F.slot_tuple_iterator_next hi.typeIs F.entry_tuple_iterator_next ?_ (F.args_tuple_iterator_next_1 _)));show wpAny _ _ (field (.ref jt) 0 >>= _) _ _ s;refine wpAny_bind (wpAny_field e1 d1 (x:=.ref a) rfl ?_);show wpAny _ _ (if (Value.ref a==Value.none)=true then _ else _) _ _ s;rw[if_neg (show ¬((Value.ref a==Value.none)=true) from Bool.false_ne_true)];show wpAny _ _ (field (.ref jt) 1 >>= _) _ _ s;refine wpAny_bind (wpAny_field e1 d1 (x:=.int i 0) rfl ?_);show wpAny _ _ (seqItems? (.ref a) >>= _) _ _ s;refine wpAny_bind (wpAny_seqItems e2 d2 ?_);simp only[hx,Int.toNat_natCast];refine wpAny_bind (wpAny_setField e1 d1 (by simp) (wpAny_pure ⟨u,rfl,wpAny_pure (q _ ?_ (Heap.SameBut.update ..))⟩));exact⟨_,Heap.get?_update_self _ e1 (Obj.isFreed_of_fields (Obj.data_mapFields d1 _)),(Obj.cls_mapFields ..).trans c1,by rw[Obj.data_mapFields d1];simp[rawInt]⟩
theorem qd3z{k:Bool}{jt a:Addr}{i:Nat}{xs:Array Value}{Q:Value->Shared->Prop}(hh:A.handled=none)(hi:Ik k s.heap jt a i)(ha:Sk k s.heap a xs)(hx:xs[i]?=none)
  (q:∀h' e,Heap.ExtBut jt s.heap h'->(∃o,h'.get? e=some o/\o.cls=.type "StopIteration")->E (.ref e) { s with heap:=h' }):wpAny (model P w) A (Builtin.SmallTypes.nextOf (.ref jt)) Q E s:=by
 cases k with
 |true=>exact wpAny_nextOf_list_end hh hi ha hx q
 |false=>
  have hi:s.heap.IsTupleIter jt a i:=hi;obtain⟨o,e1,c1,d1⟩:=id hi;obtain⟨oa,e2,c2,n2,d2⟩:=(show s.heap.IsTuple a xs from ha);unfold Builtin.SmallTypes.nextOf;refine wpAny_bind (wpAny_callSpecial?_slot (name:=Str.ofString "__next__") hi.typeIs F.slot_tuple_iterator_next (wpAny_call_entry F.slot_tuple_iterator_next hi.typeIs F.entry_tuple_iterator_next ?_ (F.args_tuple_iterator_next_1 _)));show wpAny _ _ (field (.ref jt) 0 >>= _) _ _ s;refine wpAny_bind (wpAny_field e1 d1 (x:=.ref a) rfl ?_);show wpAny _ _ (if (Value.ref a==Value.none)=true then _ else _) _ _ s;rw[if_neg (show ¬((Value.ref a==Value.none)=true) from Bool.false_ne_true)];show wpAny _ _ (field (.ref jt) 1 >>= _) _ _ s;refine wpAny_bind (wpAny_field e1 d1 (x:=.int i 0) rfl ?_);show wpAny _ _ (seqItems? (.ref a) >>= _) _ _ s;refine wpAny_bind (wpAny_seqItems e2 d2 ?_);simp only[hx,Int.toNat_natCast];refine wpAny_bind (wpAny_rule (wpAny_bind (wpAny_setField e1 d1 (by simp) ?_)));show wpAny _ _ (newExc (.type "StopIteration") [] >>= _) _ _ ({ s with heap:=_ }:Shared);refine wpAny_bind ?_;simp only[newTuple,newExc];refine wpAny_bind (wpAny_newObj_type ?_ (by size_fits));refine wpAny_bind (m:=firstArgMember _ _) (wpAny_of_eq (a:=Value.none) (by first|(simp only[firstArgMember];rfl)|rfl) ?_)
  refine wpAny_newObj_type ?_ (by size_fits);simp only[raiseNew];refine wpAny_bind (wpAny_handled ?_)
  first|rw[hh]|rw[show A.in1.handled=none from hh]
  refine wpAny_bind (wpAny_pure (wpAny_throw ?_));exact q _ _ (((Heap.SameBut.update ..).extBut.push _).push _) ⟨_,Heap.get?_push_size _ rfl,rfl⟩
theorem zipK{k1 k2:Bool}{zz ti ot j1 j2 a1 a2:Addr}{m n:Nat}{xs ys:Array Value}{u v c d:Value}{Q:Value->Shared->Prop}(D:ZipApart zz ti ot j1 j2 a1 a2)
  (Z:IsZip s.heap zz ti ot .none) (Ti:IsPair s.heap ti (.ref j1) (.ref j2)) (To:IsPair s.heap ot c d) (g1:Ik k1 s.heap j1 a1 m) (g2:Ik k2 s.heap j2 a2 n) (s1:Sk k1 s.heap a1 xs) (s2:Sk k2 s.heap a2 ys) (hu:xs[m]?=some u) (hv:ys[n]?=some v)
  (q:∀h',IsZip h' zz ti ot (rawInt s.heap.objs.size)->IsPair h' ot u v->Ik k1 h' j1 a1 (m+1)->Ik k2 h' j2 a2 (n+1)->IsPair h' s.heap.objs.size u v ->
   (∀b o,b≠zz->b≠ot->b≠j1->b≠j2->s.heap.get? b=some o->h'.get? b=some o)->Q (.ref s.heap.objs.size) { s with heap:=h' }):
  wpAny (model P w) A (Builtin.«zip.__next__» ⟨[.ref zz],[]⟩) (fun fin s'=>∃r,fin=.done (.ret r)/\Q r s') E s:=by
 show wpAny _ _ (field (.ref zz) 2 >>= _) _ _ _;refine wpAny_bind (wpAny_field Z rfl (x:=.bool false) rfl ?_);show wpAny _ _ (field (.ref zz) 3 >>= _) _ _ _;refine wpAny_bind (wpAny_field Z rfl (x:=.ref ti) rfl ?_);refine wpAny_bind (wpAny_seqItems Ti rfl ?_);show wpAny _ _ (Builtin.SmallTypes.ownedTupleIsFree (.ref zz) >>= _) _ _ _;refine wpAny_bind ?_;unfold Builtin.SmallTypes.ownedTupleIsFree;refine wpAny_bind (wpAny_field Z rfl (x:=.none) rfl (wpAny_pure ?_));simp only[if_true];refine wpAny_bind (wpAny_rule ?_);refine wpAny_bind (wpAny_field Z rfl (x:=.ref ot) rfl ?_);refine wpAny_bind (wpAny_setField_rec Z (by simp) fun w1 Z1 b1=>?_)
 replace Z1:IsZip w1 zz ti ot .ellipsis:=Z1
 refine wpAny_bind ?_
 (simp only[List.zipIdx_nil,List.zipIdx_cons,List.forIn_nil,List.forIn_cons])
 have k1_:∀b o,b≠zz->s.heap.get? b=some o->w1.get? b=some o:=fun b o h e=>b1.extBut b o h e;refine wpAny_bind (wpAny_bind (wpAny_onRaise ?_));show wpAny _ _ (Builtin.SmallTypes.nextOf (.ref j1) >>= _) _ _ _;refine wpAny_bind (nextK (g1.of fun o e=>k1_ _ o D.i1z e) (s1.of fun o e=>k1_ _ o D.l1z e) hu fun w2 J1 b2=>wpAny_pure ?_);have k2_:∀b o,b≠zz->b≠j1->s.heap.get? b=some o->w2.get? b=some o:=fun b o h h2 e=>b2.extBut b o h2 (k1_ b o h e);have To2:IsPair w2 ot c d:=k2_ _ _ D.TOz D.TOi1 To;refine wpAny_bind (wpAny_seqItems To2 rfl ?_);refine wpAny_bind (wpAny_updateSeq_pair To2 fun w3 To3 b3=>?_)
 replace To3:IsPair w3 ot u d:=To3
 have k3_:∀b o,b≠zz->b≠j1->b≠ot->s.heap.get? b=some o->w3.get? b=some o:=fun b o h h2 h3 e=>b3.extBut b o h3 (k2_ b o h h2 e);refine wpAny_bind (wpAny_letGo (wpAny_pure ?_));refine wpAny_bind (wpAny_bind (wpAny_onRaise ?_));show wpAny _ _ (Builtin.SmallTypes.nextOf (.ref j2) >>= _) _ _ _;refine wpAny_bind (nextK (g2.of fun o e=>k3_ _ o D.i2z D.i12.symm D.TOi2.symm e) (s2.of fun o e=>k3_ _ o D.l2z D.l2i1 D.l2TO e) hv fun w4 J2 b4=>wpAny_pure ?_);have To4:IsPair w4 ot u d:=b4.extBut _ _ D.TOi2 To3;refine wpAny_bind (wpAny_seqItems To4 rfl ?_);refine wpAny_bind (wpAny_updateSeq_pair To4 fun w5 To5 b5=>?_)
 replace To5:IsPair w5 ot u v:=To5
 refine wpAny_bind (wpAny_letGo (wpAny_pure (wpAny_pure ?_)));refine wpAny_bind (wpAny_seqItems To5 rfl ?_);refine wpAny_bind (wpAny_newTuple ?_);have sz:w5.objs.size=s.heap.objs.size:=by rw[b5.1,b4.1,b3.1,b2.1,b1.1]
 have Z5:IsZip w5 zz ti ot .ellipsis:=b5.extBut _ _ D.TOz.symm (b4.extBut _ _ D.i2z.symm (b3.extBut _ _ D.TOz.symm (b2.extBut _ _ D.i1z.symm Z1)));have k5_:∀b o,b≠zz->b≠ot->b≠j1->b≠j2->s.heap.get? b=some o->w5.get? b=some o:=fun b o c1 c2 c3 c4 e=>b5.extBut _ _ c2 (b4.extBut _ _ c4 (k3_ b o c1 c3 c2 e));have L1:Ik k1 w5 j1 a1 (m+1):=J1.of fun o e=>b5.extBut _ _ D.TOi1.symm (b4.extBut _ _ D.i12 (b3.extBut _ _ D.TOi1.symm e));have L2:Ik k2 w5 j2 a2 (n+1):=J2.of fun o e=>b5.extBut _ _ D.TOi2.symm e;have lz:zz<w5.objs.size:=Heap.lt_size Z5;show wpAny _ _ (Builtin.SmallTypes.ownedTupleHandOut (.ref zz) (.ref w5.objs.size) >>= _) _ _ _;refine wpAny_bind ?_;unfold Builtin.SmallTypes.ownedTupleHandOut;have Z6:IsZip (w5.push { cls:=.type "tuple",data:=.seq #[u,v]}) zz ti ot .ellipsis:=Heap.get?_push_of_some _ Z5;refine wpAny_bind (wpAny_setField_rec Z6 (by simp) fun w7 Z7 b7=>?_)
 replace Z7:IsZip w7 zz ti ot (rawInt w5.objs.size):=Z7
 refine wpAny_setField_rec Z7 (by simp) fun w8 Z8 b8=>?_
 replace Z8:IsZip w8 zz ti ot (rawInt w5.objs.size):=Z8
 have up:∀b o,b≠zz->w5.get? b=some o->w8.get? b=some o:=fun b o c1 e=>b8.extBut _ _ c1 (b7.extBut _ _ c1 (Heap.get?_push_of_some _ e));have T8:IsPair w8 w5.objs.size u v:=b8.extBut _ _ (Nat.ne_of_gt lz) (b7.extBut _ _ (Nat.ne_of_gt lz) (Heap.get?_push_size _ rfl));rw[sz] at Z8 T8;refine wpAny_pure ⟨_,rfl,?_⟩;show Q (.ref w5.objs.size) _;rw[sz];exact q w8 Z8 (up _ _ D.TOz To5) (L1.of fun o e=>up _ o D.i1z e) (L2.of fun o e=>up _ o D.i2z e) T8 fun b o c1 c2 c3 c4 e=>up b o c1 (k5_ b o c1 c2 c3 c4 e)
theorem qszz{k1 k2:Bool}{zz ti ot j1 j2 a1 a2:Addr}{m n:Nat}{xs ys:Array Value}{c d:Value}{Q:Fin->Shared->Prop}(hh:A.handled=none)(D:ZipApart zz ti ot j1 j2 a1 a2)
  (Z:IsZip s.heap zz ti ot .none) (Ti:IsPair s.heap ti (.ref j1) (.ref j2)) (To:IsPair s.heap ot c d) (g1:Ik k1 s.heap j1 a1 m) (g2:Ik k2 s.heap j2 a2 n) (s1:Sk k1 s.heap a1 xs) (s2:Sk k2 s.heap a2 ys) (he:xs[m]?=none∨ys[n]?=none)
  (q:∀h' e,(∀b o,b≠zz->b≠ot->b≠j1->b≠j2->s.heap.get? b=some o->h'.get? b=some o)->(∃o,h'.get? e=some o/\o.cls=.type "StopIteration")->E (.ref e) { s with heap:=h' }):
  wpAny (model P w) A (Builtin.«zip.__next__» ⟨[.ref zz],[]⟩) Q E s:=by
 show wpAny _ _ (field (.ref zz) 2 >>= _) _ _ _;refine wpAny_bind (wpAny_field Z rfl (x:=.bool false) rfl ?_);show wpAny _ _ (field (.ref zz) 3 >>= _) _ _ _;refine wpAny_bind (wpAny_field Z rfl (x:=.ref ti) rfl ?_);refine wpAny_bind (wpAny_seqItems Ti rfl ?_);show wpAny _ _ (Builtin.SmallTypes.ownedTupleIsFree (.ref zz) >>= _) _ _ _;refine wpAny_bind ?_;unfold Builtin.SmallTypes.ownedTupleIsFree;refine wpAny_bind (wpAny_field Z rfl (x:=.none) rfl (wpAny_pure ?_));simp only[if_true];refine wpAny_bind (wpAny_rule ?_);refine wpAny_bind (wpAny_field Z rfl (x:=.ref ot) rfl ?_);refine wpAny_bind (wpAny_setField_rec Z (by simp) fun w1 Z1 b1=>?_)
 replace Z1:IsZip w1 zz ti ot .ellipsis:=Z1
 refine wpAny_bind ?_
 (simp only[List.zipIdx_nil,List.zipIdx_cons,List.forIn_nil,List.forIn_cons])
 have k1_:∀b o,b≠zz->s.heap.get? b=some o->w1.get? b=some o:=fun b o h e=>b1.extBut b o h e;refine wpAny_bind (wpAny_bind (wpAny_onRaise ?_));show wpAny _ _ (Builtin.SmallTypes.nextOf (.ref j1) >>= _) _ _ _;cases hx:xs[m]? with
 |none=>
  refine wpAny_bind (qd3z hh (g1.of fun o e=>k1_ _ o D.i1z e) (s1.of fun o e=>k1_ _ o D.l1z e) hx fun w2 e b2 hs=>?_);obtain⟨oe,e1,e2⟩:=hs;have Z2:IsZip w2 zz ti ot .ellipsis:=b2 _ _ D.i1z.symm Z1;have ez:e≠zz:=fun x=>by
   subst x;rw[Z2] at e1;cases e1;simp at e2
  exact wpAny_setField_rec Z2 (by simp) fun w3 _ b3=>q w3 e (fun b o c1 _ c3 _ x=>b3.extBut _ _ c1 (b2 _ _ c3 (k1_ b o c1 x))) ⟨oe,b3.extBut _ _ ez e1,e2⟩
 |some u=>
  have hy:ys[n]?=none:=by
   rcases he with h|h
   ·rw[hx] at h;cases h
   ·exact h
  refine wpAny_bind (nextK (g1.of fun o e=>k1_ _ o D.i1z e) (s1.of fun o e=>k1_ _ o D.l1z e) hx fun w2 J1 b2=>wpAny_pure ?_);have k2_:∀b o,b≠zz->b≠j1->s.heap.get? b=some o->w2.get? b=some o:=fun b o h h2 e=>b2.extBut b o h2 (k1_ b o h e);have To2:IsPair w2 ot c d:=k2_ _ _ D.TOz D.TOi1 To;refine wpAny_bind (wpAny_seqItems To2 rfl ?_);refine wpAny_bind (wpAny_updateSeq_pair To2 fun w3 To3 b3=>?_);have k3_:∀b o,b≠zz->b≠j1->b≠ot->s.heap.get? b=some o->w3.get? b=some o:=fun b o h h2 h3 e=>b3.extBut b o h3 (k2_ b o h h2 e);refine wpAny_bind (wpAny_letGo (wpAny_pure ?_));refine wpAny_bind (wpAny_bind (wpAny_onRaise ?_));show wpAny _ _ (Builtin.SmallTypes.nextOf (.ref j2) >>= _) _ _ _;refine wpAny_bind (qd3z hh (g2.of fun o e=>k3_ _ o D.i2z D.i12.symm D.TOi2.symm e) (s2.of fun o e=>k3_ _ o D.l2z D.l2i1 D.l2TO e) hy fun w4 e b4 hs=>?_);obtain⟨oe,e1,e2⟩:=hs;have Z4:IsZip w4 zz ti ot .ellipsis:=b4 _ _ D.i2z.symm (b3.extBut _ _ D.TOz.symm (b2.extBut _ _ D.i1z.symm Z1));have ez:e≠zz:=fun x=>by
   subst x;rw[Z4] at e1;cases e1;simp at e2
  exact wpAny_setField_rec Z4 (by simp) fun w5 _ b5=>q w5 e (fun b o c1 c2 c3 c4 x=>b5.extBut _ _ c1 (b4 _ _ c4 (k3_ b o c1 c3 c2 x))) ⟨oe,b5.extBut _ _ ez e1,e2⟩
end
end L3
namespace L3
open PySem PySem.Spec PyProof.Rows L2
open Sem (wp)
section
variable {X:Cx} {pins:List (Addr×Obj)} {σ:L2.St} {H:Hp} {s:Shared}
theorem turnedL{h':Heap}{t':Nat}{fp:List Addr}(I:L2.Inv X pins σ H s)(k:∀b o,b∉fp->s.heap.get? b=some o->h'.get? b=some o)(hf:∀b∈fp,FpOk X pins H b):L2.Inv X pins σ H { s with heap:=h',toks:=t' }:=by
 have nit:∀b u,H b=some u->b∉fp:=fun b u e z=>by rw[(hf b z).1] at e;cases e
 refine I.step (g':=s.gens) (d':=s.drawn) (ch:=fp) (fun b hb=>?_) (fun b o _ _ hc e _=>k b o hc e) (fun b o _ _ hc e _=>⟨o.slots,k b o hc e⟩) (fun _ _ _ _ n=>n) (fun b o hc e=>⟨o,k b o hc e⟩) (fun _ _ e=>e) (fun _ _ _ e=>e) (fun b ps e=>⟨#[],by rw[e];simp⟩) (fun m hm=>?_) (fun b u e=>?_) I.bare
 ·obtain⟨f0,f1,f2,f3,f4,f5⟩:=hf b hb;exact⟨f3,f1,f4,f5⟩
 ·obtain⟨o,es,ep,ho,r⟩:=hm;exact⟨o,es,ep,k _ o (fun z=>(hf _ z).2.1 rfl) ho,r⟩
 ·refine (I.hok b u e).stay (fun c v hc q=>k c v ?_ q) (fun _ q=>q) fun _ _ q=>q;rcases hc with z|z
  ·rw[z];exact nit b u e
  ·exact nit c _ z
def SqK(K:PySem.W.Frag)(k:Bool)(H:Hp)(a:Addr)(xs:List V):Prop:=match k with
 |true=>SqL K H a xs
 |false=>SqT K H a xs
theorem SqK.heap{k:Bool}{a:Addr}{xs:List V}(I:L2.Inv X pins σ H s)(h:SqK X.K k H a xs):∃its,Vals xs its/\Sk k s.heap a its.toArray:=by
 cases k with
 |true=>
  obtain⟨its,rv,p,hz⟩:=I.list (show SqL X.K H a xs from h);exact⟨its,rv,p.isList⟩
 |false=>
  obtain⟨its,rv,p,hz⟩:=I.tuple (show SqT X.K H a xs from h);exact⟨its,rv,p⟩
theorem SqK.inj{k:Bool}{a:Addr}{xs ys:List V}(I:L2.Inv X pins σ H s)(h:SqK X.K k H a xs)(h':SqK X.K k H a ys):xs=ys:=by
 cases k with
 |true=>exact I.list_inj (show SqL X.K H a xs from h) (show SqL X.K H a ys from h')
 |false=>exact I.tuple_inj (show SqT X.K H a xs from h) (show SqT X.K H a ys from h')
theorem SqK.apart{k:Bool}{a b:Addr}{xs:List V}(I:L2.Inv X pins σ H s)(h:SqK X.K k H a xs)(f:FpOk X pins H b):a≠b:=by
 intro z;subst z;have hb:(∃u,H a=some u)∨∃o,X.K.lookup a=some o:=by
  cases k <;>
  ·rcases h with (h|⟨o,h⟩)|⟨o,_,_,h,_⟩
   ·exact .inl ⟨_,h⟩
   ·exact .inl ⟨_,h⟩
   ·exact .inr ⟨_,h⟩
 rcases hb with⟨u,e⟩|⟨o,e⟩
 ·rw[f.1] at e;cases e
 ·have e2:=I.mod.kin a o e;rcases f.2.2.2.1 with q|q
  ·exact I.ok.noex a o e2 q
  ·exact absurd (Nat.lt_of_lt_of_le (Heap.lt_size (I.ok.bs a o e2).1) q) (Nat.lt_irrefl _)
end
def Itz(K:PySem.W.Frag)(k1 k2:Bool)(a1 a2:Addr):It:=
 ⟨fun i H=>∃xs ys x y,(SqK K k1 H a1 xs/\xs[i]?=some x)/\SqK K k2 H a2 ys/\ys[i]?=some y,
  fun i H x H'=>∃T u v,x=.ref T/\H T=none/\H'=upd H T (.tup [u,v])/\(∀xs,SqK K k1 H a1 xs->xs[i]?=some u)/\∀ys,SqK K k2 H a2 ys->ys[i]?=some v,
  fun i H=>∃xs ys,SqK K k1 H a1 xs/\SqK K k2 H a2 ys/\(xs.length≤i∨ys.length≤i)⟩
theorem zap{zz ti ot j1 j2 a1 a2:Addr}(h:[zz,ti,ot,j1,j2].Nodup)(h1:∀b∈[zz,ti,ot,j1,j2],a1≠b)(h2:∀b∈[zz,ti,ot,j1,j2],a2≠b):ZipApart zz ti ot j1 j2 a1 a2:=by
 simp only[List.nodup_cons,List.mem_cons,not_or,List.not_mem_nil,not_false_eq_true,List.nodup_nil,and_true] at h;obtain⟨⟨n1,n2,n3,n4⟩,⟨n5,n6,n7⟩,⟨n8,n9⟩,n10⟩:=h;exact⟨Ne.symm n1,Ne.symm n2,Ne.symm n3,Ne.symm n4,n5,n6,n7,n8,n9,n10,h1 _ (by simp),h1 _ (by simp),h1 _ (by simp),h1 _ (by simp),h2 _ (by simp),h2 _ (by simp),h2 _ (by simp),h2 _ (by simp)⟩
theorem qs0z{P:Program}{w:World}{K:PySem.W.Frag}{es:List Expr}{n0:Nat}{ps:Pos}(k1 k2:Bool)(a1 a2 zz ti ot j1 j2:Addr)(hd:[zz,ti,ot,j1,j2].Nodup):
  Turn P w K (.Tuple es n0 ps) (Itz K k1 k2 a1 a2) [zz,ti,ot,j1,j2] zz (fun i h=>IsZip h zz ti ot .none/\IsPair h ti (.ref j1) (.ref j2)/\(∃c d,IsPair h ot c d)/\Ik k1 h j1 a1 i/\Ik k2 h j2 a2 i) where
 mem:=by simp
 obj:=fun i h st b hb=>by
  obtain⟨Z,Ti,⟨c,d,To⟩,g1,g2⟩:=st;simp only[List.mem_cons,List.not_mem_nil,or_false] at hb;rcases hb with rfl|rfl|rfl|rfl|rfl
  ·exact⟨_,Z,fun v z=>by cases (show Data.fields _=Data.cell v from z)⟩
  ·exact⟨_,Ti,fun v z=>by cases (show Data.seq _ _=Data.cell v from z)⟩
  ·exact⟨_,To,fun v z=>by cases (show Data.seq _ _=Data.cell v from z)⟩
  ·exact g1.obj
  ·exact g2.obj
 keep:=fun i h h' st k=>by
  obtain⟨Z,Ti,⟨c,d,To⟩,g1,g2⟩:=st;exact⟨k _ (by simp) _ Z,k _ (by simp) _ Ti,⟨c,d,k _ (by simp) _ To⟩,g1.of fun o e=>k _ (by simp) _ e,g2.of fun o e=>k _ (by simp) _ e⟩
 item:=by
  intro X hP hw hK hc i pins s σ H E I hf st hg;subst hP hw hK;obtain⟨Z,Ti,⟨c,d,To⟩,g1,g2⟩:=st;obtain⟨xs,ys,x,y,⟨q1,hx⟩,q2,hy⟩:=hg;obtain⟨its1,rv1,p1⟩:=q1.heap I;obtain⟨its2,rv2,p2⟩:=q2.heap I;obtain⟨u,hu,ru⟩:=rv1.get hx;obtain⟨v,hv,rv⟩:=rv2.get hy;have D:=zap hd (fun b hb=>q1.apart I (hf b hb)) (fun b hb=>q2.apart I (hf b hb));have hT:s.TypeIs (.ref zz) "zip":=⟨_,Z,rfl⟩;unfold pyNext;refine wpAny_bind (wpAny_attempt (wpAny_callSpecial?_slot (name:=Str.ofString "__next__") hT F.slot_zip_next (wpAny_call_entry F.slot_zip_next hT F.entry_zip_next (zipK D Z Ti To g1 g2 p1 p2 (u:=u) (v:=v) (by simpa using hu) (by simpa using hv) fun h' Z' To' g1' g2' T' kp=>?_) (F.args_zip_next_1 _))));refine wpAny_pure ⟨_,rfl,?_⟩;refine wpAny_letOwnedTupleGo_zip Z' fun h2 Z2 b2=>?_;have hn:H s.heap.objs.size=none:=I.hok.fresh (Nat.le_refl _);have I1:L2.Inv X pins σ (upd H s.heap.objs.size (.tup [x,y])) { s with heap:=s.heap.push { cls:=.type "tuple",data:=.seq #[u,v]}}:=I.laid (t':=s.toks) (fun b o e=>Heap.get?_push_of_some _ e) (Nat.le_refl _) ⟨by show 2≤sizeLine;decide,[u,v],.cons ru (.cons rv .nil),⟨_,Heap.get?_push_size _ rfl,rfl,_,rfl⟩⟩;have lt:∀b∈[zz,ti,ot,j1,j2],b<s.heap.objs.size:=fun b hb=>by
   simp only[List.mem_cons,List.not_mem_nil,or_false] at hb;rcases hb with rfl|rfl|rfl|rfl|rfl
   ·exact Heap.lt_size Z
   ·exact Heap.lt_size Ti
   ·exact Heap.lt_size To
   ·obtain⟨o,e,_⟩:=g1.obj;exact Heap.lt_size e
   ·obtain⟨o,e,_⟩:=g2.obj;exact Heap.lt_size e
  have hf':∀b∈[zz,ti,ot,j1,j2],FpOk X pins (upd H s.heap.objs.size (.tup [x,y])) b:=fun b hb=>⟨by rw[qlz (Nat.ne_of_lt (lt b hb))];exact (hf b hb).1,(hf b hb).2⟩;have I2:L2.Inv X pins σ (upd H s.heap.objs.size (.tup [x,y])) { s with heap:=h2 }:=turnedL (s:={ s with heap:=s.heap.push { cls:=.type "tuple",data:=.seq #[u,v]}}) (t':=s.toks) I1 (fun b o hb e=>by
   simp only[List.mem_cons,List.not_mem_nil,or_false,not_or] at hb;refine b2.extBut b o hb.1 ?_;rcases Heap.get?_push_cases e with⟨rfl,rfl⟩|e
   ·exact T'
   ·exact kp b o hb.1 hb.2.2.1 hb.2.2.2.1 hb.2.2.2.2 e) hf'
  refine⟨.ref s.heap.objs.size,_,I2,rfl,⟨_,x,y,rfl,hn,rfl,fun zs hz=>by rw[hz.inj I q1];exact hx,fun zs hz=>by rw[hz.inj I q2];exact hy⟩,⟨Z2,?_,⟨u,v,?_⟩,g1'.of fun o e=>b2.extBut _ _ D.i1z e,g2'.of fun o e=>b2.extBut _ _ D.i2z e⟩,fun b hb=>(hf' b hb).1⟩
  ·exact b2.extBut _ _ D.TIz (kp _ _ D.TIz D.TITO D.TIi1 D.TIi2 Ti)
  ·exact b2.extBut _ _ D.TOz To'
 done:=by
  intro X hP hw hK hc i pins s σ H E I hf st hg;subst hP hw hK;obtain⟨Z,Ti,⟨c,d,To⟩,g1,g2⟩:=st;obtain⟨xs,ys,q1,q2,hl⟩:=hg;obtain⟨its1,rv1,p1⟩:=q1.heap I;obtain⟨its2,rv2,p2⟩:=q2.heap I;have D:=zap hd (fun b hb=>q1.apart I (hf b hb)) (fun b hb=>q2.apart I (hf b hb));have hT:s.TypeIs (.ref zz) "zip":=⟨_,Z,rfl⟩;have l1:=rv1.length;have l2:=rv2.length;unfold pyNext;refine wpAny_bind (wpAny_attempt (wpAny_callSpecial?_slot (name:=Str.ofString "__next__") hT F.slot_zip_next (wpAny_call_entry F.slot_zip_next hT F.entry_zip_next (qszz (I.ok.hd hc) D Z Ti To g1 g2 p1 p2 (by
   rcases hl with h|h
   ·exact .inl (by simp;lia)
   ·exact .inr (by simp;lia)) fun h' e kp hs=>?_) (F.args_zip_next_1 _))))
  obtain⟨o,ho,hcl⟩:=hs;refine wpAny_bind (wpAny_isInstance (T:="StopIteration") (b:=true) ⟨o,ho,hcl⟩ isSubtype_stop ?_);refine wpAny_pure ⟨rfl,turnedL (t':=s.toks) I (fun b o hb e=>?_) hf⟩;simp only[List.mem_cons,List.not_mem_nil,or_false,not_or] at hb;exact kp b o hb.1 hb.2.2.1 hb.2.2.2.1 hb.2.2.2.2 e
 self:=fun _ _ _ _ _ st h=>wpAny_pyIter_zip st.1 h
def itO(k:Bool)(a:Addr):Obj:=match k with
 |true=>{ cls:=.type "list_iterator",data:=.fields #[.ref a,.int 0 0]}
 |false=>{ cls:=.type "tuple_iterator",data:=.fields #[.ref a,.int 0 0]}
def zw1(k1:Bool)(h:Heap)(a1:Addr):Heap:=h.push (itO k1 a1)
def zw2(k1 k2:Bool)(h:Heap)(a1 a2:Addr):Heap:=(zw1 k1 h a1).push (itO k2 a2)
def zw3(k1 k2:Bool)(h:Heap)(a1 a2:Addr):Heap:=(zw2 k1 k2 h a1 a2).push { cls:=.type "tuple",data:=.seq #[.ref h.objs.size,.ref (zw1 k1 h a1).objs.size]}
def zw4(k1 k2:Bool)(h:Heap)(a1 a2:Addr):Heap:=(zw3 k1 k2 h a1 a2).push { cls:=.type "tuple",data:=.seq #[.none,.none]}
def zw5(k1 k2:Bool)(h:Heap)(a1 a2:Addr):Heap:=(zw4 k1 k2 h a1 a2).push { cls:=.type "zip",data:=.fields #[.none,.bool false,.bool false,.ref (zw2 k1 k2 h a1 a2).objs.size,.ref (zw3 k1 k2 h a1 a2).objs.size]}
theorem itK{k:Bool}{h:Heap}{jt a:Addr}(e:h.get? jt=some (itO k a)):Ik k h jt a 0:=by
 cases k<;>exact⟨_,e,rfl,rfl⟩
theorem qjnz{k:Bool}{a:Addr}:(itO k a).isFreed=false:=by cases k<;>rfl
theorem qs1z(k1 k2:Bool)(a1 a2:Addr)(xs ys:Array Value):Meets (Builtin.«zip.__new__» ⟨[.type "zip",.ref a1,.ref a2],[]⟩) (fun _ R s=>Sk k1 s.heap a1 xs/\Sk k2 s.heap a2 ys ∧
   R (.ok (.ret (.ref (zw4 k1 k2 s.heap a1 a2).objs.size))) { s with heap:=zw5 k1 k2 s.heap a1 a2 }):=
 .of_wp fun prog w A R s h=>by
  obtain⟨hp,g,d,tk,os⟩:=s;obtain⟨h1,h2,h⟩:=h;have hsub:=sub_zip;cases k1<;>cases k2
  ·have q1:Heap.IsTuple (Shared.heap ⟨hp,g,d,tk,os⟩) a1 xs:=h1;have q2:Heap.IsTuple (Shared.heap ⟨hp.push { cls:=.type "tuple_iterator",data:=.fields #[.ref a1,.int 0 0]},g,d,tk,os⟩) a2 ys:=Heap.IsTuple.push h2 _;wp_walk using wpAny_pyIter_tuple q1,wpAny_pyIter_tuple q2;exact⟨_,rfl,h⟩
  ·have q1:Heap.IsTuple (Shared.heap ⟨hp,g,d,tk,os⟩) a1 xs:=h1;have q2:Heap.IsList (Shared.heap ⟨hp.push { cls:=.type "tuple_iterator",data:=.fields #[.ref a1,.int 0 0]},g,d,tk,os⟩) a2 ys:=Heap.IsList.push h2 _;wp_walk using wpAny_pyIter_tuple q1,wpAny_pyIter_list q2;exact⟨_,rfl,h⟩
  ·have q1:Heap.IsList (Shared.heap ⟨hp,g,d,tk,os⟩) a1 xs:=h1;have q2:Heap.IsTuple (Shared.heap ⟨hp.push { cls:=.type "list_iterator",data:=.fields #[.ref a1,.int 0 0]},g,d,tk,os⟩) a2 ys:=Heap.IsTuple.push h2 _;wp_walk using wpAny_pyIter_list q1,wpAny_pyIter_tuple q2;exact⟨_,rfl,h⟩
  ·have q1:Heap.IsList (Shared.heap ⟨hp,g,d,tk,os⟩) a1 xs:=h1;have q2:Heap.IsList (Shared.heap ⟨hp.push { cls:=.type "list_iterator",data:=.fields #[.ref a1,.int 0 0]},g,d,tk,os⟩) a2 ys:=Heap.IsList.push h2 _;wp_walk using wpAny_pyIter_list q1,wpAny_pyIter_list q2;exact⟨_,rfl,h⟩
theorem qjoz{k1 k2:Bool}{h:Heap}{a1 a2:Addr}:IsZip (zw5 k1 k2 h a1 a2) (h.objs.size+4) (h.objs.size+2) (h.objs.size+3) .none/\IsPair (zw5 k1 k2 h a1 a2) (h.objs.size+2) (.ref h.objs.size) (.ref (h.objs.size+1))/\IsPair (zw5 k1 k2 h a1 a2) (h.objs.size+3) .none .none ∧
  Ik k1 (zw5 k1 k2 h a1 a2) h.objs.size a1 0/\Ik k2 (zw5 k1 k2 h a1 a2) (h.objs.size+1) a2 0/\(zw4 k1 k2 h a1 a2).objs.size=h.objs.size+4/\∀c o,h.get? c=some o->(zw5 k1 k2 h a1 a2).get? c=some o:=by
 have e1:(zw1 k1 h a1).objs.size=h.objs.size+1:=Heap.size_push ..;have e2:(zw2 k1 k2 h a1 a2).objs.size=h.objs.size+2:=(Heap.size_push ..).trans (by rw[e1]);have e3:(zw3 k1 k2 h a1 a2).objs.size=h.objs.size+3:=(Heap.size_push ..).trans (by rw[e2]);have e4:(zw4 k1 k2 h a1 a2).objs.size=h.objs.size+4:=(Heap.size_push ..).trans (by rw[e3]);have u5:∀c o,(zw4 k1 k2 h a1 a2).get? c=some o->(zw5 k1 k2 h a1 a2).get? c=some o:=fun c o e=>Heap.get?_push_of_some _ e;have u4:∀c o,(zw3 k1 k2 h a1 a2).get? c=some o->(zw5 k1 k2 h a1 a2).get? c=some o:=fun c o e=>u5 c o (Heap.get?_push_of_some _ e);have u3:∀c o,(zw2 k1 k2 h a1 a2).get? c=some o->(zw5 k1 k2 h a1 a2).get? c=some o:=fun c o e=>u4 c o (Heap.get?_push_of_some _ e);have u2:∀c o,(zw1 k1 h a1).get? c=some o->(zw5 k1 k2 h a1 a2).get? c=some o:=fun c o e=>u3 c o (Heap.get?_push_of_some _ e);have u1:∀c o,h.get? c=some o->(zw5 k1 k2 h a1 a2).get? c=some o:=fun c o e=>u2 c o (Heap.get?_push_of_some _ e);have g5:(zw5 k1 k2 h a1 a2).get? (zw4 k1 k2 h a1 a2).objs.size=some _:=Heap.get?_push_size _ rfl;have g4:(zw5 k1 k2 h a1 a2).get? (zw3 k1 k2 h a1 a2).objs.size=some _:=u5 _ _ (Heap.get?_push_size _ rfl);have g3:(zw5 k1 k2 h a1 a2).get? (zw2 k1 k2 h a1 a2).objs.size=some _:=u4 _ _ (Heap.get?_push_size _ rfl);have g2:(zw5 k1 k2 h a1 a2).get? (zw1 k1 h a1).objs.size=some (itO k2 a2):=u3 _ _ (Heap.get?_push_size _ qjnz);have g1:(zw5 k1 k2 h a1 a2).get? h.objs.size=some (itO k1 a1):=u2 _ _ (Heap.get?_push_size _ qjnz);rw[e2,e3,e4] at g5;rw[e1,e2] at g3;rw[e3] at g4;rw[e1] at g2;exact⟨g5,g3,g4,itK g1,itK g2,e4,u1⟩
theorem qs2z{P:Program}{w:World}{A:Around}{E:Value->Shared->Prop}{s:Shared}{k1 k2:Bool}{a1 a2:Addr}{xs ys:Array Value}{Q:Value->Shared->Prop}(h1:Sk k1 s.heap a1 xs)(h2:Sk k2 s.heap a2 ys)
  (q:Q (.ref (s.heap.objs.size+4)) { s with heap:=zw5 k1 k2 s.heap a1 a2 }):wpAny (model P w) A (call (.type "zip") [.ref a1,.ref a2]) Q E s:=by
 refine callType_new F.called_zip (by decide) (F.typeCall_zip_2 _ _) (F.newCall_zip_2 _ _) (fun obj=>F.args_object_init_3 obj _ _) F.entry_zip_new (qs1z k1 k2 a1 a2 xs ys) ⟨h1,h2,?_⟩;obtain⟨z1,_,_,_,_,z2,_⟩:=qjoz (k1:=k1) (k2:=k2) (h:=s.heap) (a1:=a1) (a2:=a2);show _/\_;rw[z2];exact⟨⟨_,z1,rfl⟩,q⟩
section
variable {X:Cx} {es:List Expr} {n0:Nat} {ps p pos:Pos}
def jZip(K:PySem.W.Frag)(ta:TA):TI:=fun σ H R=>ta σ H fun vs H1=>∃k1 k2 a1 a2,vs=[.ref a1,.ref a2]/\(∃xs,SqK K k1 H1 a1 xs)/\(∃ys,SqK K k2 H1 a2 ys)/\R (Itz K k1 k2 a1 a2) H1
theorem qs3z{a b:Expr}{ta:TA}(hg:Gl X "zip")(hm:X.mg "zip" = none)(ha:PA X [a,b] ta)(hs:starEach [a,b] X.env=[(false,eval a X.env),(false,eval b X.env)]:=by rfl)(hs2:starEach [b] X.env=[(false,eval b X.env)]:=by rfl):
  PI X (.Tuple es n0 ps) (.Call (.Name "zip" p) [a,b] [] pos) (jZip X.K ta):=by
 intro pins s σ H R I h;refine Call_ (qa7z I hg hm boot_zip (PyProof.Rows.callWith_type1 (thn (ha pos pins s σ H _ I h) fun us s1 ⟨vs,H1,I1,r1,q1⟩=>?_) (by rw[hs,hs2]) (by rw[hs2];rfl)));obtain⟨k1,k2,a1,a2,e,⟨xs,q1⟩,⟨ys,q2⟩,q⟩:=q1;subst e;cases r1 with
 |cons r rr=>
  cases rr with
  |cons r' rr=>
   cases rr;cases r;cases r';obtain⟨its1,rv1,p1⟩:=q1.heap I1;obtain⟨its2,rv2,p2⟩:=q2.heap I1;refine qs2z p1 p2 ?_;obtain⟨z1,z2,z3,z4,z5,z6,z7⟩:=qjoz (k1:=k1) (k2:=k2) (h:=s1.heap) (a1:=a1) (a2:=a2);refine wpAny_pyIter_zip (s:={ s1 with heap:=zw5 k1 k2 s1.heap a1 a2 }) z1 ?_
   refine⟨s1.heap.objs.size+4,[s1.heap.objs.size+4,s1.heap.objs.size+2,s1.heap.objs.size+3,s1.heap.objs.size,s1.heap.objs.size+1],_,_,H1,rfl,I1.kept (t':=s1.toks) z7,qs0z k1 k2 a1 a2 _ _ _ _ _ (by simp),⟨z1,z2,⟨_,_,z3⟩,z4,z5⟩,fun b hb=>?_,q⟩;have hb:s1.heap.objs.size≤b:=by
    simp only[List.mem_cons,List.not_mem_nil,or_false] at hb;rcases hb with rfl|rfl|rfl|rfl|rfl
    ·exact Nat.le_add_right _ _
    ·exact Nat.le_add_right _ _
    ·exact Nat.le_add_right _ _
    ·exact Nat.le_refl _
    ·exact Nat.le_add_right _ _
   exact I1.fpOk hb (I1.hok.fresh hb)
def seqD(G:Gp):D->List D->Prop
 |.obj p,ds=>G p=some (.lst ds)
 |.tup es,ds=>ds=es
 |.scr es,ds=>ds=es
 |_,_=>False
def zipD(xs ys:List D):List D:=List.zipWith (fun x y=>.tup [x,y]) xs ys
def iZip(ta:TA3):TI3:=fun τ G R=>ta τ G fun ds G1=>match ds with
 |[x,y]=>∃xs ys,seqD G1 x xs/\seqD G1 y ys/\R ⟨zipD xs ys,fun G=>seqD G x xs/\seqD G y ys⟩ G1
 |_=>False
theorem qfnz{K:PySem.W.Frag}{H:Hp}{x:D}{v:V}(hv:Hv K H x v):∃k,∀H' G' xs,Ext H H'->RepG K G' H'->seqD G' x xs->∃a vs,v=.ref a/\SqK K k H' a vs/\Hvs K H' xs vs:=by
 cases x with
 |obj p=>
  unfold Hv at hv;subst hv;refine⟨true,fun H' G' xs E RG h=>?_⟩;obtain⟨vs,e2,e3⟩:=RG p _ h;exact⟨p,vs,rfl,SqL.of e2,e3⟩
 |tup es=>
  unfold Hv at hv;obtain⟨a,vs,rfl,e2,e3⟩:=hv;refine⟨false,fun H' G' xs E RG h=>?_⟩;cases (show xs=es from h);exact⟨a,vs,rfl,SqT.ext E e2,e3.ext E⟩
 |scr es=>
  unfold Hv at hv;obtain⟨a,vs,rfl,e2,e3⟩:=hv;refine⟨true,fun H' G' xs E RG h=>?_⟩;cases (show xs=es from h);exact⟨a,vs,rfl,(SqF.ext E e2).l,e3.ext E⟩
 |non=>exact⟨true,fun _ _ _ _ _ h=>h.elim⟩
 |bl _=>exact⟨true,fun _ _ _ _ _ h=>h.elim⟩
 |int _=>exact⟨true,fun _ _ _ _ _ h=>h.elim⟩
 |str _=>exact⟨true,fun _ _ _ _ _ h=>h.elim⟩
 |dc _=>exact⟨true,fun _ _ _ _ _ h=>h.elim⟩
theorem qjpz{xs ys:List D}{i:Nat}{d:D}(h:(zipD xs ys)[i]?=some d):∃x y,xs[i]?=some x/\ys[i]?=some y/\d=.tup [x,y]:=by
 unfold zipD at h;rw[List.getElem?_zipWith] at h;cases hx:xs[i]? with
 |none=>rw[hx] at h;cases h
 |some x=>
  cases hy:ys[i]? with
  |none=>rw[hx,hy] at h;cases h
  |some y=>
   rw[hx,hy] at h;cases h;exact⟨x,y,rfl,rfl,rfl⟩
theorem qs4z{a b:Expr}{ta:TA3}(hm:X.mg "zip" = none)(ha:PA3 X [a,b] ta)(hg:Gl X "zip":=by rfl)(hs:notStar a=true:=by rfl)(hs2:notStar b=true:=by rfl):
  PI3 X (.Tuple es n0 ps) (.Call (.Name "zip" p) [a,b] [] pos) (iZip ta):=
 qdqz (qs3z hg hm ha (by rw[qmz hs,qmz hs2];rfl) (qmz hs2)) fun σ H R ⟨τ,G,R3,RS,RG,h,k⟩=>⟨τ,G,_,RS,RG,h,fun vs H1 ds G1 h1 S1 R1 q1=>by
  rcases ds with _|⟨d,_|⟨d2,_|⟨d3,ds⟩⟩⟩
  ·exact q1.elim
  ·exact q1.elim
  ·obtain⟨xs,ys,s1,s2,q⟩:=q1;obtain⟨v,r,rfl,z1,z2⟩:=h1.inv;obtain⟨v',r',rfl,z3,z4⟩:=z2.inv;cases z4.inv0;obtain⟨k1,f1⟩:=qfnz z1;obtain⟨k2,f2⟩:=qfnz z3;obtain⟨a1,vs1,rfl,y1,w1⟩:=f1 _ _ _ (Ext.refl _) R1 s1;obtain⟨a2,vs2,rfl,y2,w2⟩:=f2 _ _ _ (Ext.refl _) R1 s2;refine⟨k1,k2,a1,a2,rfl,⟨_,y1⟩,⟨_,y2⟩,k _ _ _ _ ⟨?_,?_⟩ S1 R1 q⟩
   ·intro i d H' G' E' RG' hg hi;obtain⟨x,y,e1,e2,rfl⟩:=qjpz hi;obtain⟨b1,us1,c1,m1,n1⟩:=f1 _ _ _ E' RG' hg.1;obtain⟨b2,us2,c2,m2,n2⟩:=f2 _ _ _ E' RG' hg.2;cases c1;cases c2;obtain⟨u1,o1,o2⟩:=n1.get e1;obtain⟨u2,o3,o4⟩:=n2.get e2;refine⟨⟨_,_,_,_,⟨m1,o1⟩,m2,o3⟩,fun x' H'' hy=>?_⟩;obtain⟨T,u,v,rfl,hn,rfl,t1,t2⟩:=hy;have:=t1 _ m1;rw[o1] at this;cases this;have:=t2 _ m2;rw[o3] at this;cases this;refine⟨?_,.laid hn,RG'.laid hn⟩;unfold Hv;exact⟨T,_,rfl,.of qtz,.cons (o2.ext (.laid hn)) (.cons (o4.ext (.laid hn)) .nil)⟩
   ·intro i H' G' E' RG' hg hi;obtain⟨b1,us1,c1,m1,n1⟩:=f1 _ _ _ E' RG' hg.1;obtain⟨b2,us2,c2,m2,n2⟩:=f2 _ _ _ E' RG' hg.2;cases c1;cases c2;refine⟨_,_,m1,m2,?_⟩;have hi:(zipD xs ys).length≤i:=hi;unfold zipD at hi;rw[List.length_zipWith] at hi;rw[←n1.length,←n2.length];lia
  ·exact q1.elim⟩
end
end L3
namespace L3
open PySem PySem.Spec PyProof.Rows L2
open Sem (wp)
theorem drawsK{P:Program}{w:World}{A:Around}{k:Bool}(hh:A.handled=none)(it a:Addr)(hne:a≠it)(xs:Array Value):
  Draws P w A it [it,a] xs.size (fun i v=>xs[i]?=some v) (fun i h=>Ik k h it a i/\Sk k h a xs) where
 live:=fun _ _ st=>let ⟨o,ho,_⟩:=st.1.obj;⟨o,ho⟩
 frame:=fun _ _ _ st hk=>⟨st.1.of fun o e=>hk it (by simp) o e,st.2.of fun o e=>hk a (by simp) o e⟩
 item:=fun i s Q E hi st hQ=>by
  refine nextK st.1 st.2 (u:=xs[i]) (by simp[hi]) fun h' hit' hs'=>?_;exact hQ _ h' s.toks (by simp[hi]) ⟨hit',st.2.of fun o e=>hs'.extBut a o hne e⟩ hs'
 done:=fun s Q E st hE=>qd3z hh st.1 st.2 (by simp) hE
section
variable {P:Program} {w:World} {A:Around} {E:Value->Shared->Prop} {s:Shared}
theorem qs5z{k:Bool}{e it a:Addr}{i:Int}{j:Nat}{xs:Array Value}{old:Value}{Q:Option Value->Shared->Prop}(hh:A.handled=none)(he:IsEnum s.heap e it i old)(hi:Ik k s.heap it a j)(ha:Sk k s.heap a xs)(hx:xs[j]?=none)
  (hQ:∀h',Heap.ExtBut it s.heap h'->Q none { s with heap:=h' }):wpAny (model P w) A (pyNext (.ref e)) Q E s:=by
 have hT:s.TypeIs (.ref e) "enumerate":=⟨_,he,rfl⟩;unfold pyNext;refine wpAny_bind (wpAny_attempt (wpAny_callSpecial?_slot (name:=Str.ofString "__next__") hT F.slot_enumerate_next
  (wpAny_call_entry F.slot_enumerate_next hT F.entry_enumerate_next ?_ (F.args_enumerate_next_1 _))))
 show wpAny _ _ (field (.ref e) 2 >>= _) _ _ _;refine wpAny_bind (wpAny_field he rfl (x:=.ref it) rfl ?_);refine wpAny_bind (qd3z (by simpa using hh) hi ha hx fun h' x he' hx'=>?_);obtain⟨o,ho,hc⟩:=hx';refine wpAny_bind (wpAny_isInstance (T:="StopIteration") (b:=true) ⟨o,ho,hc⟩ isSubtype_stop ?_);exact wpAny_pure (hQ _ he')
open AutoSeq1 (wpAny_loadPart') in
theorem qs6z(l:Addr)(items:Array Value)(n:Nat)(dct:Option Addr)(sl:Array (Option Value)):
  Meets (Builtin.«enumerate.__new__» ⟨[.type "enumerate",.ref l],[]⟩) (fun _ R s=>s.heap.get? l=some { cls:=.type "tuple",dict:=dct,data:=.seq items n,slots:=sl } ∧
   R (.ok (.ret (.ref (s.heap.push { cls:=.type "tuple_iterator",data:=.fields #[.ref l,.int 0 0]}).objs.size)))
    { s with heap:=(s.heap.push { cls:=.type "tuple_iterator",data:=.fields #[.ref l,.int 0 0]}).push { cls:=.type "enumerate",data:=.fields #[.none,.bool false,.ref s.heap.objs.size,rawInt 0,.none,.none]}}):=
 .of_wp fun prog w A R s h=>by
  obtain⟨hp,g,d,tk,os⟩:=s;obtain⟨hl,h⟩:=h;have hsub:=sub_enumerate;have hL:Heap.IsTuple (Shared.heap ⟨hp,g,d,tk,os⟩) l items:=⟨_,hl,rfl,n,rfl⟩;wp_walk using wpAny_loadPart' hl;refine wpAny_stack_any fun st=>wpAny_pure ?_;split
  ·rename_i c _ _ _ _ _;cases (c==Value.type "enumerate")
   ·wp_walk using wpAny_loadPart' hl,wpAny_pyIter_tuple hL;exact⟨_,rfl,h⟩
   ·wp_walk using wpAny_loadPart' hl,wpAny_pyIter_tuple hL;exact⟨_,rfl,h⟩
  ·wp_walk using wpAny_loadPart' hl,wpAny_pyIter_tuple hL;exact⟨_,rfl,h⟩
theorem qs7z{l:Addr}{items:Array Value}{Q:Value->Shared->Prop}(hL:s.heap.IsTuple l items)
  (h:∀h',IsEnum h' (s.heap.objs.size+1) s.heap.objs.size 0 .none->h'.IsTupleIter s.heap.objs.size l 0->h'.objs.size=s.heap.objs.size+2 ->
   (∀b o,s.heap.get? b=some o->h'.get? b=some o)->Q (.ref (s.heap.objs.size+1)) { s with heap:=h' }):
  wpAny (model P w) A (call (.type "enumerate") [.ref l]) Q E s:=by
 obtain⟨⟨c,dct,dt,sl⟩,hl,hc,n,hd⟩:=hL
 replace hc:c=.type "tuple":=hc
 replace hd:dt=.seq items n:=hd
 subst hc hd;refine callType_new F.called_enumerate (by decide) (F.typeCall_enumerate_1 _) (F.newCall_enumerate_1 _) (fun obj=>F.args_object_init_2 obj _) F.entry_enumerate_new
  (qs6z l items n dct sl) ⟨hl,?_⟩
 have hz:(s.heap.push { cls:=.type "tuple_iterator",data:=.fields #[.ref l,.int 0 0]}).objs.size=s.heap.objs.size+1:=Heap.size_push ..;show _/\_;rw[hz];have he:IsEnum ((s.heap.push { cls:=.type "tuple_iterator",data:=.fields #[.ref l,.int 0 0]}).push
   { cls:=.type "enumerate",data:=.fields #[.none,.bool false,.ref s.heap.objs.size,rawInt 0,.none,.none]}) (s.heap.objs.size+1) s.heap.objs.size 0 .none:=by
  have:=Heap.get?_push_size (s.heap.push { cls:=.type "tuple_iterator",data:=.fields #[.ref l,.int 0 0]})
   (o:={ cls:=.type "enumerate",data:=.fields #[.none,.bool false,.ref s.heap.objs.size,rawInt 0,.none,.none]}) rfl
  rw[hz] at this;exact this
 refine⟨⟨_,he,rfl⟩,h _ he ⟨_,Heap.get?_push_of_some _ (Heap.get?_push_size _ rfl),rfl,rfl⟩ (by rw[Heap.size_push,hz]) fun b o x=>Heap.get?_push_of_some _ (Heap.get?_push_of_some _ x)⟩
theorem qs8z{k:Bool}{l:Addr}{items:Array Value}{Q:Value->Shared->Prop}(hL:Sk k s.heap l items)
  (h:∀h',IsEnum h' (s.heap.objs.size+1) s.heap.objs.size 0 .none->Ik k h' s.heap.objs.size l 0->h'.objs.size=s.heap.objs.size+2 ->
   (∀b o,s.heap.get? b=some o->h'.get? b=some o)->Q (.ref (s.heap.objs.size+1)) { s with heap:=h' }):
  wpAny (model P w) A (call (.type "enumerate") [.ref l]) Q E s:=by
 cases k with
 |true=>exact call_enumerate_list hL h
 |false=>exact qs7z hL h
end
def Itn(K:PySem.W.Frag)(k:Bool)(a:Addr):It:=
 ⟨fun i H=>∃xs x,SqK K k H a xs/\xs[i]?=some x,
  fun i H x H'=>∃T u,x=.ref T/\H T=none/\H'=upd H T (.tup [.int i,u])/\∀xs,SqK K k H a xs->xs[i]?=some u,
  fun i H=>∃xs,SqK K k H a xs/\xs.length≤i⟩
theorem qs9z{P:Program}{w:World}{K:PySem.W.Frag}{es:List Expr}{n0:Nat}{ps:Pos}(k:Bool)(a en jt:Addr)(hne:en≠jt):
  Turn P w K (.Tuple es n0 ps) (Itn K k a) [en,jt] en (fun i h=>(∃old,IsEnum h en jt i old)/\Ik k h jt a i) where
 mem:=by simp
 obj:=fun i h st b hb=>by
  obtain⟨⟨old,Z⟩,g⟩:=st;simp only[List.mem_cons,List.not_mem_nil,or_false] at hb;rcases hb with rfl|rfl
  ·exact⟨_,Z,fun v z=>by cases (show Data.fields _=Data.cell v from z)⟩
  ·exact g.obj
 keep:=fun i h h' st k=>⟨let ⟨old,Z⟩:=st.1;⟨old,k _ (by simp) _ Z⟩,st.2.of fun o e=>k _ (by simp) _ e⟩
 item:=by
  intro X hP hw hK hc i pins s σ H E I hf st hg;subst hP hw hK;obtain⟨⟨old,Z⟩,g⟩:=st;obtain⟨xs,x,q1,hx⟩:=hg;obtain⟨its,rv,p⟩:=SqK.heap I q1;obtain⟨u,hu,ru⟩:=rv.get hx;have hi:i<its.toArray.size:=by
   have:=(List.getElem?_eq_some_iff.mp hu).1;simpa using this
  have hja:a≠jt:=SqK.apart I q1 (hf jt (by simp));have hea:a≠en:=SqK.apart I q1 (hf en (by simp));refine wpAny_pyNext_enum_itemD (drawsK (k:=k) (by have:=I.ok.hd hc;simpa using this) jt a hja its.toArray) Z ⟨g,p⟩ hi hne (by simp[hne,hea.symm]) fun x2 h' tk hx2 Z' g' T' sz kp=>⟨_,rfl,?_⟩;have ex:x2=u:=by
   have:its.toArray[i]?=some u:=by simpa using hu
   rw[hx2] at this;exact Option.some.inj this
  subst ex;refine wpAny_letOwnedTupleGo_enum (s:={ s with heap:=h',toks:=tk+1 }) Z' fun h2 Z2 b2=>?_;have hn:H s.heap.objs.size=none:=I.hok.fresh (Nat.le_refl _);have I1:L2.Inv X pins σ (upd H s.heap.objs.size (.tup [.int i,x])) { s with heap:=s.heap.push { cls:=.type "tuple",data:=.seq #[.int i tk,x2]}}:=I.laid (t':=s.toks) (fun b o e=>Heap.get?_push_of_some _ e) (Nat.le_refl _) ⟨by show 2≤sizeLine;decide,[.int i tk,x2],.cons ⟨_,rfl⟩ (.cons ru .nil),⟨_,Heap.get?_push_size _ rfl,rfl,_,rfl⟩⟩;have lt:∀b∈[en,jt],b<s.heap.objs.size:=fun b hb=>by
   simp only[List.mem_cons,List.not_mem_nil,or_false] at hb;rcases hb with rfl|rfl
   ·exact Heap.lt_size Z
   ·obtain⟨o,e,_⟩:=g.obj;exact Heap.lt_size e
  have hf':∀b∈[en,jt],FpOk X pins (upd H s.heap.objs.size (.tup [.int i,x])) b:=fun b hb=>⟨by rw[qlz (Nat.ne_of_lt (lt b hb))];exact (hf b hb).1,(hf b hb).2⟩;have I2:L2.Inv X pins σ (upd H s.heap.objs.size (.tup [.int i,x])) { s with heap:=h2,toks:=tk+1 }:=turnedL (s:={ s with heap:=s.heap.push { cls:=.type "tuple",data:=.seq #[.int i tk,x2]}}) (t':=tk+1) I1 (fun b o hb e=>by
   simp only[List.mem_cons,List.not_mem_nil,or_false,not_or] at hb;refine b2.extBut b o hb.1 ?_;rcases Heap.get?_push_cases e with⟨rfl,rfl⟩|e
   ·exact T'
   ·exact kp b o hb.1 hb.2 e) hf'
  exact⟨.ref s.heap.objs.size,_,I2,rfl,⟨_,x,rfl,hn,rfl,fun zs hz=>by rw[SqK.inj I hz q1];exact hx⟩,⟨⟨_,Z2⟩,g'.1.of fun o e=>b2.extBut jt o hne.symm e⟩,fun b hb=>(hf' b hb).1⟩
 done:=by
  intro X hP hw hK hc i pins s σ H E I hf st hg;subst hP hw hK;obtain⟨⟨old,Z⟩,g⟩:=st;obtain⟨xs,q1,hl⟩:=hg;obtain⟨its,rv,p⟩:=SqK.heap I q1;have l1:=rv.length;exact qs5z (I.ok.hd hc) Z g p (by simp;lia) fun h' kp=>⟨rfl,turnedL (t':=s.toks) I (fun b o hb e=>by
   simp only[List.mem_cons,List.not_mem_nil,or_false,not_or] at hb;exact kp b o hb.2 e) hf⟩
 self:=fun _ _ _ _ _ st h=>let ⟨⟨_,Z⟩,_⟩:=st;wpAny_pyIter_enum Z h
section
variable {X:Cx} {es:List Expr} {n0:Nat} {ps p pos:Pos}
def jEnum(K:PySem.W.Frag)(ta:TA):TI:=fun σ H R=>ta σ H fun vs H1=>∃k a,vs=[.ref a]/\(∃xs,SqK K k H1 a xs)/\R (Itn K k a) H1
theorem qtaz{a:Expr}{ta:TA}(hg:Gl X "enumerate")(hm:X.mg "enumerate" = none)(ha:PA X [a] ta)(hs:starEach [a] X.env=[(false,eval a X.env)]:=by rfl):PI X (.Tuple es n0 ps) (.Call (.Name "enumerate" p) [a] [] pos) (jEnum X.K ta):=by
 intro pins s σ H R I h;refine Call_ (qa7z I hg hm boot_enumerate (PyProof.Rows.callWith_type1 (thn (ha pos pins s σ H _ I h) fun us s1 ⟨vs,H1,I1,r1,q1⟩=>?_) hs rfl));obtain⟨k,a1,e,⟨xs,q1⟩,q⟩:=q1;subst e;cases r1 with
 |cons r rr=>
  cases rr;cases r;obtain⟨its,rv,p⟩:=SqK.heap I1 q1;refine qs8z p fun h' z1 z2 z3 z4=>?_;refine wpAny_pyIter_enum (s:={ s1 with heap:=h' }) z1 ?_
  refine⟨s1.heap.objs.size+1,[s1.heap.objs.size+1,s1.heap.objs.size],_,_,H1,rfl,I1.kept (t':=s1.toks) z4,qs9z k a1 _ _ (by simp),⟨⟨_,z1⟩,z2⟩,fun b hb=>?_,q⟩;have hb:s1.heap.objs.size≤b:=by
   simp only[List.mem_cons,List.not_mem_nil,or_false] at hb;rcases hb with rfl|rfl
   ·exact Nat.le_add_right _ _
   ·exact Nat.le_refl _
  exact I1.fpOk hb (I1.hok.fresh hb)
def enumD(xs:List D):List D:=zipD (rngL 0 xs.length) xs
def iEnum(ta:TA3):TI3:=fun τ G R=>ta τ G fun ds G1=>match ds with
 |[x]=>∃xs,seqD G1 x xs/\R ⟨enumD xs,fun G=>seqD G x xs⟩ G1
 |_=>False
theorem qtbz{a:Expr}{ta:TA3}(hm:X.mg "enumerate" = none)(ha:PA3 X [a] ta)(hg:Gl X "enumerate":=by rfl)(hs:notStar a=true:=by rfl):
  PI3 X (.Tuple es n0 ps) (.Call (.Name "enumerate" p) [a] [] pos) (iEnum ta):=
 qdqz (qtaz hg hm ha (qmz hs)) fun σ H R ⟨τ,G,R3,RS,RG,h,k⟩=>⟨τ,G,_,RS,RG,h,fun vs H1 ds G1 h1 S1 R1 q1=>by
  rcases ds with _|⟨d,_|⟨d2,ds⟩⟩
  ·exact q1.elim
  ·obtain⟨xs,s1,q⟩:=q1;obtain⟨v,r,rfl,z1,z2⟩:=h1.inv;cases z2.inv0;obtain⟨kk,hsq⟩:=qfnz z1;obtain⟨a1,vs1,rfl,y1,w1⟩:=hsq _ _ _ (Ext.refl _) R1 s1;refine⟨kk,a1,rfl,⟨_,y1⟩,k _ _ _ _ ⟨?_,?_⟩ S1 R1 q⟩
   ·intro i d H' G' E' RG' hg hi;obtain⟨x,y,e1,e2,rfl⟩:=qjpz hi;obtain⟨b1,us1,c1,m1,n1⟩:=hsq _ _ _ E' RG' hg;cases c1;obtain⟨u1,o1,o2⟩:=n1.get e2;obtain⟨_,rfl⟩:=qigz e1;refine⟨⟨_,_,m1,o1⟩,fun x' H'' hy=>?_⟩;obtain⟨T,u,rfl,hn,rfl,t1⟩:=hy;have:=t1 _ m1;rw[o1] at this;cases this;refine⟨?_,.laid hn,RG'.laid hn⟩;unfold Hv;exact⟨T,_,rfl,.of qtz,.cons (by simp[Hv]) (.cons (o2.ext (.laid hn)) .nil)⟩
   ·intro i H' G' E' RG' hg hi;obtain⟨b1,us1,c1,m1,n1⟩:=hsq _ _ _ E' RG' hg;cases c1;refine⟨_,m1,?_⟩;have hi:(enumD xs).length≤i:=hi;unfold enumD zipD at hi;rw[List.length_zipWith,qbkz] at hi;rw[←n1.length];lia
  ·exact q1.elim⟩
end
section
variable {X:Cx} {K:PySem.W.Frag}
theorem qtcz:OpR X (compareOp .Is) (fun x y H Q=>∃b c,x=.bl b/\y=.bl c/\Q (.bl (b==c)) H):=by
 intro pins s σ H x y v u Q I rx ry h;obtain⟨b,c,rfl,rfl,q⟩:=h;cases rx;cases ry;exact wpAny_pure (qhiz I q (by cases b<;>cases c<;>rfl))
def rIsB3:R3:=fun x y G Q=>match x,y with
 |.bl b,.bl c=>Q (.bl (b==c)) G
 |_,_=>False
theorem qtdz:LowR K rIsB3 (fun x y H Q=>∃b c,x=.bl b/\y=.bl c/\Q (.bl (b==c)) H):=fun x y vx vy G H Q3 Q hx hy RG h k=>by
 cases x with
 |bl b=>
  cases y with
  |bl c=>exact⟨b,c,qa2z hx,qa2z hy,k _ H _ G qacz (.refl H G) RG h⟩
  |_=>exact h.elim
 |_=>exact h.elim
end
end L3
namespace L2
open PySem PySem.Spec PyProof.Rows
def Itr3(lo c:Int)(n:Nat):It:=⟨fun i _=>i<n,fun i H x H'=>H'=H/\x=.int (lo+i*c),fun i _=>n≤i⟩
theorem qtez{P:Program}{w:World}{K:PySem.W.Frag}{tg:Expr}(it:Addr)(lo c:Int)(n:Nat):Turn P w K tg (Itr3 lo c n) [it] it (fun i h=>IsRangeIter h it (lo+(i:Nat)*c) ((n:Int)-(i:Nat)) c) where
 mem:=by simp
 obj:=fun i h st b hb=>by
  have e:b=it:=by simpa using hb
  subst e;exact⟨_,st,fun v z=>by
   have z':Data.fields _=Data.cell v:=z;cases z'⟩
 keep:=fun i h h' st k=>k it (by simp) _ st
 item:=by
  intro X hP hw hK hc i pins s σ H E I hf st hg;subst hP hw hK;obtain⟨f0,f1,f2,f3,f4,f5⟩:=hf it (by simp);have W:=Walks.range (prog:=X.prog) (w:=X.w) (I.ok.hd hc) it lo c n;refine W.item i s _ _ hg st fun v h' tk hv st' kk=>?_;obtain⟨t,rfl⟩:=hv;have I1:Inv X pins σ H { s with heap:=h',toks:=tk }:=I.turned (fun b o hb e=>kk b o (by simpa using hb) e) f0 f1 f3 f4 f5;refine⟨_,rfl,qcmz (s:={ s with heap:=h',toks:=tk }) (n:="range_iterator") st' rfl rfl (by decide) ⟨.int (lo+i*c),H,I1,⟨t,rfl⟩,⟨rfl,rfl⟩,st',fun b hb=>(hf b hb).1⟩⟩
 done:=by
  intro X hP hw hK hc i pins s σ H E I hf st hg;subst hP hw hK;obtain⟨f0,f1,f2,f3,f4,f5⟩:=hf it (by simp);exact wpAny_pyNext_range_end (I.ok.hd hc) st (by have:n≤i:=hg;lia) fun h' eb=>⟨rfl,I.turned (t':=s.toks) (fun b o hb e=>eb b o hb e) f0 f1 f3 f4 f5⟩
 self:=fun _ _ _ _ _ st h=>wpAny_pyIter_rangeiter st h
def cntR(i j c:Int):Nat:=if i<j then ((j-i-1) / c+1).toNat else 0
theorem qtfz{i j c:Int}(hc:0<c):Builtin.Range.rangeSize i j c=(cntR i j c:Int):=by
 unfold Builtin.Range.rangeSize cntR;rw[if_pos hc];split
 ·rename_i h;have:0≤(j-i-1) / c:=Int.ediv_nonneg (by lia) (by lia);lia
 ·rfl
theorem qtgz{i j c:Int}(h1:-(2^61)≤i)(h2:i<2^61)(h3:-(2^61)≤j)(h4:j<2^61)(hc:0<c)(hc2:c<2^30):Builtin.Range.small i j c=true:=by
 have hs:Builtin.Range.rangeSize i j c≤2^62/\0≤Builtin.Range.rangeSize i j c:=by
  unfold Builtin.Range.rangeSize;rw[if_pos hc];split
  ·rename_i h;have e1:(j-i-1) / c≤j-i-1:=Int.ediv_le_self _ (by lia);have e2:0≤(j-i-1) / c:=Int.ediv_nonneg (by lia) (by lia);lia
  ·lia
 unfold Builtin.Range.small;generalize Builtin.Range.rangeSize i j c=z at hs;simp only[Builtin.Range.rangeFitsLong,Bool.and_eq_true,Bool.or_eq_true,decide_eq_true_eq,beq_iff_eq,hc,gt_iff_lt,if_true];have:∀p q:Int,True:=fun _ _=>trivial;refine ?_;lia
section
variable {X:Cx} {tg:Expr}
theorem qthz{pins:List (Addr×Obj)}{σ:St}{H:Hp}{s:Shared}{R:It->Hp->Prop}{E:Value->Shared->Prop}{lo hi c:Int}{t u v:Tok}{tk:Nat}(I:Inv X pins σ H s)(hs:Builtin.Range.small lo hi c=true)(hc:0<c)
  (q:R (Itr3 lo c (cntR lo hi c)) H):wpAny (model X.prog X.w) X.A (pyIter (.ref s.heap.objs.size)) (PIE X pins σ tg R) E { s with heap:=s.heap.push { cls:=.type "range",data:=.fields #[.int lo t,.int hi u,.int c v]},toks:=tk }:=by
 refine wpAny_pyIter_range (IsRange.new ..) hs ?_;have I1:Inv X pins σ H { s with heap:=s.heap.push { cls:=.type "range",data:=.fields #[.int lo t,.int hi u,.int c v]},toks:=tk }:=I.kept fun b o e=>Heap.get?_push_of_some _ e;refine⟨(s.heap.push { cls:=.type "range",data:=.fields #[.int lo t,.int hi u,.int c v]}).objs.size,[(s.heap.push { cls:=.type "range",data:=.fields #[.int lo t,.int hi u,.int c v]}).objs.size],_,_,H,rfl,
  I1.kept (t':=tk) fun b o e=>Heap.get?_push_of_some _ e,qtez _ lo c (cntR lo hi c),?_,fun b hb=>?_,q⟩
 ·have e1:lo+((0:Nat):Int)*c=lo:=by simp
  have e2:(((cntR lo hi c):Nat):Int)-((0:Nat):Int)=Builtin.Range.rangeSize lo hi c:=by rw[qtfz hc];simp
  show IsRangeIter _ _ (lo+((0:Nat):Int)*c) ((((cntR lo hi c):Nat):Int)-((0:Nat):Int)) c;rw[e1,e2];exact Heap.get?_push_size _ rfl
 ·have e:b=(s.heap.push { cls:=.type "range",data:=.fields #[.int lo t,.int hi u,.int c v]}).objs.size:=by simpa using hb
  subst e;exact I1.fpOk (Nat.le_refl _) (I1.hok.fresh (Nat.le_refl _))
def iRng3'(ta:TA):TI:=fun σ H R=>ta σ H fun vs H1=>∃i j c:Int,vs=[.int i,.int j,.int c]/\(-(2^61)≤i/\i<2^61/\-(2^61)≤j/\j<2^61/\0<c/\c<2^30)/\R (Itr3 i c (cntR i j c)) H1
theorem qtiz{a b d:Expr}{ta:TA}{p pos:Pos}(hg:Gl X "range")(hm:X.mg "range" = none)(ha:PA X [a,b,d] ta)(hs:starEach [a,b,d] X.env=[(false,eval a X.env),(false,eval b X.env),(false,eval d X.env)])(hs2:starEach [b,d] X.env=[(false,eval b X.env),(false,eval d X.env)]):
  PI X tg (.Call (.Name "range" p) [a,b,d] [] pos) (iRng3' ta):=by
 intro pins s σ H R I h;refine Call_ (qa7z I hg hm boot_range (PyProof.Rows.callWith_type1 (thn (ha pos pins s σ H _ I h) fun us s1 ⟨vs,H1,I1,r1,q1⟩=>?_) (by rw[hs,hs2]) (by rw[hs2];rfl)));obtain⟨i,j,c,e,⟨q1,q2,q3,q4,q5,q6⟩,q⟩:=q1;subst e;cases r1 with
 |cons r rr=>
  cases rr with
  |cons r' rr=>
   cases rr with
   |cons r'' rr=>
    cases rr;obtain⟨t,rfl⟩:=r;obtain⟨t',rfl⟩:=r';obtain⟨t'',rfl⟩:=r'';exact call_range_3 (by lia) (qthz I1 (qtgz q1 q2 q3 q4 q5 q6) q5 q) (.inl (PyProof.noPylong_small (by lia)))
end
section
variable {X:Cx}
theorem qtjz:PGet X (rIxL X.K):=by
 intro pins s σ H x y v u Q I rx ry h;obtain⟨p,xs,i,z,rfl,rfl,hq,he,q⟩:=h;cases rx;obtain⟨t,rfl⟩:=ry;obtain⟨its,r,pl,hz⟩:=I.list hq;obtain⟨j,h1,h2,h3,h4,h5⟩:=qdkz he;obtain⟨w,ew,rw'⟩:=r.get h2;have hl:=r.length;have hn:=line63;have fin:EP X pins σ Q w s:=⟨z,H,I,rw',q⟩;by_cases h0:0≤i
 ·have hj:i.toNat=j:=by
   rw[seqIndex_of h0 h5] at h1;exact Option.some.inj h1
  exact wpAny_getItem_list pl.isList h0 (by lia) (by rw[hj];simpa using ew) fin
 ·have hj:(i+(its.toArray.size:Int)).toNat=j:=by
   rw[seqIndex_neg (by lia) h4] at h1;rw[List.size_toArray,←hl];exact Option.some.inj h1
  exact wpAny_getItem_list_neg pl.isList (by lia) (by rw[List.size_toArray]<;>lia) (by lia) (by rw[hj];simpa using ew) fin
end
end L2
namespace L3
open PySem PySem.Spec PyProof.Rows L2
section
variable {X:Cx} {tg:Expr} {p pos:Pos}
def rngC(lo c:Int)(n:Nat):List D:=(List.range n).map fun i:Nat=>.int (lo+(i:Int)*c)
theorem qtkz{lo c:Int}{n i:Nat}{d:D}(h:(rngC lo c n)[i]?=some d):i<n/\d=.int (lo+(i:Int)*c):=by
 unfold rngC at h;rw[List.getElem?_map] at h;by_cases hi:i<n
 ·rw[List.getElem?_range hi] at h;simp at h;exact⟨hi,h.symm⟩
 ·rw[List.getElem?_eq_none_iff.mpr (by simpa using hi)] at h;cases h
theorem qtlz(lo c:Int)(n:Nat):(rngC lo c n).length=n:=by simp[rngC]
theorem qtmz{K:PySem.W.Frag}{H:Hp}(lo c:Int)(n:Nat):SrcOk K H (Itr3 lo c n) ⟨rngC lo c n,fun _=>True⟩:=⟨by
 intro i d H' G' _ RG _ hi;obtain⟨h1,h2⟩:=qtkz hi;refine⟨h1,fun x H'' hy=>?_⟩;obtain⟨rfl,rfl⟩:=hy;exact⟨by rw[h2];simp[Hv],.refl _ _,RG⟩,by
 intro i H' G' _ RG _ hi;rw[qtlz] at hi;exact hi⟩
def iRng3(ta:TA3):TI3:=fun τ G R=>ta τ G fun ds G1=>match ds with
 |[.int i,.int j,.int c]=>(-(2^61)≤i/\i<2^61/\-(2^61)≤j/\j<2^61/\0<c/\c<2^30)/\R ⟨rngC i c (cntR i j c),fun _=>True⟩ G1
 |_=>False
theorem qtnz{a b d:Expr}{ta:TA3}(hm:X.mg "range" = none)(ha:PA3 X [a,b,d] ta)(hg:Gl X "range":=by rfl)(hs:notStar a=true:=by rfl)(hs2:notStar b=true:=by rfl)(hs3:notStar d=true:=by rfl):
  PI3 X tg (.Call (.Name "range" p) [a,b,d] [] pos) (iRng3 ta):=
 qdqz (qtiz hg hm ha (by rw[qmz hs,qmz hs2,qmz hs3];rfl) (by rw[qmz hs2,qmz hs3];rfl)) fun σ H R ⟨τ,G,R3,RS,RG,h,k⟩=>⟨τ,G,_,RS,RG,h,fun vs H1 ds G1 h1 S1 R1 q1=>by
  rcases ds with _|⟨d,_|⟨d2,_|⟨d3,_|⟨d4,ds⟩⟩⟩⟩
  ·exact q1.elim
  ·cases d<;>exact q1.elim
  ·cases d<;>(try exact q1.elim)<;>cases d2<;>exact q1.elim
  ·cases d with
   |int i=>
    cases d2 with
    |int j=>
     cases d3 with
     |int c=>
      obtain⟨v,r,rfl,z1,z2⟩:=h1.inv;obtain⟨v2,r2,rfl,z3,z4⟩:=z2.inv;obtain⟨v3,r3,rfl,z5,z6⟩:=z4.inv;cases z6.inv0;unfold Hv at z1 z3 z5;exact⟨i,j,c,by rw[z1,z3,z5],q1.1,k _ _ _ _ (qtmz i c _) S1 R1 q1.2⟩
     |_=>exact q1.elim
    |_=>cases d3<;>exact q1.elim
   |_=>cases d2<;>(try exact q1.elim)<;>cases d3<;>exact q1.elim
  ·cases d<;>(try exact q1.elim)<;>cases d2<;>(try exact q1.elim)<;>cases d3<;>exact q1.elim⟩
abbrev rIAdd3:R3:=rI3 fun i j=>.int (i+j)
theorem qtoz{K:PySem.W.Frag}:LowR K rIAdd3 (ipI fun i j=>i+j):=low_ints fun _ _ _=>q1z
theorem qtpz{o i e:Expr}{to ti te:TE3}{tpos:Pos}(ho:PE3 X o to)(hi:PE3 X i ti)(he:PE3 X e te)
  (ha:∀ov iv new,augStore i ov iv new=(do holding [new,ov,iv] (setItem ov iv new);release [new,ov,iv] [];pure .next):=by intros;rfl):
  PS3 X (.AugAssign (.Subscript o i tpos) .Add e pos) (sAugS to ti te (· + ·)):=
 qakz (qnhz ho hi qtjz he qhhz set_list ha) fun D σ H ⟨τ,G,D3,RS,RG,h,k⟩=>by
  refine⟨τ,G,_,RS,RG,h,fun v1 H1 d1 G1 h1 S1 R1 q1=>⟨τ,G1,_,RS.ext (S1.ext RG),R1,q1,fun v2 H2 d2 G2 h2 S2 R2 q2=>?_⟩⟩;cases d1 with
  |obj p=>
   cases d2 with
   |int j=>
    obtain⟨ds,x,e1,e2,q⟩:=q2;obtain⟨vs,z1,z2⟩:=R2 p _ e1;obtain⟨v,z3,z4⟩:=qcoz z2 e2;have hv1:v1=.ref p:=qwz h1;have hv2:v2=.int j:=qsz h2;refine⟨p,vs,j,v,hv1,hv2,.of z1,z3,⟨τ,G2,_,(RS.ext (S1.ext RG)).ext (S2.ext R1),R2,q,fun v5 H5 d5 G5 h5 S5 R5 q5=>?_⟩⟩;cases d5 with
    |int y=>
     have hx:v=.int x:=qsz z4;have hy:v5=.int y:=qsz h5;refine⟨x,y,hx,hy,?_⟩;exact qifz (((h1.ext (S2.ext R1)).ext (S5.ext R2))) ((h2.ext (S5.ext R2))) q1z R5 q5 fun H' G' y1 y2 y3=>k.nx _ _ G' H' ((((RS.ext (S1.ext RG)).ext (S2.ext R1)).ext (S5.ext R2)).ext (y1.ext R5)) (((S1.trans S2).trans S5).trans y1) y2 y3
    |_=>exact q5.elim
   |_=>exact q2.elim
  |_=>cases d2<;>exact q2.elim
end
end L3
namespace L3
open PySem PySem.Spec PyProof.Rows L2
structure QE(X:Cx)(e:Expr)(t:TE3):Prop where
 of:PE3 X e t
structure QT(X:Cx)(e:Expr)(t:TT3):Prop where
 of:PT3 X e t
structure QW(X:Cx)(e:Expr)(t:TT3):Prop where
 of:PW3 X e t
structure QA(X:Cx)(es:List Expr)(t:TA3):Prop where
 of:PA3 X es t
structure QS(X:Cx)(st:Stmt)(t:TS3):Prop where
 of:PS3 X st t
structure QSs(X:Cx)(st:List Stmt)(t:TS3):Prop where
 of:PSs3 X st t
structure QG(X:Cx)(tg:Expr)(t:TG3):Prop where
 of:PG3 X tg t
structure QGs(X:Cx)(tgs:List Expr)(t:TGs3):Prop where
 of:PGs3 X tgs t
structure QI(X:Cx)(tg iter:Expr)(t:TI3):Prop where
 of:PI3 X tg iter t
structure QO(X:Cx)(e:Option Expr)(t:TO3):Prop where
 of:PO3 X e t
structure QC(X:Cx)(ifs:List Expr)(t:TT3):Prop where
 of:PCt X ifs (lowT X.K t)
section
variable {X:Cx} {a b e c:Expr} {ta tb te:TE3} {tA tB:TT3} {pos:Pos} {es rest:List Expr}
theorem qaz{i:Nat}{x:Str}(h:PE X (.Name x pos) (tVar i)):QE X (.Name x pos) (eVar i):=⟨qo4z (h:=h)⟩
end
section
variable {X:Cx} {a b e c:Expr} {ta tb te:TE3} {tA tB:TT3} {pos:Pos} {es rest:List Expr}
theorem qdz{i:Int}{j}:QE X (.Constant (.int i) j pos) (eC (.int i)):=⟨qo5z ⟩
end
section
variable {X:Cx} {a b e c:Expr} {ta tb te:TE3} {tA tB:TT3} {pos:Pos} {es rest:List Expr}
theorem q3z{i:Bool}{j}:QE X (.Constant (.bool i) j pos) (eC (.bl i)):=⟨e_bl ⟩
end
section
variable {X:Cx} {a b e c:Expr} {ta tb te:TE3} {tA tB:TT3} {pos:Pos} {es rest:List Expr}
theorem qd4z{j}:QE X (.Constant .none j pos) (eC .non):=⟨qo6z ⟩
end
section
variable {X:Cx} {a b e c:Expr} {ta tb te:TE3} {tA tB:TT3} {pos:Pos} {es rest:List Expr}
theorem q4z{x:Str}{j}:QE X (.Constant (.str x) j pos) (eC (.str x)):=⟨qo7z ⟩
end
section
variable {X:Cx} {a b e c:Expr} {ta tb te:TE3} {tA tB:TT3} {pos:Pos} {es rest:List Expr}
theorem qtqz{x:Str}{i:Int}{u:Tok}(hm:X.mg x=some (.int i u))(hg:Gl X x:=by rfl)(hd:(x==("__debug__":Str))=false:=by decide):QE X (.Name x pos) (eC (.int i)):=⟨qo8z (hm:=hm) (hg:=hg) (hd:=hd)⟩
end
section
variable {X:Cx} {a b e c:Expr} {ta tb te:TE3} {tA tB:TT3} {pos:Pos} {es rest:List Expr}
theorem qiz{op:Operator}{r:R3}{r2:R2}(L:LowR X.K r r2)(ho:OpR X (binaryOp op) r2)(ha:QE X a ta)(hb:QE X b tb):QE X (.BinOp a op b pos) (eOp r ta tb):=⟨e_op (L:=L) (ho:=ho) (ha:=ha.of) (hb:=hb.of)⟩
end
section
variable {X:Cx} {a b e c:Expr} {ta tb te:TE3} {tA tB:TT3} {pos:Pos} {es rest:List Expr}
theorem qasz{op:CmpOp}{r:R3}{r2:R2}(L:LowR X.K r r2)(ho:OpR X (compareOp op) r2)(ha:QE X a ta)(hb:QE X b tb)(hm:behindInMarks op b=false):QE X (.Compare a [op] [b] pos) (eOp r ta tb):=⟨qo9z (L:=L) (ho:=ho) (ha:=ha.of) (hb:=hb.of) (hm:=hm)⟩
end
section
variable {X:Cx} {a b e c:Expr} {ta tb te:TE3} {tA tB:TT3} {pos:Pos} {es rest:List Expr}
theorem qnz{op:CmpOp}{r:R3}{r2:R2}(L:LowR X.K r r2)(ho:OpR X (compareOp op) r2)(ha:QE X a ta)(hb:QE X b tb)(hm:behindInMarks op b=false):QT X (.Compare a [op] [b] pos) (eTest (eOp r ta tb)):=⟨qpaz (L:=L) (ho:=ho) (ha:=ha.of) (hb:=hb.of) (hm:=hm)⟩
end
section
variable {X:Cx} {a b e c:Expr} {ta tb te:TE3} {tA tB:TT3} {pos:Pos} {es rest:List Expr}
theorem q5z(h:QE X a ta)(he:∀whole,isTrue a X.env whole=(do let v ←whole;standAt a.pos;holding [v] (truthy v)):=by intro _;rfl):QT X a (eTest ta):=⟨qpbz (h:=h.of) (he:=he)⟩
end
section
variable {X:Cx} {a b e c:Expr} {ta tb te:TE3} {tA tB:TT3} {pos:Pos} {es rest:List Expr}
theorem qd5z(ha:QT X a tA):QW X (.BoolOp .And [a] pos) tA:=⟨qpez (ha:=ha.of)⟩
end
section
variable {X:Cx} {a b e c:Expr} {ta tb te:TE3} {tA tB:TT3} {pos:Pos} {es rest:List Expr}
theorem qbaz(ha:QT X a tA):QW X (.BoolOp .Or [a] pos) tA:=⟨qpfz (ha:=ha.of)⟩
end
section
variable {X:Cx} {a b e c:Expr} {ta tb te:TE3} {tA tB:TT3} {pos:Pos} {es rest:List Expr}
theorem qd6z(ha:QT X a tA)(hb:QW X (.BoolOp .And (b::rest) pos) tB):QW X (.BoolOp .And (a::b::rest) pos) (eAnd tA tB):=⟨qpgz (ha:=ha.of) (hb:=hb.of)⟩
end
section
variable {X:Cx} {a b e c:Expr} {ta tb te:TE3} {tA tB:TT3} {pos:Pos} {es rest:List Expr}
theorem qaiz(ha:QT X a tA)(hb:QW X (.BoolOp .Or (b::rest) pos) tB):QW X (.BoolOp .Or (a::b::rest) pos) (eOr tA tB):=⟨qphz (ha:=ha.of) (hb:=hb.of)⟩
end
section
variable {X:Cx} {a b e c:Expr} {ta tb te:TE3} {tA tB:TT3} {pos:Pos} {es rest:List Expr}
theorem qamz(h:QW X a tA):QT X a tA:=⟨tt_w (h:=h.of)⟩
end
section
variable {X:Cx} {a b e c:Expr} {ta tb te:TE3} {tA tB:TT3} {pos:Pos} {es rest:List Expr}
theorem q6z(ha:QT X a tA):QT X (.UnaryOp .Not a pos) (eNot tA):=⟨qpiz (ha:=ha.of)⟩
end
section
variable {X:Cx} {a b e c:Expr} {ta tb te:TE3} {tA tB:TT3} {pos:Pos} {es rest:List Expr}
theorem qbbz{op}(h:QE X a ta):QE X (.BoolOp op [a] pos) ta:=⟨qpjz (h:=h.of)⟩
end
section
variable {X:Cx} {a b e c:Expr} {ta tb te:TE3} {tA tB:TT3} {pos:Pos} {es rest:List Expr}
theorem qawz(ha:QE X a ta)(hb:QE X (.BoolOp .And (b::rest) pos) tb):QE X (.BoolOp .And (a::b::rest) pos) (eAndV ta tb):=⟨qpkz (ha:=ha.of) (hb:=hb.of)⟩
end
section
variable {X:Cx} {a b e c:Expr} {ta tb te:TE3} {tA tB:TT3} {pos:Pos} {es rest:List Expr}
theorem qjqz(ha:QE X a ta):QE X (.UnaryOp .Not a pos) (eNotV ta):=⟨qplz (ha:=ha.of)⟩
end
section
variable {X:Cx} {a b e c:Expr} {ta tb te:TE3} {tA tB:TT3} {pos:Pos} {es rest:List Expr}
theorem qcz  : QA X [] aNil:=⟨qpmz ⟩
end
section
variable {X:Cx} {a b e c:Expr} {ta tb te:TE3} {tA tB:TT3} {pos:Pos} {es rest:List Expr}
theorem qbz{tr:TA3}(ha:QE X a ta)(hr:QA X es tr)(hs:notStar a=true:=by rfl):QA X (a::es) (aCons ta tr):=⟨qpnz (ha:=ha.of) (hr:=hr.of) (hs:=hs)⟩
end
section
variable {X:Cx} {a b e c:Expr} {ta tb te:TE3} {tA tB:TT3} {pos:Pos} {es rest:List Expr}
theorem qxz{t:TA3}{x1}(h:QA X es t):QE X (.Tuple es x1 pos) (eTup t):=⟨qpoz (h:=h.of)⟩
end
section
variable {X:Cx} {a b e c:Expr} {ta tb te:TE3} {tA tB:TT3} {pos:Pos} {es rest:List Expr}
theorem qanz{t:TA3}(h:QA X es t):QE X (.List es pos) (eLst t):=⟨qppz (h:=h.of)⟩
end
section
variable {X:Cx} {st:Stmt} {rest:List Stmt} {t u:TS3} {e c:Expr} {te:TE3} {tc:TT3} {pos:Pos}
theorem qpz  : QSs X [] sNext:=⟨qpwz ⟩
end
section
variable {X:Cx} {st:Stmt} {rest:List Stmt} {t u:TS3} {e c:Expr} {te:TE3} {tc:TT3} {pos:Pos}
theorem qgz(h1:QS X st t)(h2:QSs X rest u):QSs X (st::rest) (sSeq t u):=⟨qpxz (h1:=h1.of) (h2:=h2.of)⟩
end
section
variable {X:Cx} {st:Stmt} {rest:List Stmt} {t u:TS3} {e c:Expr} {te:TE3} {tc:TT3} {pos:Pos}
theorem qez(h1:QS X st t):QSs X [st] t:=⟨qpyz (h1:=h1.of)⟩
end
section
variable {X:Cx} {st:Stmt} {rest:List Stmt} {t u:TS3} {e c:Expr} {te:TE3} {tc:TT3} {pos:Pos}
theorem qfoz(he:QE X e te)(hs:swapsWith e none pos.line X.env=pure false:=by rfl):QS X (.Expr e pos) (sDrop te):=⟨qpzz (he:=he.of) (hs:=hs)⟩
end
section
variable {X:Cx} {st:Stmt} {rest:List Stmt} {t u:TS3} {e c:Expr} {te:TE3} {tc:TT3} {pos:Pos}
theorem qfz(he:QE X e te):QS X (.Return (some e) pos) (sRet te):=⟨qp0z (he:=he.of)⟩
end
section
variable {X:Cx} {st:Stmt} {rest:List Stmt} {t u:TS3} {e c:Expr} {te:TE3} {tc:TT3} {pos:Pos}
theorem qqz{a b:List Stmt}(hc:QT X c tc)(ha:QSs X a t)(hb:QSs X b u):QS X (.If c a b pos) (sIf tc t u):=⟨s_if (hc:=hc.of) (ha:=ha.of) (hb:=hb.of)⟩
end
section
variable {X:Cx} {pos:Pos} {e:Expr} {es:List Expr}
theorem qrz{i:Nat}{x:Str}(hN:X.N.Nodup)(hi:X.N[i]?=some x:=by rfl)(hx:Loc X.env.scope x:=by first|exact Or.inl rfl|exact Or.inr rfl)(hf:X.fn x=true∨X.env.scope.names.lookup x=some .local:=by first|exact .inl rfl|exact .inr rfl|assumption):QG X (.Name x pos) (hName i):=⟨qp1z (hN:=hN) (hi:=hi) (hx:=hx) (hf:=hf)⟩
end
section
variable {X:Cx} {pos:Pos} {e:Expr} {es:List Expr}
theorem qccz  : QGs X [] hNil:=⟨qp2z ⟩
end
section
variable {X:Cx} {pos:Pos} {e:Expr} {es:List Expr}
theorem qaoz{t:TG3}{u:TGs3}(h1:QG X e t)(h2:QGs X es u)(hs:(assignEach (e::es) X.env).map (·.2)=assign e X.env::(assignEach es X.env).map (·.2):=by rfl):QGs X (e::es) (hCons t u):=⟨qp3z (h1:=h1.of) (h2:=h2.of) (hs:=hs)⟩
end
section
variable {X:Cx} {pos:Pos} {e:Expr} {es:List Expr}
theorem qcrz{k:Nat}{t:TGs3}{n:Nat}(hc:X.calm=true)(h:QGs X es t)(hn:(assignEach es X.env).length=n:=by rfl)(hst:(assignEach es X.env).findIdx? (·.1)=none:=by rfl):QG X (.Tuple es k pos) (hTup n t):=⟨qp4z (hc:=hc) (h:=h.of) (hn:=hn) (hst:=hst)⟩
end
section
variable {X:Cx} {pos:Pos} {e:Expr} {es:List Expr}
theorem qfpz{tg:Expr}{te:TE3}{g:TG3}(he:QE X e te)(hg:QG X tg g)(hs:swapsWithSole [tg] e pos.line X.env=pure false:=by rfl)(hw:swappedStores [tg] e X.env=pure none:=by rfl)(h1:(assignEach [tg] X.env).map (·.2)=[assign tg X.env]:=by rfl):QS X (.Assign [tg] e pos) (sAsg te g):=⟨qp5z (he:=he.of) (hg:=hg.of) (hs:=hs) (hw:=hw) (h1:=h1)⟩
end
section
variable {X:Cx} {pos:Pos} {e:Expr} {es:List Expr}
theorem qoz{i:Nat}{x:Str}{te:TE3}{pos':Pos}(hN:X.N.Nodup)(he:QE X e te)(hi:X.N[i]?=some x:=by rfl)(hx:Loc X.env.scope x:=by first|exact Or.inl rfl|exact Or.inr rfl)(hs:swapsWith e (some (.Name x pos')) pos.line X.env=pure false:=by rfl)(hf:X.fn x=true∨X.env.scope.names.lookup x=some .local:=by first|exact .inl rfl|exact .inr rfl|assumption):QS X (.Assign [.Name x pos'] e pos) (sAsg te (hName i)):=⟨qp6z (hN:=hN) (he:=he.of) (hi:=hi) (hx:=hx) (hs:=hs) (hf:=hf)⟩
end
section
variable {X:Cx} {pos:Pos} {e:Expr} {es:List Expr}
theorem qtrz{i:Nat}{x:Str}{te:TE3}{op:Operator}{r:R3}{r2:TIp}{pos':Pos}(L:LowR X.K r r2)(hN:X.N.Nodup)(he:QE X e te)(ho:PIp X op r2)(hi:X.N[i]?=some x:=by rfl)(hx:Loc X.env.scope x:=by first|exact Or.inl rfl|exact Or.inr rfl)(hf:X.fn x=true∨X.env.scope.names.lookup x=some .local:=by first|exact .inl rfl|exact .inr rfl|assumption):QS X (.AugAssign (.Name x pos') op e pos) (sAug i te r):=⟨qp7z (L:=L) (hN:=hN) (he:=he.of) (ho:=ho) (hi:=hi) (hx:=hx) (hf:=hf)⟩
end
section
variable {X:Cx} {pos:Pos} {e:Expr} {es:List Expr}
theorem qjrz{o i:Expr}{to ti:TE3}(ho:QE X o to)(hi:QE X i ti) (ha:∀v,assign (.Subscript o i pos) X.env v=(do
   let ov ←holding [v] (eval o X.env)
   let iv ←holding [v,ov] (eval i X.env)
   standAt pos
   holding [v,ov,iv] (setItem ov iv v)
   release [v,ov,iv] []):=by intro _;rfl):QG X (.Subscript o i pos) (hSub to ti):=⟨qp8z (ho:=ho.of) (hi:=hi.of) (ha:=ha)⟩
end
section
variable {X:Cx} {pos:Pos} {e:Expr} {es:List Expr}
theorem qd7z{c:Expr}{body:List Stmt}{tc:TT3}{tb:TS3}(hp:PassesOwn (model X.prog X.w) X.A X.env X.xe)(hc:QT X c tc)(hb:QSs X body tb):QS X (.While c body [] pos) (sWhile tc tb):=⟨qp9z (hp:=hp) (hc:=hc.of) (hb:=hb.of)⟩
end
section
variable {X:Cx} {k:Nat} {f:Addr} {fd:FuncData} {ps:List Str} {sp:Sp3} {x:Str} {p pos:Pos} {e:Expr} {es:List Expr} {t:TA3}
theorem qjz(F:FnOk3 X.prog X.w X.K X.mg X.base k f fd ps sp)(hr:Room k X.A)(hm:X.mg x=some (.ref f))(hk:PySem.W.keepIn X.K (.ref f)=true)(hb:Binds X.K fd ps [])(ha:QA X (e::es) t)(hg:Gl X x:=by rfl)(hdb:(x==("__debug__":Str))=false:=by decide)(he:notStar e=true:=by rfl)(hpl:es.all notStar=true:=by rfl):QE X (.Call (.Name x p) (e::es) [] pos) (eCall sp t):=⟨qqaz (F:=F) (hr:=hr) (hm:=hm) (hk:=hk) (hb:=hb) (ha:=ha.of) (hg:=hg) (hdb:=hdb) (he:=he) (hpl:=hpl)⟩
end
section
variable {X:Cx} {tg iter:Expr} {pos p:Pos}
theorem qbtz{l:Expr}{te:TE3}(hl:QE X l te):QI X tg l (iSeq te):=⟨qqbz (hl:=hl.of)⟩
end
section
variable {X:Cx} {tg iter:Expr} {pos p:Pos}
theorem qbuz{a:Expr}{ta:TA3}(hm:X.mg "range" = none)(ha:QA X [a] ta)(hg:Gl X "range":=by rfl)(hs:notStar a=true:=by rfl):QI X tg (.Call (.Name "range" p) [a] [] pos) (iRng1 ta):=⟨qqdz (hm:=hm) (ha:=ha.of) (hg:=hg) (hs:=hs)⟩
end
section
variable {X:Cx} {tg iter:Expr} {pos p:Pos}
theorem qaxz{body:List Stmt}{ti:TI3}{g:TG3}{tb:TS3}(hp:PassesOwn (model X.prog X.w) X.A X.env X.xe)(hc:X.calm=true)(hi:QI X tg iter ti)(hg:QG X tg g)(hb:QSs X body tb)(hs:∀x,foldedSetIterable iter X.env x=pure x:=by intro _;rfl):QS X (.For tg iter body [] pos) (sFor ti g tb):=⟨qqez (hp:=hp) (hc:=hc) (hi:=hi.of) (hg:=hg.of) (hb:=hb.of) (hs:=hs)⟩
end
section
variable {X:Cx} {tg iter:Expr} {pos p:Pos}
theorem qcdz  : QC X [] (tNoTest3):=⟨qqfz ⟩
end
section
variable {X:Cx} {tg iter:Expr} {pos p:Pos}
theorem qjsz{c:Expr}{t:TT3}(h:QT X c t):QC X [c] (t):=⟨qqgz (h:=h.of)⟩
end
section
variable {X:Cx} {K:PySem.W.Frag}
theorem qkz{a b:Expr}{ta tb:TE3}{pos:Pos}(ha:QE X a ta)(hb:QE X b tb)(hs:PlainIx b:=by intro _ _;rfl):QE X (.Subscript a b pos) (eOp rIx3 ta tb):=⟨e_ix (ha:=ha.of) (hb:=hb.of) (hs:=hs)⟩
end
section
variable {X:Cx} {K:PySem.W.Frag}
theorem qfqz{es:List Expr}{b:Expr}{ta:TA3}{tb:TE3}{pos pos':Pos}(ha:QA X es ta)(hb:QE X b tb)(hs:PlainIx b:=by intro _ _;rfl):QE X (.Subscript (.List es pos') b pos) (eLstIx ta tb):=⟨qqpz (ha:=ha.of) (hb:=hb.of) (hs:=hs)⟩
end
section
variable {X:Cx} {a b e:Expr} {ta tb:TE3} {pos:Pos}
theorem qd8z  : QO X none oNone:=⟨qqqz ⟩
end
section
variable {X:Cx} {a b e:Expr} {ta tb:TE3} {pos:Pos}
theorem qcez(h:QE X e ta):QO X (some e) (oSome ta):=⟨qqrz (h:=h.of)⟩
end
section
variable {X:Cx} {a b e:Expr} {ta tb:TE3} {pos:Pos}
theorem qcsz{lo hi:Option Expr}{tl th:TO3}{p2:Pos}(ha:QE X a ta)(hl:QO X lo tl)(hh:QO X hi th):QE X (.Subscript a (.Slice lo hi none p2) pos) (eSl ta tl th):=⟨e_sl (ha:=ha.of) (hl:=hl.of) (hh:=hh.of)⟩
end
section
variable {X:Cx} {K:PySem.W.Frag} {e:Expr} {es:List Expr} {t:TA3} {ta:TE3} {pos p:Pos}
theorem q9z(hu:X.A.units+64<cLine)(hm:X.mg "len" = none)(ha:QA X (e::es) t)(hg:Gl X "len":=by rfl)(he:notStar e=true:=by rfl)(hpl:es.all notStar=true:=by rfl):QE X (.Call (.Name "len" p) (e::es) [] pos) (eCB q0z t):=⟨qqvz (hu:=hu) (hm:=hm) (ha:=ha.of) (hg:=hg) (he:=he) (hpl:=hpl)⟩
end
section
variable {X:Cx} {K:PySem.W.Frag} {e:Expr} {es:List Expr} {t:TA3} {ta:TE3} {pos p:Pos}
theorem qtsz(hu:X.A.units+64<cLine)(hm:X.mg "int" = none)(ha:QA X (e::es) t)(hg:Gl X "int":=by rfl)(he:notStar e=true:=by rfl)(hpl:es.all notStar=true:=by rfl):QE X (.Call (.Name "int" p) (e::es) [] pos) (eCB qduz t):=⟨qqxz (hu:=hu) (hm:=hm) (ha:=ha.of) (hg:=hg) (he:=he) (hpl:=hpl)⟩
end
section
variable {X:Cx} {K:PySem.W.Frag} {e:Expr} {es:List Expr} {t:TA3} {ta:TE3} {pos p:Pos}
theorem qttz(hu:X.A.units+64<cLine)(hm:X.mg "max" = none)(ha:QA X (e::es) t)(hc:X.calm=true:=by rfl)(hg:Gl X "max":=by rfl)(he:notStar e=true:=by rfl)(hpl:es.all notStar=true:=by rfl):QE X (.Call (.Name "max" p) (e::es) [] pos) (eCB qe7z t):=⟨qqzz (hu:=hu) (hm:=hm) (ha:=ha.of) (hc:=hc) (hg:=hg) (he:=he) (hpl:=hpl)⟩
end
section
variable {X:Cx} {K:PySem.W.Frag} {e:Expr} {es:List Expr} {t:TA3} {ta:TE3} {pos p:Pos}
theorem qfrz(hu:X.A.units+64<cLine)(hm:X.mg "tuple" = none)(ha:QA X (e::es) t)(hg:Gl X "tuple":=by rfl)(he:notStar e=true:=by rfl)(hpl:es.all notStar=true:=by rfl):QE X (.Call (.Name "tuple" p) (e::es) [] pos) (eCB qcaz t):=⟨qq1z (hu:=hu) (hm:=hm) (ha:=ha.of) (hg:=hg) (he:=he) (hpl:=hpl)⟩
end
section
variable {X:Cx} {a e:Expr} {es:List Expr} {ta:TE3} {t:TA3} {pos p p2:Pos}
theorem qa4z{T:String}{TS:Str}(k:Kit T)(hv:bootBuiltins TS=some (.type T))(ha:QE X a ta)(hm:X.mg "isinstance" = none)(hm2:X.mg TS=none)(hgT:Gl X TS)(hnT:TS≠"__name__")(hdT:(TS==("__debug__":Str))=false)(hg:Gl X "isinstance":=by rfl)(he:notStar a=true:=by rfl):QE X (.Call (.Name "isinstance" p) [a,.Name TS p2] [] pos) (eInst T ta):=⟨qsfz (k:=k) (hv:=hv) (ha:=ha.of) (hm:=hm) (hm2:=hm2) (hgT:=hgT) (hnT:=hnT) (hdT:=hdT) (hg:=hg) (he:=he)⟩
end
section
variable {X:Cx} {K:PySem.W.Frag} {e:Expr} {es:List Expr} {t:TA3} {ta:TE3} {pos p p' pos':Pos}
theorem qtuz(hu:X.A.units+64<cLine)(hm:X.mg "sorted" = none)(ha:QA X (e::es) t)(hc:X.calm=true:=by rfl)(hg:Gl X "sorted":=by rfl)(he:notStar e=true:=by rfl)(hpl:es.all notStar=true:=by rfl):QE X (.Call (.Name "sorted" p) (e::es) [] pos) (eCB qd0z t):=⟨qsmz (hu:=hu) (hm:=hm) (ha:=ha.of) (hc:=hc) (hg:=hg) (he:=he) (hpl:=hpl)⟩
end
section
variable {X:Cx} {K:PySem.W.Frag} {e:Expr} {es:List Expr} {t:TA3} {ta:TE3} {pos p p' pos':Pos}
theorem qtvz(hu:X.A.units+64<cLine)(ha:QE X e ta)(hm:X.mg "sorted" = none)(hm2:X.mg "set" = none)(hc:X.calm=true:=by rfl)(hg:Gl X "sorted":=by rfl)(hg2:Gl X "set":=by rfl)(he2:notStar e=true:=by rfl):QE X (.Call (.Name "sorted" p) [.Call (.Name "set" p') [e] [] pos'] [] pos) (eSortSet ta):=⟨qsnz (hu:=hu) (ha:=ha.of) (hm:=hm) (hm2:=hm2) (hc:=hc) (hg:=hg) (hg2:=hg2) (he2:=he2)⟩
end
section
variable {X:Cx} {K:PySem.W.Frag} {e:Expr} {es:List Expr} {t:TA3} {ta:TE3} {pos p p' pos':Pos}
theorem qtwz(hu:X.A.units+64<cLine)(hm:X.mg "all" = none)(ha:QA X (e::es) t)(hc:X.calm=true:=by rfl)(hg:Gl X "all":=by rfl)(he:notStar e=true:=by rfl)(hpl:es.all notStar=true:=by rfl):QE X (.Call (.Name "all" p) (e::es) [] pos) (eCB qd2z t):=⟨qsrz (hu:=hu) (hm:=hm) (ha:=ha.of) (hc:=hc) (hg:=hg) (he:=he) (hpl:=hpl)⟩
end
section
variable {X:Cx} {a b c:Expr} {ta:TE3} {tb:TA3} {p pos pos':Pos}
theorem qtxz(ha:QE X a ta)(hm:X.mg "range" = none)(hb:QA X [b] tb)(hg:Gl X "range":=by rfl)(hs:notStar b=true:=by rfl):QT X (.Compare a [.NotIn] [.Call (.Name "range" p) [b] [] pos'] pos) (eTest (eInRng1 true ta tb)):=⟨qsyz (ha:=ha.of) (hm:=hm) (hb:=hb.of) (hg:=hg) (hs:=hs)⟩
end
section
variable {X:Cx} {es:List Expr} {n0:Nat} {ps p pos:Pos}
theorem qtyz{a b:Expr}{ta:TA3}(hm:X.mg "zip" = none)(ha:QA X [a,b] ta)(hg:Gl X "zip":=by rfl)(hs:notStar a=true:=by rfl)(hs2:notStar b=true:=by rfl):QI X (.Tuple es n0 ps) (.Call (.Name "zip" p) [a,b] [] pos) (iZip ta):=⟨qs4z (hm:=hm) (ha:=ha.of) (hg:=hg) (hs:=hs) (hs2:=hs2)⟩
end
section
variable {X:Cx} {es:List Expr} {n0:Nat} {ps p pos:Pos}
theorem qtzz{a:Expr}{ta:TA3}(hm:X.mg "enumerate" = none)(ha:QA X [a] ta)(hg:Gl X "enumerate":=by rfl)(hs:notStar a=true:=by rfl):QI X (.Tuple es n0 ps) (.Call (.Name "enumerate" p) [a] [] pos) (iEnum ta):=⟨qtbz (hm:=hm) (ha:=ha.of) (hg:=hg) (hs:=hs)⟩
end
section
variable {X:Cx} {tg:Expr} {p pos:Pos}
theorem qjtz{a b d:Expr}{ta:TA3}(hm:X.mg "range" = none)(ha:QA X [a,b,d] ta)(hg:Gl X "range":=by rfl)(hs:notStar a=true:=by rfl)(hs2:notStar b=true:=by rfl)(hs3:notStar d=true:=by rfl):QI X tg (.Call (.Name "range" p) [a,b,d] [] pos) (iRng3 ta):=⟨qtnz (hm:=hm) (ha:=ha.of) (hg:=hg) (hs:=hs) (hs2:=hs2) (hs3:=hs3)⟩
end
section
variable {X:Cx} {tg:Expr} {p pos:Pos}
theorem qt0z{o i e:Expr}{to ti te:TE3}{tpos:Pos}(ho:QE X o to)(hi:QE X i ti)(he:QE X e te)(ha:∀ov iv new,augStore i ov iv new=(do holding [new,ov,iv] (setItem ov iv new);release [new,ov,iv] [];pure .next):=by intros;rfl):QS X (.AugAssign (.Subscript o i tpos) .Add e pos) (sAugS to ti te (· + ·)):=⟨qtpz (ho:=ho.of) (hi:=hi.of) (he:=he.of) (ha:=ha)⟩
end
section
variable {X:Cx} {a b c e o:Expr} {es:List Expr} {ta tb tc te to:TE3} {t:TA3} {pos apos cpos p:Pos}
theorem qt1z{op op':CmpOp}{r r':R3}{r2 r2':R2}(L:LowR X.K r r2)(L':LowR X.K r' r2')(ho:OpR X (compareOp op) r2)(ho':OpR X (compareOp op') r2')(ha:QE X a ta)(hb:QE X b tb)(hc:QE X c tc)(hm:lastMarks [op,op'] [b,c]=false:=by with_unfolding_all rfl):
  QE X (.Compare a [op,op'] [b,c] pos) (eChain r r' ta tb tc):=⟨qpdz (op:=op) (op':=op') L L' (qnuz ho ho' ha.of hb.of hc.of hm)⟩
theorem qd9z{name:Str}{id:String}{r:D->List D->Gp->V3->Prop}{r2:V->List V->Hp->VK->Prop}(L:LowM X.K r r2)(slot:Slot "list" name id)(hty:typeOf (.builtin id)=pure (.type "method_descriptor"))(hm:MtR X id r2)(ho:QE X o to)(ha:QA X (e::es) t)
  (hbase:attributeBase o name X.env (eval o X.env)=eval o X.env:=by rfl)
  (hfew:((backTo cpos (starEach (e::es) X.env)).all (fun x=>!x.1)&&(backToKw cpos (keywordEach [] X.env)).all (fun x=>x.1.isSome)
   && decide ((e::es).length+([]:List Keyword).length+(if ([]:List Keyword).isEmpty then 0 else 1)<30))=true:=by rfl)
  (hline:(apos.endLine==cpos.line)=true:=by rfl) (he:notStar e=true:=by rfl) (hpl:es.all notStar=true:=by rfl):
  QE X (.Call (.Attribute o name apos) (e::es) [] cpos) (eM r to t):=⟨qq4z L (qotz PySem.F.plainAttrs_list slot hty hm ho.of ha.of hbase hfew hline (qmz he) (qyz hpl))⟩
theorem qt2z{i j:Nat}{x y:Str}{px py pt:Pos}{kt k2 pt2}(hc:X.calm=true)(hN:X.N.Nodup)(hi:X.N[i]?=some x)(hj:X.N[j]?=some y)(hij:i≠j)(hx:X.env.scope.names.lookup x=some .local)(hy:X.env.scope.names.lookup y=some .local)(ha:QA X [a,b] t)
  (hw:swappedStores [.Tuple [.Name x px,.Name y py] kt pt] (.Tuple [a,b] k2 pt2) X.env=pure (some [x,y])) (hs:swapsWithSole [.Tuple [.Name x px,.Name y py] kt pt] (.Tuple [a,b] k2 pt2) pos.line X.env=pure false:=by rfl):
  QS X (.Assign [.Tuple [.Name x px,.Name y py] kt pt] (.Tuple [a,b] k2 pt2) pos) (sPar i j t):=⟨qiez (qnfz hc hN hi hj hij hx hy ha.of hw hs)⟩
end
section
variable {X:Cx} {tg iter elt:Expr} {ifs:List Expr} {scope:Scope} {own:List Str} {js:List Nat} {ti:TI3} {g:TG3} {tc:TT3} {te:TE3} {pos:Pos}
theorem qbvz(hc:X.calm=true)(C:CmpOk X.N X.env.scope scope own js)(hi:QI X tg iter ti)
  (hb:∀s H fp,QG (X.cmp scope own js s H fp) tg g/\QC (X.cmp scope own js s H fp) ifs tc/\QE (X.cmp scope own js s H fp) elt te)
  (hs:∀x,foldedSetIterable iter X.env x=pure x:=by intro _;rfl):QE X (.ListComp elt [⟨tg,iter,ifs,0⟩] scope pos) (eComp own js ti g tc te):=
 ⟨qqhz hc C hi.of (fun s H fp=>⟨(hb s H fp).1.of,(hb s H fp).2.1.of,(hb s H fp).2.2.of⟩) hs⟩
theorem qt3z{i:Nat}{y:Str}{py spos:Pos}(hc:X.calm=true)(hN:X.N.Nodup)(C:CmpOk X.N X.env.scope scope own js)(hi:QI X tg iter ti)
  (hb:∀s H fp,QG (X.cmp scope own js s H fp) tg g/\QC (X.cmp scope own js s H fp) ifs tc/\QE (X.cmp scope own js s H fp) elt te) (hy:X.N[i]?=some y:=by rfl) (hyl:X.env.scope.names.lookup y=some .local:=by rfl)
  (hsw:swapsWith (.ListComp elt [⟨tg,iter,ifs,0⟩] scope pos) (some (.Name y py)) spos.line X.env=pure true:=by rfl)
  (hs:∀x,foldedSetIterable iter X.env x=pure x:=by intro _;rfl):QS X (.Assign [.Name y py] (.ListComp elt [⟨tg,iter,ifs,0⟩] scope pos) spos) (sAsg (eComp own js ti g tc te) (hName i)):=
 ⟨qqiz hc hN C hi.of (fun s H fp=>⟨(hb s H fp).1.of,(hb s H fp).2.1.of,(hb s H fp).2.2.of⟩) hy hyl hsw hs⟩
end
theorem qfn3{P:Program}{w:World}{K:PySem.W.Frag}{mg:Str->Option Value}{base:Heap}{x qual:Str}{st:Stmt}{f:Addr}{fd:FuncData}{N ps:List Str}{k:Nat}{sp:Sp3}(F:Fun K x qual st f fd)(S:FnScope N ps (defScope st))(hN:ps.length≤N.length)(len:∀ds G Q,sp ds G Q->ds.length=ps.length)(tb:TS3)
  (hbody:∀(cdv:Value) (A:Around) (outer:List Env) (s:Shared) (H:Hp) (E:XK),Room k (A.deeper (envOfC qual (defScope st) s.heap.objs.size f cdv)) ->
   QSs (cxOf CX0 P w K mg base N qual (defScope st) f cdv A outer s H E).nox (defBody st) tb)
  (hrd:∀ds G Q,sp ds G Q->tb (endsOf Q) (start3 N ds) G):FnOk3 P w K mg base (k+1) f fd ps sp:=fn3 F S hN len tb (fun cdv A outer s H E hr=>(hbody cdv A outer s H E hr).of) hrd
theorem qeaz{P:Program}{w:World}{K:PySem.W.Frag}{mg:Str->Option Value}{base:Heap}{f:Addr}{fd:FuncData}{ps:List Str}{k:Nat}{sp:Sp3}(h:∀ds G Q,¬sp ds G Q):FnOk3 P w K mg base k f fd ps sp:=
 ⟨fun vs H Q E q=>by obtain⟨ds,G,Q3,_,_,z,_⟩:=q;exact absurd z (h _ _ _),fun A outer s H args us vs Q E _ _ _ _ q=>by obtain⟨ds,G,Q3,_,_,z,_⟩:=q;exact absurd z (h _ _ _)⟩
end L3
namespace L2
open PySem
open Sem (wp)
section
variable {prog:Program} {w:World} {A:Around} {E:Value->Shared->Prop} {h:Heap} {g:Array GenState} {d:Drawn} {t:Nat} {os:OsState}
variable {nm q:Str} {C N:Addr} {bs bm bmB:List Value} {hdct:Bool} {sn:List Str} {sub:List Value} {ab:Bool} {col:Option Bool} {dd:Option Addr} {k0 k1 k2 k3 k5:Option Value} {B newId initId:String}
def excHeap(h:Heap)(C:Addr)(rest:List Value):Heap:=(h.push { cls:=.type "tuple",data:=.seq rest.toArray }).push { cls:=.ref C,data:=.fields #[.ref h.objs.size,.none,.none,.none,.bool false,.none]}
theorem qt4z(F:ExcBaseFacts B newId initId bmB)(T:OwnTail h bmB bm){mN:Str->Option Value}{rest:List Value}{f:Addr}{of:Obj}{Q:Fin->Shared->Prop}
  (hC:h.get? C=some (excClassObj nm q C N bs bm hdct sn sub ab col dd k0 k1 k2 k3 k5 newId)) (hn:h.Ns N mN) (hni:mN "__init__" = some (.ref f)) (hf:h.get? f=some of) (hfc:of.cls=.type "function")
  (hq:codeAny (model prog w) A (.call (.ref f) ⟨.ref (h.objs.size+1)::rest,[]⟩) (fun r s'=>match r with
   |.ok (.ret v)=>v=.none/\Q (.done (.ret (.ref (h.objs.size+1)))) s'
   |.ok _=>False
   | .error e=>E e s') ⟨excHeap h C rest,g,d,t,os⟩) (hrest:rest.length≤sizeLine:=by size_fits):
  wpAny (model prog w) A (Builtin.«type.__call__» ⟨.ref C::rest,[]⟩) Q E ⟨h,g,d,t,os⟩:=by
 repeat (first|with_reducible refine wpAny_loadPart_at hC ?_|with_reducible refine wpAny_madeBy_exc hC ?_|wp_step)
 refine codeAny_call_builtin_code (Code.quiet_builtin _ F.quiet) (wpAny_check_new_subT F T hC ?_);refine codeAny_exc_new_subT F T hC ?_ hrest;show wpAny _ _ _ _ _ _;have hC₁:=Heap.get?_push_of_some { cls:=.ref C,data:=.fields #[.ref h.objs.size,.none,.none,.none,.bool false,.none]}
  (Heap.get?_push_of_some { cls:=.type "tuple",data:=.seq rest.toArray } hC)
 have hf₁:=Heap.get?_push_of_some { cls:=.ref C,data:=.fields #[.ref h.objs.size,.none,.none,.none,.bool false,.none]}
  (Heap.get?_push_of_some { cls:=.type "tuple",data:=.seq rest.toArray } hf)
 have hn₁:((h.push { cls:=.type "tuple",data:=.seq rest.toArray }).push { cls:=.ref C,data:=.fields #[.ref h.objs.size,.none,.none,.none,.bool false,.none]}).Ns N mN:=
  let ⟨o,es,ep,e,r⟩:=hn;⟨o,es,ep,Heap.get?_push_of_some _ (Heap.get?_push_of_some _ e),r⟩
 have hget:((h.push { cls:=.type "tuple",data:=.seq rest.toArray }).push
   { cls:=.ref C,data:=.fields #[.ref h.objs.size,.none,.none,.none,.bool false,.none]}).get? (h.objs.size+1)=some
   { cls:=.ref C,data:=.fields #[.ref h.objs.size,.none,.none,.none,.bool false,.none]}:=by heap_get
 have hcC:(Value.ref C::bm).contains (.ref C)=true:=by simp
 have T₁:=T.keeps (h':=(h.push { cls:=.type "tuple",data:=.seq rest.toArray }).push { cls:=.ref C,data:=.fields #[.ref h.objs.size,.none,.none,.none,.bool false,.none]})
  fun b o e=>Heap.get?_push_of_some _ (Heap.get?_push_of_some _ e)
 unfold isInstance
 repeat (first|with_reducible refine wpAny_loadPart_at hget ?_|(with_reducible refine wpAny_isSubtype_exc hC₁ ?_;rw[hcC])|wp_step)
 show wpAny _ _ (typeLookup (.ref C) _) _ _ _;refine wpAny_typeLookup_tail hC₁ hn₁ T₁ F.mroIs F.init.lookup ?_;rw[hni];refine wpAny_holding (wpAny_bind (wpAny_bindSpecial_def hf₁ hfc ?_));refine wpAny_bind (wpAny_call (codeAny_mono hq fun r s' hr=>?_));cases r with
 |error e=>exact hr
 |ok fl=>
  cases fl with
  |ret v=>
   obtain⟨rfl,hr⟩:=hr;refine wpAny_pure ?_;show wpAny _ _ (ret (Value.ref (h.objs.size+1))) _ _ _;exact wpAny_pure hr
  |next=>exact hr.elim
  |brk=>exact hr.elim
  |cont=>exact hr.elim
theorem qt5z(F:ExcBaseFacts B newId initId bmB)(T:OwnTail h bmB bm){mN:Str->Option Value}{rest:List Value}{f:Addr}{of:Obj}{Q:Value->Shared->Prop}
  (hC:h.get? C=some (excClassObj nm q C N bs bm hdct sn sub ab col dd k0 k1 k2 k3 k5 newId)) (hn:h.Ns N mN) (hni:mN "__init__" = some (.ref f)) (hf:h.get? f=some of) (hfc:of.cls=.type "function")
  (hq:codeAny (model prog w) (A.under (.builtin "type.__call__" ⟨.ref C::rest,[]⟩)) (.call (.ref f) ⟨.ref (h.objs.size+1)::rest,[]⟩) (fun r s'=>match r with
   |.ok (.ret v)=>v=.none/\Q (.ref (h.objs.size+1)) s'
   |.ok _=>False
   | .error e=>E e s') ⟨excHeap h C rest,g,d,t,os⟩) (hrest:rest.length≤sizeLine:=by size_fits):
  wpAny (model prog w) A (call (.ref C) rest) Q E ⟨h,g,d,t,os⟩:=by
 have f1:=tc_lookup;have f2:=tc_bind (.ref C);have hT:(⟨h,g,d,t,os⟩:Shared).TypeIs (.ref C) "type":=⟨_,hC,rfl⟩;refine wpAny_call (codeAny_of_tree ?_);show wpAny _ _ (callAny (.ref C) _) _ _ _
 repeat (any_goals (first|assumption|with_reducible refine wpAny_loadPart_at hC ?_|wp_step))
 refine⟨rfl,?_⟩;refine codeAny_call_builtin_at (Code.quiet_builtin _ (by decide +kernel)) entry_typeCall (wpAny_check_type_call_sub hC ?_);refine qt4z F T hC hn hni hf hfc (codeAny_mono hq fun r s' hr=>?_) hrest;cases r with
 |error e=>exact hr
 |ok fl=>
  cases fl with
  |ret v=>exact hr
  |next=>exact hr.elim
  |brk=>exact hr.elim
  |cont=>exact hr.elim
end
end L2
namespace L2
open PySem
open Sem (wp)
structure TracedD(base h:Heap)(e T:Addr)(cls:Value)(dx:Option Addr):Prop where
 obj:∃oe vs,h.get? e=some oe/\oe.cls=cls/\oe.dict=dx/\oe.data=.fields vs/\vs[1]?=some (.ref T)/\vs[2]?=some .none
 fresh:base.get? T=none
 ne:T≠e
 ent:∃oT ts,h.get? T=some oT/\oT.data=.fields ts/\ts[3]?=some .none
structure LeftD(base:Heap)(l:List Env)(e T₀:Addr)(cls:Value)(dx:Option Addr)(h h':Heap):Prop where
 stays:base.StaysIn h'
 funs:h'.FunFrames base l
 traced:∃T,TracedD base h' e T cls dx/\h.get? T=none
 keep:∀b o,b≠e->b≠T₀->b∉frs l->h.get? b=some o->h'.get? b=some o
 slot:∀b o,b∈frs l->h.get? b=some o->∃sl,h'.get? b=some { o with slots:=sl }
section
variable {M:Model} {A:Around} {E:Value->Shared->Prop} {s:Shared}
theorem newEntryD{base:Heap}{env:Env}{outer:List Env}{L e:Addr}{oe:Obj}{vs:Array Value}{head:Value}{hadNext:Bool}{Q:Unit->Shared->Prop}
  (hfr:A.frames=some (env::outer)) (hl:s.heap.FunFrames base (env::outer)) (hf:env.frame=some L)
  (he:s.heap.get? e=some oe) (hkb:base.StaysIn s.heap) (hen:base.get? e=none) (hd:oe.data=.fields vs) (hsz:1<vs.size) (h2:vs[2]?=some .none)
  (h:∀h',LeftD base (env::outer) e e oe.cls oe.dict s.heap h'->Q () { s with heap:=h' }):
  wpAny M A (do let a ←frameOf env;let pl ←entryPlaceOf L hadNext;let b ←EntryCells.newEntry head a .none (rawInt L) .none pl;setField (.ref e) 1 b) (fun _ s'=>wpAny M A (setFlight (.ref e) none) Q E s') E s:=by
 have hene:e∉(env::outer).filterMap (·.frame):=fun hm=>by
  obtain⟨_,o,ho,hnf⟩:=hl.mem hm;rw[he] at ho;injection ho with ho;subst ho;exact hnf vs hd
 refine wpAny_bind (wpAny_frameOf_fun hfr hl hf fun h₁ hs₁=>?_);refine wpAny_bind (wpAny_entryPlaceOf fun pl hpl=>?_);unfold EntryCells.newEntry newFields;refine wpAny_bind (wpAny_newObj_type ?_ (hpl.sizeOk5 _ _ _ _ _));have he₁:h₁.get? e=some oe:=(hs₁.2.1 e hene).trans he;have kb₁:base.StaysIn h₁:=fun b o hbo=>(hs₁.2.1 b fun hm=>by rw[(hl.mem hm).1] at hbo;cases hbo).trans (hkb b o hbo);have he₂:=Heap.get?_push_of_some (h:=h₁) { cls:=.type "traceback",dict:=none,data:=.fields ([head,.ref L,.none,rawInt L,.none]++(if pl.isEmpty then List.replicate 6 Value.none else pl)).toArray } he₁;refine wpAny_setField he₂ hd hsz ?_;have hTe:h₁.objs.size≠e:=Nat.ne_of_gt (Heap.lt_size he₁);have hd₃:=Obj.data_mapFields hd (·.setIfInBounds 1 (Value.ref h₁.objs.size));have he₃:=Heap.get?_update_self (Obj.mapFields (·.setIfInBounds 1 (Value.ref h₁.objs.size))) he₂ (Obj.isFreed_of_fields hd₃);have hT₃:=(Heap.get?_update_other (h₁.push { cls:=.type "traceback",dict:=none,data:=.fields ([head,.ref L,.none,rawInt L,.none]++(if pl.isEmpty then List.replicate 6 Value.none else pl)).toArray })
  (Obj.mapFields (·.setIfInBounds 1 (Value.ref h₁.objs.size))) (Ne.symm hTe)).trans (Heap.get?_push_size h₁ rfl)
 unfold setFlight;refine wpAny_bind (wpAny_field he₃ hd₃ (x:=.ref h₁.objs.size) (by simp[hsz]) ?_);rw[if_pos (show (Value.ref h₁.objs.size != Value.none)=true from by simp)];refine wpAny_setField hT₃ rfl (by simp only[List.size_toArray,List.length_append,List.length_cons,List.length_nil]<;>lia) (h _ ?_)
 have keep:∀b o,b≠e->h₁.get? b=some o ->
   (((h₁.push { cls:=.type "traceback",dict:=none,data:=.fields ([head,.ref L,.none,rawInt L,.none]++(if pl.isEmpty then List.replicate 6 Value.none else pl)).toArray }).update e (Obj.mapFields (·.setIfInBounds 1 (Value.ref h₁.objs.size)))).update h₁.objs.size
    (Obj.mapFields (·.setIfInBounds 3 ((none:Option Addr).elim Value.none fun f=>rawInt f)))).get? b=some o:=fun b o hbe hb=>by
  have hbT:h₁.objs.size≠b:=Nat.ne_of_gt (Heap.lt_size hb);rw[Heap.get?_update_other _ _ hbT,Heap.get?_update_other _ _ (Ne.symm hbe)];exact Heap.get?_push_of_some _ hb
 have noRecord:∀b o,s.heap.get? b=some o->(∀vs,o.data≠.fields vs)->b≠e:=fun b o hb hnf q=>by
  rw[q,he] at hb;injection hb with hb;subst hb;exact hnf vs hd
 refine⟨fun b o hbo=>keep b o (fun q=>by rw[q,hen] at hbo;cases hbo) (kb₁ b o hbo),hl.of_keeps fun b o hb hnf=>?_,⟨h₁.objs.size,⟨⟨_,_,?_,Obj.cls_mapFields _ _,?_,hd₃,by simp[hsz],by rw[Array.getElem?_setIfInBounds_ne (by decide)];exact h2⟩,kb₁.fresh,hTe,_,_,Heap.get?_update_self _ hT₃ (Obj.isFreed_of_fields (Obj.data_mapFields rfl _)),Obj.data_mapFields rfl _,by first|(simp;done)|(rcases hpl with rfl|⟨_,_,_,_,_,_,_,rfl⟩<;>simp)⟩,?_⟩,fun b o hbe _ hbf hb=>?_,fun b o hbf hb=>?_⟩
 ·obtain⟨sl,hs⟩:=hs₁.2.2 b o hb;exact⟨_,keep b _ (noRecord b o hb hnf) hs,rfl⟩
 ·rw[Heap.get?_update_other _ _ hTe];exact he₃
 ·obtain⟨c0,d0,dt0,s0⟩:=oe;cases dt0<;>rfl
 ·exact Heap.get?_none_of_le (by rw[hs₁.1];exact Nat.le_refl _)
 ·exact keep b o hbe ((hs₁.2.1 b hbf).trans hb)
 ·obtain⟨sl,hs⟩:=hs₁.2.2 b o hb;refine⟨sl,keep b _ (fun q=>?_) hs⟩;rw[q] at hbf;exact hene hbf
theorem qt6z{base:Heap}{env:Env}{outer:List Env}{L e:Addr}{oe:Obj}{vs:Array Value}{Q:Unit->Shared->Prop}
  (hfr:A.frames=some (env::outer)) (hl:s.heap.FunFrames base (env::outer)) (hf:env.frame=some L)
  (he:s.heap.get? e=some oe) (hkb:base.StaysIn s.heap) (hen:base.get? e=none) (hd:oe.data=.fields vs) (h1:vs[1]?=some .none) (h2:vs[2]?=some .none)
  (h:∀h',LeftD base (env::outer) e e oe.cls oe.dict s.heap h'->Q () { s with heap:=h' }):wpAny M A (leaving env (.ref e)) Q E s:=by
 unfold leaving noteFrame;simp only[hf];refine wpAny_bind (wpAny_bind (wpAny_field he hd h1 ?_));rw[if_neg (by decide)];exact newEntryD hfr hl hf he hkb hen hd (Array.getElem?_eq_some_iff.mp h1).1 h2 h
theorem qt7z{base:Heap}{env:Env}{outer:List Env}{L e T:Addr}{cls:Value}{dx:Option Addr}{Q:Unit->Shared->Prop}
  (hfr:A.frames=some (env::outer)) (hl:s.heap.FunFrames base (env::outer)) (hf:env.frame=some L) (ht:TracedD base s.heap e T cls dx) (hkb:base.StaysIn s.heap) (hen:base.get? e=none)
  (h:∀h',LeftD base (env::outer) e T cls dx s.heap h'->Q () { s with heap:=h' }):wpAny M A (leaving env (.ref e)) Q E s:=by
 obtain⟨⟨oe,vs,he,hcls,hdx,hd,h1,h2⟩,hnT,hTe,oT,ts,hT,hdT,h3⟩:=ht;subst hcls hdx;unfold leaving noteFrame;simp only[hf];refine wpAny_bind (wpAny_bind (wpAny_field he hd h1 ?_));rw[if_pos (show (Value.ref T != Value.none)=true from by simp)];refine wpAny_bind (wpAny_field hT hdT h3 ?_);rw[if_neg (show ¬((Value.none==rawInt L)=true) from by simp[rawInt])];refine wpAny_bind (wpAny_setField hT hdT (Array.getElem?_eq_some_iff.mp h3).1 ?_);have other:∀b,b≠T->(s.heap.update T (Obj.mapFields (·.setIfInBounds 3 Value.none))).get? b=s.heap.get? b:=fun b hb=>Heap.get?_update_other _ _ (Ne.symm hb);have noRecord:∀b o,s.heap.get? b=some o->(∀vs,o.data≠.fields vs)->b≠T:=fun b o hb hnf q=>by
  rw[q,hT] at hb;injection hb with hb;subst hb;exact hnf ts hdT
 have hTf:T∉frs (env::outer):=fun hm=>by
  obtain⟨_,o,ho,hnf⟩:=hl.mem hm;rw[hT] at ho;injection ho with ho;subst ho;exact hnf ts hdT
 refine newEntryD hfr (hl.of_keeps fun b o hb hnf=>⟨o,(other b (noRecord b o hb hnf)).trans hb,rfl⟩) hf ((other e (Ne.symm hTe)).trans he)
  (fun b o hbo=>(other b fun q=>by rw[q,hnT] at hbo;cases hbo).trans (hkb b o hbo)) hen hd (Array.getElem?_eq_some_iff.mp h1).1 h2
  fun h' ⟨x1,x2,⟨T',x3,x3'⟩,x4,x5⟩=>h h' ⟨x1,x2,⟨T',x3,?_⟩,fun b o hbe hbT hbf hb=>x4 b o hbe hbe hbf ((other b hbT).trans hb),fun b o hbf hb=>x5 b o hbf ((other b fun q=>hTf (q▸hbf)).trans hb)⟩
 by_cases hq:T'=T
 ·subst hq;obtain⟨o2,e2⟩:∃o2,(s.heap.update T' (Obj.mapFields (·.setIfInBounds 3 Value.none))).get? T'=some o2:=⟨_,Heap.get?_update_self _ hT (Obj.isFreed_of_fields (Obj.data_mapFields hdT _))⟩;rw[e2] at x3';cases x3'
 ·rw[←other T' hq];exact x3'
end
end L2
namespace L2
open PySem PySem.Spec PyProof.Rows
def CXE(P:Program)(w:World)(base:Heap):CXT:=fun outer H s E ev s'=>∃(e T C:Addr) (dx:Option Addr) (H':Hp),ev=.ref e/\s'.os=s.os/\AllBare s'.gens/\Un (frs outer) [] H H' s.heap s'.heap/\HOk P w H' s'.heap ∧
 TracedD base s'.heap e T (.ref C) dx/\(H' e=none/\H' T=none)/\base.get? e=none/\(s.heap.get? e=none/\s.heap.get? T=none)/\E (.ref C) dx H'
theorem ObjOk.there{P:Program}{w:World}{H:Hp}{h:Heap}{a:Addr}{o:HO}(x:ObjOk P w H h a o):∃ob,h.get? a=some ob:=by
 cases o with
 |lst xs=>obtain⟨_,_,_,_,e⟩:=x;exact⟨_,e⟩
 |tup xs=>obtain⟨_,_,_,ob,e,_⟩:=x;exact⟨_,e⟩
 |dK kvs=>obtain⟨_,_,_,_,o,_,_,e,_⟩:=x;exact⟨_,e⟩
 |dT kvs=>obtain⟨_,_,_,_,o,_,_,e,_⟩:=x;exact⟨_,e⟩
 |set S n=>obtain⟨o,_,_,_,e,_⟩:=x;exact⟨_,e⟩
 |ins C dx fs=>obtain⟨_,_,_,e,_⟩:=x;exact⟨_,e⟩
 |own y=>exact x
 |xd fs=>obtain⟨_,⟨_,_,_,e,_⟩,_⟩:=x;exact⟨_,e⟩
 |rng lo hi=>obtain⟨_,_,_,e⟩:=x;exact⟨_,e⟩
 |frz ob u=>obtain⟨e,_⟩:=x;exact⟨_,e⟩
 |tbl ps=>exact⟨_,(show h.get? a=some _ from x)⟩
 |met f y=>exact⟨_,(show h.get? a=some _ from x)⟩
 |ext φ=>exact x.2.1
section
variable {X:Cx} {pins:List (Addr×Obj)} {σ:St} {H:Hp} {s:Shared}
theorem Inv.left(I:Inv X pins σ H s)(hex:X.ex=[])(hst:X.stack=X.env::X.outer)(hfr:X.env.frame=some X.env.locals){e T₀:Addr}{cls:Value}{dx:Option Addr}{h':Heap}(L:LeftD X.base X.stack e T₀ cls dx s.heap h')
  (he:X.s₀.heap.get? e=none) (hT:X.s₀.heap.get? T₀=none) (hHe:H e=none) (hHT:H T₀=none):
  Un (frs X.outer) [] X.H₀ H X.s₀.heap h'/\HOk X.prog X.w H h':=by
 have hloc:X.s₀.heap.get? X.env.locals=none:=Heap.get?_none_of_le I.ok.above;have sub:∀b,b∈frs X.stack->b=X.env.locals∨b∈frs X.outer:=fun b hb=>List.mem_cons.mp (I.stkSub b hb);have ne:∀{b c:Addr} {o:Obj},X.s₀.heap.get? b=some o->X.s₀.heap.get? c=none->b≠c:=fun h1 h2 z=>by
  rw[z,h2] at h1;cases h1
 have nox:∀b:Addr,b∉X.ex:=fun b z=>by
  rw[hex] at z;cases z
 have supF:∀b,b∈frs X.outer->b∈frs X.stack:=fun b hb=>by
  rw[hst];unfold frs;rw[List.filterMap_cons,hfr];exact List.mem_cons_of_mem _ hb
 refine⟨⟨fun b o h1 h2 h3 _=>?_,fun b o h1 h2 h3 _=>?_,fun b o h1 h2 _=>I.base.free b o h1 h2 (nox b),fun b o h1 _=>?_,I.base.tups,I.base.frzs,I.base.tbls⟩,fun a o ha=>?_⟩
 ·have k1:=I.base.keep b o h1 h2 h3 (nox b);refine L.keep b o (ne h1 he) (ne h1 hT) (fun z=>?_) k1;rcases sub b z with z|z
  ·exact ne h1 hloc z
  ·exact h3 z
 ·obtain⟨sl,k1⟩:=I.base.slot b o h1 h2 h3 (nox b);obtain⟨sl',k2⟩:=L.slot b _ (supF b h3) k1;exact⟨sl',k2⟩
 ·obtain⟨o',k1⟩:=I.base.there b o h1 (nox b);by_cases hb:b∈frs X.stack
  ·obtain⟨sl,k2⟩:=L.slot b o' hb k1;exact⟨_,k2⟩
  ·exact⟨o',L.keep b o' (ne h1 he) (ne h1 hT) hb k1⟩
 ·refine (I.hok a o ha).stay (fun b u hb q=>?_) (fun _ q=>q) fun _ _ q=>q;have hHb:H b≠none:=by
   rcases hb with rfl|hb
   ·rw[ha];simp
   ·rw[hb];simp
  exact L.keep b u (fun z=>hHb (z▸hHe)) (fun z=>hHb (z▸hHT)) (fun z=>hHb (I.stkFree b z)) q
theorem Inv.fly(I:Inv X pins σ H s)(hex:X.ex=[])(hst:X.stack=X.env::X.outer)(hfr:X.env.frame=some X.env.locals){e C:Addr}{oe:Obj}{vs:Array Value}{E:XK}(he:s.heap.get? e=some oe)(hc:oe.cls=.ref C)(hd:oe.data=.fields vs)(h1:vs[1]?=some .none)(h2:vs[2]?=some .none)
  (h0:X.s₀.heap.get? e=none) (hHe:H e=none) (q:E (.ref C) oe.dict H) {R:Value->Shared->Prop}:
  wpAny (model X.prog X.w) X.A (leaving X.env (.ref e)) (fun _ s'=>CXE X.prog X.w X.base X.outer X.H₀ X.s₀ E (.ref e) s') R s:=by
 have hen:X.base.get? e=none:=by
  cases hq:X.base.get? e with
  |none=>rfl
  |some o=>
   have:=(I.ok.bs e o hq).1;rw[h0] at this;cases this
 refine qt6z (base:=X.base) (by rw[I.ok.frames,hst]) (by rw[←hst];exact I.stack) hfr he I.bk hen hd h1 h2 fun h' L=>?_;rw[←hst,hc] at L;obtain⟨u,ok⟩:=I.left hex hst hfr L h0 h0 hHe hHe;obtain⟨T,tr,hT⟩:=L.traced;have hTs:X.s₀.heap.get? T=none:=by
  cases hq:X.s₀.heap.get? T with
  |none=>rfl
  |some o=>
   obtain⟨o',e'⟩:=I.base.there T o hq (by rw[hex];simp);rw[hT] at e';cases e'
 have hHT:H T=none:=by
  cases hq:H T with
  |none=>rfl
  |some o=>
   obtain⟨ob,e'⟩:=ObjOk.there (I.hok T o hq);rw[hT] at e';cases e'
 exact⟨e,T,C,oe.dict,H,rfl,I.os,I.bare,u,ok,tr,⟨hHe,hHT⟩,hen,⟨h0,hTs⟩,q⟩
theorem qt8z{E:XK}(hex:X.ex=[])(hst:X.stack=X.env::X.outer)(hfr:X.env.frame=some X.env.locals)
  (hxe:∀e s',wpAny (model X.prog X.w) X.A (leaving X.env e) (fun _ s''=>CXE X.prog X.w X.base X.outer X.H₀ X.s₀ E e s'') (fun e' s''=>CXE X.prog X.w X.base X.outer X.H₀ X.s₀ E e' s'') s'->X.xe e s'):Passes (CXE X.prog X.w X.base) X E:=by
 intro pins σ H s ev s' I h;obtain⟨e,T,C,dx,H',rfl,os,bare,u,ok,tr,⟨hHe,hHT⟩,hen,⟨he0,hT0⟩,q⟩:=h;have I':Inv X pins σ H' s':=I.call' (ch:=[]) os u ok bare (fun b z=>absurd z (by simp));have s0:∀{b:Addr},s.heap.get? b=none->X.s₀.heap.get? b=none:=fun {b} hb=>by
  cases hq:X.s₀.heap.get? b with
  |none=>rfl
  |some o=>
   obtain⟨o',e'⟩:=I.base.there b o hq (by rw[hex];simp);rw[hb] at e';cases e'
 refine hxe _ _ (qt7z (base:=X.base) (by rw[I.ok.frames,hst]) (by rw[←hst];exact I'.stack) hfr tr I'.bk hen fun h' L=>?_);rw[←hst] at L;obtain⟨u',ok'⟩:=I'.left hex hst hfr L (s0 he0) (s0 hT0) hHe hHT;obtain⟨T',tr',hT'⟩:=L.traced;have hTs:X.s₀.heap.get? T'=none:=by
  cases hq:X.s₀.heap.get? T' with
  |none=>rfl
  |some o=>
   obtain⟨o',e'⟩:=I'.base.there T' o hq (by rw[hex];simp);rw[hT'] at e';cases e'
 have hHT':H' T'=none:=by
  cases hq:H' T' with
  |none=>rfl
  |some o=>
   obtain⟨ob,e'⟩:=ObjOk.there (I'.hok T' o hq);rw[hT'] at e';cases e'
 exact⟨e,T',C,dx,H',rfl,I'.os,I'.bare,u',ok',tr',⟨hHe,hHT'⟩,hen,⟨s0 he0,hTs⟩,q⟩
theorem qt9z{P:Program}{w:World}{K:PySem.W.Frag}{mg:Str->Option Value}{base:Heap}{N:List Str}{qual:Str}{scope:Scope}{f:Addr}{cd:Value}{A:Around}{outer:List Env}{s:Shared}{H:Hp}{E:XK}:
  Passes (CXE P w base) (cxOf (CXE P w base) P w K mg base N qual scope f cd A outer s H E) E:=qt8z rfl rfl rfl fun e s' h=>h
theorem qjuz{P:Program}{w:World}{K:PySem.W.Frag}{mg:Str->Option Value}{base:Heap}{N:List Str}{qual:Str}{scope:Scope}{f:Addr}{cd:Value}{A:Around}{outer:List Env}{s:Shared}{H:Hp}{E:XK}:
  PassesOwn (model P w) (cxOf (CXE P w base) P w K mg base N qual scope f cd A outer s H E).A (cxOf (CXE P w base) P w K mg base N qual scope f cd A outer s H E).env (cxOf (CXE P w base) P w K mg base N qual scope f cd A outer s H E).xe:=PassesOwn.leaving
end
end L2
namespace L2
open PySem PySem.Spec PyProof.Rows
structure Body(X:Cx)(E:XK):Prop where
 ex:X.ex=[]
 st:X.stack=X.env::X.outer
 fr:X.env.frame=some X.env.locals
 xe:∀e s',wpAny (model X.prog X.w) X.A (leaving X.env e) (fun _ s''=>CXE X.prog X.w X.base X.outer X.H₀ X.s₀ E e s'') (fun e' s''=>CXE X.prog X.w X.base X.outer X.H₀ X.s₀ E e' s'') s'->X.xe e s'
theorem quaz{P:Program}{w:World}{K:PySem.W.Frag}{mg:Str->Option Value}{base:Heap}{N:List Str}{qual:Str}{scope:Scope}{f:Addr}{cd:Value}{A:Around}{outer:List Env}{s:Shared}{H:Hp}{E:XK}:
  Body (cxOf (CXE P w base) P w K mg base N qual scope f cd A outer s H E) E:=⟨rfl,rfl,rfl,fun _ _ h=>h⟩
section
variable {X:Cx} {E:XK}
theorem Body.throw(B:Body X E){pins:List (Addr×Obj)}{σ:St}{H:Hp}{s:Shared}{e C:Addr}{oe:Obj}{vs:Array Value}(I:Inv X pins σ H s)(he:s.heap.get? e=some oe)(hc:oe.cls=.ref C)(hd:oe.data=.fields vs)(h1:vs[1]?=some .none)(h2:vs[2]?=some .none)
  (h0:X.s₀.heap.get? e=none) (hHe:H e=none) (q:E (.ref C) oe.dict H):X.xe (.ref e) s:=B.xe _ _ (I.fly B.ex B.st B.fr he hc hd h1 h2 h0 hHe q)
theorem qjvz{pins:List (Addr×Obj)}{σ:St}{H:Hp}{s:Shared}(I:Inv X pins σ H s){e:Addr}(h:s.heap.get? e=none):H e=none:=by
 cases hq:H e with
 |none=>rfl
 |some o=>
  obtain⟨ob,e'⟩:=ObjOk.there (I.hok e o hq);rw[h] at e';cases e'
theorem qjwz{pins:List (Addr×Obj)}{σ:St}{H:Hp}{s:Shared}(B:Body X E)(I:Inv X pins σ H s){e:Addr}(h:s.heap.get? e=none):X.s₀.heap.get? e=none:=by
 cases hq:X.s₀.heap.get? e with
 |none=>rfl
 |some o=>
  obtain⟨o',e'⟩:=I.base.there e o hq (by rw[B.ex];simp);rw[h] at e';cases e'
end
end L2
namespace L3
open PySem PySem.Spec PyProof.Rows L2
def vis:HO->Bool
 |.tup _=>true
 |.frz _ (.lst _)=>true
 |.frz _ (.tup _)=>true
 |.frz _ (.xd _)=>true
 |.frz _ (.ext _)=>true
 |_=>false
def hide(H:Hp):Hp:=fun a=>match H a with
 |some o=>if vis o then some o else none
 |none=>none
def joined(H H':Hp):Hp:=fun a=>match H a with
 |some o=>if vis o then H' a else some o
 |none=>H' a
section
variable {P:Program} {w:World} {H H':Hp} {h h':Heap} {a b:Addr} {o:HO} {fs:List Addr}
theorem qbwz(e:H a=none):hide H a=none:=by simp[hide,e]
theorem qayz(e:H a=some o)(v:vis o=true):hide H a=some o:=by simp[hide,e,v]
theorem qfsz(e:H a=some o)(v:vis o=false):hide H a=none:=by simp[hide,e,v]
theorem qftz(e:hide H a=some o):H a=some o/\vis o=true:=by
 unfold hide at e;cases q:H a with
 |none=>simp[q] at e
 |some u=>
  simp only[q] at e;cases v:vis u with
  |true=>
   rw[v,if_pos rfl] at e;cases e;exact⟨rfl,v⟩
  |false=>
   rw[v] at e;simp at e
theorem qctz(e:H a=none):joined H H' a=H' a:=by simp[joined,e]
theorem qebz(e:H a=some o)(v:vis o=true):joined H H' a=H' a:=by simp[joined,e,v]
theorem qbxz(e:H a=some o)(v:vis o=false):joined H H' a=some o:=by simp[joined,e,v]
theorem qubz{H2:Hp}(v:vis o=true)(x:ObjOk P w H h a o):ObjOk P w H2 h a o:=by
 cases o with
 |tup xs=>obtain⟨z,its,r,p⟩:=x;exact⟨z,its,r,p⟩
 |frz ob u=>
  cases u with
  |lst xs=>obtain⟨e,z,its,n,r,p⟩:=x;exact⟨e,z,its,n,r,p⟩
  |tup xs=>obtain⟨e,z,its,r,p⟩:=x;exact⟨e,z,its,r,p⟩
  |xd fs=>obtain⟨e,mA,r,p⟩:=x;exact⟨e,mA,r,p⟩
  |ext φ=>exact x
  |_=>cases v
 |_=>cases v
theorem qjxz(ok:HOk P w H h):HOk P w (hide H) h:=fun a o e=>by
 obtain⟨e1,v⟩:=qftz e;exact qubz v (ok a o e1)
variable (ok:HOk P w H h) (hfs:∀b∈fs,H b=none) (u:Un fs [] (hide H) H' h h') (ok':HOk P w H' h')
include ok u
theorem qjyz(e:H b=some o)(v:vis o=false):H' b=none:=by
 obtain⟨ob,q⟩:=ObjOk.there (ok b o e);exact u.free b ob q (qfsz e v) (by simp)
theorem qbcz(e:H' b=some o):joined H H' b=some o:=by
 cases q:H b with
 |none=>rw[qctz q];exact e
 |some x=>
  cases v:vis x with
  |true=>rw[qebz q v];exact e
  |false=>
   rw[qjyz ok u q v] at e;cases e
include hfs ok'
theorem qecz:Un fs [] H (joined H H') h h'/\HOk P w (joined H H') h':=by
 have kept:∀b x ob,H b=some x->vis x=false->h.get? b=some ob->h'.get? b=some ob:=fun b x ob e v q=>
  u.keep b ob q (qfsz e v) (fun z=>by rw[hfs b z] at e;cases e) (by simp)
 refine⟨⟨fun b ob q n h3 h4=>u.keep b ob q (qbwz n) h3 h4,fun b ob q n h3 h4=>u.slot b ob q (qbwz n) h3 h4,fun b ob q n h3=>by rw[qctz n];exact u.free b ob q (qbwz n) h3,
  fun b ob q h3=>u.there b ob q h3,fun b xs e=>qbcz ok u (u.tups b xs (qayz e rfl)),fun b ob x e=>?_,fun b ps e=>⟨#[],by rw[Array.append_empty];exact qbxz e rfl⟩⟩,fun b x e=>?_⟩
 ·cases v:vis (.frz ob x) with
  |true=>exact qbcz ok u (u.frzs b ob x (qayz e v))
  |false=>exact qbxz e v
 ·have mono:H' b=some x->ObjOk P w (joined H H') h' b x:=fun z=>(ok' b x z).stay (fun _ _ _ q=>q) (fun c q=>qbcz ok u q) (fun c xs q=>qbcz ok u q);cases q:H b with
  |none=>
   rw[qctz q] at e;exact mono e
  |some y=>
   cases v:vis y with
   |true=>
    rw[qebz q v] at e;exact mono e
   |false=>
    rw[qbxz q v] at e;obtain rfl:=Option.some.inj e;refine (ok b _ q).stay (fun c ob hc z=>?_) (fun c z=>qbxz z rfl) (fun c xs z=>qbcz ok u (u.tups c xs (qayz z rfl)));rcases hc with rfl|hc
    ·exact kept _ _ _ q v z
    ·exact kept _ _ _ hc rfl z
end
section
variable {K:PySem.W.Frag} {H:Hp}
theorem SqT.hid{a:Addr}{xs:List V}(h:SqT K H a xs):SqT K (hide H) a xs:=by
 rcases h with (h|⟨o,h⟩)|h
 ·exact .inl (.inl (qayz h rfl))
 ·exact .inl (.inr ⟨o,qayz h rfl⟩)
 ·exact .inr h
theorem SqF.hid{a:Addr}{xs:List V}(h:SqF K H a xs):SqF K (hide H) a xs:=by
 rcases h with⟨o,h⟩|h
 ·exact .inl ⟨o,qayz h rfl⟩
 ·exact .inr h
mutual
theorem Hv.hid:∀{d:D} {v:V},Hv K H d v->Hv K (hide H) d v
 |.non,_,h=>by simpa [Hv] using h
 |.bl _,_,h=>by simpa [Hv] using h
 |.int _,_,h=>by simpa [Hv] using h
 |.str _,_,h=>by simpa [Hv] using h
 |.obj _,_,h=>by simpa [Hv] using h
 |.dc a,v,h=>by
  unfold Hv at h ⊢;obtain⟨e,ob,φ,q,c⟩:=h;exact⟨e,ob,φ,qayz q rfl,c⟩
 |.tup ds,v,h=>by
  unfold Hv at h ⊢;obtain⟨a,vs,e,q,r⟩:=h;exact⟨a,vs,e,SqT.hid q,Hvs.hid r⟩
 |.scr ds,v,h=>by
  unfold Hv at h ⊢;obtain⟨a,vs,e,q,r⟩:=h;exact⟨a,vs,e,SqF.hid q,Hvs.hid r⟩
theorem Hvs.hid:∀{ds:List D} {vs:List V},Hvs K H ds vs->Hvs K (hide H) ds vs
 |[],_,h=>by simpa [Hvs] using h
 |d::ds,vs,h=>by
  unfold Hvs at h ⊢;obtain⟨v,r,e,q,z⟩:=h;exact⟨v,r,e,Hv.hid q,Hvs.hid z⟩
end
end
abbrev noG:Gp:=fun _=>none
def both(G1 G':Gp):Gp:=fun a=>match G1 a with
 |some o=>some o
 |none=>G' a
abbrev E3:=Str->List (Str×Int)->Prop
def ClsN(K:PySem.W.Frag)(x:Str)(C:Addr):Prop:=PySem.W.nsIn K mainGlobals x=some (some (.ref C))
def DictIs(H:Hp)(dx:Option Addr)(fs:List (Str×Int)):Prop:=(dx=none/\fs=[])∨∃d o,dx=some d/\H d=some (.frz o (.xd (fs.map fun p=>(p.1,V.int p.2))))
def lowE(K:PySem.W.Frag)(E:E3):XK:=fun cls dx H=>∃x C fs,cls=.ref C/\ClsN K x C/\E x fs/\DictIs H dx fs
abbrev SpX:=List D->V3->E3->Prop
def lowX(K:PySem.W.Frag)(sp:SpX):Sp:=fun vs H Q E=>∃ds Q3 E',Hvs K H ds vs/\(∀a o,H a=some o->vis o=true)/\sp ds Q3 E'/\(∀v H' d G',Hv K H' d v->Step H noG H' G'->RepG K G' H'->Q3 d G'->Q v H')/\∀cls dx H',lowE K E' cls dx H'->E cls dx H'
abbrev FnX(P:Program)(w:World)(K:PySem.W.Frag)(mg:Str->Option Value)(base:Heap)(k:Nat)(f:Addr)(fd:FuncData)(ps:List Str)(sp:SpX):Prop:=FnOk P w K mg base (CXE P w base) k f fd ps (lowX K sp)
structure Joins(G1 G' G2:Gp):Prop where
 old:Sub G1 G2
 new:Sub G' G2
 out:∀a,G' a≠none->G1 a=none
def eCallX(sp:SpX)(E:E3)(t:TA3):TE3:=fun τ G Q=>t τ G fun ds G1=>sp ds (fun d G'=>∀G2,Joins G1 G' G2->Q d G2) E
section
variable {X:Cx} {k:Nat} {f:Addr} {fd:FuncData} {ps:List Str} {sp:SpX} {E:E3} {x:Str} {p pos:Pos} {e:Expr} {es:List Expr} {t:TA3}
theorem qfuz{K:PySem.W.Frag}{P:Program}{w:World}{fs:List Addr}{H H':Hp}{h h':Heap}{G1 G':Gp}{d:D}{v:V}(ok:HOk P w H h)(hfs:∀b∈fs,H b=none)(u:Un fs [] (hide H) H' h h')(ok':HOk P w H' h')
  (R1:RepG K G1 H) (hv:Hv K H' d v) (S:Step (hide H) noG H' G') (R':RepG K G' H'):
  Hv K (joined H H') d v/\Step H G1 (joined H H') (both G1 G')/\RepG K (both G1 G') (joined H H')/\Joins G1 G' (both G1 G'):=by
 have E2:Ext H' (joined H H'):=⟨fun b xs e=>qbcz ok u e,fun b o x e=>qbcz ok u e⟩;have E1:Ext H (joined H H'):=by
  obtain⟨u2,_⟩:=qecz ok hfs u ok';exact⟨u2.tups,u2.frzs⟩
 have outG:∀a,G' a≠none->H a=none:=fun a n=>by
  have z:hide H a=none:=S.new a rfl n;cases q:H a with
  |none=>rfl
  |some o=>
   cases v:vis o with
   |true=>rw[qayz q v] at z;cases z
   |false=>
    have:=qjyz ok u q v;cases q':G' a with
    |none=>exact absurd q' n
    |some g=>
     obtain⟨o',z',_⟩:=(R' a g q').mut;rw[this] at z';cases z'
 have out1:∀a,G' a≠none->G1 a=none:=fun a n=>R1.free (outG a n);refine⟨hv.ext E2,⟨fun a o e n=>?_,fun a n=>?_,fun a n q=>?_⟩,fun a g e=>?_,⟨fun a o e=>by simp[both,e],fun a o e=>by simp[both,out1 a (by rw[e];simp),e],out1⟩⟩
 ·cases v:vis o with
  |true=>
   rw[qebz e v];exact S.fr a o (qayz e v) rfl
  |false=>exact qbxz e v
 ·cases q:H a with
  |none=>exact absurd q n
  |some o=>
   cases v:vis o with
   |true=>
    rw[qebz q v];exact S.trk a (by rw[qayz q v];simp)
   |false=>rw[qbxz q v];simp
 ·simp only[both,n] at q;exact outG a q
 ·cases q:G1 a with
  |some o=>
   simp only[both,q] at e;cases e;obtain⟨o',z,h1,h2⟩:=(R1 a g q).mut;have hv:vis o'=false:=by
    cases o' with
    |tup xs=>exact absurd rfl (h1 xs)
    |frz ob y=>exact absurd rfl (h2 ob y)
    |_=>rfl
   exact (R1 a g q).ext E1 (by rw[qbxz z hv,z])
  |none=>
   simp only[both,q] at e;have hn:=outG a (by rw[e];simp);exact (R' a g e).ext E2 (by rw[qctz hn])
theorem qucz(G1:Gp):both G1 noG=G1:=by
 funext a;unfold both;cases G1 a<;>rfl
theorem qudz{H H':Hp}{fs:List Addr}{h h':Heap}(u:Un fs [] (hide H) H' h h'):Step (hide H) noG H' noG:=by
 have fr:∀a o,hide H a=some o->H' a=some o:=fun a o e=>by
  obtain⟨_,v⟩:=qftz e;cases o with
  |tup xs=>exact u.tups a xs e
  |frz ob y=>exact u.frzs a ob y e
  |_=>cases v
 refine⟨fun a o e _=>fr a o e,fun a n=>?_,fun a _ q=>absurd rfl q⟩;cases q:hide H a with
 |none=>exact absurd q n
 |some o=>rw[fr a o q];simp
def lowE2(K:PySem.W.Frag)(E:E3)(H:Hp)(G:Gp):XK:=fun cls dx H'=>lowE K E cls dx H'/\RepG K G H'/\Step H G H' G
theorem CXE.mono{P:Program}{w:World}{base:Heap}{outer:List Env}{H:Hp}{s s':Shared}{E E':XK}{ev:Value}(h:CXE P w base outer H s E ev s')(m:∀cls dx H',E cls dx H'->E' cls dx H'):CXE P w base outer H s E' ev s':=by
 obtain⟨e,T,C,dx,H',a1,a2,a3,a4,a5,a6,a7,a8,a9,q⟩:=h;exact⟨e,T,C,dx,H',a1,a2,a3,a4,a5,a6,a7,a8,a9,m _ _ _ q⟩
theorem CXE.hid{P:Program}{w:World}{K:PySem.W.Frag}{base:Heap}{outer:List Env}{H:Hp}{s s':Shared}{G1:Gp}{ev:Value}(ok:HOk P w H s.heap)(hfs:∀b∈frs outer,H b=none)(R1:RepG K G1 H)(h:CXE P w base outer (hide H) s (lowE K E) ev s'):
  CXE P w base outer H s (lowE2 K E H G1) ev s':=by
 obtain⟨e,T,C,dx,H',rfl,os,bare,u,ok',tr,⟨hHe,hHT⟩,hen,⟨he0,hT0⟩,x,C',fs,ec,cn,q,dd⟩:=h;obtain⟨u2,ok2⟩:=qecz ok hfs u ok';obtain⟨_,z2,z3,_⟩:=qfuz (G':=noG) (d:=.non) (v:=.non) ok hfs u ok' R1 (by simp[Hv]) (qudz u) (fun _ _ e=>nomatch e);rw[qucz] at z2 z3;have out:∀b,s.heap.get? b=none->H' b=none->joined H H' b=none:=fun b hb hn=>by
  cases hq:H b with
  |none=>rw[qctz hq];exact hn
  |some o=>
   obtain⟨ob,e'⟩:=ObjOk.there (ok b o hq);rw[hb] at e';cases e'
 refine⟨e,T,C,dx,joined H H',rfl,os,bare,u2,ok2,tr,⟨out _ he0 hHe,out _ hT0 hHT⟩,hen,⟨he0,hT0⟩,⟨x,C',fs,ec,cn,q,?_⟩,z3,z2⟩;rcases dd with⟨d1,d2⟩|⟨d,o,d1,d2⟩
 ·exact .inl ⟨d1,d2⟩
 ·exact .inr ⟨d,o,d1,qbcz ok u d2⟩
theorem qjzz{pins:List (Addr×Obj)}{σ:L2.St}{H:Hp}{s:Shared}{Q:VK}{G1:Gp}{Q3:V3}{ds:List D}{us:List Value}{vs:List V}{XE:Value->Shared->Prop}(F:FnX X.prog X.w X.K X.mg X.base k f fd ps sp)(hr:Room k X.A)(hb:Binds X.K fd ps [])
  (hx:∀ev s',CXE X.prog X.w X.base X.stack H s (lowE2 X.K E H G1) ev s'->XE ev s')
  (I:Inv X pins σ H s) (r:Vals vs us) (hd:Hvs X.K H ds vs) (R1:RepG X.K G1 H) (h:sp ds (fun d G'=>∀G2,Joins G1 G' G2->Q3 d G2) E) (kk:∀v H' d G',Hv X.K H' d v->Step H G1 H' G'->RepG X.K G' H'->Q3 d G'->Q v H'):
  wpAny (model X.prog X.w) X.A (call (.ref f) us) (EP X pins σ Q) XE s:=by
 have hq:lowX X.K sp vs (hide H) (fun v H'=>∃d G',Hv X.K H' d v/\Step (hide H) noG H' G'/\RepG X.K G' H'/\∀G2,Joins G1 G' G2->Q3 d G2) (lowE X.K E):=
  ⟨ds,_,E,hd.hid,fun a o e=>(qftz e).2,h,fun v H' d G' a b c q=>⟨d,G',a,b,c,q⟩,fun _ _ _ z=>z⟩
 have hl:(us++[]).length=ps.length:=by rw[List.append_nil,←r.length];exact F.len _ _ _ _ hq
 have e0:Env0 X.prog X.w X.K X.mg X.base X.A X.stack s (hide H):=⟨I.ok.frames,I.ok.mod,fun b o e=>⟨(I.bs b o e).1,qbwz (I.bs b o e).2⟩,Nat.le_trans I.ok.bsz I.sz,I.stack,fun b hb=>qbwz (I.stkFree b hb),qjxz I.hok,I.bare⟩;have hb':=hb s us I.kIn hl;rw[List.append_nil] at hb';refine wpAny_call (codeAny_mono (F.run X.A X.stack s (hide H) ⟨us,[]⟩ us vs _ (lowE X.K E) hr e0 hb' r hq) fun r s' hq'=>?_);cases r with
 |error e=>exact hx e s' (CXE.hid I.hok I.stkFree R1 hq')
 |ok fl=>
  cases fl with
  |ret u=>
   obtain⟨v,H',os,bare,un,hok,rv,d,G',a,b,c,q⟩:=hq';obtain⟨un2,ok2⟩:=qecz I.hok I.stkFree un hok;obtain⟨z1,z2,z3,z4⟩:=qfuz I.hok I.stkFree un hok R1 a b c;exact I.after ⟨v,joined H H',os,bare,un2,ok2,rv,kk v _ d _ z1 z2 z3 (q _ z4)⟩
  |next=>exact False.elim hq'
  |brk=>exact False.elim hq'
  |cont=>exact False.elim hq'
theorem quez(F:FnX X.prog X.w X.K X.mg X.base k f fd ps sp)(hr:Room k X.A)(hx:Passes (CXE X.prog X.w X.base) X (lowE X.K E))(hm:X.mg x=some (.ref f))(hk:PySem.W.keepIn X.K (.ref f)=true)(hb:Binds X.K fd ps [])(ha:PA3 X (e::es) t)(hg:Gl X x:=by rfl)
  (hdb:(x==("__debug__":Str))=false:=by decide) (he:notStar e=true:=by rfl) (hpl:es.all notStar=true:=by rfl):
  PE3 X (.Call (.Name x p) (e::es) [] pos) (eCallX sp E t):=by
 intro pins s σ H Q I ⟨τ,G,Q3,RS,RG,h,kk⟩;refine wpAny_Call_Name_kw (qa0z I hg hm ?_ hdb);refine PySem.W.callWith_K (h₀:=X.base) I.ok.mod.kin hk (thn (ha pos pins s σ H (fun vs H1=>∃ds G1,Hvs X.K H1 ds vs/\Step H G H1 G1/\RepG X.K G1 H1/\sp ds (fun d G'=>∀G2,Joins G1 G' G2->Q3 d G2) E) I
  ⟨τ,G,_,RS,RG,h,fun vs H1 ds G1 a b c q=>⟨ds,G1,a,b,c,q⟩⟩) fun us s1 ⟨vs,H1,I1,r,ds,G1,hd,S1,R1,q⟩=>⟨I1.kIn,?_⟩) (qmz he) (qyz hpl)
 exact qjzz F hr hb (fun ev s' h=>hx pins σ H1 s1 ev s' I1 (CXE.mono h fun _ _ _ z=>z.1)) I1 r hd R1 q fun v H' d G' a b c q=>kk v H' d G' a (S1.trans b) c q
end
section
variable {P:Program} {w:World} {K:PySem.W.Frag} {mg:Str->Option Value} {base:Heap}
theorem fnX{x qual:Str}{st:Stmt}{f:Addr}{fd:FuncData}{N ps:List Str}{k:Nat}{sp:SpX}(F:Fun K x qual st f fd)(S:FnScope N ps (defScope st))(hN:ps.length≤N.length)(len:∀ds Q E,sp ds Q E->ds.length=ps.length)(tb:E3->TS3)
  (hbody:∀(cdv:Value) (A:Around) (outer:List Env) (s:Shared) (H:Hp) (E:XK) (E':E3),Room k (A.deeper (envOfC qual (defScope st) s.heap.objs.size f cdv))->(∀cls dx H',lowE K E' cls dx H'->E cls dx H') ->
   PSs3 (cxOf (CXE P w base) P w K mg base N qual (defScope st) f cdv A outer s H E) (defBody st) (tb E'))
  (hrd:∀ds Q E,sp ds Q E->tb E (endsOf Q) (start3 N ds) noG):FnX P w K mg base (k+1) f fd ps sp:=by
 obtain⟨oc,od,kV,doc,pm,an,cdv,ct,osl,rfl,lk,hcd⟩:=F.ex;refine qhsz lk hcd S (fun vs H Q E h=>?_) (fun A outer s H vs Q E hr h=>?_)
 ·obtain⟨ds,Q3,E',h1,_,h3,_⟩:=h;rw[←h1.length];exact len _ _ _ h3
 ·obtain⟨ds,Q3,E',h1,h2,h3,h4,h5⟩:=h;refine⟨_,hbody cdv A outer s H E E' hr h5,start3 N ds,noG,endsOf Q3,.start h1 ?_,(fun _ _ e=>nomatch e),hrd _ _ _ h3,⟨?_,?_,?_,?_⟩⟩
  ·rw[←h1.length,len _ _ _ h3];exact hN
  ·exact fun τ σ G' H' a b c ⟨G0,s0,q⟩=>h4 _ H' .non G0 (by simp[Hv]) (b.trans (.sub s0)) (c.sub s0) q
  ·exact fun τ σ G' H' a b c q=>q.elim
  ·exact fun τ σ G' H' a b c q=>q.elim
  ·exact fun d v G' H' a b c ⟨G0,s0,q⟩=>h4 _ H' d G0 a (b.trans (.sub s0)) (c.sub s0) q
end
theorem passX{P:Program}{w:World}{K:PySem.W.Frag}{mg:Str->Option Value}{base:Heap}{N:List Str}{qual:Str}{scope:Scope}{f:Addr}{cd:Value}{A:Around}{outer:List Env}{s:Shared}{H:Hp}{E:XK}{E':E3}(h:∀cls dx H',lowE K E' cls dx H'->E cls dx H'):
  Passes (CXE P w base) (cxOf (CXE P w base) P w K mg base N qual scope f cd A outer s H E) (lowE K E'):=fun pins σ H1 s1 ev s' I q=>qt9z pins σ H1 s1 ev s' I (CXE.mono q h)
end L3
namespace L2
open PySem PySem.Spec PyProof.Rows
structure RoomH(k:Nat)(A:Around):Prop where
 dp:A.depth+3*k+5<recursionLimit
 un:A.units+16*k+200<cLine
theorem RoomH.mono{j k:Nat}{A:Around}(r:RoomH k A)(h:j≤k):RoomH j A:=⟨by have:=r.dp;lia,by have:=r.un;lia⟩
theorem RoomH.deeper{k:Nat}{A:Around}(r:RoomH (k+1) A)(env:Env):RoomH k (A.deeper env):=
 ⟨by have:=r.dp;show A.depth+1+3*k+5<_;lia,by have:=r.un;show A.units+3+16*k+200<_;lia⟩
theorem RoomH.depth{k:Nat}{A:Around}(r:RoomH k A):A.depth<recursionLimit:=by have:=r.dp;lia
theorem RoomH.units{k:Nat}{A:Around}(r:RoomH k A):A.units+64<cLine:=by have:=r.un;lia
theorem RoomH.mark{k:Nat}{A:Around}{v:Option Value}(r:RoomH k A):RoomH k (A.mark v):=⟨r.dp,r.un⟩
theorem Room.h{k:Nat}{A:Around}(r:Room k A):RoomH k A:=⟨r.dp,r.un⟩
structure FnOkH(P:Program)(w:World)(K:PySem.W.Frag)(mg:Str->Option Value)(base:Heap)(k:Nat)(f:Addr)(fd:FuncData)(ps:List Str)(sp:Sp):Prop where
 len:∀vs H Q E,sp vs H Q E->vs.length=ps.length
 run:∀(A:Around) (outer:List Env) (s:Shared) (H:Hp) (args:Args) (us:List Value) (vs:List V) (Q:VK) (E:XK),RoomH k A->Env0 P w K mg base A outer s H->BindsTo s fd args (ps.zip us)->Vals vs us->sp vs H Q E ->
  codeAny (model P w) A (.call (.ref f) args) (CR CX0 outer P w H s Q E) s
section
variable {P:Program} {w:World} {K:PySem.W.Frag} {mg:Str->Option Value} {base:Heap} {j k:Nat} {f:Addr} {fd:FuncData} {ps:List Str} {sp:Sp}
theorem FnOkH.calm(F:FnOkH P w K mg base k f fd ps sp):FnOk P w K mg base CX0 k f fd ps sp:=⟨F.len,fun A outer s H args us vs Q E hr=>F.run A outer s H args us vs Q E hr.h⟩
theorem FnOkH.mono(F:FnOkH P w K mg base j f fd ps sp)(h:j≤k):FnOkH P w K mg base k f fd ps sp:=⟨F.len,fun A outer s H args us vs Q E hr=>F.run A outer s H args us vs Q E (hr.mono h)⟩
end
def cxH(P:Program)(w:World)(K:PySem.W.Frag)(mg:Str->Option Value)(base:Heap)(N:List Str)(qual:Str)(scope:Scope)(f:Addr)(cd:Value)(A:Around)(outer:List Env)(s:Shared)(H:Hp)(E:XK):Cx:=
 { cxOf CX0 P w K mg base N qual scope f cd A outer s H E with calm:=false,xe:=fun _ _=>False }
section
variable {P:Program} {w:World} {K:PySem.W.Frag} {mg:Str->Option Value} {base:Heap} {N:List Str} {qual:Str} {scope:Scope} {f:Addr} {cd:Value} {A:Around} {outer:List Env} {s s1:Shared} {H H1:Hp} {E:XK} {pins:List (Addr×Obj)} {σ:St}
theorem Inv.loud(I:Inv (cxOf CX0 P w K mg base N qual scope f cd { A with handled:=none } outer s H E) pins σ H1 s1)(hf:A.frames=some outer):Inv (cxH P w K mg base N qual scope f cd A outer s H E) pins σ H1 s1:=by
 obtain⟨ok,a1,a2,a3,a4,a5,a6,a7,a8,a9,a10⟩:=I;obtain⟨o1,o2,o3,o4,o5,o6,o7,o8,_,_,o11,o12,o13,o14,o15,o16,o17,o18⟩:=ok;exact⟨⟨o1,o2,o3,o4,o5,o6,o7,o8,(fun z=>nomatch z),Around.frames_deeper hf,o11,o12,o13,o14,o15,o16,o17,o18⟩,a1,a2,a3,a4,a5,a6,a7,a8,a9,a10⟩
end
theorem qufz{P:Program}{w:World}{K:PySem.W.Frag}{mg:Str->Option Value}{base:Heap}{k:Nat}{x qual:Str}{st:Stmt}{f:Addr}{fd:FuncData}{N ps:List Str}{sp:Sp}(F:Fun K x qual st f fd)(S:FnScope N ps (defScope st))(len:∀vs H Q E,sp vs H Q E->vs.length=ps.length)
  (hbody:∀(cdv:Value) (A:Around) (outer:List Env) (s:Shared) (H:Hp) (vs:List V) (Q:VK) (E:XK),RoomH k (A.deeper (envOfC qual (defScope st) s.heap.objs.size f cdv))->sp vs H Q E ->
   ∃t,PSs (cxH P w K mg base N qual (defScope st) f cdv A outer s H E) (defBody st) t/\t { nx:=fun _ H'=>Q .non H',rt:=Q } (start N vs) H):
  FnOkH P w K mg base (k+1) f fd ps sp:=by
 obtain⟨oc,od,kV,doc,pm,an,cdv,ct,osl,rfl,lk,hcd⟩:=F.ex;refine⟨len,fun A outer s H args us vs Q E hr e0 hb r hsp=>?_⟩;have hl:=len _ _ _ _ hsp;have KX:K.In s.heap:=e0.mod.kin.keeps fun b o e=>(e0.bs b o e).1;have lim:s.heap.NoLimit:=e0.mod.nolimit.keeps fun b o e=>(e0.bs b o e).1;have hkind:∀y∈ps.zip us,(defScope st).names.lookup y.1=some .local∨((defScope st).names.lookup y.1=some .cell/\((cellsFrom (s.heap.objs.size+1) (defScope st).names []).lookup y.1).isSome=true):=fun⟨n,v⟩ hy=>by
  rcases S.par n (List.of_mem_zip hy).1 with q|q
  ·exact .inl q
  ·exact .inr ⟨q,PySem.W.cellsFrom_some _ _ _ (.inl q)⟩
 refine codeAny_call_function hr.depth (KX _ _ lk) rfl S.co S.gen rfl (PySem.W.codeRec_of KX hcd) (hb _ _ _ _ ?_);refine wpAny_newFunctionEnv_cells S.kind hkind fun env he s1 x=>?_;subst he;refine⟨lim.keeps x.toInCall.keep,codeAny_func ?_⟩;obtain⟨t,ht,hq⟩:=hbody cdv A outer s H vs Q E (hr.deeper _) hsp;have e1:Env0 P w K mg base { A with handled:=none } outer s H:=⟨e0.frames,e0.mod,e0.bs,e0.bsz,e0.funs,e0.frf,e0.hok,e0.bare⟩;have I0:Inv (cxOf CX0 P w K mg base N qual (defScope st) f cdv { A with handled:=none } outer s H E) [] (start N vs) H s1:=qexz S rfl e1 hl r x;have I:=I0.loud (A:=A) e0.frames;refine wpAny_mono (ht [] s1 (start N vs) H _ I hq) (fun fl s' hs=>?_) fun e s' hs=>hs.elim;have fin:∀{σ':St} {H':Hp} {v:V} {u:Value},Inv (cxH P w K mg base N qual (defScope st) f cdv A outer s H E) [] σ' H' s'->RelV v u->Q v H'->CE outer P w H s Q u s':=
  fun {σ' H' v u} J rv q=>⟨v,H',J.os,J.bare,J.base,J.hok,rv,q⟩
 cases fl with
 |ret u=>
  obtain⟨v,σ',H',J,rv,q⟩:=hs;exact fin J rv q
 |next=>
  obtain⟨σ',H',J,q⟩:=hs;exact fin (v:=V.non) (u:=Value.none) J rfl q
 |brk=>
  obtain⟨_,_,_,q⟩:=hs;exact False.elim q
 |cont=>
  obtain⟨_,_,_,q⟩:=hs;exact False.elim q
section
variable {X:Cx} {k:Nat} {f:Addr} {fd:FuncData} {ps:List Str} {sp:Sp} {E:XK} {x:Str} {p pos:Pos} {e:Expr} {es:List Expr} {t:TA}
theorem qugz{pins:List (Addr×Obj)}{σ:St}{H:Hp}{s:Shared}{Q:VK}{us:List Value}{vs:List V}(F:FnOkH X.prog X.w X.K X.mg X.base k f fd ps sp)(hr:RoomH k X.A)(hb:Binds X.K fd ps [])
  (I:Inv X pins σ H s) (r:Vals vs us) (h:sp vs H Q E):wpAny (model X.prog X.w) X.A (call (.ref f) us) (EP X pins σ Q) X.xe s:=by
 have hl:(us++[]).length=ps.length:=by rw[List.append_nil,←r.length];exact F.len _ _ _ _ h
 have hb':=hb s us I.kIn hl;rw[List.append_nil] at hb';refine wpAny_call (codeAny_mono (F.run X.A X.stack s H ⟨us,[]⟩ us vs Q E hr I.env0 hb' r h) fun r s' hq=>?_);cases r with
 |error e=>exact False.elim hq
 |ok fl=>
  cases fl with
  |ret u=>exact I.after hq
  |next=>exact False.elim hq
  |brk=>exact False.elim hq
  |cont=>exact False.elim hq
theorem quhz(F:FnOkH X.prog X.w X.K X.mg X.base k f fd ps sp)(hr:RoomH k X.A)(hg:Gl X x)(hm:X.mg x=some (.ref f))(hk:PySem.W.keepIn X.K (.ref f)=true)(hb:Binds X.K fd ps [])
  (ha:PA X (e::es) t) (hdb:(x==("__debug__":Str))=false:=by decide) (he:starEach (e::es) X.env=(false,eval e X.env)::starEach es X.env:=by rfl) (hpl:(backTo pos (starEach es X.env)).any (·.1)=false:=by rfl):
  PE X (.Call (.Name x p) (e::es) [] pos) (tCall sp [] E t):=by
 intro pins s σ H Q I h;refine wpAny_Call_Name_kw (qa0z I hg hm ?_ hdb);refine PySem.W.callWith_K (h₀:=X.base) I.ok.mod.kin hk (thn (ha pos pins s σ H _ I h) fun us s1 ⟨vs,H1,I1,r,q⟩=>⟨I1.kIn,?_⟩) he hpl;have q':sp (vs++[]) H1 Q E:=q;rw[List.append_nil] at q';exact qugz F hr hb I1 r q'
end
end L2
namespace L3
open PySem PySem.Spec PyProof.Rows L2
abbrev FnH3(P:Program)(w:World)(K:PySem.W.Frag)(mg:Str->Option Value)(base:Heap)(k:Nat)(f:Addr)(fd:FuncData)(ps:List Str)(sp:Sp3):Prop:=FnOkH P w K mg base k f fd ps (lowSp K sp)
theorem quiz{X:Cx}{k:Nat}{f:Addr}{fd:FuncData}{ps:List Str}{sp:Sp3}{x:Str}{p pos:Pos}{e:Expr}{es:List Expr}{t:TA3}(F:FnH3 X.prog X.w X.K X.mg X.base k f fd ps sp)(hr:RoomH k X.A)(hm:X.mg x=some (.ref f))(hk:PySem.W.keepIn X.K (.ref f)=true)(hb:Binds X.K fd ps [])(ha:PA3 X (e::es) t)(hg:Gl X x:=by rfl)
  (hdb:(x==("__debug__":Str))=false:=by decide) (he:notStar e=true:=by rfl) (hpl:es.all notStar=true:=by rfl):
  PE3 X (.Call (.Name x p) (e::es) [] pos) (eCall sp t):=qvz (quhz (E:=E0) F hr hg hm hk hb ha hdb (qmz he) (qyz hpl)) fun σ H Q h=>qe3z h
theorem fnH3{P:Program}{w:World}{K:PySem.W.Frag}{mg:Str->Option Value}{base:Heap}{x qual:Str}{st:Stmt}{f:Addr}{fd:FuncData}{N ps:List Str}{k:Nat}{sp:Sp3}(F:Fun K x qual st f fd)(S:FnScope N ps (defScope st))(hN:ps.length≤N.length)(len:∀ds G Q,sp ds G Q->ds.length=ps.length)(tb:TS3)
  (hbody:∀(cdv:Value) (A:Around) (outer:List Env) (s:Shared) (H:Hp) (E:XK),RoomH k (A.deeper (envOfC qual (defScope st) s.heap.objs.size f cdv)) ->
   PSs3 (cxH P w K mg base N qual (defScope st) f cdv A outer s H E) (defBody st) tb)
  (hrd:∀ds G Q,sp ds G Q->tb (endsOf Q) (start3 N ds) G):FnH3 P w K mg base (k+1) f fd ps sp:=by
 refine qufz F S (fun vs H Q E h=>?_) (fun cdv A outer s H vs Q E hr h=>?_)
 ·obtain⟨ds,G,Q3,h1,h2,h3,h4⟩:=h;rw[←h1.length];exact len _ _ _ h3
 ·obtain⟨ds,G,Q3,h1,h2,h3,h4⟩:=h;refine⟨_,hbody cdv A outer s H E hr,start3 N ds,G,endsOf Q3,.start h1 ?_,h2,hrd _ _ _ h3,⟨?_,?_,?_,?_⟩⟩
  ·rw[←h1.length,len _ _ _ h3];exact hN
  ·exact fun τ σ G' H' a b c ⟨G0,s0,q⟩=>h4 _ H' .non G0 (by simp[Hv]) (b.trans (.sub s0)) (c.sub s0) q
  ·exact fun τ σ G' H' a b c q=>q.elim
  ·exact fun τ σ G' H' a b c q=>q.elim
  ·exact fun d v G' H' a b c ⟨G0,s0,q⟩=>h4 _ H' d G0 a (b.trans (.sub s0)) (c.sub s0) q
end L3
namespace L3
open PySem PySem.Spec PyProof.Rows L2
abbrev XK3:=S3->Gp->E3
abbrev TEX:=XK3->TE3
abbrev TSX:=XK3->TS3
def ExcTo(X:Cx)(pins:List (Addr×Obj))(H:Hp)(G:Gp)(KX:XK3)(XE:Value->Shared->Prop):Prop:=
 ∀(σ1:L2.St) (τ1:S3) (H1:Hp) (s1:Shared) (G1:Gp) (ev:Value) (s':Shared),Inv X pins σ1 H1 s1->RepS X.K τ1 σ1 H1->RepG X.K G1 H1->Step H G H1 G1->CXE X.prog X.w X.base X.stack H1 s1 (lowE2 X.K (KX τ1 G1) H1 G1) ev s'->XE ev s'
theorem ExcTo.step{X:Cx}{pins:List (Addr×Obj)}{H H1:Hp}{G G1:Gp}{KX:XK3}{XE:Value->Shared->Prop}(x:ExcTo X pins H G KX XE)(S:Step H G H1 G1):ExcTo X pins H1 G1 KX XE:=
 fun σ1 τ1 H2 s2 G2 ev s' a b c d e=>x σ1 τ1 H2 s2 G2 ev s' a b c (S.trans d) e
def PEX(X:Cx)(e:Expr)(t:TEX):Prop:=
 ∀(pins:List (Addr×Obj)) (s:Shared) (σ:L2.St) (H:Hp) (Q:VK) (XE:Value->Shared->Prop) (τ:S3) (G:Gp) (Q3:V3) (KX:XK3),Inv X pins σ H s->RepS X.K τ σ H->RepG X.K G H->t KX τ G Q3 ->
  (∀v H' d G',Hv X.K H' d v->Step H G H' G'->RepG X.K G' H'->Q3 d G'->Q v H')->ExcTo X pins H G KX XE->wpAny (model X.prog X.w) X.A (eval e X.env) (EP X pins σ Q) XE s
def PSX(X:Cx)(st:List Stmt)(t:TSX):Prop:=
 ∀(pins:List (Addr×Obj)) (s:Shared) (σ:L2.St) (H:Hp) (D2:Ends) (XE:Value->Shared->Prop) (τ:S3) (G:Gp) (D3:Ends3) (KX:XK3),Inv X pins σ H s->RepS X.K τ σ H->RepG X.K G H->t KX D3 τ G->EndsLow X.K H G D3 D2->ExcTo X pins H G KX XE ->
  wpAny (model X.prog X.w) X.A (execs st X.env) (SP X pins D2) XE s
section
variable {X:Cx} {k:Nat} {f:Addr} {fd:FuncData} {ps:List Str} {sp:SpX} {x:Str} {p pos:Pos} {a b e c:Expr} {es:List Expr} {t:TA3} {te:TE3} {tx:TEX} {tax:TAX} {tc:TT3} {ta tb tr:TSX} {sa sb rest:List Stmt}
def exCall(sp:SpX)(t:TA3):TEX:=fun KX τ G Q=>t τ G fun ds G1=>sp ds (fun d G'=>∀G2,Joins G1 G' G2->Q d G2) (KX τ G1)
theorem qujz(F:FnX X.prog X.w X.K X.mg X.base k f fd ps sp)(hr:Room k X.A)(hm:X.mg x=some (.ref f))(hk:PySem.W.keepIn X.K (.ref f)=true)(hb:Binds X.K fd ps [])(ha:PA3 X.nox (e::es) t)(hg:Gl X x:=by rfl)
  (hdb:(x==("__debug__":Str))=false:=by decide) (he:notStar e=true:=by rfl) (hpl:es.all notStar=true:=by rfl):
  PEX X (.Call (.Name x p) (e::es) [] pos) (exCall sp t):=by
 intro pins s σ H Q XE τ G Q3 KX I RS RG h kk xx;refine wpAny_Call_Name_kw (qa0z I hg hm ?_ hdb);refine PySem.W.callWith_K (h₀:=X.base) I.ok.mod.kin hk (wpAny_mono (ha pos pins s σ H (fun vs H1=>∃ds G1,Hvs X.K H1 ds vs/\Step H G H1 G1/\RepG X.K G1 H1/\sp ds (fun d G'=>∀G2,Joins G1 G' G2->Q3 d G2) (KX τ G1)) (I.wish _)
  ⟨τ,G,_,RS,RG,h,fun vs H1 ds G1 a b c q=>⟨ds,G1,a,b,c,q⟩⟩) (fun us s1 ⟨vs,H1,I1,r,ds,G1,hd,S1,R1,q⟩=>⟨I1.kIn,?_⟩) fun _ _ z=>False.elim z) (qmz he) (qyz hpl)
 exact qjzz F hr hb (fun ev s' h=>xx σ τ H1 s1 G1 ev s' I1.unwish (RS.ext (S1.ext RG)) R1 S1 h) I1.unwish r hd R1 q fun v H' d G' a b c q=>kk v H' d G' a (S1.trans b) c q
def sxExpr(tx:TEX)(tr:TSX):TSX:=fun KX D τ G=>tx KX τ G fun _ G1=>tr KX D τ G1
theorem qukz(h:PEX X e tx)(hr:PSX X rest tr)(hs:swapsWith e none pos.line X.env=pure false:=by rfl):PSX X (.Expr e pos::rest) (sxExpr tx tr):=by
 intro pins s σ H D2 XE τ G D3 KX I RS RG ht EL xx;refine wpAny_execs_cons (wpAny_Expr_any (thn (h pins s σ H (fun v H1=>∃d G1,Hv X.K H1 d v/\Step H G H1 G1/\RepG X.K G1 H1/\tr KX D3 τ G1) XE τ G _ KX I RS RG ht (fun v H' d G' a b c q=>⟨d,G',a,b,c,q⟩) xx) fun v s1 ⟨x,H1,I1,r1,d,G1,hd,S1,R1,q1⟩=>?_) I.quiet hs);exact hr pins s1 σ H1 D2 XE τ G1 D3 KX I1 (RS.ext (S1.ext RG)) R1 q1 (EL.step S1) (xx.step S1)
def sxNext:TSX:=fun _ D τ G=>D.nx τ G
theorem qulz:PSX X [] sxNext:=fun _ _ σ H D2 XE τ G D3 KX I RS RG h EL _=>wpAny_execs_nil ⟨σ,H,I,EL.nx τ σ G H RS (.refl H G) RG h⟩
end
end L3
namespace L2
open PySem PySem.Spec PyProof.Rows
open Builtin Builtin.ObjectAttr
open Sem (wp)
abbrev veTail:List Value:=[.type "ValueError",.type "Exception",.type "BaseException",.type "object"]
def strKeysB(es:Array DictEntry):Bool:=es.toList.all fun e=>match e.key with
 |.str _ _=>true
 |_=>false
theorem qumz{es:Array DictEntry}(h:strKeysB es=true):StrKeys es:=fun e he=>by
 have:=List.all_eq_true.mp h e (by simpa using he);cases q:e.key with
 |str n t=>exact⟨n,t,rfl⟩
 |_=>rw[q] at this;cases this
def nsB(K:PySem.W.Frag)(N:Addr)(init:Option Value):Bool:=match K.lookup N with
 |some ⟨_,_,.dict es _,_⟩=>strKeysB es&&nsFind es "__init__" == init
 |_=>false
theorem qunz{K:PySem.W.Frag}{h:Heap}{N:Addr}{init:Option Value}(X:K.In h)(e:nsB K N init=true):∃m,h.Ns N m/\m "__init__" = init:=by
 unfold nsB at e;split at e
 ·rename_i c d es ep sl ho;rw[Bool.and_eq_true] at e;exact⟨nsFind es,⟨_,es,ep,X _ _ ho,rfl,qumz e.1,fun _=>rfl⟩,beq_iff_eq.mp e.2⟩
 ·cases e
def excIn(K:PySem.W.Frag)(C:Addr)(bm:List Value)(init:Option Value)(newId:String):Bool:=match K.lookup C with
 | some ⟨.type "type",_,.cls cd,sl⟩=>(match cd.mro,sl.toList with
  |.ref C'::bm',[_,_,_,_,some (.builtin n),_]=>C'==C&&bm'==bm && !cd.hasDel&&cd.hasDict&&n==newId&&nsB K cd.ns init
  | _,_=>false)
 |_=>false
theorem qedz{K:PySem.W.Frag}{h:Heap}{C:Addr}{bm:List Value}{init:Option Value}{newId:String}(X:K.In h)(q:excIn K C bm init newId=true):∃nm qn N bs sn sub ab col dd k0 k1 k2 k3 k5 mN,
  h.get? C=some (excClassObj nm qn C N bs bm true sn sub ab col dd k0 k1 k2 k3 k5 newId)/\h.Ns N mN/\mN "__init__" = init:=by
 unfold excIn at q;split at q
 ·rename_i dd cd sl ho;split at q
  ·rename_i C' bm' k0 k1 k2 k3 n k5 hm hs;simp only[Bool.and_eq_true,beq_iff_eq,Bool.not_eq_true'] at q;obtain⟨⟨⟨⟨⟨rfl,rfl⟩,hdel⟩,hdct⟩,rfl⟩,hns⟩:=q;obtain⟨nm,bs,mro,ns,qn,hd,sn,sub,ab,col,del⟩:=cd;dsimp only at hm hdel hdct hns;subst hm hdel hdct;have hsl:sl = #[k0,k1,k2,k3,some (.builtin n),k5]:=by
    obtain⟨l⟩:=sl;simp only at hs;rw[hs]
   subst hsl;obtain⟨m,h1,h2⟩:=qunz X hns;exact⟨nm,qn,ns,bs,sn,sub,ab,col,dd,k0,k1,k2,k3,k5,m,X _ _ ho,h1,h2⟩
  ·cases q
 ·cases q
structure ExcCls(K:PySem.W.Frag)(C B:Addr)(init:Option Value):Prop where
 cls:excIn K C (.ref B::veTail) init "ValueError.__new__" = true
 base:excIn K B veTail none "ValueError.__new__" = true
theorem ExcCls.own{K:PySem.W.Frag}{C B:Addr}{init:Option Value}(x:ExcCls K C B init){h:Heap}(X:K.In h):∃nm qn N bs sn sub ab col dd k0 k1 k2 k3 k5 mN,
  h.get? C=some (excClassObj nm qn C N bs (.ref B::veTail) true sn sub ab col dd k0 k1 k2 k3 k5 "ValueError.__new__")/\h.Ns N mN/\mN "__init__" = init/\OwnTail h veTail (.ref B::veTail):=by
 obtain⟨nm,qn,N,bs,sn,sub,ab,col,dd,k0,k1,k2,k3,k5,mN,h1,h2,h3⟩:=qedz X x.cls;obtain⟨nm',qn',N',bs',sn',sub',ab',col',dd',k0',k1',k2',k3',k5',mN',h1',h2',h3'⟩:=qedz X x.base;exact⟨nm,qn,N,bs,sn,sub,ab,col,dd,k0,k1,k2,k3,k5,mN,h1,h2,h3,.own h1' h2' h3' .base⟩
structure ExcSet(K:PySem.W.Frag)(C B:Addr)(names:List Str):Prop where
 sa:PySem.W.findIn K (.ref C) "__setattr__" = some (some (.builtin "object.__setattr__"))
 obj:PySem.W.mroIn K C (.type "object")=some true
 mro:∃cd,PySem.W.clsIn K C=some cd/\cd.mro=.ref C::.ref B::veTail/\cd.hasDict=true
 nm:∀n∈names,PySem.W.findIn K (.ref C) n=some none
section
variable {prog:Program} {w:World} {A:Around} {E:Value->Shared->Prop} {s:Shared} {K:PySem.W.Frag} {C B x:Addr} {names:List Str} {name:Str} {v:Value} {mA:Str->Option Value}
theorem quoz{h:Heap}(I:h.Inst x C mA):∃ox od,PySem.W.InstAt h x ox C od:=by
 obtain⟨o,hx,hc,hnc,hd⟩:=I;have hn:PySem.W.notCls o=true:=by
  unfold PySem.W.notCls;split
  ·rename_i c q;exact absurd q (hnc c)
  ·rfl
 rcases hd with⟨hd,_⟩|⟨d,hd,_,od,es,ep,hod,_⟩
 ·exact⟨o,none,hx,hc,hn,by rw[hd];trivial⟩
 ·exact⟨o,some od,hx,hc,hn,by rw[hd];exact hod⟩
theorem qupz{ns:List Str}{Q:Unit->Shared->Prop}(S:ExcSet K C B names)(hn:name∈names)(X:K.In s.heap)(I:s.heap.Inst x C mA)(hw:Within mA ns)(hsz:ns.length≤1000)
  (hq:∀h' tk',h'.Inst x C (fun y=>if y=name then some v else mA y) ->
   (∀b o,b≠x->(∀o₀ dx,s.heap.get? x=some o₀->o₀.dict=some dx->b≠dx)->s.heap.get? b=some o->h'.get? b=some o) ->
   (∀o₀,s.heap.get? x=some o₀->∃o₁,h'.get? x=some o₁/\o₁.cls=o₀.cls/\o₁.data=o₀.data/\o₁.slots=o₀.slots/\(∀dx,o₀.dict=some dx->o₁.dict=some dx)/\(o₀.dict=none->o₁.dict=some s.heap.objs.size))->Q () { s with heap:=h',toks:=tk' }):
  wpAny (model prog w) A (setAttr (.ref x) name v) Q E s:=by
 obtain⟨ox,od,IA⟩:=quoz I;obtain⟨cd,hcd,hmro,hdct⟩:=S.mro;refine PySem.W.set_plain X IA S.sa ?_;have X':K.In ({ s with toks:=s.toks+1 }:Shared).heap:=X;have IA':PySem.W.InstAt ({ s with toks:=s.toks+1 }:Shared).heap x ox C od:=IA;have SF:=PySem.F.store_object;have sub:PySem.W.Looks (model prog w) ({ s with toks:=s.toks+1 }:Shared).heap (isInstance (.ref x) (.type "object")) true:=IA'.type.andThen (PySem.W.looks_mroIn X' S.obj);have hm:PySem.W.Looks (model prog w) ({ s with toks:=s.toks+1 }:Shared).heap (mroOf (.ref C)) cd.mro:=(PySem.W.looks_clsIn X' hcd).andThen .now;refine codeAny_call_builtin SF.slot.plain SF.entry (@PySem.W.check_slot (model prog w) _ _ { s with toks:=s.toks+1 } "object.__setattr__" "object" "__setattr__" (.ref x) [.str name s.toks,v] [] _ SF.kind SF.split sub (SF.args (.ref x) (.str name s.toks) v) ?_);rw[PySem.W.osa_eq,refuse_eq];refine wpAny_bind (wpAny_bind (IA'.type.here (wpAny_bind (hm.here ?_))));rw[hmro,refuseLoop_ref,refuseLoop_ref,PySem.F.store_ValueError.passes];refine wpAny_pure (wpAny_bind (IA'.type.here (wpAny_bind ((PySem.W.looks_findIn X' (S.nm name hn)).here (wpAny_bind (wpAny_pure ?_))))));obtain⟨o,hx,hc,hnc,hd⟩:=I;obtain⟨hp,g,dr,tk0,os⟩:=s;dsimp only at hx X IA hq hd X' IA';have LC:=PySem.W.looks_clsIn (M:=model prog w) X' hcd;obtain⟨oc,odi,oda,osl⟩:=o;dsimp only at hc hnc hd;subst hc;show wpAny _ _ (storeInOwnDict (.ref x) (.ref C) (.str name tk0) name v false) _ _ _;refine wpAny_bind (wpAny_pure (wpAny_bind (wpAny_bind (wpAny_loadPart hx (wpAny_bind (LC.here ?_))))));rw[hdct];rcases hd with⟨hdn,hmA⟩|⟨dx,hdx,hne,hns⟩
 ·subst hdn;have hx₁:(hp.push { cls:=.type "dict",data:=.dict #[]}).get? x=some ⟨.ref C,none,oda,osl⟩:=Heap.get?_push_of_some _ hx;have hxs:x≠hp.objs.size:=Nat.ne_of_lt (Heap.lt_size hx);have hgd:((hp.push { cls:=.type "dict",data:=.dict #[]}).update x fun o=>{ o with dict:=some hp.objs.size }).get? hp.objs.size
     = some { cls:=.type "dict",data:=.dict #[]}:=
    (Heap.get?_update_ne _ _ _ _ hxs.symm).trans (Heap.get?_push_at rfl rfl)
  have hnd:((hp.push { cls:=.type "dict",data:=.dict #[]}).update x fun o=>{ o with dict:=some hp.objs.size }).Ns hp.objs.size (fun _=>none):=
    ⟨_,#[],_,hgd,rfl,fun e he=>absurd he (by simp),fun _=>rfl⟩
  have core:wpAny (model prog w) A.in1 (storeInDict hp.objs.size (.str name tk0) name v) (fun fin s'=>match fin with | .done f=>(match f with | .ret _=>Q () s' | _=>False) | .again c'=>False) (fun e s'=>E e s') ⟨(hp.push { cls:=.type "dict",data:=.dict #[]}).update x fun o=>{ o with dict:=some hp.objs.size },g,dr,tk0+1,os⟩:=by
   unfold storeInDict newKeyGuard;refine wpAny_bind (wpAny_pure (wpAny_bind (wpAny_nsSet1 (Heap.Ns1.of_empty hnd) fun h' hn' hs=>?_)));obtain⟨oD,esD,epD,hoD,hdD,hcD⟩:=hn'.count (Within.cons name v Within.nil);refine wpAny_bind (wpAny_lookBehind hoD (by rw[hdD];exact pastItsLine_dict (Nat.le_trans hcD (by rw[List.length_cons,List.length_nil,sizeLine_eq];lia))) ?_);refine wpAny_pure ?_;have hx':h'.get? x=some ⟨.ref C,some hp.objs.size,oda,osl⟩:=by
    refine (hs.2 x hxs).trans (Heap.get?_update_self _ hx₁ ?_);have hfr:=(Heap.get?_some_iff.mp hx).2;cases oda<;>first|rfl|exact hfr
   refine hq h' _ ⟨_,hx',rfl,hnc,.inr ⟨hp.objs.size,rfl,hxs.symm,?_⟩⟩ (fun b ob hbx _ hb=>?_)
    (fun o₀ h₀=>by obtain rfl:=Option.some.inj (hx.symm.trans h₀);exact⟨_,hx',rfl,rfl,rfl,fun dx e=>(nomatch e),fun _=>rfl⟩)
   ·obtain⟨o',es,ep,e1,e2,e3,eu,e4⟩:=hn';exact⟨o',es,ep,e1,e2,e3,eu,fun y=>by rw[e4 y];by_cases hy:y=name<;>simp[hy,hmA]⟩
   ·exact (hs.2 b (Nat.ne_of_lt (Heap.lt_size hb))).trans ((Heap.get?_update_ne _ _ _ _ hbx).trans (Heap.get?_push_of_some _ hb))
  rw[if_neg (by decide)];dsimp only;rw[if_neg (by simp[typeHasDict])];split
  ·first
    | (rename_i q;exact absurd q (hnc _))
    | (rename_i q _;exact absurd q (hnc _))
    | (rename_i q _ _;exact absurd q (hnc _))
    | (exfalso;simp_all)
  ·refine wpAny_bind (wpAny_alloc' ?_);refine wpAny_bind (wpAny_update' hx₁ ?_);refine wpAny_pure (a:=some hp.objs.size) ?_;show wpAny _ _ (storeInDict hp.objs.size (.str name tk0) name v) _ _ _;refine wpAny_mono core (fun fin s' z=>?_) fun _ _ z=>z;cases fin with
   |done f=>
    cases f with
    |ret r=>exact z
    |_=>exact z.elim
   |again c=>exact z.elim
 ·subst hdx;refine wpAny_pure (a:=some dx) ?_;show wpAny _ _ (storeInDict dx (.str name tk0) name v) _ _ _;unfold storeInDict newKeyGuard;refine wpAny_bind (wpAny_pure (wpAny_bind (wpAny_nsSet1 hns fun h' hn' hs=>?_)));obtain⟨oD,esD,epD,hoD,hdD,hcD⟩:=hn'.count (Within.cons name v hw);refine wpAny_bind (wpAny_lookBehind hoD (by rw[hdD];exact pastItsLine_dict (Nat.le_trans hcD (by rw[List.length_cons,sizeLine_eq];lia))) ?_);refine wpAny_pure ?_;have hx':=(hs.2 x hne.symm).trans hx;refine hq h' _ ⟨_,hx',rfl,hnc,.inr ⟨dx,rfl,hne,hn'⟩⟩ (fun b ob _ hbd hb=>(hs.2 b (hbd _ dx hx rfl)).trans hb)
   (fun o₀ h₀=>by obtain rfl:=Option.some.inj (hx.symm.trans h₀);exact⟨_,hx',rfl,rfl,rfl,fun _ e=>e,fun e=>(nomatch e)⟩)
end
end L2
namespace L2
open PySem PySem.Spec PyProof.Rows
open Sem (wp)
structure TurnX(l:List Env)(e T:Addr)(h h':Heap):Prop where
 keep:∀b o,b≠e->b≠T->b∉frs l->h.get? b=some o->h'.get? b=some o
 slot:∀b o,b∈frs l->h.get? b=some o->∃sl,h'.get? b=some { o with slots:=sl }
theorem LeftD.turnX{base:Heap}{l:List Env}{e T:Addr}{cls:Value}{dx:Option Addr}{h h':Heap}(L:LeftD base l e T cls dx h h'):TurnX l e T h h':=⟨L.keep,L.slot⟩
section
variable {M:Model} {A:Around} {E:Value->Shared->Prop} {s:Shared}
theorem quqz{base:Heap}{env:Env}{outer:List Env}{L e T:Addr}{cls:Value}{dx:Option Addr}{Q:Unit->Shared->Prop}
  (hfr:A.frames=some (env::outer)) (hl:s.heap.FunFrames base (env::outer)) (hf:env.frame=some L) (ht:TracedD base s.heap e T cls dx) (hkb:base.StaysIn s.heap) (hen:base.get? e=none)
  (h:∀h',LeftD base (env::outer) e T cls dx s.heap h'->Q () { s with heap:=h' }):wpAny M A (noteFrame (.ref e) env) (fun _ s'=>wpAny M A (setFlight (.ref e) none) Q E s') E s:=by
 obtain⟨⟨oe,vs,he,hcls,hdx,hd,h1,h2⟩,hnT,hTe,oT,ts,hT,hdT,h3⟩:=ht;subst hcls hdx;unfold noteFrame;simp only[hf];refine wpAny_bind (wpAny_field he hd h1 ?_);rw[if_pos (show (Value.ref T != Value.none)=true from by simp)];refine wpAny_bind (wpAny_field hT hdT h3 ?_);rw[if_neg (show ¬((Value.none==rawInt L)=true) from by simp[rawInt])];refine wpAny_bind (wpAny_setField hT hdT (Array.getElem?_eq_some_iff.mp h3).1 ?_);have other:∀b,b≠T->(s.heap.update T (Obj.mapFields (·.setIfInBounds 3 Value.none))).get? b=s.heap.get? b:=fun b hb=>Heap.get?_update_other _ _ (Ne.symm hb);have noRecord:∀b o,s.heap.get? b=some o->(∀vs,o.data≠.fields vs)->b≠T:=fun b o hb hnf q=>by
  rw[q,hT] at hb;injection hb with hb;subst hb;exact hnf ts hdT
 have hTf:T∉frs (env::outer):=fun hm=>by
  obtain⟨_,o,ho,hnf⟩:=hl.mem hm;rw[hT] at ho;injection ho with ho;subst ho;exact hnf ts hdT
 refine newEntryD hfr (hl.of_keeps fun b o hb hnf=>⟨o,(other b (noRecord b o hb hnf)).trans hb,rfl⟩) hf ((other e (Ne.symm hTe)).trans he)
  (fun b o hbo=>(other b fun q=>by rw[q,hnT] at hbo;cases hbo).trans (hkb b o hbo)) hen hd (Array.getElem?_eq_some_iff.mp h1).1 h2
  fun h' ⟨x1,x2,⟨T',x3,x3'⟩,x4,x5⟩=>h h' ⟨x1,x2,⟨T',x3,?_⟩,fun b o hbe hbT hbf hb=>x4 b o hbe hbe hbf ((other b hbT).trans hb),fun b o hbf hb=>x5 b o hbf ((other b fun q=>hTf (q▸hbf)).trans hb)⟩
 by_cases hq:T'=T
 ·subst hq;obtain⟨o2,e2⟩:∃o2,(s.heap.update T' (Obj.mapFields (·.setIfInBounds 3 Value.none))).get? T'=some o2:=⟨_,Heap.get?_update_self _ hT (Obj.isFreed_of_fields (Obj.data_mapFields hdT _))⟩;rw[e2] at x3';cases x3'
 ·rw[←other T' hq];exact x3'
theorem flightD{base:Heap}{e T:Addr}{cls:Value}{dx:Option Addr}{Q:Unit->Shared->Prop}(ht:TracedD base s.heap e T cls dx)
  (h:∀h',(∀b o,b≠T->s.heap.get? b=some o->h'.get? b=some o)->TracedD base h' e T cls dx->Q () { s with heap:=h' }):wpAny M A (setFlight (.ref e) none) Q E s:=by
 obtain⟨⟨oe,vs,he,hcls,hdx,hd,h1,h2⟩,hnT,hTe,oT,ts,hT,hdT,h3⟩:=ht;unfold setFlight;refine wpAny_bind (wpAny_field he hd h1 ?_);rw[if_pos (show (Value.ref T != Value.none)=true from by simp)];have hz:=(Array.getElem?_eq_some_iff.mp h3).1;refine wpAny_setField hT hdT hz (h _ (fun b o hb q=>(Heap.get?_update_other _ _ (Ne.symm hb)).trans q) ⟨⟨oe,vs,(Heap.get?_update_other _ _ hTe).trans he,hcls,hdx,hd,h1,h2⟩,hnT,hTe,_,_,Heap.get?_update_self _ hT (Obj.isFreed_of_fields (Obj.data_mapFields hdT _)),Obj.data_mapFields hdT _,?_⟩);simp[hz]
theorem excMatchesB{nm q:Str}{C N B:Addr}{bs bm:List Value}{hdct:Bool}{sn:List Str}{sub:List Value}{ab:Bool}{col:Option Bool}{dd:Option Addr}{k0 k1 k2 k3 k5:Option Value}{newId:String}
  {nm' q':Str} {N':Addr} {bs' bm':List Value} {hdct':Bool} {sn':List Str} {sub':List Value} {ab':Bool} {col':Option Bool} {dd':Option Addr} {k0' k1' k2' k3' k5':Option Value} {newId':String}
  {h:Heap} {g:Array GenState} {d:Drawn} {t:Nat} {os:OsState} {e:Addr} {oe:Obj} {Q:Bool->Shared->Prop}
  (hC:h.get? C=some (excClassObj nm q C N bs bm hdct sn sub ab col dd k0 k1 k2 k3 k5 newId)) (hB:h.get? B=some (excClassObj nm' q' B N' bs' bm' hdct' sn' sub' ab' col' dd' k0' k1' k2' k3' k5' newId'))
  (he:h.get? e=some oe) (hcls:oe.cls=.ref C) (hbase:bm'.contains (.type "BaseException")=true) (hsub:(Value.ref C::bm).contains (.ref B)=true)
  (hq:Q true ⟨h,g,d,t,os⟩):wpAny M A (excMatches (.ref e) (.ref B)) Q E ⟨h,g,d,t,os⟩:=by
 have hcB:(Value.ref B::bm').contains (.type "BaseException")=true:=by rw[List.contains_cons,hbase,Bool.or_true]
 have f:=tc_notTuple;unfold excMatches
 repeat (first|(with_reducible refine wpAny_loadPart_at he ?_;rw[hcls])|with_reducible refine wpAny_loadPart_at hB ?_|(with_reducible refine wpAny_isSubtype_exc hB ?_;rw[hcB])|(with_reducible refine wpAny_isSubtype_exc hC ?_;rw[hsub])|wp_step)
 exact hq
end
section
variable {X:Cx} {pins:List (Addr×Obj)} {σ:St} {H:Hp} {s:Shared} {h':Heap} {e T:Addr}
structure Frame(X:Cx):Prop where
 ex:X.ex=[]
 st:X.stack=X.env::X.outer
 fr:X.env.frame=some X.env.locals
theorem Inv.turnedX(I:Inv X pins σ H s)(F:Frame X)(L:TurnX X.stack e T s.heap h')(he:X.s₀.heap.get? e=none)(hT:X.s₀.heap.get? T=none)(hHe:H e=none)(hHT:H T=none)
  (hp:∀p∈X.pn++pins,p.1≠e/\p.1≠T) (eo:∃oe vs,s.heap.get? e=some oe/\oe.data=.fields vs) (To:∃oe vs,s.heap.get? T=some oe/\oe.data=.fields vs):Inv X pins σ H { s with heap:=h' }:=by
 have hloc:X.s₀.heap.get? X.env.locals=none:=Heap.get?_none_of_le I.ok.above;have sub:∀b,b∈frs X.stack->b=X.env.locals∨b∈frs X.outer:=fun b hb=>List.mem_cons.mp (I.stkSub b hb);have ne:∀{b c:Addr} {o:Obj},X.s₀.heap.get? b=some o->X.s₀.heap.get? c=none->b≠c:=fun h1 h2 z=>by
  rw[z,h2] at h1;cases h1
 have nox:∀b:Addr,b∉X.ex:=fun b z=>by
  rw[F.ex] at z;cases z
 have inStk:X.env.locals∈frs X.stack:=by
  rw[F.st];unfold frs;rw[List.filterMap_cons,F.fr];exact List.mem_cons_self
 have supF:∀b,b∈frs X.outer->b∈frs X.stack:=fun b hb=>by
  rw[F.st];unfold frs;rw[List.filterMap_cons,F.fr];exact List.mem_cons_of_mem _ hb
 have noF:∀{b:Addr} {o:Obj},s.heap.get? b=some o->(∀vs,o.data≠.fields vs)->b≠e/\b≠T:=fun {b o} hb hn=>⟨fun z=>by
  obtain⟨oe,vs,q1,q2⟩:=eo;rw[z,q1] at hb;cases hb;exact hn vs q2,fun z=>by
  obtain⟨oe,vs,q1,q2⟩:=To;rw[z,q1] at hb;cases hb;exact hn vs q2⟩
 have cellK:∀c v,s.heap.IsCell c v->h'.IsCell c v:=fun c v hc=>by
  obtain⟨o,ho,hd⟩:=hc;by_cases hb:c∈frs X.stack
  ·obtain⟨sl,k2⟩:=L.slot c o hb ho;exact⟨_,k2,hd⟩
  ·obtain⟨n1,n2⟩:=noF ho (fun vs q=>by rw[hd] at q;cases q);exact⟨o,L.keep c o n1 n2 hb ho,hd⟩
 refine⟨I.ok,I.os,I.bare,⟨fun b o h1 h2 h3 _=>?_,fun b o h1 h2 h3 _=>?_,I.base.free,fun b o h1 hx=>?_,I.base.tups,I.base.frzs,I.base.tbls⟩,?_,fun x c hc=>?_,I.free,I.freeC,fun p hp'=>?_,fun a o ha=>?_,I.len⟩
 ·have k1:=I.base.keep b o h1 h2 h3 (nox b);refine L.keep b o (ne h1 he) (ne h1 hT) (fun z=>?_) k1;rcases sub b z with z|z
  ·exact ne h1 hloc z
  ·exact h3 z
 ·obtain⟨sl,k1⟩:=I.base.slot b o h1 h2 h3 (nox b);obtain⟨sl',k2⟩:=L.slot b _ (supF b h3) k1;exact⟨sl',k2⟩
 ·obtain⟨o',k1⟩:=I.base.there b o h1 (nox b);by_cases hb:b∈frs X.stack
  ·obtain⟨sl,k2⟩:=L.slot b o' hb k1;exact⟨_,k2⟩
  ·exact⟨o',L.keep b o' (ne h1 he) (ne h1 hT) hb k1⟩
 ·obtain⟨m,⟨o,es,ep,ho,r⟩,hl⟩:=I.loc;obtain⟨sl,k2⟩:=L.slot _ o inStk ho;refine⟨m,⟨_,es,ep,k2,r⟩,fun i x v h1 h2 h3=>?_⟩;obtain⟨u,ru,lk⟩:=hl i x v h1 h2 h3;refine⟨u,ru,?_⟩;rcases lk with lk|⟨kd,c,hc,ic⟩
  ·exact .inl lk
  ·exact .inr ⟨kd,c,hc,cellK c _ ic⟩
 ·obtain⟨v,hv⟩:=I.cell x c hc;exact⟨v,cellK c v hv⟩
 ·obtain⟨q1,q2,q3,q4,q5⟩:=I.pin p hp';refine⟨L.keep p.1 p.2 (hp p hp').1 (hp p hp').2 (fun z=>?_) q1,q2,q3,q4,q5⟩;rcases sub _ z with z|z
  ·exact q3 z
  ·exact q4 z
 ·refine (I.hok a o ha).stay (fun b u hb q=>?_) (fun _ q=>q) fun _ _ q=>q;have hHb:H b≠none:=by
   rcases hb with rfl|hb
   ·rw[ha];simp
   ·rw[hb];simp
  exact L.keep b u (fun z=>hHb (z▸hHe)) (fun z=>hHb (z▸hHT)) (fun z=>hHb (I.stkFree b z)) q
theorem Inv.forget{m':Str->Option Value}{t':Nat}(I:Inv X pins σ H s)(hs:Heap.SameBut X.env.locals s.heap h')(hn:h'.Ns X.env.locals m'):Inv X pins (List.replicate X.N.length none) H { s with heap:=h',toks:=t' }:=by
 have hloc:X.s₀.heap.get? X.env.locals=none:=Heap.get?_none_of_le I.ok.above;have k:∀b o,b≠X.env.locals->s.heap.get? b=some o->h'.get? b=some o:=fun b o hb q=>(hs.2 b hb).trans q;have ne:∀{b:Addr} {o:Obj},X.s₀.heap.get? b=some o->b≠X.env.locals:=fun h1 z=>by
  rw[z,hloc] at h1;cases h1
 refine⟨I.ok,I.os,I.bare,⟨fun b o h1 h2 h3 h4=>k b o (ne h1) (I.base.keep b o h1 h2 h3 h4),fun b o h1 h2 h3 h4=>?_,I.base.free,fun b o h1 h2=>?_,I.base.tups,I.base.frzs,I.base.tbls⟩,⟨m',hn,fun i x v h1 h2 h3=>?_⟩,fun x c hc=>?_,I.free,I.freeC,fun p hp=>?_,fun a o ha=>?_,by simp⟩
 ·obtain⟨sl,q⟩:=I.base.slot b o h1 h2 h3 h4;exact⟨sl,k _ _ (ne h1) q⟩
 ·obtain⟨o',q⟩:=I.base.there b o h1 h2;exact⟨o',k _ _ (ne h1) q⟩
 ·rw[List.getElem?_replicate] at h2;split at h2<;>cases h2
 ·obtain⟨v,o,ho,hd⟩:=I.cell x c hc;exact⟨v,o,k _ _ (I.cne x c hc) ho,hd⟩
 ·obtain⟨q1,q2,q3,q4,q5⟩:=I.pin p hp;exact⟨k _ _ q3 q1,q2,q3,q4,q5⟩
 ·refine (I.hok a o ha).stay (fun b u hb q=>k b u (fun z=>?_) q) (fun _ q=>q) fun _ _ q=>q;rcases hb with hb|hb
  ·rw[←hb,z,I.free] at ha;cases ha
  ·rw[z,I.free] at hb;cases hb
abbrev Cx.caught(X:Cx)(e:Addr):Cx:={ X with A:=X.A.mark (some (.ref e)),calm:=false,xe:=fun _ _=>False }
theorem Inv.caught(I:Inv X pins σ H s)(e:Addr):Inv (X.caught e) pins σ H s:=by
 obtain⟨ok,a1,a2,a3,a4,a5,a6,a7,a8,a9,a10⟩:=I;obtain⟨o1,o2,o3,o4,o5,o6,o7,o8,_,o10,o11,o12,o13,o14,o15,o16,o17,o18⟩:=ok;exact⟨⟨o1,o2,o3,o4,o5,o6,o7,o8,(fun z=>nomatch z),o10,o11,o12,o13,o14,o15,o16,o17,o18⟩,a1,a2,a3,a4,a5,a6,a7,a8,a9,a10⟩
theorem Inv.uncaught{e:Addr}(I:Inv (X.caught e) pins σ H s)(ok:X.Ok):Inv X pins σ H s:=by
 obtain⟨_,a1,a2,a3,a4,a5,a6,a7,a8,a9,a10⟩:=I;exact⟨ok,a1,a2,a3,a4,a5,a6,a7,a8,a9,a10⟩
theorem trackHOk{P:Program}{w:World}{h:Heap}{a:Addr}{o:HO}(ok:HOk P w H h)(hn:H a=none)(new:ObjOk P w (upd H a o) h a o):HOk P w (upd H a o) h:=fun b u e=>by
 by_cases z:b=a
 ·subst z;rw[qtz] at e;cases e;exact new
 ·rw[qlz z] at e;refine (ok b u e).stay (fun _ _ _ q=>q) (fun c q=>?_) fun c xs q=>?_
  ·rw[qlz (fun z=>by rw[z,hn] at q;cases q)];exact q
  ·rw[qlz (fun z=>by rw[z,hn] at q;cases q)];exact q
theorem Inv.track{a:Addr}{o:HO}(I:Inv X pins σ H s)(hn:H a=none)(h0:X.s₀.heap.get? a=none)(new:ObjOk X.prog X.w (upd H a o) s.heap a o)(hl:a≠X.env.locals)(hc:∀x c,X.env.cells.lookup x=some c->c≠a)(hp:∀p∈X.pn++pins,p.1≠a):Inv X pins σ (upd H a o) s:=by
 refine⟨I.ok,I.os,I.bare,⟨I.base.keep,I.base.slot,fun b ob h1 h2 h3=>?_,I.base.there,fun b xs e=>?_,fun b x u e=>?_,fun b ps e=>?_⟩,I.loc,I.cell,by rw[qlz hl.symm];exact I.free,fun x c e=>by rw[qlz (hc x c e)];exact I.freeC x c e,fun p hp'=>?_,trackHOk I.hok hn new,I.len⟩
 ·rw[qlz (fun z=>by rw[z,h0] at h1;cases h1)];exact I.base.free b ob h1 h2 h3
 ·have:=I.base.tups b xs e;rw[qlz (fun z=>by rw[z,hn] at this;cases this)];exact this
 ·have:=I.base.frzs b x u e;rw[qlz (fun z=>by rw[z,hn] at this;cases this)];exact this
 ·obtain⟨more,q⟩:=I.base.tbls b ps e;refine⟨more,?_⟩;rw[qlz (fun z=>by rw[z,hn] at q;cases q)];exact q
 ·obtain⟨q1,q2,q3,q4,q5⟩:=I.pin p hp';exact⟨q1,by rw[qlz (hp p hp')];exact q2,q3,q4,q5⟩
end
end L2
namespace L3
open PySem PySem.Spec PyProof.Rows L2
def excφ(a C:Addr)(dx:Option Addr):Heap->Prop:=fun h=>∃oe vs,h.get? a=some oe/\oe.cls=.ref C/\oe.dict=dx/\oe.data=.fields vs/\vs[2]?=some .none
def excR(x:Str)(fs:List (Str×Int)):PySem.W.Frag->Addr->Hp->Prop:=fun K a H=>∃C dx,ClsN K x C/\H a=some (.ext (excφ a C dx))/\DictIs H dx fs
theorem DictIs.keep{H H':Hp}{dx:Option Addr}{fs:List (Str×Int)}(h:DictIs H dx fs)(k:∀b o u,H b=some (.frz o u)->H' b=some (.frz o u)):DictIs H' dx fs:=by
 rcases h with h|⟨d,o,h1,h2⟩
 ·exact .inl h
 ·exact .inr ⟨d,o,h1,k _ _ _ h2⟩
theorem qurz{K:PySem.W.Frag}{H:Hp}{a:Addr}{x:Str}{fs:List (Str×Int)}(h:excR x fs K a H):GOk K H a (.gen (excR x fs)):=
 ⟨h,by obtain⟨C,dx,_,e,_⟩:=h;exact⟨_,e,fun _=>nofun,fun _ _=>nofun⟩,fun H1 H2 t f e ⟨C,dx,h1,h2,h3⟩=>⟨C,dx,h1,e.trans h2,h3.keep f⟩⟩
def Takes(K:PySem.W.Frag)(names:List Str)(B:Addr):Prop:=∀x∈names,∀C,ClsN K x C->∃init,ExcCls K C B init
def sTryP(names:List Str)(i:Nat)(tx:TSX)(th:Addr->TS3)(tr:TS3):TS3:=fun D τ G=>
 tx (fun τ1 G1 x fs=>x∈names/\∀p G2,New G1 p (.gen (excR x fs)) G2->th p { nx:=fun _ _=>False,rt:=D.rt } (set3 τ1 i (.obj p)) G2) { D with nx:=tr D } τ G
theorem qusz{X:Cx}{i:Nat}{cx en:Str}{names:List Str}{body suite rest:List Stmt}{b₀:Stmt}{np hpos pos:Pos}{tx:TSX}{th:Addr->TS3}{tr:TS3}{B:Addr}(F:Frame X)(T7:Takes X.K names B)(hm:X.mg cx=some (.ref B))(hN:X.N.Nodup)(hb:PSX X body tx)(hh:∀e,PSs3 (X.caught e) (b₀::suite) (th e))(hr:PSs3 X rest tr)
  (hi:X.N[i]?=some en:=by rfl) (hl:X.env.scope.names.lookup en=some .local:=by rfl) (hg:Gl X cx:=by rfl) (hdb:(cx==("__debug__":Str))=false:=by decide):
  PSs3 X (.Try body [.ExceptHandler (some (.Name cx np)) (some en) (b₀::suite) hpos] [] [] pos::rest) (sTryP names i tx th tr):=by
 intro pins s σ H D2 I ⟨τ,G,D3,RS,RG,ht,EL⟩;refine wpAny_execs_cons (wpAny_Try_except ?_);have EL':EndsLow X.K H G { D3 with nx:=tr D3 } { D2 with nx:=fun σ' H'=>lowS X.K tr D2 σ' H' }:=⟨fun τ' σ' G' H' a b c q=>⟨τ',G',D3,a,c,q,EL.step b⟩,EL.bk,EL.ct,EL.rt⟩;refine wpAny_mono (hb pins s σ H _ _ τ G _ _ I RS RG ht EL' ?exc) (fun fl s1 q=>?fin) (fun e s1 q=>q)
 case fin=>
  cases fl with
  |next=>
   obtain⟨σ',H',I',q⟩:=q;exact wpAny_execs_nil (hr pins s1 σ' H' D2 I' q)
  |ret u=>exact q
  |brk=>exact q
  |cont=>exact q
 case exc=>
  intro σ1 τ1 H1 s1 G1 ev s' I1 RS1 R1 S1 cxx;obtain⟨e,T,C,dx,H',rfl,os,bare,u,ok,tr',⟨hHe,hHT⟩,hen,⟨he0,hT0⟩,⟨x,C',fs,ec,cn,⟨hxn,kq⟩,dd⟩,R2,S2⟩:=cxx;cases ec;have I':Inv X pins σ1 H' s':=I1.call' (ch:=[]) os u ok bare (fun b z=>absurd z (by simp));have s0:∀{b:Addr},s1.heap.get? b=none->X.s₀.heap.get? b=none:=fun {b} hb=>by
   cases hq:X.s₀.heap.get? b with
   |none=>rfl
   |some o=>
    obtain⟨o',e'⟩:=I1.base.there b o hq (by rw[F.ex];simp);rw[hb] at e';cases e'
  have pne:∀p∈X.pn++pins,p.1≠e/\p.1≠T:=fun p hp=>by
   have q:=(I1.pin p hp).1;refine⟨fun z=>?_,fun z=>?_⟩
   ·rw[z,he0] at q;cases q
   ·rw[z,hT0] at q;cases q
  have eo:=tr'.obj;have To:=tr'.ent;refine quqz (base:=X.base) (by rw[I'.ok.frames,F.st]) (by rw[←F.st];exact I'.stack) F.fr tr' I'.bk hen fun h2 L=>?_;rw[←F.st] at L;have I2:=I'.turnedX F L.turnX (s0 he0) (s0 hT0) hHe hHT pne (by obtain⟨oe,vs,q1,_,_,q2,_⟩:=eo;exact⟨oe,vs,q1,q2⟩) (by obtain⟨oe,vs,q1,q2,_⟩:=To;exact⟨oe,vs,q1,q2⟩);obtain⟨T2,tr2,hT2⟩:=L.traced;obtain⟨oe,vs,q1,q2,q3,q4,q5,q6⟩:=tr2.obj;obtain⟨oT,ts,r1,r2,r3⟩:=tr2.ent;have Ic:=I2.caught e;obtain⟨init,ec⟩:=T7 x hxn C cn;refine wpAny_handleBy_cons (codeAny_handlers_test (qa0z (X:=X.caught e) Ic hg hm ?_ hdb)) (by intro q;cases q);obtain⟨nm,qn,N,bs,sn,sub,ab,col,dd',k0,k1,k2,k3,k5,mN,hC,_⟩:=qedz Ic.kIn ec.cls;obtain⟨nm',qn',N',bs',sn',sub',ab',col',dd'',k0',k1',k2',k3',k5',mN',hB,_⟩:=qedz Ic.kIn ec.base;refine excMatchesB hC hB q1 q2 (by decide +kernel) (by simp) ?_;refine codeAny_handlers_suite_as ?_;refine flightD tr2 fun h3 kp tr3=>?_;have sT2:X.s₀.heap.get? T2=none:=by
   cases hq:X.s₀.heap.get? T2 with
   |none=>rfl
   |some o=>
    obtain⟨o',e'⟩:=I'.base.there T2 o hq (by rw[F.ex];simp);rw[hT2] at e';cases e'
  have hHT2:H' T2=none:=by
   cases hq:H' T2 with
   |none=>rfl
   |some o=>
    obtain⟨ob,e'⟩:=ObjOk.there (I'.hok T2 o hq);rw[hT2] at e';cases e'
  have I3:=I2.turnedX (h':=h3) F (e:=e) (T:=T2) ⟨fun b o _ hT _ q=>kp b o hT q,fun b o hb q=>⟨o.slots,kp b o (fun z=>by
   obtain⟨_,o',ho',hd⟩:=I2.stack.mem hb;rw[z,r1] at ho';cases ho';exact hd _ r2) q⟩⟩ (s0 he0) sT2 hHe hHT2 (fun p hp=>⟨(pne p hp).1,fun z=>by
   have:=(I'.pin p hp).1;rw[z,hT2] at this;cases this⟩) ⟨oe,vs,q1,q4⟩ ⟨oT,ts,r1,r2⟩
  obtain⟨oe,vs,q1,q2,q3,q4,q5,q6⟩:=tr3.obj;refine qeuz (X:=X.caught e) (i:=i) (v:=.ref e) (I3.caught e) hN hi (.inl hl) rfl (fun s4 I4 sb=>?_) (.inr hl);have nl:e≠X.env.locals:=fun z=>by
   obtain⟨m,⟨o,es,ep,ho,hd,_⟩,_⟩:=I3.loc;rw[←z] at ho;rw[show h3.get? e=_ from q1] at ho;cases ho;rw[q4] at hd;cases hd
  have nc:∀y c,X.env.cells.lookup y=some c->c≠e:=fun y c hc z=>by
   obtain⟨v,o,ho,hd⟩:=I3.cell y c hc;rw[z] at ho;rw[show h3.get? e=_ from q1] at ho;cases ho;rw[q4] at hd;cases hd
  obtain⟨a,sb1,sb2⟩:=sb;have q1':s4.heap.get? e=some oe:=(sb1.2 e (fun z=>by
   rcases sb2 with sb2|sb2
   ·exact nl (z.trans sb2)
   ·exact nc _ _ sb2 z.symm)).trans q1
  have I5:=I4.track (o:=.ext (excφ e C dx)) hHe (s0 he0) ⟨⟨oe,vs,q1',q2,q3,q4,q6⟩,⟨oe,q1'⟩,fun h1 h2 ⟨oe,vs,a,b⟩ k=>⟨oe,vs,k _ a,b⟩⟩ nl nc (fun p hp=>(pne p hp).1);have E2:=S2.ext R1;have RG5:RepG X.K (upd3 G1 e (.gen (excR x fs))) (upd H' e (.ext (excφ e C dx))):=R2.laidG hHe (qurz ⟨C,dx,cn,qtz,dd.keep (Ext.laid hHe).frz⟩);have S5:Step H1 G1 (upd H' e (.ext (excφ e C dx))) (upd3 G1 e (.gen (excR x fs))):=S2.trans (.laidG hHe);have RS5:RepS X.K (set3 τ1 i (.obj e)) (σ1.set i (some (.ref e))) (upd H' e (.ext (excφ e C dx))):=((RS1.ext E2).ext (.laid hHe)).set (by simp[Hv]);refine wpAny_mono (hh e pins s4 _ _ { nx:=fun _ _=>False,rt:=D2.rt } I5 ⟨_,_,{ nx:=fun _ _=>False,rt:=D3.rt },RS5,RG5,kq e _ (.mk' (R2.free hHe)),⟨fun _ _ _ _ _ _ _ q=>q.elim,fun _ _ _ _ _ _ _ q=>q.elim,fun _ _ _ _ _ _ _ q=>q.elim,fun d v G' H' a b c q=>EL.rt d v G' H' a (S1.trans (S5.trans b)) c q⟩⟩) (fun fl s5 q=>?_) (fun _ _ z=>z.elim);cases fl with
  |ret u=>
   obtain⟨v,σ',H6,I6,rv,qv⟩:=q;obtain⟨m,hn,_⟩:=I6.loc;refine wpAny_nameGoes hl hn (by rw[I.ok.kind];rfl) fun h7 m7 hn7 hs7=>?_;exact⟨v,_,H6,(I6.uncaught I.ok).forget hs7 hn7,rv,qv⟩
  |next=>
   obtain⟨_,_,_,q⟩:=q;exact q.elim
  |brk=>
   obtain⟨_,_,_,q⟩:=q;exact q.elim
  |cont=>
   obtain⟨_,_,_,q⟩:=q;exact q.elim
end L3
namespace L2
open PySem PySem.Spec PyProof.Rows
open Sem (wp)
structure InitSt(s1:Heap)(e C:Addr)(mA:Str->Option Value)(h:Heap):Prop where
 keep:∀b o,b≠e->s1.get? b=some o->h.get? b=some o
 inst:h.Inst e C mA
 obj:∃o1 o2,s1.get? e=some o1/\h.get? e=some o2/\o2.cls=o1.cls/\o2.data=o1.data
 fresh:∀o dx,h.get? e=some o->o.dict=some dx->s1.get? dx=none
def putN(mA:Str->Option Value)(p:Str×Value):Str->Option Value:=fun y=>if y=p.1 then some p.2 else mA y
def IsStore(n:Str)(st:Stmt):Prop:=∃p1 p2 p3 p4,st=.Assign [.Attribute (.Name "self" p1) n p2] (.Name n p3) p4
section
variable {prog:Program} {w:World} {A:Around} {E:Value->Shared->Prop} {K:PySem.W.Frag} {C B e:Addr} {names:List Str} {env:Env} {s1:Heap} {m:Str->Option Value}
theorem InitSt.store{mA:Str->Option Value}{ns:List Str}{n:Str}{v:Value}{Q:Unit->Shared->Prop}{s:Shared}(S:ExcSet K C B names)(hn:n∈names)(X:K.In s.heap)(T:InitSt s1 e C mA s.heap)(hw:Within mA ns)(hsz:ns.length≤1000)
  (hq:∀h' tk',InitSt s1 e C (putN mA (n,v)) h'->Q () { s with heap:=h',toks:=tk' }):wpAny (model prog w) A (setAttr (.ref e) n v) Q E s:=by
 refine qupz S hn X T.inst hw hsz fun h' tk' I' hk hs=>hq h' tk' ⟨fun b o hb q=>?_,I',?_,fun o dx q1 q2=>?_⟩
 ·exact hk b o hb (fun o₀ dx h0 hd z=>by
   have:=T.fresh o₀ dx h0 hd;rw[←z,q] at this;cases this) (T.keep b o hb q)
 ·obtain⟨o1,o2,a1,a2,a3,a4⟩:=T.obj;obtain⟨o3,b1,b2,b3,_⟩:=hs o2 a2;exact⟨o1,o3,a1,b1,b2.trans a3,b3.trans a4⟩
 ·obtain⟨o1,o2,a1,a2,a3,a4⟩:=T.obj;obtain⟨o3,b1,b2,b3,b4,b5,b6⟩:=hs o2 a2;rw[b1] at q1;cases q1;cases hd:o2.dict with
  |some dx0=>
   rw[b5 dx0 hd] at q2;obtain rfl:=Option.some.inj q2;exact T.fresh o2 _ a2 hd
  |none=>
   rw[b6 hd] at q2;cases q2;cases q3:s1.get? s.heap.objs.size with
   |none=>rfl
   |some o=>
    have hne:s.heap.objs.size≠e:=fun z=>by
     have:=Heap.lt_size a2;rw[←z] at this;exact absurd this (Nat.lt_irrefl _)
    have:=Heap.lt_size (T.keep _ _ hne q3);exact absurd this (Nat.lt_irrefl _)
theorem qutz{L:Addr}(S:ExcSet K C B names)(hk:env.scope.kind=.function)(hloc:env.locals=L)(hLe:L≠e)(hself:env.kindOf "self" = some .local)(hds:(("self":Str)==("__debug__":Str))=false)(hms:m "self" = some (.ref e))(hns:s1.Ns L m)(kin:∀h:Heap,(∀b o,b≠e->s1.get? b=some o->h.get? b=some o)->K.In h):
  ∀(nvs:List (Str×Value)) (body:List Stmt),Paired (fun (p:Str×Value) st=>IsStore p.1 st/\(p.1==("__debug__":Str))=false) nvs body->(∀p∈nvs,env.kindOf p.1=some .local/\m p.1=some p.2/\p.1∈names) ->
   ∀(mA:Str->Option Value) (ns:List Str) (s:Shared) (Q:Flow->Shared->Prop),InitSt s1 e C mA s.heap->Within mA ns->ns.length+nvs.length≤1000 ->
   (∀h' tk',InitSt s1 e C (nvs.foldl putN mA) h'->Q .next { s with heap:=h',toks:=tk' })->wpAny (model prog w) A (execs body env) Q E s:=by
 intro nvs
 induction nvs with
 |nil=>
  intro body hp _ mA ns s Q T _ _ hq;cases hp;exact wpAny_execs_nil (hq s.heap s.toks T)
 |cons p nvs ih=>
  intro body hpr hp mA ns s Q T hw hz hq;cases hpr with
  |@cons _ st0 _ bd hst r=>
   obtain⟨⟨p1,p2,p3,p4,rfl⟩,hdb⟩:=hst;obtain⟨k1,k2,k3⟩:=hp p List.mem_cons_self;have hnsH:s.heap.Ns env.locals m:=by
    obtain⟨o,es,ep,ho,rr⟩:=hns;rw[hloc];exact⟨o,es,ep,T.keep _ _ hLe ho,rr⟩
   have e1:wpAny (model prog w) A (eval (.Name p.1 p3) env) (fun v s₁=>wpAny (model prog w) A (eval (.Name "self" p1) env) (fun ov s₂=>wpAny (model prog w) A (setAttr ov p.1 v) (fun _ s3=>wpAny (model prog w) A (execs bd env) Q E s3) E s₂) E s₁) E s:=by
    refine wpAny_Name (wpAny_loadName_local hk k1 hnsH k2 ?_) hdb;refine wpAny_Name (wpAny_loadName_local hk hself hnsH hms ?_) hds;refine T.store S k3 (kin _ T.keep) hw (by rw[List.length_cons] at hz;lia) fun h' tk' T'=>?_;exact ih _ r (fun q hq'=>hp q (List.mem_cons_of_mem _ hq')) (putN mA p) (p.1::ns) { s with heap:=h',toks:=tk' } Q T' (Within.cons p.1 p.2 hw) (by rw[List.length_cons] at hz ⊢;lia) fun h'' tk'' T''=>hq h'' tk'' T''
   exact wpAny_execs_cons (plainObj_wpAny_Assign_Attribute e1 rfl)
end
end L2
namespace L2
open PySem PySem.Spec PyProof.Rows
open Sem (wp)
structure OwnInit(K:PySem.W.Frag)(C B f:Addr)(fd:FuncData)(qual:Str)(st:Stmt)(names:List Str):Prop where
 ex:ExcCls K C B (some (.ref f))
 set:ExcSet K C B names
 fn:Fun K "__init__" qual st f fd
 sc:FnScope ("self" :: names) ("self" :: names) (defScope st)
 body:Paired (fun n st=>IsStore n st/\(n==("__debug__":Str))=false) names (defBody st)
 loc:∀n∈(("self":Str)::names),(defScope st).names.lookup n=some .local
 bi:Binds K fd ("self" :: names) []
 kp:PySem.W.keepIn K (.ref C)=true
 few:names.length≤10
 ty:∃o,K.lookup f=some o/\o.cls=.type "function"
structure MadeD(h h':Heap)(e d C:Addr)(mA:Str->Option Value):Prop where
 keep:∀b o,h.get? b=some o->h'.get? b=some o
 newE:h.get? e=none
 newD:h.get? d=none
 ne:d≠e
 obj:∃oe t,h'.get? e=some oe/\oe.cls=.ref C/\oe.dict=some d/\oe.data=.fields #[.ref t,.none,.none,.none,.bool false,.none]
 ns:h'.Ns1 d mA
theorem qj0z{α β γ:Type}{R:α->β->Prop}:∀{as:List α} {bs:List β} {cs:List γ},Paired R as bs->as.length=cs.length->Paired (fun (p:α×γ) b=>R p.1 b) (as.zip cs) bs
 |_,_,[],.nil,_=>.nil
 |_,_,c::cs,.cons h r,e=>.cons h (qj0z r (by simpa using e))
theorem quuz{P:Program}{w:World}{K:PySem.W.Frag}{C B f:Addr}{fd:FuncData}{qual:Str}{st:Stmt}{names:List Str}{A:Around}{E:Value->Shared->Prop}{s:Shared}{us:List Value}{Q:Value->Shared->Prop}
  (O:OwnInit K C B f fd qual st names) (X:K.In s.heap) (lim:s.heap.NoLimit) (hl:us.length=names.length) (hne:names≠[]) (hdp:A.depth+4<recursionLimit)
  (hq:∀e d h' tk,MadeD s.heap h' e d C ((names.zip us).foldl putN fun _=>none)->Q (.ref e) { s with heap:=h',toks:=tk }):wpAny (model P w) A (call (.ref C) us) Q E s:=by
 obtain⟨nm,qn,N,bs,sn,sub,ab,col,dd,k0,k1,k2,k3,k5,mN,hC,hn,hni,T⟩:=O.ex.own X;obtain⟨oc,od,kV,doc,pm,an,cdv,ct,osl,rfl,lk,hcd⟩:=O.fn.ex;obtain⟨h,g,dr,t,os⟩:=s;have hf:=X _ _ lk;have hsz:us.length≤sizeLine:=by rw[hl];exact Nat.le_trans O.few (by decide)
 have keepE:∀b o,h.get? b=some o->(excHeap h C us).get? b=some o:=fun b o q=>Heap.get?_push_of_some _ (Heap.get?_push_of_some _ q);have XE:K.In (excHeap h C us):=X.keeps keepE;have limE:(excHeap h C us).NoLimit:=lim.keeps keepE;have hsE:(excHeap h C us).objs.size=h.objs.size+2:=by
  unfold excHeap;rw[Heap.size_push,Heap.size_push]
 have heE:(excHeap h C us).get? (h.objs.size+1)=some { cls:=.ref C,data:=.fields #[.ref h.objs.size,.none,.none,.none,.bool false,.none]}:=by
  unfold excHeap
  heap_get
 refine qt5z (f:=f) PySem.F.excBase_ValueError T hC hn hni hf (by obtain⟨o,e,c⟩:=O.ty;rw[lk] at e;cases e;exact c) ?_ hsz;have hb:=O.bi ⟨excHeap h C us,g,dr,t,os⟩ (.ref (h.objs.size+1)::us) XE (by simp[hl]);rw[List.append_nil] at hb;have hkind:∀y∈(("self":Str)::names).zip (.ref (h.objs.size+1)::us),(defScope st).names.lookup y.1=some .local∨((defScope st).names.lookup y.1=some .cell/\((cellsFrom ((excHeap h C us).objs.size+1) (defScope st).names []).lookup y.1).isSome=true):=fun⟨n,v⟩ hy=>
  .inl (O.loc n (List.of_mem_zip hy).1)
 refine codeAny_call_function (by rw[qn2z];lia) (XE _ _ lk) rfl O.sc.co O.sc.gen rfl (PySem.W.codeRec_of XE hcd) (hb _ _ _ _ ?_);refine wpAny_newFunctionEnv_cells O.sc.kind hkind fun env he s1 x=>?_;subst he;refine⟨limE.keeps x.toInCall.keep,codeAny_func ?_⟩;have ndP:(("self":Str)::names).Nodup:=O.sc.nd;have hne1:(excHeap h C us).objs.size≠h.objs.size+1:=by rw[hsE];lia
 have e1:=x.toInCall.keep _ _ heE;have hloc:∀n∈(("self":Str)::names),(envOfC qual (defScope st) (excHeap h C us).objs.size f cdv).kindOf n=some .local:=fun n hn=>O.loc n hn;have inst0:s1.heap.Inst (h.objs.size+1) C (fun _=>none):=⟨_,e1,rfl,fun c=>nofun,.inl ⟨rfl,fun _=>rfl⟩⟩;have T0:InitSt s1.heap (h.objs.size+1) C (fun _=>none) s1.heap:=⟨fun _ _ _ q=>q,inst0,⟨_,_,e1,e1,rfl,rfl⟩,fun o dx q1 q2=>by
  rw[e1] at q1;cases q1;cases q2⟩
 have hNK:∀b o,K.lookup b=some o->b≠h.objs.size+1:=fun b o q z=>by
  have:=Heap.lt_size (X _ _ q);rw[z] at this;exact absurd this (by show ¬_<h.objs.size;lia)
 obtain⟨tk,hs1⟩:∃tk,s1=⟨s1.heap,g,dr,tk,os⟩:=by
  obtain⟨h1,tk,q,_⟩:=x.done;exact⟨tk,by rw[q]⟩
 refine qutz (L:=(excHeap h C us).objs.size) (s1:=s1.heap) (e:=h.objs.size+1) (m:=_) O.set O.sc.kind rfl hne1 (hloc "self" List.mem_cons_self) (by decide) ?_ x.toInCall.ns (fun h2 k b o q=>k b o (hNK b o q) (x.toInCall.keep _ _ (XE _ _ q))) (names.zip us) (defBody st) (qj0z O.body hl.symm) (fun p hp=>?_) (fun _=>none) [] s1 _ T0 Within.nil ?_ fun h' tk' T'=>?_
 ·exact qdjz (i:=0) ndP rfl rfl (hloc "self" List.mem_cons_self)
 ·obtain⟨i,hi,ei⟩:=List.getElem_of_mem hp;have hpm:=List.of_mem_zip hp;refine⟨hloc p.1 (List.mem_cons_of_mem _ hpm.1),?_,hpm.1⟩;have hi2:i<names.length:=by rw[List.length_zip] at hi;lia
  have hi3:i<us.length:=by lia
  have ep:p=(names[i],us[i]):=by rw[←ei,List.getElem_zip]
  refine qdjz (i:=i+1) ndP ?_ ?_ (hloc p.1 (List.mem_cons_of_mem _ hpm.1))
  ·rw[List.getElem?_cons_succ,ep,List.getElem?_eq_getElem hi2]
  ·rw[List.getElem?_cons_succ,ep,List.getElem?_eq_getElem hi3]
 ·rw[List.length_nil,List.length_zip];have:=O.few;lia
 ·refine⟨rfl,?_⟩;obtain⟨o1,o2,a1,a2,a3,a4⟩:=T'.obj;rw[e1] at a1;cases a1;obtain⟨oe,b1,b2,b3,b4⟩:=T'.inst;rw[a2] at b1;cases b1;rw[hs1];rcases b4 with⟨_,z⟩|⟨d,c1,c2,c3⟩
  ·exfalso;cases names with
   |nil=>exact hne rfl
   |cons n0 ns0=>
    have key:∀(l:List (Str×Value)) (m0:Str->Option Value) (y:Str),(∃v,m0 y=some v)->∃v,l.foldl putN m0 y=some v:=fun l=>by
     induction l with
     |nil=>exact fun m0 y q=>q
     |cons p l ih=>
      intro m0 y q;refine ih (putN m0 p) y ?_;unfold putN;by_cases z:y=p.1
      ·exact⟨_,if_pos z⟩
      ·rw[if_neg z];exact q
    cases us with
    |nil=>cases hl
    |cons u0 us0=>
     obtain⟨v,hv⟩:=key (ns0.zip us0) (putN (fun _=>none) (n0,u0)) n0 ⟨u0,if_pos rfl⟩;have z0:=z n0;have z1:(ns0.zip us0).foldl putN (putN (fun _=>none) (n0,u0)) n0=none:=z0;rw[hv] at z1;cases z1
  ·have fr:=T'.fresh o2 d a2 c1;refine hq (h.objs.size+1) d h' tk' ⟨fun b o q=>T'.keep b o (fun z=>?_) (x.toInCall.keep _ _ (keepE b o q)),Heap.get?_none_of_le (Nat.le_succ _),?_,c2,⟨o2,h.objs.size,a2,b2,c1,a4⟩,c3⟩
   ·have:=Heap.lt_size q;rw[z] at this;exact absurd (show h.objs.size+1<h.objs.size from this) (by lia)
   ·cases q:h.get? d with
    |none=>rfl
    |some o=>
     rw[x.toInCall.keep _ _ (keepE d o q)] at fr;cases fr
end L2
namespace L2
open PySem PySem.Spec PyProof.Rows PySem.W
open Builtin Builtin.ObjectAttr
structure GetExc(K:Frag)(C:Addr):Prop where
 ga:findIn K (.ref C) "__getattribute__" = some (some (.builtin "BaseException.__getattribute__"))
 gn:findIn K (.ref C) "__getattr__" = some none
 be:mroIn K C (.type "BaseException")=some true
section
variable {prog:Program} {w:World} {A:Around} {E:Value->Shared->Prop} {K:Frag} {x C:Addr} {ox:Obj} {od:Option Obj} {name:Str} {s:Shared}
theorem quvz:builtinKind "BaseException.__getattribute__" = some .slot:=by decide +kernel
theorem quwz:splitId "BaseException.__getattribute__" = some ("BaseException","__getattribute__"):=by decide +kernel
theorem quxz:plainId "BaseException.__getattribute__" = true:=by decide +kernel
theorem quyz(self:Value):bindSpecial (.builtin "BaseException.__getattribute__") self=pure (.builtin "BaseException.__getattribute__",[self]):=by kernel_rfl
theorem qj1z{tk:Tok}{fill expr:Bool}{f:Builtin.ObjectAttr.Found}{Q:Value->Shared->Prop}(a:GetExc K C)(X:K.In s.heap)(I:InstAt s.heap x ox C od)(hf:findObj K C od name=some f)
  (h:wpAny (model prog w) A.in1 (match f with | .value v=>ret v | .bind g b=>bindTo g b (.ref x) (.ref C) | .missing=>unsupported "") (fun fin s'=>match fin with | .done (.ret v)=>wpAny (model prog w) A (handedOut v) Q E s' | _=>False) (fun _ _=>False) s) (hm:f≠.missing):
  wpAny (model prog w) A (getAttrBy (.ref x) (.str name tk) fill expr) Q E s:=by
 obtain⟨hh,g,d,t,os⟩:=s;have L0:=I.type (M:=model prog w);have L1:=looks_findIn (M:=model prog w) X a.ga;have L2:=looks_findIn (M:=model prog w) X a.gn;have L3:=looks_find (M:=model prog w) X I hf;have sub:Looks (model prog w) hh (isInstance (.ref x) (.type "BaseException")) true:=I.type.andThen (looks_mroIn X a.be);unfold getAttrBy;refine wpAny_holding (wpAny_bind (L0.at (wpAny_bind (L1.at ?_))));have hx2:(Value.builtin "BaseException.__getattribute__" == Value.builtin "object.__getattribute__")=false:=by decide +kernel
 show wpAny _ _ (if (onTheHeap (Value.ref C)&&Value.builtin "BaseException.__getattribute__" == Value.builtin "object.__getattribute__")=true then _ else getAttrByItsOwn _ _ _ _ _ _) _ _ _;rw[hx2,if_neg (by simp)];unfold getAttrByItsOwn;refine wpAny_bind ?_;show wpAny _ _ (typeLookup (.ref C) "__getattr__") _ _ _;refine L2.at ?_;refine wpAny_bind (wpAny_attempt (wpAny_holding ?_));have hx0:(expr&&onTheHeap (Value.builtin "BaseException.__getattribute__"))=false:=by cases expr<;>rfl
 show wpAny _ _ (if (expr&&onTheHeap (Value.builtin "BaseException.__getattribute__"))=true then _ else boundAndCalled _ _ _) _ _ _;rw[hx0,if_neg (by simp)];unfold boundAndCalled;rw[quyz];refine wpAny_bind (wpAny_pure (wpAny_call ?_));refine codeAny_call_builtin quxz F.entry_bexc_ga (@check_slot (model prog w) _ _ ⟨hh,g,d,t,os⟩ "BaseException.__getattribute__" "BaseException" "__getattribute__" (.ref x) [.str name tk] [] _ quvz quwz sub (F.args_bexc_ga (.ref x) (.str name tk)) ?_);unfold Builtin.«object.__getattribute__»;refine wpAny_bind (wpAny_pure (wpAny_bind (wpAny_pure (wpAny_bind (L0.at (wpAny_bind (L3.at ?_)))))));cases f with
 |missing=>exact absurd rfl hm
 |value v=>
  refine wpAny_mono h (fun fin s' z=>?_) fun _ _ z=>z.elim;rcases fin with (_|_|_|_)|_<;>first|exact z|exact z.elim
 |bind g b=>
  refine wpAny_mono h (fun fin s' z=>?_) fun _ _ z=>z.elim;rcases fin with (_|_|_|_)|_<;>first|exact z|exact z.elim
theorem exc_value{expr:Bool}{v:Value}{Q:Value->Shared->Prop}(a:GetExc K C)(X:K.In s.heap)(I:InstAt s.heap x ox C od)(hf:findObj K C od name=some (.value v))(hh:handedIn v=true)(h:Q v { s with toks:=s.toks+1 }):
  wpAny (model prog w) A (getAttr (.ref x) name expr) Q E s:=by
 unfold getAttr;refine wpAny_bind (wpAny_mkText (qj1z (s:={ s with toks:=s.toks+1 }) a X I hf (wpAny_pure ?_) (by simp)));show wpAny _ _ (handedOut v) _ _ _;rw[handedOut_of hh];exact wpAny_pure h
theorem quzz{Q:Option Value->Shared->Prop}(a:GetExc K C)(hc:(clsIn K C).isSome=true)(ha:findIn K (.ref C) "__class__" = some (some (.builtin "object.__class__")))(hn:specialIn K (.builtin "object.__class__") "__get__" = some (some (.builtin "getset_descriptor.__get__")))
  (htk:takesIn K (.builtin "object.__class__")=some true) (hm:mroIn K C (.type "object")=some true) (X:K.In s.heap) (I:InstAt s.heap x ox C od) (h:Q (some (.ref C)) { s with toks:=s.toks+1 }):wpAny (model prog w) A (getAttr? (.ref x) "__class__") Q E s:=by
 have hf:findObj K C od "__class__" = some (.bind (.builtin "getset_descriptor.__get__") (.builtin "object.__class__")):=by
  obtain⟨cd,hcd⟩:=Option.isSome_iff_exists.mp hc;unfold findObj;rw[hcd,Option.bind_some,ha,Option.bind_some];simp[hn,htk]
 unfold getAttr? getAttrBy?;refine wpAny_bind (wpAny_mkText (wpAny_bind (wpAny_attempt ?_)));refine qj1z (s:={ s with toks:=s.toks+1 }) a X I hf ?_ (by simp);show wpAny _ _ (holding [_] (call (.builtin "getset_descriptor.__get__") [.builtin "object.__class__",.ref x,.ref C]) >>= ret) _ _ _;refine wpAny_bind (wpAny_holding (wpAny_call (class_get (s:={ s with toks:=s.toks+1 }) (ox:=ox) (od:=od) X I hm ?_)));exact wpAny_pure (handed_on rfl (wpAny_pure h))
theorem qu0z(a:GetExc K C)(hc:(clsIn K C).isSome=true)(ha:findIn K (.ref C) "__class__" = some (some (.builtin "object.__class__")))(hn:specialIn K (.builtin "object.__class__") "__get__" = some (some (.builtin "getset_descriptor.__get__")))
  (htk:takesIn K (.builtin "object.__class__")=some true) (hm:mroIn K C (.type "object")=some true):KitX K (.ref x) (.ref C) (fun h=>InstAt h x ox C od):=by
 obtain⟨cd,hcd⟩:=Option.isSome_iff_exists.mp hc;obtain⟨o,ho,hcl⟩:∃o,K.lookup C=some o/\∃c,o.data=.cls c:=by
  unfold clsIn at hcd;split at hcd
  ·rename_i q;exact⟨_,q,_,rfl⟩
  ·cases hcd
 obtain⟨oc,odd,oda,osl⟩:=o;obtain⟨c,e⟩:=hcl;dsimp only at e;subst e;refine⟨fun _ _ _ I=>I.type,fun _ _ X _=>?_,fun h tp dd its n sl X htp=>?_,fun X I k=>quzz a hc ha hn htk hm X I k⟩
 ·intro A' Q' E' s' k q;unfold isType loadHead;exact wpAny_bind (wpAny_loadPart (k _ _ (X _ _ ho)) (wpAny_pure q))
 ·refine Bool.eq_false_iff.mpr fun q=>?_;have e:C=tp:=Value.ref.inj (beq_iff_eq.mp q);subst e;have z:=(X _ _ ho).symm.trans htp;cases z
end
end L2
namespace L3
open PySem PySem.Spec PyProof.Rows L2
structure ExcAsk(K:PySem.W.Frag)(C:Addr):Prop where
 ge:GetExc K C
 hd:(PySem.W.clsIn K C).isSome=true
 ha:PySem.W.findIn K (.ref C) "__class__" = some (some (.builtin "object.__class__"))
 hn:PySem.W.specialIn K (.builtin "object.__class__") "__get__" = some (some (.builtin "getset_descriptor.__get__"))
 ht:PySem.W.takesIn K (.builtin "object.__class__")=some true
 hm:PySem.W.mroIn K C (.type "object")=some true
theorem qu1z{P:Program}{w:World}{K:PySem.W.Frag}{H:Hp}{h:Heap}{p:Addr}{x:Str}{fs:List (Str×Int)}(ok:HOk P w H h)(e:excR x fs K p H):∃C oe od,ClsN K x C/\PySem.W.InstAt h p oe C od:=by
 obtain⟨C,dx,cn,e1,dd⟩:=e;obtain⟨⟨oe,vs,q1,q2,q3,q4,_⟩,_⟩:=(show ObjOk P w H h p (.ext (excφ p C dx)) from ok p _ e1);have hn:PySem.W.notCls oe=true:=by
  unfold PySem.W.notCls;rw[q4]
 rcases dd with⟨rfl,_⟩|⟨d,o,rfl,e2⟩
 ·exact⟨C,oe,none,cn,q1,q2,hn,by rw[q3];trivial⟩
 ·obtain⟨r1,_⟩:=(show ObjOk P w H h d (.frz o (.xd _)) from ok d _ e2);exact⟨C,oe,some o,cn,q1,q2,hn,by rw[q3];exact r1⟩
theorem qu2z{P:Program}{w:World}{K:PySem.W.Frag}{H:Hp}{h:Heap}{p:Addr}{x:Str}{fs:List (Str×Int)}(ok:HOk P w H h)(e:excR x fs K p H)(hne:fs≠[]):
  ∃C oe od mA d,ClsN K x C/\PySem.W.InstAt h p oe C (some od)/\h.get? d=some od/\h.Ns1 d mA/\∀f,RelO ((fs.map fun p=>(p.1,V.int p.2)).lookup f) (mA f):=by
 obtain⟨C,dx,cn,e1,dd⟩:=e;obtain⟨⟨oe,vs,q1,q2,q3,q4,_⟩,_⟩:=(show ObjOk P w H h p (.ext (excφ p C dx)) from ok p _ e1);rcases dd with⟨_,z⟩|⟨d,o,rfl,e2⟩
 ·exact absurd z hne
 ·obtain⟨r1,mA,r2,r3⟩:=(show ObjOk P w H h d (.frz o (.xd _)) from ok d _ e2);refine⟨C,oe,o,mA,d,cn,⟨q1,q2,?_,by rw[q3];exact r1⟩,r1,r2,r3⟩;unfold PySem.W.notCls;rw[q4]
section
variable {X:Cx} {a:Expr} {ta:TE3} {pos p p2:Pos}
def eIsX(rs:List Str)(y:Str)(ta:TE3):TE3:=fun τ G Q=>ta τ G fun x G1=>match x with
 |.obj p=>∃z fs,G1 p=some (.gen (excR z fs))/\z∈rs/\Q (.bl (z==y)) G1
 |_=>False
theorem qj2z{c:Value}{cv:V}(hc:RelV cv c)(hu:∀c',RelV cv c'->c'=c):CallR X (.builtin "isinstance") (fun vs H Q=>∃q z fs b,vs=[.ref q,cv]/\excR z fs X.K q H/\(∀C,ClsN X.K z C->ExcAsk X.K C/\PySem.W.kitOne X.K (.ref C) c=some b)/\Q (.bl b) H):=by
 intro pins s σ H vs us Q I r h;obtain⟨q,z,fs,b,rfl,hx,hk,qq⟩:=h;obtain⟨u,c',rfl,ru,rc⟩:=vals2 r;cases (show u=Value.ref q from ru);cases hu c' rc;obtain⟨C,oe,od,cn,J⟩:=qu1z I.hok hx;obtain⟨K1,K2⟩:=hk C cn;exact PySem.W.kia_one (qu0z K1.ge K1.hd K1.ha K1.hn K1.ht K1.hm) I.kIn J K2 (fun z=>nomatch z) fun tk=>⟨.bl b,H,I.tok tk,rfl,qq⟩
theorem qu3z{rs:List Str}{y:Str}{c:Value}{cv:V}(hk:∀z∈rs,∀C,ClsN X.K z C->ExcAsk X.K C/\PySem.W.kitOne X.K (.ref C) c=some (z==y)){σ:L2.St}{H:Hp}{Q:VK}(h:low X.K (eIsX rs y ta) σ H Q):
  tCB (fun vs H Q=>∃q z fs b,vs=[.ref q,cv]/\excR z fs X.K q H/\(∀C,ClsN X.K z C->ExcAsk X.K C/\PySem.W.kitOne X.K (.ref C) c=some b)/\Q (.bl b) H) (tCons (low X.K ta) (tCons (tC cv) tNil)) σ H Q:=by
 obtain⟨τ,G,Q3,RS,RG,h,k⟩:=h;refine⟨τ,G,_,RS,RG,h,fun v H1 d G1 h1 S1 R1 q1=>?_⟩;cases d with
 |obj q=>
  obtain⟨z,fs,e1,hz,q2⟩:=q1;rw[qwz h1];exact⟨q,z,fs,_,rfl,(R1 q _ e1).1,fun C cn=>hk z hz C cn,k _ H1 (.bl (z==y)) G1 qacz S1 R1 q2⟩
 |_=>exact q1.elim
theorem qu4z{rs:List Str}{y:Str}{C:Addr}(hk:∀z∈rs,∀D,ClsN X.K z D->ExcAsk X.K D/\PySem.W.kitOne X.K (.ref D) (.ref C)=some (z==y))(ha:PE3 X a ta)(hm:X.mg "isinstance" = none)(hmy:X.mg y=some (.ref C))(hgy:Gl X y:=by rfl)(hdy:(y==("__debug__":Str))=false:=by decide)(hg:Gl X "isinstance":=by rfl)(he:notStar a=true:=by rfl):
  PE3 X (.Call (.Name "isinstance" p) [a,.Name y p2] [] pos) (eIsX rs y ta):=
 qvz (qa8z (qj2z (c:=.ref C) (cv:=.ref C) rfl fun c' r=>r) hg hm rfl (qa1z ha (qa1z (qhfz (v:=.ref C) hgy hmy rfl hdy) qb5z (qmz rfl)) (qmz he)) (he:=qmz he) (hpl:=qyz rfl)) fun σ H Q h=>qu3z hk h
def eIsV(rs:List Str)(ta:TE3):TE3:=fun τ G Q=>ta τ G fun x G1=>match x with
 |.obj p=>∃z fs,G1 p=some (.gen (excR z fs))/\z∈rs/\Q (.bl true) G1
 |_=>False
theorem qu5z{rs:List Str}(hk:∀z∈rs,∀D,ClsN X.K z D->ExcAsk X.K D/\PySem.W.kitOne X.K (.ref D) (.type "ValueError")=some true)(ha:PE3 X a ta)(hm:X.mg "isinstance" = none)(hmy:X.mg "ValueError" = none)(hgy:Gl X "ValueError":=by rfl)(hg:Gl X "isinstance":=by rfl)(he:notStar a=true:=by rfl):
  PE3 X (.Call (.Name "isinstance" p) [a,.Name "ValueError" p2] [] pos) (eIsV rs ta):=
 qvz (qa8z (qj2z (c:=.type "ValueError") (cv:=.ty "ValueError") rfl fun c' r=>r) hg hm rfl (qa1z ha (qa1z (qhgz (v:=.ty "ValueError") hgy hmy rfl rfl (by decide) (by decide)) qb5z (qmz rfl)) (qmz he)) (he:=qmz he) (hpl:=qyz rfl)) fun σ H Q h=>by
  obtain⟨τ,G,Q3,RS,RG,h,k⟩:=h;refine⟨τ,G,_,RS,RG,h,fun v H1 d G1 h1 S1 R1 q1=>?_⟩;cases d with
  |obj q=>
   obtain⟨z,fs,e1,hz,q2⟩:=q1;rw[qwz h1];exact⟨q,z,fs,_,rfl,(R1 q _ e1).1,fun C cn=>hk z hz C cn,k _ H1 (.bl true) G1 qacz S1 R1 q2⟩
  |_=>exact q1.elim
end
end L3
namespace L3
open PySem PySem.Spec PyProof.Rows L2
theorem qfvz:∀{bs:List Bool} {its:List Value},Vals (bs.map V.bl) its->its=bs.map Value.bool
 |[],_,h=>h.zero
 |b::bs,_,h=>by
  cases h with
  |cons r1 r2=>rw[qfvz r2,show _=Value.bool b from r1];rfl
def rCountB:V->List V->Hp->VK->Prop:=fun x vs H Q=>∃(l:Addr) (bs:List Bool),x=.ref l/\vs=[.bl true]/\H l=some (.lst (bs.map V.bl))/\Q (.int ((bs.countP id:Nat):Int)) H
def rIndexB:V->List V->Hp->VK->Prop:=fun x vs H Q=>∃(l:Addr) (bs:List Bool) (j:Nat),x=.ref l/\vs=[.bl true]/\H l=some (.lst (bs.map V.bl))/\bs[j]?=some true/\(∀i,i<j->bs[i]?=some false)/\j<1000/\Q (.int ((j:Nat):Int)) H
def isT:Value->Bool
 |.bool b=>b
 |_=>false
section
variable {X:Cx}
theorem qu6z:MtR X "list.count" rCountB:=by
 intro pins s σ H x vs v us Q I rx rv h;obtain⟨l,bs,rfl,rfl,hH,q⟩:=h;cases rx;obtain⟨u,rfl,ru⟩:=rv.one;cases (show u=Value.bool true from ru);obtain⟨z,its,n,r,hl,e⟩:=I.lstM hH;rw[qfvz r] at e;refine call_meets F.slot_list_count ⟨_,e,rfl⟩ F.entry_list_count (F.args_list_count_2 _ _) (SeqAt.list_countAt l (bs.map Value.bool).toArray n none #[] (.bool true) isT) ⟨e,fun y hy=>?_,?_⟩
 ·obtain⟨b,_,rfl⟩:=List.mem_map.mp (Array.mem_toList_iff.mpr hy);have:=SeqAt.EqAt.bool_bool (A:=X.A.in1) (s:=s) b true;cases b<;>exact this
 ·refine⟨.int ((bs.countP id:Nat):Int),H,I.tok _,⟨s.toks,?_⟩,q⟩;have e2:((bs.map Value.bool).toArray.toList).countP isT=bs.countP id:=by
   show (bs.map Value.bool).countP isT=_;rw[List.countP_map];rfl
  rw[e2]
theorem qu7z:MtR X "list.index" rIndexB:=by
 intro pins s σ H x vs v us Q I rx rv h;obtain⟨l,bs,j,rfl,rfl,hH,h1,h2,h3,q⟩:=h;cases rx;obtain⟨u,rfl,ru⟩:=rv.one;cases (show u=Value.bool true from ru);obtain⟨z,its,n,r,hl,e⟩:=I.lstM hH;rw[qfvz r] at e;have hj:j<bs.length:=(List.getElem?_eq_some_iff.mp h1).1;refine call_meets F.slot_list_index ⟨_,e,rfl⟩ F.entry_list_index (F.args_list_index_2 _ _) (SeqAt.list_indexAt l (bs.map Value.bool).toArray n none #[] (.bool true) isT j (by simpa using hj) (by lia) ?_ fun m hm hmj=>?_) ⟨e,fun y hy=>?_,?_⟩
 ·simp only[List.getElem_toArray,List.getElem_map];rw[(List.getElem?_eq_some_iff.mp h1).2];rfl
 ·simp only[List.getElem_toArray,List.getElem_map];rw[(List.getElem?_eq_some_iff.mp (h2 m hmj)).2];rfl
 ·obtain⟨b,_,rfl⟩:=List.mem_map.mp (Array.mem_toList_iff.mpr hy);have:=SeqAt.EqAt.bool_bool (A:=X.A.in1) (s:=s) b true;cases b<;>exact this
 ·exact⟨.int ((j:Nat):Int),H,I.tok _,⟨_,rfl⟩,q⟩
end
section
variable {K:PySem.W.Frag}
def qfwz:D->List D->Gp->V3->Prop:=fun x ds G Q=>match x,ds with
 |.obj p,[.bl true]=>∃xs bs,G p=some (.lst xs)/\blsOf xs=some bs/\Q (.int ((bs.countP id:Nat):Int)) G
 |_,_=>False
def qfxz:D->List D->Gp->V3->Prop:=fun x ds G Q=>match x,ds with
 |.obj p,[.bl true]=>∃xs bs j,G p=some (.lst xs)/\blsOf xs=some bs/\bs[j]?=some true/\(∀i,i<j->bs[i]?=some false)/\j<1000/\Q (.int ((j:Nat):Int)) G
 |_,_=>False
theorem qu8z:LowM K qfwz rCountB:=fun x vx ds vs G H Q3 Q hx hs RG q k=>by
 unfold qfwz at q;split at q
 ·rename_i p;obtain⟨xs,bs,e1,e2,q⟩:=q;obtain⟨ys,e3,hv⟩:=RG p _ e1;obtain⟨v,r,rfl,hv1,hv2⟩:=hs.inv;rw[hv2.inv0,qa2z hv1,qwz hx];exact⟨p,bs,rfl,rfl,by rw[e3,qd1z hv e2],k _ H (.int _) G q1z (.refl H G) RG q⟩
 ·exact q.elim
theorem qu9z:LowM K qfxz rIndexB:=fun x vx ds vs G H Q3 Q hx hs RG q k=>by
 unfold qfxz at q;split at q
 ·rename_i p;obtain⟨xs,bs,j,e1,e2,q1,q2,q3,q⟩:=q;obtain⟨ys,e3,hv⟩:=RG p _ e1;obtain⟨v,r,rfl,hv1,hv2⟩:=hs.inv;rw[hv2.inv0,qa2z hv1,qwz hx];exact⟨p,bs,j,rfl,rfl,by rw[e3,qd1z hv e2],q1,q2,q3,k _ H (.int _) G q1z (.refl H G) RG q⟩
 ·exact q.elim
end
end L3
namespace L3
open PySem PySem.Spec PyProof.Rows L2
open Sem (wp)
def sRaise(x:Str)(names:List Str)(E:E3)(t:TA3):TS3:=fun _ τ G=>t τ G fun ds _=>∃is:List Int,ds=is.map D.int/\is.length=names.length/\E x (names.zip is)
theorem qj3z:∀(names:List Str) (is:List Int) (us:List Value) (m0:Str->Option Value) (fs0:List (Str×V)),Vals (is.map V.int) us->names.length=is.length->(names.Nodup)->(∀n∈names,fs0.lookup n=none)->(∀f,RelO (fs0.lookup f) (m0 f)) ->
  ∀f,RelO ((((names.zip is).map fun p=>(p.1,V.int p.2))++fs0).lookup f) ((names.zip us).foldl putN m0 f)
 |[],[],us,m0,fs0,hv,_,_,_,h=>by
  rw[hv.zero];exact h
 |n::ns,i::is,us,m0,fs0,hv,hl,nd,hn,h=>by
  cases hv with
  |@cons v u vs us2 r1 r2=>
   have hnd:=List.nodup_cons.mp nd;intro f;have key:=qj3z ns is us2 (putN m0 (n,u)) (fs0++[(n,V.int i)]) r2 (by simpa using hl) hnd.2 (fun y hy=>by
    rw[List.lookup_append,hn y (List.mem_cons_of_mem _ hy),List.lookup_cons,List.lookup_nil];have:(y==n)=false:=by
     rw[beq_eq_false_iff_ne];intro z;exact hnd.1 (z▸hy)
    rw[this];rfl) (fun y=>by
    unfold putN;by_cases z:y=n
    ·subst z;rw[if_pos rfl,List.lookup_append,hn y List.mem_cons_self,List.lookup_cons,beq_self_eq_true];exact r1
    ·rw[if_neg z,List.lookup_append,List.lookup_cons,List.lookup_nil,beq_eq_false_iff_ne.mpr z];have:=h y;cases q:fs0.lookup y with
     |none=>rw[q] at this;exact this
     | some w=>rw[q] at this;exact this) f
   show RelO ((((n,V.int i)::(ns.zip is).map fun p=>(p.1,V.int p.2))++fs0).lookup f) ((ns.zip us2).foldl putN (putN m0 (n,u)) f);have e:((((n,V.int i)::(ns.zip is).map fun p=>(p.1,V.int p.2))++fs0).lookup f)=((((ns.zip is).map fun p=>(p.1,V.int p.2))++(fs0++[(n,V.int i)])).lookup f):=by
    rw[List.cons_append,List.lookup_cons,List.lookup_append,List.lookup_append,List.lookup_append,List.lookup_cons,List.lookup_nil];by_cases z:f=n
    ·subst z;have hz:((ns.zip is).map fun p=>(p.1,V.int p.2)).lookup f=none:=by
      rw[List.lookup_eq_none_iff];intro p hp;obtain⟨q,hq,rfl⟩:=List.mem_map.mp hp;rw[bne_iff_ne];intro z;exact hnd.1 (z▸(List.of_mem_zip hq).1)
     rw[beq_self_eq_true,hz,hn f List.mem_cons_self];rfl
    ·rw[beq_eq_false_iff_ne.mpr z];cases ((ns.zip is).map fun p=>(p.1,V.int p.2)).lookup f<;>cases fs0.lookup f<;>rfl
   rw[e];exact key
theorem qj4z{K:PySem.W.Frag}{H:Hp}:∀{is:List Int} {vs:List V},Hvs K H (is.map D.int) vs->vs=is.map V.int
 |[],_,h=>h.inv0
 |i::is,_,h=>by
  obtain⟨v,r,rfl,h1,h2⟩:=h.inv;rw[qj4z h2,qsz h1];rfl
theorem qfyz{K:PySem.W.Frag}{C:Addr}{bm:List Value}{init:Option Value}{newId:String}(q:excIn K C bm init newId=true):∃nm qn N bs sn sub ab col dd k0 k1 k2 k3 k5,K.lookup C=some (excClassObj nm qn C N bs bm true sn sub ab col dd k0 k1 k2 k3 k5 newId):=by
 unfold excIn at q;split at q
 ·rename_i dd cd sl ho;split at q
  ·rename_i C' bm' k0 k1 k2 k3 n k5 hm hs;simp only[Bool.and_eq_true,beq_iff_eq,Bool.not_eq_true'] at q;obtain⟨⟨⟨⟨⟨rfl,rfl⟩,hdel⟩,hdct⟩,rfl⟩,hns⟩:=q;obtain⟨nm,bs,mro,ns,qn,hd,sn,sub,ab,col,del⟩:=cd;dsimp only at hm hdel hdct hns;subst hm hdel hdct;have hsl:sl = #[k0,k1,k2,k3,some (.builtin n),k5]:=by
    obtain⟨l⟩:=sl;simp only at hs;rw[hs]
   subst hsl;exact⟨nm,qn,ns,bs,sn,sub,ab,col,dd,k0,k1,k2,k3,k5,ho⟩
  ·cases q
 ·cases q
theorem qvaz{prog:Program}{w:World}{A:Around}{E:Value->Shared->Prop}{s:Shared}{env:Env}{nm q:Str}{C N:Addr}{bs bm:List Value}{hdct:Bool}{sn:List Str}{sub:List Value}{ab:Bool}{col:Option Bool}{dd:Option Addr}{k0 k1 k2 k3 k5:Option Value}{newId:String}
  {x:Sem Value} {Q:Flow->Shared->Prop} (hbase:bm.contains (.type "BaseException")=true) (hh:A.handled=none)
  (h:wpAny (model prog w) A x (fun v s₁=>∃e oe t,v=.ref e/\s₁.heap.get? C=some (excClassObj nm q C N bs bm hdct sn sub ab col dd k0 k1 k2 k3 k5 newId)/\s₁.heap.get? e=some oe/\oe.cls=.ref C/\oe.data=.fields #[.ref t,.none,.none,.none,.bool false,.none]/\E (.ref e) s₁) E s):
  wpAny (model prog w) A (raiseStmt env (some x) none) Q E s:=by
 have hcB:(Value.ref C::bm).contains (.type "BaseException")=true:=by rw[List.contains_cons,hbase,Bool.or_true]
 unfold raiseStmt;refine wpAny_bind (wpAny_mono h (fun v s₁ h₁=>?_) fun _ _ x=>x);obtain⟨e,oe,t,rfl,hC,he,h1,h2,hE⟩:=h₁;obtain⟨hp,g,d,tk,os⟩:=s₁;obtain⟨oc,od,oda,osl⟩:=oe;dsimp only at h1 h2;subst h1 h2
 repeat (first|with_reducible refine wpAny_loadPart_at he ?_|with_reducible refine wpAny_loadPart_at hC ?_|(with_reducible refine wpAny_isSubtype_exc hC ?_;rw[hcB])|wp_step)
 exact wpAny_raiseNew_none hh hE
theorem qvbz{X:Cx}{E:XK}{E':E3}{x:Str}{C B f:Addr}{fd:FuncData}{qual:Str}{st:Stmt}{names:List Str}{k:Nat}{e:Expr}{es:List Expr}{t:TA3}{np cpos pos:Pos}(hB:Body X E)(hE:∀cls dx H',lowE X.K E' cls dx H'->E cls dx H')(O:OwnInit X.K C B f fd qual st names)(cn:ClsN X.K x C)(hm:X.mg x=some (.ref C))(hr:Room k X.A)(hc:X.calm=true)(ha:PA3 X (e::es) t)
  (hne:names≠[]:=by decide) (hg:Gl X x:=by rfl) (hdb:(x==("__debug__":Str))=false:=by decide) (he:notStar e=true:=by rfl) (hpl:es.all notStar=true:=by rfl):
  PS3 X (.Raise (some (.Call (.Name x np) (e::es) [] cpos)) none pos) (sRaise x names E' t):=by
 intro pins s σ H D2 I ⟨τ,G,D3,RS,RG,h,EL⟩;rw[arm_exec_Raise];simp only[evalOpt,Option.map];refine wpAny_bind (wpAny_standAt ?_);obtain⟨nm,qn,N,bs,sn,sub,ab,col,dd,k0,k1,k2,k3,k5,lk⟩:=qfyz O.ex.cls;refine qvaz (C:=C) (nm:=nm) (q:=qn) (N:=N) (bs:=bs) (bm:=.ref B::veTail) (hdct:=true) (sn:=sn) (sub:=sub) (ab:=ab) (col:=col) (dd:=dd) (k0:=k0) (k1:=k1) (k2:=k2) (k3:=k3) (k5:=k5) (newId:="ValueError.__new__") (by rw[List.contains_cons,show veTail.contains (.type "BaseException")=true by decide +kernel,Bool.or_true]) (I.ok.hd hc) ?_;refine wpAny_bind (thn (Q:=fun v s₁=>∃e oe t,v=.ref e/\s₁.heap.get? C=some (excClassObj nm qn C N bs (.ref B::veTail) true sn sub ab col dd k0 k1 k2 k3 k5 "ValueError.__new__")/\s₁.heap.get? e=some oe/\oe.cls=.ref C/\oe.data=.fields #[.ref t,.none,.none,.none,.bool false,.none]/\X.xe (.ref e) s₁) ?_ fun v s2 q=>wpAny_bind (wpAny_standAt (wpAny_pure q)));refine wpAny_Call_Name_kw (qa0z I hg hm ?_ hdb);refine PySem.W.callWith_K (h₀:=X.base) I.ok.mod.kin O.kp (thn (ha cpos pins s σ H (fun vs H1=>∃is:List Int,vs=is.map V.int/\is.length=names.length/\E' x (names.zip is)) I
  ⟨τ,G,_,RS,RG,h,fun vs H1 ds G1 a b c q=>by obtain⟨is,rfl,hl,q⟩:=q;exact⟨is,qj4z a,hl,q⟩⟩) fun us s1 ⟨vs,H1,I1,r,is,ev,hl,q⟩=>⟨I1.kIn,?_⟩) (qmz he) (qyz hpl)
 subst ev;have hlu:us.length=names.length:=by rw[←r.length,List.length_map];exact hl
 refine quuz O I1.kIn I1.nolimit hlu hne (by have:=hr.dp;lia) fun e1 d h' tk M=>?_;obtain⟨oe,t1,o1,o2,o3,o4⟩:=M.obj;obtain⟨od,es1,ep1,n1,nr⟩:=M.ns;have I1k:Inv X pins σ H1 { s1 with heap:=h',toks:=tk }:=I1.kept M.keep;have gone:∀{b:Addr} {o:Obj},s1.heap.get? b=some o->b≠d:=fun {b o} hb z=>by
  rw[z,M.newD] at hb;cases hb
 have I2:=I1k.track (a:=d) (o:=.frz od (.xd ((names.zip is).map fun p=>(p.1,V.int p.2)))) (qjvz I1 M.newD) (qjwz hB I1 M.newD)
  ⟨n1,(names.zip us).foldl putN (fun _=>none),⟨od,es1,ep1,n1,nr⟩,fun f=>by
   have:=qj3z names is us (fun _=>none) [] r hl.symm (List.nodup_cons.mp O.sc.nd).2 (fun _ _=>rfl) (fun _=>trivial) f;rw[List.append_nil] at this;exact this⟩
  (fun z=>by
   obtain⟨m,⟨o,_,_,ho,_⟩,_⟩:=I1.loc;exact gone ho z.symm)
  (fun y c hcc z=>by
   obtain⟨v,o,ho,_⟩:=I1.cell y c hcc;exact gone ho z)
  (fun p hp=>gone (I1.pin p hp).1)
 refine⟨e1,oe,t1,rfl,I2.kIn _ _ lk,o1,o2,o4,?_⟩;have hne1:e1≠d:=M.ne.symm;refine hB.throw I2 o1 o2 o4 rfl rfl (qjwz hB I1 M.newE) (by rw[qlz hne1];exact qjvz I1 M.newE) (hE _ _ _ ⟨x,C,names.zip is,rfl,cn,q,.inr ⟨d,od,o3,qtz⟩⟩)
end L3
namespace L3
open PySem PySem.Spec PyProof.Rows L2
structure QEX(X:Cx)(e:Expr)(t:TEX):Prop where
 of:PEX X e t
structure QSX(X:Cx)(st:List Stmt)(t:TSX):Prop where
 of:PSX X st t
section
variable {X:Cx} {k:Nat} {f:Addr} {fd:FuncData} {ps:List Str} {sp:SpX} {sp3:Sp3} {E':E3} {x:Str} {p pos:Pos} {a b e c:Expr} {es:List Expr} {t:TA3} {te:TE3} {tx:TEX} {tax:TAX} {tc:TT3} {ta tb tr:TSX} {sa sb rest:List Stmt}
theorem qbyz(F:FnX X.prog X.w X.K X.mg X.base k f fd ps sp)(hr:Room k X.A)(hx:Passes (CXE X.prog X.w X.base) X (lowE X.K E'))(hm:X.mg x=some (.ref f))(hk:PySem.W.keepIn X.K (.ref f)=true)(hb:Binds X.K fd ps [])(ha:QA X (e::es) t)(hg:Gl X x:=by rfl)
  (hdb:(x==("__debug__":Str))=false:=by decide) (he:notStar e=true:=by rfl) (hpl:es.all notStar=true:=by rfl):QE X (.Call (.Name x p) (e::es) [] pos) (eCallX sp E' t):=⟨quez F hr hx hm hk hb ha.of hg hdb he hpl⟩
theorem qcuz(F:FnH3 X.prog X.w X.K X.mg X.base k f fd ps sp3)(hr:RoomH k X.A)(hm:X.mg x=some (.ref f))(hk:PySem.W.keepIn X.K (.ref f)=true)(hb:Binds X.K fd ps [])(ha:QA X (e::es) t)(hg:Gl X x:=by rfl)
  (hdb:(x==("__debug__":Str))=false:=by decide) (he:notStar e=true:=by rfl) (hpl:es.all notStar=true:=by rfl):QE X (.Call (.Name x p) (e::es) [] pos) (eCall sp3 t):=⟨quiz F hr hm hk hb ha.of hg hdb he hpl⟩
theorem qvcz(F:FnX X.prog X.w X.K X.mg X.base k f fd ps sp)(hr:Room k X.A)(hm:X.mg x=some (.ref f))(hk:PySem.W.keepIn X.K (.ref f)=true)(hb:Binds X.K fd ps [])(ha:QA X.nox (e::es) t)(hg:Gl X x:=by rfl)
  (hdb:(x==("__debug__":Str))=false:=by decide) (he:notStar e=true:=by rfl) (hpl:es.all notStar=true:=by rfl):QEX X (.Call (.Name x p) (e::es) [] pos) (exCall sp t):=⟨qujz F hr hm hk hb ha.of hg hdb he hpl⟩
theorem qvdz(h:QEX X e tx)(hr:QSX X rest tr)(hs:swapsWith e none pos.line X.env=pure false:=by rfl):QSX X (.Expr e pos::rest) (sxExpr tx tr):=⟨qukz h.of hr.of hs⟩
theorem qvez:QSX X [] sxNext:=⟨qulz⟩
theorem qvfz{E:XK}{C B:Addr}{qual:Str}{st:Stmt}{names:List Str}{np cpos:Pos}(hB:Body X E)(hE:∀cls dx H',lowE X.K E' cls dx H'->E cls dx H')(O:OwnInit X.K C B f fd qual st names)(cn:ClsN X.K x C)(hm:X.mg x=some (.ref C))(hr:Room k X.A)(hc:X.calm=true)(ha:QA X (e::es) t)
  (hne:names≠[]:=by decide) (hg:Gl X x:=by rfl) (hdb:(x==("__debug__":Str))=false:=by decide) (he:notStar e=true:=by rfl) (hpl:es.all notStar=true:=by rfl):
  QS X (.Raise (some (.Call (.Name x np) (e::es) [] cpos)) none pos) (sRaise x names E' t):=⟨qvbz hB hE O cn hm hr hc ha.of hne hg hdb he hpl⟩
theorem qbzz{rs:List Str}{y:Str}{C:Addr}{p2:Pos}(hk:∀z∈rs,∀D,ClsN X.K z D->ExcAsk X.K D/\PySem.W.kitOne X.K (.ref D) (.ref C)=some (z==y))(ha:QE X a te)(hm:X.mg "isinstance" = none)(hmy:X.mg y=some (.ref C))(hgy:Gl X y:=by rfl)(hdy:(y==("__debug__":Str))=false:=by decide)(hg:Gl X "isinstance":=by rfl)(he:notStar a=true:=by rfl):
  QE X (.Call (.Name "isinstance" p) [a,.Name y p2] [] pos) (eIsX rs y te):=⟨qu4z hk ha.of hm hmy hgy hdy hg he⟩
theorem qvgz{rs:List Str}{p2:Pos}(hk:∀z∈rs,∀D,ClsN X.K z D->ExcAsk X.K D/\PySem.W.kitOne X.K (.ref D) (.type "ValueError")=some true)(ha:QE X a te)(hm:X.mg "isinstance" = none)(hmy:X.mg "ValueError" = none)(hgy:Gl X "ValueError":=by rfl)(hg:Gl X "isinstance":=by rfl)(he:notStar a=true:=by rfl):
  QE X (.Call (.Name "isinstance" p) [a,.Name "ValueError" p2] [] pos) (eIsV rs te):=⟨qu5z hk ha.of hm hmy hgy hg he⟩
end
theorem frame0{P:Program}{w:World}{K:PySem.W.Frag}{mg:Str->Option Value}{base:Heap}{N:List Str}{qual:Str}{scope:Scope}{f:Addr}{cd:Value}{A:Around}{outer:List Env}{s:Shared}{H:Hp}{E:XK}:Frame (cxOf CX0 P w K mg base N qual scope f cd A outer s H E).nox:=⟨rfl,rfl,rfl⟩
theorem qfnX{P:Program}{w:World}{K:PySem.W.Frag}{mg:Str->Option Value}{base:Heap}{x qual:Str}{st:Stmt}{f:Addr}{fd:FuncData}{N ps:List Str}{k:Nat}{sp:SpX}(F:Fun K x qual st f fd)(S:FnScope N ps (defScope st))(hN:ps.length≤N.length)(len:∀ds Q E,sp ds Q E->ds.length=ps.length)(tb:E3->TS3)
  (hbody:∀(cdv:Value) (A:Around) (outer:List Env) (s:Shared) (H:Hp) (E:XK) (E':E3),Room k (A.deeper (envOfC qual (defScope st) s.heap.objs.size f cdv))->(∀cls dx H',lowE K E' cls dx H'->E cls dx H') ->
   QSs (cxOf (CXE P w base) P w K mg base N qual (defScope st) f cdv A outer s H E) (defBody st) (tb E'))
  (hrd:∀ds Q E,sp ds Q E->tb E (endsOf Q) (start3 N ds) noG):FnX P w K mg base (k+1) f fd ps sp:=fnX F S hN len tb (fun cdv A outer s H E E' hr hE=>(hbody cdv A outer s H E E' hr hE).of) hrd
theorem qfnH{P:Program}{w:World}{K:PySem.W.Frag}{mg:Str->Option Value}{base:Heap}{x qual:Str}{st:Stmt}{f:Addr}{fd:FuncData}{N ps:List Str}{k:Nat}{sp:Sp3}(F:Fun K x qual st f fd)(S:FnScope N ps (defScope st))(hN:ps.length≤N.length)(len:∀ds G Q,sp ds G Q->ds.length=ps.length)(tb:TS3)
  (hbody:∀(cdv:Value) (A:Around) (outer:List Env) (s:Shared) (H:Hp) (E:XK),RoomH k (A.deeper (envOfC qual (defScope st) s.heap.objs.size f cdv)) ->
   QSs (cxH P w K mg base N qual (defScope st) f cdv A outer s H E) (defBody st) tb)
  (hrd:∀ds G Q,sp ds G Q->tb (endsOf Q) (start3 N ds) G):FnH3 P w K mg base (k+1) f fd ps sp:=fnH3 F S hN len tb (fun cdv A outer s H E hr=>(hbody cdv A outer s H E hr).of) hrd
end L3
namespace L3
open PySem PySem.Spec PyProof.Rows L2
structure FldAsk(K:PySem.W.Frag)(C:Addr)(f:Str):Prop where
 ge:GetExc K C
 hd:PySem.W.hasDictIn K C=true
 nm:PySem.W.findIn K (.ref C) f=some none
def eFldR(rs:List Str)(f:Str)(ta:TE3):TE3:=fun τ G Q=>ta τ G fun x G1=>match x with
 |.obj p=>∃z fs i,G1 p=some (.gen (excR z fs))/\z∈rs/\fs.lookup f=some i/\Q (.int i) G1
 |_=>False
theorem qj5z(f:Str):∀fs:List (Str×Int),(fs.map fun p=>(p.1,V.int p.2)).lookup f=(fs.lookup f).map V.int
 |[]=>rfl
 |p::fs=>by
  rw[List.map_cons,List.lookup_cons,List.lookup_cons,qj5z f fs];cases f==p.1<;>rfl
theorem qvhz{K:PySem.W.Frag}{C:Addr}{od:Obj}{f:Str}{u:Value}(a:FldAsk K C f)(hl:PySem.W.lookIn f od=some (some u)):PySem.W.findObj K C (some od) f=some (.value u):=by
 obtain⟨cd,hc,hd⟩:=PySem.W.any_some a.hd;unfold PySem.W.findObj PySem.W.ownOf;rw[hc,Option.bind_some,a.nm,Option.bind_some];dsimp only[Option.bind_some];rw[hd,if_pos rfl,hl];rfl
section
variable {X:Cx} {a:Expr} {ta:TE3} {pos:Pos} {f:Str}
theorem qviz{rs:List Str}(hk:∀z∈rs,∀C,ClsN X.K z C->FldAsk X.K C f)(ha:PE3 X a ta)(hb:attributeBase a f X.env (eval a X.env)=eval a X.env:=by rfl):PE3 X (.Attribute a f pos) (eFldR rs f ta):=by
 intro pins s σ H Q I ⟨τ,G,Q3,RS,RG,h,k⟩;refine qn1z hb (thn (ha pins s σ H (fun v H1=>∃p z fs i,v=.ref p/\excR z fs X.K p H1/\z∈rs/\fs.lookup f=some i/\Q (.int i) H1) I ⟨τ,G,_,RS,RG,h,fun v H1 d G1 h1 S1 R1 q1=>?_⟩) fun u s1 ⟨v,H1,I1,rv,p,z,fs,i,ev,ex,hz,hl,q⟩=>?_)
 ·cases d with
  |obj p=>
   obtain⟨z,fs,i,e1,hz,hl,q2⟩:=q1;exact⟨p,z,fs,i,qwz h1,(R1 p _ e1).1,hz,hl,k _ H1 (.int i) G1 q1z S1 R1 q2⟩
  |_=>exact q1.elim
 ·subst ev;cases (show u=Value.ref p from rv);have hne:fs≠[]:=fun w=>by
   rw[w] at hl;cases hl
  obtain⟨C,oe,od,mA,d,cn,J,hod,hns,hrel⟩:=qu2z I1.hok ex hne;obtain⟨od2,h2,lk⟩:=qn0z hns;rw[hod] at h2;cases h2;have hf:=hrel f;rw[qj5z,hl] at hf;obtain⟨u,hu,ru⟩:=RelO.some_of (v:=V.int i) (o:=mA f) hf;obtain⟨tk,rfl⟩:=(show ∃t,u=Value.int i t from ru);have A1:=hk z hz C cn;exact exc_value A1.ge I1.kIn J (qvhz A1 (by rw[lk,hu])) rfl ⟨.int i,H1,I1.tok _,⟨tk,rfl⟩,q⟩
theorem qeez{rs:List Str}(hk:∀z∈rs,∀C,ClsN X.K z C->FldAsk X.K C f)(ha:QE X a ta)(hb:attributeBase a f X.env (eval a X.env)=eval a X.env:=by rfl):QE X (.Attribute a f pos) (eFldR rs f ta):=⟨qviz hk ha.of hb⟩
end
end L3
namespace L3
open PySem PySem.Spec PyProof.Rows L2
theorem qvjz{K:PySem.W.Frag}{C B:Addr}{init:Option Value}{newId:String}(e:excIn K C (.ref B::veTail) init newId=true):∃cd,PySem.W.clsIn K C=some cd/\cd.mro=.ref C::.ref B::veTail/\cd.hasDict=true:=by
 obtain⟨nm,qn,N,bs,sn,sub,ab,col,dd,k0,k1,k2,k3,k5,lk⟩:=qfyz e;unfold PySem.W.clsIn;rw[lk];exact⟨_,rfl,rfl,rfl⟩
theorem qvkz{K:PySem.W.Frag}{C:Addr}{bm:List Value}{init:Option Value}{newId:String}(e:excIn K C bm init newId=true):(PySem.W.clsIn K C).isSome=true:=by
 obtain⟨nm,qn,N,bs,sn,sub,ab,col,dd,k0,k1,k2,k3,k5,lk⟩:=qfyz e;unfold PySem.W.clsIn;rw[lk];rfl
theorem qvlz{K:PySem.W.Frag}{f:Addr}{T:Value}(h:PySem.W.typeIn K (.ref f)=some T):∃o,K.lookup f=some o/\o.cls=T:=by
 unfold PySem.W.typeIn at h;cases q:K.lookup f with
 |none=>simp[q] at h
 |some o=>
  simp[q] at h;exact⟨o,rfl,h⟩
def noE:E3:=fun _ _=>False
theorem passN{X:Cx}:Passes (CXE X.prog X.w X.base) X (lowE X.K noE):=fun _ _ _ _ _ _ _ h=>by
 obtain⟨_,_,_,_,_,_,_,_,_,_,_,_,_,_,_,_,_,_,_,z,_⟩:=h;exact z.elim
theorem len1{us:List Value}(h:us.length=1):∃a,us=[a]:=List.length_eq_one_iff.mp h
theorem len2{us:List Value}(h:us.length=2):∃a b,us=[a,b]:=by
 rcases us with _|⟨a,us⟩
 ·cases h
 ·obtain⟨b,rfl⟩:=len1 (us:=us) (Nat.succ.inj h);exact⟨a,b,rfl⟩
theorem len3{us:List Value}(h:us.length=3):∃a b c,us=[a,b,c]:=by
 rcases us with _|⟨a,us⟩
 ·cases h
 ·obtain⟨b,c,rfl⟩:=len2 (us:=us) (Nat.succ.inj h);exact⟨a,b,c,rfl⟩
theorem len4{us:List Value}(h:us.length=4):∃a b c d,us=[a,b,c,d]:=by
 rcases us with _|⟨a,us⟩
 ·cases h
 ·obtain⟨b,c,d,rfl⟩:=len3 (us:=us) (Nat.succ.inj h);exact⟨a,b,c,d,rfl⟩
end L3
namespace My
open PySem L2 L3
def Known(G:Gp):D->Prop
 |.obj a=>∃o,G a=some o/\o.plain
 |_=>True
def wholeD:D->Bool
 |.int _=>true
 |_=>false
theorem qhz{Q:V3}{d:D}{G:Gp}(h:Q d G):(endsOf Q).rt d G:=⟨G,Sub.refl G,h⟩
theorem qapz{Q:V3}{d:D}{G G':Gp}(s:Sub G G')(h:Q d G):(endsOf Q).rt d G':=⟨G,s,h⟩
theorem quz{i:Int}(h1:-(10^80)<i)(h2:i<10^80):Big i:=by
 have:i.natAbs<10^80:=by lia
 exact Nat.lt_trans this (by decide)
theorem Sub.updN{G G':Gp}{a:Addr}{o:GO}(s:Sub G G')(h:G a=none):Sub G (upd3 G' a o):=fun b u e=>by
 rw[qabz (fun z=>by rw[z,h] at e;cases e)];exact s b u e
def qb0z:Sp3:=fun ds G Q=>match ds with
 |[d]=>Known G d/\Q (.bl (wholeD d)) G
 |_=>False
def qfzz:TS3:=sRet (eAndV (eInst "int" (eVar 0)) (eNotV (eInst "bool" (eVar 0))))
theorem qj6z{nm:Str}:∀ds G Q,qb0z ds G Q->qfzz (endsOf Q) (start3 [nm] ds) G:=by
 intro ds G Q h;rcases ds with _|⟨d,_|⟨d2,ds⟩⟩
 ·exact h.elim
 ·cases d with
  |int i=>exact⟨fun _=>qhz h.2,nofun⟩
  |bl b=>exact⟨fun _=>qhz h.2,nofun⟩
  |non=>exact⟨nofun,fun _=>qhz h.2⟩
  |str _=>exact⟨nofun,fun _=>qhz h.2⟩
  |tup _=>exact⟨nofun,fun _=>qhz h.2⟩
  |scr _=>exact⟨nofun,fun _=>qhz h.2⟩
  |dc _=>exact⟨nofun,fun _=>qhz h.2⟩
  |obj a=>
   obtain⟨o1,h1,hp⟩:∃o,G a=some o/\o.plain:=h.1;show match instD "int" G (.obj a) with
    |some b=>_
    |none=>_
   cases hG:G a with
   |none=>rw[h1] at hG;cases hG
   |some o=>
    cases o with
    |lst _=>simp only[instD,hG];exact⟨nofun,fun _=>qhz h.2⟩
    |pen=>simp only[instD,hG];exact⟨nofun,fun _=>qhz h.2⟩
    |dct=>simp only[instD,hG];exact⟨nofun,fun _=>qhz h.2⟩
    |gen R=>
     rw[h1] at hG;cases hG;exact hp.elim
 ·exact h.elim
abbrev qvmz:=@qj6z "thing"
abbrev qbdz:=qb0z
abbrev qvnz:=qfzz
abbrev qvoz:=@qj6z "found"
def qcvz:Sp3:=fun ds G Q=>∃(ns:List Int) (k:Nat),ds=[.scr (ns.map .int),.int k]/\∀i:Int,Q (.int i) G
def qj7z:TS3:=sSeq (sIf (eTest (eOp rLtT3 (eVar 1) (eCB q0z (aCons (eVar 0) (aNil))))) (sRet (eOp rIx3 (eVar 0) (eVar 1))) (sNext)) (sRet (eC (.int 0)))
theorem qvpz:∀ds G Q,qcvz ds G Q->qj7z (endsOf Q) (start3 ["script","k"] ds) G:=by
 rintro ds G Q ⟨ns,k,rfl,q⟩;refine⟨fun h=>?_,fun h=>qhz (q 0)⟩;have h':(k:Int)<((ns.map D.int).length:Nat):=of_decide_eq_true h;rw[List.length_map] at h';have hk:k<ns.length:=by lia
 exact⟨.int ns[k],qbjz (by rw[List.getElem?_map,List.getElem?_eq_getElem hk];rfl),qhz (q _)⟩
def qcfz:Sp3:=fun ds G Q=>∃n:Int,ds=[.int n]/\0≤n/\∀r:Int,0≤r->r<2147483629->Q (.int r) G
def qj8z:TS3:=sSeq (sAsg (eOp rMod3 (eOp rAdd3 (eVar 0) (eC (.int 7919))) (eC (.int 2147483647))) (hName 0)) (sRet (eOp rMod3 (eOp rAdd3 (eOp rAdd3 (eOp rMul3 (eVar 0) (eVar 0)) (eOp rMul3 (eC (.int 48271)) (eVar 0))) (eC (.int 12345))) (eC (.int 2147483629))))
theorem qvqz:∀ds G Q,qcfz ds G Q->qj8z (endsOf Q) (start3 ["seed"] ds) G:=by
 rintro ds G Q ⟨n,rfl,hn,q⟩;have h1:=Int.emod_nonneg (n+7919) (show (2147483647:Int)≠0 by decide);have h2:=Int.emod_lt_of_pos (n+7919) (show (0:Int)<2147483647 by decide);have hb:Big ((n+7919)%2147483647):=quz (by lia) (by lia);refine⟨(by decide:(0:Int)<2147483647),⟨hb,hb⟩,⟨quz (by decide) (by decide),hb⟩,(by decide:(0:Int)<2147483629),qhz (q _ ?_ ?_)⟩
 ·exact Int.emod_nonneg _ (by decide)
 ·exact Int.emod_lt_of_pos _ (by decide)
def qefz:Sp3:=fun ds G Q=>∃(p:Addr) (m i j k:Int),ds=[.obj p,.int m]/\G p=some (.lst [.int i,.int j,.int k])/\PenOk i j k/\0<m/\Big m ∧
 ∀r i' j' k':Int,PenOk i' j' k'->0≤r->r<m->Q (.int r) (upd3 G p (.lst [.int i',.int j',.int k']))
def qajz:Sp3:=fun ds G Q=>∃(p:Addr) (m:Int),ds=[.obj p,.int m]/\G p=some .pen/\(0<m/\Big m)/\∀r:Int,0≤r->r<m->Q (.int r) G
def qj9z:TS3:=sSeq (sIf (eTest (eOp (rEq3 false) (eOp rIx3 (eVar 0) (eC (.int 1))) (eC (.int 1)))) (sSeq (sAsg (eOp rMod3 (eOp rIx3 (eVar 0) (eC (.int 0))) (eVar 1)) (hName 2)) (sSeq (sAsg (eOp rDiv3 (eOp rIx3 (eVar 0) (eC (.int 0))) (eVar 1)) (hSub (eVar 0) (eC (.int 0)))) (sRet (eVar 2)))) (sNext)) (sSeq (sAsg (eCall qcfz (aCons (eOp rAdd3 (eCall qcfz (aCons (eOp rIx3 (eVar 0) (eC (.int 2))) (aNil))) (eC (.int 7))) (aNil))) (hSub (eVar 0) (eC (.int 2)))) (sRet (eOp rMod3 (eOp rDiv3 (eOp rIx3 (eVar 0) (eC (.int 2))) (eC (.int 64))) (eVar 1))))
theorem qvrz:∀ds G Q,qefz ds G Q->qj9z (endsOf Q) (start3 ["pen","many","found"] ds) G:=by
 rintro ds G Q ⟨p,m,i,j,k,rfl,hp,ok,hm,hb,q⟩;obtain⟨o1,o2,o3⟩:=ok;refine⟨_,_,hp,rfl,_,_,rfl,rfl,Nat.zero_le _,fun _=>?_,fun _=>?_⟩
 ·refine⟨_,_,hp,rfl,hm,_,_,hp,rfl,⟨hm,hb⟩,_,0,hp,rfl,?_⟩;refine qhz (q (i%m) (i / m) j k ⟨?_,o2,o3⟩ ?_ ?_)
  ·exact Int.ediv_nonneg o1 (by lia)
  ·exact Int.emod_nonneg _ (by lia)
  ·exact Int.emod_lt_of_pos _ hm
 ·refine⟨_,_,hp,rfl,_,rfl,o2,fun r h1 h2=>⟨_,rfl,(by lia),fun r' h3 h4=>?_⟩⟩;refine⟨_,2,hp,rfl,_,_,qahz,rfl,⟨by decide,quz (by decide) (by decide)⟩,hm,?_⟩;refine qhz (q _ i j r' ⟨o1,h3,by lia⟩ ?_ ?_)
  ·exact Int.emod_nonneg _ (by lia)
  ·exact Int.emod_lt_of_pos _ hm
theorem qvsz{K:PySem.W.Frag}:∀vs H Q E,lowSp K qajz vs H Q E->lowSp K qefz vs H Q E:=by
 rintro vs H Q E ⟨ds,G,Q3,hd,RG,⟨p,m,rfl,hp,hm,q⟩,k⟩;obtain⟨i,j,l,e,ok⟩:=RG p _ hp;refine⟨_,upd3 G p (.lst [.int i,.int j,.int l]),fun d G'=>∃i' j' l',PenOk i' j' l'/\G'=upd3 G p (.lst [.int i',.int j',.int l'])/\Q3 d G,hd,?_,⟨p,m,i,j,l,rfl,qahz,ok,hm.1,hm.2,fun r i' j' k' ok' h1 h2=>⟨i',j',k',ok',qo1z,q r h1 h2⟩⟩,?_⟩
 ·intro a o ea;by_cases z:a=p
  ·subst z;rw[qahz] at ea;cases ea;exact⟨_,e,.cons (by simp[Hv]) (.cons (by simp[Hv]) (.cons (by simp[Hv]) .nil))⟩
  ·rw[qabz z] at ea;exact RG a o ea
 ·rintro v H' d G' hv S R ⟨i',j',l',ok',rfl,h3⟩;refine k v H' d G hv ⟨fun a o ea n=>S.fr a o ea ?_,S.trk,fun a n z=>absurd n z⟩ (fun a o ea=>?_) h3
  ·have:a≠p:=fun z=>by rw[z,hp] at n;cases n
   rw[qabz this];exact n
  ·by_cases z:a=p
   ·subst z;rw[hp] at ea;cases ea;obtain⟨ws,e1,e2⟩:=R a _ qahz;have:=qb9z e2 (ns:=[i',j',l']) rfl;subst this;exact⟨i',j',l',e1,ok'⟩
   ·exact R a o (by rw[qabz z];exact ea)
def qegz:Sp3:=fun ds G Q=>∃c:Int,ds=[.int c]/\∀p i j k G',New G p (.lst [.int i,.int j,.int k]) G'->PenOk i j k->Q (.obj p) G'
def qf0z:Sp3:=fun ds G Q=>∃c:Int,ds=[.int c]/\∀p G',New G p .pen G'->Q (.obj p) G'
def qkaz:TS3:=sSeq (sAsg (eCB qe7z (aCons (eVar 0) (aCons (eOp rSub3 (eC (.int 0)) (eVar 0)) (aNil)))) (hName 1)) (sRet (eLst (aCons (eVar 1) (aCons (eCB qduz (aCons (eOp rGe3 (eVar 1) (eOp rPow3 (eC (.int 10)) (eC (.int 18)))) (aNil))) (aCons (eOp rMod3 (eVar 1) (eC (.int 1000003))) (aNil))))))
theorem qvtz:∀ds G Q,qegz ds G Q->qkaz (endsOf Q) (start3 ["cell","left"] ds) G:=by
 rintro ds G Q ⟨c,rfl,q⟩;refine⟨⟨by decide,by decide,by decide⟩,(by decide:(0:Int)<1000003),fun p G' hp=>qhz (q p _ _ _ _ hp ⟨?_,?_,?_⟩)⟩
 ·split<;>lia
 ·exact Int.emod_nonneg _ (by decide)
 ·exact Int.lt_trans (Int.emod_lt_of_pos _ (by decide)) (by decide)
theorem qvuz{K:PySem.W.Frag}:∀vs H Q E,lowSp K qf0z vs H Q E->lowSp K qegz vs H Q E:=by
 rintro vs H Q E ⟨ds,G,Q3,hd,RG,⟨c,rfl,q⟩,k⟩;refine⟨_,G,fun d G'=>∃p i j l,PenOk i j l/\New G p (.lst [.int i,.int j,.int l]) G'/\d=.obj p,hd,RG,⟨c,rfl,fun p i j l G' hp ok=>⟨p,i,j,l,ok,hp,rfl⟩⟩,?_⟩;rintro v H' d G' hv S R ⟨p,i,j,l,ok,hp,rfl⟩;refine k v H' _ (upd3 G' p .pen) hv ⟨S.fr,S.trk,fun a n z=>S.new a n ?_⟩ (fun a o ea=>?_) (q p _ ⟨hp.non,Sub.updN hp.sub hp.non,qahz⟩)
 ·by_cases y:a=p
  ·rw[y,hp.at_];simp
  ·rw[qabz y] at z;exact z
 ·by_cases z:a=p
  ·subst z;rw[qahz] at ea;cases ea;obtain⟨ws,e1,e2⟩:=R a _ hp.at_;have:=qb9z e2 (ns:=[i,j,l]) rfl;subst this;exact⟨i,j,l,e1,ok⟩
  ·rw[qabz z] at ea;exact R a o ea
abbrev Clk:=Int×Int
def cD(c:Clk):D:=.tup [.int c.1,.int c.2]
def csD(cs:List Clk):D:=.tup (cs.map cD)
def Valid(c:Clk):Prop:=0<c.1/\0≤c.2/\c.2<c.1
def rg(n:Int)(c:Clk):Bool:=n%c.1==c.2
def qcwz:Sp3:=fun ds G Q=>∃(c:Clk) (n:Int),ds=[cD c,.int n]/\0<c.1/\Q (.bl (rg n c)) G
def qkbz:TS3:=sRet (eOp (rEq3 false) (eOp rMod3 (eVar 1) (eOp rIx3 (eVar 0) (eC (.int 0)))) (eOp rIx3 (eVar 0) (eC (.int 1))))
theorem qvvz:∀ds G Q,qcwz ds G Q->qkbz (endsOf Q) (start3 ["clock","number"] ds) G:=by
 rintro ds G Q ⟨⟨s,r⟩,n,rfl,hs,q⟩;exact⟨_,rfl,hs,_,rfl,_,_,rfl,rfl,Nat.zero_le _,qhz q⟩
theorem line1000{n:Nat}(h:n≤1000):n≤sizeLine:=Nat.le_trans h (by decide)
theorem qb1z{α:Type}{guard:Gp->Prop}{g:TG3}{tc:TT3}{te:TE3}{Q:List D->Gp->Prop}(I:S3->Prop)(h:α->D)(pr:α->Bool)(f:α->D){G:Gp}(hg:guard G):∀(xs:List α) (acc:List D) (τ:S3),I τ ->
  (∀x∈xs,∀τ (K1:S3->Gp->Prop) (K2:S3->D->Gp->Prop),I τ->(pr x=true->∀τ2,I τ2->K2 τ2 (f x) G)->(pr x=false->∀τ2,I τ2->K1 τ2 G)->g (h x) τ G fun τ2 G2=>tc τ2 G2 fun b G3=>Br b (te τ2 G3 fun v G4=>K2 τ2 v G4) (K1 τ2 G3)) ->
  Q (acc++(xs.filter pr).map f) G->compGo guard g tc te Q (xs.map h) acc τ G
 |[],acc,τ,_,_,q=>⟨hg,by simpa using q⟩
 |d::ds,acc,τ,hI,hs,q=>by
  refine⟨hg,hs d List.mem_cons_self τ (fun τ2 G3=>compGo guard g tc te Q (ds.map h) acc τ2 G3) (fun τ2 v G4=>compGo guard g tc te Q (ds.map h) (acc++[v]) τ2 G4) hI (fun hp τ2 h2=>?_) fun hp τ2 h2=>?_⟩
  ·refine qb1z I h pr f hg ds _ τ2 h2 (fun d' hd=>hs d' (List.mem_cons_of_mem _ hd)) ?_;rw[List.filter_cons_of_pos hp] at q;simpa using q
  ·refine qb1z I h pr f hg ds _ τ2 h2 (fun d' hd=>hs d' (List.mem_cons_of_mem _ hd)) ?_;rw[List.filter_cons_of_neg (by rw[hp];simp)] at q;exact q
end My
namespace My
open PySem L2 L3
def cX(c:Clk):Dat.D:=.tup [.int c.1,.int c.2]
theorem qf1z:∀cs:List Clk,toDats0 (cs.map cD)=some (cs.map cX)
 |[]=>rfl
 |c::cs=>by
  show (match toDat0 (cD c) with
   |some x=>match toDats0 (cs.map cD) with
    |some xs=>some (x::xs)
    |none=>none
   | none=>none)=_
  rw[qf1z cs];rfl
theorem qbez{G:Gp}{a:Addr}{ds:List D}{xs:List Dat.D}(h:G a=some (.lst ds))(e:toDats0 ds=some xs):toDat G (.obj a)=some (.lst xs):=by
 unfold toDat;simp only[h,e]
theorem qkcz:∀cs:List Clk,Dat.deps (cs.map cX)≤1
 |[]=>Nat.zero_le _
 |c::cs=>by
  show max (cX c).dep (Dat.deps (cs.map cX))≤1;have h1:(cX c).dep=1:=rfl;have:=qkcz cs;lia
theorem qkdz(cs:List Clk):(Dat.D.lst (cs.map cX)).dep≤50:=by
 show Dat.deps (cs.map cX)+1≤50;have:=qkcz cs;lia
theorem qkez(xs:List Dat.D):(Dat.D.lst xs).eqb (.lst [])=xs.isEmpty:=by
 cases xs with
 |nil=>rfl
 |cons x xs=>rfl
theorem qvwz(a b:Clk):(cX a).eqb (cX b)=decide (a=b):=by
 obtain⟨s,r⟩:=a;obtain⟨s',r'⟩:=b;show ((s==s')&&((r==r')&&true))=decide ((s,r)=(s',r'));rw[Bool.eq_iff_iff];simp
theorem qkfz:∀as bs:List Clk,Dat.eqbs (as.map cX) (bs.map cX)=decide (as=bs)
 |[],[]=>rfl
 |[],b::bs=>rfl
 |a::as,[]=>rfl
 |a::as,b::bs=>by
  show ((cX a).eqb (cX b)&&Dat.eqbs (as.map cX) (bs.map cX))=_;rw[qvwz,qkfz as bs,Bool.eq_iff_iff];simp
def rg2(n:Int)(c:Clk):Bool:=(n-c.2)%c.1==0
theorem qvxz{c:Clk}(h:Valid c)(n:Int):rg2 n c=rg n c:=by
 obtain⟨h1,h2,h3⟩:=h;unfold rg rg2;rw[Bool.eq_iff_iff];simp only[beq_iff_eq];constructor
 ·intro e;have h4:=Int.emod_emod_of_dvd n (Int.dvd_refl c.1);have:n%c.1=c.2%c.1:=Int.emod_eq_emod_iff_emod_sub_eq_zero.mpr e;rw[this];exact Int.emod_eq_of_lt h2 h3
 ·intro e;refine Int.emod_eq_emod_iff_emod_sub_eq_zero.mp ?_;rw[e];exact (Int.emod_eq_of_lt h2 h3).symm
end My
namespace My
open PySem L2 L3
def cutG{α:Type}(xs:List α)(lo hi:Option Int):List α:=(xs.drop (HT.sIx xs.length 0 lo)).take (HT.sIx xs.length xs.length hi-HT.sIx xs.length 0 lo)
theorem qcxz{α:Type}(f:α->D)(xs:List α)(lo hi:Option Int):cut3 (xs.map f) lo hi=(cutG xs lo hi).map f:=by
 unfold cut3 cutG;rw[List.length_map,List.map_take,List.map_drop]
theorem qvyz{α:Type}(xs:List α)(lo hi:Option Int):(cutG xs lo hi).length≤xs.length:=by
 unfold cutG;rw[List.length_take,List.length_drop];lia
theorem qf2z{α:Type}(xs:List α)(k:Nat):cutG xs none (some (k:Int))=xs.take k:=by
 unfold cutG;rw[HT.sIx_none,HT.sIx_nat];simp only[List.drop_zero,Nat.sub_zero];by_cases h:k≤xs.length
 ·rw[Nat.min_eq_left h]
 ·rw[Nat.min_eq_right (by lia),List.take_length,List.take_of_length_le (by lia)]
theorem qvzz{α:Type}(xs:List α)(k:Nat):cutG xs (some (k:Int)) none=xs.drop k:=by
 unfold cutG;rw[HT.sIx_none,HT.sIx_nat];by_cases h:k≤xs.length
 ·rw[Nat.min_eq_left h];exact List.take_of_length_le (by rw[List.length_drop];lia)
 ·rw[Nat.min_eq_right (by lia),List.drop_length,List.drop_eq_nil_of_le (by lia)];simp
def ClOk(M:Int)(cs:List Clk):Prop:=∀c∈cs,Valid c/\c.1≤M
theorem qkgz{s r k i:Int}(h:Valid (s,r))(h1:0≤i)(h2:i<k):Valid (s*k,r+s*i):=by
 obtain⟨a,b,c⟩:=h;simp only at a b c;have q:=Int.mul_le_mul_of_nonneg_left (show i≤k-1 by lia) (show 0≤s by lia);rw[Int.mul_sub,Int.mul_one] at q;have q2:=Int.mul_nonneg (show 0≤s by lia) h1;refine⟨?_,?_,?_⟩
 ·exact Int.mul_pos a (by lia)
 ·show 0≤r+s*i;lia
 ·show r+s*i<s*k;lia
theorem qf3z{α:Type}(f:α->D){xs:List α}{r:Int}(h1:0≤r)(h2:r<(xs.length:Nat)):∃x,xs[r.toNat]?=some x/\x∈xs/\atI (xs.map f) r=some (f x):=by
 have hk:r.toNat<xs.length:=by lia
 refine⟨xs[r.toNat],List.getElem?_eq_getElem hk,List.getElem_mem hk,?_⟩;have e:r=((r.toNat:Nat):Int):=by lia
 have q:atI (xs.map f) ((r.toNat:Nat):Int)=some (f xs[r.toNat]):=qbjz (by rw[List.getElem?_map];simp[hk]);rw[←e] at q;exact q
theorem qf4z{ns:List Int}{r:Int}(h1:0≤r)(h2:r<(ns.length:Nat)):∃n,n∈ns/\atI (ns.map D.int) r=some (.int n):=by
 obtain⟨x,_,h3,h4⟩:=qf3z D.int h1 h2;exact⟨x,h3,h4⟩
end My
namespace My
open PySem L2 L3
def toL(c:Clk):List Int:=[c.1,c.2]
theorem qf5z(cs:List Clk):(cs.map toL).map tupI=cs.map cD:=by
 rw[List.map_map];rfl
theorem qf6z{cs:List Clk}:∀{mss:List (List Int)},(∀ns∈mss,ns∈cs.map toL)->∃cs':List Clk,mss=cs'.map toL/\∀c∈cs',c∈cs
 |[],_=>⟨[],rfl,fun c hc=>nomatch hc⟩
 |ns::mss,h=>by
  obtain⟨cs',e,hc⟩:=qf6z (mss:=mss) fun n hn=>h n (List.mem_cons_of_mem _ hn);obtain⟨c,h1,rfl⟩:=List.mem_map.mp (h ns List.mem_cons_self);refine⟨c::cs',by simp[e],fun d hd=>?_⟩;rcases List.mem_cons.mp hd with rfl|hd
  ·exact h1
  ·exact hc d hd
def cLt(a b:Clk):Prop:=a.1<b.1∨(a.1=b.1/\a.2<b.2)
def Rise(cs:List Clk):Prop:=cs.Pairwise cLt
theorem qf7z{a b:Clk}(h:toL a=toL b):a=b:=by
 obtain⟨s,r⟩:=a;obtain⟨s',r'⟩:=b;simp[toL] at h;simp[h]
theorem qv0z{a b:Clk}(h:SortV.lx (toL b) (toL a)=false)(hne:a≠b):cLt a b:=by
 obtain⟨s,r⟩:=a;obtain⟨s',r'⟩:=b;unfold toL at h;simp only[SortV.lx] at h;by_cases e:s'=s
 ·rw[if_pos e] at h;by_cases e2:r'=r
  ·exact absurd (by rw[e,e2]) hne
  ·rw[if_neg e2] at h;have:=of_decide_eq_false h;exact .inr ⟨e.symm,by simp only;lia⟩
 ·rw[if_neg e] at h;have:=of_decide_eq_false h;exact .inl (by simp only;lia)
theorem qkhz{cs:List Clk}(h:RiseL (cs.map toL))(nd:(cs.map toL).Nodup):Rise cs:=by
 have h1:=List.pairwise_map.mp h;have h2:=List.pairwise_map.mp nd;exact (h1.and h2).imp fun {a b} q=>qv0z q.1 fun z=>q.2 (by rw[z])
theorem Rise.take{cs:List Clk}(h:Rise cs)(n:Nat):Rise (cs.take n):=List.Pairwise.sublist (List.take_sublist n cs) h
theorem qv1z{cs:List Clk}{mss:List (List Int)}(hmem:∀ns,ns∈mss↔ns∈cs.map toL)(nd:mss.Nodup)(hr:RiseL mss)(hl:mss.length≤(cs.map toL).length):
  ∃cs':List Clk,mss=cs'.map toL/\(∀c,c∈cs'↔c∈cs)/\Rise cs'/\cs'.length≤cs.length:=by
 obtain⟨cs',rfl,hc⟩:=qf6z fun ns hn=>(hmem ns).mp hn;refine⟨cs',rfl,fun c=>⟨fun h=>hc c h,fun h=>?_⟩,qkhz hr nd,by simpa using hl⟩;obtain⟨c',h1,h2⟩:=List.mem_map.mp ((hmem (toL c)).mpr (List.mem_map.mpr ⟨c,h,rfl⟩));rw[←qf7z h2];exact h1
theorem qkiz{cs:List Clk}:∀ns∈cs.map toL,ns≠[]:=fun ns hn=>by
 obtain⟨c,_,rfl⟩:=List.mem_map.mp hn;simp[toL]
theorem qkjz{G:Gp}{a:Addr}{cs:List Clk}(e:G a=some (.lst (cs.map cD))):G a=some (.lst ((cs.map toL).map tupI)):=by rw[qf5z];exact e
theorem qv2z{r:Int}{n:Nat}(h1:0≤r)(h2:r<(n:Int)):seqIndex? r n=some r.toNat:=by
 unfold seqIndex?;simp only[if_neg (show ¬r<0 by lia)];rw[if_pos (by simp;lia)]
theorem qkkz{α β:Type}(f:α->β):∀(xs:List α) (i:Nat),(xs.map f).eraseIdx i=(xs.eraseIdx i).map f
 |[],_=>rfl
 |_::_,0=>rfl
 |x::xs,i+1=>by simp[qkkz f xs i]
end My
namespace My
open PySem L2 L3
theorem qehz{guard:Gp->Prop}{g:TG3}{tc:TT3}{te:TE3}{Q:List D->Gp->Prop}(I:List D->List D->S3->Gp->Prop)(hg:∀ds acc τ G,I ds acc τ G->guard G)
  (step:∀d ds acc τ G (K1:S3->Gp->Prop) (K2:S3->D->Gp->Prop),I (d::ds) acc τ G->(∀τ' v G',I ds (acc++[v]) τ' G'->K2 τ' v G')->(∀τ' G',I ds acc τ' G'->K1 τ' G')->g d τ G fun τ2 G2=>tc τ2 G2 fun b G3=>Br b (te τ2 G3 fun v G4=>K2 τ2 v G4) (K1 τ2 G3))
  (hend:∀acc τ G,I [] acc τ G->Q acc G):∀ds acc τ G,I ds acc τ G->compGo guard g tc te Q ds acc τ G
 |[],acc,τ,G,h=>⟨hg _ _ _ _ h,hend _ _ _ h⟩
 |d::ds,acc,τ,G,h=>⟨hg _ _ _ _ h,step d ds acc τ G (fun τ2 G3=>compGo guard g tc te Q ds acc τ2 G3) (fun τ2 v G4=>compGo guard g tc te Q ds (acc++[v]) τ2 G4) h
   (fun τ' v G' q=>qehz I hg step hend ds _ τ' G' q) fun τ' G' q=>qehz I hg step hend ds _ τ' G' q⟩
end My
namespace My
open PySem L2 L3
def qklz:Sp3:=fun ds G Q=>∃a b:Nat,ds=[.int a,.int b]/\Q (.int (Nat.gcd a b:Nat)) G
def qv3z:TS3:=sPar 0 1 (aCons (eVar 1) (aCons (eOp rMod3 (eVar 0) (eVar 1)) (aNil)))
def qv4z:TS3:=sRet (eVar 0)
def qkmz:TS3:=sSeq (sWhile (eTest (eOp rGt3 (eVar 1) (eC (.int 0)))) (qv3z)) qv4z
theorem qv5z:∀ds G Q,qklz ds G Q->qkmz (endsOf Q) (start3 ["one","other"] ds) G:=by
 rintro ds G Q ⟨a,b,rfl,q⟩;refine⟨fun m τ G'=>G'=G/\∃a':Nat,τ=[some (.int a'),some (.int (m:Nat))]/\Nat.gcd a' m=Nat.gcd a b,⟨b,rfl,a,rfl,rfl⟩,?_⟩;rintro m τ G' ⟨rfl,a',rfl,hg⟩;refine⟨fun h=>?_,fun h=>?_⟩
 ·have h':(0:Int)<(m:Int):=of_decide_eq_true h;refine⟨h',a'%m,by exact_mod_cast Nat.mod_lt a' (by lia),rfl,m,?_,?_⟩
  ·show [some (D.int (m:Nat)),some (D.int ((a':Int)%(m:Int)))]=_;rw[←Int.natCast_emod]
  ·rw[←hg,Nat.gcd_comm a' m,Nat.gcd_rec m a',Nat.gcd_comm]
 ·have h':¬((0:Int)<(m:Int)):=of_decide_eq_false h;have:m=0:=by lia
  subst this;rw[Nat.gcd_zero_right] at hg;rw[←hg] at q;exact qhz q
def rndF(cs:List Clk)(a:Nat):Nat:=cs.foldl (fun a c=>Nat.lcm a c.1.toNat) a
def rnd(cs:List Clk):Nat:=rndF cs 1
theorem qknz{n:Nat}(h:n<10^80):Big (n:Int):=by
 show (n:Int).natAbs<2^4000;exact Nat.lt_trans (by simpa using h) (by decide)
def qa5z:Sp3:=fun ds G Q=>∃cs:List Clk,ds=[csD cs]/\ClOk 1000 cs/\cs.length≤12/\Q (.int (rnd cs:Nat)) G
def qv6z:TS3:=sRet (eVar 1)
end My
namespace My
open PySem L2 L3
def qcyz:Sp3:=fun ds G Q=>∃a b:Nat,ds=[.int a,.int b]/\Q (.int (Nat.gcd a b:Nat)) G
def qv7z:TS3:=sAsg (eVar 2) (hName 1)
def qv8z:TS3:=sSeq (sAsg (eVar 1) (hName 0)) qv7z
def qv9z:TS3:=sSeq (sAsg (eOp rMod3 (eVar 0) (eVar 1)) (hName 2)) qv8z
def qwaz:TS3:=sRet (eVar 0)
def qkoz:TS3:=sSeq (sWhile (eTest (eOp (rEq3 true) (eVar 1) (eC (.int 0)))) (qv9z)) qwaz
theorem qwbz:∀ds G Q,qcyz ds G Q->qkoz (endsOf Q) (start3 ["one","other","left"] ds) G:=by
 rintro ds G Q ⟨a,b,rfl,q⟩;refine⟨fun m τ G'=>G'=G/\∃(a':Nat) (x:Option D),τ=[some (.int a'),some (.int (m:Nat)),x]/\Nat.gcd a' m=Nat.gcd a b,⟨b,rfl,a,_,rfl,rfl⟩,?_⟩;rintro m τ G' ⟨rfl,a',x,rfl,hg⟩;refine⟨_,_,rfl,rfl,Nat.zero_le _,fun h=>?_,fun h=>?_⟩
 ·have h1:(!((m:Int)==0))=true:=h;have h':(0:Int)<(m:Int):=by simp at h1;lia
  refine⟨h',a'%m,by exact_mod_cast Nat.mod_lt a' (by lia),rfl,m,some (.int (a'%m:Nat)),?_,?_⟩
  ·show [some (D.int (m:Nat)),some (D.int ((a':Int)%(m:Int))),some (D.int ((a':Int)%(m:Int)))]=_;rw[←Int.natCast_emod]
  ·rw[←hg,Nat.gcd_comm a' m,Nat.gcd_rec m a',Nat.gcd_comm]
 ·have h1:(!((m:Int)==0))=false:=h;have:m=0:=by simp at h1;lia
  subst this;rw[Nat.gcd_zero_right] at hg;rw[←hg] at q;exact qhz q
def nD(n:Nat):D:=.int (n:Nat)
def lcmF(ns:List Nat)(a:Nat):Nat:=ns.foldl Nat.lcm a
def qczz:Sp3:=fun ds G Q=>∃(p:Addr) (ns:List Nat),ds=[.obj p]/\G p=some (.lst (ns.map nD))/\(∀n∈ns,0<n/\n≤1000)/\ns.length≤20/\Q (.int (lcmF ns 1:Nat)) G
def qwcz:TS3:=sAsg (eOp rMul3 (eVar 1) (eOp rDiv3 (eVar 2) (eCall qcyz (aCons (eVar 1) (aCons (eVar 2) (aNil)))))) (hName 1)
def qwdz:TS3:=sRet (eVar 1)
def qwez:TS3:=sSeq (sFor (iSeq (eVar 0)) (hName 2) (qwcz)) qwdz
def qkpz:TS3:=sSeq (sAsg (eC (.int 1)) (hName 1)) qwez
theorem qwfz:∀ds G Q,qczz ds G Q->qkpz (endsOf Q) (start3 ["numbers","least","number"] ds) G:=by
 rintro ds G Q ⟨p,ns,rfl,hp,ok,hl,q⟩;refine⟨_,hp,?_⟩;refine qarz (fun ds τ G'=>G'=G/\∃(zs:List Nat) (a:Nat) (x2:Option D),ds=zs.map nD/\τ=[some (.obj p),some (.int a),x2]/\(∀n∈zs,0<n/\n≤1000)/\0<a/\a*1000^zs.length≤1000^20/\lcmF zs a=lcmF ns 1) (fun _ _ _ h=>by rw[h.1];exact hp) ?_ ?_ _ _ _ ⟨rfl,ns,1,none,rfl,rfl,ok,by decide,?_,rfl⟩
 ·rintro d ds τ G' N ⟨rfl,zs,a,x2,e,rfl,okz,ha,hb,hr⟩ hN;cases zs with
  |nil=>cases e
  |cons n zs=>
   cases e;obtain⟨hs1,hs2⟩:=okz _ List.mem_cons_self;have hg:0<Nat.gcd a n:=Nat.gcd_pos_of_pos_left _ ha;have hga:Nat.gcd a n≤a:=Nat.le_of_dvd ha (Nat.gcd_dvd_left _ _);have ha20:a≤1000^20:=Nat.le_trans (Nat.le_mul_of_pos_right _ (Nat.pow_pos (by decide))) hb;have hbig:∀k:Nat,k≤1000^20->Big (k:Int):=fun k hk=>qknz (Nat.lt_of_le_of_lt hk (by decide));refine⟨a,n,rfl,⟨by lia,hbig _ (Nat.le_trans hga ha20)⟩,⟨hbig _ ha20,?_⟩,?_⟩
   ·show Big ((n:Int) / (Nat.gcd a n:Nat));rw[←Int.natCast_ediv];exact hbig _ (Nat.le_trans (Nat.div_le_self _ _) (Nat.le_trans hs2 (by decide)))
   have el:a*(n / Nat.gcd a n)=Nat.lcm a n:=by
    unfold Nat.lcm;rw[Nat.mul_div_assoc a (Nat.gcd_dvd_right a n)]
   refine hN _ _ ⟨rfl,zs,Nat.lcm a n,some (nD n),rfl,?_,fun c hc=>okz c (List.mem_cons_of_mem _ hc),Nat.lcm_pos ha (by lia),?_,hr⟩
   ·show [some (D.obj p),some (D.int ((a:Int)*((n:Int) / (Nat.gcd a n:Nat)))),_]=_;rw[←Int.natCast_ediv,←Int.natCast_mul,el]
   ·refine Nat.le_trans ?_ hb;rw[List.length_cons,Nat.pow_succ,Nat.mul_comm (1000^zs.length) 1000,←Nat.mul_assoc];refine Nat.mul_le_mul_right _ ?_;have:Nat.lcm a n≤a*n:=Nat.le_of_dvd (Nat.mul_pos ha (by lia)) (Nat.lcm_dvd (Nat.dvd_mul_right _ _) (Nat.dvd_mul_left _ _));exact Nat.le_trans this (Nat.mul_le_mul_left _ (by lia))
 ·rintro τ G' ⟨rfl,zs,a,x2,e,rfl,okz,ha,hb,hr⟩;have:zs=[]:=by cases zs with
   |nil=>rfl
   |cons z zs=>cases e
  subst this;have hr':a=lcmF ns 1:=hr;rw[←hr'] at q;exact qhz q
 ·rw[Nat.one_mul];exact Nat.pow_le_pow_right (by decide) hl
theorem qwgz(cs:List Clk)(a:Nat):lcmF (cs.map fun c=>c.1.toNat) a=rndF cs a:=by
 unfold lcmF rndF;rw[List.foldl_map]
def qcgz:Sp3:=fun ds G Q=>∃cs:List Clk,ds=[csD cs]/\ClOk 1000 cs/\cs.length≤20/\Q (.int (rnd cs:Nat)) G
def qkqz:TS3:=sRet (eCall qczz (aCons (eComp ["clock"] [] (iSeq (eVar 0)) (hName 0) (tNoTest3) (eOp rIx3 (eVar 0) (eC (.int 0)))) (aNil)))
theorem filter_all{α:Type}(xs:List α):xs.filter (fun _=>true)=xs:=List.filter_eq_self.mpr fun _ _=>rfl
theorem qwhz:∀ds G Q,qcgz ds G Q->qkqz (endsOf Q) (start3 ["clocks"] ds) G:=by
 rintro ds G Q ⟨cs,rfl,ok,hl,q⟩;refine⟨by show (cs.map cD).length≤sizeLine;rw[List.length_map];exact line1000 (by lia),?_⟩;refine qb1z (fun τ=>∃x,τ=[x]) cD (fun _=>true) (fun c=>nD c.1.toNat) (G:=G) trivial cs [] _ ⟨none,rfl⟩ ?_ ?_
 ·rintro⟨s,r⟩ hm τ K1 K2 ⟨x,rfl⟩ h1 h2;refine⟨fun _=>⟨_,rfl,?_⟩,nofun⟩;have hs:0<s:=(ok _ hm).1.1;have:=h1 rfl [some (cD (s,r))] ⟨_,rfl⟩;show K2 [some (cD (s,r))] (.int s) G;rw[show D.int s=nD (s,r).1.toNat by show D.int s=D.int ((s.toNat:Nat):Int);rw[Int.toNat_of_nonneg (by lia)]];exact this
 ·intro p G' n;rw[filter_all,List.nil_append,show cs.map (fun c:Clk=>nD c.1.toNat)=(cs.map fun c:Clk=>c.1.toNat).map nD by rw[List.map_map];rfl] at n;refine⟨p,_,rfl,n.at_,fun k hk=>?_,by rw[List.length_map];exact hl,?_⟩
  ·obtain⟨c,hc,rfl⟩:=List.mem_map.mp hk;obtain⟨⟨a,_⟩,b⟩:=ok c hc;lia
  ·rw[qwgz];exact qapz n.sub q
end My
namespace My
open PySem L2 L3
theorem rng0(n:Nat):rngL 0 n=(List.range n).map nD:=by
 unfold rngL;refine List.map_congr_left fun i _=>?_;show D.int (0+(i:Int))=D.int (i:Int);rw[Int.zero_add]
end My
namespace My
open PySem L2 L3
def Known2(G:Gp):D->Prop
 |.tup ds=>∀d∈ds,Known G d
 |.obj a=>∃o,G a=some o/\o.plain
 |_=>True
theorem Known.sub{G G':Gp}{d:D}(s:Sub G G')(h:Known G d):Known G' d:=by
 cases d with
 |obj a=>
  obtain⟨o,e,hp⟩:=h;exact⟨o,s a o e,hp⟩
 |_=>trivial
theorem Known2.sub{G G':Gp}{d:D}(s:Sub G G')(h:Known2 G d):Known2 G' d:=by
 cases d with
 |obj a=>
  obtain⟨o,e,hp⟩:=h;exact⟨o,s a o e,hp⟩
 |tup ds=>exact fun d hd=>(h d hd).sub s
 |_=>trivial
theorem qkrz{G:Gp}{d:D}(h:Known2 G d)(hn:∀ds,d≠.tup ds):instD "tuple" G d=some false:=by
 cases d with
 |obj a=>
  obtain⟨o,hG,hp⟩:∃o,G a=some o/\o.plain:=h;cases o with
  |gen R=>exact hp.elim
  |_=>simp[instD,hG]
 |tup ds=>exact absurd rfl (hn ds)
 |_=>rfl
end My
namespace My
open PySem L2 L3
theorem qwiz{cs:List Clk}{mss:List (List Int)}(hp:mss.Perm (cs.map toL))(nd:cs.Nodup)(hr:RiseL mss):∃cs':List Clk,mss=cs'.map toL/\(∀c,c∈cs'↔c∈cs)/\Rise cs'/\cs'.length=cs.length:=by
 obtain⟨cs',rfl,hc⟩:=qf6z fun ns hn=>hp.mem_iff.mp hn;have hnd:(cs.map toL).Nodup:=by
  refine List.pairwise_map.mpr (nd.imp fun {a b} h z=>h (qf7z z))
 refine⟨cs',rfl,fun c=>⟨fun h=>hc c h,fun h=>?_⟩,qkhz hr (hp.nodup_iff.mpr hnd),by simpa using hp.length_eq⟩;obtain⟨c',h1,h2⟩:=List.mem_map.mp (hp.mem_iff.mpr (List.mem_map.mpr ⟨c,h,rfl⟩));rw[←qf7z h2];exact h1
abbrev qb2z:=qklz
abbrev qksz:=qkmz
abbrev qktz:=qv5z
def qwjz:TS3:=sAsg (eOp rDiv3 (eOp rMul3 (eVar 1) (eVar 2)) (eCall qb2z (aCons (eVar 1) (aCons (eVar 2) (aNil))))) (hName 1)
def qwkz:TS3:=sSeq (sFor (iSeq (eVar 0)) (hTup 2 (hCons (hName 2) (hCons (hName 3) (hNil)))) (qwjz)) qv6z
def qkuz:TS3:=sSeq (sAsg (eC (.int 1)) (hName 1)) qwkz
theorem qkvz:∀ds G Q,qa5z ds G Q->qkuz (endsOf Q) (start3 ["clocks","found","step","rest"] ds) G:=by
 rintro ds G Q ⟨cs,rfl,ok,hl,q⟩;refine qarz (fun ds τ G'=>G'=G/\∃(zs:List Clk) (a:Nat) (x2 x3:Option D),ds=zs.map cD/\τ=[some (csD cs),some (.int a),x2,x3]/\ClOk 1000 zs/\0<a/\a*1000^zs.length≤1000^12/\rndF zs a=rnd cs) (fun _ _ _ _=>trivial) ?_ ?_ _ _ _ ⟨rfl,cs,1,none,none,rfl,rfl,ok,by decide,?_,rfl⟩
 ·rintro d ds τ G' N ⟨rfl,zs,a,x2,x3,e,rfl,okz,ha,hb,hr⟩ hN;cases zs with
  |nil=>cases e
  |cons z zs=>
   cases e;obtain⟨s,r⟩:=z;obtain⟨v,hs⟩:=okz _ List.mem_cons_self;have hs1:0<s:=v.1;have hs2:s≤1000:=hs;obtain⟨n,rfl⟩:∃n:Nat,s=(n:Int):=⟨s.toNat,by lia⟩;have hg:0<Nat.gcd a n:=Nat.gcd_pos_of_pos_left _ ha;have hga:Nat.gcd a n≤a:=Nat.le_of_dvd ha (Nat.gcd_dvd_left _ _);have ha12:a≤1000^12:=Nat.le_trans (Nat.le_mul_of_pos_right _ (Nat.pow_pos (by decide))) hb;have hbig:∀k:Nat,k≤1000^12->Big (k:Int):=fun k hk=>qknz (Nat.lt_of_le_of_lt hk (by decide));refine⟨rfl,⟨hbig _ ha12,hbig _ (Nat.le_trans (show n≤1000 by lia) (by decide))⟩,a,n,rfl,⟨by lia,hbig _ (Nat.le_trans hga ha12)⟩,?_⟩;refine hN _ _ ⟨rfl,zs,Nat.lcm a n,some (.int n),some (.int r),rfl,?_,fun c hc=>okz c (List.mem_cons_of_mem _ hc),Nat.lcm_pos ha (by lia),?_,hr⟩
   ·show [some (csD cs),some (D.int ((a:Int)*(n:Int) / (Nat.gcd a n:Nat))),_,_]=_;rw[←Int.natCast_mul,←Int.natCast_ediv];rfl
   ·refine Nat.le_trans ?_ hb;rw[List.length_cons,Nat.pow_succ,Nat.mul_comm (1000^zs.length) 1000,←Nat.mul_assoc];refine Nat.mul_le_mul_right _ ?_;have:Nat.lcm a n≤a*n:=Nat.le_of_dvd (Nat.mul_pos ha (by lia)) (Nat.lcm_dvd (Nat.dvd_mul_right _ _) (Nat.dvd_mul_left _ _));exact Nat.le_trans this (Nat.mul_le_mul_left _ (by lia))
 ·rintro τ G' ⟨rfl,zs,a,x2,x3,e,rfl,okz,ha,hb,hr⟩;have:zs=[]:=by cases zs with
   |nil=>rfl
   |cons z zs=>cases e
  subst this;have hr':a=rnd cs:=hr;rw[←hr'] at q;exact qhz q
 ·rw[Nat.one_mul];exact Nat.pow_le_pow_right (by decide) hl
def qc0z:Sp3:=fun ds G Q=>∃(cs:List Clk) (n:Int),ds=[csD cs,.int n]/\(∀c∈cs,0<c.1)/\cs.length≤1000/\∀p G',New G p (.lst ((cs.filter (rg2 n)).map cD)) G'->Q (.obj p) G'
def qkwz:TS3:=sRet (eComp ["clock"] [1] (iSeq (eVar 0)) (hName 0) (eTest (eOp (rEq3 false) (eOp rMod3 (eOp rSub3 (eVar 1) (eOp rIx3 (eVar 0) (eC (.int 1)))) (eOp rIx3 (eVar 0) (eC (.int 0)))) (eC (.int 0)))) (eVar 0))
theorem qwlz:∀ds G Q,qc0z ds G Q->qkwz (endsOf Q) (start3 ["clocks","number"] ds) G:=by
 rintro ds G Q ⟨cs,n,rfl,hc,hz,q⟩;refine⟨by show (cs.map cD).length≤sizeLine;rw[List.length_map];exact line1000 hz,?_⟩;refine qb1z (fun τ=>∃x,τ=[x,some (.int n)]) cD (rg2 n) cD (G:=G) trivial cs [] _ ⟨none,rfl⟩ ?_ ?_
 ·rintro⟨s,r⟩ hm τ K1 K2 ⟨x,rfl⟩ h1 h2;exact⟨_,rfl,_,rfl,hc _ hm,_,_,rfl,rfl,Nat.zero_le _,fun e=>h1 e _ ⟨_,rfl⟩,fun e=>h2 e _ ⟨_,rfl⟩⟩
 ·exact fun p G' hp=>qhz (q p G' hp)
theorem qwmz(as bs:List Clk):(Dat.D.lst (as.map cX)).eqb (.lst (bs.map cX))=decide (as=bs):=qkfz as bs
theorem qkxz{α:Type}(f:α->Bool):∀xs:List α,blsOf (xs.map fun x=>D.bl (f x))=some (xs.map f)
 |[]=>rfl
 |x::xs=>by
  show Option.map _ (blsOf (xs.map fun x=>D.bl (f x)))=_;rw[qkxz f xs];rfl
end My
namespace My
open PySem L2 L3
theorem qf8z{α β:Type}(f:α->D)(g:β->D):∀(as:List α) (bs:List β),zipD (as.map f) (bs.map g)=(as.zip bs).map fun p=>D.tup [f p.1,g p.2]
 |[],_=>rfl
 |a::as,[]=>rfl
 |a::as,b::bs=>by
  show D.tup [f a,g b]::zipD (as.map f) (bs.map g)=D.tup [f a,g b]::(as.zip bs).map _;rw[qf8z f g as bs]
theorem qwnz{β:Type}(g:β->D)(as:List D)(bs:List β):zipD as (bs.map g)=(as.zip bs).map fun p=>D.tup [p.1,g p.2]:=by
 have:=qf8z (fun d:D=>d) g as bs;rw[List.map_id'] at this;exact this
theorem qwoz{β:Type}(g:β->D)(bs:List β):enumD (bs.map g)=((List.range bs.length).zip bs).map fun p=>D.tup [nD p.1,g p.2]:=by
 unfold enumD;rw[List.length_map,rng0];exact qf8z nD g _ _
end My
namespace My
open PySem L2 L3
def parts(c:Clk)(k:Nat):List Clk:=(List.range k).map fun t:Nat=>(c.1*(k:Int),c.2+c.1*(t:Int))
theorem qaqz(c:Clk)(k:Nat):(parts c k).length=k:=by simp[parts]
def qa6z:Sp3:=fun ds G Q=>∃(c:Clk) (k:Nat),ds=[cD c,.int k]/\k≤10000/\Big c.1/\∀p G',New G p (.lst ((parts c k).map cD)) G'->Q (.obj p) G'
def tbp(nm:Str):TS3:=sRet (eComp [nm] [0,1] (iRng1 (aCons (eVar 1) (aNil))) (hName 0) (tNoTest3) (eTup (aCons (eOp rMul3 (eOp rIx3 (eVar 1) (eC (.int 0))) (eVar 2)) (aCons (eOp rAdd3 (eOp rIx3 (eVar 1) (eC (.int 1))) (eOp rMul3 (eOp rIx3 (eVar 1) (eC (.int 0))) (eVar 0))) (aNil)))))
theorem qkyz{nm:Str}:∀ds G Q,qa6z ds G Q->tbp nm (endsOf Q) (start3 ["clock","k"] ds) G:=by
 rintro ds G Q ⟨c,k,rfl,hk,hb,q⟩;obtain⟨s,r⟩:=c;have bk:∀t:Nat,t≤10000->Big (t:Int):=fun t ht=>quz (by lia) (by lia);refine⟨⟨by lia,by lia⟩,?_,?_⟩
 ·show (rngL 0 ((k:Int)).toNat).length≤sizeLine;rw[qbkz];exact Nat.le_trans (show ((k:Int)).toNat≤10000 by lia) (by decide)
 show compGo _ _ _ _ _ (rngL 0 ((k:Int)).toNat) _ _ _;rw[Int.toNat_natCast,rng0];refine qb1z (fun τ=>∃x,τ=[x,some (cD (s,r)),some (.int k)]) nD (fun _=>true) (fun t:Nat=>cD (s*(k:Int),r+s*(t:Int))) (G:=G) trivial (List.range k) [] _ ⟨none,rfl⟩ ?_ ?_
 ·rintro t hm τ K1 K2 ⟨x,rfl⟩ h1 h2;have ht:t<k:=by simpa using hm
  exact⟨fun _=>⟨_,rfl,⟨hb,bk k hk⟩,_,rfl,_,rfl,⟨hb,bk t (by lia)⟩,h1 rfl _ ⟨_,rfl⟩⟩,nofun⟩
 ·intro p G' n;rw[filter_all,List.nil_append] at n;refine qhz (q p G' ?_);unfold parts;rw[List.map_map];exact n
def qkzz:TS3:=sRet (eComp ["turn"] [0,1] (iRng1 (aCons (eVar 1) (aNil))) (hName 0) (tNoTest3) (eTup (aCons (eOp rMul3 (eOp rIx3 (eVar 1) (eC (.int 0))) (eVar 2)) (aCons (eOp rAdd3 (eOp rIx3 (eVar 1) (eC (.int 1))) (eOp rMul3 (eOp rIx3 (eVar 1) (eC (.int 0))) (eVar 0))) (aNil)))))
theorem qwpz:∀ds G Q,qa6z ds G Q->qkzz (endsOf Q) (start3 ["clock","k"] ds) G:=qkyz
abbrev qwqz:=qa6z
def qk0z:TS3:=sRet (eComp ["part"] [0,1] (iRng1 (aCons (eVar 1) (aNil))) (hName 0) (tNoTest3) (eTup (aCons (eOp rMul3 (eOp rIx3 (eVar 1) (eC (.int 0))) (eVar 2)) (aCons (eOp rAdd3 (eOp rIx3 (eVar 1) (eC (.int 1))) (eOp rMul3 (eOp rIx3 (eVar 1) (eC (.int 0))) (eVar 0))) (aNil)))))
theorem qwrz:∀ds G Q,qwqz ds G Q->qk0z (endsOf Q) (start3 ["clock","k"] ds) G:=qkyz
abbrev qeiz:=qa6z
abbrev qwsz:=qk0z
abbrev qwtz:=qwrz
def formB:D->D->Bool
 |.int k,.tup ps=>decide (2≤k)&&(((ps.length:Nat):Int)==k)
 |_,_=>false
def qc1z:Sp3:=fun ds G Q=>∃a b:D,ds=[a,b]/\Known G a/\Known2 G b/\Q (.bl (formB a b)) G
def qk1z:TS3:=sRet (eAndV (eCall qb0z (aCons (eVar 0) (aNil))) (eAndV (eOp rGe3 (eVar 0) (eC (.int 2))) (eAndV (eInst "tuple" (eVar 1)) (eOp (rEq3 false) (eCB q0z (aCons (eVar 1) (aNil))) (eVar 0)))))
theorem qwuz(k:Int)(b:D)(h:∀ds,b≠.tup ds):formB (.int k) b=false:=by
 cases b with
 |tup ds=>exact absurd rfl (h ds)
 |_=>rfl
theorem qwvz:∀ds G Q,qc1z ds G Q->qk1z (endsOf Q) (start3 ["k","papers"] ds) G:=by
 rintro ds G Q ⟨a,b,rfl,ka,kb,q⟩;refine⟨ka,?_⟩;cases a with
 |int k=>
  refine⟨fun _=>⟨fun h=>?_,fun h=>?_⟩,nofun⟩
  ·have h':2≤k:=of_decide_eq_true h;cases b with
   |tup ps=>
    refine⟨fun _=>⟨_,_,rfl,rfl,Nat.zero_le _,?_⟩,nofun⟩;show (endsOf Q).rt (.bl (((ps.length:Nat):Int)==k)) G;have e:formB (.int k) (.tup ps)=(((ps.length:Nat):Int)==k):=by
     show (decide (2≤k)&&_)=_;rw[decide_eq_true h',Bool.true_and]
    rw[e] at q;exact qhz q
   |obj a=>
    show match instD "tuple" G (.obj a) with
     |some b=>_
     |none=>False
    rw[qkrz kb (fun ds h=>by cases h)];rw[qwuz k _ (fun ds h=>by cases h)] at q;exact⟨nofun,fun _=>qhz q⟩
   |_=>exact⟨nofun,fun _=>qhz q⟩
  ·have h':¬(2≤k):=of_decide_eq_false h;have e:formB (.int k) b=false:=by
    cases b with
    |tup ps=>
     show (decide (2≤k)&&_)=false;rw[decide_eq_false h',Bool.false_and]
    |_=>rfl
   rw[e] at q;exact qhz q
 |_=>
  refine⟨nofun,fun _=>?_⟩;exact qhz q
end My
namespace My
open PySem L2 L3
theorem qwwz{cs:List Clk}{d:Nat}:∀{a:Nat},a∣d->(∀c∈cs,c.1.toNat∣d)->rndF cs a∣d:=by
 induction cs with
 |nil=>exact fun h _=>h
 |cons c cs ih=>
  intro a h hc;exact ih (a:=Nat.lcm a c.1.toNat) (Nat.lcm_dvd h (hc c List.mem_cons_self)) fun c' h'=>hc c' (List.mem_cons_of_mem _ h')
theorem qwxz{cs:List Clk}:∀{a:Nat},a∣rndF cs a:=by
 induction cs with
 |nil=>exact Nat.dvd_refl _
 |cons c cs ih=>intro a;exact Nat.dvd_trans (Nat.dvd_lcm_left a c.1.toNat) (ih (a:=Nat.lcm a c.1.toNat))
theorem qwyz{cs:List Clk}{c:Clk}:∀{a:Nat},c∈cs->c.1.toNat∣rndF cs a:=by
 induction cs with
 |nil=>exact fun h=>nomatch h
 |cons d cs ih=>
  intro a h;rcases List.mem_cons.mp h with rfl|h
  ·exact Nat.dvd_trans (Nat.dvd_lcm_right a c.1.toNat) (qwxz (cs:=cs) (a:=Nat.lcm a c.1.toNat))
  ·exact ih (a:=Nat.lcm a d.1.toNat) h
def insB(a b:Clk):Bool:=a.1%b.1==0&&rg a.2 b
def qchz:Sp3:=fun ds G Q=>∃a b:Clk,ds=[cD a,cD b]/\0<b.1/\Q (.bl (insB a b)) G
def qk2z:TS3:=sRet (eAndV (eOp (rEq3 false) (eOp rMod3 (eOp rIx3 (eVar 0) (eC (.int 0))) (eOp rIx3 (eVar 1) (eC (.int 0)))) (eC (.int 0))) (eCall qcwz (aCons (eVar 1) (aCons (eOp rIx3 (eVar 0) (eC (.int 1))) (aNil)))))
theorem qwzz:∀ds G Q,qchz ds G Q->qk2z (endsOf Q) (start3 ["one","other"] ds) G:=by
 rintro ds G Q ⟨⟨s1,r1⟩,⟨s2,r2⟩,rfl,hb,q⟩;refine⟨_,rfl,_,rfl,hb,_,_,rfl,rfl,Nat.zero_le _,fun h=>?_,fun h=>?_⟩
 ·have h':(s1%s2==0)=true:=h;have e:insB (s1,r1) (s2,r2)=rg r1 (s2,r2):=by
   show (s1%s2==0&&rg r1 (s2,r2))=_;rw[h',Bool.true_and]
  rw[e] at q;exact⟨_,rfl,(s2,r2),r1,rfl,hb,qhz q⟩
 ·have h':(s1%s2==0)=false:=h;have e:insB (s1,r1) (s2,r2)=false:=by
   show (s1%s2==0&&rg r1 (s2,r2))=_;rw[h',Bool.false_and]
  rw[e] at q;exact qhz q
end My
namespace My
open PySem L2 L3
def ClSm(cs:List Clk):Prop:=∀c∈cs,Valid c/\(c.1≤24/\c.1∣720)
theorem more720{s k:Int}(h0:0<s)(h:s∣720)(hk:k=2∨k=3)(hl:s*k<25):s*k∣720:=by
 obtain⟨n,rfl⟩:∃n:Nat,s=(n:Int):=⟨s.toNat,by lia⟩;have hn:n∣720:=Int.natCast_dvd_natCast.mp h;have h2:∀n:Nat,n<13->n∣720->(n*2<25->n*2∣720)/\(n*3<25->n*3∣720):=by decide
 rcases hk with rfl|rfl
 ·exact Int.natCast_dvd_natCast.mpr ((h2 n (by lia) hn).1 (by lia))
 ·exact Int.natCast_dvd_natCast.mpr ((h2 n (by lia) hn).2 (by lia))
theorem list720{n:Int}(h:n∈([2,3,4,5,6,8,9,12,18,24]:List Int)):n∣720:=by
 simp only[List.mem_cons,List.not_mem_nil,or_false] at h;rcases h with rfl|rfl|rfl|rfl|rfl|rfl|rfl|rfl|rfl|rfl<;>decide
def qc2z:Sp3:=fun ds G Q=>∃(p:Addr) (t:Int),ds=[.obj p,.int t]/\G p=some .pen/\(0≤t/\t≤1000)/\∀q cs G',ClSm cs->1≤cs.length->cs.length≤12->New G q (.lst (cs.map cD)) G'->Q (.obj q) G'
def qw0z:TS3:=sIf (eAnd (eTest (eOp rLtT3 (eOp rAdd3 (eCB q0z (aCons (eVar 2) (aNil))) (eVar 5)) (eC (.int 13)))) (eTest (eOp rLtT3 (eOp rMul3 (eVar 6) (eVar 5)) (eC (.int 25))))) (sAsg (eOp rAdd3 (eOp rAdd3 (eSl (eVar 2) (oNone) (oSome (eVar 4))) (eComp ["part"] [6,5,7] (iRng1 (aCons (eVar 5) (aNil))) (hName 0) (tNoTest3) (eTup (aCons (eOp rMul3 (eVar 1) (eVar 2)) (aCons (eOp rAdd3 (eVar 3) (eOp rMul3 (eVar 1) (eVar 0))) (aNil)))))) (eSl (eVar 2) (oSome (eOp rAdd3 (eVar 4) (eC (.int 1)))) (oNone))) (hName 2)) (sNext)
def qw1z:TS3:=sSeq (sAsg (eOp rIx3 (eVar 2) (eVar 4)) (hTup 2 (hCons (hName 6) (hCons (hName 7) (hNil))))) qw0z
def qw2z:TS3:=sSeq (sAsg (eLstIx (aCons (eC (.int 2)) (aCons (eC (.int 2)) (aCons (eC (.int 3)) (aNil)))) (eCall qajz (aCons (eVar 0) (aCons (eC (.int 3)) (aNil))))) (hName 5)) qw1z
def qw3z:TS3:=sSeq (sAsg (eCall qajz (aCons (eVar 0) (aCons (eCB q0z (aCons (eVar 2) (aNil))) (aNil)))) (hName 4)) qw2z
def qw4z:TS3:=sRet (eVar 2)
def qw5z:TS3:=sSeq (sFor (iRng1 (aCons (eVar 1) (aNil))) (hName 3) (qw3z)) qw4z
def qk3z:TS3:=sSeq (sAsg (eLst (aCons (eTup (aCons (eC (.int 1)) (aCons (eC (.int 0)) (aNil)))) (aNil))) (hName 2)) qw5z
theorem qw6z:∀ds G Q,qc2z ds G Q->qk3z (endsOf Q) (start3 ["pen","times","found","turn","spot","k","step","rest"] ds) G:=by
 rintro ds G Q ⟨p,t,rfl,hp,ht,q⟩;intro q0 G0 hq0;refine⟨⟨by lia,by lia⟩,?_⟩;refine qarz (fun _ τ G'=>∃q cs x3 x4 x5 x6 x7,τ=[some (.obj p),some (.int t),some (.obj q),x3,x4,x5,x6,x7]/\New G q (.lst (cs.map cD)) G'/\ClSm cs/\1≤cs.length/\cs.length≤12) (fun _ _ _ _=>trivial) ?_ ?_ _ _ _ ?_
 ·rintro d ds τ G1 N ⟨q1,cs,x3,x4,x5,x6,x7,rfl,n1,ok,l1,l2⟩ hN;have e1:=n1.at_;have hp1:=n1.sub p _ hp;refine⟨_,e1,p,_,rfl,hp1,⟨?_,?_⟩,fun spot h1 h2=>?_⟩
  ·rw[List.length_map];lia
  ·exact quz (by rw[List.length_map];lia) (by rw[List.length_map];lia)
  rw[List.length_map] at h2;refine⟨p,3,rfl,hp1,⟨by decide,quz (by decide) (by decide)⟩,fun r h3 h4=>?_⟩;obtain⟨k,hk,ek⟩:=qf4z (ns:=[2,2,3]) h3 h4;refine⟨.int k,ek,?_⟩;obtain⟨c,ec1,hc,ec⟩:=qf3z cD h1 h2;obtain⟨s,r'⟩:=c;refine⟨_,cD (s,r'),e1,ec,rfl,?_⟩;have hv:=(ok _ hc).1;have hs24:=(ok _ hc).2.1;have hs720:=(ok _ hc).2.2;have hk':k=2∨k=3:=by simp at hk;lia
  have again:N [some (.obj p),some (.int t),some (.obj q1),some d,some (.int spot),some (.int k),some (.int s),some (.int r')] G1:=
   hN _ _ ⟨q1,cs,_,_,_,_,_,rfl,n1,ok,l1,l2⟩
  refine⟨_,e1,fun h5=>⟨⟨quz ?_ ?_,quz ?_ ?_⟩,fun h6=>?_,fun h6=>again⟩,fun h5=>⟨nofun,fun _=>again⟩⟩
  ·have:=hv.1;simp only at this;lia
  ·simp only at hs24;lia
  ·lia
  ·lia
  have h5':((cs.map cD).length:Int)+k<13:=of_decide_eq_true h5;have h6':s*k<25:=of_decide_eq_true h6;rw[List.length_map] at h5';refine⟨_,e1,fun p1 G2 a1=>⟨⟨by lia,by lia⟩,?_,?_⟩⟩
  ·show (rngL 0 k.toNat).length≤sizeLine;rw[qbkz];exact line1000 (by lia)
  refine qb1z (fun τ=>∃x,τ=[x,some (.int s),some (.int k),some (.int r')]) (fun i:Nat=>D.int (0+(i:Int))) (fun _=>true) (fun i:Nat=>cD (s*k,r'+s*(0+(i:Int)))) trivial (List.range k.toNat) [] _ ⟨none,rfl⟩ ?_ ?_
  ·rintro i hi τ K1 K2 ⟨x,rfl⟩ g1 g2;have hi':(i:Int)<k:=by have:=List.mem_range.mp hi;lia
   have b1:Big s:=quz (by have:=hv.1;simp only at this;lia) (by simp only at hs24;lia);refine⟨fun _=>⟨⟨b1,quz (by lia) (by lia)⟩,⟨b1,quz (by lia) (by lia)⟩,?_⟩,nofun⟩;exact g1 rfl _ ⟨_,rfl⟩
  ·intro p2 G3 a2;obtain⟨j,rfl⟩:∃j:Nat,spot=(j:Int):=⟨spot.toNat,by lia⟩;have hj:j<cs.length:=by lia
   have el:(cut3 (cs.map cD) none (some (j:Int))++([]++((List.range k.toNat).filter fun _=>true).map fun i:Nat=>cD (s*k,r'+s*(0+(i:Int))))++cut3 (cs.map cD) (some ((j:Int)+1)) none) =
     (cs.take j++((List.range k.toNat).map fun i:Nat=>(s*k,r'+s*(0+(i:Int))))++cs.drop (j+1)).map cD:=by
    rw[qcxz,qcxz,qf2z,show ((j:Int)+1)=((j+1:Nat):Int) by lia,qvzz,List.filter_eq_self.mpr (fun _ _=>rfl)];simp[List.map_append,List.map_map]
   have hlen:(cs.take j++((List.range k.toNat).map fun i:Nat=>(s*k,r'+s*(0+(i:Int))))++cs.drop (j+1)).length=cs.length-1+k.toNat:=by
    rw[List.length_append,List.length_append,List.length_take,List.length_drop,List.length_map,List.length_range];lia
   have hle:(cut3 (cs.map cD) none (some (j:Int))++([]++((List.range k.toNat).filter fun _=>true).map fun i:Nat=>cD (s*k,r'+s*(0+(i:Int))))++cut3 (cs.map cD) (some ((j:Int)+1)) none).length≤12:=by
    rw[el,List.length_map,hlen];lia
   refine⟨_,_,a2.sub _ _ a1.at_,a2.at_,?_,fun p3 G4 a3=>?_⟩
   ·rw[List.length_append,List.length_append] at hle;exact line1000 (by lia)
   refine⟨_,a3.sub _ _ (a2.sub _ _ (a1.sub _ _ e1)),fun p4 G5 a4=>?_⟩;refine⟨_,_,a4.sub _ _ a3.at_,a4.at_,?_,fun p5 G6 a5=>?_⟩
   ·rw[←List.length_append];exact line1000 (by lia)
   ·rw[el] at a5;have s4:=((n1.sub.trans a1.sub).trans a2.sub).trans (a3.sub.trans a4.sub);refine hN _ _ ⟨p5,_,_,_,_,_,_,rfl,⟨s4.of_none a5.non,s4.trans a5.sub,a5.at_⟩,fun c hc=>?_,by lia,by lia⟩;rcases List.mem_append.mp hc with hc|hc
    ·rcases List.mem_append.mp hc with hc|hc
     ·exact ok c (List.mem_of_mem_take hc)
     ·obtain⟨i,hi,rfl⟩:=List.mem_map.mp hc;have:=List.mem_range.mp hi;exact⟨qkgz hv (by lia) (by lia),by show s*k≤24;lia,more720 hv.1 hs720 hk' h6'⟩
    ·exact ok c (List.mem_of_mem_drop hc)
 ·rintro τ G1 ⟨q1,cs,x3,x4,x5,x6,x7,rfl,n1,ok,l1,l2⟩;exact qhz (q q1 cs _ ok l1 l2 n1)
 ·exact⟨q0,[(1,0)],_,_,_,_,_,rfl,hq0,by intro c hc;simp at hc;subst hc;exact⟨⟨by decide,by decide,by decide⟩,by decide,by decide⟩,by decide,by decide⟩
def qc3z:Sp3:=fun ds G Q=>∃p:Addr,ds=[.obj p]/\G p=some .pen/\∀cs,ClSm cs->cs.length≤12->Rise cs->Q (csD cs) G
def qw7z:TS3:=sIf (eAnd (eTest (eOp (rEq3 false) (eVar 1) (eC (.int 1)))) (eTest (eOp (rEq3 true) (eVar 2) (eLst (aNil))))) (sDrop (eM qipz (eVar 2) (aCons (eCall qajz (aCons (eVar 0) (aCons (eCB q0z (aCons (eVar 2) (aNil))) (aNil)))) (aNil)))) (sNext)
def qw8z:TS3:=sDrop (eM qioz (eVar 2) (aCons (eTup (aCons (eVar 5) (aCons (eCall qajz (aCons (eVar 0) (aCons (eVar 5) (aNil)))) (aNil)))) (aNil)))
def qw9z:TS3:=sSeq (sAsg (eOp rIx3 (eVar 3) (eCall qajz (aCons (eVar 0) (aCons (eC (.int 10)) (aNil))))) (hName 5)) qw8z
def qxaz:TS3:=sRet (eCB qcaz (aCons (eSl (eSortSet (eVar 2)) (oNone) (oSome (eC (.int 12)))) (aNil)))
def qxbz:TS3:=sSeq (sFor (iRng1 (aCons (eLstIx (aCons (eC (.int 0)) (aCons (eC (.int 1)) (aCons (eC (.int 2)) (aCons (eC (.int 3)) (aCons (eC (.int 5)) (aCons (eC (.int 9)) (aNil))))))) (eVar 1)) (aNil))) (hName 4) (qw9z)) qxaz
def qk4z:TS3:=sSeq (sAsg (eLst (aCons (eC (.int 2)) (aCons (eC (.int 3)) (aCons (eC (.int 4)) (aCons (eC (.int 5)) (aCons (eC (.int 6)) (aCons (eC (.int 8)) (aCons (eC (.int 9)) (aCons (eC (.int 12)) (aCons (eC (.int 18)) (aCons (eC (.int 24)) (aNil)))))))))))) (hName 3)) qxbz
def qxcz:TS3:=sSeq (sIf (eTest (eOp rLtT3 (eVar 1) (eC (.int 4)))) (sSeq (sAsg (eCall qc2z (aCons (eVar 0) (aCons (eCall qajz (aCons (eVar 0) (aCons (eC (.int 6)) (aNil)))) (aNil)))) (hName 2)) qw7z) (sNext)) qk4z
def qxdz:TS3:=sSeq (sAsg (eLst (aNil)) (hName 2)) qxcz
def qk5z:TS3:=sSeq (sAsg (eCall qajz (aCons (eVar 0) (aCons (eC (.int 6)) (aNil)))) (hName 1)) qxdz
theorem qejz{G:Gp}{Q:V3}{p:Addr}(hp:G p=some .pen)(q:∀cs,ClSm cs->cs.length≤12->Rise cs->Q (csD cs) G){G1:Gp}{q1:Addr}{cs:List Clk}{way:Int}{x3 x4 x5:Option D}(hw:0≤way/\way<6)
  (n1:New G q1 (.lst (cs.map cD)) G1) (ok:ClSm cs) (hl:cs.length≤12):qk4z (endsOf Q) [some (.obj p),some (.int way),some (.obj q1),x3,x4,x5] G1:=by
 intro st G0 hst;obtain⟨n,hn,en⟩:=qf4z (ns:=[0,1,2,3,5,9]) hw.1 hw.2;refine⟨.int n,en,?_⟩;have hn':0≤n/\n≤9:=by simp at hn;lia
 refine⟨⟨by lia,by lia⟩,?_⟩;refine qarz (fun ds τ G'=>∃cs x4 x5,τ=[some (.obj p),some (.int way),some (.obj q1),some (.obj st),x4,x5]/\New G q1 (.lst (cs.map cD)) G'/\G' st=some (.lst (([2,3,4,5,6,8,9,12,18,24]:List Int).map D.int))/\ClSm cs/\cs.length+ds.length≤21) (fun _ _ _ _=>trivial) ?_ ?_ _ _ _ ?_
 ·rintro d ds τ G2 N ⟨cs,x4,x5,rfl,n2,e3,ok,hl⟩ hN;have hp2:=n2.sub p _ hp;have e2:=n2.at_;refine⟨p,10,rfl,hp2,⟨by decide,quz (by decide) (by decide)⟩,fun r h1 h2=>?_⟩;obtain⟨stp,hm,es⟩:=qf4z (ns:=[2,3,4,5,6,8,9,12,18,24]) h1 h2;have hs:2≤stp/\stp≤24:=by simp at hm;omega
  refine⟨_,.int stp,e3,es,⟨q1,_,rfl,e2⟩,p,stp,rfl,hp2,⟨by lia,quz (by lia) (by lia)⟩,fun r2 h3 h4=>?_⟩;refine⟨_,e2,by rw[List.length_map];exact Nat.lt_of_le_of_lt (show cs.length≤21 by lia) (by decide),?_⟩;have hne:st≠q1:=fun z=>by
   rw[z,e2] at e3;cases cs with
   |nil=>simp at e3
   |cons c cs=>simp[cD] at e3
  refine hN _ _ ⟨cs++[(stp,r2)],_,_,rfl,⟨n2.non,Sub.updN n2.sub n2.non,?_⟩,?_,fun c hc=>?_,?_⟩
  ·rw[qahz,List.map_append];rfl
  ·rw[qabz hne];exact e3
  ·rcases List.mem_append.mp hc with hc|hc
   ·exact ok c hc
   ·have:c=(stp,r2):=by simpa using hc
    subst this;exact⟨⟨by show 0<stp;lia,h3,h4⟩,hs.2,list720 hm⟩
  ·rw[List.length_append,List.length_singleton];simp only[List.length_cons] at hl;lia
 ·rintro τ G2 ⟨cs,x4,x5,rfl,n2,e3,ok,hl⟩;refine⟨_,qkjz n2.at_,by rw[List.length_map];lia,qkiz,fun p1 mss G3 hp1 hmem nd hr hlen=>?_⟩;obtain⟨cs',rfl,hmem,hr,hlen⟩:=qv1z hmem nd hr hlen;rw[qf5z] at hp1;refine⟨_,hp1.at_,fun p2 G4 hp2=>⟨_,hp2.at_,?_⟩⟩;rw[qcxz,show (some (12:Int))=some ((12:Nat):Int) from rfl,qf2z];refine qapz ((n2.sub.trans hp1.sub).trans hp2.sub) (q _ (fun c hc=>ok c ((hmem c).mp (List.mem_of_mem_take hc))) ?_ (hr.take 12));rw[List.length_take];lia
 ·refine⟨cs,_,_,rfl,⟨n1.non,n1.sub.trans hst.sub,hst.sub _ _ n1.at_⟩,hst.at_,ok,?_⟩;show cs.length+(rngL 0 n.toNat).length≤21;rw[qbkz];lia
theorem qxez:∀ds G Q,qc3z ds G Q->qk5z (endsOf Q) (start3 ["pen","way","found","steps","turn","step"] ds) G:=by
 rintro ds G Q ⟨p,rfl,hp,q⟩;refine⟨p,6,rfl,hp,⟨by decide,quz (by decide) (by decide)⟩,fun way h1 h2 q0 G0 n0=>⟨fun hw=>?_,fun hw=>?_⟩⟩
 ·have hp0:=n0.sub p _ hp;refine⟨p,6,rfl,hp0,⟨by decide,quz (by decide) (by decide)⟩,fun t h3 h4=>⟨p,t,rfl,hp0,⟨by lia,by lia⟩,fun q1 cs G1 ok l1 l2 n1=>?_⟩⟩;have m1:New G q1 (.lst (cs.map cD)) G1:=⟨n0.sub.of_none n1.non,n0.sub.trans n1.sub,n1.at_⟩;refine⟨_,_,rfl,rfl,Nat.zero_le _,fun hw1=>?_,fun hw1=>⟨nofun,fun _=>?_⟩⟩
  ·intro q2 G2 n2;have e2:=n2.sub _ _ m1.at_;have m2:New G q1 (.lst (cs.map cD)) G2:=⟨m1.non,m1.sub.trans n2.sub,e2⟩;refine⟨_,_,qbez e2 (qf1z cs),qbez n2.at_ rfl,qkdz cs,fun hne=>?_,fun hne=>?_⟩
   ·refine⟨⟨q1,_,rfl,e2⟩,_,e2,p,_,rfl,m2.sub p _ hp,⟨by rw[List.length_map];lia,quz (by rw[List.length_map];lia) (by rw[List.length_map];lia)⟩,fun r h5 h6=>?_⟩;rw[List.length_map] at h6;obtain⟨c,ec,hc,_⟩:=qf3z cD h5 h6;refine⟨_,r.toNat,cD c,e2,⟨by lia,by lia⟩,?_,by rw[List.getElem?_map,ec];rfl,?_⟩
    ·rw[List.length_map];exact qv2z h5 h6
    ·refine qejz (cs:=cs.eraseIdx r.toNat) hp q ⟨h1,h2⟩ ⟨m2.non,Sub.updN m2.sub m2.non,?_⟩ (fun c hc=>ok c (List.mem_of_mem_eraseIdx hc)) ?_
     ·rw[qahz,qkkz]
     ·exact Nat.le_trans (qezz cs _) l2
   ·exact qejz hp q ⟨h1,h2⟩ m2 ok l2
  ·exact qejz hp q ⟨h1,h2⟩ m1 ok l2
 ·exact qejz (cs:=[]) hp q ⟨h1,h2⟩ n0 (fun c hc=>nomatch hc) (by decide)
end My
namespace My
open PySem L2 L3
def qxfz:Sp3:=fun ds G Q=>∃a b:Int,ds=[.int a,.int b]/\a≤b/\Q .non G
def nums(c:Clk)(n:Nat):List Nat:=(List.range (cntR c.2 n c.1)).map fun i=>c.2.toNat+i*c.1.toNat
theorem qk6z{c:Clk}(h:Valid c)(n:Nat):rngC c.2 c.1 (cntR c.2 n c.1)=(nums c n).map nD:=by
 unfold rngC nums;rw[List.map_map];refine List.map_congr_left fun i _=>?_;show D.int _=D.int ((c.2.toNat+i*c.1.toNat:Nat):Int);congr 1;have:=h.1;have:=h.2.1;rw[Int.natCast_add,Int.natCast_mul,Int.toNat_of_nonneg (by lia),Int.toNat_of_nonneg (by lia)]
theorem qf9z{c:Clk}(h:Valid c){n x:Nat}:x∈nums c n↔x<n/\rg x c=true:=by
 obtain⟨h1,h2,h3⟩:=h;unfold nums;rw[List.mem_map];obtain⟨s,hs⟩:∃s:Nat,c.1=(s:Int):=⟨c.1.toNat,by lia⟩;obtain⟨r,hr⟩:∃r:Nat,c.2=(r:Int):=⟨c.2.toNat,by lia⟩;have hrg:rg x c=true↔x%s=r:=by
  show ((x:Int)%c.1==c.2)=true↔_;rw[beq_iff_eq,hs,hr];constructor
  ·intro e;exact_mod_cast e
  ·intro e;exact_mod_cast e
 rw[hrg];have s0:0<s:=by lia
 have rs:r<s:=by lia
 have hc:∀i,i<cntR c.2 n c.1↔r+i*s<n:=fun i=>by
  unfold cntR;rw[hs,hr];split
  ·rename_i hlt;have hrn:r<n:=by lia
   rw[show ((n:Int)-(r:Int)-1) / (s:Int)+1=(((n-r-1) / s+1:Nat):Int) by
    rw[Int.natCast_add,Int.natCast_ediv,show ((n-r-1:Nat):Int)=(n:Int)-(r:Int)-1 by lia];rfl,Int.toNat_natCast,Nat.lt_succ_iff,Nat.le_div_iff_mul_le s0]
   lia
  ·rename_i hlt;have:¬r<n:=by lia
   constructor
   ·intro z;exact absurd z (Nat.not_lt_zero _)
   ·intro z;lia
 rw[hs,hr,Int.toNat_natCast,Int.toNat_natCast];constructor
 ·rintro⟨i,hi,rfl⟩;have hi:=List.mem_range.mp hi;rw[←hs,←hr] at hi;refine⟨(hc i).mp hi,?_⟩;rw[Nat.add_mul_mod_self_right,Nat.mod_eq_of_lt rs]
 ·rintro⟨hx,e⟩;have hd:s*(x / s)+x%s=x:=Nat.div_add_mod x s;refine⟨x / s,?_,?_⟩
  ·rw[List.mem_range,←hs,←hr,hc,Nat.mul_comm];lia
  ·rw[Nat.mul_comm];lia
theorem qxgz{c:Clk}(h:Valid c)(n:Nat):(nums c n).Nodup:=by
 unfold nums;unfold List.Nodup;rw[List.pairwise_map];refine List.Pairwise.imp ?_ (List.nodup_range (n:=cntR c.2 n c.1));intro a b hab e;have:=h.1;have h0:0<c.1.toNat:=by lia
 exact hab (Nat.eq_of_mul_eq_mul_right h0 (by lia))
def cntN(cs:List Clk)(x:Nat):Nat:=(cs.filter (rg x)).length
def tabD(f:Nat->Nat)(n:Nat):List D:=(List.range n).map fun x=>nD (f x)
theorem qekz(f:Nat->Nat)(n:Nat):(tabD f n).length=n:=by simp[tabD]
theorem qk7z{f:Nat->Nat}{n x:Nat}(h:x<n):atI (tabD f n) (x:Int)=some (nD (f x)):=qbjz (by
 unfold tabD;rw[List.getElem?_map,List.getElem?_range h];rfl)
theorem qxhz{f:Nat->Nat}{n x v:Nat}(h:x<n):(tabD f n).set x (nD v)=tabD (fun y=>if y=x then v else f y) n:=by
 unfold tabD;apply List.ext_getElem?;intro i;rw[List.getElem?_set];by_cases hi:i<n
 ·by_cases hx:x=i
  ·subst hx;simp[h]
  ·have:¬i=x:=fun z=>hx z.symm;simp[hi,hx,this]
 ·have:¬x=i:=fun z=>hi (by lia);simp[hi,this]
theorem qk8z{f g:Nat->Nat}{n:Nat}(h:∀x,x<n->f x=g x):tabD f n=tabD g n:=by
 unfold tabD;refine List.map_congr_left fun x hx=>?_;rw[h x (List.mem_range.mp hx)]
theorem qxiz{n x:Nat}(h:x<n):ixN n (x:Int)=some x:=by
 unfold ixN;simp[h]
def qxjz:Sp3:=fun ds G Q=>∃(cs:List Clk) (n:Nat),ds=[csD cs,.int n]/\ClOk 1000 cs/\cs.length≤1000/\n≤10000/\∀p G',New G p (.lst (tabD (cntN cs) n)) G'->Q (.obj p) G'
def qxkz:TS3:=sAugS (eVar 2) (eVar 5) (eC (.int 1)) (· + ·)
def qxlz:TS3:=sFor (iRng3 (aCons (eVar 4) (aCons (eVar 1) (aCons (eVar 3) (aNil))))) (hName 5) (qxkz)
def qxmz:TS3:=sRet (eVar 2)
def qxnz:TS3:=sSeq (sFor (iSeq (eVar 0)) (hTup 2 (hCons (hName 3) (hCons (hName 4) (hNil)))) (qxlz)) qxmz
def qxoz:TS3:=sSeq (sAsg (eOp rMul3 (eLst (aCons (eC (.int 0)) (aNil))) (eVar 1)) (hName 2)) qxnz
def qxpz:TS3:=sSeq (sDrop (eCall qxfz (aCons (eVar 1) (aCons (eC (.int 10000)) (aNil))))) qxoz
theorem zeros(n:Nat):(List.replicate n [D.int 0]).flatten=tabD (fun _=>0) n:=by
 unfold tabD
 induction n with
 |zero=>rfl
 |succ n ih=>
  rw[List.replicate_succ',List.flatten_append,ih,List.range_succ,List.map_append];rfl
theorem qxqz(c:Clk)(cs:List Clk)(x:Nat):cntN (c::cs) x=(if rg x c=true then 1 else 0)+cntN cs x:=by
 unfold cntN;rw[List.filter_cons];split
 ·rw[List.length_cons];lia
 ·lia
theorem qxrz:∀ds G Q,qxjz ds G Q->qxpz (endsOf Q) (start3 ["clocks","many","counts","step","rest","number"] ds) G:=by
 rintro ds G Q ⟨cs,n,rfl,ok,hl,hn,q⟩;refine⟨n,10000,rfl,by lia,?_⟩;intro p0 G0 n0;refine⟨_,n0.at_,⟨by lia,by lia⟩,?_,fun p G1 n1=>?_⟩
 ·rw[Int.toNat_natCast];exact Nat.le_trans (show 1*n≤10000 by lia) (by decide)
 rw[Int.toNat_natCast,zeros] at n1;have m1:New G p (.lst (tabD (fun _=>0) n)) G1:=⟨n0.sub.of_none n1.non,n0.sub.trans n1.sub,n1.at_⟩;refine qarz (fun ds τ G'=>∃(zs:List Clk) (f:Nat->Nat) (x3 x4 x5:Option D),ds=zs.map cD/\τ=[some (csD cs),some (.int n),some (.obj p),x3,x4,x5]/\New G p (.lst (tabD f n)) G'/\(∀z∈zs,z∈cs)/\∀x,f x+cntN zs x=cntN cs x) (fun _ _ _ _=>trivial) ?_ ?_ _ _ _ ⟨cs,fun _=>0,none,none,none,rfl,rfl,m1,fun _ h=>h,fun x=>Nat.zero_add _⟩
 ·rintro d ds τ G' N ⟨zs,f,x3,x4,x5,e,rfl,m2,hm,hf⟩ hN;cases zs with
  |nil=>cases e
  |cons c zs=>
   cases e;obtain⟨hv,h1000⟩:=ok c (hm c List.mem_cons_self);have v1:=hv.1;have v2:=hv.2.1;have v3:=hv.2.2;refine⟨rfl,⟨by lia,by lia,by lia,by lia,v1,by lia⟩,?_⟩;show forGo _ _ _ _ (rngC c.2 c.1 (cntR c.2 n c.1)) _ _;rw[qk6z hv];refine qarz (fun ds τ G'=>∃(ms:List Nat) (g:Nat->Nat) (x5:Option D),ds=ms.map nD/\τ=[some (csD cs),some (.int n),some (.obj p),some (.int c.1),some (.int c.2),x5]/\New G p (.lst (tabD g n)) G'/\ms.Nodup/\(∀x∈ms,x<n/\rg x c=true)/\∀x,x<n->g x=f x+(if rg x c=true/\x∉ms then 1 else 0)) (fun _ _ _ _=>trivial) ?_ ?_ _ _ _ ⟨nums c n,f,x5,rfl,rfl,m2,qxgz hv n,fun x hx=>(qf9z hv).mp hx,fun x hx=>?_⟩
   ·rintro d ds τ G2 N2 ⟨ms,g,x5,e,rfl,m3,nd,hr,hg⟩ hN2;cases ms with
    |nil=>cases e
    |cons x ms=>
     cases e;have nd':=List.nodup_cons.mp nd;obtain⟨hx,hrx⟩:=hr x List.mem_cons_self;refine⟨_,_,m3.at_,qk7z hx,?_⟩;refine⟨_,x,m3.at_,?_,?_⟩
     ·rw[qekz];exact qxiz hx
     ·refine hN2 _ _ ⟨ms,fun y=>if y=x then g x+1 else g y,_,rfl,rfl,⟨m3.non,Sub.updN m3.sub m3.non,?_⟩,nd'.2,fun y hy=>hr y (List.mem_cons_of_mem _ hy),fun y hy=>?_⟩
      ·rw[qahz,←qxhz hx];rfl
      ·have:=hg y hy;by_cases hyx:y=x
       ·subst hyx;rw[if_neg (fun z=>z.2 List.mem_cons_self)] at this;rw[if_pos (⟨hrx,nd'.1⟩:rg y c=true/\y∉ms)];show (if y=y then g y+1 else g y)=f y+1;rw[if_pos rfl,this]
       ·show (if y=x then g x+1 else g y)=_;rw[if_neg hyx,this];have:y∉x::ms↔y∉ms:=by simp[hyx]
        simp only[this]
   ·rintro τ G2 ⟨ms,g,x5,e,rfl,m3,nd,hr,hg⟩;have e0:ms=[]:=by cases ms with
     |nil=>rfl
     |cons z zs=>cases e
    subst e0;refine hN _ _ ⟨zs,fun x=>f x+(if rg x c=true then 1 else 0),_,_,_,rfl,rfl,?_,fun z hz=>hm z (List.mem_cons_of_mem _ hz),fun x=>?_⟩
    ·rw[qk8z (g:=g) fun x hx=>?_]
     ·exact m3
     ·rw[hg x hx];simp
    ·have:=hf x;rw[qxqz] at this;show f x+(if rg x c=true then 1 else 0)+cntN zs x=cntN cs x;lia
   ·rw[if_neg]
    ·rfl
    ·rintro⟨z1,z2⟩;exact z2 ((qf9z hv).mpr ⟨hx,z1⟩)
 ·rintro τ G' ⟨zs,f,x3,x4,x5,e,rfl,m2,hm,hf⟩;have e0:zs=[]:=by cases zs with
   |nil=>rfl
   |cons z zs=>cases e
  subst e0;refine qhz (q p G' ?_);rw[qk8z (g:=f) fun x _=>by have:=hf x;have e:cntN [] x=0:=rfl;lia];exact m2
def oN:Option Nat->D
 |none=>.non
 |some x=>nD x
def qc4z:Sp3:=fun ds G Q=>∃(c:Clk) (p:Addr) (f:Nat->Nat) (n m:Nat),ds=[cD c,.obj p,.int m]/\G p=some (.lst (tabD f n))/\Valid c/\c.1≤1000000/\n≤10000/\Q (oN ((nums c n).find? fun x=>f x==m)) G
def qxsz:TS3:=sIf (eTest (eOp (rEq3 false) (eOp rIx3 (eVar 1) (eVar 3)) (eVar 2))) (sRet (eVar 3)) (sNext)
def qxtz:TS3:=sRet (eC .non)
def qk9z:TS3:=sSeq (sFor (iRng3 (aCons (eOp rIx3 (eVar 0) (eC (.int 1))) (aCons (eCB q0z (aCons (eVar 1) (aNil))) (aCons (eOp rIx3 (eVar 0) (eC (.int 0))) (aNil))))) (hName 3) (qxsz)) qxtz
theorem qxuz:∀ds G Q,qc4z ds G Q->qk9z (endsOf Q) (start3 ["clock","counts","many","number"] ds) G:=by
 rintro ds G Q ⟨c,p,f,n,m,rfl,hp,hv,hb,hn,q⟩;have v1:=hv.1;have v2:=hv.2.1;have v3:=hv.2.2;refine⟨_,rfl,_,hp,_,rfl,⟨by lia,by lia,by rw[qekz];lia,by rw[qekz];lia,v1,by lia⟩,?_⟩;show forGo _ _ _ _ (rngC c.2 c.1 (cntR c.2 (((tabD f n).length:Nat):Int) c.1)) _ _;rw[qekz,qk6z hv];refine qarz (fun ds τ G'=>G'=G/\∃(ms:List Nat) (x3:Option D),ds=ms.map nD/\τ=[some (cD c),some (.obj p),some (.int m),x3]/\(∀x∈ms,x<n)/\ms.find? (fun x=>f x==m)=(nums c n).find? fun x=>f x==m) (fun _ _ _ _=>trivial) ?_ ?_ _ _ _ ⟨rfl,nums c n,none,rfl,rfl,fun x hx=>((qf9z hv).mp hx).1,rfl⟩
 ·rintro d ds τ G' N ⟨eg,ms,x3,e,rfl,hm,hf⟩ hN;cases ms with
  |nil=>cases e
  |cons x ms=>
   cases e;rw[List.find?_cons] at hf;refine⟨_,_,by rw[eg];exact hp,qk7z (hm x List.mem_cons_self),_,_,rfl,rfl,Nat.zero_le _,fun h=>?_,fun h=>?_⟩
   ·have h':(((f x:Nat):Int)==(m:Int))=true:=h;have e2:f x=m:=by
     rw[beq_iff_eq] at h';exact_mod_cast h'
    rw[show (f x==m)=true by rw[e2,beq_self_eq_true]] at hf;rw[←hf] at q;rw[eg];exact qhz q
   ·have h':(((f x:Nat):Int)==(m:Int))=false:=h;have e2:(f x==m)=false:=by
     cases e3:f x==m with
     |false=>rfl
     |true=>
      rw[beq_iff_eq] at e3;rw[e3,beq_self_eq_true] at h';cases h'
    rw[e2] at hf;exact hN _ _ ⟨eg,ms,_,rfl,rfl,fun y hy=>hm y (List.mem_cons_of_mem _ hy),hf⟩
 ·rintro τ G' ⟨eg,ms,x3,e,rfl,hm,hf⟩;cases ms with
  |cons x ms=>cases e
  |nil=>
   have hf:none=(nums c n).find? fun x=>f x==m:=hf;rw[←hf] at q;rw[eg];exact qhz q
end My
namespace My
open PySem L2 L3
def fwO(cs:List Clk)(c:Clk):Option Nat:=(nums c (rnd (cs++[c]))).find? fun x=>cntN cs x==0
def fmO(cs:List Clk):Option Nat:=(List.range (rnd cs)).find? fun x=>cntN cs x==0
theorem qgaz(cs:List Clk):rnd (cs++[(1,0)])=rnd cs:=by
 unfold rnd rndF;rw[List.foldl_append];show Nat.lcm _ 1=_;rw[Nat.lcm_one_right]
theorem qxvz(n:Nat):nums (1,0) n=List.range n:=by
 have e:cntR 0 (n:Int) 1=n:=by
  unfold cntR;split
  ·rw[Int.ediv_one];lia
  ·lia
 unfold nums;show (List.range (cntR 0 (n:Int) 1)).map (fun i=>0+i*1)=_;rw[e];refine (List.map_congr_left fun i _=>?_).trans (List.map_id _);show 0+i*1=i;lia
theorem qxwz(cs:List Clk):fwO cs (1,0)=fmO cs:=by
 unfold fwO fmO;rw[qgaz,qxvz]
theorem qxxz{cs:List Clk}(ok:ClOk 1000 cs):ClOk 1000 (cs++[(1,0)]):=fun z hz=>by
 rcases List.mem_append.mp hz with h|h
 ·exact ok z h
 ·have:z=(1,0):=by simpa using h
  subst this;exact⟨⟨by decide,by decide,by decide⟩,by decide⟩
def missL(cs:List Clk):List Nat:=(List.range (rnd cs)).filter fun x=>cntN cs x==0
end My
namespace My
open PySem L2 L3
def placeB(n:Nat):D->Bool
 |.int i=>decide (0≤i)&&decide (i<n)
 |_=>false
def qc5z:Sp3:=fun ds G Q=>∃(cs:List Clk) (d:D),ds=[csD cs,d]/\Known G d/\Q (.bl (placeB cs.length d)) G
def qlaz:TS3:=sRet (eAndV (eCall qb0z (aCons (eVar 1) (aNil))) (eChain rLe3 rLtT3 (eC (.int 0)) (eVar 1) (eCB q0z (aCons (eVar 0) (aNil)))))
theorem qxyz:∀ds G Q,qc5z ds G Q->qlaz (endsOf Q) (start3 ["things","thing"] ds) G:=by
 rintro ds G Q ⟨cs,d,rfl,hk,q⟩;refine⟨hk,?_⟩;cases d with
 |int i=>
  refine⟨fun _=>⟨fun h=>?_,fun h=>?_⟩,nofun⟩
  ·have h':decide ((0:Int)≤i)=true:=h;have e:placeB cs.length (.int i)=decide (i<(cs.length:Nat)):=by
    show (decide (0≤i)&&decide (i<(cs.length:Nat)))=_;rw[h',Bool.true_and]
   rw[e] at q;show (endsOf Q).rt (.bl (decide (i<((cs.map cD).length:Nat)))) G;rw[List.length_map];exact qhz q
  ·have h':decide ((0:Int)≤i)=false:=h;have e:placeB cs.length (.int i)=false:=by
    show (decide (0≤i)&&decide (i<(cs.length:Nat)))=_;rw[h',Bool.false_and]
   rw[e] at q;exact qhz q
 |_=>exact⟨nofun,fun _=>qhz q⟩
theorem qxzz{cs:List Clk}{d:D}(h:placeB cs.length d=true):∃(i:Nat) (a:Clk),d=.int i/\cs[i]?=some a/\a∈cs:=by
 cases d with
 |int i=>
  have h':(decide (0≤i)&&decide (i<(cs.length:Nat)))=true:=h;rw[Bool.and_eq_true,decide_eq_true_iff,decide_eq_true_iff] at h';obtain⟨n,rfl⟩:∃n:Nat,i=(n:Int):=⟨i.toNat,by lia⟩;have hn:n<cs.length:=by lia
  exact⟨n,cs[n],rfl,List.getElem?_eq_getElem hn,List.getElem_mem hn⟩
 |_=>cases h
def qx0z:TS3:=sAug 1 (eC (.int 1)) rIAdd3
def qx1z:TS3:=sSeq (sIf (eTest (eOp (rEq3 false) (eOp rMod3 (eVar 0) (eVar 1)) (eC (.int 0)))) (sRet (eVar 1)) (sNext)) qx0z
def qx2z:TS3:=sRet (eVar 0)
def qx3z:TS3:=sSeq (sWhile (eTest (eOp rLe3 (eOp rMul3 (eVar 1) (eVar 1)) (eVar 0))) (qx1z)) qx2z
def qx4z:TS3:=sSeq (sAsg (eC (.int 2)) (hName 1)) qx3z
def isS(s:Str):D->Bool
 |.str x=>(Dat.D.str x).eqb (.str s)
 |_=>false
def tupL:D->List D
 |.tup ps=>ps
 |_=>[]
def intI:D->Int
 |.int i=>i
 |_=>0
def leafB(cs:List Clk)(b:D)(c:Clk):Bool:=placeB cs.length b&&(match cs[(intI b).toNat]? with
 |some a=>insB c a
 | none=>false)
mutual
def pB:Nat->List Clk->D->Clk->Bool
 |0,_,_,_=>false
 |n+1,cs,d,c=>match d with
  |.tup [a,b]=>isS "leaf" a&&leafB cs b c
  |.tup [a,b,e]=>isS "split" a&&psB n cs b e c
  |_=>false
def psB:Nat->List Clk->D->D->Clk->Bool
 |0,_,_,_,_=>false
 |n+1,cs,b,e,c=>formB b e&&((tupL e).zip (parts c (intI b).toNat)).all fun z=>pB n cs z.1 z.2
end
mutual
def PapD(G:Gp):Nat->D->Int->Prop
 |0,_,_=>False
 |n+1,d,s=>Known2 G d/\Big s/\(∀a r,d=.tup (a::r)->∃x,a=.str x)/\(∀a b,d=.tup [a,b]->Known G b)/\∀a b e,d=.tup [a,b,e]->isS "split" a=true->PapE G n b e s
def PapE(G:Gp):Nat->D->D->Int->Prop
 |0,_,_,_=>False
 |n+1,b,e,s=>Known G b/\Known2 G e/\Big s/\∀(k:Int) (ps:List D),b=.int k->e=.tup ps->ps.length≤10000/\∀p∈ps,PapD G n p (s*k)
end
def qbfz(n:Nat):Sp3:=fun ds G Q=>∃(cs:List Clk) (d:D) (c:Clk),ds=[csD cs,d,cD c]/\PapD G n d c.1/\(∀z∈cs,0<z.1)/\Q (.bl (pB n cs d c)) G
def qciz(n:Nat):Sp3:=fun ds G Q=>∃(cs:List Clk) (b e:D) (c:Clk),ds=[csD cs,b,e,cD c]/\PapE G n b e c.1/\(∀z∈cs,0<z.1)/\Q (.bl (psB n cs b e c)) G
theorem qx5z:∀ds G Q,¬qbfz 0 ds G Q:=by
 rintro ds G Q ⟨_,_,_,_,h,_⟩;exact h
theorem qx6z:∀ds G Q,¬qciz 0 ds G Q:=by
 rintro ds G Q ⟨_,_,_,_,_,h,_⟩;exact h
def qx7z(n:Nat):TS3:=sRet (eC (.bl false))
def qx8z(n:Nat):TS3:=sSeq (sIf (eAnd (eTest (eOp (rEq3 false) (eCB q0z (aCons (eVar 1) (aNil))) (eC (.int 3)))) (eTest (eOp (rEq3 false) (eOp rIx3 (eVar 1) (eC (.int 0))) (eC (.str "split"))))) (sRet (eCall (qciz n) (aCons (eVar 0) (aCons (eOp rIx3 (eVar 1) (eC (.int 1))) (aCons (eOp rIx3 (eVar 1) (eC (.int 2))) (aCons (eVar 2) (aNil))))))) (sNext)) (qx7z n)
def qx9z(n:Nat):TS3:=sSeq (sIf (eAnd (eTest (eOp (rEq3 false) (eCB q0z (aCons (eVar 1) (aNil))) (eC (.int 2)))) (eTest (eOp (rEq3 false) (eOp rIx3 (eVar 1) (eC (.int 0))) (eC (.str "leaf"))))) (sRet (eAndV (eCall qc5z (aCons (eVar 0) (aCons (eOp rIx3 (eVar 1) (eC (.int 1))) (aNil)))) (eCall qchz (aCons (eVar 2) (aCons (eOp rIx3 (eVar 0) (eOp rIx3 (eVar 1) (eC (.int 1)))) (aNil)))))) (sNext)) (qx8z n)
def qgbz(n:Nat):TS3:=sSeq (sIf (eNot (eTest (eInst "tuple" (eVar 1)))) (sRet (eC (.bl false))) (sNext)) (qx9z n)
theorem qyaz(n:Nat):∀ds G Q,qbfz (n+1) ds G Q->qgbz n (endsOf Q) (start3 ["clocks","thing","clock"] ds) G:=by
 rintro ds G Q ⟨cs,d,c,rfl,hp,hz,q⟩;have hp:Known2 G d/\Big c.1/\(∀a r,d=.tup (a::r)->∃x,a=.str x)/\(∀a b,d=.tup [a,b]->Known G b)/\∀a b e,d=.tup [a,b,e]->isS "split" a=true->PapE G n b e c.1:=hp;obtain⟨p1,p2,p3,p4,p5⟩:=hp;have not_tup:(∀ds,d≠.tup ds)->qgbz n (endsOf Q) (start3 ["clocks","thing","clock"] [csD cs,d,cD c]) G:=by
  intro hn;have e:pB (n+1) cs d c=false:=by
   cases d with
   |tup ds=>exact absurd rfl (hn ds)
   |_=>rfl
  rw[e] at q;show match instD "tuple" G d with
   |some b=>_
   |none=>False
  rw[qkrz p1 hn];exact⟨fun _=>qhz q,nofun⟩
 cases d with
 |tup ds=>
  refine⟨nofun,fun _=>⟨_,_,rfl,rfl,Nat.zero_le _,?_⟩⟩;rcases ds with _|⟨a,_|⟨b,_|⟨e,_|⟨f,ds⟩⟩⟩⟩
  ·exact⟨nofun,fun _=>⟨nofun,fun _=>⟨_,_,rfl,rfl,Nat.zero_le _,nofun,fun _=>⟨nofun,fun _=>qhz q⟩⟩⟩⟩
  ·exact⟨nofun,fun _=>⟨nofun,fun _=>⟨_,_,rfl,rfl,Nat.zero_le _,nofun,fun _=>⟨nofun,fun _=>qhz q⟩⟩⟩⟩
  ·obtain⟨x,rfl⟩:=p3 a [b] rfl;refine⟨fun _=>⟨_,rfl,_,_,rfl,rfl,Nat.zero_le _,fun h=>?_,fun h=>?_⟩,nofun⟩
   ·have h':isS "leaf" (.str x)=true:=h;have e:pB (n+1) cs (.tup [.str x,b]) c=leafB cs b c:=by
     show (isS "leaf" (.str x)&&leafB cs b c)=_;rw[h',Bool.true_and]
    rw[e] at q;refine⟨_,rfl,cs,b,rfl,p4 _ _ rfl,fun h2=>?_,fun h2=>?_⟩
    ·obtain⟨i,z,rfl,ez,hm⟩:=qxzz h2;have e2:leafB cs (.int i) c=insB c z:=by
      show (placeB cs.length (.int i)&&(match cs[((i:Int)).toNat]? with
       |some a=>insB c a
       | none=>false))=_
      rw[h2,Int.toNat_natCast,ez,Bool.true_and]
     rw[e2] at q;exact⟨_,rfl,cD z,qbjz (by rw[List.getElem?_map,ez];rfl),c,z,rfl,hz z hm,qhz q⟩
    ·have e2:leafB cs b c=false:=by
      unfold leafB;rw[h2,Bool.false_and]
     rw[e2] at q;exact qhz q
   ·have h':isS "leaf" (.str x)=false:=h;have e:pB (n+1) cs (.tup [.str x,b]) c=false:=by
     show (isS "leaf" (.str x)&&leafB cs b c)=_;rw[h',Bool.false_and]
    rw[e] at q;exact⟨_,_,rfl,rfl,Nat.zero_le _,nofun,fun _=>⟨nofun,fun _=>qhz q⟩⟩
  ·obtain⟨x,rfl⟩:=p3 a [b,e] rfl;refine⟨nofun,fun _=>⟨nofun,fun _=>⟨_,_,rfl,rfl,Nat.zero_le _,fun _=>⟨_,rfl,_,_,rfl,rfl,Nat.zero_le _,fun h=>?_,fun h=>?_⟩,nofun⟩⟩⟩
   ·have h':isS "split" (.str x)=true:=h;have e1:pB (n+1) cs (.tup [.str x,b,e]) c=psB n cs b e c:=by
     show (isS "split" (.str x)&&psB n cs b e c)=_;rw[h',Bool.true_and]
    rw[e1] at q;exact⟨_,rfl,_,rfl,cs,b,e,c,rfl,p5 _ _ _ rfl h',hz,qhz q⟩
   ·have h':isS "split" (.str x)=false:=h;have e1:pB (n+1) cs (.tup [.str x,b,e]) c=false:=by
     show (isS "split" (.str x)&&psB n cs b e c)=_;rw[h',Bool.false_and]
    rw[e1] at q;exact qhz q
  ·have l2:¬((((ds.length+1+1+1+1:Nat):Int)==2)=true):=by simp;lia
   have l3:¬((((ds.length+1+1+1+1:Nat):Int)==3)=true):=by simp;lia
   refine⟨fun h=>absurd h l2,fun _=>⟨nofun,fun _=>⟨_,_,rfl,rfl,Nat.zero_le _,fun h=>absurd h l3,fun _=>⟨nofun,fun _=>qhz q⟩⟩⟩⟩
 |_=>exact not_tup nofun
def qybz(n:Nat):TS3:=sIf (eNot (eTest (eCall (qbfz n) (aCons (eVar 0) (aCons (eVar 4) (aCons (eVar 5) (aNil))))))) (sRet (eC (.bl false))) (sNext)
def qycz(n:Nat):TS3:=sRet (eC (.bl true))
def qydz(n:Nat):TS3:=sSeq (sFor (iZip (aCons (eVar 2) (aCons (eCall qa6z (aCons (eVar 3) (aCons (eVar 1) (aNil)))) (aNil)))) (hTup 2 (hCons (hName 4) (hCons (hName 5) (hNil)))) ((qybz n))) (qycz n)
def qlbz(n:Nat):TS3:=sSeq (sIf (eNot (eTest (eCall qc1z (aCons (eVar 1) (aCons (eVar 2) (aNil)))))) (sRet (eC (.bl false))) (sNext)) (qydz n)
theorem qyez{a b:D}(h:formB a b=true):∃(k:Nat) (ps:List D),a=.int k/\b=.tup ps/\2≤k/\ps.length=k:=by
 unfold formB at h;split at h
 ·rename_i k ps;rw[Bool.and_eq_true,decide_eq_true_iff,beq_iff_eq] at h;exact⟨ps.length,ps,by rw[h.2],rfl,by lia,rfl⟩
 ·cases h
mutual
theorem PapD.sub{G G':Gp}(s:Sub G G'):∀{n:Nat} {d:D} {i:Int},PapD G n d i->PapD G' n d i
 |0,_,_,h=>h
 |n+1,d,i,h=>by
  obtain⟨h1,h2,h3,h4,h5⟩:=(show Known2 G d/\Big i/\(∀a r,d=.tup (a::r)->∃x,a=.str x)/\(∀a b,d=.tup [a,b]->Known G b)/\∀a b e,d=.tup [a,b,e]->isS "split" a=true->PapE G n b e i from h);exact⟨Known2.sub s h1,h2,h3,fun a b e=>Known.sub s (h4 a b e),fun a b e q q2=>PapE.sub s (h5 a b e q q2)⟩
theorem PapE.sub{G G':Gp}(s:Sub G G'):∀{n:Nat} {b e:D} {i:Int},PapE G n b e i->PapE G' n b e i
 |0,_,_,_,h=>h
 |n+1,b,e,i,h=>by
  obtain⟨h1,h2,h3,h4⟩:=(show Known G b/\Known2 G e/\Big i/\∀(k:Int) (ps:List D),b=.int k->e=.tup ps->ps.length≤10000/\∀p∈ps,PapD G n p (i*k) from h);exact⟨Known.sub s h1,Known2.sub s h2,h3,fun k ps q1 q2=>⟨(h4 k ps q1 q2).1,fun p hp=>PapD.sub s ((h4 k ps q1 q2).2 p hp)⟩⟩
end
theorem qyfz(n:Nat):∀ds G Q,qciz (n+1) ds G Q->qlbz n (endsOf Q) (start3 ["clocks","k","papers","clock","paper","part"] ds) G:=by
 rintro ds G Q ⟨cs,b,e,c,rfl,hp,hz,q⟩;obtain⟨p1,p2,p3,p4⟩:=(show Known G b/\Known2 G e/\Big c.1/\∀(k:Int) (ps:List D),b=.int k->e=.tup ps->ps.length≤10000/\∀p∈ps,PapD G n p (c.1*k) from hp);refine⟨b,e,rfl,p1,p2,fun h=>?_,fun h=>?_⟩
 ·have hf:formB b e=false:=by simpa using h
  have e1:psB (n+1) cs b e c=false:=by
   show (formB b e&&_)=false;rw[hf,Bool.false_and]
  rw[e1] at q;exact qhz q
 ·have hf:formB b e=true:=by simpa using h
  obtain⟨k,ps,rfl,rfl,k2,hl⟩:=qyez hf;obtain⟨p5,p6⟩:=p4 k ps rfl rfl;have e1:psB (n+1) cs (.int k) (.tup ps) c=(ps.zip (parts c k)).all fun z=>pB n cs z.1 z.2:=by
   show (formB (.int k) (.tup ps)&&(ps.zip (parts c ((k:Int)).toNat)).all fun z=>pB n cs z.1 z.2)=_;rw[hf,Bool.true_and,Int.toNat_natCast]
  rw[e1] at q;refine⟨c,k,rfl,by lia,p3,fun p2 G2 n2=>⟨ps,(parts c k).map cD,rfl,n2.at_,?_⟩⟩;rw[qwnz cD ps (parts c k)];refine qarz (fun ds τ G'=>G'=G2/\∃(zs:List (D×Clk)) (x4 x5:Option D),ds=zs.map (fun z=>D.tup [z.1,cD z.2])/\τ=[some (csD cs),some (.int k),some (.tup ps),some (cD c),x4,x5]/\(∀z∈zs,z.1∈ps/\z.2∈parts c k)/\(zs.all fun z=>pB n cs z.1 z.2)=(ps.zip (parts c k)).all fun z=>pB n cs z.1 z.2) (fun _ _ _ h=>by
   obtain⟨rfl,_⟩:=h;exact⟨rfl,n2.at_⟩) ?_ ?_ _ _ _ ⟨rfl,ps.zip (parts c k),none,none,rfl,rfl,fun z hz=>List.of_mem_zip hz,rfl⟩
  ·rintro d ds τ G' N ⟨eg,zs,x4,x5,e2,rfl,hm,ha⟩ hN;cases zs with
   |nil=>cases e2
   |cons z zs=>
    cases e2;obtain⟨m1,m2⟩:=hm z List.mem_cons_self;obtain⟨t,_,et⟩:=List.mem_map.mp m2;have es:z.2.1=c.1*(k:Int):=by rw[←et]
    have hp':PapD G' n z.1 z.2.1:=by
     rw[es,eg];exact (p6 z.1 m1).sub n2.sub
    rw[List.all_cons] at ha;refine⟨rfl,cs,z.1,z.2,rfl,hp',hz,fun h=>?_,fun h=>?_⟩
    ·have hb:pB n cs z.1 z.2=false:=by simpa using h
     rw[hb,Bool.false_and] at ha;rw[←ha] at q;rw[eg];exact qapz n2.sub q
    ·have hb:pB n cs z.1 z.2=true:=by simpa using h
     rw[hb,Bool.true_and] at ha;exact hN _ _ ⟨eg,zs,_,_,rfl,rfl,fun y hy=>hm y (List.mem_cons_of_mem _ hy),ha⟩
  ·rintro τ G' ⟨eg,zs,x4,x5,e2,rfl,hm,ha⟩;cases zs with
   |cons z zs=>cases e2
   |nil=>
    have ha:true=(ps.zip (parts c k)).all fun z=>pB n cs z.1 z.2:=ha;rw[←ha] at q;rw[eg];exact qapz n2.sub q
def qc6z:Sp3:=fun ds G Q=>∃(cs:List Clk) (d:D),ds=[csD cs,d]/\PapD G 40 d 1/\(∀z∈cs,0<z.1)/\Q (.bl (pB 40 cs d (1,0))) G
def qlcz:TS3:=sRet (eCall (qbfz 40) (aCons (eVar 0) (aCons (eVar 1) (aCons (eTup (aCons (eC (.int 1)) (aCons (eC (.int 0)) (aNil)))) (aNil)))))
theorem qygz:∀ds G Q,qc6z ds G Q->qlcz (endsOf Q) (start3 ["clocks","thing"] ds) G:=by
 rintro ds G Q ⟨cs,d,rfl,hp,hz,q⟩;exact⟨cs,d,(1,0),rfl,hp,hz,qhz q⟩
end My
namespace My
open PySem L2 L3
def Cov(cs:List Clk):Prop:=∀x:Nat,∃z∈cs,rg x z=true
theorem qelz{cs:List Clk}{z:Clk}(h:z∈cs):z.1.toNat∣rnd cs:=qwyz h
theorem qyhz{z:Clk}(hz:0<z.1){N:Nat}(hd:z.1.toNat∣N)(x t:Int):rg (x+t*N) z=rg x z:=by
 have:z.1∣t*(N:Int):=by
  have h:=Int.natCast_dvd_natCast.mpr hd;rw[Int.toNat_of_nonneg (by lia)] at h;exact Int.dvd_mul_of_dvd_right h
 unfold rg;rw[Int.add_emod,Int.emod_eq_zero_of_dvd this,Int.add_zero,Int.emod_emod]
theorem qyiz{z:Clk}(hz:0<z.1){N:Nat}(hd:z.1.toNat∣N)(x:Nat):rg ((x%N:Nat):Int) z=rg x z:=by
 have e:(x:Int)=((x%N:Nat):Int)+((x / N:Nat):Int)*N:=by
  have:=Nat.mod_add_div x N;rw[Nat.mul_comm] at this;exact_mod_cast this.symm
 rw[e,qyhz hz hd]
theorem cnt_pos{cs:List Clk}{x:Nat}:cntN cs x≠0↔∃z∈cs,rg x z=true:=by
 unfold cntN;rw[Ne,List.length_eq_zero_iff,List.filter_eq_nil_iff];constructor
 ·intro h;refine Classical.byContradiction fun hn=>h fun z hz hr=>hn ⟨z,hz,hr⟩
 ·rintro⟨z,hz,hr⟩ h;exact h z hz hr
theorem qgcz{cs:List Clk}(h:∀z∈cs,0<z.1):0<rnd cs:=by
 have:∀(cs:List Clk) (a:Nat),(∀z∈cs,0<z.1)->0<a->0<rndF cs a:=by
  intro cs
  induction cs with
  |nil=>intro a _ h;exact h
  |cons z zs ih=>
   intro a hz ha;refine ih _ (fun y hy=>hz y (List.mem_cons_of_mem _ hy)) (Nat.lcm_pos ha ?_);have:=hz z List.mem_cons_self;lia
 exact this cs 1 h (by decide)
theorem qldz{cs:List Clk}(h:∀z∈cs,0<z.1):fmO cs=none↔Cov cs:=by
 unfold fmO;rw[List.find?_eq_none];constructor
 ·intro hn x;have hx:x%rnd cs<rnd cs:=Nat.mod_lt _ (qgcz h);have h1:=hn (x%rnd cs) (List.mem_range.mpr hx);obtain⟨z,hz,hr⟩:=cnt_pos.mp (show cntN cs (x%rnd cs)≠0 by simpa using h1);exact⟨z,hz,by rw[qyiz (h z hz) (qelz hz)] at hr;exact hr⟩
 ·intro hc x _ hx;have:=cnt_pos.mpr (hc x);rw[beq_iff_eq] at hx;exact this hx
structure GoodP(n:Nat)(cs:List Clk)(c:Clk)(d:D):Prop where
 is:∃ds,d=.tup ds
 good:∀m,2*n≤m->pB m cs d c=true
 pap:∀(G:Gp) m,2*n≤m->PapD G m d c.1
structure ForOk(n:Nat)(cs:List Clk)(c:Clk)(many:Nat):Prop where
 ok:ClOk 1000 cs
 len:cs.length≤12
 r:rnd cs≤10000
 cov:Cov cs
 v:Valid c
 all:c.1*(many:Int)=(rnd cs:Nat)
 m1:1≤many
 m2:many<2^n
theorem ForOk.le{n:Nat}{cs:List Clk}{c:Clk}{many:Nat}(F:ForOk n cs c many):c.1≤10000/\many≤10000:=by
 have h1:=F.all;have h2:=F.r;have h3:=F.v.1;have h4:=F.m1;have e1:c.1*1≤c.1*(many:Int):=Int.mul_le_mul_of_nonneg_left (by lia) (by lia);have e2:1*(many:Int)≤c.1*(many:Int):=Int.mul_le_mul_of_nonneg_right (by lia) (by lia);lia
theorem qyjz{c p:Clk}{k:Nat}(h:Valid c)(hp:p∈parts c k):Valid p/\p.1=c.1*(k:Int):=by
 obtain⟨t,ht,rfl⟩:=List.mem_map.mp hp;have ht:=List.mem_range.mp ht;exact⟨qkgz h (by lia) (by lia),rfl⟩
theorem ForOk.part{n:Nat}{cs:List Clk}{c p:Clk}{many k:Nat}(F:ForOk (n+1) cs c many)(h2:2≤k)(hd:k∣many)(hp:p∈parts c k):ForOk n cs p (many / k):=by
 obtain⟨vp,ep⟩:=qyjz F.v hp;obtain⟨j,rfl⟩:=hd;have hk:0<k:=by lia
 rw[Nat.mul_div_cancel_left j hk];have m1:=F.m1;have m2:=F.m2;refine⟨F.ok,F.len,F.r,F.cov,vp,?_,?_,?_⟩
 ·rw[ep,←F.all,Int.mul_assoc,Int.natCast_mul]
 ·cases j with
  |zero=>lia
  |succ j=>lia
 ·rw[Nat.pow_succ] at m2;have:2*j≤k*j:=Nat.mul_le_mul_right j h2;lia
def qykz(n:Nat):TS3:=sIf (eTest (eCall qchz (aCons (eVar 1) (aCons (eVar 4) (aNil))))) (sRet (eTup (aCons (eC (.str "leaf")) (aCons (eVar 3) (aNil))))) (sNext)
def qylz(n:Nat):TS3:=sRet (eTup (aCons (eC (.str "split")) (aCons (eVar 5) (aCons (eCB qcaz (aCons (eVar 6) (aNil))) (aNil)))))
theorem qymz{n:Nat}{cs:List Clk}{c z:Clk}{i:Nat}(hn:1≤n)(hb:Big c.1)(hi:cs[i]?=some z)(h:insB c z=true):GoodP n cs c (.tup [.str "leaf",nD i]):=by
 refine⟨⟨_,rfl⟩,fun m hm=>?_,fun G m hm=>?_⟩
 ·cases m with
  |zero=>lia
  |succ m=>
   have hl:i<cs.length:=by
    rcases Nat.lt_or_ge i cs.length with z|z
    ·exact z
    ·rw[List.getElem?_eq_none_iff.mpr z] at hi;cases hi
   show (isS "leaf" (.str "leaf")&&((decide ((0:Int)≤(i:Int))&&decide ((i:Int)<(cs.length:Nat)))&&(match cs[((i:Int)).toNat]? with
    |some a=>insB c a
    | none=>false)))=true
   rw[Int.toNat_natCast,hi,decide_eq_true (by lia),decide_eq_true (by lia)];show (isS "leaf" (.str "leaf")&&((true&&true)&&insB c z))=true;rw[h];rfl
 ·cases m with
  |zero=>lia
  |succ m=>
   refine⟨fun d hd=>?_,hb,fun a r e=>?_,fun a b e=>?_,fun a b e q=>by cases q⟩
   ·simp only[List.mem_cons,List.not_mem_nil,or_false] at hd;rcases hd with rfl|rfl<;>trivial
   ·cases e;exact⟨_,rfl⟩
   ·cases e;trivial
theorem qynz{n k:Nat}{cs:List Clk}{c:Clk}{ps:List D}(hb:Big c.1)(h2:2≤k)(hk:k≤10000)(hl:ps.length=k)(h:∀z∈ps.zip (parts c k),GoodP n cs z.2 z.1):GoodP (n+1) cs c (.tup [.str "split",.int k,.tup ps]):=by
 have hf:formB (.int k) (.tup ps)=true:=by
  show (decide ((2:Int)≤(k:Int))&&(((ps.length:Nat):Int)==(k:Int)))=true;rw[hl,decide_eq_true (by lia),beq_self_eq_true];rfl
 refine⟨⟨_,rfl⟩,fun m hm=>?_,fun G m hm=>?_⟩
 ·obtain⟨m,rfl⟩:∃m',m=m'+2:=⟨m-2,by lia⟩;show (isS "split" (.str "split")&&(formB (.int k) (.tup ps)&&(ps.zip (parts c ((k:Int)).toNat)).all fun z=>pB m cs z.1 z.2))=true;rw[hf,Int.toNat_natCast,Bool.true_and];have:((ps.zip (parts c k)).all fun z=>pB m cs z.1 z.2)=true:=List.all_eq_true.mpr fun z hz=>(h z hz).good m (by lia);rw[this];rfl
 ·obtain⟨m,rfl⟩:∃m',m=m'+2:=⟨m-2,by lia⟩;refine⟨fun d hd=>?_,hb,fun a r e=>?_,fun a b e=>(by cases e),fun a b e q q2=>?_⟩
  ·simp only[List.mem_cons,List.not_mem_nil,or_false] at hd;rcases hd with rfl|rfl|rfl<;>trivial
  ·cases e;exact⟨_,rfl⟩
  ·cases q;refine⟨trivial,fun d hd=>?_,hb,fun k' ps' e1 e2=>?_⟩
   ·obtain⟨i,hi,e⟩:=List.getElem_of_mem hd;have hz:(d,(parts c k)[i]'(by rw[qaqz];lia))∈ps.zip (parts c k):=by
     have:=List.getElem_mem (l:=ps.zip (parts c k)) (n:=i) (by rw[List.length_zip,qaqz];lia);rw[List.getElem_zip,e] at this;exact this
    obtain⟨ds,e3⟩:=(h _ hz).is;have e3:d=.tup ds:=e3;rw[e3];trivial
   ·cases e1;cases e2;refine⟨by lia,fun p hp=>?_⟩;obtain⟨i,hi,e⟩:=List.getElem_of_mem hp;have hz:(p,(parts c k)[i]'(by rw[qaqz];lia))∈ps.zip (parts c k):=by
     have:=List.getElem_mem (l:=ps.zip (parts c k)) (n:=i) (by rw[List.length_zip,qaqz];lia);rw[List.getElem_zip,e] at this;exact this
    have hg:=(h _ hz).pap G m (by lia);obtain⟨t,_,et⟩:=List.mem_map.mp (List.of_mem_zip hz).2;have es:((parts c k)[i]'(by rw[qaqz];lia)).1=c.1*(k:Int):=by rw[←et]
    have hg:PapD G m p ((parts c k)[i]'(by rw[qaqz];lia)).1:=hg;rw[es] at hg;exact hg
end My
namespace My
open PySem L2 L3
def qc7z:SpX:=fun ds Q E=>∃(a b:Int),ds=[.int a,.int b]/\(a≤b->Q .non noG)/\(b<a->E "TooGreat" [("many",a),("most",b)])
def qlez(E:E3):TS3:=sIf (eTest (eOp rGt3 (eVar 0) (eVar 1))) (sRaise "TooGreat" ["many","most"] E (aCons (eVar 0) (aCons (eVar 1) (aNil)))) (sNext)
theorem qyoz:∀ds Q E,qc7z ds Q E->qlez E (endsOf Q) (start3 ["many","most"] ds) noG:=by
 rintro ds Q E ⟨a,b,rfl,q1,q2⟩;refine⟨fun h=>?_,fun h=>⟨noG,Sub.refl _,q1 ?_⟩⟩
 ·have h':a > b:=of_decide_eq_true h;exact⟨[a,b],rfl,rfl,q2 h'⟩
 ·have h':¬a > b:=of_decide_eq_false h;lia
theorem qcjz(G:Gp):Sub noG G:=fun _ _ e=>nomatch e
abbrev grR(a b:Int):GO:=.gen (excR "TooGreat" [("many",a),("most",b)])
def qckz(rs:List Str):Sp3:=fun ds G Q=>∃(p:Addr) (a b:Int),ds=[.obj p]/\G p=some (grR a b)/\("TooGreat":Str)∈rs/\∀G',Sub G G'->Q (.str "great") G'
def qypz(rs:List Str):TS3:=sRet (eLstIx (aCons (eC (.str "clock")) (aCons (eC (.str "number")) (aCons (eC (.str "place")) (aCons (eC (.str "row")) (aCons (eC (.str "clocks")) (aCons (eC (.str "text")) (aCons (eC (.str "great")) (aNil)))))))) (eM qfxz (eVar 1) (aCons (eC (.bl true)) (aNil))))
def qyqz(rs:List Str):TS3:=sSeq (sIf (eOr (eNot (eTest (eIsV rs (eVar 0)))) (eTest (eOp (rEq3 true) (eM qfwz (eVar 1) (aCons (eC (.bl true)) (aNil))) (eC (.int 1))))) (sRet (eC (.str "other"))) (sNext)) (qypz rs)
def qyrz(rs:List Str):TS3:=sSeq (sAsg (eOp rAdd3 (eVar 1) (eLst (aCons (eIsX rs "NoClocks" (eVar 0)) (aCons (eIsX rs "NoText" (eVar 0)) (aCons (eIsX rs "TooGreat" (eVar 0)) (aNil)))))) (hName 1)) (qyqz rs)
def qlfz(rs:List Str):TS3:=sSeq (sAsg (eLst (aCons (eIsX rs "NoClock" (eVar 0)) (aCons (eIsX rs "NoNumber" (eVar 0)) (aCons (eIsX rs "NoPlace" (eVar 0)) (aCons (eIsX rs "NoRow" (eVar 0)) (aNil)))))) (hName 1)) (qyrz rs)
theorem qysz(rs:List Str):∀ds G Q,qckz rs ds G Q->qlfz rs (endsOf Q) (start3 ["e","marks"] ds) G:=by
 rintro ds G Q ⟨p,a,b,rfl,hp,hr,q⟩;refine⟨_,_,hp,hr,_,_,hp,hr,_,_,hp,hr,_,_,hp,hr,fun p1 G1 n1=>?_⟩;have hp1:=n1.sub _ _ hp;have b1:(("TooGreat":Str)=="NoClock")=false:=by decide
 have b2:(("TooGreat":Str)=="NoNumber")=false:=by decide
 have b3:(("TooGreat":Str)=="NoPlace")=false:=by decide
 have b4:(("TooGreat":Str)=="NoRow")=false:=by decide
 have b5:(("TooGreat":Str)=="NoClocks")=false:=by decide
 have b6:(("TooGreat":Str)=="NoText")=false:=by decide
 have b7:(("TooGreat":Str)=="TooGreat")=true:=by decide
 rw[b1,b2,b3,b4] at n1;refine⟨_,_,hp1,hr,_,_,hp1,hr,_,_,hp1,hr,fun p2 G2 n2=>?_⟩;rw[b5,b6,b7] at n2;have hp2:=n2.sub _ _ hp1;refine⟨_,_,n2.sub _ _ n1.at_,n2.at_,by decide,fun p3 G3 n3=>?_⟩;have hp3:=n3.sub _ _ hp2;refine⟨_,_,hp3,hr,fun h=>(nomatch h),fun _=>?_⟩;refine⟨⟨p3,_,rfl,n3.at_⟩,_,[false,false,false,false,false,false,true],n3.at_,rfl,_,_,rfl,rfl,Nat.zero_le _,fun h=>?_,fun _=>?_⟩
 ·exact absurd h (by decide)
 refine⟨⟨p3,_,rfl,n3.at_⟩,_,[false,false,false,false,false,false,true],6,n3.at_,rfl,rfl,fun i hi=>?_,by decide,.str "great",rfl,qhz (q G3 ((n1.sub.trans n2.sub).trans n3.sub))⟩
 match i,hi with
 |0,_=>rfl
 |1,_=>rfl
 |2,_=>rfl
 |3,_=>rfl
 |4,_=>rfl
 |5,_=>rfl
def qc8z(rs:List Str):Sp3:=fun ds G Q=>∃(p:Addr) (a b:Int),ds=[.obj p]/\G p=some (grR a b)/\("TooGreat":Str)∈rs/\∀G',Sub G G'->Q (.tup [.str "great",.int a,.int b]) G'
def qytz(rs:List Str):TS3:=sRet (eTup (aCons (eC (.str "great")) (aCons (eFldR rs "many" (eVar 0)) (aCons (eFldR rs "most" (eVar 0)) (aNil)))))
def qlgz(rs:List Str):TS3:=sSeq (sIf (eOr (eTest (eOp (rEq3 true) (eCall (qckz rs) (aCons (eVar 0) (aNil))) (eC (.str "great")))) (eOr (eNot (eTest (eCall qbdz (aCons (eFldR rs "many" (eVar 0)) (aNil))))) (eNot (eTest (eCall qbdz (aCons (eFldR rs "most" (eVar 0)) (aNil))))))) (sRet (eTup (aCons (eCall (qckz rs) (aCons (eVar 0) (aNil))) (aNil)))) (sNext)) (qytz rs)
theorem qyuz(rs:List Str):∀ds G Q,qc8z rs ds G Q->qlgz rs (endsOf Q) (start3 ["e"] ds) G:=by
 rintro ds G Q ⟨p,a,b,rfl,hp,hr,q⟩;refine⟨p,a,b,rfl,hp,hr,fun G1 s1=>⟨_,_,rfl,rfl,Nat.zero_le _,fun h=>?_,fun _=>?_⟩⟩
 ·exact absurd h (by decide)
 have hp1:=s1 _ _ hp;refine⟨_,_,a,hp1,hr,rfl,trivial,fun h=>(nomatch h),fun _=>⟨_,_,b,hp1,hr,rfl,trivial,fun h=>(nomatch h),fun _=>?_⟩⟩;exact⟨_,_,a,hp1,hr,rfl,_,_,b,hp1,hr,rfl,qhz (q G1 s1)⟩
end My
namespace My
open PySem L2 L3
abbrev grE(E:E3)(n:Nat):Prop:=E "TooGreat" [("many",((n:Nat):Int)),("most",10000)]
def qc9z:SpX:=fun ds Q E=>∃(cs:List Clk) (n:Nat),ds=[csD cs,.int n]/\ClOk 1000 cs/\cs.length≤1000/\(n≤10000->∀p G',New noG p (.lst (tabD (cntN cs) n)) G'->Q (.obj p) G')/\(10000<n->grE E n)
def qyvz(E:E3):TS3:=sAugS (eVar 2) (eVar 5) (eC (.int 1)) (· + ·)
def qywz(E:E3):TS3:=sFor (iRng3 (aCons (eVar 4) (aCons (eVar 1) (aCons (eVar 3) (aNil))))) (hName 5) ((qyvz E))
def qyxz(E:E3):TS3:=sRet (eVar 2)
def qyyz(E:E3):TS3:=sSeq (sFor (iSeq (eVar 0)) (hTup 2 (hCons (hName 3) (hCons (hName 4) (hNil)))) ((qywz E))) (qyxz E)
def qyzz(E:E3):TS3:=sSeq (sAsg (eOp rMul3 (eLst (aCons (eC (.int 0)) (aNil))) (eVar 1)) (hName 2)) (qyyz E)
def qlhz(E:E3):TS3:=sSeq (sDrop (eCallX qc7z E (aCons (eVar 1) (aCons (eC (.int 10000)) (aNil))))) (qyzz E)
theorem qy0z:∀ds Q E,qc9z ds Q E->qlhz E (endsOf Q) (start3 ["clocks","many","counts","step","rest","number"] ds) noG:=by
 rintro ds Q E ⟨cs,n,rfl,ok,hl,q1,q2⟩;refine⟨n,10000,rfl,fun h G2 j=>?_,fun h=>q2 (by lia)⟩;have hn:n≤10000:=by lia
 obtain⟨a,b,e,hab,r⟩:=qxrz [csD cs,.int n] G2 Q ⟨cs,n,rfl,ok,hl,hn,fun p G' nn=>q1 hn p G' ⟨rfl,qcjz _,nn.at_⟩⟩;exact r
def qdaz:SpX:=fun ds Q E=>∃(cs:List Clk) (c:Clk),ds=[csD cs,cD c]/\ClOk 1000 (cs++[c])/\cs.length≤12/\(rnd (cs++[c])≤10000->Q (oN (fwO cs c)) noG)/\(10000<rnd (cs++[c])->grE E (rnd (cs++[c])))
def qliz(E:E3):TS3:=sRet (eCall qc4z (aCons (eVar 1) (aCons (eCallX qc9z E (aCons (eVar 0) (aCons (eCall qcgz (aCons (eOp rAdd3 (eVar 0) (eTup (aCons (eVar 1) (aNil)))) (aNil))) (aNil)))) (aCons (eC (.int 0)) (aNil)))))
theorem qy1z:∀ds Q E,qdaz ds Q E->qliz E (endsOf Q) (start3 ["clocks","clock"] ds) noG:=by
 rintro ds Q E ⟨cs,c,rfl,ok,hl,q1,q2⟩;have hc:=ok c (by simp);have h1:=hc.2;refine⟨?_,cs++[c],?_,ok,by simp;lia,cs,rnd (cs++[c]),rfl,fun z hz=>ok z (List.mem_append_left _ hz),by lia,fun hn p G1 n1 G2 j=>?_,q2⟩
 ·show (cs.map cD).length+1≤sizeLine;rw[List.length_map];exact line1000 (by lia)
 ·show [D.tup (cs.map cD++[cD c])]=[csD (cs++[c])];unfold csD;rw[List.map_append];rfl
 ·exact⟨c,p,cntN cs,rnd (cs++[c]),0,rfl,j.new _ _ n1.at_,hc.1,by lia,hn,noG,qcjz _,q1 hn⟩
def ClS(cs:List Clk):Prop:=ClOk 1000 cs/\cs.length≤12
def qdbz:SpX:=fun ds Q E=>∃cs:List Clk,ds=[csD cs]/\ClS cs/\(rnd cs≤10000->Q (oN (fmO cs)) noG)/\(10000<rnd cs->grE E (rnd cs))
def qljz(E:E3):TS3:=sRet (eCallX qdaz E (aCons (eVar 0) (aCons (eTup (aCons (eC (.int 1)) (aCons (eC (.int 0)) (aNil)))) (aNil))))
theorem qy2z:∀ds Q E,qdbz ds Q E->qljz E (endsOf Q) (start3 ["clocks"] ds) noG:=by
 rintro ds Q E ⟨cs,rfl,⟨ok,hl⟩,q1,q2⟩;refine⟨cs,(1,0),rfl,qxxz ok,hl,fun h G2 j=>?_,fun h=>?_⟩
 ·rw[qgaz] at h;rw[qxwz];exact⟨noG,qcjz _,q1 h⟩
 ·rw[qgaz] at h ⊢;exact q2 h
def qdcz:SpX:=fun ds Q E=>∃cs:List Clk,ds=[csD cs]/\ClS cs/\(rnd cs≤10000->Q (.bl (fmO cs).isNone) noG)/\(10000<rnd cs->grE E (rnd cs))
def qlkz(E:E3):TS3:=sRet (eOp (rIs3 false) (eCallX qdbz E (aCons (eVar 0) (aNil))) (eC .non))
theorem qy3z:∀ds Q E,qdcz ds Q E->qlkz E (endsOf Q) (start3 ["clocks"] ds) noG:=by
 rintro ds Q E ⟨cs,rfl,hs,q1,q2⟩;refine⟨cs,rfl,hs,fun h G2 j=>?_,q2⟩;have e:isNon (oN (fmO cs))=(fmO cs).isNone:=by cases fmO cs<;>rfl
 show (endsOf Q).rt (.bl (isNon (oN (fmO cs)))) G2;rw[e];exact⟨noG,qcjz _,q1 h⟩
end My
namespace My
open PySem L2 L3
theorem filt2{M:Int}{cs:List Clk}(ok:ClOk M cs)(n:Int):cs.filter (rg2 n)=cs.filter (rg n):=List.filter_congr fun c hc=>qvxz (ok c hc).1 n
theorem cnt2{M:Int}{cs:List Clk}(ok:ClOk M cs)(x:Nat):(cs.filter (rg2 (x:Int))).length=cntN cs x:=by
 rw[filt2 ok];rfl
theorem qgdz:∀(xs:List Nat),toDats0 (xs.map nD)=some (xs.map fun x=>Dat.D.int (x:Nat))
 |[]=>rfl
 |x::xs=>by
  rw[List.map_cons,toDats0,qgdz xs];rfl
theorem qllz:∀xs:List Nat,Dat.deps (xs.map fun x=>Dat.D.int (x:Nat))=0
 |[]=>rfl
 |x::xs=>by
  rw[List.map_cons,Dat.deps,qllz xs];rfl
end My
namespace L2
open PySem PySem.Spec PyProof.Rows
def CtxOk(A:Around)(h:Heap):Prop:=∃e oe vs,A.handled=some (.ref e)/\h.get? e=some oe/\oe.data=.fields vs/\vs[2]?=some .none
theorem qy4z:entryFor table "proto.unchain" = some Builtin.«proto.unchain»:=entryFor_of_fast (by kernel_rfl)
theorem qy5z:plainId "proto.unchain" = true:=by decide +kernel
section
variable {prog:Program} {w:World} {A:Around} {E:Value->Shared->Prop} {s:Shared}
theorem raiseNewH{α:Type}{x:Addr}{ox:Obj}{vx:Array Value}{Q:α->Shared->Prop}(c:CtxOk A s.heap)(hx:s.heap.get? x=some ox)(hd:ox.data=.fields vx)(h2:2<vx.size)
  (h:∀h',Heap.SameBut x s.heap h'->(∃o',h'.get? x=some o'/\o'.cls=ox.cls)->E (.ref x) { s with heap:=h' }):wpAny (model prog w) A (raiseNew (.ref x):Sem α) Q E s:=by
 obtain⟨e,oe,vs,hh,he,hde,h2e⟩:=c;unfold raiseNew;refine wpAny_bind (wpAny_handled ?_);rw[hh];by_cases z:e=x
 ·subst z;show wpAny _ _ (if (Value.ref e != Value.ref e)=true then _ else throw (Value.ref e)) _ _ _;rw[if_neg (by simp)];exact wpAny_throw (h _ (Heap.SameBut.refl ..) ⟨ox,hx,rfl⟩)
 ·show wpAny _ _ (if (Value.ref e != Value.ref x)=true then _ else throw (Value.ref x)) _ _ _;rw[if_pos (by simpa using z)];refine wpAny_bind (wpAny_holding (wpAny_runValue ?_));refine codeAny_builtin qy4z ?_;rw[Around.under_plainId qy5z _];show wpAny _ _ (field (.ref e) 2 >>= _) _ _ _;refine wpAny_bind (wpAny_field he hde h2e ?_);show wpAny _ _ (if (Value.none==Value.none)=true then _ else _) _ _ _;rw[if_pos (show (Value.none==Value.none)=true from rfl)];refine wpAny_pure ?_;show wpAny _ _ (updateField x 2 (.ref e) >>= _) _ _ _;refine wpAny_bind ?_;show wpAny _ _ (setField (.ref x) 2 (.ref e)) _ _ _;refine wpAny_setField hx hd h2 (wpAny_throw (h _ (Heap.SameBut.update ..) ⟨_,Heap.get?_update_self _ hx (Obj.isFreed_of_fields (Obj.data_mapFields hd _)),Obj.cls_mapFields ..⟩))
theorem CtxOk.keep{h h':Heap}(c:CtxOk A h)(k:∀b o vs,h.get? b=some o->o.data=.fields vs->vs[2]?=some .none->h'.get? b=some o):CtxOk A h':=by
 obtain⟨e,oe,vs,a,b,c,d⟩:=c;exact⟨e,oe,vs,a,k e oe vs b c d,c,d⟩
theorem qlmz{it t:Addr}{i:Nat}{items}{Q:Option Value->Shared->Prop}(hh:CtxOk A s.heap)
  (hit:IsTupIter s.heap it t i) (ht:IsTup s.heap t items) (hx:items[i]?=none)
  (hQ:∀h',Heap.ExtBut it s.heap h'->Q none { s with heap:=h' }):wpAny (model prog w) A (pyNext (.ref it)) Q E s:=by
 obtain⟨o,ho,hc,hd⟩:=id hit;obtain⟨ol,hol,_,nl,hdl⟩:=ht;unfold pyNext;refine wpAny_bind (wpAny_attempt (wpAny_callSpecial?_slot (name:=Str.ofString "__next__") hit.typeIs slot_tupleiter_next
  (wpAny_call_entry slot_tupleiter_next hit.typeIs entry_tupleiter_next ?_ (args_tupleiter_next _))))
 show wpAny _ _ (field (.ref it) 0 >>= _) _ _ s;refine wpAny_bind (wpAny_field ho hd (x:=.ref t) rfl ?_);show wpAny _ _ (if (Value.ref t==Value.none)=true then _ else _) _ _ s;rw[if_neg (show ¬((Value.ref t==Value.none)=true) from Bool.false_ne_true)];show wpAny _ _ (field (.ref it) 1 >>= _) _ _ s;refine wpAny_bind (wpAny_field ho hd (x:=.int i 0) rfl ?_);show wpAny _ _ (seqItems? (.ref t) >>= _) _ _ s;refine wpAny_bind (wpAny_seqItems hol hdl ?_);simp only[Int.toNat_natCast,hx];refine wpAny_bind (wpAny_rule (wpAny_bind (wpAny_setField ho hd (by simp) ?_)));show wpAny _ _ (newExc (.type "StopIteration") [] >>= _) _ _ _;refine wpAny_bind ?_;simp only[newExc,newTuple];refine wpAny_bind (wpAny_newObj_type ?_ (by size_fits));refine wpAny_bind (m:=firstArgMember _ _) (wpAny_of_eq (a:=Value.none) (by first|rfl|(simp only[firstArgMember];rfl)) ?_)
 refine wpAny_newObj_type ?_ (by size_fits);refine raiseNewH (A:=A.in1) ?_ (Heap.get?_push_size _ rfl) rfl (by exact (by decide:2<6)) fun h' sb ⟨o',e1,e2⟩=>?_
 ·refine (show CtxOk A.in1 s.heap from hh).keep fun b ob vs e hf h2=>Heap.get?_push_of_some _ (Heap.get?_push_of_some _ ((Heap.get?_update_other _ _ fun z=>?_).trans e));rw[←z,ho] at e;cases e;rw[hd] at hf;cases hf;simp at h2
 refine wpAny_bind (wpAny_isInstance (T:="StopIteration") (b:=true) ⟨_,e1,e2⟩ isSubtype_stop ?_);refine wpAny_pure (hQ _ fun b ob hb e=>?_);refine (sb.2 b (Nat.ne_of_lt (Heap.lt_size (((Heap.SameBut.update s.heap it _).extBut.push _) b ob hb e)))).trans ((((Heap.SameBut.update ..).extBut.push _).push _) b ob hb e)
theorem unpackItemsH{t:Addr}{items:Array Value}{Q:List Value->Shared->Prop}(hh:CtxOk A s.heap)(ht:IsTup s.heap t items)
  (hQ:∀h',Heap.ExtBut s.heap.objs.size s.heap h'->Q items.toList { s with heap:=h' }):wpAny (model prog w) A (unpackItems (.ref t) items.size none) Q E s:=by
 have hlt:t≠s.heap.objs.size:=by obtain⟨o,ho,_⟩:=ht;exact Nat.ne_of_lt (Heap.lt_size ho)
 unfold unpackItems;refine wpAny_bind ?_
 ·unfold notIterableAtAll;refine wpAny_bind (wpAny_specialOf ht.typeIs slot_tuple_iter.lookup ?_);refine wpAny_pure ?_;simp only[Bool.false_eq_true,if_false];refine wpAny_bind (wpAny_holding (iter_tuple ht ?_));refine wpAny_bind (wpAny_holding (draw_tuple hlt items.size 0 _ _ ⟨_,Heap.get?_push_size _ rfl,rfl,rfl⟩ (ht.push _) (by lia) fun h₁ hit₁ hs₁=>?_));have hall:List.take items.size (List.drop 0 items.toList)=items.toList:=by
   rw[List.drop_zero];exact List.take_of_length_le (by simp)
  rw[hall];rw[if_neg (by simp)];have ht₁:IsTup h₁ t items:=(ht.push _).extBut hs₁.extBut hlt;have hh₁:CtxOk A h₁:=hh.keep fun b o _ e _ _=>hs₁.extBut b o (Nat.ne_of_lt (Heap.lt_size e)) (Heap.get?_push_of_some _ e);refine wpAny_bind (wpAny_holding (qlmz hh₁ hit₁ ht₁ (by simp) fun h₂ he₂=>?_));simp only[Option.isSome_none,Bool.false_eq_true,if_false];refine wpAny_pure (hQ h₂ fun b o hb e=>he₂ b o hb (hs₁.extBut b o hb (Heap.get?_push_of_some _ e)))
theorem assignH{env:Env}{elts:List Expr}{x1}{pos:Pos}{t:Addr}{items:Array Value}{Q:Unit->Shared->Prop}(hh:CtxOk A s.heap)(ht:IsTup s.heap t items)
  (hn:(assignEach elts env).length=items.size) (hstar:(assignEach elts env).findIdx? (·.1)=none)
  (h:∀h',Heap.ExtBut s.heap.objs.size s.heap h'->wpAny (model prog w) A (assignInOrder ((assignEach elts env).map (·.2)) items.toList) Q E { s with heap:=h' }):
  wpAny (model prog w) A (assign (.Tuple elts x1 pos) env (.ref t)) Q E s:=by
 rw[assign_Tuple];refine wpAny_bind (wpAny_standAt ?_);unfold unpack;rw[hn,hstar];exact wpAny_bind (wpAny_holding (unpackItemsH hh ht h))
end
def HeldX(X:Cx):Prop:=∃e oe vs,X.A.handled=some (.ref e)/\(e,oe)∈X.pn/\oe.data=.fields vs/\vs[2]?=some .none
section
variable {X:Cx} {pins:List (Addr×Obj)} {σ:St} {H:Hp} {s:Shared}
theorem HeldX.ctx(h:HeldX X)(I:Inv X pins σ H s):CtxOk X.A s.heap:=by
 obtain⟨e,oe,vs,a,b,c,d⟩:=h;exact⟨e,oe,vs,a,(I.pin (e,oe) (List.mem_append_left _ b)).1,c,d⟩
theorem qy6z{es:List Expr}{k:Nat}{t:TGs}{n:Nat}{pos:Pos}(hc:HeldX X)(h:PGs X es t)
  (hn:(assignEach es X.env).length=n:=by rfl) (hst:(assignEach es X.env).findIdx? (·.1)=none:=by rfl):PG X (.Tuple es k pos) (gTup X.K n t):=by
 intro pins s σ H v u Q I r hw;obtain⟨a,xs,e1,hq,hl,hw⟩:=hw;subst e1;cases r;obtain⟨its,rv,ht,hz⟩:=I.tuple hq;refine assignH (hc.ctx I) ht (by simp[hn,←hl,rv.length]) hst fun h' hx=>?_;have I1:Inv X pins σ H { s with heap:=h' }:=I.kept (t':=s.toks) fun b o e=>hx b o (Nat.ne_of_lt (Heap.lt_size e)) e
 exact h pins _ σ H xs _ Q I1 (by simpa using rv) hw
theorem qy7z{i j:Nat}{x y:Str}{a b:Expr}{ta:TA}{px py pt pos:Pos}{kt k2 pt2}(hc:HeldX X)(hN:X.N.Nodup)(hi:X.N[i]?=some x)(hj:X.N[j]?=some y)(hij:i≠j)
  (hx:X.env.scope.names.lookup x=some .local) (hy:X.env.scope.names.lookup y=some .local) (ha:PA X [a,b] ta)
  (hw:swappedStores [.Tuple [.Name x px,.Name y py] kt pt] (.Tuple [a,b] k2 pt2) X.env=pure (some [x,y]))
  (hs:swapsWithSole [.Tuple [.Name x px,.Name y py] kt pt] (.Tuple [a,b] k2 pt2) pos.line X.env=pure false:=by rfl):
  PS X (.Assign [.Tuple [.Name x px,.Name y py] kt pt] (.Tuple [a,b] k2 pt2) pos) (tPar i j ta):=by
 intro pins s σ H D I h;rw[exec_Assign_arm];refine wpAny_bind (wpAny_standAt ?_);rw[hs];refine wpAny_bind (wpAny_pure ?_);rw[if_neg (by decide)];refine wpAny_bind (Tuple_ (thn (ha _ pins s σ H _ I h) fun us s1 ⟨vs,H1,I1,r1,q1⟩=>?_));obtain⟨v,w,e1,q1⟩:=q1;subst e1;obtain⟨u1,u2,rfl,rv,rw'⟩:∃u1 u2,us=[u1,u2]/\RelV v u1/\RelV w u2:=by
  cases r1 with
  |cons p q=>
   cases q with
   |cons p' q'=>
    cases q';exact⟨_,_,rfl,p,p'⟩
 refine wpAny_newObj_type ?_ (by show 2≤sizeLine;decide);have I2:Inv X pins σ H1 { s1 with heap:=s1.heap.push { cls:=.type "tuple",data:=.seq [u1,u2].toArray }}:=I1.kept (t':=s1.toks) fun b o e=>Heap.get?_push_of_some _ e;rw[hw];refine wpAny_bind (wpAny_pure ?_);show wpAny (model X.prog X.w) X.A (do rule "assign.swapped-stores";let items ←unpackItems (.ref s1.heap.objs.size) 2 none;assignInOrder [fun v=>bindName X.env y v,fun v=>bindName X.env x v] items.reverse;pure Flow.next) _ _ _
 refine wpAny_bind (wpAny_rule (wpAny_bind (unpackItemsH (items:=#[u1,u2]) (hc.ctx I2) (IsTup.new s1.heap _) fun h' hx'=>?_)));have I3:=I2.kept (h':=h') (t':=s1.toks) fun b o e=>hx' b o (Nat.ne_of_lt (Heap.lt_size e)) e;show wpAny _ _ (assignInOrder [fun v=>bindName X.env y v,fun v=>bindName X.env x v] [u2,u1] >>= fun _=>pure Flow.next) _ _ _
 refine wpAny_bind (assignInOrder_cons (wpAny_bindName (qbiz I3 hN hj (.inl hy) rw' (fun s2 I4=>?_) (.inr hy))));refine assignInOrder_cons (wpAny_bindName (qbiz I4 hN hi (.inl hx) rv (fun s3 I5=>assignInOrder_nil (wpAny_pure ?_)) (.inr hx)));rw[List.set_comm _ _ (Ne.symm hij)] at I5;exact⟨_,H1,I5,q1⟩
theorem qy8z{tg iter:Expr}{body:List Stmt}{tl:TE}{g:TG}{tb:TS}{pos:Pos}(hp:PassesOwn (model X.prog X.w) X.A X.env X.xe)(hc:HeldX X)(hi:PE X iter tl)(hg:PG X tg g)(hb:PSs X body tb)
  (hs:∀x,foldedSetIterable iter X.env x=pure x:=by intro _;rfl):PS X (.For tg iter body [] pos) (tFor (iTup X.K tl) g tb):=by
 intro pins s σ H D I h;refine wpAny_For (thn (hi pins s σ H _ I h) fun v s1 ⟨x,H1,I1,r1,q1⟩=>?_) hs;obtain⟨a,e,⟨xs,hq⟩,W,⟨m0,w0⟩,turn⟩:=q1;subst e;cases r1;obtain⟨its,rv,p,hz⟩:=I1.tuple hq;refine wpAny_pyIter_tuple (show s1.heap.IsTuple a its.toArray from p) ?_;have I2:Inv X pins σ H1 { s1 with heap:=s1.heap.push { cls:=.type "tuple_iterator",data:=.fields #[.ref a,.int 0 0]}}:=I1.kept (t':=s1.toks) fun b o e=>Heap.get?_push_of_some _ e
 have f2:=I1.fpOk (H':=H1) (b:=s1.heap.objs.size) (Nat.le_refl _) (I1.hok.fresh (Nat.le_refl _));have stat:∀{H':Hp},H' s1.heap.objs.size=none->FpOk X pins H' s1.heap.objs.size:=fun hn=>⟨hn,f2.2⟩;have st0:(s1.heap.push { cls:=.type "tuple_iterator",data:=.fields #[.ref a,.int 0 0]}).IsTupleIter s1.heap.objs.size a 0:=⟨_,Heap.get?_push_size _ rfl,rfl,rfl⟩;revert f2 stat st0;generalize hit:s1.heap.objs.size=it;intro f2 stat st0;refine codeAny_forLoop_any (fun n s'=>∃i σ' H',Inv X pins σ' H' s'/\s'.heap.IsTupleIter it a i/\H' it=none/\W i n σ' H') ?_ m0 ⟨0,σ,H1,I2,st0,f2.1,w0⟩;rintro n s3 ⟨i,σ3,H3,I3,st3,fr3,w3⟩;rcases turn i n σ3 H3 w3 with⟨stop,qn⟩|⟨go,N,hN,step⟩
 ·obtain⟨f0,f1,f2',f3,f4,f5⟩:=stat fr3;obtain⟨ys,hq3,hx3⟩:=stop;obtain⟨its3,rv3,p3,hz3⟩:=I3.tuple hq3;have hl3:=rv3.length;obtain⟨o,e1,e2,e3⟩:=st3;refine wpAny_passesOwn hp (qlmz (hc.ctx I3) ⟨o,e1,e2,e3⟩ p3 (by simp;lia) fun h' eb=>?_);have I4:Inv X pins σ3 H3 { s3 with heap:=h' }:=I3.turned (t':=s3.toks) (fun b o hb e=>eb b o hb e) f0 f1 f3 f4 f5;exact wpAny_execs_nil ⟨σ3,H3,I4,qn⟩
 ·obtain⟨f0,f1,f2',f3,f4,f5⟩:=stat fr3;obtain⟨ys,x,hq3,hx3⟩:=go;obtain⟨its3,rv3,p3,hz3⟩:=I3.tuple hq3;obtain⟨u,hu,ru⟩:=rv3.get hx3;refine wpAny_passesOwn hp (wpAny_pyNext_tuple_item st3 (show s3.heap.IsTuple a its3.toArray from p3) (x:=u) (by simpa using hu) fun h' st5 sb=>?_);have I5:Inv X pins σ3 H3 { s3 with heap:=h' }:=I3.turned (t':=s3.toks) (fun b o hb e=>(sb.2 b hb).trans e) f0 f1 f3 f4 f5;obtain⟨o,e,c,d⟩:=id st5;have y5:(Itt X.K a).yld i H3 x H3:=⟨rfl,fun ys' hy=>by rw[I3.tuple_inj hy hq3];exact hx3⟩;refine wpAny_passesOwn hp (qcmz (s:={ s3 with heap:=h' }) e c d (by decide) ?_);have I5':Inv X (pins++[(it,o)]) σ3 H3 { s3 with heap:=h' }:=I5.pins_of fun p hp=>(List.mem_append.mp hp).elim (fun z=>I5.pin p (List.mem_append_right _ z)) fun z=>by
   have ez:p=(it,o):=by simpa using z
   subst ez;exact⟨e,f0,f1,f2',fun v z=>by rw[d] at z;cases z⟩
  refine wpAny_passesOwn hp (thn (hg _ _ σ3 H3 x u _ I5' ru (step x H3 y5)) fun _ s6 ⟨σ6,H6,I6,q6⟩=>?_);refine wpAny_passesOwn hp (thn (hb _ s6 σ6 H6 _ I6 q6) fun f s7 q7=>?_);have again:∀{σ7:St} {H7:Hp},Inv X (pins++[(it,o)]) σ7 H7 s7->N σ7 H7->∃m,m<n/\∃i σ' H',Inv X pins σ' H' s7/\s7.heap.IsTupleIter it a i/\H' it=none/\W i m σ' H':=fun {σ7 H7} I7 n7=>by
   obtain⟨m',hm,w7⟩:=hN σ7 H7 n7;have pin:=I7.pin (it,o) (List.mem_append_right _ (List.mem_append_right _ (by simp)));exact⟨m',hm,i+1,σ7,H7,I7.unpinned,⟨o,pin.1,c,d⟩,pin.2.1,w7⟩
  cases f with
  |next=>obtain⟨σ7,H7,I7,n7⟩:=q7;exact again I7 n7
  |cont=>obtain⟨σ7,H7,I7,n7⟩:=q7;exact again I7 n7
  |brk=>obtain⟨σ7,H7,I7,q7⟩:=q7;exact⟨σ7,H7,I7.unpinned,q7⟩
  |ret v=>obtain⟨x7,σ7,H7,I7,r7,q7⟩:=q7;exact⟨x7,σ7,H7,I7.unpinned,r7,q7⟩
end
end L2
namespace L2
open PySem PySem.Spec PyProof.Rows
def HeldA(A:Around)(outer:List Env)(h:Heap)(H:Hp):Prop:=∃e oe vs,A.handled=some (.ref e)/\h.get? e=some oe/\oe.data=.fields vs/\vs[2]?=some .none/\H e=none/\e∉frs outer
structure FnOkP(P:Program)(w:World)(K:PySem.W.Frag)(mg:Str->Option Value)(base:Heap)(k:Nat)(f:Addr)(fd:FuncData)(ps:List Str)(sp:Sp):Prop where
 len:∀vs H Q E,sp vs H Q E->vs.length=ps.length
 run:∀(A:Around) (outer:List Env) (s:Shared) (H:Hp) (args:Args) (us:List Value) (vs:List V) (Q:VK) (E:XK),RoomH k A->HeldA A outer s.heap H->Env0 P w K mg base A outer s H->BindsTo s fd args (ps.zip us)->Vals vs us->sp vs H Q E ->
  codeAny (model P w) A (.call (.ref f) args) (CR CX0 outer P w H s Q E) s
def cxP(P:Program)(w:World)(K:PySem.W.Frag)(mg:Str->Option Value)(base:Heap)(N:List Str)(qual:Str)(scope:Scope)(f:Addr)(cd:Value)(A:Around)(outer:List Env)(s:Shared)(H:Hp)(E:XK)(e:Addr)(oe:Obj):Cx:=
 { cxH P w K mg base N qual scope f cd A outer s H E with pn:=[(e,oe)]}
section
variable {P:Program} {w:World} {K:PySem.W.Frag} {mg:Str->Option Value} {base:Heap} {j k:Nat} {f:Addr} {fd:FuncData} {ps:List Str} {sp:Sp}
theorem FnOkP.mono(F:FnOkP P w K mg base j f fd ps sp)(h:j≤k):FnOkP P w K mg base k f fd ps sp:=⟨F.len,fun A outer s H args us vs Q E hr=>F.run A outer s H args us vs Q E (hr.mono h)⟩
end
theorem qy9z{P:Program}{w:World}{K:PySem.W.Frag}{mg:Str->Option Value}{base:Heap}{k:Nat}{x qual:Str}{st:Stmt}{f:Addr}{fd:FuncData}{N ps:List Str}{sp:Sp}(F:Fun K x qual st f fd)(S:FnScope N ps (defScope st))(len:∀vs H Q E,sp vs H Q E->vs.length=ps.length)
  (hbody:∀(cdv:Value) (A:Around) (outer:List Env) (s:Shared) (H:Hp) (vs:List V) (Q:VK) (E:XK) (e:Addr) (oe:Obj),RoomH k (A.deeper (envOfC qual (defScope st) s.heap.objs.size f cdv))->HeldX (cxP P w K mg base N qual (defScope st) f cdv A outer s H E e oe)->sp vs H Q E ->
   ∃t,PSs (cxP P w K mg base N qual (defScope st) f cdv A outer s H E e oe) (defBody st) t/\t { nx:=fun _ H'=>Q .non H',rt:=Q } (start N vs) H):
  FnOkP P w K mg base (k+1) f fd ps sp:=by
 obtain⟨oc,od,kV,doc,pm,an,cdv,ct,osl,rfl,lk,hcd⟩:=F.ex;refine⟨len,fun A outer s H args us vs Q E hr hA e0 hb r hsp=>?_⟩;have hl:=len _ _ _ _ hsp;have KX:K.In s.heap:=e0.mod.kin.keeps fun b o e=>(e0.bs b o e).1;have lim:s.heap.NoLimit:=e0.mod.nolimit.keeps fun b o e=>(e0.bs b o e).1;have hkind:∀y∈ps.zip us,(defScope st).names.lookup y.1=some .local∨((defScope st).names.lookup y.1=some .cell/\((cellsFrom (s.heap.objs.size+1) (defScope st).names []).lookup y.1).isSome=true):=fun⟨n,v⟩ hy=>by
  rcases S.par n (List.of_mem_zip hy).1 with q|q
  ·exact .inl q
  ·exact .inr ⟨q,PySem.W.cellsFrom_some _ _ _ (.inl q)⟩
 refine codeAny_call_function hr.depth (KX _ _ lk) rfl S.co S.gen rfl (PySem.W.codeRec_of KX hcd) (hb _ _ _ _ ?_);refine wpAny_newFunctionEnv_cells S.kind hkind fun env he s1 x=>?_;subst he;refine⟨lim.keeps x.toInCall.keep,codeAny_func ?_⟩;obtain⟨e,oe,ws,h1,h2,h3,h4,h5,h6⟩:=hA;have HX:HeldX (cxP P w K mg base N qual (defScope st) f cdv A outer s H E e oe):=⟨e,oe,ws,h1,by simp[cxP],h3,h4⟩;obtain⟨t,ht,hq⟩:=hbody cdv A outer s H vs Q E e oe (hr.deeper _) HX hsp;have e1:Env0 P w K mg base { A with handled:=none } outer s H:=⟨e0.frames,e0.mod,e0.bs,e0.bsz,e0.funs,e0.frf,e0.hok,e0.bare⟩;have I0:Inv (cxOf CX0 P w K mg base N qual (defScope st) f cdv { A with handled:=none } outer s H E) [] (start N vs) H s1:=qexz S rfl e1 hl r x;have I1:=I0.loud (A:=A) e0.frames;have I:Inv (cxP P w K mg base N qual (defScope st) f cdv A outer s H E e oe) [] (start N vs) H s1:=by
  obtain⟨ok,a1,a2,a3,a4,a5,a6,a7,a8,a9,a10⟩:=I1;obtain⟨o1,o2,o3,o4,o5,o6,o7,o8,o9,o10,o11,o12,o13,o14,o15,o16,o17,o18⟩:=ok;refine⟨⟨o1,o2,o3,o4,o5,o6,o7,o8,o9,o10,o11,o12,o13,o14,o15,o16,o17,o18⟩,a1,a2,a3,a4,a5,a6,a7,fun p hp=>?_,a9,a10⟩;have ez:p=(e,oe):=by simpa [cxP] using hp
  subst ez;exact⟨x.toInCall.keep _ _ h2,h5,Nat.ne_of_lt (Heap.lt_size h2),h6,fun v z=>by rw[h3] at z;cases z⟩
 refine wpAny_mono (ht [] s1 (start N vs) H _ I hq) (fun fl s' hs=>?_) fun e s' hs=>hs.elim;have fin:∀{σ':St} {H':Hp} {v:V} {u:Value},Inv (cxP P w K mg base N qual (defScope st) f cdv A outer s H E e oe) [] σ' H' s'->RelV v u->Q v H'->CE outer P w H s Q u s':=
  fun {σ' H' v u} J rv q=>⟨v,H',J.os,J.bare,J.base,J.hok,rv,q⟩
 cases fl with
 |ret u=>
  obtain⟨v,σ',H',J,rv,q⟩:=hs;exact fin J rv q
 |next=>
  obtain⟨σ',H',J,q⟩:=hs;exact fin (v:=V.non) (u:=Value.none) J rfl q
 |brk=>
  obtain⟨_,_,_,q⟩:=hs;exact False.elim q
 |cont=>
  obtain⟨_,_,_,q⟩:=hs;exact False.elim q
section
variable {X:Cx} {k:Nat} {f:Addr} {fd:FuncData} {ps:List Str} {sp:Sp} {E:XK} {x:Str} {p pos:Pos} {e:Expr} {es:List Expr} {t:TA}
theorem HeldX.atA{pins:List (Addr×Obj)}{σ:St}{H:Hp}{s:Shared}(h:HeldX X)(I:Inv X pins σ H s):HeldA X.A X.stack s.heap H:=by
 obtain⟨e,oe,vs,a,b,c,d⟩:=h;obtain⟨p1,p2,p3,p4,_⟩:=I.pin (e,oe) (List.mem_append_left _ b);refine⟨e,oe,vs,a,p1,c,d,p2,fun z=>?_⟩;rcases I.ok.stk with q|⟨q,q2⟩
 ·rw[q] at z;exact p4 z
 ·rw[q] at z;unfold frs at z;rw[List.filterMap_cons,q2] at z;rcases List.mem_cons.mp z with z|z
  ·exact p3 z
  ·exact p4 z
theorem qzaz{pins:List (Addr×Obj)}{σ:St}{H:Hp}{s:Shared}{Q:VK}{us:List Value}{vs:List V}(F:FnOkP X.prog X.w X.K X.mg X.base k f fd ps sp)(hr:RoomH k X.A)(hA:HeldX X)(hb:Binds X.K fd ps [])
  (I:Inv X pins σ H s) (r:Vals vs us) (h:sp vs H Q E):wpAny (model X.prog X.w) X.A (call (.ref f) us) (EP X pins σ Q) X.xe s:=by
 have hl:(us++[]).length=ps.length:=by rw[List.append_nil,←r.length];exact F.len _ _ _ _ h
 have hb':=hb s us I.kIn hl;rw[List.append_nil] at hb';refine wpAny_call (codeAny_mono (F.run X.A X.stack s H ⟨us,[]⟩ us vs Q E hr (hA.atA I) I.env0 hb' r h) fun r s' hq=>?_);cases r with
 |error e=>exact False.elim hq
 |ok fl=>
  cases fl with
  |ret u=>exact I.after hq
  |next=>exact False.elim hq
  |brk=>exact False.elim hq
  |cont=>exact False.elim hq
theorem qzbz(F:FnOkP X.prog X.w X.K X.mg X.base k f fd ps sp)(hr:RoomH k X.A)(hA:HeldX X)(hg:Gl X x)(hm:X.mg x=some (.ref f))(hk:PySem.W.keepIn X.K (.ref f)=true)(hb:Binds X.K fd ps [])
  (ha:PA X (e::es) t) (hdb:(x==("__debug__":Str))=false:=by decide) (he:starEach (e::es) X.env=(false,eval e X.env)::starEach es X.env:=by rfl) (hpl:(backTo pos (starEach es X.env)).any (·.1)=false:=by rfl):
  PE X (.Call (.Name x p) (e::es) [] pos) (tCall sp [] E t):=by
 intro pins s σ H Q I h;refine wpAny_Call_Name_kw (qa0z I hg hm ?_ hdb);refine PySem.W.callWith_K (h₀:=X.base) I.ok.mod.kin hk (thn (ha pos pins s σ H _ I h) fun us s1 ⟨vs,H1,I1,r,q⟩=>⟨I1.kIn,?_⟩) he hpl;have q':sp (vs++[]) H1 Q E:=q;rw[List.append_nil] at q';exact qzaz F hr hA hb I1 r q'
end
end L2
namespace L3
open PySem PySem.Spec PyProof.Rows L2
abbrev FnP3(P:Program)(w:World)(K:PySem.W.Frag)(mg:Str->Option Value)(base:Heap)(k:Nat)(f:Addr)(fd:FuncData)(ps:List Str)(sp:Sp3):Prop:=FnOkP P w K mg base k f fd ps (lowSp K sp)
section
variable {X:Cx} {k:Nat} {f:Addr} {fd:FuncData} {ps:List Str} {sp:Sp3} {x:Str} {p pos:Pos} {e iter tg:Expr} {es:List Expr} {t:TA3}
theorem qzcz(F:FnP3 X.prog X.w X.K X.mg X.base k f fd ps sp)(hr:RoomH k X.A)(hA:HeldX X)(hm:X.mg x=some (.ref f))(hk:PySem.W.keepIn X.K (.ref f)=true)(hb:Binds X.K fd ps [])(ha:PA3 X (e::es) t)(hg:Gl X x:=by rfl)
  (hdb:(x==("__debug__":Str))=false:=by decide) (he:notStar e=true:=by rfl) (hpl:es.all notStar=true:=by rfl):
  PE3 X (.Call (.Name x p) (e::es) [] pos) (eCall sp t):=qvz (qzbz (E:=E0) F hr hA hg hm hk hb ha hdb (qmz he) (qyz hpl)) fun σ H Q h=>qe3z h
theorem fnP3{P:Program}{w:World}{K:PySem.W.Frag}{mg:Str->Option Value}{base:Heap}{x qual:Str}{st:Stmt}{f:Addr}{fd:FuncData}{N ps:List Str}{k:Nat}{sp:Sp3}(F:Fun K x qual st f fd)(S:FnScope N ps (defScope st))(hN:ps.length≤N.length)(len:∀ds G Q,sp ds G Q->ds.length=ps.length)(tb:TS3)
  (hbody:∀(cdv:Value) (A:Around) (outer:List Env) (s:Shared) (H:Hp) (E:XK) (e:Addr) (oe:Obj),RoomH k (A.deeper (envOfC qual (defScope st) s.heap.objs.size f cdv))->HeldX (cxP P w K mg base N qual (defScope st) f cdv A outer s H E e oe) ->
   PSs3 (cxP P w K mg base N qual (defScope st) f cdv A outer s H E e oe) (defBody st) tb)
  (hrd:∀ds G Q,sp ds G Q->tb (endsOf Q) (start3 N ds) G):FnP3 P w K mg base (k+1) f fd ps sp:=by
 refine qy9z F S (fun vs H Q E h=>?_) (fun cdv A outer s H vs Q E e oe hr hA h=>?_)
 ·obtain⟨ds,G,Q3,h1,h2,h3,h4⟩:=h;rw[←h1.length];exact len _ _ _ h3
 ·obtain⟨ds,G,Q3,h1,h2,h3,h4⟩:=h;refine⟨_,hbody cdv A outer s H E e oe hr hA,start3 N ds,G,endsOf Q3,.start h1 ?_,h2,hrd _ _ _ h3,⟨?_,?_,?_,?_⟩⟩
  ·rw[←h1.length,len _ _ _ h3];exact hN
  ·exact fun τ σ G' H' a b c ⟨G0,s0,q⟩=>h4 _ H' .non G0 (by simp[Hv]) (b.trans (.sub s0)) (c.sub s0) q
  ·exact fun τ σ G' H' a b c q=>q.elim
  ·exact fun τ σ G' H' a b c q=>q.elim
  ·exact fun d v G' H' a b c ⟨G0,s0,q⟩=>h4 _ H' d G0 a (b.trans (.sub s0)) (c.sub s0) q
theorem qzdz{k:Nat}{t:TGs3}{n:Nat}(hc:HeldX X)(h:PGs3 X es t)(hn:(assignEach es X.env).length=n:=by rfl)(hst:(assignEach es X.env).findIdx? (·.1)=none:=by rfl):PG3 X (.Tuple es k pos) (hTup n t):=
 qdpz (qy6z hc h hn hst) fun v σ H Q ⟨d,τ,G,Q3,hd,RS,RG,h,k⟩=>by
  cases d with
  |tup ds=>
   unfold Hv at hd;obtain⟨a,vs,e1,e2,e3⟩:=hd;exact⟨a,vs,e1,e2,by rw[←e3.length];exact h.1,ds,τ,G,Q3,e3,RS,RG,h.2,k⟩
  |_=>exact h.elim
def iTupl(te:TE3):TI3:=fun τ G R=>te τ G fun x G1=>match x with
 |.tup ds=>R ⟨ds,fun _=>True⟩ G1
 |_=>False
theorem qzez{body:List Stmt}{te:TE3}{g:TG3}{tb:TS3}(hp:PassesOwn (model X.prog X.w) X.A X.env X.xe)(hc:HeldX X)(hi:PE3 X iter te)(hg:PG3 X tg g)(hb:PSs3 X body tb)
  (hs:∀x,foldedSetIterable iter X.env x=pure x:=by intro _;rfl):PS3 X (.For tg iter body [] pos) (sFor (iTupl te) g tb):=qakz (qy8z hp hc hi hg hb hs) fun D2 σ H ⟨τ,G,D3,RS,RG,h,k⟩=>by
 refine⟨τ,G,_,RS,RG,h,fun v H1 d G1 hv S1 R1 q1=>?_⟩;cases d with
 |tup ds=>
  unfold Hv at hv;obtain⟨a,vs,rfl,e2,e3⟩:=hv;have ok:SrcOk X.K H1 (Itt X.K a) ⟨ds,fun _=>True⟩:=by
   refine⟨?_,?_⟩
   ·intro i d H' G' E' RG' hg hi;obtain⟨v',y1,y2⟩:=e3.get hi;refine⟨⟨vs,v',SqT.ext E' e2,y1⟩,fun x H'' hy=>?_⟩;obtain⟨rfl,hy⟩:=hy;have:=hy vs (SqT.ext E' e2);rw[y1] at this;cases this;exact⟨y2.ext E',.refl _ _,RG'⟩
   ·intro i H' G' E' RG' hg hi;exact⟨vs,SqT.ext E' e2,by rw[←e3.length];exact hi⟩
  refine⟨a,rfl,⟨vs,e2⟩,?_⟩;obtain⟨S,hS⟩:∃S:Src,S=⟨ds,fun _=>True⟩:=⟨_,rfl⟩;rw[←hS] at ok;have q1:forGo S.guard g tb D3 S.items τ G1:=by rw[hS];exact q1
  refine⟨fun i m σ' H'=>∃τ' G',RepS X.K τ' σ' H'/\RepG X.K G' H'/\Step H G H' G'/\Ext H1 H'/\forGo S.guard g tb D3 (S.items.drop i) τ' G'/\m+i=S.items.length,⟨S.items.length,τ,G1,RS.ext (S1.ext RG),R1,S1,.refl H1,by simpa using q1,by lia⟩,?_⟩;rintro i m σ' H' ⟨τ',G',RS',RG',S',E',q,hm⟩;by_cases hlt:i<S.items.length
  ·have hd:S.items.drop i=S.items[i]::S.items.drop (i+1):=List.drop_eq_getElem_cons hlt;have hget:S.items[i]?=some S.items[i]:=List.getElem?_eq_getElem hlt;rw[hd] at q;obtain⟨hgd,q⟩:=q;obtain⟨z1,z2⟩:=ok.go i _ H' G' E' RG' hgd hget;refine .inr ⟨z1,fun σ2 H2=>∃τ2 G2,RepS X.K τ2 σ2 H2/\RepG X.K G2 H2/\Step H G H2 G2/\Ext H1 H2/\forGo S.guard g tb D3 (S.items.drop (i+1)) τ2 G2,fun σ2 H2 ⟨τ2,G2,a1,a2,a3,a4,a5⟩=>⟨m-1,by lia,τ2,G2,a1,a2,a3,a4,a5,by lia⟩,fun x H2 hy=>?_⟩;obtain⟨y1,y2,y3⟩:=z2 x H2 hy;refine⟨S.items[i],τ',G',_,y1,RS'.ext (y2.ext RG'),y3,q,fun τ3 σ3 G3 H3 b1 b2 b3 b4=>?_⟩;refine⟨τ3,G3,_,b1,b3,b4,⟨?_,?_,?_,?_⟩⟩
   ·exact fun τ4 σ4 G4 H4 c1 c2 c3 c4=>⟨τ4,G4,c1,c3,((S'.trans y2).trans b2).trans c2,((E'.trans (y2.ext RG')).trans (b2.ext y3)).trans (c2.ext b3),c4⟩
   ·exact fun τ4 σ4 G4 H4 c1 c2 c3 c4=>k.nx τ4 σ4 G4 H4 c1 (((S'.trans y2).trans b2).trans c2) c3 c4
   ·exact fun τ4 σ4 G4 H4 c1 c2 c3 c4=>⟨τ4,G4,c1,c3,((S'.trans y2).trans b2).trans c2,((E'.trans (y2.ext RG')).trans (b2.ext y3)).trans (c2.ext b3),c4⟩
   ·exact fun d v G4 H4 c1 c2 c3 c4=>k.rt d v G4 H4 c1 (((S'.trans y2).trans b2).trans c2) c3 c4
  ·have hd:S.items.drop i=[]:=List.drop_eq_nil_of_le (by lia);rw[hd] at q;exact .inl ⟨ok.stop i H' G' E' RG' q.1 (by lia),k.nx τ' σ' G' H' RS' S' RG' q.2⟩
 |_=>exact q1.elim
def eCallP(a:Addr)(sp:Sp3)(t:TA3):TE3:=fun τ G Q=>t τ G fun ds G1=>(∃x fs,G1 a=some (.gen (excR x fs)))/\sp ds noG fun d G'=>∀G2,Joins G1 G' G2->Q d G2
theorem qzfz{pins:List (Addr×Obj)}{σ:L2.St}{H:Hp}{s:Shared}{Q:VK}{G1:Gp}{Q3:V3}{ds:List D}{us:List Value}{vs:List V}{a:Addr}{z:Str}{fs:List (Str×Int)}(F:FnP3 X.prog X.w X.K X.mg X.base k f fd ps sp)(hr:RoomH k X.A)(hA:X.A.handled=some (.ref a))(hb:Binds X.K fd ps [])
  (I:Inv X pins σ H s) (r:Vals vs us) (hd:Hvs X.K H ds vs) (R1:RepG X.K G1 H) (hz:G1 a=some (.gen (excR z fs))) (h:sp ds noG fun d G'=>∀G2,Joins G1 G' G2->Q3 d G2) (kk:∀v H' d G',Hv X.K H' d v->Step H G1 H' G'->RepG X.K G' H'->Q3 d G'->Q v H'):
  wpAny (model X.prog X.w) X.A (call (.ref f) us) (EP X pins σ Q) X.xe s:=by
 have hq:lowSp X.K sp vs (hide H) (fun v H'=>∃d G',Hv X.K H' d v/\Step (hide H) noG H' G'/\RepG X.K G' H'/\∀G2,Joins G1 G' G2->Q3 d G2) (fun _ _ _=>False):=
  ⟨ds,noG,_,hd.hid,(fun _ _ e=>nomatch e),h,fun v H' d G' a b c q=>⟨d,G',a,b,c,q⟩⟩
 have hl:(us++[]).length=ps.length:=by rw[List.append_nil,←r.length];exact F.len _ _ _ _ hq
 have e0:Env0 X.prog X.w X.K X.mg X.base X.A X.stack s (hide H):=⟨I.ok.frames,I.ok.mod,fun b o e=>⟨(I.bs b o e).1,qbwz (I.bs b o e).2⟩,Nat.le_trans I.ok.bsz I.sz,I.stack,fun b hb=>qbwz (I.stkFree b hb),qjxz I.hok,I.bare⟩;have hb':=hb s us I.kIn hl;rw[List.append_nil] at hb';obtain⟨C,dx,c1,c2,c3⟩:=(R1 a _ hz).1;obtain⟨⟨oe,ws,q1,q2,q3,q4,q5⟩,_⟩:=(show ObjOk X.prog X.w H s.heap a (.ext (excφ a C dx)) from I.hok a _ c2);have HA:HeldA X.A X.stack s.heap (hide H):=⟨a,oe,ws,hA,q1,q4,q5,qfsz c2 rfl,fun z=>by rw[I.stkFree a z] at c2;cases c2⟩;refine wpAny_call (codeAny_mono (F.run X.A X.stack s (hide H) ⟨us,[]⟩ us vs _ (fun _ _ _=>False) hr HA e0 hb' r hq) fun r s' hq'=>?_);cases r with
 |error e=>exact False.elim hq'
 |ok fl=>
  cases fl with
  |ret u=>
   obtain⟨v,H',os,bare,un,hok,rv,d,G',a,b,c,q⟩:=hq';obtain⟨un2,ok2⟩:=qecz I.hok I.stkFree un hok;obtain⟨z1,z2,z3,z4⟩:=qfuz I.hok I.stkFree un hok R1 a b c;exact I.after ⟨v,joined H H',os,bare,un2,ok2,rv,kk v _ d _ z1 z2 z3 (q _ z4)⟩
  |next=>exact False.elim hq'
  |brk=>exact False.elim hq'
  |cont=>exact False.elim hq'
theorem qzgz{a:Addr}(F:FnP3 X.prog X.w X.K X.mg X.base k f fd ps sp)(hr:RoomH k X.A)(hA:X.A.handled=some (.ref a))(hm:X.mg x=some (.ref f))(hk:PySem.W.keepIn X.K (.ref f)=true)(hb:Binds X.K fd ps [])(ha:PA3 X (e::es) t)(hg:Gl X x:=by rfl)
  (hdb:(x==("__debug__":Str))=false:=by decide) (he:notStar e=true:=by rfl) (hpl:es.all notStar=true:=by rfl):
  PE3 X (.Call (.Name x p) (e::es) [] pos) (eCallP a sp t):=by
 intro pins s σ H Q I ⟨τ,G,Q3,RS,RG,h,kk⟩;refine wpAny_Call_Name_kw (qa0z I hg hm ?_ hdb);refine PySem.W.callWith_K (h₀:=X.base) I.ok.mod.kin hk (thn (ha pos pins s σ H (fun vs H1=>∃ds G1,Hvs X.K H1 ds vs/\Step H G H1 G1/\RepG X.K G1 H1/\(∃x fs,G1 a=some (.gen (excR x fs)))/\sp ds noG fun d G'=>∀G2,Joins G1 G' G2->Q3 d G2) I
  ⟨τ,G,_,RS,RG,h,fun vs H1 ds G1 a b c q=>⟨ds,G1,a,b,c,q⟩⟩) fun us s1 ⟨vs,H1,I1,r,ds,G1,hd,S1,R1,⟨z,fs,hz⟩,q⟩=>⟨I1.kIn,?_⟩) (qmz he) (qyz hpl)
 exact qzfz F hr hA hb I1 r hd R1 hz q fun v H' d G' a b c q=>kk v H' d G' a (S1.trans b) c q
end
end L3
namespace L3
open PySem PySem.Spec PyProof.Rows L2
section
variable {X:Cx} {k:Nat} {f:Addr} {fd:FuncData} {ps:List Str} {sp3:Sp3} {x:Str} {p pos:Pos} {a b e c iter tg:Expr} {es:List Expr} {t:TA3} {te:TE3} {ta:TSX} {g:TG3}
theorem qzhz(F:FnP3 X.prog X.w X.K X.mg X.base k f fd ps sp3)(hr:RoomH k X.A)(hA:HeldX X)(hm:X.mg x=some (.ref f))(hk:PySem.W.keepIn X.K (.ref f)=true)(hb:Binds X.K fd ps [])(ha:QA X (e::es) t)(hg:Gl X x:=by rfl)
  (hdb:(x==("__debug__":Str))=false:=by decide) (he:notStar e=true:=by rfl) (hpl:es.all notStar=true:=by rfl):QE X (.Call (.Name x p) (e::es) [] pos) (eCall sp3 t):=⟨qzcz F hr hA hm hk hb ha.of hg hdb he hpl⟩
theorem qziz{z:Addr}(F:FnP3 X.prog X.w X.K X.mg X.base k f fd ps sp3)(hr:RoomH k X.A)(hA:X.A.handled=some (.ref z))(hm:X.mg x=some (.ref f))(hk:PySem.W.keepIn X.K (.ref f)=true)(hb:Binds X.K fd ps [])(ha:QA X (e::es) t)(hg:Gl X x:=by rfl)
  (hdb:(x==("__debug__":Str))=false:=by decide) (he:notStar e=true:=by rfl) (hpl:es.all notStar=true:=by rfl):QE X (.Call (.Name x p) (e::es) [] pos) (eCallP z sp3 t):=⟨qzgz F hr hA hm hk hb ha.of hg hdb he hpl⟩
theorem qzjz{k:Nat}{t:TGs3}{n:Nat}(hc:HeldX X)(h:QGs X es t)(hn:(assignEach es X.env).length=n:=by rfl)(hst:(assignEach es X.env).findIdx? (·.1)=none:=by rfl):QG X (.Tuple es k pos) (hTup n t):=⟨qzdz hc h.of hn hst⟩
theorem qzkz{body:List Stmt}{tb:TS3}(hp:PassesOwn (model X.prog X.w) X.A X.env X.xe)(hc:HeldX X)(hi:QE X iter te)(hg:QG X tg g)(hb:QSs X body tb)
  (hs:∀x,foldedSetIterable iter X.env x=pure x:=by intro _;rfl):QS X (.For tg iter body [] pos) (sFor (iTupl te) g tb):=⟨qzez hp hc hi.of hg.of hb.of hs⟩
theorem qzlz{i j:Nat}{x y:Str}{px py pt:Pos}{kt k2 pt2}(hc:HeldX X)(hN:X.N.Nodup)(hi:X.N[i]?=some x)(hj:X.N[j]?=some y)(hij:i≠j)(hx:X.env.scope.names.lookup x=some .local)(hy:X.env.scope.names.lookup y=some .local)(ha:QA X [a,b] t)
  (hw:swappedStores [.Tuple [.Name x px,.Name y py] kt pt] (.Tuple [a,b] k2 pt2) X.env=pure (some [x,y]))
  (hs:swapsWithSole [.Tuple [.Name x px,.Name y py] kt pt] (.Tuple [a,b] k2 pt2) pos.line X.env=pure false:=by rfl):
  QS X (.Assign [.Tuple [.Name x px,.Name y py] kt pt] (.Tuple [a,b] k2 pt2) pos) (sPar i j t):=⟨qiez (qy7z hc hN hi hj hij hx hy ha.of hw hs)⟩
theorem qzmz{i:Nat}{cx en:Str}{names:List Str}{body suite rs:List Stmt}{b₀:Stmt}{np hpos:Pos}{th:Addr->TS3}{tq:TS3}{B:Addr}(F:Frame X)(T7:Takes X.K names B)(hm:X.mg cx=some (.ref B))(hN:X.N.Nodup)(hb:QSX X body ta)(hh:∀e,QSs (X.caught e) (b₀::suite) (th e))(hr:QSs X rs tq)
  (hi:X.N[i]?=some en:=by rfl) (hl:X.env.scope.names.lookup en=some .local:=by rfl) (hg:Gl X cx:=by rfl) (hdb:(cx==("__debug__":Str))=false:=by decide):
  QSs X (.Try body [.ExceptHandler (some (.Name cx np)) (some en) (b₀::suite) hpos] [] [] pos::rs) (sTryP names i ta th tq):=⟨qusz F T7 hm hN hb.of (fun e=>(hh e).of) hr.of hi hl hg hdb⟩
end
theorem qfnP{P:Program}{w:World}{K:PySem.W.Frag}{mg:Str->Option Value}{base:Heap}{x qual:Str}{st:Stmt}{f:Addr}{fd:FuncData}{N ps:List Str}{k:Nat}{sp:Sp3}(F:Fun K x qual st f fd)(S:FnScope N ps (defScope st))(hN:ps.length≤N.length)(len:∀ds G Q,sp ds G Q->ds.length=ps.length)(tb:TS3)
  (hbody:∀(cdv:Value) (A:Around) (outer:List Env) (s:Shared) (H:Hp) (E:XK) (e:Addr) (oe:Obj),RoomH k (A.deeper (envOfC qual (defScope st) s.heap.objs.size f cdv))->HeldX (cxP P w K mg base N qual (defScope st) f cdv A outer s H E e oe) ->
   QSs (cxP P w K mg base N qual (defScope st) f cdv A outer s H E e oe) (defBody st) tb)
  (hrd:∀ds G Q,sp ds G Q->tb (endsOf Q) (start3 N ds) G):FnP3 P w K mg base (k+1) f fd ps sp:=fnP3 F S hN len tb (fun cdv A outer s H E e oe hr hA=>(hbody cdv A outer s H E e oe hr hA).of) hrd
end L3
namespace My
open PySem L2 L3
def qznz:TS3:=sAsg (eOp rDiv3 (eOp rMul3 (eVar 1) (eVar 2)) (eCall qb2z (aCons (eVar 1) (aCons (eVar 2) (aNil))))) (hName 1)
def qzoz:TS3:=sRet (eVar 1)
def qzpz:TS3:=sSeq (sFor (iTupl (eVar 0)) (hTup 2 (hCons (hName 2) (hCons (hName 3) (hNil)))) (qznz)) qzoz
def qlnz:TS3:=sSeq (sAsg (eC (.int 1)) (hName 1)) qzpz
theorem qzqz:∀ds G Q,qa5z ds G Q->qlnz (endsOf Q) (start3 ["clocks","found","step","rest"] ds) G:=by
 rintro ds G Q ⟨cs,rfl,ok,hl,q⟩;exact qkvz _ _ _ ⟨cs,rfl,ok,hl,q⟩
end My
namespace My
open PySem L2 L3
def qddz:Sp3:=fun ds G Q=>∃p:Addr,ds=[.obj p]/\G p=some .pen/\∀cs,ClS cs->10000<rnd cs->Q (csD cs) G
def qzrz:TS3:=sRet (eCB qcaz (aCons (eCB qd0z (aCons (eSl (eVar 1) (oNone) (oSome (eOp rAdd3 (eC (.int 2)) (eCall qajz (aCons (eVar 0) (aCons (eC (.int 3)) (aNil))))))) (aNil))) (aNil)))
def qloz:TS3:=sSeq (sAsg (eLst (aCons (eTup (aCons (eC (.int 101)) (aCons (eCall qajz (aCons (eVar 0) (aCons (eC (.int 101)) (aNil)))) (aNil)))) (aCons (eTup (aCons (eC (.int 103)) (aCons (eCall qajz (aCons (eVar 0) (aCons (eC (.int 103)) (aNil)))) (aNil)))) (aCons (eTup (aCons (eC (.int 997)) (aCons (eCall qajz (aCons (eVar 0) (aCons (eC (.int 997)) (aNil)))) (aNil)))) (aCons (eTup (aCons (eC (.int 2)) (aCons (eC (.int 1)) (aNil)))) (aNil)))))) (hName 1)) qzrz
theorem qzsz{cs:List Clk}{a b:Int}(h1:(101,a)∈cs)(h2:(103,b)∈cs)(hp:∀z∈cs,0<z.1):10000<rnd cs:=by
 have d1:101∣rnd cs:=qelz h1;have d2:103∣rnd cs:=qelz h2;have d3:101*103∣rnd cs:=Nat.Coprime.mul_dvd_of_dvd_of_dvd (by decide) d1 d2;have:=Nat.le_of_dvd (qgcz hp) d3;lia
theorem qztz:∀ds G Q,qddz ds G Q->qloz (endsOf Q) (start3 ["pen","some"] ds) G:=by
 rintro ds G Q ⟨p,rfl,hp,q⟩;refine⟨p,101,rfl,hp,⟨by decide,quz (by decide) (by decide)⟩,fun r1 a1 b1=>⟨p,103,rfl,hp,⟨by decide,quz (by decide) (by decide)⟩,fun r2 a2 b2=>⟨p,997,rfl,hp,⟨by decide,quz (by decide) (by decide)⟩,fun r3 a3 b3=>?_⟩⟩⟩;intro q0 G0 hq0;refine⟨p,3,rfl,hq0.sub _ _ hp,⟨by decide,quz (by decide) (by decide)⟩,fun r a b=>⟨_,hq0.at_,fun p1 G1 hp1=>?_⟩⟩;have ec:cut3 [.tup [.int 101,.int r1],.tup [.int 103,.int r2],.tup [.int 997,.int r3],.tup [.int 2,.int 1]] none (some (2+r))=(cutG [(101,r1),(103,r2),(997,r3),(2,1)] none (some (2+r))).map cD:=qcxz cD [(101,r1),(103,r2),(997,r3),(2,1)] _ _;rw[ec] at hp1;obtain⟨k,hk⟩:∃k:Nat,2+r=((k+2:Nat):Int):=⟨r.toNat,by lia⟩;rw[hk,qf2z] at hp1;have hk2:k≤2:=by lia
 have hl:([(101,r1),(103,r2),(997,r3),(2,1)]:List Clk).length=4:=rfl;refine⟨_,qkjz hp1.at_,by rw[List.length_map,List.length_take];lia,qkiz,fun p2 mss G2 hp2 hpm hr=>?_⟩;have nd:([(101,r1),(103,r2),(997,r3),(2,1)]:List Clk).Nodup:=by simp
 obtain⟨cs',rfl,hmem,hr,hlen⟩:=qwiz hpm (List.Nodup.sublist (List.take_sublist (k+2) _) nd) hr;rw[List.length_take] at hlen;rw[qf5z] at hp2;have ok:ClOk 1000 cs':=fun c hc=>by
  have:=List.mem_of_mem_take ((hmem c).mp hc);simp at this;rcases this with rfl|rfl|rfl|rfl
  ·exact⟨⟨(by decide:(0:Int)<101),a1,b1⟩,(by decide:(101:Int)≤1000)⟩
  ·exact⟨⟨(by decide:(0:Int)<103),a2,b2⟩,(by decide:(103:Int)≤1000)⟩
  ·exact⟨⟨(by decide:(0:Int)<997),a3,b3⟩,(by decide:(997:Int)≤1000)⟩
  ·exact⟨⟨by decide,by decide,by decide⟩,by decide⟩
 refine⟨_,hp2.at_,qapz ((hq0.sub.trans hp1.sub).trans hp2.sub) (q cs' ⟨ok,by lia⟩ (qzsz (a:=r1) (b:=r2) ((hmem _).mpr (by simp[List.take])) ((hmem _).mpr (by simp[List.take])) fun z hz=>(ok z hz).1.1))⟩
def qdez:Sp3:=fun ds G Q=>∃cs:List Clk,ds=[csD cs]/\ClS cs/\rnd cs≤10000/\∀p G',New G p (.lst ((missL cs).map nD)) G'->Q (.obj p) G'
def qlpz:TS3:=sRet (eComp ["number"] [0] (iRng1 (aCons (eCall qa5z (aCons (eVar 0) (aNil))) (aNil))) (hName 0) (eTest (eOp (rEq3 false) (eCall qc0z (aCons (eVar 1) (aCons (eVar 0) (aNil)))) (eLst (aNil)))) (eVar 0))
theorem qlqz(as:List Clk):(Dat.D.lst (as.map cX)).eqb (.lst [])=(as.length==0):=by
 rw[show (Dat.D.lst [])=.lst (([]:List Clk).map cX) from rfl,qwmz];cases as<;>simp
theorem qzuz:∀ds G Q,qdez ds G Q->qlpz (endsOf Q) (start3 ["clocks"] ds) G:=by
 rintro ds G Q ⟨cs,rfl,hs,hn,q⟩;refine⟨cs,rfl,hs.1,hs.2,⟨by lia,by lia⟩,?_,?_⟩
 ·show (rngL 0 (((rnd cs:Nat):Int)).toNat).length≤sizeLine;rw[qbkz,Int.toNat_natCast];exact Nat.le_trans hn (by decide)
 show compGo _ _ _ _ _ (rngL 0 (((rnd cs:Nat):Int)).toNat) _ _ _;rw[Int.toNat_natCast,rng0];refine qehz (fun ds acc τ G'=>Sub G G'/\(∃xs ys:List Nat,ds=ys.map nD/\acc=xs.map nD/\xs++(ys.filter fun x=>cntN cs x==0)=missL cs)/\∃x,τ=[x,some (csD cs)]) (fun _ _ _ _ _=>trivial) ?_ ?_ _ _ _ _ ⟨Sub.refl _,⟨[],List.range (rnd cs),rfl,rfl,rfl⟩,none,rfl⟩
 ·rintro d ds acc τ G1 K1 K2 ⟨s1,⟨xs,ys,e1,rfl,hm⟩,x,rfl⟩ g1 g2;cases ys with
  |nil=>cases e1
  |cons y ys=>
   cases e1;refine⟨cs,(y:Int),rfl,fun c hc=>(hs.1 c hc).1.1,by have:=hs.2;lia,fun p2 G2 n2 p3 G3 n3=>?_⟩;refine⟨_,_,qbez (n3.sub _ _ n2.at_) (qf1z _),qbez n3.at_ rfl,qkdz _,fun h=>?_,fun h=>?_⟩
   ·have h':(Dat.D.lst ((cs.filter (rg2 (y:Int))).map cX)).eqb (.lst [])=true:=h;rw[qlqz,cnt2 hs.1] at h';rw[List.filter_cons,if_pos h'] at hm;exact g1 _ _ _ ⟨(s1.trans n2.sub).trans n3.sub,⟨xs++[y],ys,rfl,by simp,by rw[←hm];simp⟩,_,rfl⟩
   ·have h':(Dat.D.lst ((cs.filter (rg2 (y:Int))).map cX)).eqb (.lst [])=false:=h;rw[qlqz,cnt2 hs.1] at h';rw[List.filter_cons,if_neg (by rw[h'];decide)] at hm;exact g2 _ _ ⟨(s1.trans n2.sub).trans n3.sub,⟨xs,ys,rfl,rfl,hm⟩,_,rfl⟩
 ·rintro acc τ G1 ⟨s1,⟨xs,ys,e1,rfl,hm⟩,x,rfl⟩;have e0:ys=[]:=by
   cases ys with
   |nil=>rfl
   |cons x xs=>cases e1
  subst e0;intro p2 G2 n2;have hm':xs=missL cs:=by simpa using hm
  rw[hm'] at n2;exact qhz (q _ _ ⟨s1.of_none n2.non,s1.trans n2.sub,n2.at_⟩)
theorem qlrz(xs:List Nat):(Dat.D.lst (xs.map fun x=>Dat.D.int (x:Nat))).dep≤50:=by
 show Dat.deps _+1≤50;rw[qllz];decide
end My
namespace My
open PySem L2 L3
def LF(n k:Nat):Prop:=k∣n/\2≤k/\∀j,2≤j->j<k->¬j∣n
theorem LF.uniq{n k j:Nat}(h:LF n k)(g:LF n j):k=j:=by
 rcases Nat.lt_trichotomy k j with z|z|z
 ·exact absurd h.1 (g.2.2 k h.2.1 z)
 ·exact z
 ·exact absurd g.1 (h.2.2 j g.2.1 z)
def qdfz:Sp3:=fun ds G Q=>∃n:Nat,ds=[.int n]/\2≤n/\n≤10000/\∀k:Nat,LF n k->Q (.int k) G
abbrev qlsz:=qx4z
theorem qzvz:∀ds G Q,qdfz ds G Q->qlsz (endsOf Q) (start3 ["number","factor"] ds) G:=by
 rintro ds G Q ⟨n,rfl,h1,h2,q⟩;refine⟨fun m τ G'=>G'=G/\∃f:Nat,τ=[some (.int n),some (.int f)]/\2≤f/\f≤n+2/\m+f=n+2/\∀j,2≤j->j<f->¬j∣n,⟨n,rfl,2,rfl,Nat.le_refl _,by lia,rfl,fun j a b=>by lia⟩,?_⟩;rintro m τ G' ⟨rfl,f,rfl,f1,f2,hm,hj⟩;have bf:Big (f:Int):=quz (by lia) (by lia);refine⟨⟨bf,bf⟩,fun h=>?_,fun h=>qhz (q n ⟨Nat.dvd_refl n,h1,fun j j1 j2 hd=>?_⟩)⟩
 ·have h':(f:Int)*(f:Int)≤(n:Int):=of_decide_eq_true h;have hfn:f≤n:=by
   have e1:f*1≤f*f:=Nat.mul_le_mul_left f (by lia);have e2:f*f≤n:=by exact_mod_cast h'
   lia
  refine⟨show (0:Int)<(f:Int) by lia,_,_,rfl,rfl,Nat.zero_le _,fun h3=>?_,fun h3=>?_⟩
  ·have h3':((n:Int)%(f:Int)==0)=true:=h3;have hd:f∣n:=Int.natCast_dvd_natCast.mp (Int.dvd_of_emod_eq_zero (by simpa using h3'));exact qhz (q f ⟨hd,f1,hj⟩)
  ·have h3':((n:Int)%(f:Int)==0)=false:=h3;refine⟨m-1,by lia,rfl,f+1,by rfl,by lia,by lia,by lia,fun j a b hd=>?_⟩;rcases Nat.lt_or_ge j f with z|z
   ·exact hj j a z hd
   ·have e:j=f:=by lia
    rw[e] at hd;rw[Int.emod_eq_zero_of_dvd (Int.natCast_dvd_natCast.mpr hd)] at h3';cases h3'
 ·have h':¬(f:Int)*(f:Int)≤(n:Int):=of_decide_eq_false h;have h':n<f*f:=by
   have:¬f*f≤n:=fun z=>h' (by exact_mod_cast z);lia
  obtain⟨t,ht⟩:=hd;rcases Nat.lt_or_ge j f with z|z
  ·exact hj j j1 z ⟨t,ht⟩
  ·have t1:t<f:=by
    refine Nat.lt_of_not_le fun w=>?_;have:=Nat.mul_le_mul z w;lia
   have t2:2≤t:=by
    rcases t with _|_|t
    ·lia
    ·lia
    ·lia
   exact hj t t2 t1 ⟨j,by rw[ht,Nat.mul_comm]⟩
def Told:Nat->List Clk->Clk->Nat->D->Prop
 |0,_,_,_,_=>False
 |n+1,cs,c,many,d=>(∃(i:Nat) (z:Clk),d=.tup [.str "leaf",nD i]/\cs[i]?=some z/\insB c z=true/\∀j y,j<i->cs[j]?=some y->insB c y=false) ∨
  ((∀y∈cs,insB c y=false)/\∃(k:Nat) (ps:List D),d=.tup [.str "split",.int k,.tup ps]/\LF many k/\ps.length=k/\∀z∈ps.zip (parts c k),Told n cs z.2 (many / k) z.1)
theorem zmem{α β:Type}{xs:List α}{ys:List β}{i:Nat}(h1:i<xs.length)(h2:i<ys.length):(xs[i],ys[i])∈xs.zip ys:=by
 have:=List.getElem_mem (l:=xs.zip ys) (n:=i) (by rw[List.length_zip];lia);rwa [List.getElem_zip] at this
theorem Told.uniq:∀{m:Nat} {cs:List Clk} {c:Clk} {many:Nat} {d e:D},Told m cs c many d->Told m cs c many e->d=e
 |0,_,_,_,_,_,h,_=>h.elim
 |m+1,cs,c,many,d,e,h,g=>by
  rcases h with⟨i,z,rfl,e1,e2,e3⟩|⟨hn,k,ps,rfl,hk,hl,hp⟩
  ·rcases g with⟨j,y,rfl,f1,f2,f3⟩|⟨gn,_⟩
   ·have:i=j:=by
     rcases Nat.lt_trichotomy i j with w|w|w
     ·have:=f3 i z w e1;rw[e2] at this;cases this
     ·exact w
     ·have:=e3 j y w f1;rw[f2] at this;cases this
    rw[this]
   ·have:=gn z (List.mem_of_getElem? e1);rw[e2] at this;cases this
  ·rcases g with⟨j,y,rfl,f1,f2,f3⟩|⟨gn,k',qs,rfl,gk,gl,gp⟩
   ·have:=hn y (List.mem_of_getElem? f1);rw[f2] at this;cases this
   ·have ek:=hk.uniq gk;subst ek;have:ps=qs:=by
     refine List.ext_getElem (by lia) fun i h1 h2=>?_;have l:i<(parts c k).length:=by rw[qaqz];lia
     exact Told.uniq (hp _ (zmem h1 l)) (gp _ (zmem h2 l))
    rw[this]
theorem dats3{m:Nat}:∀{ps:List D},(∀p∈ps,∃u,toDat0 p=some u/\u.dep≤m/\u.eqb u=true)->∃us,toDats0 ps=some us/\Dat.deps us≤m/\Dat.eqbs us us=true
 |[],_=>⟨[],rfl,Nat.zero_le _,by simp[Dat.eqbs]⟩
 |p::ps,h=>by
  obtain⟨u,e1,h1,g1⟩:=h p List.mem_cons_self;obtain⟨us,e2,h2,g2⟩:=dats3 fun q hq=>h q (List.mem_cons_of_mem _ hq);refine⟨u::us,?_,Nat.max_le.mpr ⟨h1,h2⟩,?_⟩
  ·rw[toDats0,e1,e2]
  ·simp[Dat.eqbs,g1,g2]
theorem Told.dat:∀{m:Nat} {cs:List Clk} {c:Clk} {many:Nat} {d:D},Told m cs c many d->∃u,toDat0 d=some u/\u.dep≤2*m/\u.eqb u=true
 |0,_,_,_,_,h=>h.elim
 |m+1,cs,c,many,d,h=>by
  rcases h with⟨i,z,rfl,e1,e2,e3⟩|⟨hn,k,ps,rfl,hk,hl,hp⟩
  ·refine⟨.tup [.str "leaf",.int (i:Nat)],rfl,?_,by simp[Dat.D.eqb,Dat.eqbs]⟩;show max 0 (max 0 0)+1≤2*(m+1);lia
  ·obtain⟨us,e,h3,g3⟩:=dats3 (ps:=ps) (m:=2*m) fun p hq=>by
    obtain⟨i,hi,rfl⟩:=List.getElem_of_mem hq;exact Told.dat (hp _ (zmem hi (by rw[qaqz];lia)))
   refine⟨.tup [.str "split",.int k,.tup us],?_,?_,by simp[Dat.D.eqb,Dat.eqbs,g3]⟩
   ·rw[toDat0,toDats0,toDats0,toDats0,toDats0,toDat0,toDat0,toDat0,e]
   ·show max 0 (max 0 (max (Dat.deps us+1) 0))+1≤2*(m+1);lia
def qbgz(n:Nat):Sp3:=fun ds G Q=>∃(cs:List Clk) (c:Clk) (many m:Nat),ds=[csD cs,cD c,.int many]/\m≤n/\ForOk m cs c many/\∀d G',Sub G G'->GoodP m cs c d->Told m cs c many d->Q d G'
theorem qzwz:∀ds G Q,¬qbgz 0 ds G Q:=by
 rintro ds G Q ⟨_,_,_,m,_,hm,F,_⟩;have e:m=0:=by lia
 subst e;have:=F.m1;have:=F.m2;lia
def qzxz(n:Nat):TS3:=sSeq (sAsg (eComp ["part"] [0,2,5] (iSeq (eCall qa6z (aCons (eVar 1) (aCons (eVar 5) (aNil))))) (hName 0) (tNoTest3) (eCall (qbgz n) (aCons (eVar 1) (aCons (eVar 0) (aCons (eOp rDiv3 (eVar 2) (eVar 3)) (aNil)))))) (hName 6)) (qylz n)
def qzyz(n:Nat):TS3:=sSeq (sAsg (eCall qdfz (aCons (eVar 2) (aNil))) (hName 5)) (qzxz n)
def qltz(n:Nat):TS3:=sSeq (sFor (iEnum (aCons (eVar 0) (aNil))) (hTup 2 (hCons (hName 3) (hCons (hName 4) (hNil)))) ((qykz n))) (qzyz n)
theorem qzzz{cs:List Clk}{s:Nat}{z:Nat×Clk}{zs:List (Nat×Clk)}(h:z::zs=((List.range cs.length).zip cs).drop s):z.1=s/\cs[s]?=some z.2/\zs=((List.range cs.length).zip cs).drop (s+1):=by
 have hl:s<((List.range cs.length).zip cs).length:=by
  refine Nat.lt_of_not_le fun w=>?_;rw[List.drop_eq_nil_of_le w] at h;cases h
 rw[List.drop_eq_getElem_cons hl,List.getElem_zip] at h;cases h;rw[List.length_zip,List.length_range] at hl;exact⟨List.getElem_range _,List.getElem?_eq_getElem (by lia),rfl⟩
theorem qz0z{n:Nat}{cs:List Clk}{c:Clk}{many:Nat}(F:ForOk n cs c many)(hno:∀y∈cs,insB c y=false):2≤many:=by
 have hm1:=F.m1;refine Classical.byContradiction fun hlt=>?_;have e1:many=1:=by lia
 have ea:=F.all;rw[e1] at ea;obtain⟨z,hz,hr⟩:=F.cov c.2.toNat;have v2:=F.v.2.1;rw[Int.toNat_of_nonneg v2] at hr;have hd:=qelz hz;have hz1:=(F.ok z hz).1.1;have:=hno z hz;have hs:insB c z=true:=by
  show (c.1%z.1==0&&rg c.2 z)=true;have:z.1∣c.1:=by
   have h3:=Int.natCast_dvd_natCast.mpr hd;rw[Int.toNat_of_nonneg (by lia),←ea] at h3;simpa using h3
  rw[Int.emod_eq_zero_of_dvd this,hr];rfl
 rw[hs] at this;cases this
theorem qz1z(n:Nat):∀ds G Q,qbgz (n+1) ds G Q->qltz n (endsOf Q) (start3 ["clocks","clock","many","place","other","k","papers"] ds) G:=by
 rintro ds G Q ⟨cs,c,many,m,rfl,hmn,F,q⟩;obtain⟨n',rfl⟩:∃n',m=n'+1:=by
  cases m with
  |zero=>
   have:=F.m1;have:=F.m2;lia
  |succ m=>exact⟨m,rfl⟩
 obtain⟨c1,m1⟩:=F.le;have v1:=F.v.1;have hb:Big c.1:=quz (by lia) (by lia);have hlen:=F.len;refine⟨cs.map cD,rfl,?_⟩;rw[qwoz cD cs];refine qarz (fun ds τ G'=>G'=G/\∃(zs:List (Nat×Clk)) (x3 x4:Option D) (s:Nat),ds=zs.map (fun p=>D.tup [nD p.1,cD p.2])/\τ=[some (csD cs),some (cD c),some (.int many),x3,x4,none,none]/\zs=((List.range cs.length).zip cs).drop s/\∀j y,j<s->cs[j]?=some y->insB c y=false) (fun _ _ _ _=>rfl) ?_ ?_ _ _ _ ⟨rfl,_,none,none,0,rfl,rfl,rfl,fun j y h=>absurd h (by lia)⟩
 ·rintro d ds τ G' N ⟨eg,zs,x3,x4,s,e,rfl,hz,hy⟩ hN;cases zs with
  |nil=>cases e
  |cons z zs=>
   cases e;obtain⟨z1,z2,z3⟩:=qzzz hz;have hm:=List.mem_of_getElem? z2;refine⟨rfl,c,z.2,rfl,(F.ok _ hm).1.1,fun h=>?_,fun h=>?_⟩
   ·rw[eg,z1];exact qhz (q _ _ (Sub.refl _) (qymz (by lia) hb z2 h) (.inl ⟨s,z.2,rfl,z2,h,hy⟩))
   ·refine hN _ _ ⟨eg,zs,_,_,s+1,rfl,rfl,z3,fun j y hj ej=>?_⟩;rcases Nat.lt_or_ge j s with w|w
    ·exact hy j y w ej
    ·have:j=s:=by lia
     rw[this,z2] at ej;cases ej;exact h
 ·rintro τ G' ⟨rfl,zs,x3,x4,s,e,rfl,hz,hy⟩;have e0:zs=[]:=by cases zs with
   |nil=>rfl
   |cons z zs=>cases e
  subst e0;have hs:cs.length≤s:=by
   have:=congrArg List.length hz;rw[List.length_drop,List.length_zip,List.length_range] at this;have:0=min cs.length cs.length-s:=this;lia
  have hno:∀y∈cs,insB c y=false:=fun y hy'=>by
   obtain⟨i,hi,rfl⟩:=List.getElem_of_mem hy';exact hy i _ (by lia) (List.getElem?_eq_getElem hi)
  have hm1:=F.m1;have many2:=qz0z F hno;refine⟨many,rfl,many2,m1,fun k hlf=>?_⟩;have hk:=hlf.1;have k2:=hlf.2.1;have km:k≤many:=Nat.le_of_dvd hm1 hk;refine⟨c,k,rfl,by lia,hb,fun p2 G2 n2=>⟨_,n2.at_,by show ((parts c k).map cD).length≤sizeLine;rw[List.length_map,qaqz];exact Nat.le_trans (show k≤10000 by lia) (by decide),?_⟩⟩;refine qehz (fun ds acc τ G3=>Sub G2 G3/\(∃x,τ=[x,some (csD cs),some (.int many),some (.int k)])/\∃dn zs:List Clk,ds=zs.map cD/\dn++zs=parts c k/\acc.length=dn.length/\∀z∈acc.zip dn,GoodP n' cs z.2 z.1/\Told n' cs z.2 (many / k) z.1) (fun _ _ _ _ h=>h.1 _ _ n2.at_) ?_ ?_ _ _ _ _ ⟨Sub.refl _,⟨_,rfl⟩,[],parts c k,rfl,rfl,rfl,nofun⟩
  ·rintro d ds acc τ G3 K1 K2 ⟨s3,⟨x,rfl⟩,dn,zs,e1,e2,hl,ha⟩ h1 h2;cases zs with
   |nil=>cases e1
   |cons p zs=>
    cases e1;have hp:p∈parts c k:=by rw[←e2];simp
    refine⟨fun _=>⟨⟨show (0:Int)<(k:Int) by lia,quz (by lia) (by lia)⟩,cs,p,many / k,n',?_,by lia,F.part k2 hk hp,fun d G4 s4 g4 t4=>h1 _ _ _ ⟨s3.trans s4,⟨_,rfl⟩,dn++[p],zs,rfl,by rw[←e2];simp,by simp[hl],fun z hz=>?_⟩⟩,nofun⟩
    ·show [csD cs,cD p,D.int ((many:Int) / (k:Int))]=_;rw[Int.natCast_ediv]
    ·rw[List.zip_append hl] at hz;rcases List.mem_append.mp hz with hz|hz
     ·exact ha z hz
     ·have:z=(d,p):=by simpa using hz
      rw[this];exact⟨g4,t4⟩
  ·rintro acc τ G3 ⟨s3,⟨x,rfl⟩,dn,zs,e1,e2,hl,ha⟩ p4 G4 n4;have e0:zs=[]:=by cases zs with
    |nil=>rfl
    |cons z zs=>cases e1
   subst e0;rw[List.append_nil] at e2;rw[e2] at hl ha;rw[qaqz] at hl;exact⟨_,n4.at_,qhz (q _ _ (n2.sub.trans (s3.trans n4.sub)) (qynz hb k2 (by lia) hl fun z hz=>(ha z hz).1) (.inr ⟨hno,k,acc,rfl,hlf,hl,fun z hz=>(ha z hz).2⟩))⟩
theorem qluz{cs:List Clk}(hs:ClS cs)(hn:rnd cs≤10000)(hc:Cov cs):ForOk 14 cs (1,0) (rnd cs):=by
 have h3:=qgcz (cs:=cs) fun z hz=>(hs.1 z hz).1.1;refine⟨hs.1,hs.2,hn,hc,⟨by decide,by decide,by decide⟩,?_,h3,Nat.lt_of_le_of_lt hn (by decide)⟩;show (1:Int)*_=_;rw[Int.one_mul]
def qb3z:SpX:=fun ds Q E=>∃cs:List Clk,ds=[csD cs]/\ClS cs/\(rnd cs≤10000->(¬Cov cs->Q .non noG)/\∀d,Cov cs->GoodP 14 cs (1,0) d->Told 14 cs (1,0) (rnd cs) d->Q d noG)/\(10000<rnd cs->grE E (rnd cs))
def qz2z(E:E3):TS3:=sRet (eCall (qbgz 40) (aCons (eVar 0) (aCons (eTup (aCons (eC (.int 1)) (aCons (eC (.int 0)) (aNil)))) (aCons (eCall qcgz (aCons (eVar 0) (aNil))) (aNil)))))
def qlvz(E:E3):TS3:=sSeq (sIf (eNot (eTest (eCallX qdcz E (aCons (eVar 0) (aNil))))) (sRet (eC .non)) (sNext)) (qz2z E)
theorem qz3z:∀ds Q E,qb3z ds Q E->qlvz E (endsOf Q) (start3 ["clocks"] ds) noG:=by
 rintro ds Q E ⟨cs,rfl,hs,q1,q2⟩;have hpos:∀z∈cs,0<z.1:=fun z hz=>(hs.1 z hz).1.1;have hci:=qldz hpos;refine⟨cs,rfl,hs,fun hn G2 j=>⟨fun h=>?_,fun h=>?_⟩,q2⟩
 ·have h':(fmO cs).isNone=false:=by simpa using h
  refine qapz (qcjz _) ((q1 hn).1 fun hc=>?_);rw[hci.mpr hc] at h';cases h'
 ·have h':fmO cs=none:=by
   cases e:fmO cs with
   |none=>rfl
   |some x=>
    rw[e] at h;cases h
  have hc:=hci.mp h';have h1:=hs.2;exact⟨cs,rfl,hs.1,by lia,cs,(1,0),rnd cs,14,rfl,by decide,qluz hs hn hc,fun d G' s g t=>qapz (qcjz _) ((q1 hn).2 d hc g t)⟩
def qdgz:Sp3:=fun ds G Q=>∃a b:Clk,ds=[cD a,cD b]/\Valid b/\insB a b=true/\Q (.bl true) G
def qlwz:TS3:=sRet (eAndV (eOp (rEq3 false) (eOp rMod3 (eOp rIx3 (eVar 0) (eC (.int 0))) (eOp rIx3 (eVar 1) (eC (.int 0)))) (eC (.int 0))) (eOp (rEq3 false) (eOp rMod3 (eOp rSub3 (eOp rIx3 (eVar 0) (eC (.int 1))) (eOp rIx3 (eVar 1) (eC (.int 1)))) (eOp rIx3 (eVar 1) (eC (.int 0)))) (eC (.int 0))))
theorem qz4z:∀ds G Q,qdgz ds G Q->qlwz (endsOf Q) (start3 ["clock","other"] ds) G:=by
 rintro ds G Q ⟨a,b,rfl,hv,hi,q⟩;have hi:(a.1%b.1==0&&rg a.2 b)=true:=hi;rw[Bool.and_eq_true] at hi;obtain⟨i1,i2⟩:=hi;have i3:rg2 a.2 b=true:=by
  unfold rg at i2;unfold rg2;rw[beq_iff_eq] at i2 ⊢;rw[←i2,Int.sub_emod,Int.emod_emod,Int.sub_self,Int.zero_emod]
 refine⟨_,rfl,_,rfl,hv.1,_,_,rfl,rfl,Nat.zero_le _,fun _=>⟨_,rfl,_,rfl,_,rfl,hv.1,_,_,rfl,rfl,Nat.zero_le _,?_⟩,fun h=>?_⟩
 ·show (endsOf Q).rt (.bl ((a.2-b.2)%b.1==0)) G;have i3:((a.2-b.2)%b.1==0)=true:=i3;rw[i3];exact qhz q
 ·have h':(a.1%b.1==0)=false:=h;rw[i1] at h';cases h'
def qbhz(n:Nat):Sp3:=fun ds G Q=>∃(cs:List Clk) (c:Clk) (d:D) (m many:Nat),ds=[csD cs,cD c,d]/\m≤n/\ForOk m cs c many/\Told m cs c many d/\Q (.bl true) G
theorem qz5z:∀ds G Q,¬qbhz 0 ds G Q:=by
 rintro ds G Q ⟨_,_,_,m,_,_,hm,_,T,_⟩;have e:m=0:=by lia
 subst e;exact T
def qz6z(n:Nat):TS3:=sRet (eCall qdgz (aCons (eVar 1) (aCons (eOp rIx3 (eVar 0) (eOp rIx3 (eVar 2) (eC (.int 1)))) (aNil))))
def qz7z(n:Nat):TS3:=sRet (eCB qd2z (aCons (eComp ["k"] [0,3,2] (iRng1 (aCons (eCB q0z (aCons (eVar 3) (aNil))) (aNil))) (hName 0) (tNoTest3) (eCall (qbhz n) (aCons (eVar 1) (aCons (eOp rIx3 (eVar 2) (eVar 0)) (aCons (eOp rIx3 (eOp rIx3 (eVar 3) (eC (.int 2))) (eVar 0)) (aNil)))))) (aNil)))
def qz8z(n:Nat):TS3:=sSeq (sAsg (eCall qeiz (aCons (eVar 1) (aCons (eOp rIx3 (eVar 2) (eC (.int 1))) (aNil)))) (hName 3)) (qz7z n)
def qz9z(n:Nat):TS3:=sSeq (sIf (eOr (eNot (eTest (eInst "tuple" (eOp rIx3 (eVar 2) (eC (.int 2)))))) (eTest (eOp (rEq3 true) (eCB q0z (aCons (eOp rIx3 (eVar 2) (eC (.int 2))) (aNil))) (eOp rIx3 (eVar 2) (eC (.int 1)))))) (sRet (eC (.bl false))) (sNext)) (qz8z n)
def q0az(n:Nat):TS3:=sSeq (sIf (eOr (eTest (eOp (rEq3 true) (eOp rIx3 (eVar 2) (eC (.int 0))) (eC (.str "split")))) (eOr (eTest (eOp (rEq3 true) (eCB q0z (aCons (eVar 2) (aNil))) (eC (.int 3)))) (eOr (eNot (eTest (eCall qbdz (aCons (eOp rIx3 (eVar 2) (eC (.int 1))) (aNil))))) (eTest (eOp rLtT3 (eOp rIx3 (eVar 2) (eC (.int 1))) (eC (.int 2))))))) (sRet (eC (.bl false))) (sNext)) (qz9z n)
def q0bz(n:Nat):TS3:=sSeq (sIf (eTest (eOp (rEq3 false) (eOp rIx3 (eVar 2) (eC (.int 0))) (eC (.str "leaf")))) (sSeq (sIf (eOr (eTest (eOp (rEq3 true) (eCB q0z (aCons (eVar 2) (aNil))) (eC (.int 2)))) (eOr (eNot (eTest (eCall qbdz (aCons (eOp rIx3 (eVar 2) (eC (.int 1))) (aNil))))) (eTest (eInRng1 true (eOp rIx3 (eVar 2) (eC (.int 1))) (aCons (eCB q0z (aCons (eVar 0) (aNil))) (aNil)))))) (sRet (eC (.bl false))) (sNext)) (qz6z n)) (sNext)) (q0az n)
def qlxz(n:Nat):TS3:=sSeq (sIf (eOr (eNot (eTest (eInst "tuple" (eVar 2)))) (eOr (eTest (eOp rLtT3 (eCB q0z (aCons (eVar 2) (aNil))) (eC (.int 2)))) (eNot (eTest (eInst "str" (eOp rIx3 (eVar 2) (eC (.int 0)))))))) (sRet (eC (.bl false))) (sNext)) (q0bz n)
theorem q0cz(n:Nat):∀ds G Q,qbhz (n+1) ds G Q->qlxz n (endsOf Q) (start3 ["clocks","clock","thing","parts"] ds) G:=by
 rintro ds G Q ⟨cs,c,d,m,many,rfl,hmn,F,T,q⟩;obtain⟨n',rfl⟩:∃n',m=n'+1:=by
  cases m with
  |zero=>exact T.elim
  |succ m=>exact⟨m,rfl⟩
 obtain⟨c1,m1⟩:=F.le;have v1:=F.v.1;have hb:Big c.1:=quz (by lia) (by lia);have hlen:=F.len;rcases T with⟨i,z,rfl,e1,e2,e3⟩|⟨hn,k,ps,rfl,hk,hl,hp⟩
 ·have hi:i<cs.length:=by
   rcases Nat.lt_or_ge i cs.length with z|z
   ·exact z
   ·rw[List.getElem?_eq_none_iff.mpr z] at e1;cases e1
  have hm:=List.mem_of_getElem? e1;refine⟨nofun,fun _=>⟨nofun,fun _=>⟨_,rfl,nofun,fun _=>⟨_,rfl,_,_,rfl,rfl,Nat.zero_le _,fun _=>⟨_,_,rfl,rfl,Nat.zero_le _,nofun,fun _=>⟨_,rfl,trivial,nofun,fun _=>⟨_,rfl,fun h=>?_,fun _=>?_⟩⟩⟩,nofun⟩⟩⟩⟩
  ·have h':(!(decide ((0:Int)≤(i:Int))&&decide ((i:Int)<(((cs.map cD).length:Nat):Int))))=true:=h;rw[List.length_map,decide_eq_true (by lia),decide_eq_true (by lia)] at h';cases h'
  ·exact⟨_,rfl,cD z,qbjz (by rw[List.getElem?_map,e1];rfl),c,z,rfl,(F.ok z hm).1,e2,qhz q⟩
 ·have k2:=hk.2.1;have hk10:k≤10000:=by
   have:=Nat.le_of_dvd F.m1 hk.1;lia
  refine⟨nofun,fun _=>⟨nofun,fun _=>⟨_,rfl,nofun,fun _=>⟨_,rfl,_,_,rfl,rfl,Nat.zero_le _,nofun,fun _=>⟨_,rfl,_,_,rfl,rfl,Nat.zero_le _,nofun,fun _=>⟨_,_,rfl,rfl,Nat.zero_le _,nofun,fun _=>⟨_,rfl,trivial,nofun,fun _=>⟨_,rfl,fun h=>?_,fun _=>?_⟩⟩⟩⟩⟩⟩⟩⟩
  ·have:(k:Int)<2:=of_decide_eq_true h;lia
  refine⟨_,rfl,nofun,fun _=>⟨_,rfl,_,rfl,_,_,rfl,rfl,Nat.zero_le _,fun h=>?_,fun _=>?_⟩⟩
  ·have h':(!(((ps.length:Nat):Int)==(k:Int)))=true:=h;rw[hl] at h';simp at h'
  refine⟨_,rfl,c,k,rfl,hk10,hb,fun p2 G2 n2=>⟨_,n2.at_,?_⟩⟩;have lp:((parts c k).map cD).length=k:=by rw[List.length_map,qaqz]
  refine⟨⟨by rw[lp];lia,by rw[lp];lia⟩,?_,?_⟩
  ·show (rngL 0 ((((parts c k).map cD).length:Nat):Int).toNat).length≤sizeLine;rw[qbkz,Int.toNat_natCast,lp];exact Nat.le_trans hk10 (by decide)
  show compGo _ _ _ _ _ (rngL 0 ((((parts c k).map cD).length:Nat):Int).toNat) _ _ _;rw[Int.toNat_natCast,lp,rng0];refine qb1z (fun τ=>∃x,τ=[x,some (csD cs),some (.obj p2),some (.tup [.str "split",.int k,.tup ps])]) nD (fun _=>true) (fun _=>.bl true) (G:=G2) trivial (List.range k) [] _ ⟨none,rfl⟩ ?_ ?_
  ·rintro t hm τ K1 K2 ⟨x,rfl⟩ h1 h2;have ht:t<k:=List.mem_range.mp hm;have l1:t<ps.length:=by lia
   have l2:t<(parts c k).length:=by rw[qaqz];lia
   exact⟨fun _=>⟨_,cD (parts c k)[t],n2.at_,qbjz (by rw[List.getElem?_map,List.getElem?_eq_getElem l2];rfl),_,rfl,ps[t],qbjz (List.getElem?_eq_getElem l1),cs,(parts c k)[t],ps[t],n',many / k,rfl,by lia,F.part k2 hk.1 (List.getElem_mem l2),hp _ (zmem l1 l2),h1 rfl _ ⟨_,rfl⟩⟩,nofun⟩
  ·intro p4 G4 n4;rw[filter_all,List.nil_append] at n4;refine⟨_,_,n4.at_,qkxz (fun _=>true) _,?_⟩;have e:((List.range k).map fun _=>true).all id=true:=by simp
   rw[e];exact qapz (n2.sub.trans n4.sub) q
theorem q0dz{cs:List Clk}(hs:ClS cs):(missL cs).isEmpty=true↔Cov cs:=by
 rw[←qldz fun z hz=>(hs.1 z hz).1.1,List.isEmpty_iff];unfold missL fmO;rw[List.filter_eq_nil_iff,List.find?_eq_none]
def qb4z:Sp3:=fun ds G Q=>∃cs:List Clk,ds=[csD cs]/\ClS cs/\rnd cs≤10000/\Q (.bl true) G
def q0ez:TS3:=sRet (eAndV (eCall (qbhz 40) (aCons (eVar 0) (aCons (eTup (aCons (eC (.int 1)) (aCons (eC (.int 0)) (aNil)))) (aCons (eVar 1) (aNil))))) (eOp rIsB3 (eCall qc6z (aCons (eVar 0) (aCons (eVar 1) (aNil)))) (eC (.bl true))))
def q0fz:TS3:=sSeq (sIf (eTest (eOp (rEq3 true) (eCall qdez (aCons (eVar 0) (aNil))) (eLst (aNil)))) (sRet (eOp (rIs3 false) (eVar 1) (eC .non))) (sNext)) q0ez
def q0gz:TS3:=sSeq (sIf (eTest (eOp (rEq3 true) (eCallX qb3z noE (aCons (eVar 0) (aNil))) (eVar 1))) (sRet (eC (.bl false))) (sNext)) q0fz
def qlyz:TS3:=sSeq (sAsg (eCallX qb3z noE (aCons (eVar 0) (aNil))) (hName 1)) q0gz
theorem q0hz:∀ds G Q,qb4z ds G Q->qlyz (endsOf Q) (start3 ["clocks","found"] ds) G:=by
 rintro ds G Q ⟨cs,rfl,hs,hn,q⟩;have no:∀{P:Prop},10000<rnd cs->P:=fun h=>absurd h (by lia);have mc:=q0dz hs;have me:((missL cs).map fun x:Nat=>Dat.D.int (x:Nat)).isEmpty=(missL cs).isEmpty:=by cases missL cs<;>rfl
 refine⟨cs,rfl,hs,fun _=>⟨fun hc G2 j2=>?_,fun d hc g t G2 j2=>?_⟩,no⟩
 ·refine⟨cs,rfl,hs,fun _=>⟨fun _ G3 j3=>?_,fun d hc'=>absurd hc' hc⟩,no⟩;refine⟨_,_,rfl,rfl,Nat.zero_le _,nofun,fun _=>⟨cs,rfl,hs,hn,fun p G4 n4 p5 G5 n5=>⟨_,_,qbez (n5.sub _ _ n4.at_) (qgdz _),qbez n5.at_ rfl,qlrz _,fun h=>?_,fun h=>?_⟩⟩⟩
  ·exact qapz (((j2.old.trans j3.old).trans n4.sub).trans n5.sub) q
  ·have h':(!(Dat.D.lst ((missL cs).map fun x:Nat=>Dat.D.int (x:Nat))).eqb (.lst []))=false:=h;rw[qkez,me] at h';exact absurd (mc.mp (by simpa using h')) hc
 ·refine⟨cs,rfl,hs,fun _=>⟨fun hc'=>absurd hc hc',fun d' _ g' t' G3 j3=>?_⟩,no⟩;cases t.uniq t';obtain⟨ds,rfl⟩:=g.is;obtain⟨u,e1,e2,e3⟩:=t.dat;have e4:toDat G3 (.tup ds)=some u:=e1;refine⟨u,u,e4,e4,by lia,fun h=>?_,fun _=>⟨cs,rfl,hs,hn,fun p G4 n4 p5 G5 n5=>⟨_,_,qbez (n5.sub _ _ n4.at_) (qgdz _),qbez n5.at_ rfl,qlrz _,fun h=>?_,fun h=>?_⟩⟩⟩
  ·have h':(!u.eqb u)=true:=h;rw[e3] at h';cases h'
  ·have h':(!(Dat.D.lst ((missL cs).map fun x:Nat=>Dat.D.int (x:Nat))).eqb (.lst []))=true:=h;rw[qkez,me,mc.mpr hc] at h';cases h'
  ·refine⟨cs,(1,0),_,14,rnd cs,rfl,by decide,qluz hs hn hc,t,fun _=>⟨cs,_,rfl,g.pap _ 40 (by decide),fun z hz=>(hs.1 z hz).1.1,?_⟩,nofun⟩;rw[g.good 40 (by decide)];exact qapz (((j2.old.trans j3.old).trans n4.sub).trans n5.sub) q
def qdhz:Sp3:=fun ds G Q=>∃cs:List Clk,ds=[csD cs]/\ClS cs/\10000<rnd cs/\Q (.bl true) G
def q0iz(rs:List Str)(e0:Addr):TS3:=sRet (eOp (rEq3 false) (eCall (qc8z rs) (aCons (eVar 1) (aNil))) (eTup (aCons (eC (.str "great")) (aCons (eCallP e0 qa5z (aCons (eVar 0) (aNil))) (aCons (eC (.int 10000)) (aNil))))))
def qlzz(rs:List Str):TS3:=sTryP rs 1 (sxExpr (exCall qb3z (aCons (eVar 0) (aNil))) (sxNext)) (q0iz rs) (sRet (eC (.bl false)))
theorem q0jz:∀ds G Q,qdhz ds G Q->qlzz ["TooGreat"] (endsOf Q) (start3 ["clocks","e"] ds) G:=by
 rintro ds G Q ⟨cs,rfl,hs,hgt,q⟩;refine⟨cs,rfl,hs,fun hn=>absurd hn (by lia),fun _=>⟨by simp,fun p G2 n=>?_⟩⟩;refine⟨p,_,_,rfl,n.at_,by simp,fun G3 s3=>⟨⟨_,_,s3 _ _ n.at_⟩,cs,rfl,hs.1,hs.2,fun G4 j=>⟨_,_,rfl,rfl,(by decide:1≤50),?_⟩⟩⟩;have e:(Dat.D.tup [.str "great",.int ((rnd cs:Nat):Int),.int 10000]).eqb (.tup [.str "great",.int ((rnd cs:Nat):Int),.int 10000])=true:=by simp[Dat.D.eqb,Dat.eqbs]
 show (endsOf Q).rt (.bl ((Dat.D.tup [.str "great",.int ((rnd cs:Nat):Int),.int 10000]).eqb (.tup [.str "great",.int ((rnd cs:Nat):Int),.int 10000]))) G4;rw[e];exact qapz ((n.sub.trans s3).trans j.old) q
def sp_law:Sp3:=fun ds G Q=>∃ns:List Int,ds=[.scr (ns.map .int)]/\ns.length≤63/\Q (.bl true) G
def q0kz:TS3:=sIf (eOr (eNot (eTest (eCall qb4z (aCons (eCall qc3z (aCons (eVar 2) (aNil))) (aNil))))) (eNot (eTest (eCall qdhz (aCons (eCall qddz (aCons (eVar 2) (aNil))) (aNil)))))) (sRet (eC (.bl false))) (sNext)
def q0lz:TS3:=sSeq (sAsg (eCall qf0z (aCons (eVar 1) (aNil))) (hName 2)) q0kz
def q0mz:TS3:=sRet (eC (.bl true))
def q0nz:TS3:=sSeq (sFor (iSeq (eOp rAdd3 (eLst (aCons (eCall qcvz (aCons (eVar 0) (aCons (eC (.int 0)) (aNil)))) (aNil))) (eSl (eVar 0) (oSome (eC (.int 1))) (oSome (eC (.int 6)))))) (hName 1) (q0lz)) q0mz
def ql0z:TS3:=sSeq (sIf (eOr (eNot (eTest (eCall qb4z (aCons (eTup (aNil)) (aNil))))) (eNot (eTest (eCall qb4z (aCons (eTup (aCons (eTup (aCons (eC (.int 1)) (aCons (eC (.int 0)) (aNil)))) (aNil))) (aNil)))))) (sRet (eC (.bl false))) (sNext)) q0nz
theorem q0oz{cs:List Clk}(sm:ClSm cs)(hl:cs.length≤12):ClS cs/\rnd cs≤10000:=by
 have hr720:rnd cs≤720:=Nat.le_of_dvd (by decide) (qwwz (Nat.one_dvd _) fun c hc=>Int.ofNat_dvd.mp (by
  have h1:=(sm c hc).1.1;have h2:=(sm c hc).2.2;rw[Int.toNat_of_nonneg (by lia)];exact h2))
 exact⟨⟨fun c hc=>⟨(sm c hc).1,by have:=(sm c hc).2.1;lia⟩,hl⟩,by lia⟩
theorem q0pz:∀ds G Q,sp_law ds G Q->ql0z (endsOf Q) (start3 ["script","cell","pen"] ds) G:=by
 rintro ds G Q ⟨ns,rfl,hl,q⟩;refine⟨[],rfl,⟨fun c hc=>(nomatch hc),by decide⟩,by decide,nofun,fun _=>⟨[(1,0)],rfl,⟨?_,by decide⟩,by decide,nofun,fun _=>?_⟩⟩
 ·intro c hc;simp only[List.mem_cons,List.not_mem_nil,or_false] at hc;subst hc;exact⟨⟨by decide,by decide,by decide⟩,by decide⟩
 refine⟨ns,0,rfl,fun i=>?_⟩;intro q0 G0 n0 q1 G1 n1;rw[qcxz] at n1;have hcl:=qvyz ns (some 1) (some 6);refine⟨_,_,n1.sub _ _ n0.at_,n1.at_,?_,fun q2 G2 n2=>?_⟩
 ·rw[List.length_map];exact line1000 (by simp;lia)
 have s2:=(n0.sub.trans n1.sub).trans n2.sub;refine⟨_,n2.at_,?_⟩;refine qarz (fun ds τ G'=>(∃is:List Int,ds=is.map D.int)/\Sub G2 G'/\∃x1 x2,τ=[some (.scr (ns.map .int)),x1,x2]) (fun _ _ _ h=>h.2.1 _ _ n2.at_) ?_ ?_ _ _ _ ⟨⟨i::cutG ns (some 1) (some 6),rfl⟩,Sub.refl _,_,_,rfl⟩
 ·rintro d ds τ G3 N ⟨⟨is,e⟩,s3,x1,x2,rfl⟩ hN;cases is with
  |nil=>cases e
  |cons cc is=>
   cases e;refine⟨cc,rfl,fun pp G4 n4=>⟨pp,rfl,n4.at_,fun cs sm hl12 hr=>?_⟩⟩;obtain⟨h1,h2⟩:=q0oz sm hl12;exact⟨cs,rfl,h1,h2,nofun,fun _=>⟨pp,rfl,n4.at_,fun ws hw hgt=>⟨ws,rfl,hw,hgt,nofun,fun _=>hN _ _ ⟨⟨is,rfl⟩,s3.trans n4.sub,_,_,rfl⟩⟩⟩⟩
 ·rintro τ G3 ⟨_,s3,x1,x2,rfl⟩;exact qapz (s2.trans s3) q
end My
namespace My
open PySem L2 L3
def top(i:Nat):Stmt:=PySem.Challenge.pw_coverclocks_k12_cover_papers_told.main.body.getD i (.Pass ⟨0,0,0,0⟩)
def inCls:Stmt->Stmt
 |.ClassDef _ _ _ b ..=>b.getD 0 (.Pass ⟨0,0,0,0⟩)
 |s=>s
abbrev qgez:Stmt:=top 11
abbrev q0qz:List Str:=["thing"]
theorem q0rz:FnScope q0qz ["thing"] (defScope qgez):=⟨rfl,rfl,rfl,by decide +kernel,rfl,by decide +kernel,by decide +kernel⟩
abbrev qgfz:Stmt:=top 12
abbrev q0sz:List Str:=["things","thing"]
theorem q0tz:FnScope q0sz ["things","thing"] (defScope qgfz):=⟨rfl,rfl,rfl,by decide +kernel,rfl,by decide +kernel,by decide +kernel⟩
abbrev qggz:Stmt:=top 13
abbrev q0uz:List Str:=["k","papers"]
theorem q0vz:FnScope q0uz ["k","papers"] (defScope qggz):=⟨rfl,rfl,rfl,by decide +kernel,rfl,by decide +kernel,by decide +kernel⟩
abbrev qghz:Stmt:=top 14
abbrev q0wz:List Str:=["many","most"]
theorem q0xz:FnScope q0wz ["many","most"] (defScope qghz):=⟨rfl,rfl,rfl,by decide +kernel,rfl,by decide +kernel,by decide +kernel⟩
abbrev qgiz:Stmt:=top 15
abbrev q0yz:List Str:=["one","other","left"]
theorem sc_z3:FnScope q0yz ["one","other"] (defScope qgiz):=⟨rfl,rfl,rfl,by decide +kernel,rfl,by decide +kernel,by decide +kernel⟩
abbrev qgjz:Stmt:=top 16
abbrev q0zz:List Str:=["numbers","least","number"]
theorem sc_z1:FnScope q0zz ["numbers"] (defScope qgjz):=⟨rfl,rfl,rfl,by decide +kernel,rfl,by decide +kernel,by decide +kernel⟩
abbrev qgkz:Stmt:=top 17
abbrev q00z:List Str:=["number","factor"]
theorem sc_z12:FnScope q00z ["number"] (defScope qgkz):=⟨rfl,rfl,rfl,by decide +kernel,rfl,by decide +kernel,by decide +kernel⟩
abbrev qglz:Stmt:=top 18
abbrev q01z:List Str:=["clocks","many","counts","step","rest","number"]
theorem sc_z6:FnScope q01z ["clocks","many"] (defScope qglz):=⟨rfl,rfl,rfl,by decide +kernel,rfl,by decide +kernel,by decide +kernel⟩
abbrev qgmz:Stmt:=top 19
abbrev q02z:List Str:=["clock","counts","many","number"]
theorem sc_z7:FnScope q02z ["clock","counts","many"] (defScope qgmz):=⟨rfl,rfl,rfl,by decide +kernel,rfl,by decide +kernel,by decide +kernel⟩
abbrev qgnz:Stmt:=top 21
abbrev q03z:List Str:=["clock","number"]
theorem q04z:FnScope q03z ["clock","number"] (defScope qgnz):=⟨rfl,rfl,rfl,by decide +kernel,rfl,by decide +kernel,by decide +kernel⟩
abbrev qemz:Stmt:=top 22
abbrev ql1z:List Str:=["clocks"]
theorem q05z:FnScope ql1z ["clocks"] (defScope qemz):=⟨rfl,rfl,rfl,by decide +kernel,rfl,by decide +kernel,by decide +kernel⟩
abbrev qgoz:Stmt:=top 23
abbrev q06z:List Str:=["one","other"]
theorem q07z:FnScope q06z ["one","other"] (defScope qgoz):=⟨rfl,rfl,rfl,by decide +kernel,rfl,by decide +kernel,by decide +kernel⟩
abbrev qenz:Stmt:=top 24
abbrev ql2z:List Str:=["clock","k"]
theorem q08z:FnScope ql2z ["clock","k"] (defScope qenz):=⟨rfl,rfl,rfl,by decide +kernel,rfl,by decide +kernel,by decide +kernel⟩
abbrev qgpz:Stmt:=top 26
abbrev q09z:List Str:=["clocks"]
theorem q1az:FnScope q09z ["clocks"] (defScope qgpz):=⟨rfl,rfl,rfl,by decide +kernel,rfl,by decide +kernel,by decide +kernel⟩
abbrev qgqz:Stmt:=top 27
abbrev q1bz:List Str:=["clocks"]
theorem q1cz:FnScope q1bz ["clocks"] (defScope qgqz):=⟨rfl,rfl,rfl,by decide +kernel,rfl,by decide +kernel,by decide +kernel⟩
abbrev qgrz:Stmt:=top 28
abbrev q1dz:List Str:=["clocks","clock"]
theorem q1ez:FnScope q1dz ["clocks","clock"] (defScope qgrz):=⟨rfl,rfl,rfl,by decide +kernel,rfl,by decide +kernel,by decide +kernel⟩
abbrev qgsz:Stmt:=top 29
abbrev q1fz:List Str:=["clocks","thing"]
theorem q1gz:FnScope q1fz ["clocks","thing"] (defScope qgsz):=⟨rfl,rfl,rfl,by decide +kernel,rfl,by decide +kernel,by decide +kernel⟩
abbrev qgtz:Stmt:=top 30
abbrev q1hz:List Str:=["clocks","thing","clock"]
theorem q1iz:FnScope q1hz ["clocks","thing","clock"] (defScope qgtz):=⟨rfl,rfl,rfl,by decide +kernel,rfl,by decide +kernel,by decide +kernel⟩
abbrev qguz:Stmt:=top 31
abbrev q1jz:List Str:=["clocks","k","papers","clock","paper","part"]
theorem sc_z17:FnScope q1jz ["clocks","k","papers","clock"] (defScope qguz):=⟨rfl,rfl,rfl,by decide +kernel,rfl,by decide +kernel,by decide +kernel⟩
abbrev qgvz:Stmt:=top 32
abbrev q1kz:List Str:=["clocks"]
theorem q1lz:FnScope q1kz ["clocks"] (defScope qgvz):=⟨rfl,rfl,rfl,by decide +kernel,rfl,by decide +kernel,by decide +kernel⟩
abbrev qeoz:Stmt:=top 33
abbrev ql3z:List Str:=["clocks","clock","many","place","other","k","papers"]
theorem sc_z29:FnScope ql3z ["clocks","clock","many"] (defScope qeoz):=⟨rfl,rfl,rfl,by decide +kernel,rfl,by decide +kernel,by decide +kernel⟩
abbrev qgwz:Stmt:=top 35
abbrev q1mz:List Str:=["script","k"]
theorem q1nz:FnScope q1mz ["script","k"] (defScope qgwz):=⟨rfl,rfl,rfl,by decide +kernel,rfl,by decide +kernel,by decide +kernel⟩
abbrev qgxz:Stmt:=top 36
abbrev q1oz:List Str:=["seed"]
theorem sc_z37:FnScope q1oz ["seed"] (defScope qgxz):=⟨rfl,rfl,rfl,by decide +kernel,rfl,by decide +kernel,by decide +kernel⟩
abbrev qgyz:Stmt:=top 37
abbrev q1pz:List Str:=["cell","left"]
theorem sc_z28:FnScope q1pz ["cell"] (defScope qgyz):=⟨rfl,rfl,rfl,by decide +kernel,rfl,by decide +kernel,by decide +kernel⟩
abbrev qgzz:Stmt:=top 38
abbrev q1qz:List Str:=["pen","many","found"]
theorem sc_z38:FnScope q1qz ["pen","many"] (defScope qgzz):=⟨rfl,rfl,rfl,by decide +kernel,rfl,by decide +kernel,by decide +kernel⟩
abbrev qg0z:Stmt:=top 39
abbrev q1rz:List Str:=["found"]
theorem q1sz:FnScope q1rz ["found"] (defScope qg0z):=⟨rfl,rfl,rfl,by decide +kernel,rfl,by decide +kernel,by decide +kernel⟩
abbrev qg1z:Stmt:=top 40
abbrev q1tz:List Str:=["e","marks"]
theorem sc_z18:FnScope q1tz ["e"] (defScope qg1z):=⟨rfl,rfl,rfl,by decide +kernel,rfl,by decide +kernel,by decide +kernel⟩
abbrev qg2z:Stmt:=top 41
abbrev q1uz:List Str:=["e"]
theorem q1vz:FnScope q1uz ["e"] (defScope qg2z):=⟨rfl,rfl,rfl,by decide +kernel,rfl,by decide +kernel,by decide +kernel⟩
abbrev qg3z:Stmt:=top 42
abbrev q1wz:List Str:=["one","other"]
theorem sc_z41:FnScope q1wz ["one","other"] (defScope qg3z):=⟨rfl,rfl,rfl,by decide +kernel,rfl,by decide +kernel,by decide +kernel⟩
abbrev qg4z:Stmt:=top 43
abbrev q1xz:List Str:=["clocks","found","step","rest"]
theorem sc_z30:FnScope q1xz ["clocks"] (defScope qg4z):=⟨rfl,rfl,rfl,by decide +kernel,rfl,by decide +kernel,by decide +kernel⟩
abbrev qepz:Stmt:=top 44
abbrev ql4z:List Str:=["clocks","number"]
theorem q1yz:FnScope ql4z ["clocks","number"] (defScope qepz):=⟨rfl,rfl,rfl,by decide +kernel,rfl,by decide +kernel,by decide +kernel⟩
abbrev qeqz:Stmt:=top 45
abbrev ql5z:List Str:=["pen","times","found","turn","spot","k","step","rest"]
theorem sc_z33:FnScope ql5z ["pen","times"] (defScope qeqz):=⟨rfl,rfl,rfl,by decide +kernel,rfl,by decide +kernel,by decide +kernel⟩
abbrev qg5z:Stmt:=top 46
abbrev q1zz:List Str:=["pen","way","found","steps","turn","step"]
theorem sc_z10:FnScope q1zz ["pen"] (defScope qg5z):=⟨rfl,rfl,rfl,by decide +kernel,rfl,by decide +kernel,by decide +kernel⟩
abbrev qerz:Stmt:=top 47
abbrev ql6z:List Str:=["clocks"]
theorem q10z:FnScope ql6z ["clocks"] (defScope qerz):=⟨rfl,rfl,rfl,by decide +kernel,rfl,by decide +kernel,by decide +kernel⟩
abbrev qesz:Stmt:=top 48
abbrev ql7z:List Str:=["clock","k"]
theorem q11z:FnScope ql7z ["clock","k"] (defScope qesz):=⟨rfl,rfl,rfl,by decide +kernel,rfl,by decide +kernel,by decide +kernel⟩
abbrev qg6z:Stmt:=top 49
abbrev q12z:List Str:=["clock","other"]
theorem q13z:FnScope q12z ["clock","other"] (defScope qg6z):=⟨rfl,rfl,rfl,by decide +kernel,rfl,by decide +kernel,by decide +kernel⟩
abbrev qetz:Stmt:=top 50
abbrev ql8z:List Str:=["clocks","clock","thing","parts"]
theorem sc_z9:FnScope ql8z ["clocks","clock","thing"] (defScope qetz):=⟨rfl,rfl,rfl,by decide +kernel,rfl,by decide +kernel,by decide +kernel⟩
abbrev qg7z:Stmt:=top 51
abbrev q14z:List Str:=["pen","some"]
theorem sc_z36:FnScope q14z ["pen"] (defScope qg7z):=⟨rfl,rfl,rfl,by decide +kernel,rfl,by decide +kernel,by decide +kernel⟩
abbrev qg8z:Stmt:=top 52
abbrev q15z:List Str:=["clocks","found"]
theorem sc_z35:FnScope q15z ["clocks"] (defScope qg8z):=⟨rfl,rfl,rfl,by decide +kernel,rfl,by decide +kernel,by decide +kernel⟩
abbrev qg9z:Stmt:=top 53
abbrev q16z:List Str:=["clocks","e"]
theorem sc_z20:FnScope q16z ["clocks"] (defScope qg9z):=⟨rfl,rfl,rfl,by decide +kernel,rfl,by decide +kernel,by decide +kernel⟩
abbrev qhaz:Stmt:=top 54
abbrev q17z:List Str:=["script","cell","pen"]
theorem sc_law:FnScope q17z ["script"] (defScope qhaz):=⟨rfl,rfl,rfl,by decide +kernel,rfl,by decide +kernel,by decide +kernel⟩
abbrev qclz:Stmt:=inCls (top 8)
theorem q18z:FnScope ["self","many","most"] ["self","many","most"] (defScope qclz):=⟨rfl,rfl,rfl,by decide +kernel,rfl,by decide +kernel,by decide +kernel⟩
set_option genInjectivity false in
structure Adr where
 f_z26:Addr
 d_z26:FuncData
 f_z22:Addr
 d_z22:FuncData
 f_z2:Addr
 d_z2:FuncData
 f_z13:Addr
 d_z13:FuncData
 f_z3:Addr
 d_z3:FuncData
 f_z1:Addr
 d_z1:FuncData
 f_z12:Addr
 d_z12:FuncData
 f_z6:Addr
 d_z6:FuncData
 f_z7:Addr
 d_z7:FuncData
 f_z44:Addr
 d_z44:FuncData
 f_z39:Addr
 d_z39:FuncData
 f_z34:Addr
 d_z34:FuncData
 f_z40:Addr
 d_z40:FuncData
 f_z43:Addr
 d_z43:FuncData
 f_z11:Addr
 d_z11:FuncData
 f_z14:Addr
 d_z14:FuncData
 f_z0:Addr
 d_z0:FuncData
 f_z25:Addr
 d_z25:FuncData
 f_z17:Addr
 d_z17:FuncData
 f_z19:Addr
 d_z19:FuncData
 f_z29:Addr
 d_z29:FuncData
 f_z16:Addr
 d_z16:FuncData
 f_z37:Addr
 d_z37:FuncData
 f_z28:Addr
 d_z28:FuncData
 f_z38:Addr
 d_z38:FuncData
 f_z32:Addr
 d_z32:FuncData
 f_z18:Addr
 d_z18:FuncData
 f_z4:Addr
 d_z4:FuncData
 f_z41:Addr
 d_z41:FuncData
 f_z30:Addr
 d_z30:FuncData
 f_z42:Addr
 d_z42:FuncData
 f_z33:Addr
 d_z33:FuncData
 f_z10:Addr
 d_z10:FuncData
 f_z23:Addr
 d_z23:FuncData
 f_z15:Addr
 d_z15:FuncData
 f_z21:Addr
 d_z21:FuncData
 f_z9:Addr
 d_z9:FuncData
 f_z36:Addr
 d_z36:FuncData
 f_z35:Addr
 d_z35:FuncData
 f_z20:Addr
 d_z20:FuncData
 f_law:Addr
 d_law:FuncData
 c_ClockError:Addr
 c_NoClock:Addr
 c_NoNumber:Addr
 c_NoPlace:Addr
 c_NoRow:Addr
 c_NoClocks:Addr
 c_NoText:Addr
 c_TooGreat:Addr
 fi_TooGreat:Addr
 di_TooGreat:FuncData
 t_MOST_NUMBERS:Tok
structure Txt(K:PySem.W.Frag)(mg:Str->Option Value)(t:Adr):Prop where
 F_z26:Fun K "whole_good" "whole_good" qgez t.f_z26 t.d_z26
 m_z26:mg "whole_good" = some (.ref t.f_z26)
 b_z26:Binds K t.d_z26 ["thing"] []
 F_z22:Fun K "place_good" "place_good" qgfz t.f_z22 t.d_z22
 m_z22:mg "place_good" = some (.ref t.f_z22)
 b_z22:Binds K t.d_z22 ["things","thing"] []
 F_z2:Fun K "split_form_good" "split_form_good" qggz t.f_z2 t.d_z2
 m_z2:mg "split_form_good" = some (.ref t.f_z2)
 b_z2:Binds K t.d_z2 ["k","papers"] []
 F_z13:Fun K "refuse_above" "refuse_above" qghz t.f_z13 t.d_z13
 m_z13:mg "refuse_above" = some (.ref t.f_z13)
 b_z13:Binds K t.d_z13 ["many","most"] []
 F_z3:Fun K "common_divisor" "common_divisor" qgiz t.f_z3 t.d_z3
 m_z3:mg "common_divisor" = some (.ref t.f_z3)
 b_z3:Binds K t.d_z3 ["one","other"] []
 F_z1:Fun K "common_multiple" "common_multiple" qgjz t.f_z1 t.d_z1
 m_z1:mg "common_multiple" = some (.ref t.f_z1)
 b_z1:Binds K t.d_z1 ["numbers"] []
 F_z12:Fun K "least_factor" "least_factor" qgkz t.f_z12 t.d_z12
 m_z12:mg "least_factor" = some (.ref t.f_z12)
 b_z12:Binds K t.d_z12 ["number"] []
 F_z6:Fun K "counts_within" "counts_within" qglz t.f_z6 t.d_z6
 m_z6:mg "counts_within" = some (.ref t.f_z6)
 b_z6:Binds K t.d_z6 ["clocks","many"] []
 F_z7:Fun K "first_counted" "first_counted" qgmz t.f_z7 t.d_z7
 m_z7:mg "first_counted" = some (.ref t.f_z7)
 b_z7:Binds K t.d_z7 ["clock","counts","many"] []
 F_z44:Fun K "rings" "rings" qgnz t.f_z44 t.d_z44
 m_z44:mg "rings" = some (.ref t.f_z44)
 b_z44:Binds K t.d_z44 ["clock","number"] []
 F_z39:Fun K "round_of" "round_of" qemz t.f_z39 t.d_z39
 m_z39:mg "round_of" = some (.ref t.f_z39)
 b_z39:Binds K t.d_z39 ["clocks"] []
 F_z34:Fun K "inside_of" "inside_of" qgoz t.f_z34 t.d_z34
 m_z34:mg "inside_of" = some (.ref t.f_z34)
 b_z34:Binds K t.d_z34 ["one","other"] []
 F_z40:Fun K "parts_of" "parts_of" qenz t.f_z40 t.d_z40
 m_z40:mg "parts_of" = some (.ref t.f_z40)
 b_z40:Binds K t.d_z40 ["clock","k"] []
 F_z43:Fun K "covers" "covers" qgpz t.f_z43 t.d_z43
 m_z43:mg "covers" = some (.ref t.f_z43)
 b_z43:Binds K t.d_z43 ["clocks"] []
 F_z11:Fun K "first_missed" "first_missed" qgqz t.f_z11 t.d_z11
 m_z11:mg "first_missed" = some (.ref t.f_z11)
 b_z11:Binds K t.d_z11 ["clocks"] []
 F_z14:Fun K "first_within" "first_within" qgrz t.f_z14 t.d_z14
 m_z14:mg "first_within" = some (.ref t.f_z14)
 b_z14:Binds K t.d_z14 ["clocks","clock"] []
 F_z0:Fun K "cover_paper_good" "cover_paper_good" qgsz t.f_z0 t.d_z0
 m_z0:mg "cover_paper_good" = some (.ref t.f_z0)
 b_z0:Binds K t.d_z0 ["clocks","thing"] []
 F_z25:Fun K "paper_good" "paper_good" qgtz t.f_z25 t.d_z25
 m_z25:mg "paper_good" = some (.ref t.f_z25)
 b_z25:Binds K t.d_z25 ["clocks","thing","clock"] []
 F_z17:Fun K "papers_good" "papers_good" qguz t.f_z17 t.d_z17
 m_z17:mg "papers_good" = some (.ref t.f_z17)
 b_z17:Binds K t.d_z17 ["clocks","k","papers","clock"] []
 F_z19:Fun K "cover_paper" "cover_paper" qgvz t.f_z19 t.d_z19
 m_z19:mg "cover_paper" = some (.ref t.f_z19)
 b_z19:Binds K t.d_z19 ["clocks"] []
 F_z29:Fun K "paper_for" "paper_for" qeoz t.f_z29 t.d_z29
 m_z29:mg "paper_for" = some (.ref t.f_z29)
 b_z29:Binds K t.d_z29 ["clocks","clock","many"] []
 F_z16:Fun K "_law_cell_at" "_law_cell_at" qgwz t.f_z16 t.d_z16
 m_z16:mg "_law_cell_at" = some (.ref t.f_z16)
 b_z16:Binds K t.d_z16 ["script","k"] []
 F_z37:Fun K "_law_next" "_law_next" qgxz t.f_z37 t.d_z37
 m_z37:mg "_law_next" = some (.ref t.f_z37)
 b_z37:Binds K t.d_z37 ["seed"] []
 F_z28:Fun K "_law_pen_of" "_law_pen_of" qgyz t.f_z28 t.d_z28
 m_z28:mg "_law_pen_of" = some (.ref t.f_z28)
 b_z28:Binds K t.d_z28 ["cell"] []
 F_z38:Fun K "_law_draw" "_law_draw" qgzz t.f_z38 t.d_z38
 m_z38:mg "_law_draw" = some (.ref t.f_z38)
 b_z38:Binds K t.d_z38 ["pen","many"] []
 F_z32:Fun K "_law_whole" "_law_whole" qg0z t.f_z32 t.d_z32
 m_z32:mg "_law_whole" = some (.ref t.f_z32)
 b_z32:Binds K t.d_z32 ["found"] []
 F_z18:Fun K "_law_kind_of" "_law_kind_of" qg1z t.f_z18 t.d_z18
 m_z18:mg "_law_kind_of" = some (.ref t.f_z18)
 b_z18:Binds K t.d_z18 ["e"] []
 F_z4:Fun K "_law_great_told" "_law_great_told" qg2z t.f_z4 t.d_z4
 m_z4:mg "_law_great_told" = some (.ref t.f_z4)
 b_z4:Binds K t.d_z4 ["e"] []
 F_z41:Fun K "_law_gcd" "_law_gcd" qg3z t.f_z41 t.d_z41
 m_z41:mg "_law_gcd" = some (.ref t.f_z41)
 b_z41:Binds K t.d_z41 ["one","other"] []
 F_z30:Fun K "_law_round" "_law_round" qg4z t.f_z30 t.d_z30
 m_z30:mg "_law_round" = some (.ref t.f_z30)
 b_z30:Binds K t.d_z30 ["clocks"] []
 F_z42:Fun K "_law_at" "_law_at" qepz t.f_z42 t.d_z42
 m_z42:mg "_law_at" = some (.ref t.f_z42)
 b_z42:Binds K t.d_z42 ["clocks","number"] []
 F_z33:Fun K "_law_split" "_law_split" qeqz t.f_z33 t.d_z33
 m_z33:mg "_law_split" = some (.ref t.f_z33)
 b_z33:Binds K t.d_z33 ["pen","times"] []
 F_z10:Fun K "_law_clocks_of" "_law_clocks_of" qg5z t.f_z10 t.d_z10
 m_z10:mg "_law_clocks_of" = some (.ref t.f_z10)
 b_z10:Binds K t.d_z10 ["pen"] []
 F_z23:Fun K "_law_missed" "_law_missed" qerz t.f_z23 t.d_z23
 m_z23:mg "_law_missed" = some (.ref t.f_z23)
 b_z23:Binds K t.d_z23 ["clocks"] []
 F_z15:Fun K "_law_parts_of" "_law_parts_of" qesz t.f_z15 t.d_z15
 m_z15:mg "_law_parts_of" = some (.ref t.f_z15)
 b_z15:Binds K t.d_z15 ["clock","k"] []
 F_z21:Fun K "_law_within" "_law_within" qg6z t.f_z21 t.d_z21
 m_z21:mg "_law_within" = some (.ref t.f_z21)
 b_z21:Binds K t.d_z21 ["clock","other"] []
 F_z9:Fun K "_law_paper_due" "_law_paper_due" qetz t.f_z9 t.d_z9
 m_z9:mg "_law_paper_due" = some (.ref t.f_z9)
 b_z9:Binds K t.d_z9 ["clocks","clock","thing"] []
 F_z36:Fun K "_law_wide" "_law_wide" qg7z t.f_z36 t.d_z36
 m_z36:mg "_law_wide" = some (.ref t.f_z36)
 b_z36:Binds K t.d_z36 ["pen"] []
 F_z35:Fun K "_law_right" "_law_right" qg8z t.f_z35 t.d_z35
 m_z35:mg "_law_right" = some (.ref t.f_z35)
 b_z35:Binds K t.d_z35 ["clocks"] []
 F_z20:Fun K "_law_refused" "_law_refused" qg9z t.f_z20 t.d_z20
 m_z20:mg "_law_refused" = some (.ref t.f_z20)
 b_z20:Binds K t.d_z20 ["clocks"] []
 F_law:Fun K "law" "law" qhaz t.f_law t.d_law
 m_law:mg "law" = some (.ref t.f_law)
 b_law:Binds K t.d_law ["script"] []
 m_ClockError:mg "ClockError" = some (.ref t.c_ClockError)
 cn_ClockError:ClsN K "ClockError" t.c_ClockError
 m_NoClock:mg "NoClock" = some (.ref t.c_NoClock)
 cn_NoClock:ClsN K "NoClock" t.c_NoClock
 m_NoNumber:mg "NoNumber" = some (.ref t.c_NoNumber)
 cn_NoNumber:ClsN K "NoNumber" t.c_NoNumber
 m_NoPlace:mg "NoPlace" = some (.ref t.c_NoPlace)
 cn_NoPlace:ClsN K "NoPlace" t.c_NoPlace
 m_NoRow:mg "NoRow" = some (.ref t.c_NoRow)
 cn_NoRow:ClsN K "NoRow" t.c_NoRow
 m_NoClocks:mg "NoClocks" = some (.ref t.c_NoClocks)
 cn_NoClocks:ClsN K "NoClocks" t.c_NoClocks
 m_NoText:mg "NoText" = some (.ref t.c_NoText)
 cn_NoText:ClsN K "NoText" t.c_NoText
 m_TooGreat:mg "TooGreat" = some (.ref t.c_TooGreat)
 cn_TooGreat:ClsN K "TooGreat" t.c_TooGreat
 o_TooGreat:OwnInit K t.c_TooGreat t.c_ClockError t.fi_TooGreat t.di_TooGreat "TooGreat.__init__" qclz ["many","most"]
 ask_TooGreat:ExcAsk K t.c_TooGreat
 ki_TooGreat_NoClock:PySem.W.kitOne K (.ref t.c_TooGreat) (.ref t.c_NoClock)=some false
 ki_TooGreat_NoClocks:PySem.W.kitOne K (.ref t.c_TooGreat) (.ref t.c_NoClocks)=some false
 ki_TooGreat_NoNumber:PySem.W.kitOne K (.ref t.c_TooGreat) (.ref t.c_NoNumber)=some false
 ki_TooGreat_NoPlace:PySem.W.kitOne K (.ref t.c_TooGreat) (.ref t.c_NoPlace)=some false
 ki_TooGreat_NoRow:PySem.W.kitOne K (.ref t.c_TooGreat) (.ref t.c_NoRow)=some false
 ki_TooGreat_NoText:PySem.W.kitOne K (.ref t.c_TooGreat) (.ref t.c_NoText)=some false
 ki_TooGreat_TooGreat:PySem.W.kitOne K (.ref t.c_TooGreat) (.ref t.c_TooGreat)=some true
 kv_TooGreat:PySem.W.kitOne K (.ref t.c_TooGreat) (.type "ValueError")=some true
 fl_TooGreat_many:FldAsk K t.c_TooGreat "many"
 fl_TooGreat_most:FldAsk K t.c_TooGreat "most"
 m_MOST_NUMBERS:mg "MOST_NUMBERS" = some (.int 10000 t.t_MOST_NUMBERS)
 m_ValueError:mg "ValueError" = none
 m_all:mg "all" = none
 m_bool:mg "bool" = none
 m_enumerate:mg "enumerate" = none
 m_int:mg "int" = none
 m_isinstance:mg "isinstance" = none
 m_len:mg "len" = none
 m_max:mg "max" = none
 m_range:mg "range" = none
 m_set:mg "set" = none
 m_sorted:mg "sorted" = none
 m_str:mg "str" = none
 m_tuple:mg "tuple" = none
 m_zip:mg "zip" = none
abbrev rs:List Str:=["TooGreat"]
section
variable {P:Program} {w:World} {K:PySem.W.Frag} {mg:Str->Option Value} {base:Heap} {t:Adr}
theorem qatz{x:Str}{C D:Addr}(h:ClsN K x C)(h2:ClsN K x D):C=D:=by
 unfold ClsN at h h2;rw[h] at h2;cases h2;rfl
theorem Txt.isx_NoClock(T:Txt K mg t):∀z∈rs,∀D,ClsN K z D->ExcAsk K D/\PySem.W.kitOne K (.ref D) (.ref t.c_NoClock)=some (z=="NoClock"):=by
 intro z hz D cn;simp only[List.mem_cons,List.not_mem_nil,or_false] at hz;subst hz;cases qatz cn T.cn_TooGreat;exact⟨T.ask_TooGreat,T.ki_TooGreat_NoClock⟩
theorem Txt.isx_NoClocks(T:Txt K mg t):∀z∈rs,∀D,ClsN K z D->ExcAsk K D/\PySem.W.kitOne K (.ref D) (.ref t.c_NoClocks)=some (z=="NoClocks"):=by
 intro z hz D cn;simp only[List.mem_cons,List.not_mem_nil,or_false] at hz;subst hz;cases qatz cn T.cn_TooGreat;exact⟨T.ask_TooGreat,T.ki_TooGreat_NoClocks⟩
theorem Txt.isx_NoNumber(T:Txt K mg t):∀z∈rs,∀D,ClsN K z D->ExcAsk K D/\PySem.W.kitOne K (.ref D) (.ref t.c_NoNumber)=some (z=="NoNumber"):=by
 intro z hz D cn;simp only[List.mem_cons,List.not_mem_nil,or_false] at hz;subst hz;cases qatz cn T.cn_TooGreat;exact⟨T.ask_TooGreat,T.ki_TooGreat_NoNumber⟩
theorem Txt.isx_NoPlace(T:Txt K mg t):∀z∈rs,∀D,ClsN K z D->ExcAsk K D/\PySem.W.kitOne K (.ref D) (.ref t.c_NoPlace)=some (z=="NoPlace"):=by
 intro z hz D cn;simp only[List.mem_cons,List.not_mem_nil,or_false] at hz;subst hz;cases qatz cn T.cn_TooGreat;exact⟨T.ask_TooGreat,T.ki_TooGreat_NoPlace⟩
theorem Txt.isx_NoRow(T:Txt K mg t):∀z∈rs,∀D,ClsN K z D->ExcAsk K D/\PySem.W.kitOne K (.ref D) (.ref t.c_NoRow)=some (z=="NoRow"):=by
 intro z hz D cn;simp only[List.mem_cons,List.not_mem_nil,or_false] at hz;subst hz;cases qatz cn T.cn_TooGreat;exact⟨T.ask_TooGreat,T.ki_TooGreat_NoRow⟩
theorem Txt.isx_NoText(T:Txt K mg t):∀z∈rs,∀D,ClsN K z D->ExcAsk K D/\PySem.W.kitOne K (.ref D) (.ref t.c_NoText)=some (z=="NoText"):=by
 intro z hz D cn;simp only[List.mem_cons,List.not_mem_nil,or_false] at hz;subst hz;cases qatz cn T.cn_TooGreat;exact⟨T.ask_TooGreat,T.ki_TooGreat_NoText⟩
theorem Txt.isx_TooGreat(T:Txt K mg t):∀z∈rs,∀D,ClsN K z D->ExcAsk K D/\PySem.W.kitOne K (.ref D) (.ref t.c_TooGreat)=some (z=="TooGreat"):=by
 intro z hz D cn;simp only[List.mem_cons,List.not_mem_nil,or_false] at hz;subst hz;cases qatz cn T.cn_TooGreat;exact⟨T.ask_TooGreat,T.ki_TooGreat_TooGreat⟩
theorem Txt.isv(T:Txt K mg t):∀z∈rs,∀D,ClsN K z D->ExcAsk K D/\PySem.W.kitOne K (.ref D) (.type "ValueError")=some true:=by
 intro z hz D cn;simp only[List.mem_cons,List.not_mem_nil,or_false] at hz;subst hz;cases qatz cn T.cn_TooGreat;exact⟨T.ask_TooGreat,T.kv_TooGreat⟩
theorem Txt.fld_many(T:Txt K mg t):∀z∈rs,∀D,ClsN K z D->FldAsk K D "many":=by
 intro z hz D cn;simp only[List.mem_cons,List.not_mem_nil,or_false] at hz;subst hz;cases qatz cn T.cn_TooGreat;exact T.fl_TooGreat_many
theorem Txt.fld_most(T:Txt K mg t):∀z∈rs,∀D,ClsN K z D->FldAsk K D "most":=by
 intro z hz D cn;simp only[List.mem_cons,List.not_mem_nil,or_false] at hz;subst hz;cases qatz cn T.cn_TooGreat;exact T.fl_TooGreat_most
theorem Txt.takes(T:Txt K mg t):Takes K rs t.c_ClockError:=by
 intro z hz D cn;simp only[List.mem_cons,List.not_mem_nil,or_false] at hz;subst hz;cases qatz cn T.cn_TooGreat;exact⟨_,T.o_TooGreat.ex⟩
theorem q19z:∀ds G Q,qb0z ds G Q->ds.length=1:=by
 intro ds G Q h
 first
  | (rcases ds with _|⟨_,_|⟨_,_|⟨_,_|⟨_,_⟩⟩⟩⟩<;>first|rfl|exact h.elim)
  | (obtain⟨rfl,_⟩:=h;rfl)
  | (obtain⟨_,rfl,_⟩:=h;rfl)
  | (obtain⟨_,_,rfl,_⟩:=h;rfl)
  | (obtain⟨_,_,_,rfl,_⟩:=h;rfl)
  | (obtain⟨_,_,_,_,rfl,_⟩:=h;rfl)
  | (obtain⟨_,_,_,_,_,rfl,_⟩:=h;rfl)
  | (obtain⟨_,_,_,_,_,_,rfl,_⟩:=h;rfl)
  | (obtain⟨_,_,_,_,_,_,_,rfl,_⟩:=h;rfl)
  | (obtain⟨_,_,_,_,_,_,_,_,rfl,_⟩:=h;rfl)
theorem ql9z(T:Txt K mg t):FnOk3 P w K mg base 1 t.f_z26 t.d_z26 ["thing"] qb0z:=by
 refine qfn3 (k:=0) (sp:=qb0z) T.F_z26 q0rz (by decide) q19z (qfzz) (fun cdv A outer s H E hr=>?_) qvmz;refine qez (qfz ?_);refine qawz (qa4z qjgz rfl (qaz (pv 0)) T.m_isinstance T.m_int rfl (by decide) (by decide)) ?_;refine qbbz (qjqz (qa4z qjhz rfl (qaz (pv 0)) T.m_isinstance T.m_bool rfl (by decide) (by decide)))
theorem q2az:∀ds G Q,qc5z ds G Q->ds.length=2:=by
 intro ds G Q h;obtain⟨_,_,rfl,_⟩:=h;rfl
theorem q2bz(T:Txt K mg t):FnOk3 P w K mg base 2 t.f_z22 t.d_z22 ["things","thing"] qc5z:=by
 refine qfn3 (k:=1) (sp:=qc5z) T.F_z22 q0tz (by decide) q2az (qlaz) (fun cdv A outer s H E hr=>?_) qxyz;refine qez (qfz ?_);refine qawz (qjz ((ql9z T).mono (by decide)) hr T.m_z26 T.F_z26.kp T.b_z26 (qbz (qaz (pv 1)) qcz)) ?_;refine qbbz (qt1z l_le qbpz qhjz (qboz hr.units0) qdz (qaz (pv 1)) (q9z hr.units T.m_len (qbz (qaz (pv 0)) qcz)))
theorem q2cz:∀ds G Q,qc1z ds G Q->ds.length=2:=by
 intro ds G Q h;obtain⟨_,_,rfl,_⟩:=h;rfl
theorem q2dz(T:Txt K mg t):FnOk3 P w K mg base 2 t.f_z2 t.d_z2 ["k","papers"] qc1z:=by
 refine qfn3 (k:=1) (sp:=qc1z) T.F_z2 q0vz (by decide) q2cz (qk1z) (fun cdv A outer s H E hr=>?_) qwvz;refine qez (qfz ?_);refine qawz (qjz ((ql9z T).mono (by decide)) hr T.m_z26 T.F_z26.kp T.b_z26 (qbz (qaz (pv 0)) qcz)) ?_;refine qawz (qasz l_ge qhkz (qaz (pv 0)) qdz (nomark _)) ?_;refine qawz (qa4z kit_tuple rfl (qaz (pv 1)) T.m_isinstance T.m_tuple rfl (by decide) (by decide)) ?_;refine qbbz (qasz l_eq (q2z hr.units) (q9z hr.units T.m_len (qbz (qaz (pv 1)) qcz)) (qaz (pv 0)) (nomark _))
theorem q2ez:∀ds Q E,qc7z ds Q E->ds.length=2:=by
 intro ds Q E h
 first
  | (rcases ds with _|⟨_,_|⟨_,_|⟨_,_|⟨_,_⟩⟩⟩⟩<;>first|rfl|exact h.elim)
  | (obtain⟨rfl,_⟩:=h;rfl)
  | (obtain⟨_,rfl,_⟩:=h;rfl)
  | (obtain⟨_,_,rfl,_⟩:=h;rfl)
  | (obtain⟨_,_,_,rfl,_⟩:=h;rfl)
  | (obtain⟨_,_,_,_,rfl,_⟩:=h;rfl)
  | (obtain⟨_,_,_,_,_,rfl,_⟩:=h;rfl)
  | (obtain⟨_,_,_,_,_,_,rfl,_⟩:=h;rfl)
  | (obtain⟨_,_,_,_,_,_,_,rfl,_⟩:=h;rfl)
  | (obtain⟨_,_,_,_,_,_,_,_,rfl,_⟩:=h;rfl)
theorem q2fz(T:Txt K mg t):FnX P w K mg base 1 t.f_z13 t.d_z13 ["many","most"] qc7z:=by
 refine qfnX (k:=0) (sp:=qc7z) T.F_z13 q0xz (by decide) q2ez qlez (fun cdv A outer s H E0 E hr hE=>?_) qyoz;refine qez (qqz (qnz l_gt qewz (qaz (pv 0)) (qaz (pv 1)) (nomark _)) ?_ qpz);refine qez (qvfz quaz hE T.o_TooGreat T.cn_TooGreat T.m_TooGreat hr rfl (qbz (qaz (pv 0)) (qbz (qaz (pv 1)) qcz)))
theorem q2gz:∀ds G Q,qcyz ds G Q->ds.length=2:=by
 intro ds G Q h;obtain⟨_,_,rfl,_⟩:=h;rfl
theorem q2hz(T:Txt K mg t):FnOk3 P w K mg base 1 t.f_z3 t.d_z3 ["one","other"] qcyz:=by
 refine qfn3 (k:=0) (sp:=qcyz) T.F_z3 sc_z3 (by decide) q2gz (qkoz) (fun cdv A outer s H E hr=>?_) qwbz;refine qgz ?_ (qez (qfz (qaz (pv 0))));refine qd7z PassesOwn.never (qnz l_ne (qavz hr.units) (qaz (pv 1)) qdz (nomark _)) ?_;refine qgz (qoz (i:=2) sc_z3.nd (qiz qadz qaaz (qaz (pv 0)) (qaz (pv 1)))) ?_;refine qgz (qoz (i:=0) sc_z3.nd (qaz (pv 1))) (qez (qoz (i:=1) sc_z3.nd (qaz (pv 2))))
theorem q2iz:∀ds G Q,qczz ds G Q->ds.length=1:=by
 intro ds G Q h;obtain⟨_,_,rfl,_⟩:=h;rfl
theorem q2jz(T:Txt K mg t):FnOk3 P w K mg base 2 t.f_z1 t.d_z1 ["numbers"] qczz:=by
 refine qfn3 (k:=1) (sp:=qczz) T.F_z1 sc_z1 (by decide) q2iz (qkpz) (fun cdv A outer s H E hr=>?_) qwfz;refine qgz (qoz (i:=1) sc_z1.nd qdz) (qgz ?_ (qez (qfz (qaz (pv 1)))));refine qaxz PassesOwn.never rfl (qbtz (qaz (pv 0))) (qrz (i:=2) sc_z1.nd) (qez ?_);refine qoz (i:=1) sc_z1.nd (qiz qafz qaez (qaz (pv 1)) (qiz qb8z qb7z (qaz (pv 2)) ?_));refine qjz ((q2hz T).mono (by decide)) hr T.m_z3 T.F_z3.kp T.b_z3 ?_;refine qbz (qaz (pv 1)) (qbz (qaz (pv 2)) qcz)
theorem q2kz:∀ds G Q,qdfz ds G Q->ds.length=1:=by
 intro ds G Q h;obtain⟨_,rfl,_⟩:=h;rfl
theorem q2lz(T:Txt K mg t):FnOk3 P w K mg base 1 t.f_z12 t.d_z12 ["number"] qdfz:=by
 refine qfn3 (k:=0) (sp:=qdfz) T.F_z12 sc_z12 (by decide) q2kz (qlsz) (fun cdv A outer s H E hr=>?_) qzvz;refine qgz (qoz (i:=1) sc_z12.nd qdz) (qgz ?_ (qez (qfz (qaz (pv 0)))));refine qd7z PassesOwn.never (qnz l_le qhjz (qiz qafz qaez (qaz (pv 1)) (qaz (pv 1))) (qaz (pv 0)) (nomark _)) ?_;refine qgz (qqz (qnz l_eq (q2z hr.units) (qiz qadz qaaz (qaz (pv 0)) (qaz (pv 1))) qdz (nomark _)) (qez (qfz (qaz (pv 1)))) qpz) ?_;refine qez (qtrz (i:=1) qtoz sc_z12.nd qdz qhhz)
theorem q2mz:∀ds Q E,qc9z ds Q E->ds.length=2:=by
 intro ds Q E h
 first
  | (rcases ds with _|⟨_,_|⟨_,_|⟨_,_|⟨_,_⟩⟩⟩⟩<;>first|rfl|exact h.elim)
  | (obtain⟨rfl,_⟩:=h;rfl)
  | (obtain⟨_,rfl,_⟩:=h;rfl)
  | (obtain⟨_,_,rfl,_⟩:=h;rfl)
  | (obtain⟨_,_,_,rfl,_⟩:=h;rfl)
  | (obtain⟨_,_,_,_,rfl,_⟩:=h;rfl)
  | (obtain⟨_,_,_,_,_,rfl,_⟩:=h;rfl)
  | (obtain⟨_,_,_,_,_,_,rfl,_⟩:=h;rfl)
  | (obtain⟨_,_,_,_,_,_,_,rfl,_⟩:=h;rfl)
  | (obtain⟨_,_,_,_,_,_,_,_,rfl,_⟩:=h;rfl)
theorem q2nz(T:Txt K mg t):FnX P w K mg base 2 t.f_z6 t.d_z6 ["clocks","many"] qc9z:=by
 refine qfnX (k:=1) (sp:=qc9z) T.F_z6 sc_z6 (by decide) q2mz qlhz (fun cdv A outer s H E0 E hr hE=>?_) qy0z;refine qgz (qfoz ?_) ?_;refine qbyz ((q2fz T).mono (by decide)) hr (passX hE) T.m_z13 T.F_z13.kp T.b_z13 ?_;refine qbz (qaz (pv 1)) (qbz (qtqz T.m_MOST_NUMBERS) qcz);refine qgz (qoz (i:=2) sc_z6.nd (qiz qafz qaez (qanz (qbz qdz qcz)) (qaz (pv 1)))) ?_;refine qgz ?_ (qez (qfz (qaz (pv 2))));refine qaxz qjuz rfl (qbtz (qaz (pv 0))) ?_ (qez ?_);refine qcrz rfl (qaoz (qrz (i:=3) sc_z6.nd) (qaoz (qrz (i:=4) sc_z6.nd) qccz));refine qaxz qjuz rfl (qjtz T.m_range (qbz (qaz (pv 4)) (qbz (qaz (pv 1)) (qbz (qaz (pv 3)) qcz)))) ?_ ?_;refine qrz (i:=5) sc_z6.nd;refine qez (qt0z (qaz (pv 2)) (qaz (pv 5)) qdz)
theorem q2oz:∀ds G Q,qc4z ds G Q->ds.length=3:=by
 intro ds G Q h;obtain⟨_,_,_,_,_,rfl,_⟩:=h;rfl
theorem q2pz(T:Txt K mg t):FnOk3 P w K mg base 1 t.f_z7 t.d_z7 ["clock","counts","many"] qc4z:=by
 refine qfn3 (k:=0) (sp:=qc4z) T.F_z7 sc_z7 (by decide) q2oz (qk9z) (fun cdv A outer s H E hr=>?_) qxuz;refine qgz ?_ (qez (qfz qd4z));refine qaxz PassesOwn.never rfl (qjtz T.m_range ?_) (qrz (i:=3) sc_z7.nd) ?_;refine qbz (qkz (qaz (pv 0)) qdz) (qbz (q9z hr.units T.m_len (qbz (qaz (pv 1)) qcz)) (qbz (qkz (qaz (pv 0)) qdz) qcz));refine qez (qqz (qnz l_eq (q2z hr.units) (qkz (qaz (pv 1)) (qaz (pv 3))) (qaz (pv 2)) (nomark _)) (qez (qfz (qaz (pv 3)))) qpz)
theorem q2qz:∀ds G Q,qcwz ds G Q->ds.length=2:=by
 intro ds G Q h;obtain⟨_,_,rfl,_⟩:=h;rfl
theorem q2rz(T:Txt K mg t):FnOk3 P w K mg base 1 t.f_z44 t.d_z44 ["clock","number"] qcwz:=by
 refine qfn3 (k:=0) (sp:=qcwz) T.F_z44 q04z (by decide) q2qz (qkbz) (fun cdv A outer s H E hr=>?_) qvvz;refine qez (qfz (qasz l_eq (q2z hr.units) (qiz qadz qaaz (qaz (pv 1)) (qkz (qaz (pv 0)) qdz)) (qkz (qaz (pv 0)) qdz) (nomark _)))
theorem q2sz:∀ds G Q,qcgz ds G Q->ds.length=1:=by
 intro ds G Q h;obtain⟨_,rfl,_⟩:=h;rfl
theorem qmaz(T:Txt K mg t):FnOk3 P w K mg base 3 t.f_z39 t.d_z39 ["clocks"] qcgz:=by
 refine qfn3 (k:=2) (sp:=qcgz) T.F_z39 q05z (by decide) q2sz (qkqz) (fun cdv A outer s H E hr=>?_) qwhz;refine qez (qfz ?_);refine qjz ((q2jz T).mono (by decide)) hr T.m_z1 T.F_z1.kp T.b_z1 (qbz ?_ qcz);refine qbvz rfl (show CmpOk ql1z (defScope qemz) _ ["clock"] [] from⟨rfl,by decide +kernel,by decide +kernel,by decide +kernel,by decide +kernel,by decide +kernel⟩) ?_ ?_;refine qbtz (qaz (pv 0));intro s0 H0 fp0;refine⟨(qrz (i:=0) (show (["clock"]:List Str).Nodup by decide +kernel)),qcdz,(qkz (qaz (pv 0)) qdz)⟩
theorem q2tz:∀ds G Q,qchz ds G Q->ds.length=2:=by
 intro ds G Q h;obtain⟨_,_,rfl,_⟩:=h;rfl
theorem qmbz(T:Txt K mg t):FnOk3 P w K mg base 2 t.f_z34 t.d_z34 ["one","other"] qchz:=by
 refine qfn3 (k:=1) (sp:=qchz) T.F_z34 q07z (by decide) q2tz (qk2z) (fun cdv A outer s H E hr=>?_) qwzz;refine qez (qfz ?_);refine qawz (qasz l_eq (q2z hr.units) (qiz qadz qaaz (qkz (qaz (pv 0)) qdz) (qkz (qaz (pv 1)) qdz)) qdz (nomark _)) ?_;refine qbbz (qjz ((q2rz T).mono (by decide)) hr T.m_z44 T.F_z44.kp T.b_z44 (qbz (qaz (pv 1)) (qbz (qkz (qaz (pv 0)) qdz) qcz)))
theorem q2uz:∀ds G Q,qa6z ds G Q->ds.length=2:=by
 intro ds G Q h;obtain⟨_,_,rfl,_⟩:=h;rfl
theorem qmcz(T:Txt K mg t):FnOk3 P w K mg base 1 t.f_z40 t.d_z40 ["clock","k"] qa6z:=by
 refine qfn3 (k:=0) (sp:=qa6z) T.F_z40 q08z (by decide) q2uz (qkzz) (fun cdv A outer s H E hr=>?_) qwpz;refine qez (qfz ?_);refine qbvz rfl (show CmpOk ql2z (defScope qenz) _ ["turn"] [0,1] from⟨rfl,by decide +kernel,by decide +kernel,by decide +kernel,by decide +kernel,by decide +kernel⟩) ?_ ?_;refine qbuz T.m_range (qbz (qaz (pv 1)) qcz);intro s0 H0 fp0;refine⟨(qrz (i:=0) (show (["turn","clock","k"]:List Str).Nodup by decide +kernel)),qcdz,?_⟩;refine qxz (qbz (qiz qafz qaez (qkz (qaz (pv 1)) qdz) (qaz (pv 2))) ?_);refine qbz (qiz q8z q7z (qkz (qaz (pv 1)) qdz) (qiz qafz qaez (qkz (qaz (pv 1)) qdz) (qaz (pv 0)))) qcz
theorem q2vz:∀ds Q E,qdaz ds Q E->ds.length=2:=by
 intro ds Q E h
 first
  | (rcases ds with _|⟨_,_|⟨_,_|⟨_,_|⟨_,_⟩⟩⟩⟩<;>first|rfl|exact h.elim)
  | (obtain⟨rfl,_⟩:=h;rfl)
  | (obtain⟨_,rfl,_⟩:=h;rfl)
  | (obtain⟨_,_,rfl,_⟩:=h;rfl)
  | (obtain⟨_,_,_,rfl,_⟩:=h;rfl)
  | (obtain⟨_,_,_,_,rfl,_⟩:=h;rfl)
  | (obtain⟨_,_,_,_,_,rfl,_⟩:=h;rfl)
  | (obtain⟨_,_,_,_,_,_,rfl,_⟩:=h;rfl)
  | (obtain⟨_,_,_,_,_,_,_,rfl,_⟩:=h;rfl)
  | (obtain⟨_,_,_,_,_,_,_,_,rfl,_⟩:=h;rfl)
theorem q2wz(T:Txt K mg t):FnX P w K mg base 4 t.f_z14 t.d_z14 ["clocks","clock"] qdaz:=by
 refine qfnX (k:=3) (sp:=qdaz) T.F_z14 q1ez (by decide) q2vz qliz (fun cdv A outer s H E0 E hr hE=>?_) qy1z;refine qez (qfz ?_);refine qjz ((q2pz T).mono (by decide)) hr T.m_z7 T.F_z7.kp T.b_z7 ?_;refine qbz (qaz (pv 1)) (qbz ?_ (qbz qdz qcz));refine qbyz ((q2nz T).mono (by decide)) hr (passX hE) T.m_z6 T.F_z6.kp T.b_z6 ?_;refine qbz (qaz (pv 0)) (qbz ?_ qcz);refine qjz ((qmaz T).mono (by decide)) hr T.m_z39 T.F_z39.kp T.b_z39 ?_;refine qbz (qiz q8z q7z (qaz (pv 0)) (qxz (qbz (qaz (pv 1)) qcz))) qcz
theorem q2xz:∀ds Q E,qdbz ds Q E->ds.length=1:=by
 intro ds Q E h
 first
  | (rcases ds with _|⟨_,_|⟨_,_|⟨_,_|⟨_,_⟩⟩⟩⟩<;>first|rfl|exact h.elim)
  | (obtain⟨rfl,_⟩:=h;rfl)
  | (obtain⟨_,rfl,_⟩:=h;rfl)
  | (obtain⟨_,_,rfl,_⟩:=h;rfl)
  | (obtain⟨_,_,_,rfl,_⟩:=h;rfl)
  | (obtain⟨_,_,_,_,rfl,_⟩:=h;rfl)
  | (obtain⟨_,_,_,_,_,rfl,_⟩:=h;rfl)
  | (obtain⟨_,_,_,_,_,_,rfl,_⟩:=h;rfl)
  | (obtain⟨_,_,_,_,_,_,_,rfl,_⟩:=h;rfl)
  | (obtain⟨_,_,_,_,_,_,_,_,rfl,_⟩:=h;rfl)
theorem q2yz(T:Txt K mg t):FnX P w K mg base 5 t.f_z11 t.d_z11 ["clocks"] qdbz:=by
 refine qfnX (k:=4) (sp:=qdbz) T.F_z11 q1cz (by decide) q2xz qljz (fun cdv A outer s H E0 E hr hE=>?_) qy2z;refine qez (qfz ?_);refine qbyz ((q2wz T).mono (by decide)) hr (passX hE) T.m_z14 T.F_z14.kp T.b_z14 ?_;refine qbz (qaz (pv 0)) (qbz (qxz (qbz qdz (qbz qdz qcz))) qcz)
theorem q2zz:∀ds Q E,qdcz ds Q E->ds.length=1:=by
 intro ds Q E h
 first
  | (rcases ds with _|⟨_,_|⟨_,_|⟨_,_|⟨_,_⟩⟩⟩⟩<;>first|rfl|exact h.elim)
  | (obtain⟨rfl,_⟩:=h;rfl)
  | (obtain⟨_,rfl,_⟩:=h;rfl)
  | (obtain⟨_,_,rfl,_⟩:=h;rfl)
  | (obtain⟨_,_,_,rfl,_⟩:=h;rfl)
  | (obtain⟨_,_,_,_,rfl,_⟩:=h;rfl)
  | (obtain⟨_,_,_,_,_,rfl,_⟩:=h;rfl)
  | (obtain⟨_,_,_,_,_,_,rfl,_⟩:=h;rfl)
  | (obtain⟨_,_,_,_,_,_,_,rfl,_⟩:=h;rfl)
  | (obtain⟨_,_,_,_,_,_,_,_,rfl,_⟩:=h;rfl)
theorem q20z(T:Txt K mg t):FnX P w K mg base 6 t.f_z43 t.d_z43 ["clocks"] qdcz:=by
 refine qfnX (k:=5) (sp:=qdcz) T.F_z43 q1az (by decide) q2zz qlkz (fun cdv A outer s H E0 E hr hE=>?_) qy3z;refine qez (qfz (qasz l_is qhlz ?_ qd4z (nomark _)));refine qbyz ((q2yz T).mono (by decide)) hr (passX hE) T.m_z11 T.F_z11.kp T.b_z11 (qbz (qaz (pv 0)) qcz)
theorem q21z(n:Nat):∀ds G Q,qbfz n ds G Q->ds.length=3:=by
 intro ds G Q h
 first
  | (rcases ds with _|⟨_,_|⟨_,_|⟨_,_|⟨_,_⟩⟩⟩⟩<;>first|rfl|exact h.elim)
  | (obtain⟨rfl,_⟩:=h;rfl)
  | (obtain⟨_,rfl,_⟩:=h;rfl)
  | (obtain⟨_,_,rfl,_⟩:=h;rfl)
  | (obtain⟨_,_,_,rfl,_⟩:=h;rfl)
  | (obtain⟨_,_,_,_,rfl,_⟩:=h;rfl)
  | (obtain⟨_,_,_,_,_,rfl,_⟩:=h;rfl)
  | (obtain⟨_,_,_,_,_,_,rfl,_⟩:=h;rfl)
  | (obtain⟨_,_,_,_,_,_,_,rfl,_⟩:=h;rfl)
  | (obtain⟨_,_,_,_,_,_,_,_,rfl,_⟩:=h;rfl)
theorem q22z(n:Nat):∀ds G Q,qciz n ds G Q->ds.length=4:=by
 intro ds G Q h
 first
  | (rcases ds with _|⟨_,_|⟨_,_|⟨_,_|⟨_,_⟩⟩⟩⟩<;>first|rfl|exact h.elim)
  | (obtain⟨rfl,_⟩:=h;rfl)
  | (obtain⟨_,rfl,_⟩:=h;rfl)
  | (obtain⟨_,_,rfl,_⟩:=h;rfl)
  | (obtain⟨_,_,_,rfl,_⟩:=h;rfl)
  | (obtain⟨_,_,_,_,rfl,_⟩:=h;rfl)
  | (obtain⟨_,_,_,_,_,rfl,_⟩:=h;rfl)
  | (obtain⟨_,_,_,_,_,_,rfl,_⟩:=h;rfl)
  | (obtain⟨_,_,_,_,_,_,_,rfl,_⟩:=h;rfl)
  | (obtain⟨_,_,_,_,_,_,_,_,rfl,_⟩:=h;rfl)
theorem qmdz(T:Txt K mg t):∀n:Nat,FnOk3 P w K mg base (2+n) t.f_z25 t.d_z25 ["clocks","thing","clock"] (qbfz n)/\FnOk3 P w K mg base (2+n) t.f_z17 t.d_z17 ["clocks","k","papers","clock"] (qciz n)
 |0=>⟨qeaz qx5z,qeaz qx6z⟩
 |n+1=>by
  have ih:=qmdz T n;refine⟨?_,?_⟩
  ·refine qfn3 (k:=2+n) (sp:=qbfz (n+1)) T.F_z25 q1iz (by decide) (q21z (n+1)) (qgbz n) (fun cdv A outer s H E hr=>?_) (qyaz n);refine qgz (qqz (q6z (q5z (qa4z kit_tuple rfl (qaz (pv 1)) T.m_isinstance T.m_tuple rfl (by decide) (by decide)))) (qez (qfz q3z)) qpz) ?_;refine qgz ?_ (qgz ?_ (qez (qfz q3z)));refine qqz (qamz ?_) (qez (qfz ?_)) qpz;refine qd6z (qnz l_eq (q2z hr.units) (q9z hr.units T.m_len (qbz (qaz (pv 1)) qcz)) qdz (nomark _)) ?_;refine qd5z (qnz l_eq (q2z hr.units) (qkz (qaz (pv 1)) qdz) q4z (nomark _));refine qawz ?_ (qbbz ?_);refine qjz ((q2bz T).mono (Nat.le_trans (by decide:_≤2) (Nat.le_add_right _ _))) hr T.m_z22 T.F_z22.kp T.b_z22 ?_;refine qbz (qaz (pv 0)) (qbz (qkz (qaz (pv 1)) qdz) qcz);refine qjz ((qmbz T).mono (Nat.le_trans (by decide:_≤2) (Nat.le_add_right _ _))) hr T.m_z34 T.F_z34.kp T.b_z34 ?_;refine qbz (qaz (pv 2)) (qbz (qkz (qaz (pv 0)) (qkz (qaz (pv 1)) qdz)) qcz);refine qqz (qamz ?_) (qez (qfz ?_)) qpz;refine qd6z (qnz l_eq (q2z hr.units) (q9z hr.units T.m_len (qbz (qaz (pv 1)) qcz)) qdz (nomark _)) ?_;refine qd5z (qnz l_eq (q2z hr.units) (qkz (qaz (pv 1)) qdz) q4z (nomark _));refine qjz (ih.2.mono (Nat.le_refl _)) hr T.m_z17 T.F_z17.kp T.b_z17 ?_;refine qbz (qaz (pv 0)) (qbz (qkz (qaz (pv 1)) qdz) (qbz (qkz (qaz (pv 1)) qdz) (qbz (qaz (pv 2)) qcz)))
  ·refine qfn3 (k:=2+n) (sp:=qciz (n+1)) T.F_z17 sc_z17 (by decide) (q22z (n+1)) (qlbz n) (fun cdv A outer s H E hr=>?_) (qyfz n);refine qgz (qqz (q6z (q5z ?_)) (qez (qfz q3z)) qpz) (qgz ?_ (qez (qfz q3z)));refine qjz ((q2dz T).mono (Nat.le_trans (by decide:_≤2) (Nat.le_add_right _ _))) hr T.m_z2 T.F_z2.kp T.b_z2 ?_;refine qbz (qaz (pv 1)) (qbz (qaz (pv 2)) qcz);refine qaxz PassesOwn.never rfl (qtyz T.m_zip (qbz (qaz (pv 2)) (qbz ?_ qcz))) ?_ ?_;refine qjz ((qmcz T).mono (Nat.le_trans (by decide:_≤2) (Nat.le_add_right _ _))) hr T.m_z40 T.F_z40.kp T.b_z40 ?_;refine qbz (qaz (pv 3)) (qbz (qaz (pv 1)) qcz);refine qcrz rfl (qaoz (qrz (i:=4) sc_z17.nd) (qaoz (qrz (i:=5) sc_z17.nd) qccz));refine qez (qqz (q6z (q5z ?_)) (qez (qfz q3z)) qpz);refine qjz (ih.1.mono (Nat.le_refl _)) hr T.m_z25 T.F_z25.kp T.b_z25 ?_;refine qbz (qaz (pv 0)) (qbz (qaz (pv 4)) (qbz (qaz (pv 5)) qcz))
theorem q23z(T:Txt K mg t):FnOk3 P w K mg base 42 t.f_z25 t.d_z25 ["clocks","thing","clock"] (qbfz 40):=(qmdz T 40).1
theorem q24z:∀ds G Q,qc6z ds G Q->ds.length=2:=by
 intro ds G Q h;obtain⟨_,_,rfl,_⟩:=h;rfl
theorem q25z(T:Txt K mg t):FnOk3 P w K mg base 43 t.f_z0 t.d_z0 ["clocks","thing"] qc6z:=by
 refine qfn3 (k:=42) (sp:=qc6z) T.F_z0 q1gz (by decide) q24z (qlcz) (fun cdv A outer s H E hr=>?_) qygz;refine qez (qfz ?_);refine qjz ((q23z T).mono (by decide)) hr T.m_z25 T.F_z25.kp T.b_z25 ?_;refine qbz (qaz (pv 0)) (qbz (qaz (pv 1)) (qbz (qxz (qbz qdz (qbz qdz qcz))) qcz))
theorem q26z(n:Nat):∀ds G Q,qbgz n ds G Q->ds.length=3:=by
 intro ds G Q h;obtain⟨_,_,_,_,rfl,_⟩:=h;rfl
theorem qmez(T:Txt K mg t):∀n:Nat,FnOk3 P w K mg base (2+n) t.f_z29 t.d_z29 ["clocks","clock","many"] (qbgz n)
 |0=>qeaz qzwz
 |n+1=>by
  have ih:=qmez T n
  ·refine qfn3 (k:=2+n) (sp:=qbgz (n+1)) T.F_z29 sc_z29 (by decide) (q26z (n+1)) (qltz n) (fun cdv A outer s H E hr=>?_) (qz1z n);refine qgz ?_ ?_;refine qaxz PassesOwn.never rfl (qtzz T.m_enumerate (qbz (qaz (pv 0)) qcz)) ?_ (qez ?_);refine qcrz rfl (qaoz (qrz (i:=3) sc_z29.nd) (qaoz (qrz (i:=4) sc_z29.nd) qccz));refine qqz (q5z ?_) (qez (qfz (qxz (qbz q4z (qbz (qaz (pv 3)) qcz))))) qpz;refine qjz ((qmbz T).mono (Nat.le_trans (by decide:_≤2) (Nat.le_add_right _ _))) hr T.m_z34 T.F_z34.kp T.b_z34 ?_;refine qbz (qaz (pv 1)) (qbz (qaz (pv 4)) qcz);refine qgz (qoz (i:=5) sc_z29.nd ?_) ?_;refine qjz ((q2lz T).mono (Nat.le_trans (by decide:_≤2) (Nat.le_add_right _ _))) hr T.m_z12 T.F_z12.kp T.b_z12 ?_;refine qbz (qaz (pv 2)) qcz;refine qgz ?_ (qez (qfz (qxz (qbz q4z (qbz (qaz (pv 5)) (qbz (qfrz hr.units T.m_tuple (qbz (qaz (pv 6)) qcz)) qcz))))));refine qt3z (i:=6) rfl sc_z29.nd (show CmpOk ql3z (defScope qeoz) _ ["part"] [0,2,5] from⟨rfl,by decide +kernel,by decide +kernel,by decide +kernel,by decide +kernel,by decide +kernel⟩) ?_ ?_;refine qbtz ?_;refine qjz ((qmcz T).mono (Nat.le_trans (by decide:_≤2) (Nat.le_add_right _ _))) hr T.m_z40 T.F_z40.kp T.b_z40 ?_;refine qbz (qaz (pv 1)) (qbz (qaz (pv 5)) qcz);intro s0 H0 fp0;refine⟨(qrz (i:=0) (show (["part","clocks","many","k"]:List Str).Nodup by decide +kernel)),qcdz,?_⟩;refine qjz (ih.mono (Nat.le_refl _)) hr T.m_z29 T.F_z29.kp T.b_z29 ?_;refine qbz (qaz (pv 1)) (qbz (qaz (pv 0)) (qbz (qiz qb8z qb7z (qaz (pv 2)) (qaz (pv 3))) qcz))
theorem q27z(T:Txt K mg t):FnOk3 P w K mg base 42 t.f_z29 t.d_z29 ["clocks","clock","many"] (qbgz 40):=(qmez T 40)
theorem q28z:∀ds Q E,qb3z ds Q E->ds.length=1:=by
 intro ds Q E h
 first
  | (rcases ds with _|⟨_,_|⟨_,_|⟨_,_|⟨_,_⟩⟩⟩⟩<;>first|rfl|exact h.elim)
  | (obtain⟨rfl,_⟩:=h;rfl)
  | (obtain⟨_,rfl,_⟩:=h;rfl)
  | (obtain⟨_,_,rfl,_⟩:=h;rfl)
  | (obtain⟨_,_,_,rfl,_⟩:=h;rfl)
  | (obtain⟨_,_,_,_,rfl,_⟩:=h;rfl)
  | (obtain⟨_,_,_,_,_,rfl,_⟩:=h;rfl)
  | (obtain⟨_,_,_,_,_,_,rfl,_⟩:=h;rfl)
  | (obtain⟨_,_,_,_,_,_,_,rfl,_⟩:=h;rfl)
  | (obtain⟨_,_,_,_,_,_,_,_,rfl,_⟩:=h;rfl)
theorem qhbz(T:Txt K mg t):FnX P w K mg base 43 t.f_z19 t.d_z19 ["clocks"] qb3z:=by
 refine qfnX (k:=42) (sp:=qb3z) T.F_z19 q1lz (by decide) q28z qlvz (fun cdv A outer s H E0 E hr hE=>?_) qz3z;refine qgz ?_ (qez (qfz ?_));refine qqz (q6z (q5z (qbyz ((q20z T).mono (by decide)) hr (passX hE) T.m_z43 T.F_z43.kp T.b_z43 (qbz (qaz (pv 0)) qcz)))) ?_ ?_;refine qez (qfz qd4z);refine qpz;refine qjz ((q27z T).mono (by decide)) hr T.m_z29 T.F_z29.kp T.b_z29 ?_;refine qbz (qaz (pv 0)) (qbz (qxz (qbz qdz (qbz qdz qcz))) ?_);refine qbz (qjz ((qmaz T).mono (by decide)) hr T.m_z39 T.F_z39.kp T.b_z39 (qbz (qaz (pv 0)) qcz)) qcz
theorem q29z:∀ds G Q,qcvz ds G Q->ds.length=2:=by
 intro ds G Q h;obtain⟨_,_,rfl,_⟩:=h;rfl
theorem q3az(T:Txt K mg t):FnOk3 P w K mg base 1 t.f_z16 t.d_z16 ["script","k"] qcvz:=by
 refine qfn3 (k:=0) (sp:=qcvz) T.F_z16 q1nz (by decide) q29z (qj7z) (fun cdv A outer s H E hr=>?_) qvpz;refine qgz ?_ (qez (qfz qdz));refine qqz (qnz qbpz (qboz hr.units0) (qaz (pv 1)) (q9z hr.units T.m_len (qbz (qaz (pv 0)) qcz)) (nomark _)) ?_ qpz;refine qez (qfz (qkz (qaz (pv 0)) (qaz (pv 1))))
theorem q3bz:∀ds G Q,qcfz ds G Q->ds.length=1:=by
 intro ds G Q h;obtain⟨_,rfl,_⟩:=h;rfl
theorem qmfz(T:Txt K mg t):FnOk3 P w K mg base 1 t.f_z37 t.d_z37 ["seed"] qcfz:=by
 refine qfn3 (k:=0) (sp:=qcfz) T.F_z37 sc_z37 (by decide) q3bz (qj8z) (fun cdv A outer s H E hr=>?_) qvqz;refine qgz (qoz (i:=0) sc_z37.nd (qiz qadz qaaz (qiz q8z q7z (qaz (pv 0)) qdz) qdz)) ?_;refine qez (qfz (qiz qadz qaaz ?_ qdz));refine qiz q8z q7z (qiz q8z q7z (qiz qafz qaez (qaz (pv 0)) (qaz (pv 0))) (qiz qafz qaez qdz (qaz (pv 0)))) qdz
theorem q3cz:∀ds G Q,qegz ds G Q->ds.length=1:=by
 intro ds G Q h;obtain⟨_,rfl,_⟩:=h;rfl
theorem q3dz(T:Txt K mg t):FnOk3 P w K mg base 1 t.f_z28 t.d_z28 ["cell"] qf0z:=by
 refine FnOk.imp ?_ qvuz;refine qfn3 (k:=0) (sp:=qegz) T.F_z28 sc_z28 (by decide) q3cz (qkaz) (fun cdv A outer s H E hr=>?_) qvtz;refine qgz (qoz (i:=1) sc_z28.nd (qttz hr.units T.m_max (qbz (qaz (pv 0)) (qbz (qiz qe4z qevz qdz (qaz (pv 0))) qcz)))) ?_;refine qez (qfz (qanz (qbz (qaz (pv 1)) ?_)));refine qbz (qtsz hr.units T.m_int (qbz (qasz l_ge qhkz (qaz (pv 1)) (qiz qqlz qnrz qdz qdz) (nomark _)) qcz)) ?_;refine qbz (qiz qadz qaaz (qaz (pv 1)) qdz) qcz
theorem q3ez:∀ds G Q,qefz ds G Q->ds.length=2:=by
 intro ds G Q h;obtain⟨_,_,_,_,_,rfl,_⟩:=h;rfl
theorem qauz(T:Txt K mg t):FnOk3 P w K mg base 2 t.f_z38 t.d_z38 ["pen","many"] qajz:=by
 refine FnOk.imp ?_ qvsz;refine qfn3 (k:=1) (sp:=qefz) T.F_z38 sc_z38 (by decide) q3ez (qj9z) (fun cdv A outer s H E hr=>?_) qvrz;refine qgz ?_ ?_;refine qqz (qnz l_eq (q2z hr.units) (qkz (qaz (pv 0)) qdz) qdz (nomark _)) ?_ qpz;refine qgz (qoz (i:=2) sc_z38.nd (qiz qadz qaaz (qkz (qaz (pv 0)) qdz) (qaz (pv 1)))) ?_;refine qgz (qfpz (qiz qb8z qb7z (qkz (qaz (pv 0)) qdz) (qaz (pv 1))) (qjrz (qaz (pv 0)) qdz)) (qez (qfz (qaz (pv 2))));refine qgz (qfpz ?_ (qjrz (qaz (pv 0)) qdz)) ?_;refine qjz ((qmfz T).mono (by decide)) hr T.m_z37 T.F_z37.kp T.b_z37 (qbz ?_ qcz);refine qiz q8z q7z (qjz ((qmfz T).mono (by decide)) hr T.m_z37 T.F_z37.kp T.b_z37 (qbz (qkz (qaz (pv 0)) qdz) qcz)) (qdz);refine qez (qfz (qiz qadz qaaz (qiz qb8z qb7z (qkz (qaz (pv 0)) qdz) qdz) (qaz (pv 1))))
theorem q3fz:∀ds G Q,qbdz ds G Q->ds.length=1:=by
 intro ds G Q h
 first
  | (rcases ds with _|⟨_,_|⟨_,_|⟨_,_|⟨_,_⟩⟩⟩⟩<;>first|rfl|exact h.elim)
  | (obtain⟨rfl,_⟩:=h;rfl)
  | (obtain⟨_,rfl,_⟩:=h;rfl)
  | (obtain⟨_,_,rfl,_⟩:=h;rfl)
  | (obtain⟨_,_,_,rfl,_⟩:=h;rfl)
  | (obtain⟨_,_,_,_,rfl,_⟩:=h;rfl)
  | (obtain⟨_,_,_,_,_,rfl,_⟩:=h;rfl)
  | (obtain⟨_,_,_,_,_,_,rfl,_⟩:=h;rfl)
  | (obtain⟨_,_,_,_,_,_,_,rfl,_⟩:=h;rfl)
  | (obtain⟨_,_,_,_,_,_,_,_,rfl,_⟩:=h;rfl)
theorem qhcz(T:Txt K mg t):FnH3 P w K mg base 1 t.f_z32 t.d_z32 ["found"] qbdz:=by
 refine qfnH (k:=0) (sp:=qbdz) T.F_z32 q1sz (by decide) q3fz (qvnz) (fun cdv A outer s H E hr=>?_) qvoz;refine qez (qfz ?_);refine qawz (qa4z qjgz rfl (qaz (pv 0)) T.m_isinstance T.m_int rfl (by decide) (by decide)) ?_;refine qbbz (qjqz (qa4z qjhz rfl (qaz (pv 0)) T.m_isinstance T.m_bool rfl (by decide) (by decide)))
theorem qmgz(T:Txt K mg t):FnOk3 P w K mg base 1 t.f_z32 t.d_z32 ["found"] qbdz:=(qhcz T).calm
theorem q3gz:∀ds G Q,(qckz rs) ds G Q->ds.length=1:=by
 intro ds G Q h
 first
  | (rcases ds with _|⟨_,_|⟨_,_|⟨_,_|⟨_,_⟩⟩⟩⟩<;>first|rfl|exact h.elim)
  | (obtain⟨rfl,_⟩:=h;rfl)
  | (obtain⟨_,rfl,_⟩:=h;rfl)
  | (obtain⟨_,_,rfl,_⟩:=h;rfl)
  | (obtain⟨_,_,_,rfl,_⟩:=h;rfl)
  | (obtain⟨_,_,_,_,rfl,_⟩:=h;rfl)
  | (obtain⟨_,_,_,_,_,rfl,_⟩:=h;rfl)
  | (obtain⟨_,_,_,_,_,_,rfl,_⟩:=h;rfl)
  | (obtain⟨_,_,_,_,_,_,_,rfl,_⟩:=h;rfl)
  | (obtain⟨_,_,_,_,_,_,_,_,rfl,_⟩:=h;rfl)
theorem qmhz(T:Txt K mg t):FnH3 P w K mg base 1 t.f_z18 t.d_z18 ["e"] (qckz rs):=by
 refine qfnH (k:=0) (sp:=(qckz rs)) T.F_z18 sc_z18 (by decide) q3gz (qlfz rs) (fun cdv A outer s H E hr=>?_) (qysz rs);refine qgz (qoz (i:=1) sc_z18.nd ?_) ?_;refine qanz (qbz (qbzz (T.isx_NoClock) (qaz (pv 0)) T.m_isinstance T.m_NoClock) ?_);refine qbz (qbzz (T.isx_NoNumber) (qaz (pv 0)) T.m_isinstance T.m_NoNumber) ?_;refine qbz (qbzz (T.isx_NoPlace) (qaz (pv 0)) T.m_isinstance T.m_NoPlace) (qbz (qbzz (T.isx_NoRow) (qaz (pv 0)) T.m_isinstance T.m_NoRow) qcz);refine qgz ?_ ?_;refine qoz (i:=1) sc_z18.nd (qiz q8z q7z (qaz (pv 1)) (qanz ?_));refine qbz (qbzz (T.isx_NoClocks) (qaz (pv 0)) T.m_isinstance T.m_NoClocks) ?_;refine qbz (qbzz (T.isx_NoText) (qaz (pv 0)) T.m_isinstance T.m_NoText) (qbz (qbzz (T.isx_TooGreat) (qaz (pv 0)) T.m_isinstance T.m_TooGreat) qcz);refine qgz (qqz (qamz ?_) (qez (qfz q4z)) qpz) (qez (qfz ?_));refine qaiz (q6z (q5z (qvgz (T.isv) (qaz (pv 0)) T.m_isinstance T.m_ValueError))) (qbaz ?_);refine qnz l_ne (qavz hr.units) (qd9z qu8z PySem.F.slot_list_count PySem.F.type_list_count qu6z (qaz (pv 1)) (qbz q3z qcz)) qdz (nomark _);refine qfqz (qbz q4z (qbz q4z (qbz q4z (qbz q4z (qbz q4z (qbz q4z (qbz q4z qcz))))))) ?_;refine qd9z qu9z PySem.F.slot_list_index PySem.F.type_list_index qu7z (qaz (pv 1)) (qbz q3z qcz)
theorem q3hz:∀ds G Q,(qc8z rs) ds G Q->ds.length=1:=by
 intro ds G Q h
 first
  | (rcases ds with _|⟨_,_|⟨_,_|⟨_,_|⟨_,_⟩⟩⟩⟩<;>first|rfl|exact h.elim)
  | (obtain⟨rfl,_⟩:=h;rfl)
  | (obtain⟨_,rfl,_⟩:=h;rfl)
  | (obtain⟨_,_,rfl,_⟩:=h;rfl)
  | (obtain⟨_,_,_,rfl,_⟩:=h;rfl)
  | (obtain⟨_,_,_,_,rfl,_⟩:=h;rfl)
  | (obtain⟨_,_,_,_,_,rfl,_⟩:=h;rfl)
  | (obtain⟨_,_,_,_,_,_,rfl,_⟩:=h;rfl)
  | (obtain⟨_,_,_,_,_,_,_,rfl,_⟩:=h;rfl)
  | (obtain⟨_,_,_,_,_,_,_,_,rfl,_⟩:=h;rfl)
theorem q3iz(T:Txt K mg t):FnH3 P w K mg base 2 t.f_z4 t.d_z4 ["e"] (qc8z rs):=by
 refine qfnH (k:=1) (sp:=(qc8z rs)) T.F_z4 q1vz (by decide) q3hz (qlgz rs) (fun cdv A outer s H E hr=>?_) (qyuz rs);refine qgz ?_ (qez (qfz (qxz (qbz q4z (qbz (qeez T.fld_many (qaz (pv 0))) (qbz (qeez T.fld_most (qaz (pv 0))) qcz))))));refine qqz (qamz ?_) (qez (qfz ?_)) qpz;refine qaiz (qnz l_ne (qavz hr.units) ?_ q4z (nomark _)) ?_;refine qcuz ((qmhz T).mono (by decide)) hr T.m_z18 T.F_z18.kp T.b_z18 (qbz (qaz (pv 0)) qcz);refine qaiz (q6z ?_) (qbaz (q6z ?_));refine q5z (qcuz ((qhcz T).mono (by decide)) hr T.m_z32 T.F_z32.kp T.b_z32 (qbz (qeez T.fld_many (qaz (pv 0))) qcz));refine q5z (qcuz ((qhcz T).mono (by decide)) hr T.m_z32 T.F_z32.kp T.b_z32 (qbz (qeez T.fld_most (qaz (pv 0))) qcz));refine qxz (qbz (qcuz ((qmhz T).mono (by decide)) hr T.m_z18 T.F_z18.kp T.b_z18 (qbz (qaz (pv 0)) qcz)) qcz)
theorem qmiz:∀ds G Q,qb2z ds G Q->ds.length=2:=by
 intro ds G Q h
 first
  | (rcases ds with _|⟨_,_|⟨_,_|⟨_,_|⟨_,_⟩⟩⟩⟩<;>first|rfl|exact h.elim)
  | (obtain⟨rfl,_⟩:=h;rfl)
  | (obtain⟨_,rfl,_⟩:=h;rfl)
  | (obtain⟨_,_,rfl,_⟩:=h;rfl)
  | (obtain⟨_,_,_,rfl,_⟩:=h;rfl)
  | (obtain⟨_,_,_,_,rfl,_⟩:=h;rfl)
  | (obtain⟨_,_,_,_,_,rfl,_⟩:=h;rfl)
  | (obtain⟨_,_,_,_,_,_,rfl,_⟩:=h;rfl)
  | (obtain⟨_,_,_,_,_,_,_,rfl,_⟩:=h;rfl)
  | (obtain⟨_,_,_,_,_,_,_,_,rfl,_⟩:=h;rfl)
theorem q3jz(T:Txt K mg t):FnOk3 P w K mg base 1 t.f_z41 t.d_z41 ["one","other"] qb2z:=by
 refine qfn3 (k:=0) (sp:=qb2z) T.F_z41 sc_z41 (by decide) qmiz (qksz) (fun cdv A outer s H E hr=>?_) qktz;refine qgz ?_ (qez (qfz (qaz (pv 0))));refine qd7z PassesOwn.never (qnz l_gt qewz (qaz (pv 1)) qdz (nomark _)) ?_;refine qez (qt2z (i:=0) (j:=1) rfl sc_z41.nd rfl rfl (by decide) rfl rfl ?_ rfl);refine qbz (qaz (pv 1)) (qbz (qiz qadz qaaz (qaz (pv 0)) (qaz (pv 1))) qcz)
theorem q3kz(T:Txt K mg t):FnP3 P w K mg base 1 t.f_z41 t.d_z41 ["one","other"] qb2z:=by
 refine qfnP (k:=0) (sp:=qb2z) T.F_z41 sc_z41 (by decide) qmiz (qksz) (fun cdv A outer s H E e oe hr hA=>?_) qktz;refine qgz ?_ (qez (qfz (qaz (pv 0))));refine qd7z PassesOwn.never (qnz l_gt qewz (qaz (pv 1)) qdz (nomark _)) ?_;refine qez (qzlz (i:=0) (j:=1) hA sc_z41.nd rfl rfl (by decide) rfl rfl ?_ rfl);refine qbz (qaz (pv 1)) (qbz (qiz qadz qaaz (qaz (pv 0)) (qaz (pv 1))) qcz)
theorem qmjz:∀ds G Q,qa5z ds G Q->ds.length=1:=by
 intro ds G Q h;obtain⟨_,rfl,_⟩:=h;rfl
theorem q3lz(T:Txt K mg t):FnOk3 P w K mg base 2 t.f_z30 t.d_z30 ["clocks"] qa5z:=by
 refine qfn3 (k:=1) (sp:=qa5z) T.F_z30 sc_z30 (by decide) qmjz (qkuz) (fun cdv A outer s H E hr=>?_) qkvz;refine qgz (qoz (i:=1) sc_z30.nd qdz) (qgz ?_ (qez (qfz (qaz (pv 1)))));refine qaxz PassesOwn.never rfl (qbtz (qaz (pv 0))) ?_ (qez ?_);refine qcrz rfl (qaoz (qrz (i:=2) sc_z30.nd) (qaoz (qrz (i:=3) sc_z30.nd) qccz));refine qoz (i:=1) sc_z30.nd (qiz qb8z qb7z (qiz qafz qaez (qaz (pv 1)) (qaz (pv 2))) ?_);refine qjz ((q3jz T).mono (by decide)) hr T.m_z41 T.F_z41.kp T.b_z41 (qbz (qaz (pv 1)) (qbz (qaz (pv 2)) qcz))
theorem q3mz(T:Txt K mg t):FnP3 P w K mg base 2 t.f_z30 t.d_z30 ["clocks"] qa5z:=by
 refine qfnP (k:=1) (sp:=qa5z) T.F_z30 sc_z30 (by decide) qmjz (qlnz) (fun cdv A outer s H E e oe hr hA=>?_) qzqz;refine qgz (qoz (i:=1) sc_z30.nd qdz) (qgz ?_ (qez (qfz (qaz (pv 1)))));refine qzkz PassesOwn.never hA (qaz (pv 0)) (qzjz hA (qaoz (qrz (i:=2) sc_z30.nd) (qaoz (qrz (i:=3) sc_z30.nd) qccz))) ?_;refine qez ?_;refine qoz (i:=1) sc_z30.nd (qiz qb8z qb7z (qiz qafz qaez (qaz (pv 1)) (qaz (pv 2))) ?_);refine qzhz ((q3kz T).mono (by decide)) hr hA T.m_z41 T.F_z41.kp T.b_z41 (qbz (qaz (pv 1)) (qbz (qaz (pv 2)) qcz))
theorem q3nz:∀ds G Q,qc0z ds G Q->ds.length=2:=by
 intro ds G Q h;obtain⟨_,_,rfl,_⟩:=h;rfl
theorem q3oz(T:Txt K mg t):FnOk3 P w K mg base 1 t.f_z42 t.d_z42 ["clocks","number"] qc0z:=by
 refine qfn3 (k:=0) (sp:=qc0z) T.F_z42 q1yz (by decide) q3nz (qkwz) (fun cdv A outer s H E hr=>?_) qwlz;refine qez (qfz ?_);refine qbvz rfl (show CmpOk ql4z (defScope qepz) _ ["clock"] [1] from⟨rfl,by decide +kernel,by decide +kernel,by decide +kernel,by decide +kernel,by decide +kernel⟩) ?_ ?_;refine qbtz (qaz (pv 0));intro s0 H0 fp0;refine⟨(qrz (i:=0) (show (["clock","number"]:List Str).Nodup by decide +kernel)),(qjsz ?_),(qaz (pv 0))⟩;refine qnz l_eq (q2z hr.units) (qiz qadz qaaz (qiz qe4z qevz (qaz (pv 1)) (qkz (qaz (pv 0)) qdz)) (qkz (qaz (pv 0)) qdz)) qdz (nomark _)
theorem q3pz:∀ds G Q,qc2z ds G Q->ds.length=2:=by
 intro ds G Q h;obtain⟨_,_,rfl,_⟩:=h;rfl
theorem q3qz(T:Txt K mg t):FnOk3 P w K mg base 3 t.f_z33 t.d_z33 ["pen","times"] qc2z:=by
 refine qfn3 (k:=2) (sp:=qc2z) T.F_z33 sc_z33 (by decide) q3pz (qk3z) (fun cdv A outer s H E hr=>?_) qw6z;refine qgz (qoz (i:=2) sc_z33.nd (qanz (qbz (qxz (qbz qdz (qbz qdz qcz))) qcz))) ?_;refine qgz ?_ (qez (qfz (qaz (pv 2))));refine qaxz PassesOwn.never rfl (qbuz T.m_range (qbz (qaz (pv 1)) qcz)) (qrz (i:=3) sc_z33.nd) ?_;refine qgz (qoz (i:=4) sc_z33.nd ?_) ?_;refine qjz ((qauz T).mono (by decide)) hr T.m_z38 T.F_z38.kp T.b_z38 ?_;refine qbz (qaz (pv 0)) (qbz (q9z hr.units T.m_len (qbz (qaz (pv 2)) qcz)) qcz);refine qgz ?_ ?_;refine qoz (i:=5) sc_z33.nd (qfqz (qbz qdz (qbz qdz (qbz qdz qcz))) ?_);refine qjz ((qauz T).mono (by decide)) hr T.m_z38 T.F_z38.kp T.b_z38 (qbz (qaz (pv 0)) (qbz qdz qcz));refine qgz ?_ (qez ?_);refine qfpz (qkz (qaz (pv 2)) (qaz (pv 4))) (qcrz rfl (qaoz (qrz (i:=6) sc_z33.nd) (qaoz (qrz (i:=7) sc_z33.nd) qccz)));refine qqz (qamz ?_) (qez (qoz (i:=2) sc_z33.nd ?_)) qpz;refine qd6z (qnz qbpz (qboz hr.units0) (qiz q8z q7z (q9z hr.units T.m_len (qbz (qaz (pv 2)) qcz)) (qaz (pv 5))) qdz (nomark _)) ?_;refine qd5z (qnz qbpz (qboz hr.units0) (qiz qafz qaez (qaz (pv 6)) (qaz (pv 5))) qdz (nomark _));refine qiz q8z q7z ?_ (qcsz (qaz (pv 2)) (qcez (qiz q8z q7z (qaz (pv 4)) qdz)) qd8z);refine qiz q8z q7z (qcsz (qaz (pv 2)) qd8z (qcez (qaz (pv 4)))) ?_;refine qbvz rfl (show CmpOk ql5z (defScope qeqz) _ ["part"] [6,5,7] from⟨rfl,by decide +kernel,by decide +kernel,by decide +kernel,by decide +kernel,by decide +kernel⟩) ?_ ?_;refine qbuz T.m_range (qbz (qaz (pv 5)) qcz);intro s0 H0 fp0;refine⟨(qrz (i:=0) (show (["part","step","k","rest"]:List Str).Nodup by decide +kernel)),qcdz,?_⟩;refine qxz (qbz (qiz qafz qaez (qaz (pv 1)) (qaz (pv 2))) ?_);refine qbz (qiz q8z q7z (qaz (pv 3)) (qiz qafz qaez (qaz (pv 1)) (qaz (pv 0)))) qcz
theorem q3rz:∀ds G Q,qc3z ds G Q->ds.length=1:=by
 intro ds G Q h;obtain⟨_,rfl,_⟩:=h;rfl
theorem q3sz(T:Txt K mg t):FnOk3 P w K mg base 4 t.f_z10 t.d_z10 ["pen"] qc3z:=by
 refine qfn3 (k:=3) (sp:=qc3z) T.F_z10 sc_z10 (by decide) q3rz (qk5z) (fun cdv A outer s H E hr=>?_) qxez;refine qgz (qoz (i:=1) sc_z10.nd ?_) (qgz (qoz (i:=2) sc_z10.nd (qanz qcz)) ?_);refine qjz ((qauz T).mono (by decide)) hr T.m_z38 T.F_z38.kp T.b_z38 (qbz (qaz (pv 0)) (qbz qdz qcz));refine qgz ?_ ?_;refine qqz (qnz qbpz (qboz hr.units0) (qaz (pv 1)) qdz (nomark _)) ?_ qpz;refine qgz (qoz (i:=2) sc_z10.nd ?_) (qez ?_);refine qjz ((q3qz T).mono (by decide)) hr T.m_z33 T.F_z33.kp T.b_z33 (qbz (qaz (pv 0)) ?_);refine qbz (qjz ((qauz T).mono (by decide)) hr T.m_z38 T.F_z38.kp T.b_z38 (qbz (qaz (pv 0)) (qbz qdz qcz))) qcz;refine qqz (qamz ?_) (qez (qfoz ?_)) qpz;refine qd6z (qnz l_eq (q2z hr.units) (qaz (pv 1)) qdz (nomark _)) (qd5z (qnz l_ne (qavz hr.units) (qaz (pv 2)) (qanz qcz) (nomark _)));refine qd9z qq5z PySem.F.slot_list_pop PySem.F.type_list_pop qouz (qaz (pv 2)) (qbz ?_ qcz);refine qjz ((qauz T).mono (by decide)) hr T.m_z38 T.F_z38.kp T.b_z38 ?_;refine qbz (qaz (pv 0)) (qbz (q9z hr.units T.m_len (qbz (qaz (pv 2)) qcz)) qcz);refine qgz (qoz (i:=3) sc_z10.nd (qanz (qbz qdz ?_))) ?_;refine qbz qdz (qbz qdz (qbz qdz (qbz qdz (qbz qdz (qbz qdz (qbz qdz (qbz qdz (qbz qdz qcz))))))));refine qgz ?_ ?_;refine qaxz PassesOwn.never rfl (qbuz T.m_range ?_) (qrz (i:=4) sc_z10.nd) ?_;refine qbz (qfqz (qbz qdz (qbz qdz (qbz qdz (qbz qdz (qbz qdz (qbz qdz qcz)))))) (qaz (pv 1))) qcz;refine qgz (qoz (i:=5) sc_z10.nd ?_) (qez (qfoz ?_));refine qkz (qaz (pv 3)) (qjz ((qauz T).mono (by decide)) hr T.m_z38 T.F_z38.kp T.b_z38 (qbz (qaz (pv 0)) (qbz qdz qcz)));refine qd9z qq3z PySem.F.slot_list_append PySem.F.type_list_append qhzz (qaz (pv 2)) (qbz (qxz (qbz (qaz (pv 5)) ?_)) qcz);refine qbz (qjz ((qauz T).mono (by decide)) hr T.m_z38 T.F_z38.kp T.b_z38 (qbz (qaz (pv 0)) (qbz (qaz (pv 5)) qcz))) (qcz);refine qez (qfz (qfrz hr.units T.m_tuple (qbz (qcsz (qtvz hr.units (qaz (pv 2)) T.m_sorted T.m_set) qd8z (qcez qdz)) qcz)))
theorem q3tz:∀ds G Q,qdez ds G Q->ds.length=1:=by
 intro ds G Q h;obtain⟨_,rfl,_⟩:=h;rfl
theorem q3uz(T:Txt K mg t):FnOk3 P w K mg base 3 t.f_z23 t.d_z23 ["clocks"] qdez:=by
 refine qfn3 (k:=2) (sp:=qdez) T.F_z23 q10z (by decide) q3tz (qlpz) (fun cdv A outer s H E hr=>?_) qzuz;refine qez (qfz ?_);refine qbvz rfl (show CmpOk ql6z (defScope qerz) _ ["number"] [0] from⟨rfl,by decide +kernel,by decide +kernel,by decide +kernel,by decide +kernel,by decide +kernel⟩) ?_ ?_;refine qbuz T.m_range (qbz (qjz ((q3lz T).mono (by decide)) hr T.m_z30 T.F_z30.kp T.b_z30 (qbz (qaz (pv 0)) qcz)) qcz);intro s0 H0 fp0;refine⟨(qrz (i:=0) (show (["number","clocks"]:List Str).Nodup by decide +kernel)),(qjsz (qnz l_eq (q2z hr.units) ?_ (qanz qcz) (nomark _))),?_⟩;refine qjz ((q3oz T).mono (by decide)) hr T.m_z42 T.F_z42.kp T.b_z42 (qbz (qaz (pv 1)) (qbz (qaz (pv 0)) qcz));refine qaz (pv 0)
theorem q3vz:∀ds G Q,qeiz ds G Q->ds.length=2:=by
 intro ds G Q h
 first
  | (rcases ds with _|⟨_,_|⟨_,_|⟨_,_|⟨_,_⟩⟩⟩⟩<;>first|rfl|exact h.elim)
  | (obtain⟨rfl,_⟩:=h;rfl)
  | (obtain⟨_,rfl,_⟩:=h;rfl)
  | (obtain⟨_,_,rfl,_⟩:=h;rfl)
  | (obtain⟨_,_,_,rfl,_⟩:=h;rfl)
  | (obtain⟨_,_,_,_,rfl,_⟩:=h;rfl)
  | (obtain⟨_,_,_,_,_,rfl,_⟩:=h;rfl)
  | (obtain⟨_,_,_,_,_,_,rfl,_⟩:=h;rfl)
  | (obtain⟨_,_,_,_,_,_,_,rfl,_⟩:=h;rfl)
  | (obtain⟨_,_,_,_,_,_,_,_,rfl,_⟩:=h;rfl)
theorem q3wz(T:Txt K mg t):FnOk3 P w K mg base 1 t.f_z15 t.d_z15 ["clock","k"] qeiz:=by
 refine qfn3 (k:=0) (sp:=qeiz) T.F_z15 q11z (by decide) q3vz (qwsz) (fun cdv A outer s H E hr=>?_) qwtz;refine qez (qfz ?_);refine qbvz rfl (show CmpOk ql7z (defScope qesz) _ ["part"] [0,1] from⟨rfl,by decide +kernel,by decide +kernel,by decide +kernel,by decide +kernel,by decide +kernel⟩) ?_ ?_;refine qbuz T.m_range (qbz (qaz (pv 1)) qcz);intro s0 H0 fp0;refine⟨(qrz (i:=0) (show (["part","clock","k"]:List Str).Nodup by decide +kernel)),qcdz,?_⟩;refine qxz (qbz (qiz qafz qaez (qkz (qaz (pv 1)) qdz) (qaz (pv 2))) ?_);refine qbz (qiz q8z q7z (qkz (qaz (pv 1)) qdz) (qiz qafz qaez (qkz (qaz (pv 1)) qdz) (qaz (pv 0)))) qcz
theorem q3xz:∀ds G Q,qdgz ds G Q->ds.length=2:=by
 intro ds G Q h;obtain⟨_,_,rfl,_⟩:=h;rfl
theorem q3yz(T:Txt K mg t):FnOk3 P w K mg base 1 t.f_z21 t.d_z21 ["clock","other"] qdgz:=by
 refine qfn3 (k:=0) (sp:=qdgz) T.F_z21 q13z (by decide) q3xz (qlwz) (fun cdv A outer s H E hr=>?_) qz4z;refine qez (qfz ?_);refine qawz (qasz l_eq (q2z hr.units) (qiz qadz qaaz (qkz (qaz (pv 0)) qdz) (qkz (qaz (pv 1)) qdz)) qdz (nomark _)) ?_;refine qbbz (qasz l_eq (q2z hr.units) ?_ qdz (nomark _));refine qiz qadz qaaz (qiz qe4z qevz (qkz (qaz (pv 0)) qdz) (qkz (qaz (pv 1)) qdz)) (qkz (qaz (pv 1)) qdz)
theorem q3zz(n:Nat):∀ds G Q,qbhz n ds G Q->ds.length=3:=by
 intro ds G Q h;obtain⟨_,_,_,_,_,rfl,_⟩:=h;rfl
theorem qmkz(T:Txt K mg t):∀n:Nat,FnOk3 P w K mg base (1+n) t.f_z9 t.d_z9 ["clocks","clock","thing"] (qbhz n)
 |0=>qeaz qz5z
 |n+1=>by
  have ih:=qmkz T n
  ·refine qfn3 (k:=1+n) (sp:=qbhz (n+1)) T.F_z9 sc_z9 (by decide) (q3zz (n+1)) (qlxz n) (fun cdv A outer s H E hr=>?_) (q0cz n);refine qgz (qqz (qamz ?_) (qez (qfz q3z)) qpz) ?_;refine qaiz (q6z (q5z (qa4z kit_tuple rfl (qaz (pv 2)) T.m_isinstance T.m_tuple rfl (by decide) (by decide)))) ?_;refine qaiz (qnz qbpz (qboz hr.units0) (q9z hr.units T.m_len (qbz (qaz (pv 2)) qcz)) qdz (nomark _)) ?_;refine qbaz (q6z (q5z (qa4z qsdz rfl (qkz (qaz (pv 2)) qdz) T.m_isinstance T.m_str rfl (by decide) (by decide))));refine qgz ?_ ?_;refine qqz (qnz l_eq (q2z hr.units) (qkz (qaz (pv 2)) qdz) q4z (nomark _)) ?_ qpz;refine qgz (qqz (qamz ?_) (qez (qfz q3z)) qpz) (qez (qfz ?_));refine qaiz (qnz l_ne (qavz hr.units) (q9z hr.units T.m_len (qbz (qaz (pv 2)) qcz)) qdz (nomark _)) ?_;refine qaiz (q6z (q5z ?_)) ?_;refine qjz ((qmgz T).mono (Nat.le_trans (by decide:_≤1) (Nat.le_add_right _ _))) hr T.m_z32 T.F_z32.kp T.b_z32 ?_;refine qbz (qkz (qaz (pv 2)) qdz) qcz;refine qbaz (qtxz (qkz (qaz (pv 2)) qdz) T.m_range (qbz (q9z hr.units T.m_len (qbz (qaz (pv 0)) qcz)) qcz));refine qjz ((q3yz T).mono (Nat.le_trans (by decide:_≤1) (Nat.le_add_right _ _))) hr T.m_z21 T.F_z21.kp T.b_z21 ?_;refine qbz (qaz (pv 1)) (qbz (qkz (qaz (pv 0)) (qkz (qaz (pv 2)) qdz)) qcz);refine qgz (qqz (qamz ?_) (qez (qfz q3z)) qpz) ?_;refine qaiz (qnz l_ne (qavz hr.units) (qkz (qaz (pv 2)) qdz) q4z (nomark _)) ?_;refine qaiz (qnz l_ne (qavz hr.units) (q9z hr.units T.m_len (qbz (qaz (pv 2)) qcz)) qdz (nomark _)) ?_;refine qaiz (q6z (q5z ?_)) (qbaz (qnz qbpz (qboz hr.units0) (qkz (qaz (pv 2)) qdz) qdz (nomark _)));refine qjz ((qmgz T).mono (Nat.le_trans (by decide:_≤1) (Nat.le_add_right _ _))) hr T.m_z32 T.F_z32.kp T.b_z32 ?_;refine qbz (qkz (qaz (pv 2)) qdz) qcz;refine qgz (qqz (qamz ?_) (qez (qfz q3z)) qpz) ?_;refine qaiz (q6z (q5z (qa4z kit_tuple rfl (qkz (qaz (pv 2)) qdz) T.m_isinstance T.m_tuple rfl (by decide) (by decide)))) ?_;refine qbaz (qnz l_ne (qavz hr.units) (q9z hr.units T.m_len (qbz (qkz (qaz (pv 2)) qdz) qcz)) (qkz (qaz (pv 2)) qdz) (nomark _));refine qgz (qoz (i:=3) sc_z9.nd ?_) (qez (qfz (qtwz hr.units T.m_all (qbz ?_ qcz))));refine qjz ((q3wz T).mono (Nat.le_trans (by decide:_≤1) (Nat.le_add_right _ _))) hr T.m_z15 T.F_z15.kp T.b_z15 ?_;refine qbz (qaz (pv 1)) (qbz (qkz (qaz (pv 2)) qdz) qcz);refine qbvz rfl (show CmpOk ql8z (defScope qetz) _ ["k"] [0,3,2] from⟨rfl,by decide +kernel,by decide +kernel,by decide +kernel,by decide +kernel,by decide +kernel⟩) ?_ ?_;refine qbuz T.m_range (qbz (q9z hr.units T.m_len (qbz (qaz (pv 3)) qcz)) qcz);intro s0 H0 fp0;refine⟨(qrz (i:=0) (show (["k","clocks","parts","thing"]:List Str).Nodup by decide +kernel)),qcdz,?_⟩;refine qjz (ih.mono (Nat.le_refl _)) hr T.m_z9 T.F_z9.kp T.b_z9 ?_;refine qbz (qaz (pv 1)) (qbz (qkz (qaz (pv 2)) (qaz (pv 0))) (qbz (qkz (qkz (qaz (pv 3)) qdz) (qaz (pv 0))) qcz))
theorem q30z(T:Txt K mg t):FnOk3 P w K mg base 41 t.f_z9 t.d_z9 ["clocks","clock","thing"] (qbhz 40):=(qmkz T 40)
theorem q31z:∀ds G Q,qddz ds G Q->ds.length=1:=by
 intro ds G Q h;obtain⟨_,rfl,_⟩:=h;rfl
theorem q32z(T:Txt K mg t):FnOk3 P w K mg base 3 t.f_z36 t.d_z36 ["pen"] qddz:=by
 refine qfn3 (k:=2) (sp:=qddz) T.F_z36 sc_z36 (by decide) q31z (qloz) (fun cdv A outer s H E hr=>?_) qztz;refine qgz (qoz (i:=1) sc_z36.nd (qanz ?_)) (qez (qfz ?_));refine qbz (qxz (qbz qdz ?_)) ?_;refine qbz (qjz ((qauz T).mono (by decide)) hr T.m_z38 T.F_z38.kp T.b_z38 (qbz (qaz (pv 0)) (qbz qdz qcz))) qcz;refine qbz (qxz (qbz qdz ?_)) ?_;refine qbz (qjz ((qauz T).mono (by decide)) hr T.m_z38 T.F_z38.kp T.b_z38 (qbz (qaz (pv 0)) (qbz qdz qcz))) qcz;refine qbz (qxz (qbz qdz ?_)) (qbz (qxz (qbz qdz (qbz qdz qcz))) qcz);refine qbz (qjz ((qauz T).mono (by decide)) hr T.m_z38 T.F_z38.kp T.b_z38 (qbz (qaz (pv 0)) (qbz qdz qcz))) qcz;refine qfrz hr.units T.m_tuple (qbz (qtuz hr.units T.m_sorted ?_) qcz);refine qbz (qcsz (qaz (pv 1)) qd8z (qcez (qiz q8z q7z qdz ?_))) qcz;refine qjz ((qauz T).mono (by decide)) hr T.m_z38 T.F_z38.kp T.b_z38 (qbz (qaz (pv 0)) (qbz qdz qcz))
theorem q33z:∀ds G Q,qb4z ds G Q->ds.length=1:=by
 intro ds G Q h
 first
  | (rcases ds with _|⟨_,_|⟨_,_|⟨_,_|⟨_,_⟩⟩⟩⟩<;>first|rfl|exact h.elim)
  | (obtain⟨rfl,_⟩:=h;rfl)
  | (obtain⟨_,rfl,_⟩:=h;rfl)
  | (obtain⟨_,_,rfl,_⟩:=h;rfl)
  | (obtain⟨_,_,_,rfl,_⟩:=h;rfl)
  | (obtain⟨_,_,_,_,rfl,_⟩:=h;rfl)
  | (obtain⟨_,_,_,_,_,rfl,_⟩:=h;rfl)
  | (obtain⟨_,_,_,_,_,_,rfl,_⟩:=h;rfl)
  | (obtain⟨_,_,_,_,_,_,_,rfl,_⟩:=h;rfl)
  | (obtain⟨_,_,_,_,_,_,_,_,rfl,_⟩:=h;rfl)
theorem qhdz(T:Txt K mg t):FnOk3 P w K mg base 44 t.f_z35 t.d_z35 ["clocks"] qb4z:=by
 refine qfn3 (k:=43) (sp:=qb4z) T.F_z35 sc_z35 (by decide) q33z (qlyz) (fun cdv A outer s H E hr=>?_) q0hz;refine qgz (qoz (i:=1) sc_z35.nd ?_) ?_;refine qbyz ((qhbz T).mono (by decide)) hr passN T.m_z19 T.F_z19.kp T.b_z19 (qbz (qaz (pv 0)) qcz);refine qgz ?_ ?_;refine qqz (qnz l_ne (qavz hr.units) ?_ (qaz (pv 1)) (nomark _)) (qez (qfz q3z)) qpz;refine qbyz ((qhbz T).mono (by decide)) hr passN T.m_z19 T.F_z19.kp T.b_z19 (qbz (qaz (pv 0)) qcz);refine qgz ?_ (qez (qfz ?_));refine qqz ?_ (qez (qfz (qasz l_is qhlz (qaz (pv 1)) qd4z (nomark _)))) qpz;refine qnz l_ne (qavz hr.units) (qjz ((q3uz T).mono (by decide)) hr T.m_z23 T.F_z23.kp T.b_z23 (qbz (qaz (pv 0)) qcz)) ?_ (nomark _);refine qanz qcz;refine qawz ?_ (qbbz (qasz qtdz qtcz ?_ q3z (nomark _)));refine qjz ((q30z T).mono (by decide)) hr T.m_z9 T.F_z9.kp T.b_z9 ?_;refine qbz (qaz (pv 0)) (qbz (qxz (qbz qdz (qbz qdz qcz))) (qbz (qaz (pv 1)) qcz));refine qjz ((q25z T).mono (by decide)) hr T.m_z0 T.F_z0.kp T.b_z0 ?_;refine qbz (qaz (pv 0)) (qbz (qaz (pv 1)) qcz)
theorem q34z:∀ds G Q,qdhz ds G Q->ds.length=1:=by
 intro ds G Q h
 first
  | (rcases ds with _|⟨_,_|⟨_,_|⟨_,_|⟨_,_⟩⟩⟩⟩<;>first|rfl|exact h.elim)
  | (obtain⟨rfl,_⟩:=h;rfl)
  | (obtain⟨_,rfl,_⟩:=h;rfl)
  | (obtain⟨_,_,rfl,_⟩:=h;rfl)
  | (obtain⟨_,_,_,rfl,_⟩:=h;rfl)
  | (obtain⟨_,_,_,_,rfl,_⟩:=h;rfl)
  | (obtain⟨_,_,_,_,_,rfl,_⟩:=h;rfl)
  | (obtain⟨_,_,_,_,_,_,rfl,_⟩:=h;rfl)
  | (obtain⟨_,_,_,_,_,_,_,rfl,_⟩:=h;rfl)
  | (obtain⟨_,_,_,_,_,_,_,_,rfl,_⟩:=h;rfl)
theorem q35z(T:Txt K mg t):FnOk3 P w K mg base 44 t.f_z20 t.d_z20 ["clocks"] qdhz:=by
 refine qfn3 (k:=43) (sp:=qdhz) T.F_z20 sc_z20 (by decide) q34z (qlzz rs) (fun cdv A outer s H E hr=>?_) q0jz;refine qzmz (i:=1) (names:=rs) frame0 T.takes T.m_ClockError sc_z20.nd ?_ ?_ (qez (qfz q3z));refine qvdz (qvcz ((qhbz T).mono (by decide)) hr T.m_z19 T.F_z19.kp T.b_z19 (qbz (qaz (pv 0)) qcz)) qvez;intro e0;refine qez (qfz ?_);refine qasz l_eq (q2z hr.units) ?_ (qxz (qbz q4z ?_)) (nomark _);refine qcuz ((q3iz T).mono (by decide)) hr.h.mark T.m_z4 T.F_z4.kp T.b_z4 (qbz (qaz (pv 1)) qcz);refine qbz (qziz ((q3mz T).mono (by decide)) hr.h.mark rfl T.m_z30 T.F_z30.kp T.b_z30 (qbz (qaz (pv 0)) qcz)) ?_;refine qbz qdz qcz
theorem q36z:∀ds G Q,sp_law ds G Q->ds.length=1:=by
 intro ds G Q h;obtain⟨_,rfl,_⟩:=h;rfl
theorem ok_law(T:Txt K mg t):FnOk3 P w K mg base 45 t.f_law t.d_law ["script"] sp_law:=by
 refine qfn3 (k:=44) (sp:=sp_law) T.F_law sc_law (by decide) q36z (ql0z) (fun cdv A outer s H E hr=>?_) q0pz;refine qgz (qqz (qamz ?_) (qez (qfz q3z)) qpz) (qgz ?_ (qez (qfz q3z)));refine qaiz (q6z (q5z (qjz ((qhdz T).mono (by decide)) hr T.m_z35 T.F_z35.kp T.b_z35 (qbz (qxz qcz) qcz)))) ?_;refine qbaz (q6z (q5z ?_));refine qjz ((qhdz T).mono (by decide)) hr T.m_z35 T.F_z35.kp T.b_z35 ?_;refine qbz (qxz (qbz (qxz (qbz qdz (qbz qdz qcz))) qcz)) qcz;refine qaxz PassesOwn.never rfl (qbtz ?_) (qrz (i:=1) sc_law.nd) ?_;refine qiz q8z q7z (qanz ?_) (qcsz (qaz (pv 0)) (qcez qdz) (qcez qdz));refine qbz (qjz ((q3az T).mono (by decide)) hr T.m_z16 T.F_z16.kp T.b_z16 (qbz (qaz (pv 0)) (qbz qdz qcz))) (qcz);refine qgz ?_ (qez (qqz (qamz ?_) (qez (qfz q3z)) qpz));refine qoz (i:=2) sc_law.nd (qjz ((q3dz T).mono (by decide)) hr T.m_z28 T.F_z28.kp T.b_z28 (qbz (qaz (pv 1)) qcz));refine qaiz (q6z (q5z ?_)) (qbaz (q6z (q5z ?_)));refine qjz ((qhdz T).mono (by decide)) hr T.m_z35 T.F_z35.kp T.b_z35 ?_;refine qbz (qjz ((q3sz T).mono (by decide)) hr T.m_z10 T.F_z10.kp T.b_z10 (qbz (qaz (pv 2)) qcz)) qcz;refine qjz ((q35z T).mono (by decide)) hr T.m_z20 T.F_z20.kp T.b_z20 ?_;refine qbz (qjz ((q32z T).mono (by decide)) hr T.m_z36 T.F_z36.kp T.b_z36 (qbz (qaz (pv 2)) qcz)) qcz
end
def Has(K:PySem.W.Frag)(nm:Str)(st:Stmt):Prop:=∃f d,Fun K nm nm st f d/\PySem.W.nsIn K mainGlobals nm=some (some (.ref f))
theorem has_mk{K:PySem.W.Frag}{nm:Str}{st:Stmt}{f:Addr}{od an:Option Addr}{sl:Array (Option Value)}{oc kV dc pm cd ct:Value}(a:PySem.W.nsIn K mainGlobals nm=some (some (.ref f)))(l:K.lookup f=some ⟨oc,od,.func (PySem.W.fnOf nm nm (defArgs st) (defBody st) (defScope st) .none kV dc pm an cd ct),sl⟩)(c:PySem.W.codeIn K cd nm=true)(k:PySem.W.keepIn K (.ref f)=true):Has K nm st:=⟨f,_,qh1z l c k,a⟩
theorem txt_mk{K:PySem.W.Frag}{h:Heap}{mg:Str->Option Value}(X:K.In h)(G:h.Ns mainGlobals mg)
  (h0:Has K "whole_good" qgez)
  (h1:Has K "place_good" qgfz)
  (h2:Has K "split_form_good" qggz)
  (h3:Has K "refuse_above" qghz)
  (h4:Has K "common_divisor" qgiz)
  (h5:Has K "common_multiple" qgjz)
  (h6:Has K "least_factor" qgkz)
  (h7:Has K "counts_within" qglz)
  (h8:Has K "first_counted" qgmz)
  (h9:Has K "rings" qgnz)
  (h10:Has K "round_of" qemz)
  (h11:Has K "inside_of" qgoz)
  (h12:Has K "parts_of" qenz)
  (h13:Has K "covers" qgpz)
  (h14:Has K "first_missed" qgqz)
  (h15:Has K "first_within" qgrz)
  (h16:Has K "cover_paper_good" qgsz)
  (h17:Has K "paper_good" qgtz)
  (h18:Has K "papers_good" qguz)
  (h19:Has K "cover_paper" qgvz)
  (h20:Has K "paper_for" qeoz)
  (h21:Has K "_law_cell_at" qgwz)
  (h22:Has K "_law_next" qgxz)
  (h23:Has K "_law_pen_of" qgyz)
  (h24:Has K "_law_draw" qgzz)
  (h25:Has K "_law_whole" qg0z)
  (h26:Has K "_law_kind_of" qg1z)
  (h27:Has K "_law_great_told" qg2z)
  (h28:Has K "_law_gcd" qg3z)
  (h29:Has K "_law_round" qg4z)
  (h30:Has K "_law_at" qepz)
  (h31:Has K "_law_split" qeqz)
  (h32:Has K "_law_clocks_of" qg5z)
  (h33:Has K "_law_missed" qerz)
  (h34:Has K "_law_parts_of" qesz)
  (h35:Has K "_law_within" qg6z)
  (h36:Has K "_law_paper_due" qetz)
  (h37:Has K "_law_wide" qg7z)
  (h38:Has K "_law_right" qg8z)
  (h39:Has K "_law_refused" qg9z)
  (h40:Has K "law" qhaz)
  {C_ClockError:Addr} (n_ClockError:PySem.W.nsIn K mainGlobals "ClockError" = some (some (.ref C_ClockError)))
  {C_NoClock:Addr} (n_NoClock:PySem.W.nsIn K mainGlobals "NoClock" = some (some (.ref C_NoClock)))
  {C_NoNumber:Addr} (n_NoNumber:PySem.W.nsIn K mainGlobals "NoNumber" = some (some (.ref C_NoNumber)))
  {C_NoPlace:Addr} (n_NoPlace:PySem.W.nsIn K mainGlobals "NoPlace" = some (some (.ref C_NoPlace)))
  {C_NoRow:Addr} (n_NoRow:PySem.W.nsIn K mainGlobals "NoRow" = some (some (.ref C_NoRow)))
  {C_NoClocks:Addr} (n_NoClocks:PySem.W.nsIn K mainGlobals "NoClocks" = some (some (.ref C_NoClocks)))
  {C_NoText:Addr} (n_NoText:PySem.W.nsIn K mainGlobals "NoText" = some (some (.ref C_NoText)))
  {C_TooGreat:Addr} (n_TooGreat:PySem.W.nsIn K mainGlobals "TooGreat" = some (some (.ref C_TooGreat)))
  {fi_TooGreat:Addr} (i_TooGreat:PySem.W.findIn K (.ref C_TooGreat) "__init__" = some (some (.ref fi_TooGreat)))
  {qd_TooGreat qn_TooGreat:Option Addr} {qs_TooGreat:Array (Option Value)} {qc_TooGreat qk_TooGreat qo_TooGreat qp_TooGreat qe_TooGreat qt_TooGreat:Value} (j_TooGreat:K.lookup fi_TooGreat=some ⟨qc_TooGreat,qd_TooGreat,.func (PySem.W.fnOf "__init__" "TooGreat.__init__" (defArgs qclz) (defBody qclz) (defScope qclz) .none qk_TooGreat qo_TooGreat qp_TooGreat qn_TooGreat qe_TooGreat qt_TooGreat),qs_TooGreat⟩) (h_TooGreat:PySem.W.codeIn K qe_TooGreat "TooGreat.__init__" = true) (g_TooGreat:PySem.W.keepIn K (.ref fi_TooGreat)=true) (y_TooGreat:PySem.W.typeIn K (.ref fi_TooGreat)=some (.type "function"))
  (e_TooGreat:excIn K C_TooGreat (.ref C_ClockError::veTail) (some (.ref fi_TooGreat)) "ValueError.__new__" = true)
  (v1_TooGreat:PySem.W.findIn K (.ref C_TooGreat) "__setattr__" = some (some (.builtin "object.__setattr__"))) (v2_TooGreat:PySem.W.mroIn K C_TooGreat (.type "object")=some true) (v3_TooGreat:PySem.W.keepIn K (.ref C_TooGreat)=true) (v4_TooGreat:PySem.W.findIn K (.ref C_TooGreat) "__getattribute__" = some (some (.builtin "BaseException.__getattribute__"))) (v8_TooGreat:PySem.W.findIn K (.ref C_TooGreat) "__getattr__" = some none) (v9_TooGreat:PySem.W.mroIn K C_TooGreat (.type "BaseException")=some true) (v5_TooGreat:PySem.W.hasDictIn K C_TooGreat=true) (v6_TooGreat:PySem.W.findIn K (.ref C_TooGreat) "__class__" = some (some (.builtin "object.__class__")))
  (w_TooGreat_many:PySem.W.findIn K (.ref C_TooGreat) "many" = some none)
  (w_TooGreat_most:PySem.W.findIn K (.ref C_TooGreat) "most" = some none)
  (x_TooGreat_NoClock:PySem.W.kitOne K (.ref C_TooGreat) (.ref C_NoClock)=some false)
  (x_TooGreat_NoClocks:PySem.W.kitOne K (.ref C_TooGreat) (.ref C_NoClocks)=some false)
  (x_TooGreat_NoNumber:PySem.W.kitOne K (.ref C_TooGreat) (.ref C_NoNumber)=some false)
  (x_TooGreat_NoPlace:PySem.W.kitOne K (.ref C_TooGreat) (.ref C_NoPlace)=some false)
  (x_TooGreat_NoRow:PySem.W.kitOne K (.ref C_TooGreat) (.ref C_NoRow)=some false)
  (x_TooGreat_NoText:PySem.W.kitOne K (.ref C_TooGreat) (.ref C_NoText)=some false)
  (x_TooGreat_TooGreat:PySem.W.kitOne K (.ref C_TooGreat) (.ref C_TooGreat)=some true)
  (xv_TooGreat:PySem.W.kitOne K (.ref C_TooGreat) (.type "ValueError")=some true)
  (eb:excIn K C_ClockError veTail none "ValueError.__new__" = true) (u1:PySem.W.specialIn K (.builtin "object.__class__") "__get__" = some (some (.builtin "getset_descriptor.__get__"))) (u2:PySem.W.takesIn K (.builtin "object.__class__")=some true)
  {t0:Tok} (gint0:PySem.W.nsIn K mainGlobals "MOST_NUMBERS" = some (some (.int 10000 t0)))
  (z0:PySem.W.nsIn K mainGlobals "ValueError" = some none)
  (z1:PySem.W.nsIn K mainGlobals "all" = some none)
  (z2:PySem.W.nsIn K mainGlobals "bool" = some none)
  (z3:PySem.W.nsIn K mainGlobals "enumerate" = some none)
  (z4:PySem.W.nsIn K mainGlobals "int" = some none)
  (z5:PySem.W.nsIn K mainGlobals "isinstance" = some none)
  (z6:PySem.W.nsIn K mainGlobals "len" = some none)
  (z7:PySem.W.nsIn K mainGlobals "max" = some none)
  (z8:PySem.W.nsIn K mainGlobals "range" = some none)
  (z9:PySem.W.nsIn K mainGlobals "set" = some none)
  (z10:PySem.W.nsIn K mainGlobals "sorted" = some none)
  (z11:PySem.W.nsIn K mainGlobals "str" = some none)
  (z12:PySem.W.nsIn K mainGlobals "tuple" = some none)
  (z13:PySem.W.nsIn K mainGlobals "zip" = some none)
  : ∃t:Adr,Txt K mg t/\∀(s:Shared) (v:Value),BindsTo s t.d_law ⟨[v],[]⟩ [("script",v)]:=by
 obtain⟨f0,d0,F0,a0⟩:=h0;obtain⟨f1,d1,F1,a1⟩:=h1;obtain⟨f2,d2,F2,a2⟩:=h2;obtain⟨f3,d3,F3,a3⟩:=h3;obtain⟨f4,d4,F4,a4⟩:=h4;obtain⟨f5,d5,F5,a5⟩:=h5;obtain⟨f6,d6,F6,a6⟩:=h6;obtain⟨f7,d7,F7,a7⟩:=h7;obtain⟨f8,d8,F8,a8⟩:=h8;obtain⟨f9,d9,F9,a9⟩:=h9;obtain⟨f10,d10,F10,a10⟩:=h10;obtain⟨f11,d11,F11,a11⟩:=h11;obtain⟨f12,d12,F12,a12⟩:=h12;obtain⟨f13,d13,F13,a13⟩:=h13;obtain⟨f14,d14,F14,a14⟩:=h14;obtain⟨f15,d15,F15,a15⟩:=h15;obtain⟨f16,d16,F16,a16⟩:=h16;obtain⟨f17,d17,F17,a17⟩:=h17;obtain⟨f18,d18,F18,a18⟩:=h18;obtain⟨f19,d19,F19,a19⟩:=h19;obtain⟨f20,d20,F20,a20⟩:=h20;obtain⟨f21,d21,F21,a21⟩:=h21;obtain⟨f22,d22,F22,a22⟩:=h22;obtain⟨f23,d23,F23,a23⟩:=h23;obtain⟨f24,d24,F24,a24⟩:=h24;obtain⟨f25,d25,F25,a25⟩:=h25;obtain⟨f26,d26,F26,a26⟩:=h26;obtain⟨f27,d27,F27,a27⟩:=h27;obtain⟨f28,d28,F28,a28⟩:=h28;obtain⟨f29,d29,F29,a29⟩:=h29;obtain⟨f30,d30,F30,a30⟩:=h30;obtain⟨f31,d31,F31,a31⟩:=h31;obtain⟨f32,d32,F32,a32⟩:=h32;obtain⟨f33,d33,F33,a33⟩:=h33;obtain⟨f34,d34,F34,a34⟩:=h34;obtain⟨f35,d35,F35,a35⟩:=h35;obtain⟨f36,d36,F36,a36⟩:=h36;obtain⟨f37,d37,F37,a37⟩:=h37;obtain⟨f38,d38,F38,a38⟩:=h38;obtain⟨f39,d39,F39,a39⟩:=h39;obtain⟨f40,d40,F40,a40⟩:=h40;have I_TooGreat:=qh1z (st:=qclz) j_TooGreat h_TooGreat g_TooGreat;exact⟨⟨f0,d0,f1,d1,f2,d2,f3,d3,f4,d4,f5,d5,f6,d6,f7,d7,f8,d8,f9,d9,f10,d10,f11,d11,f12,d12,f13,d13,f14,d14,f15,d15,f16,d16,f17,d17,f18,d18,f19,d19,f20,d20,f21,d21,f22,d22,f23,d23,f24,d24,f25,d25,f26,d26,f27,d27,f28,d28,f29,d29,f30,d30,f31,d31,f32,d32,f33,d33,f34,d34,f35,d35,f36,d36,f37,d37,f38,d38,f39,d39,f40,d40,C_ClockError,C_NoClock,C_NoNumber,C_NoPlace,C_NoRow,C_NoClocks,C_NoText,C_TooGreat,fi_TooGreat,_,t0⟩,⟨F0,
  PySem.W.mg_of X G a0,
  F0.binds (ps:=["thing"]) fun _ _ _ _ _ _ us hl=>by obtain⟨_,rfl⟩:=len1 hl;rfl,
  F1,
  PySem.W.mg_of X G a1,
  F1.binds (ps:=["things","thing"]) fun _ _ _ _ _ _ us hl=>by obtain⟨_,_,rfl⟩:=len2 hl;rfl,
  F2,
  PySem.W.mg_of X G a2,
  F2.binds (ps:=["k","papers"]) fun _ _ _ _ _ _ us hl=>by obtain⟨_,_,rfl⟩:=len2 hl;rfl,
  F3,
  PySem.W.mg_of X G a3,
  F3.binds (ps:=["many","most"]) fun _ _ _ _ _ _ us hl=>by obtain⟨_,_,rfl⟩:=len2 hl;rfl,
  F4,
  PySem.W.mg_of X G a4,
  F4.binds (ps:=["one","other"]) fun _ _ _ _ _ _ us hl=>by obtain⟨_,_,rfl⟩:=len2 hl;rfl,
  F5,
  PySem.W.mg_of X G a5,
  F5.binds (ps:=["numbers"]) fun _ _ _ _ _ _ us hl=>by obtain⟨_,rfl⟩:=len1 hl;rfl,
  F6,
  PySem.W.mg_of X G a6,
  F6.binds (ps:=["number"]) fun _ _ _ _ _ _ us hl=>by obtain⟨_,rfl⟩:=len1 hl;rfl,
  F7,
  PySem.W.mg_of X G a7,
  F7.binds (ps:=["clocks","many"]) fun _ _ _ _ _ _ us hl=>by obtain⟨_,_,rfl⟩:=len2 hl;rfl,
  F8,
  PySem.W.mg_of X G a8,
  F8.binds (ps:=["clock","counts","many"]) fun _ _ _ _ _ _ us hl=>by obtain⟨_,_,_,rfl⟩:=len3 hl;rfl,
  F9,
  PySem.W.mg_of X G a9,
  F9.binds (ps:=["clock","number"]) fun _ _ _ _ _ _ us hl=>by obtain⟨_,_,rfl⟩:=len2 hl;rfl,
  F10,
  PySem.W.mg_of X G a10,
  F10.binds (ps:=["clocks"]) fun _ _ _ _ _ _ us hl=>by obtain⟨_,rfl⟩:=len1 hl;rfl,
  F11,
  PySem.W.mg_of X G a11,
  F11.binds (ps:=["one","other"]) fun _ _ _ _ _ _ us hl=>by obtain⟨_,_,rfl⟩:=len2 hl;rfl,
  F12,
  PySem.W.mg_of X G a12,
  F12.binds (ps:=["clock","k"]) fun _ _ _ _ _ _ us hl=>by obtain⟨_,_,rfl⟩:=len2 hl;rfl,
  F13,
  PySem.W.mg_of X G a13,
  F13.binds (ps:=["clocks"]) fun _ _ _ _ _ _ us hl=>by obtain⟨_,rfl⟩:=len1 hl;rfl,
  F14,
  PySem.W.mg_of X G a14,
  F14.binds (ps:=["clocks"]) fun _ _ _ _ _ _ us hl=>by obtain⟨_,rfl⟩:=len1 hl;rfl,
  F15,
  PySem.W.mg_of X G a15,
  F15.binds (ps:=["clocks","clock"]) fun _ _ _ _ _ _ us hl=>by obtain⟨_,_,rfl⟩:=len2 hl;rfl,
  F16,
  PySem.W.mg_of X G a16,
  F16.binds (ps:=["clocks","thing"]) fun _ _ _ _ _ _ us hl=>by obtain⟨_,_,rfl⟩:=len2 hl;rfl,
  F17,
  PySem.W.mg_of X G a17,
  F17.binds (ps:=["clocks","thing","clock"]) fun _ _ _ _ _ _ us hl=>by obtain⟨_,_,_,rfl⟩:=len3 hl;rfl,
  F18,
  PySem.W.mg_of X G a18,
  F18.binds (ps:=["clocks","k","papers","clock"]) fun _ _ _ _ _ _ us hl=>by obtain⟨_,_,_,_,rfl⟩:=len4 hl;rfl,
  F19,
  PySem.W.mg_of X G a19,
  F19.binds (ps:=["clocks"]) fun _ _ _ _ _ _ us hl=>by obtain⟨_,rfl⟩:=len1 hl;rfl,
  F20,
  PySem.W.mg_of X G a20,
  F20.binds (ps:=["clocks","clock","many"]) fun _ _ _ _ _ _ us hl=>by obtain⟨_,_,_,rfl⟩:=len3 hl;rfl,
  F21,
  PySem.W.mg_of X G a21,
  F21.binds (ps:=["script","k"]) fun _ _ _ _ _ _ us hl=>by obtain⟨_,_,rfl⟩:=len2 hl;rfl,
  F22,
  PySem.W.mg_of X G a22,
  F22.binds (ps:=["seed"]) fun _ _ _ _ _ _ us hl=>by obtain⟨_,rfl⟩:=len1 hl;rfl,
  F23,
  PySem.W.mg_of X G a23,
  F23.binds (ps:=["cell"]) fun _ _ _ _ _ _ us hl=>by obtain⟨_,rfl⟩:=len1 hl;rfl,
  F24,
  PySem.W.mg_of X G a24,
  F24.binds (ps:=["pen","many"]) fun _ _ _ _ _ _ us hl=>by obtain⟨_,_,rfl⟩:=len2 hl;rfl,
  F25,
  PySem.W.mg_of X G a25,
  F25.binds (ps:=["found"]) fun _ _ _ _ _ _ us hl=>by obtain⟨_,rfl⟩:=len1 hl;rfl,
  F26,
  PySem.W.mg_of X G a26,
  F26.binds (ps:=["e"]) fun _ _ _ _ _ _ us hl=>by obtain⟨_,rfl⟩:=len1 hl;rfl,
  F27,
  PySem.W.mg_of X G a27,
  F27.binds (ps:=["e"]) fun _ _ _ _ _ _ us hl=>by obtain⟨_,rfl⟩:=len1 hl;rfl,
  F28,
  PySem.W.mg_of X G a28,
  F28.binds (ps:=["one","other"]) fun _ _ _ _ _ _ us hl=>by obtain⟨_,_,rfl⟩:=len2 hl;rfl,
  F29,
  PySem.W.mg_of X G a29,
  F29.binds (ps:=["clocks"]) fun _ _ _ _ _ _ us hl=>by obtain⟨_,rfl⟩:=len1 hl;rfl,
  F30,
  PySem.W.mg_of X G a30,
  F30.binds (ps:=["clocks","number"]) fun _ _ _ _ _ _ us hl=>by obtain⟨_,_,rfl⟩:=len2 hl;rfl,
  F31,
  PySem.W.mg_of X G a31,
  F31.binds (ps:=["pen","times"]) fun _ _ _ _ _ _ us hl=>by obtain⟨_,_,rfl⟩:=len2 hl;rfl,
  F32,
  PySem.W.mg_of X G a32,
  F32.binds (ps:=["pen"]) fun _ _ _ _ _ _ us hl=>by obtain⟨_,rfl⟩:=len1 hl;rfl,
  F33,
  PySem.W.mg_of X G a33,
  F33.binds (ps:=["clocks"]) fun _ _ _ _ _ _ us hl=>by obtain⟨_,rfl⟩:=len1 hl;rfl,
  F34,
  PySem.W.mg_of X G a34,
  F34.binds (ps:=["clock","k"]) fun _ _ _ _ _ _ us hl=>by obtain⟨_,_,rfl⟩:=len2 hl;rfl,
  F35,
  PySem.W.mg_of X G a35,
  F35.binds (ps:=["clock","other"]) fun _ _ _ _ _ _ us hl=>by obtain⟨_,_,rfl⟩:=len2 hl;rfl,
  F36,
  PySem.W.mg_of X G a36,
  F36.binds (ps:=["clocks","clock","thing"]) fun _ _ _ _ _ _ us hl=>by obtain⟨_,_,_,rfl⟩:=len3 hl;rfl,
  F37,
  PySem.W.mg_of X G a37,
  F37.binds (ps:=["pen"]) fun _ _ _ _ _ _ us hl=>by obtain⟨_,rfl⟩:=len1 hl;rfl,
  F38,
  PySem.W.mg_of X G a38,
  F38.binds (ps:=["clocks"]) fun _ _ _ _ _ _ us hl=>by obtain⟨_,rfl⟩:=len1 hl;rfl,
  F39,
  PySem.W.mg_of X G a39,
  F39.binds (ps:=["clocks"]) fun _ _ _ _ _ _ us hl=>by obtain⟨_,rfl⟩:=len1 hl;rfl,
  F40,
  PySem.W.mg_of X G a40,
  F40.binds (ps:=["script"]) fun _ _ _ _ _ _ us hl=>by obtain⟨_,rfl⟩:=len1 hl;rfl,
  PySem.W.mg_of X G n_ClockError,
  n_ClockError,
  PySem.W.mg_of X G n_NoClock,
  n_NoClock,
  PySem.W.mg_of X G n_NoNumber,
  n_NoNumber,
  PySem.W.mg_of X G n_NoPlace,
  n_NoPlace,
  PySem.W.mg_of X G n_NoRow,
  n_NoRow,
  PySem.W.mg_of X G n_NoClocks,
  n_NoClocks,
  PySem.W.mg_of X G n_NoText,
  n_NoText,
  PySem.W.mg_of X G n_TooGreat,
  n_TooGreat,
  ⟨⟨e_TooGreat,eb⟩,⟨v1_TooGreat,v2_TooGreat,qvjz e_TooGreat,fun n hn=>by
   simp only[List.mem_cons,List.not_mem_nil,or_false] at hn;rcases hn with rfl|rfl
   ·exact w_TooGreat_many
   ·exact w_TooGreat_most⟩,I_TooGreat,q18z,.cons ⟨⟨_,_,_,_,rfl⟩,by decide⟩ (.cons ⟨⟨_,_,_,_,rfl⟩,by decide⟩ (.nil)),by decide +kernel,I_TooGreat.binds (ps:=["self","many","most"]) (fun _ _ _ _ _ _ us hl=>by obtain⟨_,_,_,rfl⟩:=len3 hl;rfl),v3_TooGreat,by decide,qvlz y_TooGreat⟩,
  ⟨⟨v4_TooGreat,v8_TooGreat,v9_TooGreat⟩,qvkz e_TooGreat,v6_TooGreat,u1,u2,v2_TooGreat⟩,
  x_TooGreat_NoClock,
  x_TooGreat_NoClocks,
  x_TooGreat_NoNumber,
  x_TooGreat_NoPlace,
  x_TooGreat_NoRow,
  x_TooGreat_NoText,
  x_TooGreat_TooGreat,
  xv_TooGreat,
  ⟨⟨v4_TooGreat,v8_TooGreat,v9_TooGreat⟩,v5_TooGreat,w_TooGreat_many⟩,
  ⟨⟨v4_TooGreat,v8_TooGreat,v9_TooGreat⟩,v5_TooGreat,w_TooGreat_most⟩,
  PySem.W.mg_of X G gint0,
  PySem.W.mg_none_of X G z0,
  PySem.W.mg_none_of X G z1,
  PySem.W.mg_none_of X G z2,
  PySem.W.mg_none_of X G z3,
  PySem.W.mg_none_of X G z4,
  PySem.W.mg_none_of X G z5,
  PySem.W.mg_none_of X G z6,
  PySem.W.mg_none_of X G z7,
  PySem.W.mg_none_of X G z8,
  PySem.W.mg_none_of X G z9,
  PySem.W.mg_none_of X G z10,
  PySem.W.mg_none_of X G z11,
  PySem.W.mg_none_of X G z12,
  PySem.W.mg_none_of X G z13⟩,fun s v=>by
  obtain⟨_,_,_,_,_,_,_,_,_,rfl,_⟩:=F40.ex;exact .of_eq rfl⟩
theorem q37z(K:PySem.W.Frag)(H:Hp)(a:Addr)(ns:List Int)(hl:ns.length≤63)(ho:Only H)(hS:SqL K H a (ns.map V.int)):lowSp K sp_law [.ref a] H (fun v _=>v=.bl true) fun _ _ _=>False:=by
 refine⟨[.scr (ns.map .int)],fun _=>none,fun d _=>d=.bl true,.cons ?_ .nil,(fun _ _ e=>nomatch e),⟨ns,rfl,hl,rfl⟩,fun v H' d G' hv _ _ q=>?_⟩
 ·unfold Hv;refine⟨a,ns.map V.int,rfl,?_,Hvs.ints ns⟩;rcases hS with (h|h)|h
  ·rcases ho a with z|⟨o,xs,z⟩
   ·rw[z] at h;cases h
   ·rw[z] at h;cases h
  ·exact .inl h
  ·exact .inr h
 ·subst q;exact qa2z hv
theorem walk{l:PySem.W.OpenLaw}{q:Program}{loose:List Str}{XP:(Str->Option Value)->Heap->Prop}{YP:World->Heap->Prop}{d:DefRec}{K:Params->PySem.W.Frag}(hn:l.most=some 63)(hdf:d.params.defaults=[])
  (hY:∀(w:World) (h:Heap),YP w h->(K w.params).In h)
  (F:∀(w:World) (mg:Str->Option Value) (fa:Addr) (h:Heap),(K w.params).In h->h.Ns mainGlobals mg->mg d.name=some (.ref fa) ->
   ∃fd:FuncData,(∀(s:Shared) (u:Value),BindsTo s fd ⟨[u],[]⟩ [("script",u)])/\∀base:Heap,(K w.params).In base->base.Ns mainGlobals mg->FnOk l.prog w (K w.params) mg base CX0 45 fa fd ["script"] (lowSp (K w.params) sp_law)):
  PySem.W.WalkO q loose XP YP l.row.toRowW d [] (fun f vs=>PySem.call f vs):=
 L2.walk_of (n:=63) (k:=45) (x:="script") (CX:=fun _=>CX0) (sp:=fun w=>lowSp (K w.params) sp_law) hn (by decide) hdf ⟨rfl,by decide,by decide⟩ hY F (fun w H a ns hl ho hS=>q37z (K w.params) H a ns hl ho hS) fun _ _ _ _ _ z=>z
end My
open PySem PySem.W PyProof.Rows
set_option maxRecDepth 100000 in
set_option maxHeartbeats 0 in
theorem PySem.Challenge.cw_coverclocks_k12_cover_papers_told_holds : PySem.Challenge.rw_coverclocks_k12_cover_papers_told.Holds := by
 w_on;o_law;k_head;(case hw=>w_witness2)
 k_fill
 refine My.walk (l:=PySem.Challenge.rw_coverclocks_k12_cover_papers_told) rfl rfl (fun w h Y=>PySem.W.kIn_of Y) ?F
 case F=>
  intro w mg fa h KX G hmg
  refine' Exists.elim (My.txt_mk KX G (My.has_mk ?a0 ?l0 ?c0 ?k0) (My.has_mk ?a1 ?l1 ?c1 ?k1) (My.has_mk ?a2 ?l2 ?c2 ?k2) (My.has_mk ?a3 ?l3 ?c3 ?k3) (My.has_mk ?a4 ?l4 ?c4 ?k4) (My.has_mk ?a5 ?l5 ?c5 ?k5) (My.has_mk ?a6 ?l6 ?c6 ?k6) (My.has_mk ?a7 ?l7 ?c7 ?k7) (My.has_mk ?a8 ?l8 ?c8 ?k8) (My.has_mk ?a9 ?l9 ?c9 ?k9) (My.has_mk ?a10 ?l10 ?c10 ?k10) (My.has_mk ?a11 ?l11 ?c11 ?k11) (My.has_mk ?a12 ?l12 ?c12 ?k12) (My.has_mk ?a13 ?l13 ?c13 ?k13) (My.has_mk ?a14 ?l14 ?c14 ?k14) (My.has_mk ?a15 ?l15 ?c15 ?k15) (My.has_mk ?a16 ?l16 ?c16 ?k16) (My.has_mk ?a17 ?l17 ?c17 ?k17) (My.has_mk ?a18 ?l18 ?c18 ?k18) (My.has_mk ?a19 ?l19 ?c19 ?k19) (My.has_mk ?a20 ?l20 ?c20 ?k20) (My.has_mk ?a21 ?l21 ?c21 ?k21) (My.has_mk ?a22 ?l22 ?c22 ?k22) (My.has_mk ?a23 ?l23 ?c23 ?k23) (My.has_mk ?a24 ?l24 ?c24 ?k24) (My.has_mk ?a25 ?l25 ?c25 ?k25) (My.has_mk ?a26 ?l26 ?c26 ?k26) (My.has_mk ?a27 ?l27 ?c27 ?k27) (My.has_mk ?a28 ?l28 ?c28 ?k28) (My.has_mk ?a29 ?l29 ?c29 ?k29) (My.has_mk ?a30 ?l30 ?c30 ?k30) (My.has_mk ?a31 ?l31 ?c31 ?k31) (My.has_mk ?a32 ?l32 ?c32 ?k32) (My.has_mk ?a33 ?l33 ?c33 ?k33) (My.has_mk ?a34 ?l34 ?c34 ?k34) (My.has_mk ?a35 ?l35 ?c35 ?k35) (My.has_mk ?a36 ?l36 ?c36 ?k36) (My.has_mk ?a37 ?l37 ?c37 ?k37) (My.has_mk ?a38 ?l38 ?c38 ?k38) (My.has_mk ?a39 ?l39 ?c39 ?k39) (My.has_mk ?a40 ?l40 ?c40 ?k40) ?n_ClockError ?n_NoClock ?n_NoNumber ?n_NoPlace ?n_NoRow ?n_NoClocks ?n_NoText ?n_TooGreat ?i_TooGreat ?j_TooGreat ?h_TooGreat ?g_TooGreat ?y_TooGreat ?e_TooGreat ?v1_TooGreat ?v2_TooGreat ?v3_TooGreat ?v4_TooGreat ?v8_TooGreat ?v9_TooGreat ?v5_TooGreat ?v6_TooGreat ?w_TooGreat_many ?w_TooGreat_most ?x_TooGreat_NoClock ?x_TooGreat_NoClocks ?x_TooGreat_NoNumber ?x_TooGreat_NoPlace ?x_TooGreat_NoRow ?x_TooGreat_NoText ?x_TooGreat_TooGreat ?xv_TooGreat ?eb ?u1 ?u2 ?gint0 ?z0 ?z1 ?z2 ?z3 ?z4 ?z5 ?z6 ?z7 ?z8 ?z9 ?z10 ?z11 ?z12 ?z13) ?fin
  case a0|l0|c0|k0|a1|l1|c1|k1|a2|l2|c2|k2|a3|l3|c3|k3|a4|l4|c4|k4|a5|l5|c5|k5|a6|l6|c6|k6|a7|l7|c7|k7|a8|l8|c8|k8|a9|l9|c9|k9=>k_is
  case a10|l10|c10|k10|a11|l11|c11|k11|a12|l12|c12|k12|a13|l13|c13|k13|a14|l14|c14|k14|a15|l15|c15|k15|a16|l16|c16|k16|a17|l17|c17|k17|a18|l18|c18|k18|a19|l19|c19|k19=>k_is
  case a20|l20|c20|k20|a21|l21|c21|k21|a22|l22|c22|k22|a23|l23|c23|k23|a24|l24|c24|k24|a25|l25|c25|k25|a26|l26|c26|k26|a27|l27|c27|k27|a28|l28|c28|k28|a29|l29|c29|k29=>k_is
  case a30|l30|c30|k30|a31|l31|c31|k31|a32|l32|c32|k32|a33|l33|c33|k33|a34|l34|c34|k34|a35|l35|c35|k35|a36|l36|c36|k36|a37|l37|c37|k37|a38|l38|c38|k38|a39|l39|c39|k39=>k_is
  case a40|l40|c40|k40|n_ClockError|n_NoClock|n_NoNumber|n_NoPlace|n_NoRow|n_NoClocks|n_NoText|n_TooGreat|i_TooGreat|j_TooGreat|h_TooGreat|g_TooGreat|y_TooGreat=>k_is
  case e_TooGreat=>kernel_rfl
  case v1_TooGreat|v2_TooGreat|v3_TooGreat|v4_TooGreat|v8_TooGreat|v9_TooGreat|v5_TooGreat|v6_TooGreat|w_TooGreat_many|w_TooGreat_most=>k_is
  case x_TooGreat_NoClock|x_TooGreat_NoClocks|x_TooGreat_NoNumber|x_TooGreat_NoPlace|x_TooGreat_NoRow|x_TooGreat_NoText|x_TooGreat_TooGreat|xv_TooGreat|eb=>kernel_rfl
  case u1|u2|gint0|z0|z1|z2|z3|z4|z5|z6|z7|z8|z9|z10|z11|z12|z13=>k_is
  case fin=>
   rintro t ⟨T,b⟩
   have e2:=hmg.symm.trans T.m_law
   cases e2
   exact⟨t.d_law,b,fun base _ _=>My.ok_law T⟩
