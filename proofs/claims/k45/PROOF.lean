import PyProof.Rows.All
import Wide.All
import OpenK.AllK
import Wide.FinOn
import Lean
import PyProof.EqAt
import PyProof.EqKinds
import PyProof.TupleCall
import PyProof.NeKinds
import KE.KSortAsk
import PySem.SetTable
import PyProof.SetKind
import PyProof.TupleKey
import PyProof.IsRules
import PyProof.DictKinds
import PyProof.FactsAll.set
import PyProof.RangeIter
import PyProof.Seq
import PyProof.ForAny
import PyProof.WalksMore
import PyProof.CollectWalk
import PyProof.CollectIter
import PyProof.WalksS
import PyProof.Rows.SetFrom
import KE.KSortTup
import PyProof.Draws
import PyProof.Rows.Range3
import PyProof.ExcClass2
import PyProof.InstSpecial
import PyProof.RaisesMany
import PyProof.Rows.Own
import KE.KTryDeep
import PyProof.InstStoreFacts
import PyProof.ExcArgs
import PyProof.SetRoads
import PyProof.Rows.CallKwBuiltin
import KE.KMinKey
import PySem.Challenge.RW_coverclocks_k45_whole_rests_and_cases
set_option Elab.async false
set_option linter.all false
set_option maxRecDepth 100000
set_option maxHeartbeats 6400000
namespace PySem.W.Fast
def tw10041697289205328924:=0
def tw10121992363888217879:=0
def tw10124029842311342684:=0
def tw10617822018205302622:=0
def tw10807909045449145869:=0
def tw11046614121870122172:=0
def tw11127480363579097153:=0
def tw11173980253492030573:=0
def tw11240515798864474720:=0
def tw11348409459059472932:=0
def tw11826549228033543814:=0
def tw11908661819723219410:=0
def tw12070128823897191728:=0
def tw12162417090068163509:=0
def tw12180162736958606650:=0
def tw12237418187082401956:=0
def tw12240598431599391407:=0
def tw12286048897600638697:=0
def tw12459876567361984658:=0
def tw13193673217912416573:=0
def tw13298811801287563665:=0
def tw13348509508002433124:=0
def tw13408635858916798827:=0
def tw13473449064867423958:=0
def tw13490467995527601809:=0
def tw13492261486878718214:=0
def tw13647239420365075367:=0
def tw1364915878784275415:=0
def tw1372721232659530191:=0
def tw13757329591468327385:=0
def tw13788140046676548217:=0
def tw13828691062448278652:=0
def tw14127114923508894289:=0
def tw14155725756071330244:=0
def tw14284639938793325892:=0
def tw14311922479639090460:=0
def tw14353215701525930776:=0
def tw14473931611999225248:=0
def tw14508553486238741307:=0
def tw14797698864924536056:=0
def tw14838191647703664766:=0
def tw1488895284138404582:=0
def tw14898084483344423732:=0
def tw14919824917578740400:=0
def tw14936786431731944679:=0
def tw14972142347179250026:=0
def tw15058765910603442329:=0
def tw15084538502624949122:=0
def tw15097378535216775861:=0
def tw15196436116962123978:=0
def tw15217097377472578951:=0
def tw15228720154687987537:=0
def tw15269136009862835506:=0
def tw15273733658134860261:=0
def tw15313842599173855911:=0
def tw15656193802584512966:=0
def tw15789996829336424506:=0
def tw15796822290814207705:=0
def tw1582966908761122643:=0
def tw16234607145482053770:=0
def tw16296204859410083081:=0
def tw16300691954627169135:=0
def tw16327591735890808595:=0
def tw16482218844191064304:=0
def tw16494932951004482186:=0
def tw16585719303313503855:=0
def tw16609608385812592177:=0
def tw16784403587462556754:=0
def tw16972235455952663375:=0
def tw17055901289787759434:=0
def tw17089623065091026829:=0
def tw17221047385089398860:=0
def tw17390077188392544757:=0
def tw17425966878688148280:=0
def tw17537959057082037900:=0
def tw17855297438427976509:=0
def tw17961333354344257169:=0
def tw18156101671976598011:=0
def tw18419069218601867018:=0
def tw1950510141825661237:=0
def tw2006021678942595045:=0
def tw2045395062829632522:=0
def tw2053366678875035326:=0
def tw2098956725087081547:=0
def tw2220216823620535455:=0
def tw2619207581237727120:=0
def tw2658044934538034735:=0
def tw2710162854144355528:=0
def tw301925379695009359:=0
def tw3299129608772925178:=0
def tw3358607967654197797:=0
def tw3391282510931067776:=0
def tw3555436518626731519:=0
def tw3635217071349581197:=0
def tw3641278567352224986:=0
def tw3644892180797574688:=0
def tw3730981013114432271:=0
def tw38113541690300897:=0
def tw3880422798511176600:=0
def tw4002568903349769289:=0
def tw4106242650797499963:=0
def tw4169705984987391812:=0
def tw4729643749920249376:=0
def tw4813276527659686142:=0
def tw5200256948824992155:=0
def tw5262585231879725921:=0
def tw5305851332552305302:=0
def tw5428603346869328340:=0
def tw5442449800841459023:=0
def tw545261334758321946:=0
def tw5476271494381476758:=0
def tw5480282667948379886:=0
def tw5558937369632759137:=0
def tw5568296670827522621:=0
def tw5700043333206941674:=0
def tw5774991369207772679:=0
def tw5800165208468971287:=0
def tw5873418683293874333:=0
def tw5959897248500396356:=0
def tw6051667525748401294:=0
def tw6100679202395298363:=0
def tw6103388741584016995:=0
def tw6156608781481721637:=0
def tw6306689139657122097:=0
def tw650283174122620900:=0
def tw6585906044317845993:=0
def tw7003057842101520852:=0
def tw7054825547907361981:=0
def tw7095283031820357459:=0
def tw7367800295070945429:=0
def tw750453303658175358:=0
def tw7674742096578834418:=0
def tw7746718124683834820:=0
def tw7752350908559519307:=0
def tw7803881051604674511:=0
def tw7914580883070110092:=0
def tw83014127621231373:=0
def tw8304448782520601378:=0
def tw838367010045900134:=0
def tw8424571675614488289:=0
def tw8728201503004716703:=0
def tw8806622876432513786:=0
def tw8953543762139748613:=0
def tw8999971690077327307:=0
def tw92141857594543845:=0
def tw9258266369886531317:=0
def tw9271345471698973689:=0
def tw9313198101353568300:=0
def tw9380696431435207913:=0
def tw9455548905723150694:=0
def tw9564920170793450773:=0
def tw9579198489399836100:=0
def tw9777946583708041593:=0
def tw9807953976637590237:=0
def tw9830299001036263864:=0
def tw1021185710390176873:=0
def tw10241721136259572002:=0
def tw10333836379910590116:=0
def tw10511573647496617253:=0
def tw1066992341637756566:=0
def tw10698886739689026728:=0
def tw1086923523408260332:=0
def tw11062483096277549173:=0
def tw11461826026887642465:=0
def tw12010482891016735856:=0
def tw12036723676090231333:=0
def tw12142814512140004909:=0
def tw12850104740836523502:=0
def tw12996858708808904542:=0
def tw13301131358927556264:=0
def tw13595387617423248129:=0
def tw14226047779587913283:=0
def tw14772600435125498907:=0
def tw14840746658849327938:=0
def tw154696141243254172:=0
def tw15515751716264966514:=0
def tw15622870627732528674:=0
def tw15723475246529263251:=0
def tw16096722998759113288:=0
def tw16122454330750596814:=0
def tw16419845920531540112:=0
def tw16455511254362016038:=0
def tw16492887568323419430:=0
def tw17157949944935377869:=0
def tw17226165782828955506:=0
def tw17355835265579544267:=0
def tw17422467840076663080:=0
def tw17749343481961189190:=0
def tw1805334260783768486:=0
def tw225669761843278843:=0
def tw2264782374389367548:=0
def tw2742744208795895647:=0
def tw2767892409670782825:=0
def tw3278807025455699382:=0
def tw3381880977049349552:=0
def tw4154219168655728689:=0
def tw4160315462059067:=0
def tw4351607646503330256:=0
def tw4880389693229558346:=0
def tw5888558851464230452:=0
def tw6430293503527620308:=0
def tw6739171541213205299:=0
def tw695129181217230694:=0
def tw6983861304463095445:=0
def tw7076700067259064177:=0
def tw7170822048016435922:=0
def tw7369365152656132239:=0
def tw7532933409846650481:=0
def tw7915064577156944819:=0
def tw8007521140204970072:=0
def tw8112789632061160578:=0
def tw8150424443699752407:=0
def tw8364355297683904527:=0
def tw8667655667284995756:=0
def tw9545364689175623988:=0
def tw9738089728242123443:=0
def tw10486488140071330103:=0
def tw10678112377592039728:=0
def tw10823348980760253130:=0
def tw11153295679022169839:=0
def tw11352941328539011267:=0
def tw114550587603318511:=0
def tw11675466565218303283:=0
def tw12234722530341396274:=0
def tw12762217542194125010:=0
def tw12810761838292343529:=0
def tw13210145549805289352:=0
def tw13320546509361282436:=0
def tw13545445519422383293:=0
def tw1379944194292508093:=0
def tw13817744594746994995:=0
def tw1408731986937327852:=0
def tw14111754599688540877:=0
def tw14464480245353230183:=0
def tw14497746555584561216:=0
def tw15023076910560073753:=0
def tw15139145350727126713:=0
def tw15225475197061514201:=0
def tw15394846852057544047:=0
def tw15411529105550632527:=0
def tw1648854576539610165:=0
def tw16754924772694561438:=0
def tw17067109282965108645:=0
def tw17410353518978761580:=0
def tw1795282356425010406:=0
def tw25980165364373424:=0
def tw3220396178355891812:=0
def tw3843745170511753349:=0
def tw3976828682925021622:=0
def tw410347577763129821:=0
def tw4623339976221705248:=0
def tw4803624813607143363:=0
def tw4937845546827483524:=0
def tw5550098762401653274:=0
def tw5552661978058787900:=0
def tw6232038322619848626:=0
def tw6303118254194868530:=0
def tw6425011426683558411:=0
def tw644782929605987133:=0
def tw6768899800598228140:=0
def tw7000797178855491306:=0
def tw7017448629696941855:=0
def tw7068735606336407969:=0
def tw7177194553824087430:=0
def tw7345374329125095063:=0
def tw7384096943381453462:=0
def tw7939641969257786648:=0
def tw8178596961895181658:=0
def tw8500231375866001112:=0
def tw8911116658034327645:=0
def tw9118741694590863820:=0
def tw9562313793362455875:=0
def tw1123642804412094012:=0
def tw12359669034695391690:=0
def tw16256835215585385104:=0
def tw2017801915899594839:=0
def tw4166032885374216703:=0
def tw6834506342827888628:=0
def tw8541632717610940633:=0
def tw8791137183409187827:=0
def tw3093247652394767517:=0
def tw4078256615977871876:=0
def tw4240537147190405596:=0
def tw7305630165069833579:=0
def tw9603840886456295257:=0
def tw16517993452827950847:=0
def tw3275597261400428491:=0
def tw9070988068198758180:=0
def tw9376321236335933865:=0
def tw10010016915923205017:=0
def tw10087658077599438800:=0
def tw10138285744380495021:=0
def tw1023628186428640649:=0
def tw10620770668085998490:=0
def tw10938963341663335713:=0
def tw11035744673704351929:=0
def tw1116138048524235876:=0
def tw11451969075835318596:=0
def tw11632665794196629812:=0
def tw12519579566669253012:=0
def tw12569673732249171554:=0
def tw12794721574794825045:=0
def tw13194750432381104109:=0
def tw13253280296172133333:=0
def tw13292344108870053159:=0
def tw13441487926981632953:=0
def tw13639499284339826171:=0
def tw1396831110704945925:=0
def tw14988646988645936574:=0
def tw16204833136251931284:=0
def tw16311049525306597053:=0
def tw16452726215406181962:=0
def tw16475514026972489924:=0
def tw16531687139307979332:=0
def tw16804265402761592932:=0
def tw17225412010993565539:=0
def tw17232002971339185654:=0
def tw17337758745177542500:=0
def tw17465732681738133075:=0
def tw17828969833110138165:=0
def tw17836433329138795837:=0
def tw17941511563647425979:=0
def tw18154330409365556380:=0
def tw1838339205666021879:=0
def tw1980584578516049906:=0
def tw2457762540239924143:=0
def tw2908654828051420732:=0
def tw294041573234460665:=0
def tw2997510865015382091:=0
def tw3102884113363195684:=0
def tw4252978474883080988:=0
def tw4424006813766907950:=0
def tw5146372717694774219:=0
def tw6076863382709491530:=0
def tw6110067911016311728:=0
def tw6206150082718547886:=0
def tw6806505101794310852:=0
def tw7798265752293138039:=0
def tw7874072226932208134:=0
def tw8304451707060997359:=0
def tw8443368565940951933:=0
def tw8497513405910127653:=0
def tw8753049066816095661:=0
def tw8944255299138932765:=0
def tw963698697319051987:=0
end PySem.W.Fast
namespace L2
open PySem PySem.Spec PyProof.Rows
abbrev Key:=Sum Int Str
def keyIs:Key->Value->Bool
 |.inl k,v=>Value.isInt k v
 |.inr x,v=>Value.isStrOf x v
def keyH(w:World):Key->Int
 |.inl k=>hashInt k
 |.inr x=>hashStr w x
theorem qa8z:∀{k:Key} {v:Value},keyIs k v=true->(∃i t,k=Sum.inl i/\v=Value.int i t)∨(∃x t,k=Sum.inr x/\v=Value.str x t)
 |.inl i,v,h=>by
  obtain⟨t,e⟩:=Value.isInt_shape (k:=i) (v:=v) h;exact .inl ⟨i,t,rfl,e⟩
 |.inr x,v,h=>by
  obtain⟨t,e⟩:=Value.isStrOf_shape (x:=x) (v:=v) h;exact .inr ⟨x,t,rfl,e⟩
theorem qppz(a b:Int):decide ((Sum.inl a:Key)=Sum.inl b)=(a==b):=by
 by_cases e:a=b
 ·subst e;simp
 ·have h:¬(Sum.inl a:Key)=Sum.inl b:=fun q=>e (Sum.inl.inj q);rw[decide_eq_false h];exact (beq_eq_false_iff_ne.mpr e).symm
theorem qpqz(a b:Str):decide ((Sum.inr a:Key)=Sum.inr b)=decide (a=b):=by
 by_cases e:a=b
 ·subst e;simp
 ·have h:¬(Sum.inr a:Key)=Sum.inr b:=fun q=>e (Sum.inr.inj q);rw[decide_eq_false h,decide_eq_false e]
theorem qprz(a:Int)(b:Str):decide ((Sum.inl a:Key)=Sum.inr b)=false:=decide_eq_false (fun q=>nomatch q)
theorem qpsz(a:Str)(b:Int):decide ((Sum.inr a:Key)=Sum.inl b)=false:=decide_eq_false (fun q=>nomatch q)
def mixKind(prog:Program)(w:World):PySem.KeyKind prog w Key where
 is:=keyIs
 hash:=keyH w
 inj:=fun v a b ha hb=>by
  rcases qa8z ha with⟨i,t,rfl,rfl⟩|⟨x,t,rfl,rfl⟩
  ·rcases qa8z hb with⟨j,u,rfl,e⟩|⟨y,u,rfl,e⟩
   ·injection e with e1 _;rw[e1]
   ·exact nomatch e
  ·rcases qa8z hb with⟨j,u,rfl,e⟩|⟨y,u,rfl,e⟩
   ·exact nomatch e
   ·injection e with e1 _;rw[e1]
 byValue:=fun k v h=>by
  rcases qa8z h with⟨i,t,rfl,rfl⟩|⟨x,t,rfl,rfl⟩<;>rfl
 pyHash:=fun hv h=>by
  rcases qa8z hv with⟨i,t,rfl,rfl⟩|⟨x,t,rfl,rfl⟩
  ·exact wpAny_pyHash_int h
  ·exact wpAny_pyHash_str h
 eqBool:=fun hu hv h=>by
  rcases qa8z hu with⟨i,t,rfl,rfl⟩|⟨x,t,rfl,rfl⟩
  ·rcases qa8z hv with⟨j,u,rfl,rfl⟩|⟨y,u,rfl,rfl⟩
   ·rw[qppz] at h;exact wpAny_eqBool_int h
   ·rw[qprz] at h;exact SeqAt.EqAt.int_str i t y u _ _ _ _ h
  ·rcases qa8z hv with⟨j,u,rfl,rfl⟩|⟨y,u,rfl,rfl⟩
   ·rw[qpsz] at h;exact SeqAt.EqAt.str_int x t j u _ _ _ _ h
   ·rw[qpqz] at h;exact wpAny_eqBool_str h
 «strs»:=fun k x t v h=>by
  rcases qa8z h with⟨i,u,rfl,e⟩|⟨y,u,rfl,e⟩
  ·exact nomatch e
  ·injection e with e1 _;subst e1;cases v<;>rfl
end L2
namespace L2
open PySem PySem.Spec PyProof.Rows
inductive V where
 |non|bl (b:Bool)|int (i:Int)|str (x:Str)|byt (b:Array UInt8)|flt (b:UInt64)|ref (a:Addr)|ty (n:String)
 deriving DecidableEq
def RelV:V->Value->Prop
 |.non,u=>u=Value.none
 |.bl b,u=>u=Value.bool b
 |.int i,u=>∃t,u=Value.int i t
 |.str x,u=>∃t,u=Value.str x t
 |.byt b,u=>∃t,u=Value.bytes b t
 |.flt b,u=>∃t,u=Value.float b t
 |.ref a,u=>u=Value.ref a
 |.ty n,u=>u=Value.type n
abbrev Vals:List V->List Value->Prop:=Paired RelV
theorem Vals.length{xs:List V}{us:List Value}(r:Vals xs us):xs.length=us.length:=Paired.length r
theorem Vals.get:∀{xs:List V} {us:List Value} {i:Nat} {x:V},Vals xs us->xs[i]?=some x->∃u,us[i]?=some u/\RelV x u
 |_,_,_,_,.nil,e=>by simp at e
 |_,_,0,_,.cons r _,e=>by simp at e;subst e;exact⟨_,rfl,r⟩
 |_,_,i+1,x,.cons _ t,e=>by
  obtain⟨u,h1,h2⟩:=Vals.get (i:=i) (x:=x) t (by simpa using e);exact⟨u,by simpa using h1,h2⟩
theorem Vals.set{x:V}{u:Value}(r:RelV x u):∀{xs:List V} {us:List Value} (i:Nat),Vals xs us->Vals (xs.set i x) (us.set i u)
 |_,_,_,.nil=>.nil
 |_,_,0,.cons _ t=>.cons r t
 |_,_,i+1,.cons q t=>.cons q (Vals.set r i t)
theorem Vals.append:∀{xs ys:List V} {us ws:List Value},Vals xs us->Vals ys ws->Vals (xs++ys) (us++ws)
 |_,_,_,_,.nil,s=>s
 |_,_,_,_,.cons r t,s=>.cons r (Vals.append t s)
theorem Vals.take:∀{xs:List V} {us:List Value} (n:Nat),Vals xs us->Vals (xs.take n) (us.take n)
 |_,_,0,_=>.nil
 |_,_,_+1,.nil=>.nil
 |_,_,n+1,.cons r t=>.cons r (Vals.take n t)
theorem Vals.drop:∀{xs:List V} {us:List Value} (n:Nat),Vals xs us->Vals (xs.drop n) (us.drop n)
 |_,_,0,r=>r
 |_,_,_+1,.nil=>.nil
 |_,_,n+1,.cons _ t=>Vals.drop n t
def RelO:Option V->Option Value->Prop
 |some v,some u=>RelV v u
 |none,none=>True
 |_,_=>False
def KV{κ:Type}:List (κ×V)->List (κ×Value)->Prop:=Paired fun (p:κ×V) (q:κ×Value)=>p.1=q.1/\RelV p.2 q.2
def kV:Key->V
 |.inl i=>.int i
 |.inr x=>.str x
inductive HO where
 |lst (xs:List V)
 |tup (xs:List V)
 |dK (kvs:List (Key×V))|dT (kvs:List (List Key×V))
 |set (S:Int->Bool) (n:Nat)
 |ins (C dx:Addr) (fs:List (Str×V))
 |own (x:Addr)
 |xd (fs:List (Str×V))
 |met (f x:Addr)
 |rng (lo hi:Int)
 |frz (o:Obj) (u:HO)
 |tbl (ps:Array Value)
 |ext (φ:Heap->Prop)
abbrev Hp:=Addr->Option HO
def upd(H:Hp)(a:Addr)(o:HO):Hp:=fun b=>if b=a then some o else H b
theorem qvz{H:Hp}{a:Addr}{o:HO}:upd H a o a=some o:=by unfold upd;rw[if_pos rfl]
theorem qlz{H:Hp}{a b:Addr}{o:HO}(h:b≠a):upd H a o b=H b:=by unfold upd;rw[if_neg h]
theorem qanz{H:Hp}{a b:Addr}{o:HO}(h:H a=some o)(h':H b=none):a≠b:=by
 intro e;subst e;rw[h] at h';cases h'
section
variable (P:Program) (w:World)
def ObjOk(H:Hp)(h:Heap)(a:Addr):HO->Prop
 |.lst xs=>xs.length≤sizeLine/\∃(its:List Value) (n:Nat),Vals xs its/\h.get? a=some { cls:=.type "list",data:=.seq its.toArray n }
 |.tup xs=>xs.length≤sizeLine/\∃its:List Value,Vals xs its/\IsTup h a its.toArray
 |.dK kvs=>kvs.length≤sizeLine/\(a==sysModules)=false/\∃vs,KV kvs vs/\h.DictOf (mixKind P w) a vs
 |.dT kvs=>kvs.length≤sizeLine/\(a==sysModules)=false/\∃xs:List (List Key×Addr×Value),
   Paired (fun (p:List Key×V) (q:List Key×Addr×Value)=>p.1=q.1/\H q.2.1=some (.tup (p.1.map kV))/\RelV p.2 q.2.2) kvs xs ∧
   ∃o es ep,h.get? a=some o/\o.ExactDict/\o.data=.dict es ep/\es.toList=xs.map (entryOfKey (tupleKind (mixKind P w)))/\(xs.map (·.1)).Nodup
 |.set S n=>h.SetOf (intKind P w) a S n
 |.ins C dx fs=>H dx=some (.own a)/\fs.length≤1000/\dx≠a/\h.get? a=some (PySem.W.instObj C dx) ∧
   ∃mA,h.Ns1 dx mA/\(∀f,RelO (fs.lookup f) (mA f))/\PySem.Within mA (fs.map (·.1))
 |.own _=>∃o,h.get? a=some o
 |.xd fs=>∃mA,h.Ns1 a mA/\∀f,RelO (fs.lookup f) (mA f)
 |.rng lo hi=>∃t u v,h.get? a=some { cls:=.type "range",data:=.fields #[.int lo t,.int hi u,.int 1 v]}
 |.frz o u=>h.get? a=some o/\ObjOk H h a u
 |.tbl ps=>h.get? a=some { cls:=.none,data:=.fields ps }
 |.met f x=>h.get? a=some (PySem.W.methodObj (.ref f) (.ref x))
 |.ext φ=>φ h/\(∃o,h.get? a=some o)/\∀h1 h2:Heap,φ h1->(∀o,h1.get? a=some o->h2.get? a=some o)->φ h2
def HOk(H:Hp)(h:Heap):Prop:=∀a o,H a=some o->ObjOk P w H h a o
end
section
variable {P:Program} {w:World} {H H':Hp} {h h':Heap} {a:Addr} {o:HO}
theorem ObjOk.lt(x:ObjOk P w H h a o):a<h.objs.size:=by
 cases o with
 |lst xs=>obtain⟨_,_,_,_,e⟩:=x;exact Heap.lt_size e
 |tup xs=>obtain⟨_,_,_,p⟩:=x;exact p.lt
 |dK kvs=>obtain⟨_,_,_,_,o,_,_,e,_⟩:=x;exact Heap.lt_size e
 |dT kvs=>obtain⟨_,_,_,_,o,_,_,e,_⟩:=x;exact Heap.lt_size e
 |set S n=>obtain⟨o,_,_,_,e,_⟩:=x;exact Heap.lt_size e
 |ins C dx fs=>obtain⟨_,_,_,e,_⟩:=x;exact Heap.lt_size e
 |own y=>obtain⟨_,e⟩:=x;exact Heap.lt_size e
 |xd fs=>obtain⟨_,⟨_,_,_,e,_⟩,_⟩:=x;exact Heap.lt_size e
 |rng lo hi=>obtain⟨_,_,_,e⟩:=x;exact Heap.lt_size e
 |frz ob u=>obtain⟨e,_⟩:=x;exact Heap.lt_size e
 |tbl ps=>exact Heap.lt_size (show h.get? a=some _ from x)
 |met f y=>exact Heap.lt_size (show h.get? a=some _ from x)
 |ext φ=>obtain⟨_,⟨_,e⟩,_⟩:=x;exact Heap.lt_size e
theorem Paired.mapP{α β:Type}{F G:α->β->Prop}:∀{l₁:List α} {l₂:List β},Paired F l₁ l₂->(∀a b,F a b->G a b)->Paired G l₁ l₂
 |_,_,.nil,_=>.nil
 |_,_,.cons r t,f=>.cons (f _ _ r) (Paired.mapP t f)
theorem ObjOk.stay(x:ObjOk P w H h a o)(k:∀b u,(b=a∨H b=some (.own a))->h.get? b=some u->h'.get? b=some u)
  (ho:∀b,H b=some (.own a)->H' b=some (.own a)) (ht:∀b xs,H b=some (.tup xs)->H' b=some (.tup xs)):ObjOk P w H' h' a o:=by
 induction o with
 |lst xs=>obtain⟨z,its,n,r,e⟩:=x;exact⟨z,its,n,r,k _ _ (.inl rfl) e⟩
 |tup xs=>obtain⟨z,its,r,ob,e,c⟩:=x;exact⟨z,its,r,ob,k _ _ (.inl rfl) e,c⟩
 |dK kvs=>obtain⟨z,y,vs,r,ob,es,ep,e,c⟩:=x;exact⟨z,y,vs,r,ob,es,ep,k _ _ (.inl rfl) e,c⟩
 |dT kvs=>
  obtain⟨z,y,xs,r,ob,es,ep,e,c⟩:=x;exact⟨z,y,xs,Paired.mapP r fun p q z=>⟨z.1,ht _ _ z.2.1,z.2.2⟩,ob,es,ep,k _ _ (.inl rfl) e,c⟩
 |set S n=>obtain⟨ob,es,ep,t,e,c⟩:=x;exact⟨ob,es,ep,t,k _ _ (.inl rfl) e,c⟩
 |ins C dx fs=>
  obtain⟨d,z,ne,e,mA,⟨od,es,ep,e2,c⟩,r⟩:=x;exact⟨ho _ d,z,ne,k _ _ (.inl rfl) e,mA,⟨od,es,ep,k _ _ (.inr d) e2,c⟩,r⟩
 |own y=>obtain⟨ob,e⟩:=x;exact⟨ob,k _ _ (.inl rfl) e⟩
 |xd fs=>obtain⟨mA,⟨od,es,ep,e,c⟩,r⟩:=x;exact⟨mA,⟨od,es,ep,k _ _ (.inl rfl) e,c⟩,r⟩
 |rng lo hi=>obtain⟨t,u,v,e⟩:=x;exact⟨t,u,v,k _ _ (.inl rfl) e⟩
 |frz ob u ih=>obtain⟨e,q⟩:=x;exact⟨k _ _ (.inl rfl) e,ih q⟩
 |tbl ps=>
  have e:h.get? a=some { cls:=.none,data:=.fields ps }:=x;show h'.get? a=some { cls:=.none,data:=.fields ps };exact k a _ (.inl rfl) e
 |met f y=>
  have e:h.get? a=some (PySem.W.methodObj (.ref f) (.ref y)):=x;show h'.get? a=some (PySem.W.methodObj (.ref f) (.ref y));exact k a _ (.inl rfl) e
 |ext φ=>obtain⟨p,⟨o,e⟩,st⟩:=x;exact⟨st _ _ p fun o q=>k _ _ (.inl rfl) q,⟨o,k _ _ (.inl rfl) e⟩,st⟩
theorem HOk.lt(x:HOk P w H h)(e:H a=some o):a<h.objs.size:=(x a o e).lt
theorem HOk.fresh(x:HOk P w H h)(e:h.objs.size≤a):H a=none:=by
 cases q:H a with
 |none=>rfl
 |some u=>exact absurd (Nat.lt_of_lt_of_le (x.lt q) e) (Nat.lt_irrefl _)
theorem HOk.kept(x:HOk P w H h)(k:∀b u,h.get? b=some u->h'.get? b=some u):HOk P w H h':=fun a o e=>
 (x a o e).stay (fun b u _ q=>k b u q) (fun _ q=>q) fun _ _ q=>q
theorem HOk.laid(x:HOk P w H h)(k:∀b u,h.get? b=some u->h'.get? b=some u)(hp:h.objs.size≤a)(new:ObjOk P w (upd H a o) h' a o):HOk P w (upd H a o) h':=fun b u e=>by
 have hn:=x.fresh hp;by_cases hb:b=a
 ·subst hb;rw[qvz] at e;cases e;exact new
 ·rw[qlz hb] at e;exact (x b u e).stay (fun c v _ q=>k c v q) (fun c q=>by rw[qlz (qanz q hn)];exact q) fun c xs q=>by rw[qlz (qanz q hn)];exact q
end
def Rd(H:Hp)(a:Addr)(u:HO):Prop:=H a=some u∨∃o,H a=some (.frz o u)
theorem Rd.ok{P:Program}{w:World}{H:Hp}{h:Heap}{a:Addr}{u:HO}(r:Rd H a u)(x:HOk P w H h):ObjOk P w H h a u:=by
 rcases r with r|⟨o,r⟩
 ·exact x a u r
 ·obtain⟨_,q⟩:=x a _ r;exact q
def Mut:Option HO->Prop
 |some (.lst _)=>True
 |some (.dK _)=>True
 |some (.dT _)=>True
 |some (.set _ _)=>True
 |some (.ins _ _ _)=>True
 |some (.ext _)=>True
 |_=>False
section
variable {P:Program} {w:World} {H:Hp} {h h':Heap} {x e:Addr} {o':HO}
theorem HOk.write(ok:HOk P w H h)(mu:Mut (H x))(he:e=x∨H e=some (.own x))(k:∀b u,b≠e->h.get? b=some u->h'.get? b=some u)(heo:∃u,h'.get? e=some u)
  (new:ObjOk P w (upd H x o') h' x o'):HOk P w (upd H x o') h':=fun b u q=>by
 have nown:∀c y,H c=some (.own y)->c≠x:=fun c y r z=>by subst z;rw[r] at mu;exact mu
 have ntup:∀c xs,H c=some (.tup xs)->c≠x:=fun c xs r z=>by subst z;rw[r] at mu;exact mu
 by_cases hb:b=x
 ·subst hb;rw[qvz] at q;cases q;exact new
 ·rw[qlz hb] at q;by_cases hbe:b=e
  ·have q':H b=some (.own x):=by
    rcases he with z|z
    ·exact absurd (hbe.trans z) hb
    ·rw[hbe];exact z
   rw[q] at q';cases q';obtain⟨v,hv⟩:=heo;exact⟨v,by rw[hbe];exact hv⟩
  ·refine (ok b u q).stay (fun c v hc r=>k c v ?_ r) (fun c r=>by rw[qlz (nown c b r)];exact r) fun c xs r=>by rw[qlz (ntup c xs r)];exact r
   rcases hc with rfl|hc
   ·exact hbe
   ·rintro rfl;rcases he with z|z
    ·exact nown c b hc z
    ·rw[hc] at z;cases z;exact hb rfl
end
structure Un(fs ex:List Addr)(H H':Hp)(h h':Heap):Prop where
 keep:∀b o,h.get? b=some o->H b=none->b∉fs->b∉ex->h'.get? b=some o
 slot:∀b o,h.get? b=some o->H b=none->b∈fs->b∉ex->∃sl,h'.get? b=some { o with slots:=sl }
 free:∀b o,h.get? b=some o->H b=none->b∉ex->H' b=none
 there:∀b o,h.get? b=some o->b∉ex->∃o',h'.get? b=some o'
 tups:∀b xs,H b=some (.tup xs)->H' b=some (.tup xs)
 frzs:∀b o u,H b=some (.frz o u)->H' b=some (.frz o u)
 tbls:∀b ps,H b=some (.tbl ps)->∃more,H' b=some (.tbl (ps++more))
section
variable {fs fs' ex ex':List Addr} {H H1 H2:Hp} {h h1 h2 h':Heap} {a x e:Addr} {o:HO}
theorem Un.any(u:Un fs ex H H1 h h1){b:Addr}{ob:Obj}(q:h.get? b=some ob)(n:H b=none)(hx:b∉ex):∃sl,h1.get? b=some { ob with slots:=sl }:=by
 by_cases hb:b∈fs
 ·exact u.slot b ob q n hb hx
 ·exact⟨ob.slots,u.keep b ob q n hb hx⟩
theorem Un.kept(k:∀b u,h.get? b=some u->h'.get? b=some u):Un fs ex H H h h':=
 ⟨fun b ob q _ _ _=>k b ob q,fun b ob q _ _ _=>⟨ob.slots,k b ob q⟩,fun _ _ _ n _=>n,fun b ob q _=>⟨ob,k b ob q⟩,fun _ _ q=>q,fun _ _ _ q=>q,fun _ ps q=>⟨#[],by rw[q];simp⟩⟩
theorem Un.refl:Un fs ex H H h h:=Un.kept fun _ _ q=>q
theorem Un.laid(k:∀b u,h.get? b=some u->h'.get? b=some u)(hp:h.objs.size≤a)(hn:H a=none):Un fs ex H (upd H a o) h h' where
 keep:=fun b u q _ _ _=>k b u q
 slot:=fun b u q _ _ _=>⟨u.slots,k b u q⟩
 free:=fun b u q n _=>by rw[qlz (Nat.ne_of_lt (Nat.lt_of_lt_of_le (Heap.lt_size q) hp))];exact n
 there:=fun b u q _=>⟨u,k b u q⟩
 tups:=fun b xs q=>by rw[qlz (qanz q hn)];exact q
 frzs:=fun b u xs q=>by rw[qlz (qanz q hn)];exact q
 tbls:=fun b ps q=>⟨#[],by rw[qlz (qanz q hn),q];simp⟩
theorem Un.write(mu:Mut (H x))(he:e=x∨H e=some (.own x))(k:∀b u,b≠e->h.get? b=some u->h'.get? b=some u)(heo:∃u,h'.get? e=some u):Un fs ex H (upd H x o) h h':=by
 have hx:∀b,H b=none->b≠x:=fun b n z=>by subst z;rw[n] at mu;exact mu
 have hb:∀b,H b=none->b≠e:=fun b n z=>by
  subst z;rcases he with r|r
  ·exact hx b n r
  ·rw[n] at r;cases r
 have hm:∀b u,H b=some u->¬Mut (some u)->b≠x:=fun b u q nm z=>by subst z;rw[q] at mu;exact nm mu
 refine⟨fun b u q n _ _=>k b u (hb b n) q,fun b u q n _ _=>⟨u.slots,k b u (hb b n) q⟩,fun b u q n _=>by rw[qlz (hx b n)];exact n,fun b u q _=>?_,
  fun b xs q=>by rw[qlz (hm b _ q fun z=>z)];exact q,fun b u xs q=>by rw[qlz (hm b _ q fun z=>z)];exact q,fun b ps q=>⟨#[],by rw[qlz (hm b _ q fun z=>z),q];simp⟩⟩
 by_cases hbe:b=e
 ·subst hbe;exact heo
 ·exact⟨u,k b u hbe q⟩
end
def trk(h:Heap)(H:Hp):List Addr:=(List.range h.objs.size).filter fun a=>(H a).isSome
def hidT(h:Heap)(H:Hp):Heap:=PySem.W.hideAll h (trk h H)
theorem qptz(h:Heap)(H:Hp):(hidT h H).objs.size=h.objs.size:=PySem.W.hideAll_size _ _
theorem qpuz{h:Heap}{H:Hp}{b:Addr}{o:Obj}(e:h.get? b=some o)(n:H b=none):(hidT h H).get? b=some o:=
 PySem.W.hideAll_get _ e fun hm=>by
  have q:(H b).isSome=true:=(List.mem_filter.mp hm).2;rw[n] at q;simp at q
theorem qpvz{h:Heap}{H:Hp}{b:Addr}{o:Obj}(e:(hidT h H).get? b=some o):h.get? b=some o/\H b=none:=by
 have e':h.get? b=some o:=PySem.W.of_hideAll (trk h H) e;refine⟨e',?_⟩;cases q:H b with
 |none=>rfl
 |some x=>
  have hm:b∈trk h H:=List.mem_filter.mpr ⟨List.mem_range.mpr (Heap.lt_size e'),by simp[q]⟩;have z:(hidT h H).get? b=none:=PySem.W.hideAll_none (trk h H) hm;rw[z] at e;cases e
end L2
namespace L2
open PySem PySem.Spec PyProof.Rows
structure Mod(K:PySem.W.Frag)(mg:Str->Option Value)(base:Heap):Prop where
 kin:K.In base
 glob:base.Ns mainGlobals mg
 blt:∃mb,base.Ns builtinsNs mb/\∀x:Str,x≠"__name__"->mb x=bootBuiltins x
 nolimit:base.NoLimit
structure Cx where
 prog:Program
 w:World
 K:PySem.W.Frag
 mg:Str->Option Value
 base:Heap
 A:Around
 N:List Str
 s₀:Shared
 H₀:Hp
 env:Env
 outer:List Env
 stack:List Env
 ex:List Addr
 fn:Str->Bool
 calm:Bool
 pn:List (Addr×Obj)
 xe:Value->Shared->Prop
def frs(l:List Env):List Addr:=l.filterMap (·.frame)
abbrev Cx.fs(X:Cx):List Addr:=frs X.outer
def Vis(sc:Scope)(x:Str):Prop:=sc.names.lookup x=some .local∨sc.names.lookup x=some .cell∨sc.names.lookup x=some .free
def Loc(sc:Scope)(x:Str):Prop:=sc.names.lookup x=some .local∨sc.names.lookup x=some .cell
def Look(env:Env)(h:Heap)(m:Str->Option Value)(x:Str)(u:Value):Prop:=
 (env.kindOf x=some .local/\m x=some u)∨((env.kindOf x=some .cell∨env.kindOf x=some .free)/\∃c,env.cells.lookup x=some c/\h.IsCell c (some u))
structure Cx.Ok(X:Cx):Prop where
 mod:Mod X.K X.mg X.base
 kind:X.env.scope.kind=.function
 glob:X.env.globals=mainGlobals
 blt:X.env.builtins=builtinsNs
 above:X.s₀.heap.objs.size≤X.env.locals
 inj:∀x y c,X.env.cells.lookup x=some c->X.env.cells.lookup y=some c->x=y
 has:∀x,(X.env.kindOf x=some .cell∨X.env.kindOf x=some .free)->∃c,X.env.cells.lookup x=some c
 cab:∀x c,X.fn x=true->X.env.cells.lookup x=some c->X.s₀.heap.objs.size≤c
 hd:X.calm=true->X.A.handled=none
 frames:X.A.frames=some X.stack
 stk:X.stack=X.outer∨(X.stack=X.env::X.outer/\X.env.frame=some X.env.locals)
 exf:∀b∈X.ex,b≠X.env.locals/\∀x c,X.env.cells.lookup x=some c->c≠b
 bs:∀b o,X.base.get? b=some o->X.s₀.heap.get? b=some o/\X.H₀ b=none
 bsz:X.base.objs.size≤X.s₀.heap.objs.size
 noex:∀b o,X.base.get? b=some o->b∉X.ex
 exfs:∀b∈X.ex,b∉X.fs
 funs:X.s₀.heap.FunFrames X.base X.outer
 frf:∀b∈X.fs,X.H₀ b=none
structure Inv(X:Cx)(pins:List (Addr×Obj))(σ:List (Option V))(H:Hp)(s:Shared):Prop where
 ok:X.Ok
 os:s.os=X.s₀.os
 bare:AllBare s.gens
 base:Un X.fs X.ex X.H₀ H X.s₀.heap s.heap
 loc:∃m,s.heap.Ns X.env.locals m/\∀(i:Nat) (x:Str) (v:V),X.N[i]?=some x->σ[i]?=some (some v)->Vis X.env.scope x->∃u,RelV v u/\Look X.env s.heap m x u
 cell:∀x c,X.env.cells.lookup x=some c->∃v,s.heap.IsCell c v
 free:H X.env.locals=none
 freeC:∀x c,X.env.cells.lookup x=some c->H c=none
 pin:∀p∈X.pn++pins,s.heap.get? p.1=some p.2/\H p.1=none/\p.1≠X.env.locals/\p.1∉X.fs/\∀v,p.2.data≠.cell v
 hok:HOk X.prog X.w H s.heap
 len:σ.length=X.N.length
section
variable {X:Cx} {pins:List (Addr×Obj)} {σ:List (Option V)} {H H':Hp} {s:Shared} {h':Heap}
theorem Cx.Ok.nofr(ok:X.Ok){b:Addr}{o:Obj}(e:X.base.get? b=some o):b∉X.fs:=fun hb=>by
 have:=(ok.funs.mem hb).1;rw[e] at this;cases this
theorem Inv.bs(I:Inv X pins σ H s):∀b o,X.base.get? b=some o->s.heap.get? b=some o/\H b=none:=fun b o e=>
 ⟨I.base.keep b o (I.ok.bs b o e).1 (I.ok.bs b o e).2 (I.ok.nofr e) (I.ok.noex b o e),I.base.free b o (I.ok.bs b o e).1 (I.ok.bs b o e).2 (I.ok.noex b o e)⟩
theorem Inv.bk(I:Inv X pins σ H s):∀b o,X.base.get? b=some o->s.heap.get? b=some o:=fun b o e=>(I.bs b o e).1
theorem Inv.mod(I:Inv X pins σ H s):Mod X.K X.mg X.base:=I.ok.mod
theorem Inv.kIn(I:Inv X pins σ H s):X.K.In s.heap:=I.ok.mod.kin.keeps I.bk
theorem Inv.lt(I:Inv X pins σ H s):X.env.locals<s.heap.objs.size:=let ⟨_,hn,_⟩:=I.loc;hn.lt
theorem Inv.sz(I:Inv X pins σ H s):X.s₀.heap.objs.size≤s.heap.objs.size:=Nat.le_trans I.ok.above (Nat.le_of_lt I.lt)
theorem Inv.nofs(I:Inv X pins σ H s){a:Addr}(h:s.heap.objs.size≤a):a∉X.fs:=fun hb=>by
 obtain⟨_,o,ho,_⟩:=I.ok.funs.mem hb;exact absurd (Nat.lt_of_lt_of_le (Heap.lt_size ho) (Nat.le_trans I.sz h)) (Nat.lt_irrefl _)
theorem Inv.cne(I:Inv X pins σ H s):∀x c,X.env.cells.lookup x=some c->c≠X.env.locals:=fun x c e z=>by
 obtain⟨v,o,ho,hd⟩:=I.cell x c e;obtain⟨m,⟨o',es,ep,ho',hd',_⟩,_⟩:=I.loc;rw[z,ho'] at ho;cases ho;rw[hd'] at hd;cases hd
theorem Inv.funs(I:Inv X pins σ H s):s.heap.FunFrames X.base X.outer:=by
 have all:∀(l:List Env),(∀b∈frs l,b∈X.fs)->X.s₀.heap.FunFrames X.base l->s.heap.FunFrames X.base l:=by
  intro l
  induction l with
  |nil=>intro _ _;trivial
  |cons env r ih=>
   intro hs hl;obtain⟨hk,⟨L,o,hf,hn,ho,hd⟩,hr⟩:=hl;have hL:L∈X.fs:=hs L (by unfold frs;rw[List.filterMap_cons,hf];exact List.mem_cons_self);obtain⟨sl,e⟩:=I.base.slot L o ho (I.ok.frf L hL) hL fun z=>I.ok.exfs L z hL;exact⟨hk,⟨L,_,hf,hn,e,hd⟩,ih (fun b hb=>hs b (by unfold frs;rw[List.filterMap_cons,hf];exact List.mem_cons_of_mem _ hb)) hr⟩
 exact all X.outer (fun _ hb=>hb) I.ok.funs
theorem Inv.stack(I:Inv X pins σ H s):s.heap.FunFrames X.base X.stack:=by
 rcases I.ok.stk with e|⟨e,hf⟩
 ·rw[e];exact I.funs
 ·rw[e];obtain⟨m,hn,_⟩:=I.loc;refine .cons (by rw[I.ok.kind];decide) hf hn ?_ I.funs;exact Heap.get?_none_of_le (Nat.le_trans I.ok.bsz I.ok.above)
theorem Inv.stkSub(I:Inv X pins σ H s):∀b∈frs X.stack,b∈X.env.locals::X.fs:=fun b hb=>by
 rcases I.ok.stk with e|⟨e,hf⟩
 ·rw[e] at hb;exact List.mem_cons_of_mem _ hb
 ·rw[e] at hb;unfold frs at hb;rw[List.filterMap_cons,hf] at hb;exact hb
theorem Inv.stkFree(I:Inv X pins σ H s):∀b∈frs X.stack,H b=none:=fun b hb=>by
 rcases List.mem_cons.mp (I.stkSub b hb) with e|hb
 ·rw[e];exact I.free
 ·obtain⟨_,o,ho,_⟩:=I.ok.funs.mem hb;exact I.base.free b o ho (I.ok.frf b hb) fun z=>I.ok.exfs b z hb
theorem Inv.step{g':Array GenState}{t':Nat}{d':Drawn}{ch:List Addr}(I:Inv X pins σ H s)
  (hch:∀b∈ch,(b∈X.ex∨X.s₀.heap.objs.size≤b)/\b≠X.env.locals/\(∀x c,X.env.cells.lookup x=some c->c≠b)/\∀p∈X.pn++pins,p.1≠b)
  (keep:∀b o,b≠X.env.locals->b∉X.fs->b∉ch->s.heap.get? b=some o->H b=none->h'.get? b=some o)
  (slot:∀b o,b≠X.env.locals->b∈X.fs->b∉ch->s.heap.get? b=some o->H b=none->∃sl,h'.get? b=some { o with slots:=sl }) (free:∀b o,b∉ch->s.heap.get? b=some o->H b=none->H' b=none)
  (there:∀b o,b∉ch->s.heap.get? b=some o->∃o',h'.get? b=some o')
  (tups:∀b xs,H b=some (.tup xs)->H' b=some (.tup xs)) (frzs:∀b o u,H b=some (.frz o u)->H' b=some (.frz o u)) (tbls:∀b ps,H b=some (.tbl ps)->∃more,H' b=some (.tbl (ps++more)))
  (ns:∀m,s.heap.Ns X.env.locals m->h'.Ns X.env.locals m) (hok:HOk X.prog X.w H' h') (hg:AllBare g'):
  Inv X pins σ H' { s with heap:=h',gens:=g',drawn:=d',toks:=t' }:=by
 have neL:∀b o,X.s₀.heap.get? b=some o->b≠X.env.locals:=fun b o e=>Nat.ne_of_lt (Nat.lt_of_lt_of_le (Heap.lt_size e) I.ok.above);have neC:∀b o,X.s₀.heap.get? b=some o->b∉X.ex->b∉ch:=fun b o e hx hb=>by
  rcases (hch b hb).1 with z|z
  ·exact hx z
  ·exact absurd (Nat.lt_of_lt_of_le (Heap.lt_size e) z) (Nat.lt_irrefl _)
 have cellK:∀x c,X.env.cells.lookup x=some c->∀v,s.heap.IsCell c v->h'.IsCell c v:=fun x c e v ⟨o,ho,hd⟩=>by
  have nch:c∉ch:=fun z=>(hch c z).2.2.1 x c e rfl;by_cases hc:c∈X.fs
  ·obtain⟨sl,q⟩:=slot c o (I.cne x c e) hc nch ho (I.freeC x c e);exact⟨_,q,hd⟩
  ·exact⟨o,keep c o (I.cne x c e) hc nch ho (I.freeC x c e),hd⟩
 refine⟨I.ok,I.os,hg,⟨fun b o e n hb hx=>?_,fun b o e n hb hx=>?_,fun b o e n hx=>?_,fun b o e hx=>?_,fun b xs e=>tups b xs (I.base.tups b xs e),fun b o xs e=>frzs b o xs (I.base.frzs b o xs e),fun b ps e=>?_⟩,?_,fun x c e=>?_,?_,fun x c e=>?_,fun p hp=>?_,hok,I.len⟩
 ·exact keep b o (neL b o e) hb (neC b o e hx) (I.base.keep b o e n hb hx) (I.base.free b o e n hx)
 ·obtain⟨sl,e1⟩:=I.base.slot b o e n hb hx;obtain⟨sl',e2⟩:=slot b _ (neL b o e) hb (neC b o e hx) e1 (I.base.free b o e n hx);exact⟨sl',e2⟩
 ·obtain⟨o',e1⟩:=I.base.there b o e hx;exact free b o' (neC b o e hx) e1 (I.base.free b o e n hx)
 ·obtain⟨o',e1⟩:=I.base.there b o e hx;exact there b o' (neC b o e hx) e1
 ·obtain⟨m1,e1⟩:=I.base.tbls b ps e;obtain⟨m2,e2⟩:=tbls b _ e1;exact⟨m1++m2,by rw[e2,Array.append_assoc]⟩
 ·obtain⟨m,hn,hl⟩:=I.loc;refine⟨m,ns m hn,fun i x v e1 e2 e3=>?_⟩;obtain⟨u,r,l⟩:=hl i x v e1 e2 e3;refine⟨u,r,?_⟩;rcases l with l|⟨k,c,e,z⟩
  ·exact .inl l
  ·exact .inr ⟨k,c,e,cellK x c e _ z⟩
 ·obtain⟨v,z⟩:=I.cell x c e;exact⟨v,cellK x c e v z⟩
 ·obtain⟨m,⟨o,_,_,ho,_⟩,_⟩:=I.loc;exact free _ o (fun z=>(hch _ z).2.1 rfl) ho I.free
 ·obtain⟨v,o,ho,hd⟩:=I.cell x c e;exact free c o (fun z=>(hch c z).2.2.1 x c e rfl) ho (I.freeC x c e)
 ·obtain⟨e,n,ne,nf,d⟩:=I.pin p hp;have nch:p.1∉ch:=fun z=>(hch p.1 z).2.2.2 p hp rfl;exact⟨keep p.1 p.2 ne nf nch e n,free p.1 p.2 nch e n,ne,nf,d⟩
theorem Inv.un{t':Nat}(I:Inv X pins σ H s)(u:Un X.fs [] H H' s.heap h')(hok:HOk X.prog X.w H' h'):Inv X pins σ H' { s with heap:=h',toks:=t' }:=by
 obtain⟨m,⟨o,es,ep,ho,r⟩,_⟩:=id I.loc;obtain⟨sl,hL⟩:=u.any ho I.free (by simp);exact I.step (g':=s.gens) (d':=s.drawn) (ch:=[]) (fun _ z=>nomatch z) (fun b o _ hb _ e n=>u.keep b o e n hb (by simp)) (fun b o _ hb _ e n=>u.slot b o e n hb (by simp)) (fun b o _ e n=>u.free b o e n (by simp)) (fun b o _ e=>u.there b o e (by simp)) u.tups u.frzs u.tbls (fun m' hm=>by
  obtain⟨o',es',ep',ho',r'⟩:=hm;rw[ho] at ho';cases ho';exact⟨_,es',ep',hL,r'⟩) hok I.bare
theorem Inv.call{g':Array GenState}{t':Nat}{d':Drawn}{ch:List Addr}(I:Inv X pins σ H s)(u:Un (frs X.stack) ch H H' s.heap h')(hok:HOk X.prog X.w H' h')(hg:AllBare g')
  (hch:∀b∈ch,(b∈X.ex∨X.s₀.heap.objs.size≤b)/\b≠X.env.locals/\(∀x c,X.env.cells.lookup x=some c->c≠b)/\∀p∈X.pn++pins,p.1≠b):
  Inv X pins σ H' { s with heap:=h',gens:=g',drawn:=d',toks:=t' }:=by
 obtain⟨m,⟨o,es,ep,ho,r⟩,_⟩:=id I.loc;obtain⟨sl,hL⟩:=u.any ho I.free fun z=>(hch _ z).2.1 rfl;exact I.step (ch:=ch) hch (fun b o hL hb hc e n=>u.keep b o e n (fun z=>(List.mem_cons.mp (I.stkSub b z)).elim hL hb) hc) (fun b o _ _ hc e n=>u.any e n hc) (fun b o hc e n=>u.free b o e n hc) (fun b o hc e=>u.there b o e hc) u.tups u.frzs u.tbls (fun m' hm=>by
  obtain⟨o',es',ep',ho',r'⟩:=hm;rw[ho] at ho';cases ho';exact⟨_,es',ep',hL,r'⟩) hok hg
theorem Inv.turned{t':Nat}{it:Addr}(I:Inv X pins σ H s)(k:∀b o,b≠it->s.heap.get? b=some o->h'.get? b=some o)(hn:H it=none)(hL:it≠X.env.locals)
  (h1:it∈X.ex∨X.s₀.heap.objs.size≤it) (h2:∀x c,X.env.cells.lookup x=some c->c≠it) (h3:∀p∈X.pn++pins,p.1≠it):Inv X pins σ H { s with heap:=h',toks:=t' }:=by
 have nit:∀b u,H b=some u->b≠it:=fun b u e z=>by rw[z,hn] at e;cases e
 refine I.step (g':=s.gens) (d':=s.drawn) (ch:=[it]) (fun b hb=>?_) (fun b o _ _ hc e _=>k b o (fun z=>hc (by simp[z])) e) (fun b o _ _ hc e _=>⟨o.slots,k b o (fun z=>hc (by simp[z])) e⟩) (fun _ _ _ _ n=>n)
  (fun b o hc e=>⟨o,k b o (fun z=>hc (by simp[z])) e⟩) (fun _ _ e=>e) (fun _ _ _ e=>e) (fun b ps e=>⟨#[],by rw[e];simp⟩) (fun m hm=>?_) (fun b u e=>?_) I.bare
 ·have e:b=it:=by simpa using hb
  subst e;exact⟨h1,hL,h2,h3⟩
 ·obtain⟨o,es,ep,ho,r⟩:=hm;exact⟨o,es,ep,k _ o (Ne.symm hL) ho,r⟩
 ·refine (I.hok b u e).stay (fun c v hc q=>k c v ?_ q) (fun _ q=>q) fun _ _ q=>q;rcases hc with z|z
  ·rw[z];exact nit b u e
  ·exact nit c _ z
theorem Inv.tok(I:Inv X pins σ H s)(t:Nat):Inv X pins σ H { s with toks:=t }:=I.un (h':=s.heap) (t':=t) Un.refl I.hok
theorem Inv.kept{t':Nat}(I:Inv X pins σ H s)(k:∀b u,s.heap.get? b=some u->h'.get? b=some u):Inv X pins σ H { s with heap:=h',toks:=t' }:=I.un (Un.kept k) (I.hok.kept k)
theorem Inv.laid{a:Addr}{o:HO}{t':Nat}(I:Inv X pins σ H s)(k:∀b u,s.heap.get? b=some u->h'.get? b=some u)(hp:s.heap.objs.size≤a)(new:ObjOk X.prog X.w (upd H a o) h' a o):
  Inv X pins σ (upd H a o) { s with heap:=h',toks:=t' }:=I.un (Un.laid k hp (I.hok.fresh hp)) (I.hok.laid k hp new)
theorem Inv.write{x e:Addr}{o:HO}{t':Nat}(I:Inv X pins σ H s)(mu:Mut (H x))(he:e=x∨H e=some (.own x))(k:∀b u,b≠e->s.heap.get? b=some u->h'.get? b=some u)(heo:∃u,h'.get? e=some u)
  (new:ObjOk X.prog X.w (upd H x o) h' x o):Inv X pins σ (upd H x o) { s with heap:=h',toks:=t' }:=I.un (Un.write mu he k heo) (I.hok.write mu he k heo new)
theorem Inv.pins_of{pins':List (Addr×Obj)}(I:Inv X pins σ H s)(h:∀p∈pins',s.heap.get? p.1=some p.2/\H p.1=none/\p.1≠X.env.locals/\p.1∉X.fs/\∀v,p.2.data≠.cell v):Inv X pins' σ H s:=
 ⟨I.ok,I.os,I.bare,I.base,I.loc,I.cell,I.free,I.freeC,fun p hp=>(List.mem_append.mp hp).elim (fun z=>I.pin p (List.mem_append_left _ z)) (h p),I.hok,I.len⟩
theorem qizz{N:List Str}(hN:N.Nodup){i j:Nat}{x:Str}(a:N[i]?=some x)(b:N[j]?=some x):i=j:=by
 obtain⟨h1,e1⟩:=List.getElem?_eq_some_iff.mp a;obtain⟨h2,e2⟩:=List.getElem?_eq_some_iff.mp b;exact (List.getElem_inj hN).mp (e1.trans e2.symm)
theorem qi0z{M:Model}{A:Around}{E:Value->Shared->Prop}{i:Nat}{x:Str}{v:V}{u:Value}{Q:Unit->Shared->Prop}(I:Inv X pins σ H s)(hN:X.N.Nodup)(hi:X.N[i]?=some x)(hx:Loc X.env.scope x)(r:RelV v u)
  (h:∀s',Inv X pins (σ.set i (some v)) H s'->(∃a,Heap.SameBut a s.heap s'.heap/\(a=X.env.locals∨X.env.cells.lookup x=some a))->Q () s') (hf:X.fn x=true∨X.env.scope.names.lookup x=some .local:=by first|exact .inl rfl|exact .inr rfl|assumption):wpAny M A (storeName X.env x u) Q E s:=by
 obtain⟨m,hn,hl⟩:=id I.loc;have hcls:(X.env.scope.kind==.class||(X.env.scope.kind==.module&&X.env.locals != X.env.globals))=false:=by rw[I.ok.kind];rfl
 have hiσ:i<σ.length:=by rw[I.len];exact (List.getElem?_eq_some_iff.mp hi).1
 have cne:=I.cne;have tracked:∀{a:Addr} {h':Heap},(∃o,s.heap.get? a=some o/\H a=none)->Heap.SameBut a s.heap h'->HOk X.prog X.w H h':=fun {a h'} ha hs b ob e=>by
  obtain⟨_,_,hfree⟩:=ha;refine (I.hok b ob e).stay (fun c w' hc q=>(hs.2 c ?_).trans q) (fun _ q=>q) fun _ _ q=>q;rintro rfl;rcases hc with rfl|hc
  ·rw[hfree] at e;cases e
  ·rw[hfree] at hc;cases hc
 rcases hx with hk|hk
 ·refine wpAny_storeName_local hk hn (fun h' hn' hs=>?_) hcls;obtain⟨oL,_,_,hoL,_⟩:=id hn;refine h _ ⟨I.ok,I.os,I.bare,⟨fun b o e n hb hx=>?_,fun b o e n hb hx=>?_,I.base.free,fun b o e hx=>?_,I.base.tups,I.base.frzs,I.base.tbls⟩,⟨_,hn',fun j y v' e1 e2 e3=>?_⟩,fun y c e=>?_,I.free,I.freeC,fun p hp=>?_,tracked ⟨oL,hoL,I.free⟩ hs,by simpa using I.len⟩ ⟨_,hs,.inl rfl⟩
  ·exact (hs.2 b (Nat.ne_of_lt (Nat.lt_of_lt_of_le (Heap.lt_size e) I.ok.above))).trans (I.base.keep b o e n hb hx)
  ·obtain⟨sl,e1⟩:=I.base.slot b o e n hb hx;exact⟨sl,(hs.2 b (Nat.ne_of_lt (Nat.lt_of_lt_of_le (Heap.lt_size e) I.ok.above))).trans e1⟩
  ·obtain⟨o',e1⟩:=I.base.there b o e hx;exact⟨o',(hs.2 b (Nat.ne_of_lt (Nat.lt_of_lt_of_le (Heap.lt_size e) I.ok.above))).trans e1⟩
  ·by_cases hj:j=i
   ·subst hj;rw[hi] at e1;cases e1;rw[List.getElem?_set_self hiσ] at e2;cases e2;exact⟨u,r,.inl ⟨hk,by simp⟩⟩
   ·rw[List.getElem?_set_ne (Ne.symm hj)] at e2;obtain⟨u',r',q⟩:=hl j y v' e1 e2 e3;refine⟨u',r',?_⟩;rcases q with⟨k,e⟩|⟨k,c,e,z⟩
    ·refine .inl ⟨k,?_⟩;have:y≠x:=fun e=>hj (qizz hN e1 (e▸hi));simp[this,e]
    ·exact .inr ⟨k,c,e,z.sameBut hs (cne y c e)⟩
  ·obtain⟨w',z⟩:=I.cell y c e;exact⟨w',z.sameBut hs (cne y c e)⟩
  ·obtain⟨e,n,ne,nf,d⟩:=I.pin p hp;exact⟨(hs.2 p.1 ne).trans e,n,ne,nf,d⟩
 ·have hfn:X.fn x=true:=by
   rcases hf with z|z
   ·exact z
   ·rw[z] at hk;cases hk
  obtain⟨c,hc⟩:=I.ok.has x (.inl hk);obtain⟨w',z⟩:=I.cell x c hc;refine wpAny_storeName_cell I.ok.kind hk hc z (fun h' hc' hs=>?_);obtain⟨oc,hoc,hocd⟩:=id z;refine h { s with heap:=h' } ⟨I.ok,I.os,I.bare,⟨fun b o e n hb hx=>?_,fun b o e n hb hx=>?_,I.base.free,fun b o e hx=>?_,I.base.tups,I.base.frzs,I.base.tbls⟩,⟨m,hn.sameBut hs (Ne.symm (cne x c hc)),fun j y v' e1 e2 e3=>?_⟩,fun y c' e=>?_,I.free,I.freeC,fun p hp=>?_,tracked ⟨oc,hoc,I.freeC x c hc⟩ hs,by simpa using I.len⟩ ⟨c,hs,.inr hc⟩
  ·exact (hs.2 b (Nat.ne_of_lt (Nat.lt_of_lt_of_le (Heap.lt_size e) (I.ok.cab x c hfn hc)))).trans (I.base.keep b o e n hb hx)
  ·obtain⟨sl,e1⟩:=I.base.slot b o e n hb hx;exact⟨sl,(hs.2 b (Nat.ne_of_lt (Nat.lt_of_lt_of_le (Heap.lt_size e) (I.ok.cab x c hfn hc)))).trans e1⟩
  ·obtain⟨o',e1⟩:=I.base.there b o e hx;exact⟨o',(hs.2 b (Nat.ne_of_lt (Nat.lt_of_lt_of_le (Heap.lt_size e) (I.ok.cab x c hfn hc)))).trans e1⟩
  ·by_cases hj:j=i
   ·subst hj;rw[hi] at e1;cases e1;rw[List.getElem?_set_self hiσ] at e2;cases e2;exact⟨u,r,.inr ⟨.inl hk,c,hc,hc'⟩⟩
   ·rw[List.getElem?_set_ne (Ne.symm hj)] at e2;obtain⟨u',r',q⟩:=hl j y v' e1 e2 e3;refine⟨u',r',?_⟩;rcases q with q|⟨k,c',e,z'⟩
    ·exact .inl q
    ·refine .inr ⟨k,c',e,z'.sameBut hs ?_⟩;rintro rfl;exact hj (qizz hN e1 (I.ok.inj _ _ _ e hc▸hi))
  ·by_cases hcc:c'=c
   ·subst hcc;exact⟨_,hc'⟩
   ·obtain⟨w2,z2⟩:=I.cell y c' e;exact⟨w2,z2.sameBut hs hcc⟩
  ·obtain⟨e,n,ne,nf,d⟩:=I.pin p hp;refine⟨(hs.2 p.1 ?_).trans e,n,ne,nf,d⟩;intro q;rw[q,hoc] at e;have q':oc=p.2:=Option.some.inj e;exact d w' (by rw[←q'];exact hocd)
theorem qfxz{M:Model}{A:Around}{E:Value->Shared->Prop}{i:Nat}{x:Str}{v:V}{u:Value}{Q:Unit->Shared->Prop}(I:Inv X pins σ H s)(hN:X.N.Nodup)(hi:X.N[i]?=some x)(hx:Loc X.env.scope x)(r:RelV v u)
  (h:∀s',Inv X pins (σ.set i (some v)) H s'->Q () s') (hf:X.fn x=true∨X.env.scope.names.lookup x=some .local:=by first|exact .inl rfl|exact .inr rfl|assumption):wpAny M A (storeName X.env x u) Q E s:=
 qi0z I hN hi hx r (fun s' I' _=>h s' I') hf
theorem Inv.call'{s':Shared}{ch:List Addr}(I:Inv X pins σ H s)(ho:s'.os=s.os)(u:Un (frs X.stack) ch H H' s.heap s'.heap)(hok:HOk X.prog X.w H' s'.heap)(hg:AllBare s'.gens)
  (hch:∀b∈ch,(b∈X.ex∨X.s₀.heap.objs.size≤b)/\b≠X.env.locals/\(∀x c,X.env.cells.lookup x=some c->c≠b)/\∀p∈X.pn++pins,p.1≠b):Inv X pins σ H' s':=by
 obtain⟨h',g',d',t',o'⟩:=s';have e:o'=s.os:=ho;subst e;exact I.call (g':=g') (t':=t') (d':=d') u hok hg hch
end
abbrev XK:=Value->Option Addr->Hp->Prop
abbrev St:=List (Option V)
abbrev VK:=V->Hp->Prop
abbrev TE:=St->Hp->VK->Prop
abbrev TT:=St->Hp->(Bool->Hp->Prop)->Prop
abbrev TA:=St->Hp->(List V->Hp->Prop)->Prop
structure Ends where
 nx:St->Hp->Prop
 rt:VK
 bk:St->Hp->Prop:=fun _ _=>False
 ct:St->Hp->Prop:=fun _ _=>False
abbrev TS:=Ends->St->Hp->Prop
def EP(X:Cx)(pins:List (Addr×Obj))(σ:St)(Q:VK)(u:Value)(s':Shared):Prop:=∃v H',Inv X pins σ H' s'/\RelV v u/\Q v H'
def TP(X:Cx)(pins:List (Addr×Obj))(σ:St)(Q:Bool->Hp->Prop)(b:Bool)(s':Shared):Prop:=∃H',Inv X pins σ H' s'/\Q b H'
def AP(X:Cx)(pins:List (Addr×Obj))(σ:St)(Q:List V->Hp->Prop)(us:List Value)(s':Shared):Prop:=∃vs H',Inv X pins σ H' s'/\Vals vs us/\Q vs H'
def SP(X:Cx)(pins:List (Addr×Obj))(D:Ends)(f:Flow)(s':Shared):Prop:=
 match f with
 |.next=>∃σ' H',Inv X pins σ' H' s'/\D.nx σ' H'
 |.brk=>∃σ' H',Inv X pins σ' H' s'/\D.bk σ' H'
 |.cont=>∃σ' H',Inv X pins σ' H' s'/\D.ct σ' H'
 |.ret u=>∃v σ' H',Inv X pins σ' H' s'/\RelV v u/\D.rt v H'
def PE(X:Cx)(e:Expr)(t:TE):Prop:=
 ∀(pins:List (Addr×Obj)) (s:Shared) (σ:St) (H:Hp) (Q:VK),Inv X pins σ H s->t σ H Q->wpAny (model X.prog X.w) X.A (eval e X.env) (EP X pins σ Q) X.xe s
def PT(X:Cx)(e:Expr)(t:TT):Prop:=
 ∀(pins:List (Addr×Obj)) (s:Shared) (σ:St) (H:Hp) (Q:Bool->Hp->Prop),Inv X pins σ H s->t σ H Q->wpAny (model X.prog X.w) X.A (isTrue e X.env (eval e X.env)) (TP X pins σ Q) X.xe s
def PW(X:Cx)(e:Expr)(t:TT):Prop:=
 ∀(whole:Sem Value) (pins:List (Addr×Obj)) (s:Shared) (σ:St) (H:Hp) (Q:Bool->Hp->Prop),Inv X pins σ H s->t σ H Q->wpAny (model X.prog X.w) X.A (isTrue e X.env whole) (TP X pins σ Q) X.xe s
theorem PW.pt{X:Cx}{e:Expr}{t:TT}(h:PW X e t):PT X e t:=h _
def PA(X:Cx)(es:List Expr)(t:TA):Prop:=
 ∀(pos:Pos) (pins:List (Addr×Obj)) (s:Shared) (σ:St) (H:Hp) (Q:List V->Hp->Prop),Inv X pins σ H s->t σ H Q->wpAny (model X.prog X.w) X.A (spliced (backTo pos (starEach es X.env))) (AP X pins σ Q) X.xe s
def PS(X:Cx)(st:Stmt)(t:TS):Prop:=
 ∀(pins:List (Addr×Obj)) (s:Shared) (σ:St) (H:Hp) (D:Ends),Inv X pins σ H s->t D σ H->wpAny (model X.prog X.w) X.A (exec st X.env) (SP X pins D) X.xe s
def PSs(X:Cx)(st:List Stmt)(t:TS):Prop:=
 ∀(pins:List (Addr×Obj)) (s:Shared) (σ:St) (H:Hp) (D:Ends),Inv X pins σ H s->t D σ H->wpAny (model X.prog X.w) X.A (execs st X.env) (SP X pins D) X.xe s
theorem thn{α:Type}{t:Sem α}{Q Q':α->Shared->Prop}{M:Model}{A:Around}{E:Value->Shared->Prop}{s:Shared}(h:wpAny M A t Q E s)(hQ:∀a s,Q a s->Q' a s):wpAny M A t Q' E s:=wpAny_mono h hQ fun _ _ x=>x
end L2
namespace L2
open PySem PySem.Spec PyProof.Rows
section
variable {X:Cx}
theorem bin{a b:Expr}{ta tb:TE}(ha:PE X a ta)(hb:PE X b tb){pins:List (Addr×Obj)}{s:Shared}{σ:St}{H:Hp}{R:V->V->Hp->Prop}(I:Inv X pins σ H s)(h:ta σ H fun x H1=>tb σ H1 fun y H2=>R x y H2)
  {α:Type} {Q:α->Shared->Prop} {f:Value->Value->Sem α}
  (hf:∀v u s2 x y H2,Inv X pins σ H2 s2->RelV x v->RelV y u->R x y H2->wpAny (model X.prog X.w) X.A (f v u) Q X.xe s2):
  wpAny (model X.prog X.w) X.A (eval a X.env) (fun v s₁=>wpAny (model X.prog X.w) X.A (eval b X.env) (fun u s₂=>wpAny (model X.prog X.w) X.A (f v u) Q X.xe s₂) X.xe s₁) X.xe s:=by
 refine thn (ha pins s σ H _ I h) fun v s1 ⟨x,H1,I1,r1,q1⟩=>?_;refine thn (hb pins s1 σ H1 _ I1 q1) fun u s2 ⟨y,H2,I2,r2,q2⟩=>?_;exact hf v u s2 x y H2 I2 r1 r2 q2
def tVar(i:Nat):TE:=fun σ H Q=>∃v,σ[i]?=some (some v)/\Q v H
def tC(v:V):TE:=fun _ H Q=>Q v H
theorem qpwz{i:Nat}{x:Str}{pos:Pos}(hN:X.N[i]?=some x)(hv:Vis X.env.scope x)(hd:(x==("__debug__":Str))=false:=by decide)(hcd:(x==("__classdict__":Str))=false:=by decide):PE X (.Name x pos) (tVar i):=by
 intro pins s σ H Q I h;obtain⟨v,e,h⟩:=h;obtain⟨m,hn,hl⟩:=I.loc;obtain⟨u,r,l⟩:=hl i x v hN e hv;have fin:EP X pins σ Q u s:=⟨v,H,I,r,h⟩;rcases l with⟨hk,hm⟩|⟨hk,c,hc,hcell⟩
 ·exact wpAny_Name (wpAny_loadName_local I.ok.kind hk hn hm fin) hd
 ·rcases hk with hk|hk
  ·exact wpAny_Name (wpAny_loadName_cell I.ok.kind hk hc hcell fin) hd
  ·exact wpAny_Name (wpAny_loadName_free I.ok.kind hk hc hcell fin hcd) hd
theorem qi1z{i j pos}:PE X (.Constant (.int i) j pos) (tC (.int i)):=fun _ _ _ H _ I h=>wpAny_Constant_int ⟨.int i,H,I.tok _,⟨_,rfl⟩,h⟩
theorem qpxz{b j pos}:PE X (.Constant (.bool b) j pos) (tC (.bl b)):=fun _ _ _ H _ I h=>Constant_bool ⟨.bl b,H,I,rfl,h⟩
theorem qpyz{j pos}:PE X (.Constant .none j pos) (tC .non):=fun _ _ _ H _ I h=>Constant_none ⟨.non,H,I,rfl,h⟩
def Gl(X:Cx)(x:Str):Prop:=X.env.kindOf x=some .globalImplicit
theorem qi2z{E:Value->Shared->Prop}{pins:List (Addr×Obj)}{s:Shared}{σ:St}{H:Hp}{x:Str}{u:Value}{pos:Pos}{Q:Value->Shared->Prop}(I:Inv X pins σ H s)(hg:Gl X x)(hm:X.mg x=some u)(h:Q u s)
  (hd:(x==("__debug__":Str))=false:=by decide):wpAny (model X.prog X.w) X.A (eval (.Name x pos) X.env) Q E s:=
 Calls.Name_function_global I.ok.kind hg (Calls.loadGlobal_global (by rw[I.ok.glob];exact I.mod.glob.keeps I.bk) hm h) hd
theorem qa0z{E:Value->Shared->Prop}{pins:List (Addr×Obj)}{s:Shared}{σ:St}{H:Hp}{x:Str}{u:Value}{pos:Pos}{Q:Value->Shared->Prop}(I:Inv X pins σ H s)(hg:Gl X x)(hm:X.mg x=none)(hv:bootBuiltins x=some u)(h:Q u s)
  (hn:x≠"__name__":=by decide) (hd:(x==("__debug__":Str))=false:=by decide):wpAny (model X.prog X.w) X.A (eval (.Name x pos) X.env) Q E s:=by
 obtain⟨mb,h1,h2⟩:=I.mod.blt;exact Calls.Name_function_global I.ok.kind hg (Calls.loadGlobal_builtin (by rw[I.ok.glob];exact I.mod.glob.keeps I.bk) hm (by rw[I.ok.blt];exact h1.keeps I.bk) ((h2 x hn).trans hv) h) hd
theorem qpzz{x:Str}{v:V}{u:Value}{pos:Pos}(hg:Gl X x)(hm:X.mg x=some u)(r:RelV v u)(hd:(x==("__debug__":Str))=false:=by decide):PE X (.Name x pos) (tC v):=
 fun _ _ _ H _ I h=>qi2z I hg hm ⟨v,H,I,r,h⟩ hd
theorem qp0z{x:Str}{v:V}{u:Value}{pos:Pos}(hg:Gl X x)(hm:X.mg x=none)(hv:bootBuiltins x=some u)(r:RelV v u)(hn:x≠"__name__":=by decide)(hd:(x==("__debug__":Str))=false:=by decide):PE X (.Name x pos) (tC v):=
 fun _ _ _ H _ I h=>qa0z I hg hm hv ⟨v,H,I,r,h⟩ hn hd
variable {a b:Expr} {ta tb:TE} {pos:Pos}
variable {tA tB':TT} {rest:List Expr}
def tAnd(t u:TT):TT:=fun σ H Q=>t σ H fun c H1=>if c=true then u σ H1 Q else Q false H1
def tOr(t u:TT):TT:=fun σ H Q=>t σ H fun c H1=>if c=true then Q true H1 else u σ H1 Q
def tNot(t:TT):TT:=fun σ H Q=>t σ H fun c H1=>Q (!c) H1
theorem pw_and1(ha:PT X a tA):PW X (.BoolOp .And [a] pos) tA:=by
 intro wh pins s σ H Q I h;refine isTrue_and (thn (ha pins s σ H Q I h) fun c s1 e=>?_);cases c with
 |true=>exact isTrue_and_nil e
 |false=>exact e
theorem pw_or1(ha:PT X a tA):PW X (.BoolOp .Or [a] pos) tA:=by
 intro wh pins s σ H Q I h;refine isTrue_or (thn (ha pins s σ H Q I h) fun c s1 e=>?_);cases c with
 |false=>exact isTrue_or_nil e
 |true=>exact e
theorem pw_and(ha:PT X a tA)(hb:PW X (.BoolOp .And (b::rest) pos) tB'):PW X (.BoolOp .And (a::b::rest) pos) (tAnd tA tB'):=by
 intro wh pins s σ H Q I h;refine isTrue_and (thn (ha pins s σ H _ I h) fun c s1 ⟨H1,I1,q1⟩=>?_);cases c with
 |true=>exact hb wh pins s1 σ H1 Q I1 q1
 |false=>exact⟨H1,I1,q1⟩
theorem pw_or(ha:PT X a tA)(hb:PW X (.BoolOp .Or (b::rest) pos) tB'):PW X (.BoolOp .Or (a::b::rest) pos) (tOr tA tB'):=by
 intro wh pins s σ H Q I h;refine isTrue_or (thn (ha pins s σ H _ I h) fun c s1 ⟨H1,I1,q1⟩=>?_);cases c with
 |true=>exact⟨H1,I1,q1⟩
 |false=>exact hb wh pins s1 σ H1 Q I1 q1
theorem qp1z(ha:PT X a tA):PT X (.UnaryOp .Not a pos) (tNot tA):=by
 intro pins s σ H Q I h;exact isTrue_not (ha pins s σ H (fun c H1=>Q (!c) H1) I h)
def tAndV(ta tb:TE):TE:=fun σ H Q=>ta σ H fun x H1=>∃c,x=.bl c/\if c=true then tb σ H1 Q else Q (.bl false) H1
def tOrV(ta tb:TE):TE:=fun σ H Q=>ta σ H fun x H1=>∃c,x=.bl c/\if c=true then Q (.bl true) H1 else tb σ H1 Q
def tNotV(ta:TE):TE:=fun σ H Q=>ta σ H fun x H1=>∃c,x=.bl c/\Q (.bl (!c)) H1
theorem qp2z{op}{t:TE}(h:PE X a t):PE X (.BoolOp op [a] pos) t:=fun pins s σ H Q I hw=>BoolOp_one (h pins s σ H Q I hw)
theorem qp3z(ha:PE X a ta)(hb:PE X (.BoolOp .And (b::rest) pos) tb):PE X (.BoolOp .And (a::b::rest) pos) (tAndV ta tb):=by
 intro pins s σ H Q I h;refine BoolOp_and (thn (ha pins s σ H _ I h) fun v s1 ⟨x,H1,I1,r1,q1⟩=>?_);obtain⟨c,rfl,q1⟩:=q1;cases r1;refine wpAny_truthy_bool ?_;cases c with
 |true=>exact hb pins s1 σ H1 Q I1 q1
 |false=>exact⟨.bl false,H1,I1,rfl,q1⟩
theorem qp4z(ha:PE X a ta)(hb:PE X (.BoolOp .Or (b::rest) pos) tb):PE X (.BoolOp .Or (a::b::rest) pos) (tOrV ta tb):=by
 intro pins s σ H Q I h;refine BoolOp_or (thn (ha pins s σ H _ I h) fun v s1 ⟨x,H1,I1,r1,q1⟩=>?_);obtain⟨c,rfl,q1⟩:=q1;cases r1;refine wpAny_truthy_bool ?_;cases c with
 |false=>exact hb pins s1 σ H1 Q I1 q1
 |true=>exact⟨.bl true,H1,I1,rfl,q1⟩
theorem qp5z(ha:PE X a ta):PE X (.UnaryOp .Not a pos) (tNotV ta):=by
 intro pins s σ H Q I h;refine UnaryOp_ (thn (ha pins s σ H _ I h) fun v s1 ⟨x,H1,I1,r1,q1⟩=>?_);obtain⟨c,rfl,q1⟩:=q1;cases r1;exact not_of (wpAny_truthy_bool ⟨.bl (!c),H1,I1,rfl,q1⟩)
def tIf(t:TT)(ta tb:TE):TE:=fun σ H Q=>t σ H fun c H1=>if c=true then ta σ H1 Q else tb σ H1 Q
theorem qp6z{c:Expr}(hc:PT X c tA)(ha:PE X a ta)(hb:PE X b tb):PE X (.IfExp c a b pos) (tIf tA ta tb):=by
 intro pins s σ H Q I h;refine wpAny_IfExp (thn (hc pins s σ H _ I h) fun d s1 ⟨H1,I1,q1⟩=>?_);cases d with
 |true=>exact ha pins s1 σ H1 Q I1 q1
 |false=>exact hb pins s1 σ H1 Q I1 q1
end
end L2
namespace L2
open PySem PySem.Spec PyProof.Rows
def SqL(K:PySem.W.Frag)(H:Hp)(a:Addr)(xs:List V):Prop:=
 Rd H a (.lst xs) ∨
  ∃(o:Obj) (its:Array Value) (n:Nat),K.lookup a=some o/\o.cls=.type "list"/\o.dict=none/\o.data=.seq its n/\its.size≤sizeLine/\Vals xs its.toList
def SqT(K:PySem.W.Frag)(H:Hp)(a:Addr)(xs:List V):Prop:=
 Rd H a (.tup xs) ∨
  ∃(o:Obj) (its:Array Value) (n:Nat),K.lookup a=some o/\o.cls=.type "tuple"/\o.data=.seq its n/\its.size≤sizeLine/\Vals xs its.toList
def absV:Value->Option V
 |.none=>some .non
 |.bool b=>some (.bl b)
 |.int i _=>some (.int i)
 |.str x _=>some (.str x)
 |.bytes b _=>some (.byt b)
 |.float b _=>some (.flt b)
 |.ref a=>some (.ref a)
 |.type n=>some (.ty n)
 |_=>none
theorem RelV.abs{x:V}{u:Value}(r:RelV x u):absV u=some x:=by
 cases x with
 |non=>cases r;rfl
 |bl _=>cases r;rfl
 |int _=>obtain⟨t,rfl⟩:=r;rfl
 |str _=>obtain⟨t,rfl⟩:=r;rfl
 |byt _=>obtain⟨t,rfl⟩:=r;rfl
 |flt _=>obtain⟨t,rfl⟩:=r;rfl
 |ref _=>cases r;rfl
 |ty _=>cases r;rfl
theorem RelV.inj{x y:V}{u:Value}(r:RelV x u)(q:RelV y u):x=y:=Option.some.inj (r.abs.symm.trans q.abs)
theorem Vals.inj:∀{xs ys:List V} {us:List Value},Vals xs us->Vals ys us->xs=ys
 |_,_,_,.nil,.nil=>rfl
 |_,_,_,.cons r t,.cons r' t'=>by rw[r.inj r',Vals.inj t t']
section
variable {X:Cx} {pins:List (Addr×Obj)} {σ:St} {H:Hp} {s:Shared} {a:Addr} {xs ys:List V}
theorem SqL.of{K:PySem.W.Frag}(h:H a=some (.lst xs)):SqL K H a xs:=.inl (.inl h)
theorem SqT.of{K:PySem.W.Frag}(h:H a=some (.tup xs)):SqT K H a xs:=.inl (.inl h)
theorem Inv.list(I:Inv X pins σ H s)(h:SqL X.K H a xs):∃its:List Value,Vals xs its/\PlainL s.heap a its.toArray/\xs.length≤sizeLine:=by
 rcases h with h|⟨o,its,n,hk,hc,hd,hs,hz,r⟩
 ·obtain⟨z,its,n,r,e⟩:=h.ok I.hok;exact⟨its,r,⟨_,n,e,rfl,rfl,rfl⟩,z⟩
 ·refine⟨its.toList,r,⟨o,n,I.kIn a o hk,hc,hd,by simpa using hs⟩,?_⟩;have e:=r.length;simp only[Array.length_toList] at e;lia
theorem Inv.tuple(I:Inv X pins σ H s)(h:SqT X.K H a xs):∃its:List Value,Vals xs its/\IsTup s.heap a its.toArray/\xs.length≤sizeLine:=by
 rcases h with h|⟨o,its,n,hk,hc,hs,hz,r⟩
 ·obtain⟨z,its,r,p⟩:=h.ok I.hok;exact⟨its,r,p,z⟩
 ·refine⟨its.toList,r,⟨o,I.kIn a o hk,hc,n,by simpa using hs⟩,?_⟩;have e:=r.length;simp only[Array.length_toList] at e;lia
theorem Inv.list_inj(I:Inv X pins σ H s)(h:SqL X.K H a xs)(h':SqL X.K H a ys):xs=ys:=by
 obtain⟨its,r,⟨o,n,e,_,_,d⟩,_⟩:=I.list h;obtain⟨its',r',⟨o',n',e',_,_,d'⟩,_⟩:=I.list h';rw[e] at e';cases e';rw[d] at d';injection d' with d1 _
 have:its=its':=by simpa using congrArg Array.toList d1
 subst this;exact r.inj r'
theorem Inv.tuple_inj(I:Inv X pins σ H s)(h:SqT X.K H a xs)(h':SqT X.K H a ys):xs=ys:=by
 obtain⟨its,r,⟨o,e,_,n,d⟩,_⟩:=I.tuple h;obtain⟨its',r',⟨o',e',_,n',d'⟩,_⟩:=I.tuple h';rw[e] at e';cases e';rw[d] at d';injection d' with d1 _
 have:its=its':=by simpa using congrArg Array.toList d1
 subst this;exact r.inj r'
end
abbrev Cx.wish(X:Cx)(E:Value->Shared->Prop):Cx:={ X with xe:=E }
abbrev Cx.nox(X:Cx):Cx:=X.wish fun _ _=>False
theorem Cx.Ok.wish{X:Cx}(ok:X.Ok)(E:Value->Shared->Prop):(X.wish E).Ok:=
 ⟨ok.mod,ok.kind,ok.glob,ok.blt,ok.above,ok.inj,ok.has,ok.cab,ok.hd,ok.frames,ok.stk,ok.exf,ok.bs,ok.bsz,ok.noex,ok.exfs,ok.funs,ok.frf⟩
theorem Cx.Ok.unwish{X:Cx}{E:Value->Shared->Prop}(ok:(X.wish E).Ok):X.Ok:=
 ⟨ok.mod,ok.kind,ok.glob,ok.blt,ok.above,ok.inj,ok.has,ok.cab,ok.hd,ok.frames,ok.stk,ok.exf,ok.bs,ok.bsz,ok.noex,ok.exfs,ok.funs,ok.frf⟩
section
variable {X:Cx} {pins:List (Addr×Obj)} {σ:St} {H:Hp} {s:Shared} {E:Value->Shared->Prop}
theorem Inv.wish(I:Inv X pins σ H s)(E:Value->Shared->Prop):Inv (X.wish E) pins σ H s:=⟨I.ok.wish E,I.os,I.bare,I.base,I.loc,I.cell,I.free,I.freeC,I.pin,I.hok,I.len⟩
theorem Inv.unwish(I:Inv (X.wish E) pins σ H s):Inv X pins σ H s:=⟨I.ok.unwish,I.os,I.bare,I.base,I.loc,I.cell,I.free,I.freeC,I.pin,I.hok,I.len⟩
theorem SP.unwish{D:Ends}{f:Flow}{s':Shared}(h:SP (X.wish E) pins D f s'):SP X pins D f s':=by
 cases f with
 |next=>obtain⟨σ',H',I,q⟩:=h;exact⟨σ',H',I.unwish,q⟩
 |brk=>obtain⟨σ',H',I,q⟩:=h;exact⟨σ',H',I.unwish,q⟩
 |cont=>obtain⟨σ',H',I,q⟩:=h;exact⟨σ',H',I.unwish,q⟩
 |ret u=>obtain⟨v,σ',H',I,r,q⟩:=h;exact⟨v,σ',H',I.unwish,r,q⟩
theorem PSs.nox{st:List Stmt}{t:TS}(h:PSs X.nox st t):PSs X st t:=fun pins s σ H D I hw=>
 wpAny_mono (h pins s σ H D (I.wish _) hw) (fun _ _ q=>q.unwish) fun _ _ z=>False.elim z
end
section
variable {X:Cx} {st:Stmt} {rest:List Stmt} {t u:TS} {e:Expr} {te:TE} {pos:Pos}
def tNext:TS:=fun D σ H=>D.nx σ H
def tSeq(t u:TS):TS:=fun D σ H=>t { D with nx:=u D } σ H
theorem qp7z:PSs X [] tNext:=fun _ _ σ H _ I h=>wpAny_execs_nil ⟨σ,H,I,h⟩
theorem qp8z(h1:PS X st t)(h2:PSs X rest u):PSs X (st::rest) (tSeq t u):=by
 intro pins s σ H D I h;refine wpAny_execs_cons (thn (h1 pins s σ H { D with nx:=u D } I h) fun f s1 q=>?_);cases f with
 |next=>
  obtain⟨σ',H',I',q⟩:=q;exact h2 pins s1 σ' H' D I' q
 |ret v=>exact q
 |brk=>exact q
 |cont=>exact q
theorem qp9z(h1:PS X st t):PSs X [st] t:=by
 intro pins s σ H D I h;refine wpAny_execs_cons (thn (h1 pins s σ H D I h) fun f s1 q=>?_);cases f with
 |next=>exact wpAny_execs_nil q
 |ret v=>exact q
 |brk=>exact q
 |cont=>exact q
theorem Inv.quiet{pins:List (Addr×Obj)}{σ:St}{H:Hp}{s:Shared}(I:Inv X pins σ H s):interactive X.env=false:=by simp[interactive,I.ok.kind]
def tDrop(te:TE):TS:=fun D σ H=>te σ H fun _ H1=>D.nx σ H1
theorem qqaz(he:PE X e te)(hs:swapsWith e none pos.line X.env=pure false:=by rfl):PS X (.Expr e pos) (tDrop te):=by
 intro pins s σ H D I h;exact wpAny_Expr_any (thn (he pins s σ H _ I h) fun v s1 ⟨x,H1,I1,r1,q1⟩=>⟨σ,H1,I1,q1⟩) I.quiet hs
def tRet(te:TE):TS:=fun D σ H=>te σ H D.rt
theorem qqbz(he:PE X e te):PS X (.Return (some e) pos) (tRet te):=by
 intro pins s σ H D I h;exact wpAny_Return_some (thn (he pins s σ H _ I h) fun v s1 ⟨x,H1,I1,r1,q1⟩=>⟨x,σ,H1,I1,r1,q1⟩)
def tIfS(c:TT)(t u:TS):TS:=fun D σ H=>c σ H fun b H1=>if b=true then t D σ H1 else u D σ H1
theorem qqcz{c:Expr}{a b:List Stmt}{tc:TT}(hc:PT X c tc)(ha:PSs X a t)(hb:PSs X b u):PS X (.If c a b pos) (tIfS tc t u):=by
 intro pins s σ H D I h;refine wpAny_If (thn (hc pins s σ H _ I h) fun d s1 ⟨H1,I1,q1⟩=>?_);cases d with
 |true=>exact ha pins s1 σ H1 D I1 q1
 |false=>exact hb pins s1 σ H1 D I1 q1
def tNever:TS:=fun _ _ _=>False
theorem qqdz:PS X st tNever:=fun _ _ _ _ _ _ h=>h.elim
end
abbrev TG:=V->St->Hp->(St->Hp->Prop)->Prop
abbrev TGs:=List V->St->Hp->(St->Hp->Prop)->Prop
def PG(X:Cx)(target:Expr)(t:TG):Prop:=
 ∀(pins:List (Addr×Obj)) (s:Shared) (σ:St) (H:Hp) (v:V) (u:Value) (Q:St->Hp->Prop),Inv X pins σ H s->RelV v u->t v σ H Q ->
  wpAny (model X.prog X.w) X.A (assign target X.env u) (fun _ s'=>∃σ' H',Inv X pins σ' H' s'/\Q σ' H') X.xe s
def PGs(X:Cx)(ts:List Expr)(t:TGs):Prop:=
 ∀(pins:List (Addr×Obj)) (s:Shared) (σ:St) (H:Hp) (vs:List V) (us:List Value) (Q:St->Hp->Prop),Inv X pins σ H s->Vals vs us->t vs σ H Q ->
  wpAny (model X.prog X.w) X.A (assignInOrder ((assignEach ts X.env).map (·.2)) us) (fun _ s'=>∃σ' H',Inv X pins σ' H' s'/\Q σ' H') X.xe s
abbrev TSet:=V->V->V->Hp->(Hp->Prop)->Prop
def PSet(X:Cx)(t:TSet):Prop:=
 ∀(pins:List (Addr×Obj)) (s:Shared) (σ:St) (H:Hp) (o i v:V) (ov iv u:Value) (Q:Hp->Prop),Inv X pins σ H s->RelV o ov->RelV i iv->RelV v u->t o i v H Q ->
  wpAny (model X.prog X.w) X.A (setItem ov iv u) (fun _ s'=>∃H',Inv X pins σ H' s'/\Q H') X.xe s
abbrev TIp:=V->V->Hp->VK->Prop
def PIp(X:Cx)(op:Operator)(t:TIp):Prop:=
 ∀(pins:List (Addr×Obj)) (s:Shared) (σ:St) (H:Hp) (x y:V) (v u:Value) (Q:VK),Inv X pins σ H s->RelV x v->RelV y u->t x y H Q ->
  wpAny (model X.prog X.w) X.A (inplaceOp op v u) (EP X pins σ Q) X.xe s
section
variable {X:Cx} {pos:Pos}
def gName(i:Nat):TG:=fun v σ H Q=>Q (σ.set i (some v)) H
theorem qqez{i:Nat}{x:Str}(hN:X.N.Nodup)(hi:X.N[i]?=some x)(hx:Loc X.env.scope x)(hf:X.fn x=true∨X.env.scope.names.lookup x=some .local:=by first|exact .inl rfl|exact .inr rfl|assumption):PG X (.Name x pos) (gName i):=by
 intro pins s σ H v u Q I r h;exact wpAny_assign_Name (qfxz I hN hi hx r (fun s' I'=>⟨_,H,I',h⟩) hf)
def gNil:TGs:=fun vs σ H Q=>vs=[]/\Q σ H
def gCons(t:TG)(u:TGs):TGs:=fun vs σ H Q=>∃v r,vs=v::r/\t v σ H fun σ' H'=>u r σ' H' Q
theorem qqfz:PGs X [] gNil:=by
 intro pins s σ H vs us Q I r h;obtain⟨e,h⟩:=h;subst e;cases r;exact assignInOrder_nil ⟨σ,H,I,h⟩
theorem qqgz{e:Expr}{es:List Expr}{t:TG}{u:TGs}(h1:PG X e t)(h2:PGs X es u)
  (hs:(assignEach (e::es) X.env).map (·.2)=assign e X.env::(assignEach es X.env).map (·.2):=by rfl):PGs X (e::es) (gCons t u):=by
 intro pins s σ H vs us Q I r h;obtain⟨v,vr,e1,h⟩:=h;subst e1;cases r with
 |cons r rr=>
  rw[hs];refine assignInOrder_cons (thn (h1 pins s σ H _ _ _ I r h) fun _ s1 ⟨σ1,H1,I1,q1⟩=>?_);exact h2 pins s1 σ1 H1 _ _ Q I1 rr q1
def gTup(K:PySem.W.Frag)(n:Nat)(t:TGs):TG:=fun v σ H Q=>∃a xs,v=.ref a/\SqT K H a xs/\xs.length=n/\t xs σ H Q
theorem qqhz{es:List Expr}{k:Nat}{t:TGs}{n:Nat}(hc:X.calm=true)(h:PGs X es t)
  (hn:(assignEach es X.env).length=n:=by rfl) (hst:(assignEach es X.env).findIdx? (·.1)=none:=by rfl):PG X (.Tuple es k pos) (gTup X.K n t):=by
 intro pins s σ H v u Q I r hw;obtain⟨a,xs,e1,hq,hl,hw⟩:=hw;subst e1;cases r;obtain⟨its,rv,ht,hz⟩:=I.tuple hq;refine assign_Tuple_tuple (I.ok.hd hc) ht (by simp[hn,←hl,rv.length]) hst fun h' hx=>?_;have I1:Inv X pins σ H { s with heap:=h' }:=I.kept (t':=s.toks) fun b o e=>hx b o (Nat.ne_of_lt (Heap.lt_size e)) e
 exact h pins _ σ H xs _ Q I1 (by simpa using rv) hw
def gSub(to ti:TE)(t:TSet):TG:=fun v σ H Q=>to σ H fun o H1=>ti σ H1 fun i H2=>t o i v H2 fun H3=>Q σ H3
theorem qqiz{o i:Expr}{to ti:TE}{t:TSet}(ho:PE X o to)(hi:PE X i ti)(hs:PSet X t)
  (ha:∀v,assign (.Subscript o i pos) X.env v=(do
   let ov ←holding [v] (eval o X.env)
   let iv ←holding [v,ov] (eval i X.env)
   standAt pos
   holding [v,ov,iv] (setItem ov iv v)
   release [v,ov,iv] []):=by intro _;rfl):PG X (.Subscript o i pos) (gSub to ti t):=by
 intro pins s σ H v u Q I r h
 rw[ha]
 refine wpAny_bind (wpAny_holding (thn (ho pins s σ H _ I h) fun ov s1 ⟨x,H1,I1,r1,q1⟩=>?_))
 refine wpAny_bind (wpAny_holding (thn (hi pins s1 σ H1 _ I1 q1) fun iv s2 ⟨y,H2,I2,r2,q2⟩=>?_))
 refine wpAny_bind (wpAny_standAt (wpAny_bind (wpAny_holding (thn (hs pins s2 σ H2 x y v ov iv u _ I2 r1 r2 r q2) fun _ s3 ⟨H3,I3,q3⟩=>?_))))
 exact wpAny_release ⟨σ,H3,I3,q3⟩
def tAsg(te:TE)(g:TG):TS:=fun D σ H=>te σ H fun x H1=>g x σ H1 D.nx
theorem qqjz{tg e:Expr}{te:TE}{g:TG}(he:PE X e te)(hg:PG X tg g)(hs:swapsWithSole [tg] e pos.line X.env=pure false:=by rfl)(hw:swappedStores [tg] e X.env=pure none:=by rfl)
  (h1:(assignEach [tg] X.env).map (·.2)=[assign tg X.env]:=by rfl):PS X (.Assign [tg] e pos) (tAsg te g):=by
 intro pins s σ H D I h;refine wpAny_Assign_stores (thn (he pins s σ H _ I h) fun v s1 ⟨x,H1,I1,r1,q1⟩=>?_) hs hw;rw[h1];exact thn (hg pins s1 σ H1 x v _ I1 r1 q1) fun _ s2 q=>q
theorem qqkz{i:Nat}{x:Str}{e:Expr}{te:TE}{pos':Pos}(hN:X.N.Nodup)(hi:X.N[i]?=some x)(hx:Loc X.env.scope x)(he:PE X e te)(hs:swapsWith e (some (.Name x pos')) pos.line X.env=pure false:=by rfl)(hf:X.fn x=true∨X.env.scope.names.lookup x=some .local:=by first|exact .inl rfl|exact .inr rfl|assumption):
  PS X (.Assign [.Name x pos'] e pos) (tAsg te (gName i)):=by
 intro pins s σ H D I h;refine wpAny_Assign_Name (thn (he pins s σ H _ I h) fun v s1 ⟨y,H1,I1,r1,q1⟩=>?_) hs;exact qfxz I1 hN hi hx r1 (fun s2 I2=>⟨_,H1,I2,q1⟩) hf
def tAug(i:Nat)(te:TE)(ti:TIp):TS:=fun D σ H=>∃x,σ[i]?=some (some x)/\te σ H fun y H1=>ti x y H1 fun z H2=>D.nx (σ.set i (some z)) H2
theorem qqlz{i:Nat}{x:Str}{e:Expr}{te:TE}{op:Operator}{ti:TIp}{pos':Pos}(hN:X.N.Nodup)(hi:X.N[i]?=some x)(hx:Loc X.env.scope x)(he:PE X e te)(ho:PIp X op ti)(hf:X.fn x=true∨X.env.scope.names.lookup x=some .local:=by first|exact .inl rfl|exact .inr rfl|assumption):
  PS X (.AugAssign (.Name x pos') op e pos) (tAug i te ti):=by
 intro pins s σ H D I h;obtain⟨v,e1,h⟩:=h;obtain⟨m,hn,hl⟩:=I.loc;have vis:Vis X.env.scope x:=by rcases hx with k|k;exact .inl k;exact .inr (.inl k)
 obtain⟨u,r,l⟩:=hl i x v hi e1 vis;refine wpAny_AugAssign_Name ?_;have go:wpAny (model X.prog X.w) X.A (eval e X.env) (fun w s₂=>wpAny (model X.prog X.w) X.A (inplaceOp op u w) (fun r s₃=>wpAny (model X.prog X.w) X.A (storeName X.env x r) (fun _=>SP X pins D .next) X.xe s₃) X.xe s₂) X.xe s:=by
  refine thn (he pins s σ H _ I h) fun w s1 ⟨y,H1,I1,r1,q1⟩=>?_;refine thn (ho pins s1 σ H1 v y u w _ I1 r r1 q1) fun z s2 ⟨zv,H2,I2,r2,q2⟩=>?_;exact qfxz I2 hN hi hx r2 (fun s3 I3=>⟨_,H2,I3,q2⟩) hf
 rcases l with⟨hk,hm⟩|⟨hk,c,hc,hcell⟩
 ·exact wpAny_loadName_local I.ok.kind hk hn hm go
 ·rcases hk with hk|hk
  ·exact wpAny_loadName_cell I.ok.kind hk hc hcell go
  ·rcases hx with k|k
   ·have:X.env.scope.names.lookup x=some .free:=hk;rw[k] at this;cases this
   ·have:X.env.scope.names.lookup x=some .free:=hk;rw[k] at this;cases this
def tAugS(to ti te:TE)(tget:V->V->Hp->VK->Prop)(tip:TIp)(tset:TSet):TS:=fun D σ H=>to σ H fun o H1=>ti σ H1 fun i H2=>tget o i H2 fun x H3=>te σ H3 fun y H4=>tip x y H4 fun z H5=>tset o i z H5 fun H6=>D.nx σ H6
def PGet(X:Cx)(t:V->V->Hp->VK->Prop):Prop:=
 ∀(pins:List (Addr×Obj)) (s:Shared) (σ:St) (H:Hp) (o i:V) (ov iv:Value) (Q:VK),Inv X pins σ H s->RelV o ov->RelV i iv->t o i H Q ->
  wpAny (model X.prog X.w) X.A (getItem ov iv) (EP X pins σ Q) X.xe s
theorem qqmz{o i e:Expr}{to ti te:TE}{tget:V->V->Hp->VK->Prop}{tip:TIp}{tset:TSet}{op:Operator}{tpos:Pos}(ho:PE X o to)(hi:PE X i ti)(hg:PGet X tget)(he:PE X e te)(hp:PIp X op tip)(hs:PSet X tset)
  (ha:∀ov iv new,augStore i ov iv new=(do holding [new,ov,iv] (setItem ov iv new);release [new,ov,iv] [];pure .next):=by intros;rfl):PS X (.AugAssign (.Subscript o i tpos) op e pos) (tAugS to ti te tget tip tset):=by
 intro pins s σ H D I h;refine wpAny_AugAssign_SubscriptAny (thn (ho pins s σ H _ I h) fun ov s1 ⟨x1,H1,I1,r1,q1⟩=>?_) ha;refine thn (hi pins s1 σ H1 _ I1 q1) fun iv s2 ⟨x2,H2,I2,r2,q2⟩=>?_;refine thn (hg pins s2 σ H2 x1 x2 ov iv _ I2 r1 r2 q2) fun old s3 ⟨x3,H3,I3,r3,q3⟩=>?_;refine thn (he pins s3 σ H3 _ I3 q3) fun v s4 ⟨x4,H4,I4,r4,q4⟩=>?_;refine thn (hp pins s4 σ H4 x3 x4 old v _ I4 r3 r4 q4) fun new s5 ⟨x5,H5,I5,r5,q5⟩=>?_;exact thn (hs pins s5 σ H5 x1 x2 x5 ov iv new _ I5 r1 r2 r5 q5) fun _ s6 ⟨H6,I6,q6⟩=>⟨σ,H6,I6,q6⟩
def ipI(f:Int->Int->Int):TIp:=fun x y H Q=>∃i j,x=.int i/\y=.int j/\Q (.int (f i j)) H
theorem qi3z:PIp X .Add (ipI fun i j=>i+j):=by
 intro pins s σ H x y v u Q I r1 r2 h;obtain⟨i,j,e1,e2,q⟩:=h;subst e1;subst e2;obtain⟨t,rfl⟩:=r1;obtain⟨t',rfl⟩:=r2;exact iadd_int ⟨.int _,H,I.tok _,⟨_,rfl⟩,q⟩
end
section
variable {X:Cx} {pos:Pos}
def tWhile(c:TT)(tb:TS):TS:=fun D σ H=>∃W:Nat->St->Hp->Prop,(∃m,W m σ H)/\∀m σ H,W m σ H ->
 c σ H fun b H1=>if b=true then ∃N:St->Hp->Prop,(∀σ' H',N σ' H'->∃m',m' < m/\W m' σ' H')/\tb { D with nx:=N,ct:=N,bk:=D.nx } σ H1 else D.nx σ H1
theorem qqnz{c:Expr}{body:List Stmt}{tc:TT}{tb:TS}(hp:PassesOwn (model X.prog X.w) X.A X.env X.xe)(hc:PT X c tc)(hb:PSs X body tb):PS X (.While c body [] pos) (tWhile tc tb):=by
 intro pins s σ H D I h;obtain⟨W,⟨m0,w0⟩,turn⟩:=h;refine wpAny_While (codeAny_whileLoop (fun n s'=>∃σ' H',Inv X pins σ' H' s'/\W n σ' H') ?_ m0 ⟨σ,H,I,w0⟩);rintro n s1 ⟨σ1,H1,I1,w1⟩;refine wpAny_passesOwn hp (thn (hc pins s1 σ1 H1 _ I1 (turn n σ1 H1 w1)) fun b s2 ⟨H2,I2,q2⟩=>?_);cases b with
 |true=>
  obtain⟨N,hN,q2⟩:=q2;rw[if_pos rfl];refine wpAny_passesOwn hp (thn (hb pins s2 σ1 H2 _ I2 q2) fun f s3 q3=>?_);cases f with
  |next=>
   obtain⟨σ3,H3,I3,n3⟩:=q3;obtain⟨m',hm,w3⟩:=hN σ3 H3 n3;exact⟨m',hm,σ3,H3,I3,w3⟩
  |cont=>
   obtain⟨σ3,H3,I3,n3⟩:=q3;obtain⟨m',hm,w3⟩:=hN σ3 H3 n3;exact⟨m',hm,σ3,H3,I3,w3⟩
  |brk=>exact q3
  |ret v=>exact q3
 |false=>
  rw[if_neg Bool.false_ne_true];exact wpAny_execs_nil ⟨σ1,H2,I2,q2⟩
end
structure It where
 go:Nat->Hp->Prop
 yld:Nat->Hp->V->Hp->Prop
 stop:Nat->Hp->Prop
def FpOk(X:Cx)(pins:List (Addr×Obj))(H:Hp)(b:Addr):Prop:=
 H b=none/\b≠X.env.locals/\b∉X.fs/\(b∈X.ex∨X.s₀.heap.objs.size≤b)/\(∀x c,X.env.cells.lookup x=some c->c≠b)/\∀p∈X.pn++pins,p.1≠b
theorem Inv.fpOk{X:Cx}{pins:List (Addr×Obj)}{σ:St}{H H':Hp}{s:Shared}{b:Addr}(I:Inv X pins σ H s)(hb:s.heap.objs.size≤b)(hn:H' b=none):FpOk X pins H' b:=by
 refine⟨hn,Nat.ne_of_gt (Nat.lt_of_lt_of_le I.lt hb),I.nofs hb,.inr (Nat.le_trans I.sz hb),fun x c e z=>?_,fun p hp z=>?_⟩
 ·obtain⟨v,q⟩:=I.cell x c e;exact absurd (Nat.lt_of_lt_of_le q.lt (by rw[z];exact hb)) (Nat.lt_irrefl _)
 ·exact absurd (Nat.lt_of_lt_of_le (Heap.lt_size (I.pin p hp).1) (by rw[z];exact hb)) (Nat.lt_irrefl _)
structure Turn(P:Program)(w:World)(K:PySem.W.Frag)(tg:Expr)(J:It)(fp:List Addr)(it:Addr)(tn:Nat->Heap->Prop):Prop where
 mem:it∈fp
 obj:∀i h,tn i h->∀b∈fp,∃o,h.get? b=some o/\∀v,o.data≠.cell v
 keep:∀i h h',tn i h->(∀b∈fp,∀o,h.get? b=some o->h'.get? b=some o)->tn i h'
 item:∀(X:Cx),X.prog=P->X.w=w->X.K=K->X.calm=true->∀(i:Nat) (pins:List (Addr×Obj)) (s:Shared) (σ:St) (H:Hp) (E:Value->Shared->Prop),Inv X pins σ H s->(∀b∈fp,FpOk X pins H b)->tn i s.heap->J.go i H ->
  wpAny (model P w) X.A (pyNext (.ref it)) (fun r s1=>∃u,r=some u ∧
   wpAny (model P w) X.A (letOwnedTupleGo tg (.ref it) u) (fun _ s2=>∃x H',Inv X pins σ H' s2/\RelV x u/\J.yld i H x H'/\tn (i+1) s2.heap/\∀b∈fp,H' b=none) E s1) E s
 done:∀(X:Cx),X.prog=P->X.w=w->X.K=K->X.calm=true->∀(i:Nat) (pins:List (Addr×Obj)) (s:Shared) (σ:St) (H:Hp) (E:Value->Shared->Prop),Inv X pins σ H s->(∀b∈fp,FpOk X pins H b)->tn i s.heap->J.stop i H ->
  wpAny (model P w) X.A (pyNext (.ref it)) (fun r s1=>r=none/\Inv X pins σ H s1) E s
 self:∀(A:Around) (i:Nat) (s:Shared) (Q:Value->Shared->Prop) (E:Value->Shared->Prop),tn i s.heap->Q (.ref it) s->wpAny (model P w) A (pyIter (.ref it)) Q E s
abbrev TI:=St->Hp->(It->Hp->Prop)->Prop
def PIE(X:Cx)(pins:List (Addr×Obj))(σ:St)(tg:Expr)(R:It->Hp->Prop)(itv:Value)(s2:Shared):Prop:=
 ∃(it:Addr) (fp:List Addr) (tn:Nat->Heap->Prop) (J:It) (H':Hp),itv=.ref it/\Inv X pins σ H' s2/\Turn X.prog X.w X.K tg J fp it tn/\tn 0 s2.heap/\(∀b∈fp,FpOk X pins H' b)/\R J H'
def PI(X:Cx)(tg iter:Expr)(wi:TI):Prop:=
 ∀(pins:List (Addr×Obj)) (s:Shared) (σ:St) (H:Hp) (R:It->Hp->Prop),Inv X pins σ H s->wi σ H R ->
  wpAny (model X.prog X.w) X.A (eval iter X.env) (fun v s1=>wpAny (model X.prog X.w) X.A (pyIter v) (PIE X pins σ tg R) X.xe s1) X.xe s
theorem qeaz{M:Model}{A:Around}{E:Value->Shared->Prop}{s:Shared}{tg:Expr}{it:Addr}{u:Value}{o:Obj}{n:String}{vs:Array Value}{Q:Unit->Shared->Prop}(ho:s.heap.get? it=some o)(hc:o.cls=.type n)(hd:o.data=.fields vs)
    (hn:["enumerate","zip","dict_itemiterator","dict_reverseitemiterator","odict_iterator","itertools.zip_longest","itertools.pairwise"].contains n=false) (hQ:Q () s):wpAny M A (letOwnedTupleGo tg (.ref it) u) Q E s:=by
  unfold letOwnedTupleGo;cases tg<;>first
    |exact wpAny_pure hQ
    | (cases u<;>first
        |exact wpAny_pure hQ
        | (refine wpAny_bind (wpAny_load ho ?_)
           rw[hc,hd];show wpAny M A (if (["enumerate","zip","dict_itemiterator","dict_reverseitemiterator","odict_iterator","itertools.zip_longest","itertools.pairwise"].contains n&&vs[0]?==some (rawInt _))=true then _ else _) Q E s;rw[if_neg (by intro h;rw[hn,Bool.false_and] at h;cases h)];exact wpAny_pure hQ))
def Itl(K:PySem.W.Frag)(a:Addr):It:=
 ⟨fun i H=>∃xs x,SqL K H a xs/\xs[i]?=some x,fun i H x H'=>H'=H/\∀xs,SqL K H a xs->xs[i]?=some x,fun i H=>∃xs,SqL K H a xs/\xs.length≤i⟩
def Itt(K:PySem.W.Frag)(a:Addr):It:=
 ⟨fun i H=>∃xs x,SqT K H a xs/\xs[i]?=some x,fun i H x H'=>H'=H/\∀xs,SqT K H a xs->xs[i]?=some x,fun i H=>∃xs,SqT K H a xs/\xs.length≤i⟩
def Itr(lo:Int)(n:Nat):It:=⟨fun i _=>i<n,fun i H x H'=>H'=H/\x=.int (lo+i),fun i _=>n≤i⟩
theorem qqoz{P:Program}{w:World}{K:PySem.W.Frag}{tg:Expr}(a it:Addr):Turn P w K tg (Itl K a) [it] it (fun i h=>h.IsListIter it a i) where
 mem:=by simp
 obj:=fun i h st b hb=>by
  have e:b=it:=by simpa using hb
  subst e;obtain⟨o,e,c,d⟩:=st;exact⟨o,e,fun v z=>by rw[d] at z;cases z⟩
 keep:=fun i h h' st k=>st.at fun o e=>k it (by simp) o e
 item:=by
  intro X hP hw hK hc i pins s σ H E I hf st hg;subst hP hw hK;obtain⟨xs,x,hq,hx⟩:=hg;obtain⟨its,rv,p,hz⟩:=I.list hq;obtain⟨u,hu,ru⟩:=rv.get hx;obtain⟨f0,f1,f2,f3,f4,f5⟩:=hf it (by simp);refine wpAny_pyNext_list_item st p.isList (x:=u) (by simpa using hu) fun h' st' sb=>?_;have I1:Inv X pins σ H { s with heap:=h' }:=I.turned (t':=s.toks) (fun b o hb e=>(sb.2 b hb).trans e) f0 f1 f3 f4 f5;obtain⟨o,e,c,d⟩:=id st';exact⟨u,rfl,qeaz (s:={ s with heap:=h' }) e c d (by decide) ⟨x,H,I1,ru,⟨rfl,fun ys hy=>by rw[I.list_inj hy hq];exact hx⟩,st',fun b hb=>(hf b hb).1⟩⟩
 done:=by
  intro X hP hw hK hc i pins s σ H E I hf st hg;subst hP hw hK;obtain⟨xs,hq,hx⟩:=hg;obtain⟨its,rv,p,hz⟩:=I.list hq;obtain⟨f0,f1,f2,f3,f4,f5⟩:=hf it (by simp);have hl:=rv.length;exact wpAny_pyNext_list_end (I.ok.hd hc) st p.isList (by simp;lia) fun h' eb=>⟨rfl,I.turned (t':=s.toks) (fun b o hb e=>eb b o hb e) f0 f1 f3 f4 f5⟩
 self:=fun _ _ _ _ _ st h=>wpAny_pyIter_listiter st h
theorem qqpz{P:Program}{w:World}{K:PySem.W.Frag}{tg:Expr}(a it:Addr):Turn P w K tg (Itt K a) [it] it (fun i h=>h.IsTupleIter it a i) where
 mem:=by simp
 obj:=fun i h st b hb=>by
  have e:b=it:=by simpa using hb
  subst e;obtain⟨o,e,c,d⟩:=st;exact⟨o,e,fun v z=>by rw[d] at z;cases z⟩
 keep:=fun i h h' st k=>st.at fun o e=>k it (by simp) o e
 item:=by
  intro X hP hw hK hc i pins s σ H E I hf st hg;subst hP hw hK;obtain⟨xs,x,hq,hx⟩:=hg;obtain⟨its,rv,p,hz⟩:=I.tuple hq;obtain⟨u,hu,ru⟩:=rv.get hx;obtain⟨f0,f1,f2,f3,f4,f5⟩:=hf it (by simp);refine wpAny_pyNext_tuple_item st (show s.heap.IsTuple a its.toArray from p) (x:=u) (by simpa using hu) fun h' st' sb=>?_;have I1:Inv X pins σ H { s with heap:=h' }:=I.turned (t':=s.toks) (fun b o hb e=>(sb.2 b hb).trans e) f0 f1 f3 f4 f5;obtain⟨o,e,c,d⟩:=id st';exact⟨u,rfl,qeaz (s:={ s with heap:=h' }) e c d (by decide) ⟨x,H,I1,ru,⟨rfl,fun ys hy=>by rw[I.tuple_inj hy hq];exact hx⟩,st',fun b hb=>(hf b hb).1⟩⟩
 done:=by
  intro X hP hw hK hc i pins s σ H E I hf st hg;subst hP hw hK;obtain⟨xs,hq,hx⟩:=hg;obtain⟨its,rv,p,hz⟩:=I.tuple hq;obtain⟨f0,f1,f2,f3,f4,f5⟩:=hf it (by simp);have hl:=rv.length;exact wpAny_pyNext_tuple_end (I.ok.hd hc) st (show s.heap.IsTuple a its.toArray from p) (by simp;lia) fun h' eb=>⟨rfl,I.turned (t':=s.toks) (fun b o hb e=>eb b o hb e) f0 f1 f3 f4 f5⟩
 self:=fun _ _ _ _ _ st h=>wpAny_pyIter_tupleiter st h
theorem qqqz{P:Program}{w:World}{K:PySem.W.Frag}{tg:Expr}(it:Addr)(lo:Int)(n:Nat):Turn P w K tg (Itr lo n) [it] it (fun i h=>IsRangeIter h it (lo+(i:Nat)*1) ((n:Int)-(i:Nat)) 1) where
 mem:=by simp
 obj:=fun i h st b hb=>by
  have e:b=it:=by simpa using hb
  subst e;exact⟨_,st,fun v z=>by
   have z':Data.fields _=Data.cell v:=z;cases z'⟩
 keep:=fun i h h' st k=>k it (by simp) _ st
 item:=by
  intro X hP hw hK hc i pins s σ H E I hf st hg;subst hP hw hK;obtain⟨f0,f1,f2,f3,f4,f5⟩:=hf it (by simp);have W:=Walks.range (prog:=X.prog) (w:=X.w) (I.ok.hd hc) it lo 1 n;refine W.item i s _ _ hg st fun v h' tk hv st' kk=>?_;obtain⟨t,rfl⟩:=hv;have I1:Inv X pins σ H { s with heap:=h',toks:=tk }:=I.turned (fun b o hb e=>kk b o (by simpa using hb) e) f0 f1 f3 f4 f5;refine⟨_,rfl,qeaz (s:={ s with heap:=h',toks:=tk }) (n:="range_iterator") st' rfl rfl (by decide) ⟨.int (lo+i),H,I1,⟨t,?_⟩,⟨rfl,rfl⟩,st',fun b hb=>(hf b hb).1⟩⟩;rw[Int.mul_one]
 done:=by
  intro X hP hw hK hc i pins s σ H E I hf st hg;subst hP hw hK;obtain⟨f0,f1,f2,f3,f4,f5⟩:=hf it (by simp);exact wpAny_pyNext_range_end (I.ok.hd hc) st (by have:n≤i:=hg;lia) fun h' eb=>⟨rfl,I.turned (t':=s.toks) (fun b o hb e=>eb b o hb e) f0 f1 f3 f4 f5⟩
 self:=fun _ _ _ _ _ st h=>wpAny_pyIter_rangeiter st h
end L2
namespace L2
open PySem PySem.Spec PyProof.Rows
section
variable {X:Cx} {tg:Expr}
theorem qi4z{pins:List (Addr×Obj)}{σ:St}{H:Hp}{s:Shared}{R:It->Hp->Prop}{E:Value->Shared->Prop}{lo hi:Int}{t u v:Tok}{tk:Nat}(I:Inv X pins σ H s)(h1:-(2^62)≤lo)(h2:lo<2^62)(h3:-(2^62)≤hi)(h4:hi<2^62)
  (q:R (Itr lo (hi-lo).toNat) H):wpAny (model X.prog X.w) X.A (pyIter (.ref s.heap.objs.size)) (PIE X pins σ tg R) E { s with heap:=s.heap.push { cls:=.type "range",data:=.fields #[.int lo t,.int hi u,.int 1 v]},toks:=tk }:=by
 refine wpAny_pyIter_range (IsRange.new ..) (small_one h1 h2 h3 h4) ?_;have I1:Inv X pins σ H { s with heap:=s.heap.push { cls:=.type "range",data:=.fields #[.int lo t,.int hi u,.int 1 v]},toks:=tk }:=I.kept fun b o e=>Heap.get?_push_of_some _ e;refine⟨(s.heap.push { cls:=.type "range",data:=.fields #[.int lo t,.int hi u,.int 1 v]}).objs.size,[(s.heap.push { cls:=.type "range",data:=.fields #[.int lo t,.int hi u,.int 1 v]}).objs.size],_,_,H,rfl,
  I1.kept (t':=tk) fun b o e=>Heap.get?_push_of_some _ e,qqqz _ lo (hi-lo).toNat,?_,fun b hb=>?_,q⟩
 ·have e1:lo+((0:Nat):Int)*1=lo:=by simp
  have e2:(((hi-lo).toNat:Nat):Int)-((0:Nat):Int)=Builtin.Range.rangeSize lo hi 1:=by rw[rangeSize_one];split<;>lia
  show IsRangeIter _ _ (lo+((0:Nat):Int)*1) ((((hi-lo).toNat:Nat):Int)-((0:Nat):Int)) 1;rw[e1,e2];exact Heap.get?_push_size _ rfl
 ·have e:b=(s.heap.push { cls:=.type "range",data:=.fields #[.int lo t,.int hi u,.int 1 v]}).objs.size:=by simpa using hb
  subst e;exact I1.fpOk (Nat.le_refl _) (I1.hok.fresh (Nat.le_refl _))
def iRng1(ta:TA):TI:=fun σ H R=>ta σ H fun vs H1=>∃j:Int,vs=[.int j]/\-(2^62)≤j/\j<2^62/\R (Itr 0 j.toNat) H1
def iRng2(ta:TA):TI:=fun σ H R=>ta σ H fun vs H1=>∃i j:Int,vs=[.int i,.int j]/\(-(2^62)≤i/\i<2^62/\-(2^62)≤j/\j<2^62)/\R (Itr i (j-i).toNat) H1
theorem qqrz{a:Expr}{ta:TA}{p pos:Pos}(hg:Gl X "range")(hm:X.mg "range" = none)(ha:PA X [a] ta)(hs:starEach [a] X.env=[(false,eval a X.env)]:=by rfl):PI X tg (.Call (.Name "range" p) [a] [] pos) (iRng1 ta):=by
 intro pins s σ H R I h;refine Call_ (qa0z I hg hm boot_range (PyProof.Rows.callWith_type1 (thn (ha pos pins s σ H _ I h) fun us s1 ⟨vs,H1,I1,r1,q1⟩=>?_) hs rfl));obtain⟨j,e,q1,q2,q⟩:=q1;subst e;cases r1 with
 |cons r rr=>
  cases rr;obtain⟨t,rfl⟩:=r;exact call_range_1 (qi4z I1 (by lia) (by lia) q1 q2 (by simpa using q))
theorem qqsz{a b:Expr}{ta:TA}{p pos:Pos}(hg:Gl X "range")(hm:X.mg "range" = none)(ha:PA X [a,b] ta)(hs:starEach [a,b] X.env=[(false,eval a X.env),(false,eval b X.env)]:=by rfl)(hs2:starEach [b] X.env=[(false,eval b X.env)]:=by rfl):
  PI X tg (.Call (.Name "range" p) [a,b] [] pos) (iRng2 ta):=by
 intro pins s σ H R I h;refine Call_ (qa0z I hg hm boot_range (PyProof.Rows.callWith_type1 (thn (ha pos pins s σ H _ I h) fun us s1 ⟨vs,H1,I1,r1,q1⟩=>?_) (by rw[hs,hs2]) (by rw[hs2];rfl)));obtain⟨i,j,e,⟨q1,q2,q3,q4⟩,q⟩:=q1;subst e;cases r1 with
 |cons r rr=>
  cases rr with
  |cons r' rr=>
   cases rr;obtain⟨t,rfl⟩:=r;obtain⟨t',rfl⟩:=r';exact call_range_2 (qi4z I1 q1 q2 q3 q4 q)
def tFor(wi:TI)(g:TG)(tb:TS):TS:=fun D σ H=>wi σ H fun J H1=>∃W:Nat->Nat->St->Hp->Prop,(∃m,W 0 m σ H1)/\∀i m σ H,W i m σ H ->
 (J.stop i H/\D.nx σ H)∨(J.go i H/\∃N:St->Hp->Prop,(∀σ' H',N σ' H'->∃m',m' < m/\W (i+1) m' σ' H')/\∀x H',J.yld i H x H'->g x σ H' fun σ2 H2=>tb { D with nx:=N,ct:=N,bk:=D.nx } σ2 H2)
def pinsAt(fp:List Addr)(h:Heap):List (Addr×Obj):=fp.filterMap fun b=>(h.get? b).map fun o=>(b,o)
theorem qebz{fp:List Addr}{h:Heap}{b:Addr}{o:Obj}(hb:b∈fp)(e:h.get? b=some o):(b,o)∈pinsAt fp h:=List.mem_filterMap.mpr ⟨b,hb,by rw[e];rfl⟩
theorem qqtz{fp:List Addr}{h:Heap}{p:Addr×Obj}(hp:p∈pinsAt fp h):p.1∈fp/\h.get? p.1=some p.2:=by
 obtain⟨b,hb,e⟩:=List.mem_filterMap.mp hp;cases q:h.get? b with
 |none=>rw[q] at e;cases e
 |some o=>
  rw[q] at e;have e':(b,o)=p:=Option.some.inj e;subst e';exact⟨hb,q⟩
theorem Inv.pinned{pins:List (Addr×Obj)}{σ:St}{H:Hp}{s:Shared}{fp:List Addr}(I:Inv X pins σ H s)(hf:∀b∈fp,FpOk X pins H b)(ho:∀b∈fp,∃o,s.heap.get? b=some o/\∀v,o.data≠.cell v):Inv X (pins++pinsAt fp s.heap) σ H s:=
 I.pins_of fun p hp=>(List.mem_append.mp hp).elim (fun z=>I.pin p (List.mem_append_right _ z)) fun z=>by
  obtain⟨hb,e⟩:=qqtz z;obtain⟨f0,f1,f2,_⟩:=hf p.1 hb;obtain⟨o,e',d⟩:=ho p.1 hb;rw[e] at e';cases e';exact⟨e,f0,f1,f2,d⟩
theorem Inv.unpinned{pins pl:List (Addr×Obj)}{σ:St}{H:Hp}{s:Shared}(I:Inv X (pins++pl) σ H s):Inv X pins σ H s:=I.pins_of fun p hp=>I.pin p (List.mem_append_right _ (List.mem_append_left _ hp))
theorem qquz{iter:Expr}{body:List Stmt}{wi:TI}{g:TG}{tb:TS}{pos:Pos}(hp:PassesOwn (model X.prog X.w) X.A X.env X.xe)(hc:X.calm=true)(hi:PI X tg iter wi)(hg:PG X tg g)(hb:PSs X body tb)
  (hs:∀x,foldedSetIterable iter X.env x=pure x:=by intro _;rfl):PS X (.For tg iter body [] pos) (tFor wi g tb):=by
 intro pins s σ H D I h;refine wpAny_For (thn (hi pins s σ H _ I h) fun v s1 h1=>thn h1 fun itv s2 h2=>?_) hs;obtain⟨it,fp,tn,J,H2,e,I2,T,st2,f2,W,⟨m0,w0⟩,turn⟩:=h2;subst e
 -- what stays true of the iterator's objects through the loop
 have stat:∀{H':Hp},(∀b∈fp,H' b=none)->∀b∈fp,FpOk X pins H' b:=fun hn b hb=>⟨hn b hb,(f2 b hb).2⟩;refine codeAny_forLoop_any (fun n s'=>∃i σ' H',Inv X pins σ' H' s'/\tn i s'.heap/\(∀b∈fp,H' b=none)/\W i n σ' H') ?_ m0 ⟨0,σ,H2,I2,st2,fun b hb=>(f2 b hb).1,w0⟩;rintro n s3 ⟨i,σ3,H3,I3,st3,fr3,w3⟩;rcases turn i n σ3 H3 w3 with⟨stop,qn⟩|⟨go,N,hN,step⟩
 ·refine wpAny_passesOwn hp (thn (T.done X rfl rfl rfl hc i pins s3 σ3 H3 X.xe I3 (stat fr3) st3 stop) fun r s4 ⟨hr,I4⟩=>?_);subst hr;exact wpAny_execs_nil ⟨σ3,H3,I4,qn⟩
 ·refine wpAny_passesOwn hp (thn (T.item X rfl rfl rfl hc i pins s3 σ3 H3 X.xe I3 (stat fr3) st3 go) fun r s4 ⟨u,hr,h4⟩=>?_);subst hr;refine wpAny_passesOwn hp (thn h4 fun _ s5 ⟨x,H5,I5,r5,y5,st5,fr5⟩=>?_);have I5':=I5.pinned (stat fr5) (T.obj _ _ st5);refine wpAny_passesOwn hp (thn (hg _ s5 σ3 H5 x u _ I5' r5 (step x H5 y5)) fun _ s6 ⟨σ6,H6,I6,q6⟩=>?_);refine wpAny_passesOwn hp (thn (hb _ s6 σ6 H6 _ I6 q6) fun f s7 q7=>?_);have again:∀{σ7:St} {H7:Hp},Inv X (pins++pinsAt fp s5.heap) σ7 H7 s7->N σ7 H7->∃m,m<n/\∃i σ' H',Inv X pins σ' H' s7/\tn i s7.heap/\(∀b∈fp,H' b=none)/\W i m σ' H':=fun {σ7 H7} I7 n7=>by
   obtain⟨m',hm,w7⟩:=hN σ7 H7 n7;refine⟨m',hm,i+1,σ7,H7,I7.unpinned,T.keep _ _ _ st5 fun b hb o e=>(I7.pin (b,o) (List.mem_append_right _ (List.mem_append_right _ (qebz hb e)))).1,fun b hb=>?_,w7⟩;obtain⟨o,e,d⟩:=T.obj _ _ st5 b hb;exact (I7.pin (b,o) (List.mem_append_right _ (List.mem_append_right _ (qebz hb e)))).2.1
  cases f with
  |next=>obtain⟨σ7,H7,I7,n7⟩:=q7;exact again I7 n7
  |cont=>obtain⟨σ7,H7,I7,n7⟩:=q7;exact again I7 n7
  |brk=>obtain⟨σ7,H7,I7,q7⟩:=q7;exact⟨σ7,H7,I7.unpinned,q7⟩
  |ret v=>obtain⟨x7,σ7,H7,I7,r7,q7⟩:=q7;exact⟨x7,σ7,H7,I7.unpinned,r7,q7⟩
end
end L2
namespace L2
open PySem PySem.Spec PyProof.Rows
abbrev R2:=V->V->Hp->VK->Prop
def OpR(X:Cx)(f:Value->Value->Sem Value)(r:R2):Prop:=
 ∀(pins:List (Addr×Obj)) (s:Shared) (σ:St) (H:Hp) (x y:V) (v u:Value) (Q:VK),Inv X pins σ H s->RelV x v->RelV y u->r x y H Q ->
  wpAny (model X.prog X.w) X.A (f v u) (EP X pins σ Q) X.xe s
def UnR(X:Cx)(f:Value->Sem Value)(r:V->Hp->VK->Prop):Prop:=
 ∀(pins:List (Addr×Obj)) (s:Shared) (σ:St) (H:Hp) (x:V) (v:Value) (Q:VK),Inv X pins σ H s->RelV x v->r x H Q ->
  wpAny (model X.prog X.w) X.A (f v) (EP X pins σ Q) X.xe s
def CallR(X:Cx)(f:Value)(r:List V->Hp->VK->Prop):Prop:=
 ∀(pins:List (Addr×Obj)) (s:Shared) (σ:St) (H:Hp) (xs:List V) (us:List Value) (Q:VK),Inv X pins σ H s->Vals xs us->r xs H Q ->
  wpAny (model X.prog X.w) X.A (call f us) (EP X pins σ Q) X.xe s
def TruR(X:Cx)(r:V->Hp->(Bool->Hp->Prop)->Prop):Prop:=
 ∀(pins:List (Addr×Obj)) (s:Shared) (σ:St) (H:Hp) (x:V) (v:Value) (Q:Bool->Hp->Prop),Inv X pins σ H s->RelV x v->r x H Q ->
  wpAny (model X.prog X.w) X.A (truthy v) (TP X pins σ Q) X.xe s
def tOp(r:R2)(ta tb:TE):TE:=fun σ H Q=>ta σ H fun x H1=>tb σ H1 fun y H2=>r x y H2 Q
def tUn(r:V->Hp->VK->Prop)(ta:TE):TE:=fun σ H Q=>ta σ H fun x H1=>r x H1 Q
def rI(C:Int->Int->Prop)(g:Int->Int->V):R2:=fun x y H Q=>∃i j,x=.int i/\y=.int j/\C i j/\Q (g i j) H
def rI0(g:Int->Int->V):R2:=fun x y H Q=>∃i j,x=.int i/\y=.int j/\Q (g i j) H
def rU(g:Int->V):V->Hp->VK->Prop:=fun x H Q=>∃i,x=.int i/\Q (g i) H
section
variable {X:Cx} {a b c:Expr} {ta tb tc:TE} {pos:Pos}
theorem binT(ha:PE X a ta)(hb:PE X b tb){pins:List (Addr×Obj)}{s:Shared}{σ:St}{H:Hp}{R:V->V->Hp->Prop}(I:Inv X pins σ H s)
  (h:ta σ H fun x H1=>tb σ H1 fun y H2=>R x y H2) {Q:Value->Shared->Prop} {f:Value->Value->Sem Value}
  (hf:∀v u s2 x y H2,Inv X pins σ H2 s2->RelV x v->RelV y u->R x y H2->wpAny (model X.prog X.w) X.A (f v u) Q X.xe s2):
  wpAny (model X.prog X.w) X.A (eval a X.env) (fun v s₁=>wpAny (model X.prog X.w) X.A (eval b X.env) (fun u s₂=>wpAny (model X.prog X.w) X.A (f v u) Q X.xe s₂) X.xe s₁) X.xe s:=by
 refine thn (ha pins s σ H _ I h) fun v s1 ⟨x,H1,I1,r1,q1⟩=>?_;refine thn (hb pins s1 σ H1 _ I1 q1) fun u s2 ⟨y,H2,I2,r2,q2⟩=>?_;exact hf v u s2 x y H2 I2 r1 r2 q2
theorem qqvz{op:Operator}{r:R2}(ho:OpR X (binaryOp op) r)(ha:PE X a ta)(hb:PE X b tb):PE X (.BinOp a op b pos) (tOp r ta tb):=by
 intro pins s σ H Q I h;exact wpAny_BinOp (binT ha hb I h fun v u s2 x y H2 I2 rx ry q=>ho pins s2 σ H2 x y v u Q I2 rx ry q)
theorem qqwz{op:UnaryOp}{r:V->Hp->VK->Prop}(ho:UnR X (unaryOp op) r)(ha:PE X a ta):PE X (.UnaryOp op a pos) (tUn r ta):=by
 intro pins s σ H Q I h;exact UnaryOp_ (thn (ha pins s σ H _ I h) fun v s1 ⟨x,H1,I1,r1,q1⟩=>ho pins s1 σ H1 x v Q I1 r1 q1)
theorem opI{f:Value->Value->Sem Value}{C:Int->Int->Prop}{g:Int->Int->Int}
  (rule:∀(i j:Int) (t u:Tok) (s:Shared) (Q:Value->Shared->Prop) (E:Value->Shared->Prop),C i j->Q (.int (g i j) s.toks) { s with toks:=s.toks+1 }->wpAny (model X.prog X.w) X.A (f (.int i t) (.int j u)) Q E s):
  OpR X f (rI C fun i j=>.int (g i j)):=by
 intro pins s σ H x y v u Q I rx ry h;obtain⟨i,j,rfl,rfl,hc,q⟩:=h;obtain⟨t,rfl⟩:=rx;obtain⟨t',rfl⟩:=ry;exact rule i j t t' s _ _ hc ⟨.int (g i j),H,I.tok _,⟨_,rfl⟩,q⟩
theorem opI0{f:Value->Value->Sem Value}{g:Int->Int->Int}
  (rule:∀(i j:Int) (t u:Tok) (s:Shared) (Q:Value->Shared->Prop) (E:Value->Shared->Prop),Q (.int (g i j) s.toks) { s with toks:=s.toks+1 }->wpAny (model X.prog X.w) X.A (f (.int i t) (.int j u)) Q E s):
  OpR X f (rI0 fun i j=>.int (g i j)):=by
 intro pins s σ H x y v u Q I rx ry h;obtain⟨i,j,rfl,rfl,q⟩:=h;obtain⟨t,rfl⟩:=rx;obtain⟨t',rfl⟩:=ry;exact rule i j t t' s _ _ ⟨.int (g i j),H,I.tok _,⟨_,rfl⟩,q⟩
theorem opB0{f:Value->Value->Sem Value}{g:Int->Int->Bool}
  (rule:∀(i j:Int) (t u:Tok) (s:Shared) (Q:Value->Shared->Prop) (E:Value->Shared->Prop),Q (.bool (g i j)) s->wpAny (model X.prog X.w) X.A (f (.int i t) (.int j u)) Q E s):
  OpR X f (rI0 fun i j=>.bl (g i j)):=by
 intro pins s σ H x y v u Q I rx ry h;obtain⟨i,j,rfl,rfl,q⟩:=h;obtain⟨t,rfl⟩:=rx;obtain⟨t',rfl⟩:=ry;exact rule i j t t' s _ _ ⟨.bl (g i j),H,I,rfl,q⟩
def CPow(i j:Int):Prop:=0≤j/\j≤1000000/\i.natAbs<2^64
theorem op_add:OpR X (binaryOp .Add) (rI0 fun i j=>.int (i+j)):=opI0 fun _ _ _ _ _ _ _ q=>add_int q
theorem qecz:OpR X (binaryOp .Sub) (rI0 fun i j=>.int (i-j)):=opI0 fun _ _ _ _ _ _ _ q=>sub_int q
theorem qagz:OpR X (binaryOp .Mod) (rI (fun _ j=>0<j) fun i j=>.int (i%j)):=opI fun i j _ _ _ _ _ hc q=>by
 have h1:(0:Int)<j:=hc;exact mod_int' (by lia) (by rw[Int.fmod_eq_emod_of_nonneg i (by lia)];exact q)
theorem qqxz:OpR X (binaryOp .Pow) (rI CPow fun i j=>.int (i^j.toNat)):=opI fun _ _ _ _ _ _ _ hc q=>pow_int_small hc.1 hc.2.1 hc.2.2 q
theorem unI{f:Value->Sem Value}{g:Int->Int}
  (rule:∀(i:Int) (t:Tok) (s:Shared) (Q:Value->Shared->Prop) (E:Value->Shared->Prop),Q (.int (g i) s.toks) { s with toks:=s.toks+1 }->wpAny (model X.prog X.w) X.A (f (.int i t)) Q E s):
  UnR X f (rU fun i=>.int (g i)):=by
 intro pins s σ H x v Q I rx h;obtain⟨i,rfl,q⟩:=h;obtain⟨t,rfl⟩:=rx;exact rule i t s _ _ ⟨.int (g i),H,I.tok _,⟨_,rfl⟩,q⟩
theorem qqyz:UnR X (unaryOp .USub) (rU fun i=>.int (-i)):=unI fun _ _ _ _ _ q=>neg_int q
end
section
variable {X:Cx} {a b c:Expr} {ta tb tc:TE} {pos:Pos}
theorem qi5z{pins:List (Addr×Obj)}{σ:St}{H:Hp}{s:Shared}{Q:VK}{k k':Bool}(I:Inv X pins σ H s)(q:Q (.bl k) H)(e:k=k'):EP X pins σ Q (.bool k') s:=by
 subst e;exact⟨.bl k,H,I,rfl,q⟩
theorem op_lt:OpR X (compareOp .Lt) (rI0 fun i j=>.bl (decide (i<j))):=opB0 fun _ _ _ _ _ _ _ q=>lt_int q
theorem qbnz:OpR X (compareOp .LtE) (rI0 fun i j=>.bl (decide (i≤j))):=opB0 fun _ _ _ _ _ _ _ q=>le_int q
theorem qfyz:OpR X (compareOp .Gt) (rI0 fun i j=>.bl (decide (j<i))):=opB0 fun _ _ _ _ _ _ _ q=>gt_int q
theorem qqzz:OpR X (compareOp .GtE) (rI0 fun i j=>.bl (decide (j≤i))):=opB0 fun _ _ _ _ _ _ _ q=>ge_int q
theorem qa9z:OpR X (compareOp .Is) (fun x y H Q=>y=.non/\Q (.bl (decide (x=.non))) H):=by
 intro pins s σ H x y v u Q I rx ry h;obtain⟨rfl,q⟩:=h;cases ry;refine is_none_gen (qi5z I q ?_);cases x<;>first
  | (cases rx;rfl)
  | (obtain⟨t,rfl⟩:=rx;rfl)
theorem qboz:OpR X (compareOp .IsNot) (fun x y H Q=>y=.non/\Q (.bl (!decide (x=.non))) H):=by
 intro pins s σ H x y v u Q I rx ry h;obtain⟨rfl,q⟩:=h;cases ry;refine isnot_none_gen (qi5z I q ?_);cases x<;>first
  | (cases rx;rfl)
  | (obtain⟨t,rfl⟩:=rx;rfl)
theorem OpR.or{f:Value->Value->Sem Value}{r r':R2}(h:OpR X f r)(h':OpR X f r'):OpR X f (fun x y H Q=>r x y H Q∨r' x y H Q):=by
 intro pins s σ H x y v u Q I rx ry q;rcases q with q|q
 ·exact h pins s σ H x y v u Q I rx ry q
 ·exact h' pins s σ H x y v u Q I rx ry q
theorem nomark(b:Expr){op:CmpOp}(h:op≠.In:=by decide)(h2:op≠.NotIn:=by decide):behindInMarks op b=false:=by
 have e1:(op==CmpOp.In)=false:=by cases op<;>first|rfl|exact absurd rfl h
 have e2:(op==CmpOp.NotIn)=false:=by cases op<;>first|rfl|exact absurd rfl h2
 cases b<;>simp[behindInMarks,e1,e2]
theorem qq0z{op:CmpOp}{r:R2}(ho:OpR X (compareOp op) r)(ha:PE X a ta)(hb:PE X b tb)(hm:behindInMarks op b=false):PE X (.Compare a [op] [b] pos) (tOp r ta tb):=by
 intro pins s σ H Q I h;exact wpAny_Compare1 (binT ha hb I h fun v u s2 x y H2 I2 rx ry q=>ho pins s2 σ H2 x y v u Q I2 rx ry q) hm
def tTest(t:TE):TT:=fun σ H Q=>t σ H fun x H'=>∃k,x=.bl k/\Q k H'
theorem qq1z{op:CmpOp}{r:R2}(ho:OpR X (compareOp op) r)(ha:PE X a ta)(hb:PE X b tb)(hm:behindInMarks op b=false):PT X (.Compare a [op] [b] pos) (tTest (tOp r ta tb)):=by
 intro pins s σ H Q I h;refine wpAny_isTrue_Compare1 (thn (ha pins s σ H _ I h) fun v s1 ⟨x,H1,I1,r1,q1⟩=>thn (hb pins s1 σ H1 _ I1 q1) fun u s2 ⟨y,H2,I2,r2,q2⟩=>
  thn (ho pins s2 σ H2 x y v u _ I2 r1 r2 q2) fun c s3 ⟨z,H3,I3,r3,k,e,q3⟩=>?_) hm
 subst e;cases r3;exact wpAny_truthy_bool ⟨H3,I3,q3⟩
def tChain(r r':R2)(ta tb tc:TE):TE:=fun σ H Q=>ta σ H fun x H1=>tb σ H1 fun y H2=>r x y H2 fun z H3=>∃k,z=.bl k ∧
 (if k=true then tc σ H3 fun w' H4=>r' y w' H4 Q else Q (.bl false) H3)
theorem qq2z{op op':CmpOp}{r r':R2}(ho:OpR X (compareOp op) r)(ho':OpR X (compareOp op') r')(ha:PE X a ta)(hb:PE X b tb)(hc:PE X c tc)
  (hm:lastMarks [op,op'] [b,c]=false:=by with_unfolding_all rfl):PE X (.Compare a [op,op'] [b,c] pos) (tChain r r' ta tb tc):=by
 intro pins s σ H Q I h;refine Compare_chain (thn (ha pins s σ H _ I h) fun v s1 ⟨x,H1,I1,r1,q1⟩=>chain_link (thn (hb pins s1 σ H1 _ I1 q1) fun u s2 ⟨y,H2,I2,r2,q2⟩=>
  thn (ho pins s2 σ H2 x y v u _ I2 r1 r2 q2) fun d s3 ⟨z,H3,I3,r3,k,e,q3⟩=>?_)) hm
 subst e;cases r3;refine wpAny_truthy_bool ?_;cases k with
 |false=>exact ite_ff ⟨.bl false,H3,I3,rfl,q3⟩
 |true=>exact ite_tt (chain_last (thn (hc pins s3 σ H3 _ I3 q3) fun w' s4 ⟨z',H4,I4,r4,q4⟩=>ho' pins s4 σ H4 y z' u w' Q I4 r2 r4 q4))
theorem qq3z{op op':CmpOp}{r r':R2}(ho:OpR X (compareOp op) r)(ho':OpR X (compareOp op') r')(ha:PE X a ta)(hb:PE X b tb)(hc:PE X c tc)
  (hm:lastMarks [op,op'] [b,c]=false:=by with_unfolding_all rfl):PT X (.Compare a [op,op'] [b,c] pos) (tTest (tChain r r' ta tb tc)):=by
 intro pins s σ H Q I h;refine isTrue_chain (thn (ha pins s σ H _ I h) fun v s1 ⟨x,H1,I1,r1,q1⟩=>test_link (thn (hb pins s1 σ H1 _ I1 q1) fun u s2 ⟨y,H2,I2,r2,q2⟩=>
  thn (ho pins s2 σ H2 x y v u _ I2 r1 r2 q2) fun d s3 ⟨z,H3,I3,r3,k,e,q3⟩=>?_)) hm
 subst e;cases r3;refine wpAny_truthy_bool ?_;cases k with
 |false=>
  obtain⟨k',e',q'⟩:=q3;cases e';exact ite_ff ⟨H3,I3,q'⟩
 |true=>
  refine ite_tt (test_last (thn (hc pins s3 σ H3 _ I3 q3) fun w' s4 ⟨z',H4,I4,r4,q4⟩=>thn (ho' pins s4 σ H4 y z' u w' _ I4 r2 r4 q4) fun d' s5 ⟨z2,H5,I5,r5,k2,e2,q5⟩=>?_));subst e2;cases r5;exact wpAny_truthy_bool ⟨H5,I5,q5⟩
def TruV(K:PySem.W.Frag)(x:V)(H:Hp)(k:Bool):Prop:=
 match x with
 |.non=>k=false
 |.bl b=>k=b
 |.int i=>k=(i != 0)
 |.str y=>y.length≤sizeLine/\k=((y.length:Int) != 0)
 |.byt y=>y.size≤sizeLine/\k=((y.size:Int) != 0)
 |.ref p=>(∃xs,SqL K H p xs/\k = !xs.isEmpty)∨(∃xs,SqT K H p xs/\k = !xs.isEmpty)∨∃kvs,H p=some (.dK kvs)/\k = !kvs.isEmpty
 |_=>False
theorem qq4z{κ:Type}{kvs:List (κ×V)}{vs:List (κ×Value)}(r:KV kvs vs):(!vs.isEmpty) = !kvs.isEmpty:=by
 cases r<;>rfl
theorem qi6z{xs:List V}{its:List Value}(r:Vals xs its):(!its.toArray.isEmpty) = !xs.isEmpty:=by
 cases r<;>simp
theorem line63:(sizeLine:Nat)<2^63:=by rw[sizeLine_eq];decide
theorem qq5z:TruR X (fun x H Q=>∃k,TruV X.K x H k/\Q k H):=by
 intro pins s σ H x v Q I rx h;obtain⟨k,e,q⟩:=h;have hl:=line63;have hs:sizeLine=16777216:=sizeLine_eq;cases x with
 |non=>
  cases rx;have e':k=false:=e;subst e';exact truthy_none ⟨H,I,q⟩
 |bl b=>
  cases rx;have e':k=b:=e;subst e';exact wpAny_truthy_bool ⟨H,I,q⟩
 |int i=>
  obtain⟨t,rfl⟩:=rx;have e':k=(i != 0):=e;subst e';exact PySem.P.truthy_int ⟨H,I,q⟩
 |str y=>
  obtain⟨t,rfl⟩:=rx;obtain⟨hy,e'⟩:y.length≤sizeLine/\k=((y.length:Int) != 0):=e;subst e';exact PySem.P.truthy_str (by lia) ⟨H,I.tok _,q⟩
 |byt y=>
  obtain⟨t,rfl⟩:=rx;obtain⟨hy,e'⟩:y.size≤sizeLine/\k=((y.size:Int) != 0):=e;subst e';exact PySem.W.truthy_bytes (by lia) ⟨H,I.tok _,q⟩
 |ref p=>
  cases rx;have e':(∃xs,SqL X.K H p xs/\k = !xs.isEmpty)∨(∃xs,SqT X.K H p xs/\k = !xs.isEmpty)∨∃kvs,H p=some (.dK kvs)/\k = !kvs.isEmpty:=e;rcases e' with⟨xs,hx,e'⟩|⟨xs,hx,e'⟩|⟨kvs,hx,e'⟩
  ·subst e';obtain⟨its,r,pl,hz⟩:=I.list hx;have hlen:=r.length;exact wpAny_truthy_list pl.isList (by simp only[List.size_toArray];lia) ⟨H,I.tok _,by rw[qi6z r];exact q⟩
  ·subst e';obtain⟨its,r,pl,hz⟩:=I.tuple hx;have hlen:=r.length;exact truthy_tuple pl (by simp only[List.size_toArray];lia) ⟨H,I.tok _,by rw[qi6z r];exact q⟩
  ·subst e';obtain⟨hz,hS,vs,r,m⟩:kvs.length≤sizeLine/\(p==sysModules)=false/\∃vs,KV kvs vs/\s.heap.DictOf (mixKind X.prog X.w) p vs:=I.hok p _ hx;have hlen:kvs.length=vs.length:=Paired.length r;exact wpAny_truthy_dict hS m (by lia) ⟨H,I.tok _,by rw[qq4z r];exact q⟩
 |_=>exact (show False from e).elim
theorem qq6z(ha:PE X a ta)(he:∀whole,isTrue a X.env whole=(do let v ←whole;standAt a.pos;holding [v] (truthy v))):
  PT X a (fun σ H Q=>ta σ H fun x H'=>∃k,TruV X.K x H' k/\Q k H'):=by
 intro pins s σ H Q I h;exact isTrue_plain (thn (ha pins s σ H _ I h) fun v s1 ⟨x,H1,I1,r1,q1⟩=>qq5z pins s1 σ H1 x v Q I1 r1 q1) (he _)
theorem vals1{x:V}{us:List Value}(r:Vals [x] us):∃u,us=[u]/\RelV x u:=by
 cases r with
 |cons r1 r2=>cases r2;exact⟨_,rfl,r1⟩
theorem vals2{x y:V}{us:List Value}(r:Vals [x,y] us):∃u w',us=[u,w']/\RelV x u/\RelV y w':=by
 cases r with
 |cons r1 r2=>
  cases r2 with
  |cons r3 r4=>cases r4;exact⟨_,_,rfl,r1,r3⟩
theorem qq7z(hc:X.calm=true):CallR X (.builtin "max") (fun xs H Q=>∃i j,xs=[.int i,.int j]/\Q (.int (if j > i then j else i)) H):=by
 intro pins s σ H xs us Q I r h;obtain⟨i,j,rfl,q⟩:=h;obtain⟨u,w',rfl,⟨t,rfl⟩,⟨t',rfl⟩⟩:=vals2 r;refine max_two_ints (I.ok.hd hc) fun h' tk k=>⟨_,H,I.kept k,?_,q⟩;by_cases hj:j > i
 ·rw[if_pos hj,if_pos hj];exact⟨_,rfl⟩
 ·rw[if_neg hj,if_neg hj];exact⟨_,rfl⟩
theorem qq8z:CallR X (.type "int") (fun xs H Q=>(∃i,xs=[.int i]/\Q (.int i) H)∨∃k,xs=[.bl k]/\Q (.int (if k then 1 else 0)) H):=by
 intro pins s σ H xs us Q I r h;rcases h with⟨i,rfl,q⟩|⟨k,rfl,q⟩
 ·obtain⟨u,rfl,t,rfl⟩:=vals1 r;exact call_int_int ⟨.int i,H,I,⟨_,rfl⟩,q⟩
 ·obtain⟨u,rfl,r1⟩:=vals1 r;cases r1;exact call_int_bool ⟨.int (if k then 1 else 0),H,I.tok _,⟨_,rfl⟩,q⟩
end
end L2
namespace L2
open PySem PySem.Spec PyProof.Rows
structure Room(k:Nat)(A:Around):Prop where
 hd:A.handled=none
 dp:A.depth+3*k+5<recursionLimit
 un:A.units+16*k+200<cLine
theorem Room.mono{j k:Nat}{A:Around}(r:Room k A)(h:j≤k):Room j A:=⟨r.hd,by have:=r.dp;lia,by have:=r.un;lia⟩
theorem Room.deeper{k:Nat}{A:Around}(r:Room (k+1) A)(env:Env):Room k (A.deeper env):=
 ⟨r.hd,by have:=r.dp;show A.depth+1+3*k+5<_;lia,by have:=r.un;show A.units+3+16*k+200<_;lia⟩
theorem Room.depth{k:Nat}{A:Around}(r:Room k A):A.depth<recursionLimit:=by have:=r.dp;lia
theorem Room.units{k:Nat}{A:Around}(r:Room k A):A.units+64<cLine:=by have:=r.un;lia
theorem Room.units0{k:Nat}{A:Around}(r:Room k A):A.units<cLine:=by have:=r.un;lia
def tNil:TA:=fun _ H Q=>Q [] H
def tCons(ta:TE)(tr:TA):TA:=fun σ H Q=>ta σ H fun x H1=>tr σ H1 fun xs H2=>Q (x::xs) H2
section
variable {X:Cx} {e:Expr} {es:List Expr} {te:TE} {t:TA} {pos:Pos}
theorem qedz:PA X [] tNil:=fun _ _ _ _ H Q I h=>Calls.spliced_nil ⟨[],H,I,.nil,h⟩
theorem qc2z(ha:PE X e te)(hr:PA X es t)(hs:starEach (e::es) X.env=(false,eval e X.env)::starEach es X.env:=by rfl):PA X (e::es) (tCons te t):=by
 intro pos pins s σ H Q I h;rw[hs];show wpAny _ _ (spliced ((false,eval e X.env)::backTo pos (starEach es X.env))) _ _ s;refine Calls.spliced_cons (thn (ha pins s σ H _ I h) fun u s1 ⟨x,H1,I1,r1,q1⟩=>?_);exact thn (hr pos pins s1 σ H1 _ I1 q1) fun us s2 ⟨xs,H2,I2,r2,q2⟩=>⟨x::xs,H2,I2,.cons r1 r2,q2⟩
def tTup(t:TA):TE:=fun σ H Q=>t σ H fun xs H1=>xs.length≤sizeLine/\∀p,H1 p=none->Q (.ref p) (upd H1 p (.tup xs))
def tLst(t:TA):TE:=fun σ H Q=>t σ H fun xs H1=>xs.length≤sizeLine/\∀p,H1 p=none->Q (.ref p) (upd H1 p (.lst xs))
theorem qq9z{x1}(h:PA X es t):PE X (.Tuple es x1 pos) (tTup t):=by
 intro pins s σ H Q I hq;refine wpAny_Tuple_spliced (thn (h pos pins s σ H _ I hq) fun us s1 ⟨xs,H1,I1,r,z,q⟩=>⟨by rw[←r.length];exact z,?_⟩);have hf:H1 s1.heap.objs.size=none:=I1.hok.fresh (Nat.le_refl _);refine⟨.ref s1.heap.objs.size,upd H1 s1.heap.objs.size (.tup xs),I1.laid (t':=s1.toks) (fun b u e=>Heap.get?_push_of_some _ e) (Nat.le_refl _) ?_,rfl,q _ hf⟩;exact⟨z,us,r,⟨_,Heap.get?_push_size _ rfl,rfl,_,rfl⟩⟩
theorem qi7z(h:PA X es t):PE X (.List es pos) (tLst t):=by
 intro pins s σ H Q I hq;refine wpAny_List_spliced (thn (h pos pins s σ H _ I hq) fun us s1 ⟨xs,H1,I1,r,z,q⟩=>⟨by rw[←r.length];exact z,?_⟩);have hf:H1 s1.heap.objs.size=none:=I1.hok.fresh (Nat.le_refl _);refine⟨.ref s1.heap.objs.size,upd H1 s1.heap.objs.size (.lst xs),I1.laid (t':=s1.toks) (fun b u e=>Heap.get?_push_of_some _ e) (Nat.le_refl _) ?_,rfl,q _ hf⟩;exact⟨z,us,0,r,Heap.get?_push_size _ rfl⟩
end
abbrev Sp:=List V->Hp->VK->XK->Prop
abbrev CXT:=List Env->Hp->Shared->XK->Value->Shared->Prop
structure Env0(P:Program)(w:World)(K:PySem.W.Frag)(mg:Str->Option Value)(base:Heap)(A:Around)(outer:List Env)(s:Shared)(H:Hp):Prop where
 frames:A.frames=some outer
 mod:Mod K mg base
 bs:∀b o,base.get? b=some o->s.heap.get? b=some o/\H b=none
 bsz:base.objs.size≤s.heap.objs.size
 funs:s.heap.FunFrames base outer
 frf:∀b∈frs outer,H b=none
 hok:HOk P w H s.heap
 bare:AllBare s.gens
def CE(outer:List Env)(P:Program)(w:World)(H:Hp)(s:Shared)(Q:VK)(u:Value)(s':Shared):Prop:=
 ∃v H',s'.os=s.os/\AllBare s'.gens/\Un (frs outer) [] H H' s.heap s'.heap/\HOk P w H' s'.heap/\RelV v u/\Q v H'
def CR(CX:CXT)(outer:List Env)(P:Program)(w:World)(H:Hp)(s:Shared)(Q:VK)(E:XK)(r:Result)(s':Shared):Prop:=
 match r with
 |.ok (.ret u)=>CE outer P w H s Q u s'
 |.ok _=>False
 |.error e=>CX outer H s E e s'
structure FnOk(P:Program)(w:World)(K:PySem.W.Frag)(mg:Str->Option Value)(base:Heap)(CX:CXT)(k:Nat)(f:Addr)(fd:FuncData)(ps:List Str)(sp:Sp):Prop where
 len:∀vs H Q E,sp vs H Q E->vs.length=ps.length
 run:∀(A:Around) (outer:List Env) (s:Shared) (H:Hp) (args:Args) (us:List Value) (vs:List V) (Q:VK) (E:XK),Room k A->Env0 P w K mg base A outer s H->BindsTo s fd args (ps.zip us)->Vals vs us->sp vs H Q E ->
  codeAny (model P w) A (.call (.ref f) args) (CR CX outer P w H s Q E) s
theorem FnOk.mono{P:Program}{w:World}{K:PySem.W.Frag}{mg:Str->Option Value}{base:Heap}{CX:CXT}{j k:Nat}{f:Addr}{fd:FuncData}{ps:List Str}{sp:Sp}(F:FnOk P w K mg base CX j f fd ps sp)(h:j≤k):
  FnOk P w K mg base CX k f fd ps sp:=⟨F.len,fun A outer s H args us vs Q E hr=>F.run A outer s H args us vs Q E (hr.mono h)⟩
theorem FnOk.imp{P:Program}{w:World}{K:PySem.W.Frag}{mg:Str->Option Value}{base:Heap}{CX:CXT}{k:Nat}{f:Addr}{fd:FuncData}{ps:List Str}{sp sp':Sp}(F:FnOk P w K mg base CX k f fd ps sp)
  (h:∀vs H Q E,sp' vs H Q E->sp vs H Q E):FnOk P w K mg base CX k f fd ps sp':=
 ⟨fun vs H Q E q=>F.len vs H Q E (h _ _ _ _ q),fun A outer s H args us vs Q E hr he hb hv hs=>F.run A outer s H args us vs Q E hr he hb hv (h _ _ _ _ hs)⟩
section
variable {X:Cx} {pins:List (Addr×Obj)} {σ:St} {H:Hp} {s s':Shared}
theorem Inv.env0(I:Inv X pins σ H s):Env0 X.prog X.w X.K X.mg X.base X.A X.stack s H:=
 ⟨I.ok.frames,I.ok.mod,I.bs,Nat.le_trans I.ok.bsz I.sz,I.stack,I.stkFree,I.hok,I.bare⟩
theorem Inv.after{Q:VK}{u:Value}(I:Inv X pins σ H s)(h:CE X.stack X.prog X.w H s Q u s'):EP X pins σ Q u s':=by
 obtain⟨v,H',os,bare,un,hok,r,q⟩:=h;obtain⟨hh,g,d,t,os'⟩:=s';obtain rfl:os'=s.os:=os;exact⟨v,H',I.call (h':=hh) (g':=g) (d':=d) (t':=t) (ch:=[]) un hok bare (fun b z=>absurd z (by simp)),r,q⟩
end
def tCall(sp:Sp)(dvs:List V)(E:XK)(t:TA):TE:=fun σ H Q=>t σ H fun vs H1=>sp (vs++dvs) H1 Q E
def Binds(K:PySem.W.Frag)(fd:FuncData)(ps:List Str)(ds:List Value):Prop:=
 ∀(s:Shared) (us:List Value),K.In s.heap->(us++ds).length=ps.length->BindsTo s fd ⟨us,[]⟩ (ps.zip (us++ds))
theorem Binds.all{K:PySem.W.Frag}{fd:FuncData}{ps:List Str}(h:∀us:List Value,us.length=ps.length->bindArgs fd ⟨us,[]⟩=pure (ps.zip us)):Binds K fd ps []:=fun s us _ hl=>by
 rw[List.append_nil] at hl ⊢;exact .of_eq (h us hl)
def Passes(CX:CXT)(X:Cx)(E:XK):Prop:=∀(pins:List (Addr×Obj)) (σ:St) (H:Hp) (s:Shared) (e:Value) (s':Shared),Inv X pins σ H s->CX X.stack H s E e s'->X.xe e s'
section
variable {X:Cx} {CX:CXT} {k:Nat} {f C:Addr} {fd:FuncData} {ps:List Str} {sp:Sp} {dvs:List V} {ds:List Value} {E:XK} {x m:Str} {p pos apos:Pos} {e o:Expr} {es:List Expr} {ta:TE} {t:TA}
theorem qraz{pins:List (Addr×Obj)}{σ:St}{H:Hp}{s:Shared}{Q:VK}{us:List Value}{vs:List V}(F:FnOk X.prog X.w X.K X.mg X.base CX k f fd ps sp)(hr:Room k X.A)(hb:Binds X.K fd ps ds)(hd:Vals dvs ds)(hx:Passes CX X E)
  (I:Inv X pins σ H s) (r:Vals vs us) (h:sp (vs++dvs) H Q E):wpAny (model X.prog X.w) X.A (call (.ref f) us) (EP X pins σ Q) X.xe s:=by
 have r2:Vals (vs++dvs) (us++ds):=r.append hd;have hl:(us++ds).length=ps.length:=by rw[←r2.length];exact F.len _ _ _ _ h
 refine wpAny_call (codeAny_mono (F.run X.A X.stack s H ⟨us,[]⟩ (us++ds) (vs++dvs) Q E hr I.env0 (hb s us I.kIn hl) r2 h) fun r s' hq=>?_);cases r with
 |error e=>exact hx pins σ H s e s' I hq
 |ok fl=>
  cases fl with
  |ret u=>exact I.after hq
  |next=>exact False.elim hq
  |brk=>exact False.elim hq
  |cont=>exact False.elim hq
theorem qrbz(F:FnOk X.prog X.w X.K X.mg X.base CX k f fd ps sp)(hr:Room k X.A)(hg:Gl X x)(hm:X.mg x=some (.ref f))(hk:PySem.W.keepIn X.K (.ref f)=true)(hb:Binds X.K fd ps ds)(hd:Vals dvs ds)(hx:Passes CX X E)
  (ha:PA X (e::es) t) (hdb:(x==("__debug__":Str))=false:=by decide) (he:starEach (e::es) X.env=(false,eval e X.env)::starEach es X.env:=by rfl) (hpl:(backTo pos (starEach es X.env)).any (·.1)=false:=by rfl):
  PE X (.Call (.Name x p) (e::es) [] pos) (tCall sp dvs E t):=by
 intro pins s σ H Q I h;refine wpAny_Call_Name_kw (qi2z I hg hm ?_ hdb);refine PySem.W.callWith_K (h₀:=X.base) I.ok.mod.kin hk (thn (ha pos pins s σ H _ I h) fun us s1 ⟨vs,H1,I1,r,q⟩=>⟨I1.kIn,?_⟩) he hpl;exact qraz F hr hb hd hx I1 r q
end
structure FnScope(N P:List Str)(sc:Scope):Prop where
 kind:sc.kind=.function
 co:sc.isCoroutine=false
 gen:sc.isGenerator=false
 nd:N.Nodup
 pre:N.take P.length=P
 par:∀x∈P,sc.names.lookup x=some .local∨sc.names.lookup x=some .cell
 nofree:∀y∈sc.names,y.2≠.free
theorem qi8z{kindOf:Str->Option NameKind}{x:Str}:∀{binds:List (Str×Value)} {m:Str->Option Value},(∀v,(x,v)∉binds)->bindL kindOf binds m x=m x
 |[],_,_=>rfl
 | (n,v)::r,m,h=>by
  unfold bindL;rw[qi8z fun w hw=>h w (List.mem_cons_of_mem _ hw)];split
  ·have:x≠n:=by rintro rfl;exact h v List.mem_cons_self
   simp[this]
  ·rfl
theorem qi9z{kindOf:Str->Option NameKind}{x:Str}:∀{binds:List (Str×Value)} {m:Str->Option Value},(∀v,(x,v)∉binds)->bindC kindOf binds m x=m x
 |[],_,_=>rfl
 | (n,v)::r,m,h=>by
  unfold bindC;rw[qi9z fun w hw=>h w (List.mem_cons_of_mem _ hw)];split
  ·rfl
  ·have:x≠n:=by rintro rfl;exact h v List.mem_cons_self
   simp[this]
theorem qjaz{kindOf:Str->Option NameKind}{x:Str}{v:Value}:∀{P:List Str} {vs:List Value} {i:Nat} {m:Str->Option Value},P.Nodup->P[i]?=some x->vs[i]?=some v->kindOf x=some .local ->
  bindL kindOf (P.zip vs) m x=some v
 |[],_,_,_,_,h,_,_=>by simp at h
 |_::_,[],_,_,_,_,h,_=>by simp at h
 |p::P,w::vs,0,m,nd,h1,h2,hk=>by
  simp at h1 h2;subst h1;subst h2;show bindL kindOf ((p,w)::P.zip vs) m p=_;unfold bindL;rw[qi8z fun v hv=>(List.nodup_cons.mp nd).1 (List.of_mem_zip hv).1,if_pos hk];simp
 |p::P,w::vs,i+1,m,nd,h1,h2,hk=>by
  show bindL kindOf ((p,w)::P.zip vs) m x=_;unfold bindL;exact qjaz (i:=i) (List.nodup_cons.mp nd).2 (by simpa using h1) (by simpa using h2) hk
theorem qjbz{kindOf:Str->Option NameKind}{x:Str}{v:Value}:∀{P:List Str} {vs:List Value} {i:Nat} {m:Str->Option Value},P.Nodup->P[i]?=some x->vs[i]?=some v->kindOf x≠some .local ->
  bindC kindOf (P.zip vs) m x=some v
 |[],_,_,_,_,h,_,_=>by simp at h
 |_::_,[],_,_,_,_,h,_=>by simp at h
 |p::P,w::vs,0,m,nd,h1,h2,hk=>by
  simp at h1 h2;subst h1;subst h2;show bindC kindOf ((p,w)::P.zip vs) m p=_;unfold bindC;rw[qi9z fun v hv=>(List.nodup_cons.mp nd).1 (List.of_mem_zip hv).1,if_neg hk];simp
 |p::P,w::vs,i+1,m,nd,h1,h2,hk=>by
  show bindC kindOf ((p,w)::P.zip vs) m x=_;unfold bindC;exact qjbz (i:=i) (List.nodup_cons.mp nd).2 (by simpa using h1) (by simpa using h2) hk
def start(N:List Str)(vs:List V):St:=vs.map some++List.replicate (N.length-vs.length) none
def cxOf(CX:CXT)(P:Program)(w:World)(K:PySem.W.Frag)(mg:Str->Option Value)(base:Heap)(N:List Str)(qual:Str)(scope:Scope)(f:Addr)(cd:Value)(A:Around)(outer:List Env)(s:Shared)(H:Hp)(E:XK):Cx where
 prog:=P
 w:=w
 K:=K
 mg:=mg
 base:=base
 A:=A.deeper (envOfC qual scope s.heap.objs.size f cd)
 N:=N
 s₀:=s
 H₀:=H
 env:=envOfC qual scope s.heap.objs.size f cd
 outer:=outer
 stack:=envOfC qual scope s.heap.objs.size f cd::outer
 ex:=[]
 calm:=true
 fn:=fun _=>true
 pn:=[]
 xe:=fun e s'=>wpAny (model P w) (A.deeper (envOfC qual scope s.heap.objs.size f cd)) (leaving (envOfC qual scope s.heap.objs.size f cd) e) (fun _ s''=>CX outer H s E e s'') (fun e' s''=>CX outer H s E e' s'') s'
theorem qjcz{sc:Scope}{n:Nat}{x:Str}(h:sc.names.lookup x=some .cell):∃c,(cellsFrom n sc.names []).lookup x=some c:=by
 have q:=PySem.W.cellsFrom_some sc.names n [] (.inl h);exact Option.isSome_iff_exists.mp q
theorem qrcz{CX:CXT}{P:Program}{w:World}{K:PySem.W.Frag}{mg:Str->Option Value}{base:Heap}{N ps:List Str}{qual:Str}{scope:Scope}{f:Addr}{cd:Value}{A:Around}{outer:List Env}{s s1:Shared}{H:Hp}{E:XK}{us:List Value}{vs:List V}
  (S:FnScope N ps scope) (hd:A.handled=none) (e0:Env0 P w K mg base A outer s H) (hl:vs.length=ps.length) (r:Vals vs us)
  (x:InCallC s s.heap.objs.size (bindL (envOfC qual scope s.heap.objs.size f cd).kindOf (ps.zip us) fun _=>none) (cellsFrom (s.heap.objs.size+1) scope.names []) (bindC (envOfC qual scope s.heap.objs.size f cd).kindOf (ps.zip us) fun _=>none) s1):
  Inv (cxOf CX P w K mg base N qual scope f cd A outer s H E) [] (start N vs) H s1:=by
 have hpl:ps.length≤N.length:=by have:=congrArg List.length S.pre;rw[List.length_take] at this;lia
 obtain⟨h1,tk,rfl,hk⟩:=x.done;have noA:∀b:Addr,b∉(cxOf CX P w K mg base N qual scope f cd A outer s H E).ex:=fun b z=>absurd (show b∈([]:List Addr) from z) (by simp);refine⟨⟨e0.mod,S.kind,rfl,rfl,Nat.le_refl _,fun y z c h1 h2=>?_,fun y hy=>?_,fun y c _ h=>?_,fun _=>hd,Around.frames_deeper e0.frames,.inr ⟨rfl,rfl⟩,fun b z=>absurd z (noA b),e0.bs,e0.bsz,fun b _ _=>noA b,fun b z=>absurd z (noA b),e0.funs,e0.frf⟩,
  rfl,e0.bare,Un.kept hk,⟨_,x.toInCall.ns,fun i y v h1 h2 h3=>?_⟩,fun y c h=>⟨_,x.cell y c h⟩,e0.hok.fresh (Nat.le_refl _),fun y c h=>?_,fun p hp=>absurd (show p∈([]:List (Addr×Obj)) from hp) (by simp),e0.hok.kept hk,?_⟩
 ·exact name_of_addr x.apart (PySem.mem_of_lookup h1) (PySem.mem_of_lookup h2)
 ·have hy:scope.names.lookup y=some .cell∨scope.names.lookup y=some .free:=hy;rcases hy with hy|hy
  ·exact qjcz hy
  ·exact absurd rfl (S.nofree _ (PySem.mem_of_lookup hy))
 ·exact Nat.le_of_lt (x.above y c (PySem.mem_of_lookup h))
 ·have hi:i<vs.length:=by
   unfold start at h2;by_cases hi:i<vs.length
   ·exact hi
   ·rw[List.getElem?_append_right (by simpa using hi)] at h2;rw[List.getElem?_replicate] at h2;split at h2<;>cases h2
  have ha:vs[i]?=some v:=by
   unfold start at h2;rw[List.getElem?_append_left (by simpa using hi),List.getElem?_map] at h2;cases e:vs[i]? with
   |none=>rw[e] at h2;cases h2
   |some a=>rw[e] at h2;cases h2;rfl
  obtain⟨u,hu,rv⟩:=r.get ha;have hp:ps[i]?=some y:=by
   rw[←S.pre,List.getElem?_take_of_lt (by lia)];exact h1
  have ndP:ps.Nodup:=by rw[←S.pre];exact S.nd.sublist (List.take_sublist _ _)
  refine⟨u,rv,?_⟩;rcases S.par y (List.mem_of_getElem? hp) with k|k
  ·exact .inl ⟨k,qjaz ndP hp hu k⟩
  ·obtain⟨c,e⟩:=qjcz (n:=s.heap.objs.size+1) k;refine .inr ⟨.inl k,c,e,?_⟩;have q:=x.cell y c e;rw[qjbz ndP hp hu (by show scope.names.lookup y≠_;rw[k];decide)] at q;exact q
 ·exact e0.hok.fresh (Nat.le_of_lt (x.above y c (PySem.mem_of_lookup h)))
 ·unfold start;show _=N.length;rw[List.length_append,List.length_map,List.length_replicate];lia
theorem qrdz{CX:CXT}{P:Program}{w:World}{K:PySem.W.Frag}{mg:Str->Option Value}{base:Heap}{k:Nat}{f:Addr}{name qual:Str}{params:Arguments}{body:List Stmt}{scope:Scope}{dV kV doc pm cdv ct oc:Value}{an od:Option Addr}
  {osl:Array (Option Value)} {N ps:List Str} {sp:Sp} (lk:K.lookup f=some ⟨oc,od,.func (PySem.W.fnOf name qual params body scope dV kV doc pm an cdv ct),osl⟩) (hcd:PySem.W.codeIn K cdv qual=true) (S:FnScope N ps scope)
  (len:∀vs H Q E,sp vs H Q E->vs.length=ps.length)
  (hbody:∀(A:Around) (outer:List Env) (s:Shared) (H:Hp) (vs:List V) (Q:VK) (E:XK),Room k (A.deeper (envOfC qual scope s.heap.objs.size f cdv))->sp vs H Q E ->
   ∃t,PSs (cxOf CX P w K mg base N qual scope f cdv A outer s H E) body t/\t { nx:=fun _ H'=>Q .non H',rt:=Q } (start N vs) H):
  FnOk P w K mg base CX (k+1) f (PySem.W.fnOf name qual params body scope dV kV doc pm an cdv ct) ps sp:=by
 refine⟨len,fun A outer s H args us vs Q E hr e0 hb r hsp=>?_⟩;have hl:=len _ _ _ _ hsp;have KX:K.In s.heap:=e0.mod.kin.keeps fun b o e=>(e0.bs b o e).1;have lim:s.heap.NoLimit:=e0.mod.nolimit.keeps fun b o e=>(e0.bs b o e).1;have hkind:∀y∈ps.zip us,scope.names.lookup y.1=some .local∨(scope.names.lookup y.1=some .cell/\((cellsFrom (s.heap.objs.size+1) scope.names []).lookup y.1).isSome=true):=fun⟨n,v⟩ hy=>by
  rcases S.par n (List.of_mem_zip hy).1 with q|q
  ·exact .inl q
  ·exact .inr ⟨q,PySem.W.cellsFrom_some _ _ _ (.inl q)⟩
 refine codeAny_call_function hr.depth (KX _ _ lk) rfl S.co S.gen rfl (PySem.W.codeRec_of KX hcd) (hb _ _ _ _ ?_);refine wpAny_newFunctionEnv_cells S.kind hkind fun env he s1 x=>?_;subst he;refine⟨lim.keeps x.toInCall.keep,codeAny_func ?_⟩;obtain⟨t,ht,hq⟩:=hbody A outer s H vs Q E (hr.deeper _) hsp;have I:Inv (cxOf CX P w K mg base N qual scope f cdv A outer s H E) [] (start N vs) H s1:=qrcz S hr.hd e0 hl r x;refine wpAny_mono (ht [] s1 (start N vs) H _ I hq) (fun fl s' hs=>?_) fun e s' hs=>hs;have fin:∀{σ':St} {H':Hp} {v:V} {u:Value},Inv (cxOf CX P w K mg base N qual scope f cdv A outer s H E) [] σ' H' s'->RelV v u->Q v H'->CE outer P w H s Q u s':=
  fun {σ' H' v u} J rv q=>⟨v,H',J.os,J.bare,J.base,J.hok,rv,q⟩
 cases fl with
 |ret u=>
  obtain⟨v,σ',H',J,rv,q⟩:=hs;exact fin J rv q
 |next=>
  obtain⟨σ',H',J,q⟩:=hs;exact fin (v:=V.non) (u:=Value.none) J rfl q
 |brk=>
  obtain⟨_,_,_,q⟩:=hs;exact False.elim q
 |cont=>
  obtain⟨_,_,_,q⟩:=hs;exact False.elim q
end L2
namespace L2
open PySem PySem.Spec PyProof.Rows
section
variable {X:Cx} {x:Str} {p pos:Pos} {e:Expr} {es:List Expr} {t:TA} {id T:String} {r:List V->Hp->VK->Prop}
def tCB(r:List V->Hp->VK->Prop)(t:TA):TE:=fun σ H Q=>t σ H fun vs H1=>r vs H1 Q
theorem qb1z(hc:CallR X (.builtin id) r)(hg:Gl X x)(hm:X.mg x=none)(hv:bootBuiltins x=some (.builtin id))(ha:PA X (e::es) t)(hn:x≠"__name__":=by decide)(hdb:(x==("__debug__":Str))=false:=by decide)
  (he:starEach (e::es) X.env=(false,eval e X.env)::starEach es X.env:=by rfl) (hpl:(backTo pos (starEach es X.env)).any (·.1)=false:=by rfl):PE X (.Call (.Name x p) (e::es) [] pos) (tCB r t):=by
 intro pins s σ H Q I h;refine wpAny_Call_Name_kw (qa0z I hg hm hv ?_ hn hdb);exact PyProof.Rows.callWith_builtin1 (thn (ha pos pins s σ H _ I h) fun us s1 ⟨vs,H1,I1,r1,q1⟩=>hc pins s1 σ H1 vs us Q I1 r1 q1) he hpl
theorem qeez(hc:CallR X (.type T) r)(hg:Gl X x)(hm:X.mg x=none)(hv:bootBuiltins x=some (.type T))(ha:PA X (e::es) t)(hn:x≠"__name__":=by decide)(hdb:(x==("__debug__":Str))=false:=by decide)
  (he:starEach (e::es) X.env=(false,eval e X.env)::starEach es X.env:=by rfl) (hpl:(backTo pos (starEach es X.env)).any (·.1)=false:=by rfl):PE X (.Call (.Name x p) (e::es) [] pos) (tCB r t):=by
 intro pins s σ H Q I h;refine wpAny_Call_Name_kw (qa0z I hg hm hv ?_ hn hdb);exact PyProof.Rows.callWith_type1 (thn (ha pos pins s σ H _ I h) fun us s1 ⟨vs,H1,I1,r1,q1⟩=>hc pins s1 σ H1 vs us Q I1 r1 q1) he hpl
end
end L2
namespace HT
open PySem PyProof.Rows
def lexLt:List Int->List Int->Bool
 |[],[]=>false
 |[],_::_=>true
 |_::_,[]=>false
 |x::xs,y::ys=>if x=y then lexLt xs ys else decide (x<y)
theorem qrez(x y:Int)(xs ys:List Int):lexLt (x::xs) (y::ys)=if x=y then lexLt xs ys else decide (x<y):=rfl
theorem qrfz:lexLt [] []=false:=rfl
theorem qrgz(y:Int)(ys:List Int):lexLt [] (y::ys)=true:=rfl
theorem qrhz(x:Int)(xs:List Int):lexLt (x::xs) []=false:=rfl
theorem qriz(A:Around)(s:Shared)(a:Int)(t:Tok)(c:Int)(u:Tok):∃e,SeqAt.EqAt A s (.int a t) (.int c u) e/\(e=true↔a=c):=
 ⟨(a==c),SeqAt.EqAt.int_int a t c u,by simp⟩
theorem qrjz(A:Around)(s:Shared)(a:Int)(t:Tok)(c:Int)(u:Tok)(prog:Program)(w:World)(E:Value->Shared->Prop)(Q:Value->Shared->Prop)(h:Q (.bool (decide (a<c))) s):
  wpAny (model prog w) A (richCompare .Lt (.int a t) (.int c u)) Q E s:=
 (PyProof.Rows.lt_int h:wpAny (model prog w) A (compareOp .Lt (.int a t) (.int c u)) Q E s)
section
open PySem.SeqAt
open PySem.AutoSeq1 (wpAny_loadPart')
open PySem.MeetsSeq PySem.MeetsSeq2 PySem.MeetsSeq3
theorem qrkz(l b:Addr)(items items2:Array Value)(n n2:Nat)(dd dd2:Option Addr)(sl sl2:Array (Option Value))(ns ms:List Int)(hi:IntsAre items.toList ns)(hj:IntsAre items2.toList ms):
  Meets (Builtin.«tuple.__lt__» ⟨[.ref l,.ref b],[]⟩)
   (fun _ R s=>s.heap.get? l=some { cls:=.type "tuple",dict:=dd,data:=.seq items n,slots:=sl }/\s.heap.get? b=some { cls:=.type "tuple",dict:=dd2,data:=.seq items2 n2,slots:=sl2 } ∧
    R (.ok (.ret (.bool (lexLt ns ms)))) s):=
 .of_wp fun prog w A R s h=>by
  obtain⟨hp,g,d,tk,os⟩:=s;obtain⟨hl,hb,h⟩:=h;have f2:=AutoSeq1.sub_tuple_tuple;have z1:items.size=ns.length:=by rw[←hi.length];simp
  have z2:items2.size=ms.length:=by rw[←hj.length];simp
  wp_walk using wpAny_loadPart' hl,wpAny_loadPart' hb,wpAny_forIn_list _ (fun rest b s'=>b.1=none/\s'=⟨hp,g,d,tk,os⟩/\∃(vs ws:List Value) (ns' ms':List Int),rest=vs.zip ws ∧
   IntsAre vs ns'/\IntsAre ws ms'/\ns'.length+items2.size=ms'.length+items.size/\R (.ok (.ret (.bool (lexLt ns' ms')))) ⟨hp,g,d,tk,os⟩) _
  case turn=>
   rintro⟨y,x⟩ rest b s' ⟨hb',rfl,vs,ws,ns',ms',hz,hvi,hwi,hlen,hR⟩;cases hvi with
   |nil=>rw[List.zip_nil_left] at hz;cases hz
   |cons a t hvi'=>
    cases hwi with
    |nil=>rw[List.zip_nil_right] at hz;cases hz
    |cons c u hwi'=>
     rw[List.zip_cons_cons] at hz;injection hz with hyx hrest;injection hyx with hy hx;subst hy hx;rw[qrez] at hR;simp only[List.length_cons] at hlen;obtain⟨e,he,hiff⟩:=qriz A.in1 ⟨hp,g,d,tk,os⟩ a t c u;refine wpAny_bind (he prog w _ _ ?_);cases e with
     |true=>
      rw[if_pos (hiff.mp rfl)] at hR;wp_walk;exact⟨rfl,rfl,_,_,_,_,hrest,hvi',hwi',by lia,hR⟩
     |false=>
      rw[if_neg (fun q=>absurd (hiff.mpr q) Bool.false_ne_true)] at hR;have hri:=qrjz A.in1 ⟨hp,g,d,tk,os⟩ a t c u prog w;wp_walk using hri;exact⟨_,rfl,by simpa using hR⟩
  case fin=>
   rintro⟨b1,b2⟩ s' ⟨hb',rfl,vs,ws,ns',ms',hz,hvi,hwi,hlen,hR⟩;simp only at hb';subst hb';have hv:lexLt ns' ms'=decide (items.size<items2.size):=by
    cases hvi with
    |nil=>
     cases hwi with
     |nil=>
      simp only[List.length_nil] at hlen;rw[qrfz];exact (decide_eq_false (by lia)).symm
     |cons c u hw=>
      simp only[List.length_nil,List.length_cons] at hlen;rw[qrgz];exact (decide_eq_true (by lia)).symm
    |cons a t hv=>
     cases hwi with
     |nil=>
      simp only[List.length_nil,List.length_cons] at hlen;rw[qrhz];exact (decide_eq_false (by lia)).symm
     |cons c u hw=>
      rw[List.zip_cons_cons] at hz;cases hz
   rw[hv] at hR;wp_walk;exact⟨_,rfl,by simpa [Builtin.Tuple.tupleCompareSizes] using hR⟩
  case h=>
   exact⟨rfl,rfl,items.toList,items2.toList,ns,ms,rfl,hi,hj,by lia,h⟩
end
section
variable {prog:Program} {w:World} {A:Around} {E:Value->Shared->Prop} {s:Shared}
theorem lt_tupInts{l b:Addr}{items items2:Array Value}{ns ms:List Int}{Q:Value->Shared->Prop}(hl:IsTup s.heap l items)(hb:IsTup s.heap b items2)(hi:IntsAre items.toList ns)(hj:IntsAre items2.toList ms)
  (hu:A.units<cLine) (h:Q (.bool (lexLt ns ms)) s):wpAny (model prog w) A (compareOp .Lt (.ref l) (.ref b)) Q E s:=by
 obtain⟨⟨cls,dd,data,sl⟩,ho,hc,n,hd⟩:=id hl;obtain⟨⟨cls2,dd2,data2,sl2⟩,ho2,hc2,n2,hd2⟩:=id hb;simp only at hc hd hc2 hd2;subst hc hd hc2 hd2;exact richCompare_meets_room (op:=.Lt) ⟨_,ho,rfl⟩ ⟨_,ho2,rfl⟩ PySem.F.slot_tuple_lt PySem.F.entry_tuple_lt (PySem.F.args_tuple_lt_2 _ _) (qrkz l b items items2 n n2 dd dd2 sl sl2 ns ms hi hj)
  ⟨ho,ho2,show Value.bool (lexLt ns ms)≠Value.notImplemented/\Q (.bool (lexLt ns ms)) s from⟨(fun x=>nomatch x),h⟩⟩ hu
theorem cat_tup{t b:Addr}{vs ws:List Value}{Q:Value->Shared->Prop}(ht:IsTup s.heap t vs.toArray)(hb:IsTup s.heap b ws.toArray)(hv:vs≠[])
  (h1:ws=[]->Q (.ref t) s) (h2:ws≠[]->Q (.ref s.heap.objs.size) { s with heap:=s.heap.push { cls:=.type "tuple",data:=.seq (vs++ws).toArray }})
  (hsz:vs.length+ws.length≤sizeLine):wpAny (model prog w) A (binaryOp .Add (.ref t) (.ref b)) Q E s:=by
 obtain⟨⟨cls,dd,data,sl⟩,ho,hc,n,hd⟩:=id ht;obtain⟨⟨cls2,dd2,data2,sl2⟩,ho2,hc2,n2,hd2⟩:=id hb;simp only at hc hd hc2 hd2;subst hc hd hc2 hd2;have e:vs.toArray++ws.toArray=(vs++ws).toArray:=by simp
 by_cases hw:ws=[]
 ·exact concat_meets ⟨_,ho,rfl⟩ ⟨_,ho2,rfl⟩ noFill_tuple_add seq_tuple_add PySem.F.slot_tuple_add PySem.F.entry_tuple_add (PySem.F.args_tuple_add_2 _ _)
   (tuple_addW1 t b vs.toArray ws.toArray n n2 dd dd2 sl sl2 (by simpa using hv) (by simp[hw])) ⟨ho,ho2,h1 hw⟩
 ·refine concat_meets ⟨_,ho,rfl⟩ ⟨_,ho2,rfl⟩ noFill_tuple_add seq_tuple_add PySem.F.slot_tuple_add PySem.F.entry_tuple_add (PySem.F.args_tuple_add_2 _ _)
   (tuple_addW2 t b vs.toArray ws.toArray n n2 dd dd2 sl sl2 (by simpa using hv) (by simpa using hw) (by rw[List.size_toArray,List.size_toArray];exact hsz)) ⟨ho,ho2,?_⟩
  rw[e];exact h2 hw
def sIx(n d:Nat):Option Int->Nat
 |none=>d
 |some v=>if v<0 then (v+(n:Int)).toNat else min v.toNat n
theorem sIx_none(n d:Nat):sIx n d none=d:=rfl
theorem sIx_nat(n d k:Nat):sIx n d (some (k:Int))=min k n:=by
 show (if (k:Int)<0 then ((k:Int)+(n:Int)).toNat else min (k:Int).toNat n)=min k n;rw[if_neg (by lia),Int.toNat_natCast]
theorem qrlz(n d:Nat)(hd:d≤n)(o:Option Int):sIx n d o≤n:=by
 cases o with
 |none=>exact hd
 |some v=>
  show (if v<0 then (v+(n:Int)).toNat else min v.toNat n)≤n;by_cases hv:v<0
  ·rw[if_pos hv];lia
  ·rw[if_neg hv];exact Nat.min_le_right _ _
theorem qjdz(v:Int)(n d:Nat):(if v<0 then max (v+(n:Int)) 0 else min v (n:Int))=((sIx n d (some v):Nat):Int):=by
 show (if v<0 then max (v+(n:Int)) 0 else min v (n:Int))=(((if v<0 then (v+(n:Int)).toNat else min v.toNat n):Nat):Int);by_cases hv:v<0
 ·simp only[if_pos hv];lia
 ·simp only[if_neg hv];lia
theorem qrmz(lo hi:Option Int)(n:Nat):Builtin.Slice.sliceAdjust lo hi 1 (n:Int)=(((sIx n 0 lo:Nat):Int),((sIx n n hi:Nat):Int)):=by
 have h1:¬((1:Int)<0):=by lia
 unfold Builtin.Slice.sliceAdjust;simp only[h1,if_false];refine Prod.ext ?_ ?_
 ·cases lo with
  |none=>rfl
  |some v=>exact qjdz v n 0
 ·cases hi with
  |none=>rfl
  |some v=>exact qjdz v n n
theorem qrnz(i j:Nat):Builtin.Slice.slicePlaces (i:Int) (j:Int) 1=j-i:=by
 unfold Builtin.Slice.slicePlaces;have h1:(1:Int) > 0:=by lia
 simp only[h1,if_true,Int.ediv_one];split<;>lia
theorem qjez{v:Value}{o:Option Int}{Q:Option Int->Shared->Prop}(p:IsPart v o)(h:Q o s):wpAny (model prog w) A (Builtin.Slice.slicePartIndex v) Q E s:=by
 cases p with
 |none=>exact slicePart_none h
 |int i t=>exact slicePart_int h
theorem sliceApplied_gen{sl:Addr}{vl vu:Value}{lo hi:Option Int}{n:Nat}{Q:Int×Int×Nat->Shared->Prop}(hs:s.heap.IsSliceOf sl vl vu .none)(pl:IsPart vl lo)(pu:IsPart vu hi)
  (h:Q (((sIx n 0 lo:Nat):Int),1,sIx n n hi-sIx n 0 lo) s):wpAny (model prog w) A (Builtin.Slice.sliceApplied (.ref sl) (pure (n:Int))) Q E s:=by
 obtain⟨os,hos,hcs,hds⟩:=id hs;unfold Builtin.Slice.sliceApplied Builtin.Slice.sliceFields;refine wpAny_bind (wpAny_bind (wpAny_field hos hds (x:=vl) rfl (wpAny_bind (wpAny_field hos hds (x:=vu) rfl (wpAny_bind (wpAny_field hos hds (x:=.none) rfl (wpAny_pure ?_)))))));refine wpAny_bind (slicePart_none ?_);show wpAny _ _ (if ((1:Int)==0)=true then _ else _) _ _ s;rw[if_neg (by decide)];refine wpAny_bind (qjez pl (wpAny_bind (qjez pu (wpAny_bind (wpAny_pure ?_)))));show wpAny _ _ (match Builtin.Slice.sliceAdjust lo hi 1 (n:Int) with|(lo,hi)=>pure (lo,(1:Int),Builtin.Slice.slicePlaces lo hi 1)) _ _ s
 rw[qrmz lo hi n];show wpAny _ _ (pure (((sIx n 0 lo:Nat):Int),(1:Int),Builtin.Slice.slicePlaces ((sIx n 0 lo:Nat):Int) ((sIx n n hi:Nat):Int) 1)) _ _ s;rw[qrnz];exact wpAny_pure h
theorem qroz(xs:Array Value)(i k:Nat):((List.range k).filterMap fun (m:Nat)=>xs[((i:Int)+(m:Int)*1).toNat]?).toArray=((xs.toList.drop i).take k).toArray:=by
 have e:(fun (m:Nat)=>xs[((i:Int)+(m:Int)*1).toNat]?)=fun m=>xs[i+m]?:=by
  funext m;have:((i:Int)+(m:Int)*1).toNat=i+m:=by lia
  rw[this]
 rw[e];have:=pick_run xs i k;rw[List.filterMap_map] at this;have e2:((fun x=>xs[x]?) ∘ fun x=>i+x)=fun m=>xs[i+m]?:=rfl;rw[e2] at this;rw[this]
theorem getItem_tuple_cut{t sl:Addr}{items:Array Value}{vl vu:Value}{lo hi:Option Int}{Q:Value->Shared->Prop}(ht:IsTup s.heap t items)(hs:s.heap.IsSliceOf sl vl vu .none)(pl:IsPart vl lo)(pu:IsPart vu hi)
  (hw:¬(sIx items.size 0 lo=0/\sIx items.size items.size hi=items.size))
  (h:Q (.ref s.heap.objs.size) { s with heap:=s.heap.push { cls:=.type "tuple",data:=.seq ((items.toList.drop (sIx items.size 0 lo)).take (sIx items.size items.size hi-sIx items.size 0 lo)).toArray }})
  (hsz:items.size≤sizeLine):wpAny (model prog w) A (getItem (.ref t) (.ref sl)) Q E s:=by
 have htake:sizeOk (.seq ((items.toList.drop (sIx items.size 0 lo)).take (sIx items.size items.size hi-sIx items.size 0 lo)).toArray):=by
  show ((items.toList.drop (sIx items.size 0 lo)).take (sIx items.size items.size hi-sIx items.size 0 lo)).toArray.size≤sizeLine;rw[List.size_toArray,List.length_take,List.length_drop,Array.length_toList];lia
 have hj:sIx items.size items.size hi≤items.size:=qrlz _ _ (Nat.le_refl _) hi;obtain⟨os,hos,hcs,hds⟩:=id hs;have hTs:s.TypeIs (.ref sl) "slice":=⟨os,hos,hcs⟩;unfold getItem
 try with_reducible refine wpAny_holding ?_
 first|refine wpAny_bind (wpAny_pure ?_)|skip
 refine wpAny_bind (wpAny_sequenceKey ht.typeIs (by decide) ?_);refine wpAny_bind (wpAny_callSpecial?_slot (name:=Str.ofString "__getitem__") ht.typeIs PyProof.Rows.slot_tuple_getitem
  (wpAny_call_entry PyProof.Rows.slot_tuple_getitem ht.typeIs entry_tuple_getitem ?_ (args_tuple_getitem _ _)))
 show wpAny _ _ (Builtin.Tuple.tupleItemsOf (.ref t) >>= _) _ _ s;refine wpAny_bind (tupleItemsOf_ ht ?_);refine wpAny_bind (wpAny_typeOf hTs ?_);rw[if_pos (by decide)];refine wpAny_bind (sliceApplied_gen hs pl pu ?_);have hno:¬((((sIx items.size 0 lo:Nat):Int)==0&&(1:Int)==1&&(sIx items.size items.size hi-sIx items.size 0 lo)==items.size)=true):=by
  intro q;rw[Bool.and_eq_true,Bool.and_eq_true] at q;have q1:((sIx items.size 0 lo:Nat):Int)=0:=eq_of_beq q.1.1;have q2:sIx items.size items.size hi-sIx items.size 0 lo=items.size:=eq_of_beq q.2;exact hw ⟨by lia,by lia⟩
 show wpAny _ _ (if (((sIx items.size 0 lo:Nat):Int)==0&&(1:Int)==1&&(sIx items.size items.size hi-sIx items.size 0 lo)==items.size)=true then _ else _) _ _ s;rw[if_neg hno,qroz]
 first
  |exact wpAny_bind (m:=Builtin.Tuple.tupleExact _) (wpAny_newObj_type (wpAny_pure ⟨_,rfl,wpAny_pure h⟩) htake)
  |exact wpAny_bind (m:=Builtin.Tuple.tupleExact _) (wpAny_newObj_type (wpAny_bind (wpAny_pure (wpAny_pure ⟨_,rfl,wpAny_pure h⟩))) htake)
  |exact wpAny_bind (wpAny_bind (m:=Builtin.Tuple.tupleExact _) (wpAny_newObj_type (wpAny_pure (wpAny_pure ⟨_,rfl,wpAny_pure h⟩)) htake))
  |exact wpAny_bind (wpAny_bind (m:=Builtin.Tuple.tupleExact _) (wpAny_newObj_type (wpAny_pure ⟨_,rfl,wpAny_pure h⟩) htake))
end
end HT
namespace L2
open PySem PySem.Spec PyProof.Rows
abbrev TO:=St->Hp->(Option Int->Hp->Prop)->Prop
def PO(X:Cx)(e:Option Expr)(t:TO):Prop:=
 ∀(pins:List (Addr×Obj)) (s:Shared) (σ:St) (H:Hp) (Q:Option Int->Hp->Prop),Inv X pins σ H s->t σ H Q ->
  wpAny (model X.prog X.w) X.A (evalPart e X.env) (fun u s'=>∃o H',Inv X pins σ H' s'/\IsPart u o/\Q o H') X.xe s
def tNoPart:TO:=fun _ H Q=>Q none H
def tPart(t:TE):TO:=fun σ H Q=>t σ H fun x H1=>∃i,x=.int i/\Q (some i) H1
theorem intsAre_of{ns:List Int}:∀{us:List Value},Vals (ns.map V.int) us->IntsAre us ns:=by
 induction ns with
 |nil=>intro us r;rw[List.map_nil] at r;cases r;exact .nil
 |cons n ns ih=>
  intro us r;rw[List.map_cons] at r;cases r with
  |cons r1 r2=>
   obtain⟨t,e⟩:=r1;subst e;exact .cons n t (ih r2)
section
variable {X:Cx} {e:Expr} {te:TE} {lo hi:Option Expr} {tl th:TO} {pos p2:Pos}
theorem qrpz:PO X none tNoPart:=by
 intro pins s σ H Q I h;rw[evalPart_none];exact wpAny_pure ⟨none,H,I,.none,h⟩
theorem qrqz(h:PE X e te):PO X (some e) (tPart te):=by
 intro pins s σ H Q I hw;rw[evalPart_some];refine thn (h pins s σ H _ I hw) fun u s1 ⟨x,H1,I1,r1,q1⟩=>?_;obtain⟨i,rfl,q⟩:=q1;obtain⟨t,rfl⟩:=r1;exact⟨some i,H1,I1,.int i t,q⟩
def SlR(X:Cx)(r:V->Option Int->Option Int->Hp->VK->Prop):Prop:=
 ∀(pins:List (Addr×Obj)) (s:Shared) (σ:St) (H:Hp) (x:V) (v vl vu:Value) (lo hi:Option Int) (sl:Addr) (Q:VK),Inv X pins σ H s->RelV x v->s.heap.IsSliceOf sl vl vu .none->IsPart vl lo->IsPart vu hi->r x lo hi H Q ->
  ∃T id,typeLookup (.type T) "__getitem__" = pure (some (.builtin id))/\s.TypeIs v T/\wpAny (model X.prog X.w) X.A (getItem v (.ref sl)) (EP X pins σ Q) X.xe s
theorem SlR.or{r r':V->Option Int->Option Int->Hp->VK->Prop}(h:SlR X r)(h':SlR X r'):SlR X (fun x lo hi H Q=>r x lo hi H Q∨r' x lo hi H Q):=by
 intro pins s σ H x v vl vu lo hi sl Q I rx hs pl pu q;rcases q with q|q
 ·exact h pins s σ H x v vl vu lo hi sl Q I rx hs pl pu q
 ·exact h' pins s σ H x v vl vu lo hi sl Q I rx hs pl pu q
def tSl(r:V->Option Int->Option Int->Hp->VK->Prop)(te:TE)(tl th:TO):TE:=fun σ H Q=>te σ H fun x H1=>tl σ H1 fun l H2=>th σ H2 fun u H3=>r x l u H3 Q
theorem qrrz{r:V->Option Int->Option Int->Hp->VK->Prop}(hr:SlR X r)(he:PE X e te)(hl:PO X lo tl)(hu:PO X hi th):PE X (.Subscript e (.Slice lo hi none p2) pos) (tSl r te tl th):=by
 intro pins s σ H Q I h;refine Subscript_ (thn (he pins s σ H _ I h) fun v s1 ⟨x,H1,I1,r1,q1⟩=>?_);refine wpAny_Slice (thn (hl pins s1 σ H1 _ I1 q1) fun vl s2 ⟨l,H2,I2,pl,q2⟩=>thn (hu pins s2 σ H2 _ I2 q2) fun vu s3 ⟨u,H3,I3,pu,q3⟩=>?_);rw[evalPart_none];refine wpAny_pure ?_;have I4:Inv X pins σ H3 { s3 with heap:=s3.heap.push { cls:=.type "slice",data:=.fields #[vl,vu,.none]}}:=I3.kept (t':=s3.toks) fun b ob q=>Heap.get?_push_of_some _ q;obtain⟨T,id,hT,ht,hg⟩:=hr pins { s3 with heap:=s3.heap.push { cls:=.type "slice",data:=.fields #[vl,vu,.none]}} σ H3 x v vl vu l u s3.heap.objs.size Q I4 r1 (Heap.IsSliceOf.new ..) pl pu q3;show wpAny (model X.prog X.w) X.A (subscriptTail e (.Slice lo hi none p2) v (.ref s3.heap.objs.size)) (EP X pins σ Q) X.xe { s3 with heap:=s3.heap.push { cls:=.type "slice",data:=.fields #[vl,vu,.none]}};exact tail_any (ops:=[.ref s3.heap.objs.size,v]) ht hT hg (by with_unfolding_all rfl)
def cutV(xs:List V)(lo hi:Option Int):List V:=(xs.drop (HT.sIx xs.length 0 lo)).take (HT.sIx xs.length xs.length hi-HT.sIx xs.length 0 lo)
theorem qjfz(xs:List V)(lo hi:Option Int):(cutV xs lo hi).length≤xs.length:=by
 unfold cutV;rw[List.length_take,List.length_drop];lia
def rSlT(K:PySem.W.Frag):V->Option Int->Option Int->Hp->VK->Prop:=fun x lo hi H Q=>∃a xs,x=.ref a/\SqT K H a xs ∧
 ¬(HT.sIx xs.length 0 lo=0/\HT.sIx xs.length xs.length hi=xs.length)/\∀p,H p=none->Q (.ref p) (upd H p (.tup (cutV xs lo hi)))
theorem sl_tup:SlR X (rSlT X.K):=by
 intro pins s σ H x v vl vu lo hi sl Q I rx hs pl pu h;obtain⟨a,xs,rfl,hx,hw,q⟩:=h;cases rx;obtain⟨its,r,ht,hz⟩:=I.tuple hx;have hlen:its.toArray.size=xs.length:=by rw[List.size_toArray];exact r.length.symm
 refine⟨"tuple",_,PyProof.Rows.slot_tuple_getitem.lookup,ht.typeIs,?_⟩;refine HT.getItem_tuple_cut ht hs pl pu (by rw[hlen];exact hw) ?_ (by rw[hlen];exact hz);rw[hlen];refine⟨.ref s.heap.objs.size,_,I.laid (t':=s.toks) (o:=.tup (cutV xs lo hi)) (fun b ob q=>Heap.get?_push_of_some _ q) (Nat.le_refl _) ?_,rfl,q _ (I.hok.fresh (Nat.le_refl _))⟩;exact⟨Nat.le_trans (qjfz xs lo hi) hz,_,(r.drop (HT.sIx xs.length 0 lo)).take (HT.sIx xs.length xs.length hi-HT.sIx xs.length 0 lo),IsTup.new _ _⟩
def rLtT(K:PySem.W.Frag):R2:=fun x y H Q=>∃a b ns ms,x=.ref a/\y=.ref b/\SqT K H a (ns.map V.int)/\SqT K H b (ms.map V.int)/\Q (.bl (HT.lexLt ns ms)) H
theorem qrsz(hu:X.A.units<cLine):OpR X (compareOp .Lt) (rLtT X.K):=by
 intro pins s σ H x y v u Q I rx ry h;obtain⟨a,b,ns,ms,rfl,rfl,ha,hb,q⟩:=h;cases rx;cases ry;obtain⟨its,r1,p1,_⟩:=I.tuple ha;obtain⟨its2,r2,p2,_⟩:=I.tuple hb;have i1:IntsAre its.toArray.toList ns:=intsAre_of r1;have i2:IntsAre its2.toArray.toList ms:=intsAre_of r2;exact HT.lt_tupInts p1 p2 i1 i2 hu ⟨.bl (HT.lexLt ns ms),H,I,rfl,q⟩
def rCatT(K:PySem.W.Frag):R2:=fun x y H Q=>∃a b xs ys,x=.ref a/\y=.ref b/\SqT K H a xs/\SqT K H b ys/\xs≠[]/\xs.length+ys.length≤sizeLine ∧
 (ys=[]->Q (.ref a) H)/\(ys≠[]->∀p,H p=none->Q (.ref p) (upd H p (.tup (xs++ys))))
theorem Vals.nil_iff{xs:List V}{us:List Value}(r:Vals xs us):us=[]↔xs=[]:=by
 cases r with
 |nil=>simp
 |cons _ _=>simp
theorem op_catT:OpR X (binaryOp .Add) (rCatT X.K):=by
 intro pins s σ H x y v u Q I rx ry h;obtain⟨a,b,xs,ys,rfl,rfl,ha,hb,hx,hz,q1,q2⟩:=h;cases rx;cases ry;obtain⟨its,r1,p1,_⟩:=I.tuple ha;obtain⟨its2,r2,p2,_⟩:=I.tuple hb;refine HT.cat_tup p1 p2 (fun z=>hx (r1.nil_iff.mp z)) (fun z=>⟨.ref a,H,I,rfl,q1 (r2.nil_iff.mp z)⟩) (fun z=>?_) (by rw[←r1.length,←r2.length];exact hz);refine⟨.ref s.heap.objs.size,_,I.laid (t':=s.toks) (o:=.tup (xs++ys)) (fun b ob q=>Heap.get?_push_of_some _ q) (Nat.le_refl _) ?_,rfl,q2 (fun w=>z (r2.nil_iff.mpr w)) _ (I.hok.fresh (Nat.le_refl _))⟩;exact⟨by rw[List.length_append];exact hz,_,r1.append r2,IsTup.new _ _⟩
end
end L2
namespace L2
open PySem PySem.Spec PyProof.Rows
def ixN(n:Nat)(i:Int):Option Nat:=if 0≤i then (if i<n then some i.toNat else none) else if -(n:Int)≤i then some (i+n).toNat else none
def atI{α:Type}(xs:List α)(i:Int):Option α:=(ixN xs.length i).bind fun j=>xs[j]?
theorem qjgz{n:Nat}{i:Int}{j:Nat}(h:ixN n i=some j):seqIndex? i n=some j/\j<n/\-(n:Int)≤i/\i<n:=by
 unfold ixN at h;by_cases h0:0≤i
 ·rw[if_pos h0] at h;by_cases h1:i<n
  ·rw[if_pos h1] at h;have e:i.toNat=j:=Option.some.inj h;exact⟨by rw[seqIndex_of h0 h1,e],by lia,by lia,h1⟩
  ·rw[if_neg h1] at h;cases h
 ·rw[if_neg h0] at h;by_cases h1:-(n:Int)≤i
  ·rw[if_pos h1] at h;have e:(i+n).toNat=j:=Option.some.inj h;exact⟨by rw[seqIndex_neg (by lia) h1,e],by lia,h1,by lia⟩
  ·rw[if_neg h1] at h;cases h
theorem qefz{α:Type}{xs:List α}{i:Int}{v:α}(h:atI xs i=some v):∃j,seqIndex? i xs.length=some j/\xs[j]?=some v/\j<xs.length/\-(xs.length:Int)≤i/\i<xs.length:=by
 unfold atI at h;cases e:ixN xs.length i with
 |none=>rw[e] at h;cases h
 |some j=>
  rw[e] at h;obtain⟨h1,h2,h3,h4⟩:=qjgz e;exact⟨j,h1,h,h2,h3,h4⟩
theorem qbpz{α:Type}{xs:List α}{j:Nat}{v:α}(h:xs[j]?=some v):atI xs (j:Int)=some v:=by
 have hj:j<xs.length:=(List.getElem?_eq_some_iff.mp h).1;have e:ixN xs.length (j:Int)=some j:=by
  unfold ixN;rw[if_pos (by lia),if_pos (by lia)];simp
 unfold atI;rw[e];exact h
def PlainIx(b:Expr):Prop:=∀o i,subscripted b false o i=operate [o,i] (getItem o i)
def IxR(X:Cx)(r:R2):Prop:=
 ∀(value slice:Expr) (pins:List (Addr×Obj)) (s:Shared) (σ:St) (H:Hp) (x y:V) (v u:Value) (Q:VK),Inv X pins σ H s->RelV x v->RelV y u->r x y H Q ->
  subscripted slice false v u=operate [v,u] (getItem v u)->wpAny (model X.prog X.w) X.A (subscriptTail value slice v u) (EP X pins σ Q) X.xe s
def MtR(X:Cx)(id:String)(r:V->List V->Hp->VK->Prop):Prop:=
 ∀(pins:List (Addr×Obj)) (s:Shared) (σ:St) (H:Hp) (x:V) (xs:List V) (v:Value) (us:List Value) (Q:VK),Inv X pins σ H s->RelV x v->Vals xs us->r x xs H Q ->
  wpAny (model X.prog X.w) X.A (call (.builtin id) (v::us)) (EP X pins σ Q) X.xe s
section
variable {X:Cx} {a b:Expr} {ta tb:TE} {pos:Pos}
theorem IxR.or{r r':R2}(h:IxR X r)(h':IxR X r'):IxR X (fun x y H Q=>r x y H Q∨r' x y H Q):=by
 intro value slice pins s σ H x y v u Q I rx ry q hs;rcases q with q|q
 ·exact h value slice pins s σ H x y v u Q I rx ry q hs
 ·exact h' value slice pins s σ H x y v u Q I rx ry q hs
theorem qjhz{r:R2}(hr:IxR X r)(ha:PE X a ta)(hb:PE X b tb)(hs:PlainIx b):PE X (.Subscript a b pos) (tOp r ta tb):=by
 intro pins s σ H Q I h;exact Subscript_ (binT ha hb I h fun v u s2 x y H2 I2 rx ry q=>hr a b pins s2 σ H2 x y v u Q I2 rx ry q (hs _ _))
def rIxL(K:PySem.W.Frag):R2:=fun x y H Q=>∃p xs i v,x=.ref p/\y=.int i/\SqL K H p xs/\atI xs i=some v/\Q v H
def rIxT(K:PySem.W.Frag):R2:=fun x y H Q=>∃p xs i v,x=.ref p/\y=.int i/\SqT K H p xs/\atI xs i=some v/\Q v H
def rIxS:R2:=fun x y H Q=>∃z i c,x=.str z/\y=.int i/\z.length≤sizeLine/\atI z.cps.toList i=some c/\Q (.str ⟨#[c]⟩) H
theorem ix_list:IxR X (rIxL X.K):=by
 intro value slice pins s σ H x y v u Q I rx ry h hs;obtain⟨p,xs,i,z,rfl,rfl,hq,he,q⟩:=h;cases rx;obtain⟨t,rfl⟩:=ry;obtain⟨its,r,pl,hz⟩:=I.list hq;obtain⟨j,h1,h2,h3,h4,h5⟩:=qefz he;obtain⟨w,ew,rw'⟩:=r.get h2;have hl:=r.length;have hn:=line63;have fin:EP X pins σ Q w s:=⟨z,H,I,rw',q⟩;by_cases h0:0≤i
 ·have hj:i.toNat=j:=by
   rw[seqIndex_of h0 h5] at h1;exact Option.some.inj h1
  exact item_listR pl.isList h0 (by lia) (by rw[hj];simpa using ew) fin hs
 ·have hj:(i+(its.toArray.size:Int)).toNat=j:=by
   rw[seqIndex_neg (by lia) h4] at h1;rw[List.size_toArray,←hl];exact Option.some.inj h1
  exact subscriptTail_builtinR (x:=w) pl.isList.typeIs slot_list_getitem.lookup
   (wpAny_getItem_list_neg (Q:=fun r s'=>r=w/\EP X pins σ Q r s') pl.isList (by lia) (by rw[List.size_toArray]<;>lia) (by lia) (by rw[hj];simpa using ew) ⟨rfl,fin⟩) hs
theorem ix_tup:IxR X (rIxT X.K):=by
 intro value slice pins s σ H x y v u Q I rx ry h hs;obtain⟨p,xs,i,z,rfl,rfl,hq,he,q⟩:=h;cases rx;obtain⟨t,rfl⟩:=ry;obtain⟨its,r,pl,hz⟩:=I.tuple hq;obtain⟨j,h1,h2,h3,h4,h5⟩:=qefz he;obtain⟨w,ew,rw'⟩:=r.get h2;have hl:=r.length;have hn:=line63;have fin:EP X pins σ Q w s:=⟨z,H,I,rw',q⟩;exact subscriptTail_builtinR (x:=w) pl.typeIs slot_tuple_getitem.lookup
  (getItem_tuple (j:=j) (Q:=fun r s'=>r=w/\EP X pins σ Q r s') pl (by lia) (by lia) (by rw[List.size_toArray,←hl];exact h1) (by simpa using ew) ⟨rfl,fin⟩) hs
theorem qrtz:IxR X rIxS:=by
 intro value slice pins s σ H x y v u Q I rx ry h hs;obtain⟨z,i,c,rfl,rfl,hz,he,q⟩:=h;obtain⟨t,rfl⟩:=rx;obtain⟨t',rfl⟩:=ry;obtain⟨j,h1,h2,h3,h4,h5⟩:=qefz he;have hl:z.cps.toList.length=z.length:=by simp[Str.length]
 rw[hl] at h1 h4 h5;have hn:=line63;exact tail_any (typeIs_str s z t) slot_str_getitem.lookup (getItem_str (c:=c) (by
  have e1:decide (i < -(2^63:Int))=false:=decide_eq_false (by lia);have e2:decide (i≥2^63)=false:=decide_eq_false (by lia);rw[e1,e2,Bool.or_false]) (by rw[h1];simpa using h2) ⟨.str ⟨#[c]⟩,H,I.tok _,⟨_,rfl⟩,q⟩) hs
def rIx(K:PySem.W.Frag):R2:=fun x y H Q=>rIxL K x y H Q∨rIxT K x y H Q∨rIxS x y H Q
theorem qjiz:IxR X (rIx X.K):=ix_list.or (ix_tup.or qrtz)
theorem qruz(its:List Value)(n j:Nat)(u:Value):Obj.mapSeq (·.setIfInBounds j u) { cls:=.type "list",data:=.seq its.toArray n }={ cls:=.type "list",data:=.seq (its.set j u).toArray n }:=by
 simp[Obj.mapSeq]
theorem Inv.lst{pins:List (Addr×Obj)}{σ:St}{H:Hp}{s:Shared}{p:Addr}{xs:List V}(I:Inv X pins σ H s)(h:H p=some (.lst xs)):
  ∃(its:List Value) (n:Nat),Vals xs its/\s.heap.get? p=some { cls:=.type "list",data:=.seq its.toArray n }/\xs.length≤sizeLine:=by
 obtain⟨z,its,n,r,e⟩:=I.hok p _ h;exact⟨its,n,r,e,z⟩
theorem Inv.lstUpd{pins:List (Addr×Obj)}{σ:St}{H:Hp}{s:Shared}{p:Addr}{xs ys:List V}{its its':List Value}{n n':Nat}{f:Obj->Obj}(I:Inv X pins σ H s)(h:H p=some (.lst xs))
  (ho:s.heap.get? p=some { cls:=.type "list",data:=.seq its.toArray n }) (hf:f { cls:=.type "list",data:=.seq its.toArray n }={ cls:=.type "list",data:=.seq its'.toArray n' }) (r:Vals ys its') (hz:ys.length≤sizeLine) (t:Nat):
  Inv X pins σ (upd H p (.lst ys)) { s with heap:=s.heap.update p f,toks:=t }:=by
 have e:(s.heap.update p f).get? p=some { cls:=.type "list",data:=.seq its'.toArray n' }:=by
  rw[Heap.get?_update_self f ho (by rw[hf]<;>rfl),hf]
 refine I.write (x:=p) (e:=p) (by rw[h];trivial) (.inl rfl) (fun b u hb q=>(Heap.get?_update_other _ _ (Ne.symm hb)).trans q) ⟨_,e⟩ ?_;exact⟨hz,its',n',r,e⟩
def rSetL:V->V->V->Hp->(Hp->Prop)->Prop:=fun o i v H Q=>∃p xs k j,o=.ref p/\i=.int k/\H p=some (.lst xs)/\ixN xs.length k=some j/\Q (upd H p (.lst (xs.set j v)))
theorem set_list:PSet X rSetL:=by
 intro pins s σ H o i v ov iv u Q I ro ri rv h;obtain⟨p,xs,k,j,rfl,rfl,hp,hj,q⟩:=h;cases ro;obtain⟨t,rfl⟩:=ri;obtain⟨its,n,r,ho,hz⟩:=I.lst hp;obtain⟨h1,h2,h3,h4⟩:=qjgz hj;have hl:=r.length;have hn:=line63;have I':Inv X pins σ (upd H p (.lst (xs.set j v))) { s with heap:=s.heap.update p (Obj.mapSeq (·.setIfInBounds j u))}:=
  I.lstUpd hp ho (qruz its n j u) (r.set rv j) (by rw[List.length_set];exact hz) s.toks
 by_cases h0:0≤k
 ·have hk:k.toNat=j:=by
   rw[seqIndex_of h0 h4] at h1;exact Option.some.inj h1
  exact PySem.W.ki_setAt ho h0 (by lia) (by rw[List.size_toArray,←hl];exact h4) (by rw[hk];exact⟨_,I',q⟩)
 ·have hk:(k+(its.toArray.size:Int)).toNat=j:=by
   rw[seqIndex_neg (by lia) h3] at h1;rw[List.size_toArray,←hl];exact Option.some.inj h1
  exact PySem.W.ki_setBack ho (by lia) (by rw[List.size_toArray,←hl];exact h3) (by lia) (by rw[hk];exact⟨_,I',q⟩)
theorem qrvz(lo hi:Option Int)(n:Nat):(sliceBounds lo hi none n).1=((HT.sIx n 0 lo:Nat):Int)/\(sliceBounds lo hi none n).2.1=((HT.sIx n n hi:Nat):Int)/\(sliceBounds lo hi none n).2.2=1:=by
 refine⟨?_,?_,rfl⟩
 ·cases lo with
  |none=>simp[sliceBounds,HT.sIx]
  |some i=>
   simp only[sliceBounds,HT.sIx,Option.getD_none,show (1:Int) > 0 by decide,if_true];by_cases h:i<0
   ·simp only[h,if_true]<;>lia
   ·simp only[h,if_false]<;>lia
 ·cases hi with
  |none=>simp[sliceBounds,HT.sIx]
  |some i=>
   simp only[sliceBounds,HT.sIx,Option.getD_none,show (1:Int) > 0 by decide,if_true];by_cases h:i<0
   ·simp only[h,if_true]<;>lia
   ·simp only[h,if_false]<;>lia
theorem qrwz(its:List Value)(lo hi:Option Int):slicePick its.toArray lo hi none=((its.drop (HT.sIx its.length 0 lo)).take (HT.sIx its.length its.length hi-HT.sIx its.length 0 lo)).toArray:=by
 obtain⟨h1,h2,h3⟩:=qrvz lo hi its.toArray.size;unfold slicePick;rw[h1,h2,h3];simp only[sliceRange_one,pick_run,List.size_toArray]<;>rfl
def rSlL(K:PySem.W.Frag):V->Option Int->Option Int->Hp->VK->Prop:=fun x lo hi H Q=>∃a xs,x=.ref a/\SqL K H a xs/\∀p,H p=none->Q (.ref p) (upd H p (.lst (cutV xs lo hi)))
theorem qrxz:SlR X (rSlL X.K):=by
 intro pins s σ H x v vl vu lo hi sl Q I rx hs pl pu h;obtain⟨a,xs,rfl,hx,q⟩:=h;cases rx;obtain⟨its,r,ht,hz⟩:=I.list hx;have hlen:=r.length;refine⟨"list",_,slot_list_getitem.lookup,ht.isList.typeIs,?_⟩;refine wpAny_getItem_list_slice ht.isList hs pl pu .none (by simp) ?_ (by rw[List.size_toArray]<;>lia)
 rw[qrwz,←hlen];refine⟨.ref s.heap.objs.size,_,I.laid (t':=s.toks) (o:=.lst (cutV xs lo hi)) (fun b ob q=>Heap.get?_push_of_some _ q) (Nat.le_refl _) ?_,rfl,q _ (I.hok.fresh (Nat.le_refl _))⟩;exact⟨Nat.le_trans (qjfz xs lo hi) hz,_,0,(r.drop (HT.sIx xs.length 0 lo)).take (HT.sIx xs.length xs.length hi-HT.sIx xs.length 0 lo),Heap.get?_push_size _ rfl⟩
theorem qryz:CallR X (.builtin "len") (fun xs H Q=>∃p ys,xs=[.ref p]/\(SqL X.K H p ys∨SqT X.K H p ys)/\Q (.int ys.length) H):=by
 intro pins s σ H xs us Q I r h;obtain⟨p,ys,rfl,hq,q⟩:=h;obtain⟨u,rfl,rx⟩:=vals1 r;cases rx;have hn:=line63;rcases hq with hq|hq
 ·obtain⟨its,r',pl,hz⟩:=I.list hq;have hlen:=r'.length;exact Calls.call_len_list pl.isList (by simp only[List.size_toArray]<;>lia) ⟨.int ys.length,H,I.tok _,⟨s.toks+1,by rw[List.size_toArray,hlen]⟩,q⟩
 ·obtain⟨its,r',pl,hz⟩:=I.tuple hq;have hlen:=r'.length;exact len_tuple pl (by simp only[List.size_toArray]<;>lia) ⟨.int ys.length,H,I.tok _,⟨s.toks+1,by rw[List.size_toArray,hlen]⟩,q⟩
theorem qrzz:CallR X (.type "list") (fun xs H Q=>∃p ys,xs=[.ref p]/\(SqL X.K H p ys∨SqT X.K H p ys)/\∀l,H l=none->Q (.ref l) (upd H l (.lst ys))):=by
 intro pins s σ H xs us Q I r h;obtain⟨p,ys,rfl,hq,q⟩:=h;obtain⟨u,rfl,rx⟩:=vals1 r;cases rx;have fin:∀(its:List Value),Vals ys its->ys.length≤sizeLine->∀(h':Heap) (c':Nat),(∀b o',s.heap.get? b=some o'->h'.get? b=some o') ->
   h'.get? s.heap.objs.size=some { cls:=.type "list",dict:=none,data:=.seq its.toArray c',slots:=#[]}->EP X pins σ Q (.ref s.heap.objs.size) { s with heap:=h' }:=fun its r' hz h' c' kp e=>
  ⟨.ref s.heap.objs.size,_,I.laid (t':=s.toks) kp (Nat.le_refl _) (show ObjOk X.prog X.w _ h' _ (.lst ys) from⟨hz,its,c',r',e⟩),rfl,q _ (I.hok.fresh (Nat.le_refl _))⟩
 rcases hq with hq|hq
 ·obtain⟨its,r',pl,hz⟩:=I.list hq;have hlen:=r'.length;obtain⟨o,ho,hc,n,hd⟩:=pl.isList;exact call_list_seq p (.inl rfl) ho hc hd (fun h' c' kp e=>fin its r' hz h' c' kp e) (by simp only[List.size_toArray]<;>lia)
 ·obtain⟨its,r',pl,hz⟩:=I.tuple hq;have hlen:=r'.length;obtain⟨o,ho,hc,n,hd⟩:=pl;exact call_list_seq p (.inr rfl) ho hc hd (fun h' c' kp e=>fin its r' hz h' c' kp e) (by simp only[List.size_toArray]<;>lia)
theorem qr0z:CallR X (.type "tuple") (fun xs H Q=>∃p ys,xs=[.ref p]/\((SqL X.K H p ys/\∀l,H l=none->Q (.ref l) (upd H l (.tup ys)))∨(SqT X.K H p ys/\Q (.ref p) H))):=by
 intro pins s σ H xs us Q I r h;obtain⟨p,ys,rfl,h⟩:=h;obtain⟨u,rfl,rx⟩:=vals1 r;cases rx;rcases h with⟨hq,q⟩|⟨hq,q⟩
 ·obtain⟨its,r',pl,hz⟩:=I.list hq;have hlen:=r'.length;refine call_tuple_list pl.isList (fun h' kp=>?_) (by simp only[List.size_toArray]<;>lia)
  have I1:Inv X pins σ H { s with heap:=h' }:=I.kept (t':=s.toks) kp;have I2:Inv X pins σ (upd H h'.objs.size (.tup ys)) { s with heap:=h'.push { cls:=.type "tuple",data:=.seq its.toArray }}:=
   I1.laid (t':=s.toks) (fun b o e=>Heap.get?_push_of_some _ e) (Nat.le_refl _) (show ObjOk X.prog X.w _ _ _ (.tup ys) from⟨hz,its,r',IsTup.new _ _⟩)
  exact⟨.ref h'.objs.size,_,I2,rfl,q _ (I1.hok.fresh (Nat.le_refl _))⟩
 ·obtain⟨its,r',pl,hz⟩:=I.tuple hq;exact call_tuple_same pl ⟨.ref p,H,I,rfl,q⟩
def tyV(K:PySem.W.Frag)(T:String)(x:V)(H:Hp):Prop:=match x with
 |.str _=>T="str"
 |.int _=>T="int"
 |.ref p=>(T="list"/\∃xs,SqL K H p xs)∨(T="tuple"/\∃o,K.lookup p=some o/\o.cls=.type "tuple"/\o.dict=none) ∨
   (T="dict"/\((∃kvs,H p=some (.dK kvs))∨∃kvs,H p=some (.dT kvs)))∨(T="set"/\∃S n,H p=some (.set S n))
 |_=>False
theorem qr1z{pins:List (Addr×Obj)}{σ:St}{H:Hp}{s:Shared}{T:String}{x:V}{v:Value}(I:Inv X pins σ H s)(r:RelV x v)(ty:tyV X.K T x H):
  s.TypeIs v T/\∀a,v=.ref a->∃ob,s.heap.get? a=some ob/\ob.dict=none:=by
 cases x with
 |str z=>
  obtain⟨t,rfl⟩:=r;cases (show T="str" from ty);exact⟨typeIs_str s z t,fun _ e=>nomatch e⟩
 |int i=>
  obtain⟨t,rfl⟩:=r;cases (show T="int" from ty);exact⟨typeIs_int s i t,fun _ e=>nomatch e⟩
 |ref p=>
  cases r;rcases ty with⟨rfl,xs,hq⟩|⟨rfl,o,hk,hc,hd⟩|⟨rfl,hk⟩|⟨rfl,S,n,hk⟩
  ·obtain⟨its,_,pl,_⟩:=I.list hq;refine⟨pl.isList.typeIs,fun a e=>?_⟩;cases e;obtain⟨o,n,e,c,hd,_⟩:=pl;exact⟨o,e,hd⟩
  ·refine⟨⟨o,I.kIn p o hk,hc⟩,fun a e=>?_⟩;cases e;exact⟨o,I.kIn _ o hk,hd⟩
  ·have z:∃o,s.heap.get? p=some o/\o.ExactDict:=by
    rcases hk with⟨kvs,hk⟩|⟨kvs,hk⟩
    ·obtain⟨_,_,_,_,o,_,_,e,ex,_⟩:=I.hok p _ hk;exact⟨o,e,ex⟩
    ·obtain⟨_,_,_,_,o,_,_,e,ex,_⟩:=I.hok p _ hk;exact⟨o,e,ex⟩
   obtain⟨o,e,ex⟩:=z;refine⟨⟨o,e,ex.1⟩,fun a e2=>?_⟩;cases e2;exact⟨o,e,ex.2.1⟩
  ·obtain⟨o,_,_,_,e,ex,_⟩:=I.hok p _ hk;refine⟨⟨o,e,ex.1⟩,fun a e2=>?_⟩;cases e2;exact⟨o,e,ex.2.1⟩
 |_=>exact False.elim ty
def tBM(K:PySem.W.Frag)(T:String)(r:V->List V->Hp->VK->Prop)(to:TE)(t:TA):TE:=fun σ H Q=>to σ H fun x H1=>tyV K T x H1/\t σ H1 fun xs H2=>r x xs H2 Q
variable {o e:Expr} {es:List Expr} {to:TE} {t:TA} {name:Str} {apos cpos:Pos} {T id:String} {r:V->List V->Hp->VK->Prop}
theorem qr2z(pa:PlainAttrs T)(slot:Slot T name id)(hty:typeOf (.builtin id)=pure (.type "method_descriptor"))(hm:MtR X id r)(ho:PE X o to)(ha:PA X (e::es) t)
  (hbase:attributeBase o name X.env (eval o X.env)=eval o X.env:=by rfl)
  (hfew:((backTo cpos (starEach (e::es) X.env)).all (fun x=>!x.1)&&(backToKw cpos (keywordEach [] X.env)).all (fun x=>x.1.isSome)
   && decide ((e::es).length+([]:List Keyword).length+(if ([]:List Keyword).isEmpty then 0 else 1)<30))=true:=by rfl)
  (hline:(apos.endLine==cpos.line)=true:=by rfl) (hs:starEach (e::es) X.env=(false,eval e X.env)::starEach es X.env:=by rfl) (hplain:(backTo cpos (starEach es X.env)).any (·.1)=false:=by rfl):
  PE X (.Call (.Attribute o name apos) (e::es) [] cpos) (tBM X.K T r to t):=by
 intro pins s σ H Q I h;refine wpAny_Call_method_late hbase hfew hline rfl (thn (ho pins s σ H _ I h) fun v s1 ⟨x,H1,I1,r1,ty,q1⟩=>?_);obtain⟨h1,h2⟩:=qr1z I1 r1 ty;refine⟨T,id,pa,slot,hty,h1,h2,?_⟩;have hA:=ha cpos pins s1 σ H1 _ I1 q1;rw[hs] at hA ⊢;refine Calls.callWith_builtin (by show (false||(backTo cpos (starEach es X.env)).any (·.1))=false;rw[hplain]<;>rfl) (Calls.evalArgs_plain ?_)
 exact thn hA fun us s2 ⟨vs,H2,I2,r2,q2⟩=>hm pins s2 σ H2 x vs v us Q I2 r1 r2 q2
/- xs.append(e),list.index on a module's tuple .. are MtR facts of 06m -/
end
end L2
namespace L2
open PySem PySem.Spec PyProof.Rows
def MtM(X:Cx)(id:String)(r:V->List V->Hp->VK->Prop):Prop:=
 ∀(pins:List (Addr×Obj)) (s:Shared) (σ:St) (H:Hp) (x:V) (xs:List V) (v:Value) (us:List Value) (Q:VK),Inv X pins σ H s->RelV x v->Vals xs us->r x xs H Q ->
  wpAny (model X.prog X.w) X.A (call (.builtin id) (v::us)) (EP X pins σ Q) X.xe s
theorem Vals.one:∀{x:V} {us:List Value},Vals [x] us->∃u,us=[u]/\RelV x u
 |_,_,.cons r .nil=>⟨_,rfl,r⟩
theorem Vals.reverse{xs:List V}{us:List Value}(h:Vals xs us):Vals xs.reverse us.reverse:=by
 induction h with
 |nil=>exact .nil
 |cons r t ih=>rw[List.reverse_cons,List.reverse_cons];exact Vals.append ih (.cons r .nil)
theorem Vals.rep{xs:List V}{us:List Value}(h:Vals xs us):∀k:Nat,Vals (List.replicate k xs).flatten (List.replicate k us).flatten
 |0=>.nil
 |k+1=>by
  rw[List.replicate_succ,List.replicate_succ,List.flatten_cons,List.flatten_cons];exact Vals.append h (Vals.rep h k)
theorem foldl_rep(its:List Value):∀(k:Nat) (acc:List Value),
  List.foldl (fun x1 x2=>x1++x2) acc.toArray (List.replicate k its.toArray)=(acc++(List.replicate k its).flatten).toArray
 |0,acc=>by simp
 |k+1,acc=>by
  have e:acc.toArray++its.toArray=(acc++its).toArray:=by simp
  have e2:(acc++its)++(List.replicate k its).flatten=acc++(List.replicate (k+1) its).flatten:=by
   rw[List.replicate_succ,List.flatten_cons,List.append_assoc]
  rw[←e2,←foldl_rep its k (acc++its),←e,List.replicate_succ,List.foldl_cons]
section
variable {X:Cx} {pins:List (Addr×Obj)} {σ:St} {H:Hp} {s:Shared} {l b:Addr} {xs ys zs:List V}
theorem Inv.lset{its its':List Value}{n:Nat}{f:Array Value->Array Value}{t':Nat}(I:Inv X pins σ H s)(hH:H l=some (.lst xs))
  (e:s.heap.get? l=some { cls:=.type "list",data:=.seq its.toArray n }) (hf:f its.toArray=its'.toArray) (hv:Vals ys its') (hz:ys.length≤sizeLine):
  Inv X pins σ (upd H l (.lst ys)) { s with heap:=s.heap.update l (Obj.mapSeq f),toks:=t' }:=by
 have q:=PySem.IsL.update e f;rw[hf] at q;refine I.write (x:=l) (e:=l) (by rw[hH];exact trivial) (.inl rfl) (fun b' u hb hu=>(Heap.get?_update_other s.heap (Obj.mapSeq f) (Ne.symm hb)).trans hu) ⟨_,q⟩ ?_;exact⟨hz,its',_,hv,q⟩
theorem Inv.lnew{its:List Value}{t':Nat}(I:Inv X pins σ H s)(hv:Vals ys its)(hz:ys.length≤sizeLine):
  Inv X pins σ (upd H s.heap.objs.size (.lst ys)) { s with heap:=s.heap.push { cls:=.type "list",data:=.seq its.toArray },toks:=t' }:=
 I.laid (fun _ _ q=>Heap.get?_push_of_some _ q) (Nat.le_refl _) ⟨hz,its,0,hv,Heap.get?_push_size _ rfl⟩
theorem Inv.fresh(I:Inv X pins σ H s):H s.heap.objs.size=none:=I.hok.fresh (Nat.le_refl _)
theorem Inv.lstM(I:Inv X pins σ H s)(hH:H l=some (.lst xs)):xs.length≤sizeLine/\∃(its:List Value) (n:Nat),Vals xs its/\xs.length=its.length/\s.heap.get? l=some { cls:=.type "list",data:=.seq its.toArray n }:=by
 obtain⟨z,its,n,r,e⟩:=I.hok l _ hH;exact⟨z,its,n,r,r.length,e⟩
theorem notLongL{n:Nat}(h:n≤sizeLine):Builtin.List.listTooLong n=false:=by
 unfold Builtin.List.listTooLong;exact decide_eq_false (by lia)
end
section
variable {X:Cx}
def rAppend:V->List V->Hp->VK->Prop:=fun x vs H Q=>∃l xs y,x=.ref l/\vs=[y]/\H l=some (.lst xs)/\xs.length<sizeLine/\Q .non (upd H l (.lst (xs++[y])))
theorem qegz:MtM X "list.append" rAppend:=by
 intro pins s σ H x vs v us Q I rx rv h;obtain⟨l,xs,y,rfl,rfl,hH,hz,q⟩:=h;cases rx;obtain⟨u,rfl,ru⟩:=rv.one;obtain⟨z,its,n,r,hl,e⟩:=I.lstM hH;refine call_meets F.slot_list_append ⟨_,e,rfl⟩ F.entry_list_append (F.args_list_append_2 _ _) (PySem.list_append l its.toArray n u (by rw[List.size_toArray];lia)) ⟨e,?_⟩;refine⟨.non,_,I.lset (its':=its++[u]) hH e (by simp) (r.append (.cons ru .nil)) ?_,rfl,q⟩;rw[List.length_append,List.length_singleton];lia
def rExtend:V->List V->Hp->VK->Prop:=fun x vs H Q=>∃l b xs zs,x=.ref l/\vs=[.ref b]/\H l=some (.lst xs)/\H b=some (.lst zs)/\xs.length+zs.length≤sizeLine/\Q .non (upd H l (.lst (xs++zs)))
theorem q86z:MtM X "list.extend" rExtend:=by
 intro pins s σ H x vs v us Q I rx rv h;obtain⟨l,b,xs,zs,rfl,rfl,hH,hB,hz,q⟩:=h;cases rx;obtain⟨u,rfl,ru⟩:=rv.one;cases ru;obtain⟨z,its,n,r,hl,e⟩:=I.lstM hH;obtain⟨z2,its2,n2,r2,hl2,e2⟩:=I.lstM hB;have hsz:its.toArray.size+its2.toArray.size≤sizeLine:=by rw[List.size_toArray,List.size_toArray];lia
 have hlong:¬(!its.toArray.isEmpty&&Builtin.List.listTooLong (its.toArray.size+its2.toArray.size))=true:=by
  rw[notLongL hsz,Bool.and_false];exact Bool.false_ne_true
 refine call_meets F.slot_list_extend ⟨_,e,rfl⟩ F.entry_list_extend (F.args_list_extend_2 _ _)
  (AutoSeq1.list_extend_list_list_0 l its.toArray n b its2.toArray n2 hlong (by rw[List.size_toArray];lia) (by lia)) ⟨e,e2,?_⟩
 refine⟨.non,_,I.lset (its':=its++its2) hH e (by simp) (r.append r2) ?_,rfl,q⟩;rw[List.length_append];lia
def rCat:R2:=fun x y H Q=>∃l b xs zs,x=.ref l/\y=.ref b/\H l=some (.lst xs)/\H b=some (.lst zs)/\xs.length+zs.length≤sizeLine/\∀p,H p=none->Q (.ref p) (upd H p (.lst (xs++zs)))
theorem op_cat:OpR X (binaryOp .Add) rCat:=by
 intro pins s σ H x y v u Q I rx ry h;obtain⟨l,b,xs,zs,rfl,rfl,hH,hB,hz,q⟩:=h;cases rx;cases ry;obtain⟨z,its,n,r,hl,e⟩:=I.lstM hH;obtain⟨z2,its2,n2,r2,hl2,e2⟩:=I.lstM hB;refine PySem.P.add_list e e2 ?_ (by rw[List.size_toArray,List.size_toArray];lia);have ea:its.toArray++its2.toArray=(its++its2).toArray:=by simp
 rw[ea];exact⟨.ref _,_,I.lnew (t':=s.toks) (r.append r2) (by rw[List.length_append];lia),rfl,q _ I.fresh⟩
def rRep:R2:=fun x y H Q=>∃l k xs,x=.ref l/\y=.int k/\H l=some (.lst xs)/\-(2^63)≤k/\k<2^63/\xs.length*k.toNat≤sizeLine ∧
 ∀p,H p=none->Q (.ref p) (upd H p (.lst (List.replicate k.toNat xs).flatten))
theorem len_rep{α:Type}(xs:List α)(k:Nat):(List.replicate k xs).flatten.length=k*xs.length:=by
 induction k with
 |zero=>simp
 |succ k ih=>rw[List.replicate_succ,List.flatten_cons,List.length_append,ih,Nat.succ_mul,Nat.add_comm]
theorem qr3z:OpR X (binaryOp .Mult) rRep:=by
 intro pins s σ H x y v u Q I rx ry h;obtain⟨l,k,xs,rfl,rfl,hH,h1,h2,hz,q⟩:=h;cases rx;obtain⟨t,rfl⟩:=ry;obtain⟨z,its,n,r,hl,e⟩:=I.lstM hH;have hlen:its.toArray.size*k.toNat≤sizeLine:=by rw[List.size_toArray,←hl];exact hz
 have hcap:¬its.toArray.size*k.toNat > (2^63-1) / 8:=by
  have:(sizeLine:Nat)≤(2^63-1) / 8:=by decide
  lia
 have hfit:¬(!Builtin.List.listFitsIndex k)=true:=by
  rw[fitsIndex_both h1 h2];exact Bool.false_ne_true
 have hlong:¬Builtin.List.listTooLong (its.toArray.size*k.toNat)=true:=by
  rw[notLongL hlen];exact Bool.false_ne_true
 have hnew:List.foldl (fun x1 x2=>x1++x2) #[] (List.replicate (if its.toArray.isEmpty=true then 0 else k.toNat) its.toArray)=(List.replicate k.toNat its).flatten.toArray:=by
  have f0:∀m:Nat,List.foldl (fun x1 x2=>x1++x2) #[] (List.replicate m its.toArray)=(List.replicate m its).flatten.toArray:=fun m=>by
   have:=foldl_rep its m [];rw[List.nil_append] at this;exact this
  rw[f0];cases its with
  |nil=>simp
  |cons a r'=>rw[if_neg (by simp)]
 refine wpAny_binaryOp_repeat_ref (T:="list") (U:="int") (by decide) ⟨_,e,rfl⟩ (fun s'=>typeIs_int s' k t) noFill_list_mul F.fills_int_mul F.slot_int_rmul repeat_list F.slot_int_index.lookup
  (call_meets F.slot_int_rmul (typeIs_int s k t) F.entry_int_rmul (F.args_int_rmul_2 _ _) (int___rmul___int_list k t l its.toArray n)
   ⟨e,rfl,⟨_,e,rfl⟩,call_meets F.slot_list_mul ⟨_,e,rfl⟩ F.entry_list_mul (F.args_list_mul_2 _ _) (AutoListH.list___mul___list_int_3 l its.toArray n k t hfit hcap hlong) ⟨e,?_⟩⟩)
 rw[hnew];exact⟨.ref _,_,I.lnew (t':=s.toks) (r.rep k.toNat) (by rw[len_rep,Nat.mul_comm];exact hz),rfl,q _ I.fresh⟩
end
end L2
namespace Att
open PySem PySem.W PySem.Calls PyProof.Rows
theorem qr4z{P:Params}{h:Heap}:∀(ns:List Int) (vs:List Value),WellAll P h vs (ns.map WData.int)->IntsAre vs ns:=by
 intro ns
 induction ns with
 |nil=>
  intro vs w;rw[List.map_nil] at w;cases w;exact .nil
 |cons n ns ih=>
  intro vs w;rw[List.map_cons] at w;cases w with
  |cons a b=>
   cases a;exact .cons _ _ (ih _ b)
theorem qr5z{l:OpenLaw}{n:Nat}(hn:l.most=some n){P:Params}{h:Heap}{args:List WData}{vals:List Value}
  (hpre:l.row.toRowW.claim.pre args=true) (hwl:WellAll P h vals args):
  ∃a vs ns,vals=[Value.ref a]/\args=[WData.list (ns.map WData.int)]/\h.get? a=some { cls:=.type "list",data:=.seq vs.toArray }/\IntsAre vs ns/\ns.length≤n:=by
 have hsh:WShape.hasAll [] args [.list .int]=true:=(pre_splitW hpre).1;have hc:l.pre.holds [] { args:=args }=true:=(pre_splitW hpre).2;obtain⟨d,r,rfl,h1,h2⟩:=hasAllW_cons hsh;obtain rfl:=hasAllW_nil h2;obtain⟨xs,rfl,h3⟩:=hasW_list h1;obtain⟨ns,rfl⟩:=items_int h3;have hlen:ns.length≤n:=by
  unfold OpenLaw.pre at hc;have h4:(WTm.not (.lt (.lit (.int (n:Int))) (.len (.arg 0)))).holds [] { args:=[.list (ns.map .int)]}=true:=by
   have h4:=(holds_andW hc).1;rw[hn] at h4;exact h4
  have h5:=condW_of h4 (w_not (w_lt w_lit (w_len_list (w_arg rfl))));rw[List.length_map] at h5;refine Nat.le_of_not_lt fun q=>?_;have q':(n:Int)<((ns.length:Nat):Int):=by lia
  first
   | (rw[decide_eq_true q'] at h5;exact absurd h5 (by decide))
   | (simp at h5;lia)
 cases hwl with
 |cons w1 w2=>
  cases w2;cases w1 with
  |list ho hall=>exact⟨_,_,ns,rfl,rfl,ho,qr4z ns _ hall,hlen⟩
theorem qr6z(l:OpenLaw)(args:List WData):l.row.toRowW.claim.post args (.bool true) args=true:=
 postW_of (r:=l.row.toRowW) (X:=(true==true))
  (show WShape.has [] (.bool true) .bool=true by first|rfl|decide|simp[WShape.has,WShape.arms,WShape.armsAll])
  (show (WTm.eq .res (.lit (.bool true))).value [] { args:=args,res:=some (.bool true),after:=args }=some (.bool (true==true)) from w_eq_bool (w_res rfl) w_lit) rfl
theorem attach_call{l:OpenLaw}{n:Nat}{q:Program}{loose:List Str}{XP:(Str->Option Value)->Heap->Prop}{YP:World->Heap->Prop}{d:DefRec}
  (hn:l.most=some n) (hdf:d.params.defaults=[])
  (call:∀(w:World) (s₀ s₁:Shared) (mg mb:Str->Option Value) (fa:Addr) (o:Obj) (pm cd doc:Value) (a:Addr) (vs:List Value) (ns:List Int),
   Ground q loose [] XP w s₀ mg mb s₁.heap->YP w s₁.heap ->
   s₁.heap.get? fa=some o->o.data=.func (docDef d.name d.params d.body d.scope pm cd doc)->s₁.heap.CodeRec cd d.name->mg d.name=some (.ref fa) ->
   s₁.heap.get? a=some { cls:=.type "list",data:=.seq vs.toArray }->IntsAre vs ns->ns.length≤n->s₁.gens = #[] ->
   codeAny (model l.prog w) callerA (.call (.ref fa) ⟨[.ref a],[]⟩) (fun r s'=>r=.ok (.ret (.bool true))/\OldK s₁.heap s'.heap/\s'.os=s₁.os/\AllBare s'.gens) s₁):
  WalkO q loose XP YP l.row.toRowW d [] (fun f vs=>PySem.call f vs):=by
 intro w s₀ s₁ mg mb G Y fa o pm cd doc dV kV ho hd hcd hD hmg hg args vals as hpre hlay hrd hwl hlo;obtain rfl:dV=.none:=Dflts.none hD hdf;obtain rfl:kV=.none:=Dflts.noKw hD;obtain⟨a,vs,ns,rfl,rfl,hobj,hints,hlen⟩:=qr5z hn hpre hwl;refine enter_call (codeAny_mono (call w s₀ s₁ mg mb fa o pm cd doc a vs ns G Y ho (fd_plain hd) hcd hmg hobj hints hlen hg) fun r s' hq=>?_);obtain⟨rfl,h2,h3,h4⟩:=hq;exact⟨.inl ⟨.bool true,.bool true,[],rfl,fun _=>rfl,.bool true,qr6z l _,fun _=>⟨List.Pairwise.nil,fun _ hm=>(nomatch hm)⟩⟩,h2,h3,h4⟩
end Att
namespace L2
open PySem PySem.Spec PyProof.Rows
theorem qjjz:∀{vs:List Value} {ns:List Int},IntsAre vs ns->Vals (ns.map V.int) vs
 |_,_,.nil=>.nil
 |_,_,.cons n t h=>.cons ⟨t,rfl⟩ (qjjz h)
def Only(H:Hp):Prop:=∀b,H b=none∨∃o xs,H b=some (.frz o (.lst xs))
theorem qr7z{P:Program}{w:World}{K:PySem.W.Frag}{mg mb:Str->Option Value}{CX:CXT}{k:Nat}{fa a:Addr}{fd:FuncData}{x:Str}{sp:Sp}{s₁:Shared}{vs:List Value}{ns:List Int}
  (KX:K.In s₁.heap) (hns:s₁.heap.Ns mainGlobals mg) (hb:s₁.heap.Ns builtinsNs mb) (hbb:∀x:Str,x≠"__name__"->mb x=bootBuiltins x) (hlim:s₁.heap.NoLimit) (hg:s₁.gens = #[])
  (ha:s₁.heap.get? a=some { cls:=.type "list",data:=.seq vs.toArray }) (hi:IntsAre vs ns) (hl:ns.length≤sizeLine) (hr:Room k callerA)
  (F:∀base:Heap,K.In base->base.Ns mainGlobals mg->FnOk P w K mg base CX k fa fd [x] sp) (hbind:∀(s:Shared) (u:Value),BindsTo s fd ⟨[u],[]⟩ [(x,u)])
  (hsp:∀H:Hp,Only H->SqL K H a (ns.map V.int)->sp [.ref a] H (fun v _=>v=.bl true) fun _ _ _=>False)
  (hCX:∀H e s',CX [] H s₁ (fun _ _ _=>False) e s'->False):
  codeAny (model P w) callerA (.call (.ref fa) ⟨[.ref a],[]⟩) (fun r s'=>r=.ok (.ret (.bool true))/\OldK s₁.heap s'.heap/\s'.os=s₁.os/\AllBare s'.gens) s₁:=by
 have rv:=qjjz hi;have lenV:=hi.length
 -- from an abstract heap in which nothing but the script may be tracked
 have core:∀H:Hp,Only H->SqL K H a (ns.map V.int)->HOk P w H s₁.heap->(∀b,H b≠none->b=a)->(H a≠none->K.lookup a=none) ->
   codeAny (model P w) callerA (.call (.ref fa) ⟨[.ref a],[]⟩) (fun r s'=>r=.ok (.ret (.bool true))/\OldK s₁.heap s'.heap/\s'.os=s₁.os/\AllBare s'.gens) s₁:=by
  intro H hO hS hok hA hK;have base_of:∀{b:Addr} {o:Obj},s₁.heap.get? b=some o->H b=none->(hidT s₁.heap H).get? b=some o:=fun e n=>qpuz e n;have noA:∀{b:Addr} {o:Obj} {es:Array DictEntry} {ep:Nat},s₁.heap.get? b=some o->o.data=.dict es ep->H b=none:=fun {b o es ep} e d=>by
   cases q:H b with
   |none=>rfl
   |some u=>
    have e':b=a:=hA b (by rw[q];simp);subst e';rw[ha] at e;cases e;have d':Data.seq vs.toArray _=Data.dict es ep:=d;cases d'
  have nsK:∀{b:Addr} {m:Str->Option Value},s₁.heap.Ns b m->(hidT s₁.heap H).Ns b m:=fun {b m} ⟨o,es,ep,e,d,r⟩=>⟨o,es,ep,base_of e (noA e d),d,r⟩;have hKb:K.In (hidT s₁.heap H):=fun b o e=>base_of (KX b o e) (by
   cases q:H b with
   |none=>rfl
   |some u=>
    have e':b=a:=hA b (by rw[q];simp);subst e';rw[hK (by rw[q];simp)] at e;cases e)
  have hM:Mod K mg (hidT s₁.heap H):=⟨hKb,nsK hns,⟨mb,nsK hb,hbb⟩,let ⟨mc,h1,h2⟩:=hlim;⟨mc,nsK h1,h2⟩⟩
  have e0:Env0 P w K mg (hidT s₁.heap H) callerA [] s₁ H:=⟨rfl,hM,fun b o e=>qpvz e,Nat.le_of_eq (qptz _ _),trivial,fun b hb=>absurd (show b∈([]:List Addr) from hb) (by simp),hok,.of_eq hg⟩;refine codeAny_mono ((F _ hKb (nsK hns)).run callerA [] s₁ H ⟨[.ref a],[]⟩ [.ref a] [.ref a] _ _ hr e0 (hbind s₁ (.ref a)) (.cons rfl .nil) (hsp H hO hS)) fun r s' h=>?_;cases r with
  |error e=>exact (hCX H e s' h).elim
  |ok fl=>
   cases fl with
   |next=>exact False.elim h
   |brk=>exact False.elim h
   |cont=>exact False.elim h
   |ret u=>
    obtain⟨v,H',os,bare,un,hok',r',q⟩:=h;have q':v=.bl true:=q;subst q';obtain rfl:u=Value.bool true:=r';refine⟨rfl,OldK.of_keep fun b o e=>?_,os,bare⟩;cases q:H b with
    |none=>exact un.keep b o e q (by intro z;exact absurd (show b∈([]:List Addr) from z) (by simp)) (by simp)
    |some u=>
     rcases hO b with z|⟨ob,xs,z⟩
     ·rw[q] at z;cases z
     ·have z2:=un.frzs b ob _ z;obtain⟨e1,_⟩:=hok b _ z;obtain⟨e2,_⟩:=hok' b _ z2;rw[e] at e1;cases e1;exact e2
 cases hk:K.lookup a with
 |some o=>
  -- the script is one of the module's own objects
  have e:=KX a o hk;rw[ha] at e;cases e;refine core (fun _=>none) (fun _=>.inl rfl) (.inr ⟨_,vs.toArray,_,hk,rfl,rfl,rfl,by rw[List.size_toArray,lenV];exact hl,by simpa using rv⟩) (fun b u z=>by have z':(none:Option HO)=some u:=z;cases z') (fun b z=>absurd rfl z) fun z=>absurd rfl z
 |none=>
  refine core (fun b=>if b=a then some (.frz { cls:=.type "list",data:=.seq vs.toArray } (.lst (ns.map V.int))) else none) (fun b=>?_) (.inl (.inr ⟨{ cls:=.type "list",data:=.seq vs.toArray },if_pos rfl⟩)) (fun b u z=>?_) (fun b z=>?_) fun _=>hk
  ·by_cases hb:b=a
   ·exact .inr ⟨_,_,if_pos hb⟩
   ·exact .inl (if_neg hb)
  ·by_cases hb:b=a
   ·have z':=(if_pos hb).symm.trans z;cases z';subst hb;exact⟨ha,by rw[List.length_map];exact hl,vs,_,rv,ha⟩
   ·have z':=(if_neg hb).symm.trans z;cases z'
  ·by_cases hb:b=a
   ·exact hb
   ·exact absurd (if_neg hb) z
end L2
namespace L2
open PySem PySem.Spec PyProof.Rows
theorem walk_of{l:PySem.W.OpenLaw}{n k:Nat}{q:Program}{loose:List Str}{XP:(Str->Option Value)->Heap->Prop}{YP:World->Heap->Prop}{d:DefRec}{K:Params->PySem.W.Frag}{CX:World->CXT}{sp:World->Sp}{x:Str}
  (hn:l.most=some n) (hn2:n≤sizeLine) (hdf:d.params.defaults=[]) (hr:Room k callerA)
  (hY:∀(w:World) (h:Heap),YP w h->(K w.params).In h)
  (F:∀(w:World) (mg:Str->Option Value) (fa:Addr) (h:Heap),(K w.params).In h->h.Ns mainGlobals mg->mg d.name=some (.ref fa) ->
   ∃fd:FuncData,(∀(s:Shared) (u:Value),BindsTo s fd ⟨[u],[]⟩ [(x,u)]) ∧
    ∀base:Heap,(K w.params).In base->base.Ns mainGlobals mg->FnOk l.prog w (K w.params) mg base (CX w) k fa fd [x] (sp w))
  (hsp:∀(w:World) (H:Hp) (a:Addr) (ns:List Int),ns.length≤n->Only H->SqL (K w.params) H a (ns.map V.int)->sp w [.ref a] H (fun v _=>v=.bl true) fun _ _ _=>False)
  (hCX:∀(w:World) (H:Hp) (s:Shared) (e:Value) (s':Shared),CX w [] H s (fun _ _ _=>False) e s'->False):
  PySem.W.WalkO q loose XP YP l.row.toRowW d [] (fun f vs=>PySem.call f vs):=by
 refine Att.attach_call hn hdf fun w s₀ s₁ mg mb fa o pm cd doc a vs ns G Y ho hd hcd hmg hobj hints hlen hg=>?_;have KX:=hY w _ Y;obtain⟨fd,hb,hF⟩:=F w mg fa _ KX G.T.g hmg;exact qr7z KX G.T.g G.T.b G.T.builtins G.T.nolimit hg hobj hints (Nat.le_trans hlen hn2) hr hF hb (fun H hO hS=>hsp w H a ns hlen hO hS) fun H e s'=>hCX w H s₁ e s'
end L2
/- THE LAST THEOREM (shape;LID,My.* are yours):
  My.Adr: a structure of the addresses that your layer names (classes,functions);My.Txt K t: a structure (Prop) of the equations over K;
  My.txt_mk:{K} {implicit addresses ..} (e1:nsIn K mainGlobals "law" = some (some (.ref f))) (e2:K.lookup f=some ⟨oc,od,.func (fnOf "law" "law" params body scope dV kV doc pm an cdv ct),sl⟩) (e3:codeIn K cdv "law" = true) ..:∃t,My.Txt K t
set_option maxRecDepth 100000 in
set_option maxHeartbeats 0 in
theorem PySem.Challenge.cw_LID_holds : PySem.Challenge.rw_LID.Holds := by
 w_on;o_law;k_head;(case hw=>w_witness2)
 k_fill
 refine L2.walk_of (l:=PySem.Challenge.rw_LID) (n:=63) (k:=40) (x:="script") (CX:=fun w=>..) (sp:=fun _=>My.sp_law) rfl (by decide) rfl ⟨rfl,by decide,by decide⟩ (fun w h Y=>PySem.W.kIn_of Y) ?F ?S ?C
 case F=>
  intro w mg fa h KX G hmg
  have T:∃t,My.Txt (L2.KOf KX) t:=by
   dsimp only[L2.KOf]                          -- K must stand as «<heap const> w.params» for k_is
   refine' My.txt_mk ?e1 ?e2 ?e3 ..
   (case e1=>PySem.W.k_is)                    -- in the order: a name -> its address -> its object -> its parts
   (case e2=>PySem.W.k_is)
   ..
  obtain⟨t,T⟩:=T
  have e0:=hmg.symm.trans (PySem.W.mg_of KX G T.law)
  cases e0                                       -- fa is the law's own address
  exact⟨_,fun s u=>.of_eq rfl,fun base kb nb=>My.law_fn T kb nb⟩     -- if «.of_eq rfl» comes too early: refine' ⟨_,?b,fun base kb nb=>My.law_fn T kb nb⟩;exact fun s u=>.of_eq rfl
 case S=>exact fun w H a ns hl hO hS=>..
 case C=>exact ..
(the tactic k_is has no namespace: write k_is) -/
namespace L2
open PySem PySem.Spec PyProof.Rows
def defArgs(s:Stmt):Arguments:=match s with
 |.FunctionDef _ a _ _ _ _ _ _ _ _=>a
 |_=>{ posonlyargs:=[],args:=[],vararg:=none,kwonlyargs:=[],kw_defaults:=[],kwarg:=none,defaults:=[]}
def defBody(s:Stmt):List Stmt:=match s with
 |.FunctionDef _ _ b _ _ _ _ _ _ _=>b
 |_=>[]
def defScope(s:Stmt):Scope:=match s with
 |.FunctionDef _ _ _ _ _ _ sc _ _ _=>sc
 |_=>{ kind:=.function,names:=[],isGenerator:=false,isCoroutine:=false }
abbrev CX0:CXT:=fun _ _ _ _ _ _=>False
abbrev E0:XK:=fun _ _ _=>False
theorem pass0{X:Cx}:Passes CX0 X E0:=fun _ _ _ _ _ _ _ h=>h.elim
structure Fun(K:PySem.W.Frag)(x qual:Str)(st:Stmt)(f:Addr)(fd:FuncData):Prop where
 ex:∃(oc:Value) (od:Option Addr) (kV doc pm:Value) (an:Option Addr) (cdv ct:Value) (osl:Array (Option Value)),
  fd=PySem.W.fnOf x qual (defArgs st) (defBody st) (defScope st) .none kV doc pm an cdv ct/\K.lookup f=some ⟨oc,od,.func fd,osl⟩/\PySem.W.codeIn K cdv qual=true
 kp:PySem.W.keepIn K (.ref f)=true
section
variable {P:Program} {w:World} {K:PySem.W.Frag} {mg:Str->Option Value} {base:Heap}
theorem Fun.ok{x qual:Str}{st:Stmt}{f:Addr}{fd:FuncData}{N ps:List Str}{k:Nat}{sp:Sp}(F:Fun K x qual st f fd)(S:FnScope N ps (defScope st))(len:∀vs H Q E,sp vs H Q E->vs.length=ps.length)
  (hbody:∀(cdv:Value) (A:Around) (outer:List Env) (s:Shared) (H:Hp) (vs:List V) (Q:VK) (E:XK),Room k (A.deeper (envOfC qual (defScope st) s.heap.objs.size f cdv))->sp vs H Q E ->
   ∃t,PSs (cxOf CX0 P w K mg base N qual (defScope st) f cdv A outer s H E).nox (defBody st) t/\t { nx:=fun _ H'=>Q .non H',rt:=Q } (start N vs) H):FnOk P w K mg base CX0 (k+1) f fd ps sp:=by
 obtain⟨oc,od,kV,doc,pm,an,cdv,ct,osl,rfl,lk,hcd⟩:=F.ex;refine qrdz lk hcd S len fun A outer s H vs Q E hr hsp=>?_;obtain⟨t,h,q⟩:=hbody cdv A outer s H vs Q E hr hsp;exact⟨t,h.nox,q⟩
theorem Fun.binds{x qual:Str}{st:Stmt}{f:Addr}{fd:FuncData}{ps:List Str}(F:Fun K x qual st f fd)
  (h:∀(kV doc pm:Value) (an:Option Addr) (cdv ct:Value) (us:List Value),us.length=ps.length->bindArgs (PySem.W.fnOf x qual (defArgs st) (defBody st) (defScope st) .none kV doc pm an cdv ct) ⟨us,[]⟩=pure (ps.zip us)):Binds K fd ps []:=by
 obtain⟨oc,od,kV,doc,pm,an,cdv,ct,osl,rfl,lk,hcd⟩:=F.ex;exact .all (h kV doc pm an cdv ct)
theorem qr8z{x qual:Str}{st:Stmt}{f:Addr}{oc:Value}{od an:Option Addr}{osl:Array (Option Value)}{kV doc pm cdv ct:Value}(l:K.lookup f=some ⟨oc,od,.func (PySem.W.fnOf x qual (defArgs st) (defBody st) (defScope st) .none kV doc pm an cdv ct),osl⟩)
  (c:PySem.W.codeIn K cdv qual=true) (k:PySem.W.keepIn K (.ref f)=true):Fun K x qual st f (PySem.W.fnOf x qual (defArgs st) (defBody st) (defScope st) .none kV doc pm an cdv ct):=⟨⟨oc,od,kV,doc,pm,an,cdv,ct,osl,rfl,l,c⟩,k⟩
end
section
variable {X:Cx}
theorem pv(i:Nat){x:Str}{pos:Pos}(hN:X.N[i]?=some x:=by rfl)(hv:Vis X.env.scope x:=by first|exact Or.inl rfl|exact Or.inr (Or.inl rfl)|exact Or.inr (Or.inr rfl))(hd:(x==("__debug__":Str))=false:=by decide)
  (hcd:(x==("__classdict__":Str))=false:=by decide):PE X (.Name x pos) (tVar i):=qpwz hN hv hd hcd
end
end L2
namespace L3
open PySem PySem.Spec PyProof.Rows L2
inductive D where
 |non|bl (b:Bool)|int (i:Int)|str (x:Str)|tup (xs:List D)|scr (xs:List D)|obj (a:Addr)|dc (a:Addr)
def SqF(K:PySem.W.Frag)(H:Hp)(a:Addr)(xs:List V):Prop:=
 (∃o,H a=some (.frz o (.lst xs))) ∨
  ∃(o:Obj) (its:Array Value) (n:Nat),K.lookup a=some o/\o.cls=.type "list"/\o.dict=none/\o.data=.seq its n/\its.size≤sizeLine/\Vals xs its.toList
theorem SqF.l{K:PySem.W.Frag}{H:Hp}{a:Addr}{xs:List V}(h:SqF K H a xs):SqL K H a xs:=by
 rcases h with h|h
 ·exact .inl (.inr h)
 ·exact .inr h
mutual
def Hv(K:PySem.W.Frag)(H:Hp):D->V->Prop
 |.non,v=>v=.non
 |.bl b,v=>v=.bl b
 |.int i,v=>v=.int i
 |.str x,v=>v=.str x
 |.tup ds,v=>∃a vs,v=.ref a/\SqT K H a vs/\Hvs K H ds vs
 |.scr ds,v=>∃a vs,v=.ref a/\SqF K H a vs/\Hvs K H ds vs
 |.obj a,v=>v=.ref a
 |.dc a,v=>v=.ref a/\∃ob φ,H a=some (.frz ob (.ext φ))/\ob.cls=.type "dict"
def Hvs(K:PySem.W.Frag)(H:Hp):List D->List V->Prop
 |[],vs=>vs=[]
 |d::ds,vs=>∃v r,vs=v::r/\Hv K H d v/\Hvs K H ds r
end
inductive GO where
 |lst (ds:List D)|pen|dct
 |gen (R:PySem.W.Frag->Addr->Hp->Prop)
def GO.plain:GO->Prop
 |.gen _=>False
 |_=>True
abbrev Gp:=Addr->Option GO
def upd3(G:Gp)(a:Addr)(o:GO):Gp:=fun b=>if b=a then some o else G b
theorem qahz{G:Gp}{a:Addr}{o:GO}:upd3 G a o a=some o:=by simp[upd3]
theorem qaiz{G:Gp}{a b:Addr}{o:GO}(h:b≠a):upd3 G a o b=G b:=by simp[upd3,h]
theorem qr9z{G:Gp}{a b:Addr}{o u:GO}(hn:G a=none)(h:G b=some u):upd3 G a o b=some u:=by
 rw[qaiz]
 ·exact h
 ·intro e;rw[e,hn] at h;cases h
theorem qsaz{G:Gp}{a:Addr}{o u:GO}:upd3 (upd3 G a o) a u=upd3 G a u:=by
 funext b;unfold upd3;by_cases h:b=a
 ·rw[if_pos h,if_pos h]
 ·rw[if_neg h,if_neg h,if_neg h]
def PenOk(a b c:Int):Prop:=0≤a/\0≤c/\c<2147483647
def GOk(K:PySem.W.Frag)(H:Hp)(a:Addr):GO->Prop
 |.lst ds=>∃vs,H a=some (.lst vs)/\Hvs K H ds vs
 |.pen=>∃i j k,H a=some (.lst [.int i,.int j,.int k])/\PenOk i j k
 |.dct=>H a=some (.ext fun h=>∃o,h.get? a=some o/\o.cls=.type "dict")
 |.gen R=>R K a H/\(∃o,H a=some o/\(∀xs,o≠.tup xs)/\∀ob u,o≠.frz ob u)/\∀H1 H2:Hp,(∀b xs,H1 b=some (.tup xs)->H2 b=some (.tup xs))->(∀b o u,H1 b=some (.frz o u)->H2 b=some (.frz o u))->H2 a=H1 a->R K a H1->R K a H2
def RepG(K:PySem.W.Frag)(G:Gp)(H:Hp):Prop:=∀a o,G a=some o->GOk K H a o
structure Ext(H H':Hp):Prop where
 tup:∀b xs,H b=some (.tup xs)->H' b=some (.tup xs)
 frz:∀b o u,H b=some (.frz o u)->H' b=some (.frz o u)
theorem Ext.refl(H:Hp):Ext H H:=⟨fun _ _ h=>h,fun _ _ _ h=>h⟩
theorem Ext.trans{H H1 H2:Hp}(a:Ext H H1)(b:Ext H1 H2):Ext H H2:=⟨fun c x h=>b.tup c x (a.tup c x h),fun c o u h=>b.frz c o u (a.frz c o u h)⟩
structure Step(H:Hp)(G:Gp)(H':Hp)(G':Gp):Prop where
 fr:∀a o,H a=some o->G a=none->H' a=some o
 trk:∀a,H a≠none->H' a≠none
 new:∀a,G a=none->G' a≠none->H a=none
theorem Step.refl(H:Hp)(G:Gp):Step H G H G:=⟨fun _ _ h _=>h,fun _ h=>h,fun _ h1 h2=>absurd h1 h2⟩
theorem Step.trans{H H1 H2:Hp}{G G1 G2:Gp}(a:Step H G H1 G1)(b:Step H1 G1 H2 G2):Step H G H2 G2 where
 fr:=fun c o h n=>b.fr c o (a.fr c o h n) (by
  refine Classical.byContradiction fun q=>?_;rw[a.new c n q] at h;cases h)
 trk:=fun c h=>b.trk c (a.trk c h)
 new:=fun c n q=>by
  by_cases h1:G1 c=none
  ·have h2:=b.new c h1 q;refine Classical.byContradiction fun z=>?_;exact a.trk c z h2
  ·exact a.new c n h1
def Sub(G' G:Gp):Prop:=∀a o,G' a=some o->G a=some o
theorem Sub.refl(G:Gp):Sub G G:=fun _ _ h=>h
theorem Sub.trans{A B C:Gp}(a:Sub A B)(b:Sub B C):Sub A C:=fun x o h=>b x o (a x o h)
theorem Sub.upd{G:Gp}{a:Addr}{o:GO}(h:G a=none):Sub G (upd3 G a o):=fun _ _ e=>qr9z h e
theorem Sub.of_none{G' G:Gp}(s:Sub G' G){a:Addr}(h:G a=none):G' a=none:=by
 cases e:G' a with
 |none=>rfl
 |some o=>
  rw[s a o e] at h;cases h
structure New(G:Gp)(p:Addr)(o:GO)(G':Gp):Prop where
 non:G p=none
 sub:Sub G G'
 at_:G' p=some o
theorem New.mk'{G:Gp}{p:Addr}{o:GO}(h:G p=none):New G p o (upd3 G p o):=⟨h,Sub.upd h,qahz⟩
theorem Step.sub{H:Hp}{G G':Gp}(s:Sub G' G):Step H G H G':=⟨fun _ _ h _=>h,fun _ h=>h,fun a n q=>by
 exact absurd (s.of_none n) q⟩
section
variable {K:PySem.W.Frag} {H H':Hp} {G G':Gp}
theorem RepG.sub(R:RepG K G H)(s:Sub G' G):RepG K G' H:=fun a o e=>R a o (s a o e)
theorem GOk.mut{a:Addr}{o:GO}(h:GOk K H a o):∃o,H a=some o/\(∀xs,o≠.tup xs)/\∀ob u,o≠.frz ob u:=by
 cases o with
 |lst ds=>obtain⟨vs,e,_⟩:=h;exact⟨_,e,fun _=>nofun,fun _ _=>nofun⟩
 |pen=>obtain⟨i,j,k,e,_⟩:=h;exact⟨_,e,fun _=>nofun,fun _ _=>nofun⟩
 |dct=>exact⟨_,h,fun _=>nofun,fun _ _=>nofun⟩
 |gen R=>exact h.2.1
theorem RepG.outT(R:RepG K G H){a:Addr}{xs:List V}(e:H a=some (.tup xs)):G a=none:=by
 cases q:G a with
 |none=>rfl
 |some u=>
  obtain⟨o,z,h1,_⟩:=(R a u q).mut;rw[e] at z;exact absurd (Option.some.inj z).symm (h1 xs)
theorem RepG.outF(R:RepG K G H){a:Addr}{ob:Obj}{u:HO}(e:H a=some (.frz ob u)):G a=none:=by
 cases q:G a with
 |none=>rfl
 |some g=>
  obtain⟨o,z,_,h1⟩:=(R a g q).mut;rw[e] at z;exact absurd (Option.some.inj z).symm (h1 ob u)
theorem RepG.free(R:RepG K G H){a:Addr}(e:H a=none):G a=none:=by
 cases q:G a with
 |none=>rfl
 |some u=>
  obtain⟨o,z,_⟩:=(R a u q).mut;rw[e] at z;cases z
theorem Step.ext(S:Step H G H' G')(R:RepG K G H):Ext H H':=⟨fun b xs h=>S.fr b _ h (R.outT h),fun b o u h=>S.fr b _ h (R.outF h)⟩
theorem SqT.ext{a:Addr}{xs:List V}(E:Ext H H')(h:SqT K H a xs):SqT K H' a xs:=by
 rcases h with (h|⟨o,h⟩)|h
 ·exact .inl (.inl (E.tup _ _ h))
 ·exact .inl (.inr ⟨o,E.frz _ _ _ h⟩)
 ·exact .inr h
theorem SqF.ext{a:Addr}{xs:List V}(E:Ext H H')(h:SqF K H a xs):SqF K H' a xs:=by
 rcases h with⟨o,h⟩|h
 ·exact .inl ⟨o,E.frz _ _ _ h⟩
 ·exact .inr h
mutual
theorem Hv.ext(E:Ext H H'):∀{d:D} {v:V},Hv K H d v->Hv K H' d v
 |.non,_,h=>by simpa [Hv] using h
 |.bl _,_,h=>by simpa [Hv] using h
 |.int _,_,h=>by simpa [Hv] using h
 |.str _,_,h=>by simpa [Hv] using h
 |.obj _,_,h=>by simpa [Hv] using h
 |.dc a,v,h=>by
  unfold Hv at h ⊢;obtain⟨e,ob,φ,q,c⟩:=h;exact⟨e,ob,φ,E.frz _ _ _ q,c⟩
 |.tup ds,v,h=>by
  unfold Hv at h ⊢;obtain⟨a,vs,e,q,r⟩:=h;exact⟨a,vs,e,SqT.ext E q,Hvs.ext E r⟩
 |.scr ds,v,h=>by
  unfold Hv at h ⊢;obtain⟨a,vs,e,q,r⟩:=h;exact⟨a,vs,e,SqF.ext E q,Hvs.ext E r⟩
theorem Hvs.ext(E:Ext H H'):∀{ds:List D} {vs:List V},Hvs K H ds vs->Hvs K H' ds vs
 |[],_,h=>by simpa [Hvs] using h
 |d::ds,vs,h=>by
  unfold Hvs at h ⊢;obtain⟨v,r,e,q,z⟩:=h;exact⟨v,r,e,Hv.ext E q,Hvs.ext E z⟩
end
theorem Hvs.nil:Hvs K H [] []:=by simp[Hvs]
theorem Hvs.cons{d:D}{v:V}{ds:List D}{vs:List V}(h:Hv K H d v)(r:Hvs K H ds vs):Hvs K H (d::ds) (v::vs):=by
 unfold Hvs;exact⟨v,vs,rfl,h,r⟩
theorem Hvs.inv{d:D}{ds:List D}{vs:List V}(h:Hvs K H (d::ds) vs):∃v r,vs=v::r/\Hv K H d v/\Hvs K H ds r:=by
 unfold Hvs at h;exact h
theorem Hvs.inv0{vs:List V}(h:Hvs K H [] vs):vs=[]:=by
 unfold Hvs at h;exact h
theorem Hvs.length:∀{ds:List D} {vs:List V},Hvs K H ds vs->ds.length=vs.length
 |[],_,h=>by rw[h.inv0];rfl
 |d::ds,vs,h=>by
  obtain⟨v,r,rfl,_,q⟩:=h.inv;simp[q.length]
theorem Hvs.get:∀{ds:List D} {vs:List V} {i:Nat} {d:D},Hvs K H ds vs->ds[i]?=some d->∃v,vs[i]?=some v/\Hv K H d v
 |[],_,_,_,_,e=>by simp at e
 |x::ds,vs,0,d,h,e=>by
  obtain⟨v,r,rfl,q,_⟩:=h.inv;simp at e;subst e;exact⟨v,rfl,q⟩
 |x::ds,vs,i+1,d,h,e=>by
  obtain⟨v,r,rfl,_,q⟩:=h.inv;simp at e;obtain⟨u,e2,q2⟩:=q.get e;exact⟨u,by simpa using e2,q2⟩
theorem Hvs.append:∀{ds es:List D} {vs us:List V},Hvs K H ds vs->Hvs K H es us->Hvs K H (ds++es) (vs++us)
 |[],es,_,_,h,q=>by rw[h.inv0];exact q
 |d::ds,es,vs,us,h,q=>by
  obtain⟨v,r,rfl,z,w⟩:=h.inv;exact .cons z (w.append q)
theorem Hvs.drop:∀{ds:List D} {vs:List V} (n:Nat),Hvs K H ds vs->Hvs K H (ds.drop n) (vs.drop n)
 |ds,vs,0,h=>h
 |[],_,n+1,h=>by rw[h.inv0];exact .nil
 |d::ds,vs,n+1,h=>by
  obtain⟨v,r,rfl,_,q⟩:=h.inv;exact q.drop n
theorem Hvs.take:∀{ds:List D} {vs:List V} (n:Nat),Hvs K H ds vs->Hvs K H (ds.take n) (vs.take n)
 |ds,vs,0,h=>by simpa using Hvs.nil
 |[],_,n+1,h=>by rw[h.inv0];exact .nil
 |d::ds,vs,n+1,h=>by
  obtain⟨v,r,rfl,q,z⟩:=h.inv;exact .cons q (z.take n)
theorem Hvs.set:∀{ds:List D} {vs:List V} (i:Nat) {d:D} {v:V},Hvs K H ds vs->Hv K H d v->Hvs K H (ds.set i d) (vs.set i v)
 |[],_,i,d,v,h,_=>by rw[h.inv0];exact .nil
 |x::ds,vs,0,d,v,h,q=>by
  obtain⟨u,r,rfl,_,z⟩:=h.inv;exact .cons q z
 |x::ds,vs,i+1,d,v,h,q=>by
  obtain⟨u,r,rfl,y,z⟩:=h.inv;exact .cons y (z.set i q)
theorem Hvs.rev:∀{ds:List D} {vs:List V},Hvs K H ds vs->Hvs K H ds.reverse vs.reverse
 |[],_,h=>by rw[h.inv0];exact .nil
 |x::ds,vs,h=>by
  obtain⟨u,r,rfl,y,z⟩:=h.inv;rw[List.reverse_cons,List.reverse_cons];exact z.rev.append (.cons y .nil)
theorem Hvs.rep{ds:List D}{vs:List V}(h:Hvs K H ds vs):∀k:Nat,Hvs K H (List.replicate k ds).flatten (List.replicate k vs).flatten
 |0=>.nil
 |k+1=>by
  simp only[List.replicate_succ,List.flatten_cons];exact h.append (h.rep k)
theorem Hvs.ints:∀(ns:List Int),Hvs K H (ns.map D.int) (ns.map V.int)
 |[]=>.nil
 |n::ns=>.cons (by simp[Hv]) (Hvs.ints ns)
theorem Ext.laid{p:Addr}{o:HO}(h:H p=none):Ext H (upd H p o):=⟨fun b xs e=>by rw[qlz (qanz e h)];exact e,fun b x u e=>by rw[qlz (qanz e h)];exact e⟩
theorem GOk.ext{a:Addr}{o:GO}(h:GOk K H a o)(E:Ext H H')(e:H' a=H a):GOk K H' a o:=by
 cases o with
 |lst ds=>
  obtain⟨vs,z,q⟩:=h;exact⟨vs,e.trans z,q.ext E⟩
 |pen=>
  obtain⟨i,j,k,z,q⟩:=h;exact⟨i,j,k,e.trans z,q⟩
 |dct=>exact e.trans h
 |gen R=>
  obtain⟨h1,h2,h3⟩:=h;exact⟨h3 H H' E.tup E.frz e h1,by rw[e];exact h2,h3⟩
theorem RepG.laid{p:Addr}{o:HO}(R:RepG K G H)(h:H p=none):RepG K G (upd H p o):=fun a u e=>by
 have hne:a≠p:=fun z=>by
  rw[z,R.free h] at e;cases e
 exact (R a u e).ext (Ext.laid h) (qlz hne)
theorem RepG.laidG{p:Addr}{o:HO}{g:GO}(R:RepG K G H)(h:H p=none)(new:GOk K (upd H p o) p g):RepG K (upd3 G p g) (upd H p o):=fun a u e=>by
 by_cases z:a=p
 ·subst z;rw[qahz] at e;cases e;exact new
 ·rw[qaiz z] at e;exact (R.laid h) a u e
theorem Step.laid{p:Addr}{o:HO}(h:H p=none):Step H G (upd H p o) G:=⟨fun a u e _=>by rw[qlz (qanz e h)];exact e,fun a q=>by
 by_cases z:a=p
 ·rw[z,qvz];simp
 ·rw[qlz z];exact q,fun a n q=>absurd n q⟩
theorem Step.laidG{p:Addr}{o:HO}{g:GO}(h:H p=none):Step H G (upd H p o) (upd3 G p g):=⟨(Step.laid (G:=G) h).fr,(Step.laid (G:=G) h).trk,fun a n q=>by
 by_cases z:a=p
 ·rw[z];exact h
 ·rw[qaiz z] at q;exact absurd n q⟩
theorem qsbz{p b:Addr}{xs ys:List V}(h:H p=some (.lst xs))(e:H b=some (.tup ys)):b≠p:=fun z=>by
 rw[z,h] at e;cases e
theorem qscz{p b:Addr}{xs:List V}{o:Obj}{u:HO}(h:H p=some (.lst xs))(e:H b=some (.frz o u)):b≠p:=fun z=>by
 rw[z,h] at e;cases e
theorem Ext.wrote{p:Addr}{xs:List V}{o:HO}(h:H p=some (.lst xs)):Ext H (upd H p o):=
 ⟨fun b ys e=>by rw[qlz (qsbz h e)];exact e,fun b x u e=>by rw[qlz (qscz h e)];exact e⟩
theorem RepG.wrote{p:Addr}{xs:List V}{o:HO}{g:GO}(R:RepG K G H)(h:H p=some (.lst xs))(new:GOk K (upd H p o) p g):RepG K (upd3 G p g) (upd H p o):=fun a u e=>by
 by_cases z:a=p
 ·subst z;rw[qahz] at e;cases e;exact new
 ·rw[qaiz z] at e;exact (R a u e).ext (Ext.wrote h) (qlz z)
theorem RepG.newL{p:Addr}{xs:List V}{ds:List D}(R:RepG K G H)(h:H p=none)(hv:Hvs K H ds xs):RepG K (upd3 G p (.lst ds)) (upd H p (.lst xs)):=R.laidG h ⟨xs,qvz,hv.ext (.laid h)⟩
theorem RepG.wroteL{p:Addr}{xs ys:List V}{ds:List D}(R:RepG K G H)(e:H p=some (.lst xs))(hv:Hvs K H ds ys):RepG K (upd3 G p (.lst ds)) (upd H p (.lst ys)):=R.wrote e ⟨ys,qvz,hv.ext (.wrote e)⟩
theorem Step.wrote{p:Addr}{o:HO}{g u:GO}(h:G p=some u):Step H G (upd H p o) (upd3 G p g):=⟨fun a x e n=>by
 have hne:a≠p:=fun z=>by
  rw[z,h] at n;cases n
 rw[qlz hne];exact e,fun a q=>by
 by_cases z:a=p
 ·rw[z,qvz];simp
 ·rw[qlz z];exact q,fun a n q=>by
 have hne:a≠p:=fun z=>by
  rw[z,h] at n;cases n
 rw[qaiz hne] at q;exact absurd n q⟩
end
abbrev S3:=List (Option D)
def at3:S3->Nat->Option D
 |[],_=>none
 |x::_,0=>x
 |_::r,n+1=>at3 r n
def set3:S3->Nat->D->S3
 |[],_,_=>[]
 |_::r,0,d=>some d::r
 |x::r,n+1,d=>x::set3 r n d
structure RepS(K:PySem.W.Frag)(τ:S3)(σ:L2.St)(H:Hp):Prop where
 len:τ.length=σ.length
 at_:∀(i:Nat) d,at3 τ i=some d->∃v,σ[i]?=some (some v)/\Hv K H d v
theorem qjkz:∀(τ:S3) (i:Nat) (d:D),(set3 τ i d).length=τ.length
 |[],_,_=>rfl
 |_::r,0,d=>rfl
 |x::r,n+1,d=>by simp[set3,qjkz r n d]
theorem qjlz:∀(τ:S3) (i j:Nat) (d:D),at3 (set3 τ i d) j=if j=i/\i<τ.length then some d else at3 τ j
 |[],i,j,d=>by simp[set3,at3]
 |x::r,0,0,d=>by simp[set3,at3]
 |x::r,0,j+1,d=>by simp[set3,at3]
 |x::r,i+1,0,d=>by simp[set3,at3]
 |x::r,i+1,j+1,d=>by
  simp only[set3,at3,qjlz r i j d,List.length_cons];by_cases h:j=i/\i<r.length
  ·rw[if_pos h,if_pos (by lia)]
  ·rw[if_neg h,if_neg (by lia)]
section
variable {K:PySem.W.Frag} {τ:S3} {σ:L2.St} {H H':Hp}
theorem RepS.ext(R:RepS K τ σ H)(E:Ext H H'):RepS K τ σ H':=⟨R.len,fun i d h=>by
 obtain⟨v,e,q⟩:=R.at_ i d h;exact⟨v,e,q.ext E⟩⟩
theorem RepS.set(R:RepS K τ σ H){i:Nat}{d:D}{v:V}(h:Hv K H d v):RepS K (set3 τ i d) (σ.set i (some v)) H:=⟨by rw[qjkz,List.length_set];exact R.len,fun j e q=>by
 rw[qjlz] at q;by_cases c:j=i/\i<τ.length
 ·rw[if_pos c] at q;cases q;refine⟨v,?_,h⟩;rw[c.1,List.getElem?_set_self (by rw[←R.len];exact c.2)]
 ·rw[if_neg c] at q;obtain⟨u,e1,e2⟩:=R.at_ j e q;refine⟨u,?_,e2⟩;by_cases hij:i=j
  ·subst hij;have:σ.length≤i:=by
    have:=R.len;have:¬i<τ.length:=fun z=>c ⟨rfl,z⟩;lia
   rw[List.getElem?_eq_none_iff.mpr this] at e1;cases e1
  ·rw[List.getElem?_set_ne hij];exact e1⟩
end
def start3:List Str->List D->S3
 |[],_=>[]
 |_::N,[]=>none::start3 N []
 |_::N,d::ds=>some d::start3 N ds
theorem qfzz:∀(N:List Str) (ds:List D),(start3 N ds).length=N.length
 |[],_=>rfl
 |_::N,[]=>by simp[start3,qfzz N []]
 |_::N,d::ds=>by simp[start3,qfzz N ds]
theorem qjmz:∀(N:List Str) (i:Nat),at3 (start3 N []) i=none
 |[],i=>rfl
 |_::N,0=>rfl
 |_::N,i+1=>qjmz N i
theorem qjnz:∀(N:List Str) (ds:List D) (i:Nat) (d:D),at3 (start3 N ds) i=some d->ds[i]?=some d
 |[],_,_,_,h=>by cases h
 |_::N,[],i,d,h=>by
  rw[qjmz] at h;cases h
 |_::N,x::ds,0,d,h=>by
  simp only[start3,at3] at h;simpa using h
 |_::N,x::ds,i+1,d,h=>by
  simp only[start3,at3] at h;simpa using qjnz N ds i d h
theorem RepS.start{K:PySem.W.Frag}{N:List Str}{ds:List D}{vs:List V}{H:Hp}(h:Hvs K H ds vs)(hl:vs.length≤N.length):RepS K (start3 N ds) (L2.start N vs) H:=⟨by
 rw[qfzz];simp[L2.start];lia,fun i d e=>by
 obtain⟨v,e1,q⟩:=h.get (qjnz N ds i d e);refine⟨v,?_,q⟩;unfold L2.start;have hi:i<vs.length:=(List.getElem?_eq_some_iff.mp e1).1;rw[List.getElem?_append_left (by simpa using hi),List.getElem?_map,e1];rfl⟩
abbrev V3:=D->Gp->Prop
abbrev TE3:=S3->Gp->V3->Prop
abbrev TT3:=S3->Gp->(Bool->Gp->Prop)->Prop
abbrev TA3:=S3->Gp->(List D->Gp->Prop)->Prop
structure Ends3 where
 nx:S3->Gp->Prop
 rt:V3
 bk:S3->Gp->Prop:=fun _ _=>False
 ct:S3->Gp->Prop:=fun _ _=>False
abbrev TS3:=Ends3->S3->Gp->Prop
def low(K:PySem.W.Frag)(t:TE3):TE:=fun σ H Q=>∃τ G Q3,RepS K τ σ H/\RepG K G H/\t τ G Q3/\∀v H' d G',Hv K H' d v->Step H G H' G'->RepG K G' H'->Q3 d G'->Q v H'
def lowT(K:PySem.W.Frag)(t:TT3):TT:=fun σ H Q=>∃τ G Q3,RepS K τ σ H/\RepG K G H/\t τ G Q3/\∀b H' G',Step H G H' G'->RepG K G' H'->Q3 b G'->Q b H'
def lowA(K:PySem.W.Frag)(t:TA3):TA:=fun σ H Q=>∃τ G Q3,RepS K τ σ H/\RepG K G H/\t τ G Q3/\∀vs H' ds G',Hvs K H' ds vs->Step H G H' G'->RepG K G' H'->Q3 ds G'->Q vs H'
structure EndsLow(K:PySem.W.Frag)(H:Hp)(G:Gp)(D3:Ends3)(D2:Ends):Prop where
 nx:∀τ σ G' H',RepS K τ σ H'->Step H G H' G'->RepG K G' H'->D3.nx τ G'->D2.nx σ H'
 bk:∀τ σ G' H',RepS K τ σ H'->Step H G H' G'->RepG K G' H'->D3.bk τ G'->D2.bk σ H'
 ct:∀τ σ G' H',RepS K τ σ H'->Step H G H' G'->RepG K G' H'->D3.ct τ G'->D2.ct σ H'
 rt:∀d v G' H',Hv K H' d v->Step H G H' G'->RepG K G' H'->D3.rt d G'->D2.rt v H'
theorem EndsLow.step{K:PySem.W.Frag}{H H1:Hp}{G G1:Gp}{D3:Ends3}{D2:Ends}(E:EndsLow K H G D3 D2)(S:Step H G H1 G1):EndsLow K H1 G1 D3 D2:=
 ⟨fun τ σ G' H' a b c q=>E.nx τ σ G' H' a (S.trans b) c q,fun τ σ G' H' a b c q=>E.bk τ σ G' H' a (S.trans b) c q,fun τ σ G' H' a b c q=>E.ct τ σ G' H' a (S.trans b) c q,fun d v G' H' a b c q=>E.rt d v G' H' a (S.trans b) c q⟩
def lowS(K:PySem.W.Frag)(t:TS3):TS:=fun D2 σ H=>∃τ G D3,RepS K τ σ H/\RepG K G H/\t D3 τ G/\EndsLow K H G D3 D2
abbrev PE3(X:Cx)(e:Expr)(t:TE3):Prop:=PE X e (low X.K t)
abbrev PT3(X:Cx)(e:Expr)(t:TT3):Prop:=PT X e (lowT X.K t)
abbrev PW3(X:Cx)(e:Expr)(t:TT3):Prop:=PW X e (lowT X.K t)
abbrev PA3(X:Cx)(es:List Expr)(t:TA3):Prop:=PA X es (lowA X.K t)
abbrev PS3(X:Cx)(st:Stmt)(t:TS3):Prop:=PS X st (lowS X.K t)
abbrev PSs3(X:Cx)(st:List Stmt)(t:TS3):Prop:=PSs X st (lowS X.K t)
section
variable {X:Cx} {e:Expr}
theorem q0z{t t':TE}(h:PE X e t)(f:∀σ H Q,t' σ H Q->t σ H Q):PE X e t':=fun pins s σ H Q I q=>h pins s σ H Q I (f σ H Q q)
theorem qehz{t t':TT}(h:PT X e t)(f:∀σ H Q,t' σ H Q->t σ H Q):PT X e t':=fun pins s σ H Q I q=>h pins s σ H Q I (f σ H Q q)
theorem pw_of{t t':TT}(h:PW X e t)(f:∀σ H Q,t' σ H Q->t σ H Q):PW X e t':=fun w pins s σ H Q I q=>h w pins s σ H Q I (f σ H Q q)
theorem qjoz{es:List Expr}{t t':TA}(h:PA X es t)(f:∀σ H Q,t' σ H Q->t σ H Q):PA X es t':=fun p pins s σ H Q I q=>h p pins s σ H Q I (f σ H Q q)
theorem qatz{st:Stmt}{t t':TS}(h:PS X st t)(f:∀D σ H,t' D σ H->t D σ H):PS X st t':=fun pins s σ H Q I q=>h pins s σ H Q I (f Q σ H q)
theorem qjpz{st:List Stmt}{t t':TS}(h:PSs X st t)(f:∀D σ H,t' D σ H->t D σ H):PSs X st t':=fun pins s σ H Q I q=>h pins s σ H Q I (f Q σ H q)
end
def Br(b:Bool)(A B:Prop):Prop:=(b=true->A)/\(b=false->B)
theorem Br.ite{b:Bool}{A B A' B':Prop}(h:Br b A B)(f:A->A')(g:B->B'):if b=true then A' else B':=by
 cases b with
 |true=>rw[if_pos rfl];exact f (h.1 rfl)
 |false=>rw[if_neg Bool.false_ne_true];exact g (h.2 rfl)
section
variable {X:Cx} {a b e c:Expr} {ta tb te:TE3} {tA tB:TT3} {pos:Pos} {es rest:List Expr}
def eC(d:D):TE3:=fun _ G Q=>Q d G
def eVar(i:Nat):TE3:=fun τ G Q=>match at3 τ i with
 |some d=>Q d G
 |none=>False
theorem qsdz{i:Nat}{x:Str}(h:PE X (.Name x pos) (tVar i)):PE3 X (.Name x pos) (eVar i):=q0z h fun σ H Q ⟨τ,G,Q3,RS,RG,h,k⟩=>by
 unfold eVar at h;cases hd:at3 τ i with
 |none=>rw[hd] at h;exact h.elim
 |some d=>
  rw[hd] at h;obtain⟨v,e1,e2⟩:=RS.at_ i d hd;exact⟨v,e1,k v H d G e2 (.refl H G) RG h⟩
theorem qeiz{v:V}{d:D}(h:PE X e (tC v))(r:∀H,Hv X.K H d v):PE3 X e (eC d):=q0z h fun σ H Q ⟨τ,G,Q3,RS,RG,h,k⟩=>k v H d G (r H) (.refl H G) RG h
theorem qsez{i:Int}{j}:PE3 X (.Constant (.int i) j pos) (eC (.int i)):=qeiz qi1z fun H=>by simp[Hv]
theorem e_bl{i:Bool}{j}:PE3 X (.Constant (.bool i) j pos) (eC (.bl i)):=qeiz qpxz fun H=>by simp[Hv]
theorem qsfz{j}:PE3 X (.Constant .none j pos) (eC .non):=qeiz qpyz fun H=>by simp[Hv]
theorem qsgz{x:Str}{i:Int}{u:Tok}(hm:X.mg x=some (.int i u))(hg:Gl X x:=by rfl)(hd:(x==("__debug__":Str))=false:=by decide):PE3 X (.Name x pos) (eC (.int i)):=qeiz (v:=.int i) (qpzz hg hm ⟨u,rfl⟩ hd) fun H=>by simp[Hv]
abbrev R3:=D->D->Gp->V3->Prop
def eOp(r:R3)(ta tb:TE3):TE3:=fun τ G Q=>ta τ G fun x G1=>tb τ G1 fun y G2=>r x y G2 Q
def LowR(K:PySem.W.Frag)(r:R3)(r2:R2):Prop:=∀x y vx vy G H Q3 Q,Hv K H x vx->Hv K H y vy->RepG K G H->r x y G Q3->(∀v H' d G',Hv K H' d v->Step H G H' G'->RepG K G' H'->Q3 d G'->Q v H')->r2 vx vy H Q
theorem qejz{K:PySem.W.Frag}{r:R3}{r2:R2}(L:LowR K r r2){σ:L2.St}{H:Hp}{Q:VK}(h:low K (eOp r ta tb) σ H Q):tOp r2 (low K ta) (low K tb) σ H Q:=by
 obtain⟨τ,G,Q3,RS,RG,h,k⟩:=h;refine⟨τ,G,_,RS,RG,h,fun v1 H1 d1 G1 h1 S1 R1 q1=>?_⟩;refine⟨τ,G1,_,RS.ext (S1.ext RG),R1,q1,fun v2 H2 d2 G2 h2 S2 R2 q2=>?_⟩;exact L _ _ _ _ _ _ _ _ (h1.ext (S2.ext R1)) h2 R2 q2 fun v H' d G' z1 z2 z3 z4=>k v H' d G' z1 ((S1.trans S2).trans z2) z3 z4
theorem e_op{op:Operator}{r:R3}{r2:R2}(L:LowR X.K r r2)(ho:OpR X (binaryOp op) r2)(ha:PE3 X a ta)(hb:PE3 X b tb):PE3 X (.BinOp a op b pos) (eOp r ta tb):=
 q0z (qqvz ho ha hb) fun _ _ _ h=>qejz L h
theorem qshz{op:CmpOp}{r:R3}{r2:R2}(L:LowR X.K r r2)(ho:OpR X (compareOp op) r2)(ha:PE3 X a ta)(hb:PE3 X b tb)(hm:behindInMarks op b=false):PE3 X (.Compare a [op] [b] pos) (eOp r ta tb):=
 q0z (qq0z ho ha hb hm) fun _ _ _ h=>qejz L h
def eTest(t:TE3):TT3:=fun τ G Q=>t τ G fun x G1=>match x with
 |.bl k=>Q k G1
 |_=>False
theorem qf0z{K:PySem.W.Frag}{t:TE3}{σ:L2.St}{H:Hp}{Q:Bool->Hp->Prop}(h:lowT K (eTest t) σ H Q):tTest (low K t) σ H Q:=by
 obtain⟨τ,G,Q3,RS,RG,h,k⟩:=h;refine⟨τ,G,_,RS,RG,h,fun v H' d G' h1 h2 h3 h4=>?_⟩;cases d with
 |bl c=>
  unfold Hv at h1;exact⟨c,h1,k c H' G' h2 h3 h4⟩
 |_=>exact h4.elim
theorem qsiz{op:CmpOp}{r:R3}{r2:R2}(L:LowR X.K r r2)(ho:OpR X (compareOp op) r2)(ha:PE3 X a ta)(hb:PE3 X b tb)(hm:behindInMarks op b=false):PT3 X (.Compare a [op] [b] pos) (eTest (eOp r ta tb)):=
 qehz (qq1z ho ha hb hm) fun σ H Q h=>by
  obtain⟨τ,G,Q3,RS,RG,h,k⟩:=qf0z h;exact qejz L ⟨τ,G,Q3,RS,RG,h,k⟩
theorem qsjz(h:PE3 X a ta)(he:∀whole,isTrue a X.env whole=(do let v ←whole;standAt a.pos;holding [v] (truthy v)):=by intro _;rfl):PT3 X a (eTest ta):=
 qehz (qq6z h he) fun σ H Q h=>by
  obtain⟨τ,G,Q3,RS,RG,h,k⟩:=qf0z h;refine⟨τ,G,Q3,RS,RG,h,fun v H' d G' h1 h2 h3 h4=>?_⟩;obtain⟨c,rfl,q⟩:=k v H' d G' h1 h2 h3 h4;exact⟨c,rfl,q⟩
def eChain(r r':R3)(ta tb tc:TE3):TE3:=fun τ G Q=>ta τ G fun x G1=>tb τ G1 fun y G2=>r x y G2 fun z G3=>match z with
 |.bl k=>Br k (tc τ G3 fun w G4=>r' y w G4 Q) (Q (.bl false) G3)
 |_=>False
theorem qjqz{K:PySem.W.Frag}{r r':R3}{r2 r2':R2}(L:LowR K r r2)(L':LowR K r' r2'){tc:TE3}{σ:L2.St}{H:Hp}{Q:VK}(h:low K (eChain r r' ta tb tc) σ H Q):tChain r2 r2' (low K ta) (low K tb) (low K tc) σ H Q:=by
 obtain⟨τ,G,Q3,RS,RG,h,k⟩:=h;refine⟨τ,G,_,RS,RG,h,fun v1 H1 d1 G1 h1 S1 R1 q1=>?_⟩;refine⟨τ,G1,_,RS.ext (S1.ext RG),R1,q1,fun v2 H2 d2 G2 h2 S2 R2 q2=>?_⟩;refine L _ _ _ _ _ _ _ _ (h1.ext (S2.ext R1)) h2 R2 q2 fun v H3 d G3 z1 S3 R3 z4=>?_;cases d with
 |bl c=>
  unfold Hv at z1;refine⟨c,z1,Br.ite z4 (fun q=>?_) fun q=>?_⟩
  ·refine⟨τ,G3,_,((RS.ext (S1.ext RG)).ext (S2.ext R1)).ext (S3.ext R2),R3,q,fun v4 H4 d4 G4 h4 S4 R4 q4=>?_⟩;exact L' _ _ _ _ _ _ _ _ ((h2.ext (S3.ext R2)).ext (S4.ext R3)) h4 R4 q4 fun v H' d G' y1 y2 y3 y4=>k v H' d G' y1 ((((S1.trans S2).trans S3).trans S4).trans y2) y3 y4
  ·exact k _ H3 (.bl false) G3 (by simp[Hv]) ((S1.trans S2).trans S3) R3 q
 |_=>exact z4.elim
theorem qskz{op op':CmpOp}{r r':R3}{r2 r2':R2}{tc:TE3}(L:LowR X.K r r2)(L':LowR X.K r' r2')(h:PE X e (tChain r2 r2' (low X.K ta) (low X.K tb) (low X.K tc))):PE3 X e (eChain r r' ta tb tc):=
 q0z h fun _ _ _ h=>qjqz L L' h
theorem qslz{op op':CmpOp}{r r':R3}{r2 r2':R2}{tc:TE3}(L:LowR X.K r r2)(L':LowR X.K r' r2')(h:PT X e (tTest (tChain r2 r2' (low X.K ta) (low X.K tb) (low X.K tc)))):PT3 X e (eTest (eChain r r' ta tb tc)):=
 qehz h fun σ H Q h=>by
  obtain⟨τ,G,Q3,RS,RG,h,k⟩:=qf0z h;exact qjqz L L' ⟨τ,G,Q3,RS,RG,h,k⟩
def eAnd(t u:TT3):TT3:=fun τ G Q=>t τ G fun c G1=>Br c (u τ G1 Q) (Q false G1)
def eOr(t u:TT3):TT3:=fun τ G Q=>t τ G fun c G1=>Br c (Q true G1) (u τ G1 Q)
def eNot(t:TT3):TT3:=fun τ G Q=>t τ G fun c G1=>Q (!c) G1
theorem qsmz(ha:PT3 X a tA):PW3 X (.BoolOp .And [a] pos) tA:=pw_and1 ha
theorem qsnz(ha:PT3 X a tA):PW3 X (.BoolOp .Or [a] pos) tA:=pw_or1 ha
theorem qsoz(ha:PT3 X a tA)(hb:PW3 X (.BoolOp .And (b::rest) pos) tB):PW3 X (.BoolOp .And (a::b::rest) pos) (eAnd tA tB):=pw_of (pw_and ha hb) fun σ H Q h=>by
 obtain⟨τ,G,Q3,RS,RG,h,k⟩:=h;refine⟨τ,G,_,RS,RG,h,fun c H1 G1 S1 R1 q1=>?_⟩;exact Br.ite q1 (fun q=>⟨τ,G1,Q3,RS.ext (S1.ext RG),R1,q,fun b' H' G' y1 y2 y3=>k b' H' G' (S1.trans y1) y2 y3⟩) fun q=>k false H1 G1 S1 R1 q
theorem qspz(ha:PT3 X a tA)(hb:PW3 X (.BoolOp .Or (b::rest) pos) tB):PW3 X (.BoolOp .Or (a::b::rest) pos) (eOr tA tB):=pw_of (pw_or ha hb) fun σ H Q h=>by
 obtain⟨τ,G,Q3,RS,RG,h,k⟩:=h;refine⟨τ,G,_,RS,RG,h,fun c H1 G1 S1 R1 q1=>?_⟩;exact Br.ite q1 (fun q=>k true H1 G1 S1 R1 q) fun q=>⟨τ,G1,Q3,RS.ext (S1.ext RG),R1,q,fun b' H' G' y1 y2 y3=>k b' H' G' (S1.trans y1) y2 y3⟩
theorem tt_w(h:PW3 X a tA):PT3 X a tA:=h.pt
theorem qsqz(ha:PT3 X a tA):PT3 X (.UnaryOp .Not a pos) (eNot tA):=qehz (qp1z ha) fun σ H Q h=>by
 obtain⟨τ,G,Q3,RS,RG,h,k⟩:=h;exact⟨τ,G,_,RS,RG,h,fun c H1 G1 S1 R1 q1=>k _ H1 G1 S1 R1 q1⟩
def eAndV(ta tb:TE3):TE3:=fun τ G Q=>ta τ G fun x G1=>match x with
 |.bl c=>Br c (tb τ G1 Q) (Q (.bl false) G1)
 |_=>False
def eOrV(ta tb:TE3):TE3:=fun τ G Q=>ta τ G fun x G1=>match x with
 |.bl c=>Br c (Q (.bl true) G1) (tb τ G1 Q)
 |_=>False
def eNotV(ta:TE3):TE3:=fun τ G Q=>ta τ G fun x G1=>match x with
 |.bl c=>Q (.bl (!c)) G1
 |_=>False
theorem qsrz{op}(h:PE3 X a ta):PE3 X (.BoolOp op [a] pos) ta:=qp2z h
theorem qssz(ha:PE3 X a ta)(hb:PE3 X (.BoolOp .And (b::rest) pos) tb):PE3 X (.BoolOp .And (a::b::rest) pos) (eAndV ta tb):=q0z (qp3z ha hb) fun σ H Q h=>by
 obtain⟨τ,G,Q3,RS,RG,h,k⟩:=h;refine⟨τ,G,_,RS,RG,h,fun v H1 d G1 h1 S1 R1 q1=>?_⟩;cases d with
 |bl c=>
  unfold Hv at h1;exact⟨c,h1,Br.ite q1 (fun q=>⟨τ,G1,Q3,RS.ext (S1.ext RG),R1,q,fun b' H' d' G' y0 y1 y2 y3=>k b' H' d' G' y0 (S1.trans y1) y2 y3⟩) fun q=>k _ H1 (.bl false) G1 (by simp[Hv]) S1 R1 q⟩
 |_=>exact q1.elim
theorem e_or(ha:PE3 X a ta)(hb:PE3 X (.BoolOp .Or (b::rest) pos) tb):PE3 X (.BoolOp .Or (a::b::rest) pos) (eOrV ta tb):=q0z (qp4z ha hb) fun σ H Q h=>by
 obtain⟨τ,G,Q3,RS,RG,h,k⟩:=h;refine⟨τ,G,_,RS,RG,h,fun v H1 d G1 h1 S1 R1 q1=>?_⟩;cases d with
 |bl c=>
  unfold Hv at h1;exact⟨c,h1,Br.ite q1 (fun q=>k _ H1 (.bl true) G1 (by simp[Hv]) S1 R1 q) fun q=>⟨τ,G1,Q3,RS.ext (S1.ext RG),R1,q,fun b' H' d' G' y0 y1 y2 y3=>k b' H' d' G' y0 (S1.trans y1) y2 y3⟩⟩
 |_=>exact q1.elim
theorem qstz(ha:PE3 X a ta):PE3 X (.UnaryOp .Not a pos) (eNotV ta):=q0z (qp5z ha) fun σ H Q h=>by
 obtain⟨τ,G,Q3,RS,RG,h,k⟩:=h;refine⟨τ,G,_,RS,RG,h,fun v H1 d G1 h1 S1 R1 q1=>?_⟩;cases d with
 |bl c=>
  unfold Hv at h1;exact⟨c,h1,k _ H1 (.bl (!c)) G1 (by simp[Hv]) S1 R1 q1⟩
 |_=>exact q1.elim
def eIf(t:TT3)(ta tb:TE3):TE3:=fun τ G Q=>t τ G fun c G1=>Br c (ta τ G1 Q) (tb τ G1 Q)
theorem qsuz(hc:PT3 X c tA)(ha:PE3 X a ta)(hb:PE3 X b tb):PE3 X (.IfExp c a b pos) (eIf tA ta tb):=q0z (qp6z hc ha hb) fun σ H Q h=>by
 obtain⟨τ,G,Q3,RS,RG,h,k⟩:=h;refine⟨τ,G,_,RS,RG,h,fun c H1 G1 S1 R1 q1=>?_⟩;exact Br.ite q1 (fun q=>⟨τ,G1,Q3,RS.ext (S1.ext RG),R1,q,fun b' H' d' G' y0 y1 y2 y3=>k b' H' d' G' y0 (S1.trans y1) y2 y3⟩) fun q=>⟨τ,G1,Q3,RS.ext (S1.ext RG),R1,q,fun b' H' d' G' y0 y1 y2 y3=>k b' H' d' G' y0 (S1.trans y1) y2 y3⟩
def notStar:Expr->Bool
 |.Starred ..=>false
 |_=>true
theorem qpz{e:Expr}{es:List Expr}{env:Env}(h:notStar e=true):starEach (e::es) env=(false,eval e env)::starEach es env:=by
 cases e<;>first|rfl|(simp[notStar] at h)
theorem qajz{pos:Pos}{env:Env}:∀{es:List Expr},es.all notStar=true->(backTo pos (starEach es env)).any (·.1)=false
 |[],_=>rfl
 |e::es,h=>by
  rw[List.all_cons,Bool.and_eq_true] at h;rw[qpz h.1];show (false||(backTo pos (starEach es env)).any (·.1))=false;rw[qajz h.2];rfl
def aNil:TA3:=fun _ G Q=>Q [] G
def aCons(ta:TE3)(tr:TA3):TA3:=fun τ G Q=>ta τ G fun x G1=>tr τ G1 fun xs G2=>Q (x::xs) G2
theorem qsvz:PA3 X [] aNil:=qjoz qedz fun σ H Q ⟨τ,G,Q3,RS,RG,h,k⟩=>k [] H [] G .nil (.refl H G) RG h
theorem qswz{tr:TA3}(ha:PE3 X a ta)(hr:PA3 X es tr)(hs:notStar a=true:=by rfl):PA3 X (a::es) (aCons ta tr):=qjoz (qc2z ha hr (qpz hs)) fun σ H Q h=>by
 obtain⟨τ,G,Q3,RS,RG,h,k⟩:=h;refine⟨τ,G,_,RS,RG,h,fun v1 H1 d1 G1 h1 S1 R1 q1=>?_⟩;refine⟨τ,G1,_,RS.ext (S1.ext RG),R1,q1,fun vs H2 ds G2 h2 S2 R2 q2=>?_⟩;exact k _ H2 _ G2 (.cons (h1.ext (S2.ext R1)) h2) (S1.trans S2) R2 q2
def smallL{α:Type}(P:Prop):List α->Nat->Prop
 |[],_=>P
 |_::_,0=>False
 |_::xs,n+1=>smallL P xs n
theorem qekz{α:Type}{P:Prop}:∀{xs:List α} {n:Nat},smallL P xs n->xs.length≤n/\P
 |[],n,h=>⟨Nat.zero_le _,h⟩
 |_::_,0,h=>h.elim
 |_::xs,n+1,h=>by
  obtain⟨h1,h2⟩:=qekz (xs:=xs) (n:=n) h;exact⟨Nat.succ_le_succ h1,h2⟩
theorem line64{n:Nat}(h:n≤64):n≤sizeLine:=Nat.le_trans h (by decide)
def eTup(t:TA3):TE3:=fun τ G Q=>t τ G fun ds G1=>smallL (Q (.tup ds) G1) ds 64
def eLst(t:TA3):TE3:=fun τ G Q=>t τ G fun ds G1=>smallL (∀p G2,New G1 p (.lst ds) G2->Q (.obj p) G2) ds 64
theorem qsxz{t:TA3}{x1}(h:PA3 X es t):PE3 X (.Tuple es x1 pos) (eTup t):=q0z (qq9z h) fun σ H Q h=>by
 obtain⟨τ,G,Q3,RS,RG,h,k⟩:=h;refine⟨τ,G,_,RS,RG,h,fun vs H1 ds G1 h1 S1 R1 q1=>?_⟩;obtain⟨z,q1⟩:=qekz q1;refine⟨by rw[←h1.length];exact line64 z,fun p hp=>?_⟩;refine k _ _ (.tup ds) G1 ?_ (S1.trans (.laid hp)) (R1.laid hp) q1;unfold Hv;exact⟨p,vs,rfl,.of qvz,h1.ext (.laid hp)⟩
theorem qsyz{t:TA3}(h:PA3 X es t):PE3 X (.List es pos) (eLst t):=q0z (qi7z h) fun σ H Q h=>by
 obtain⟨τ,G,Q3,RS,RG,h,k⟩:=h;refine⟨τ,G,_,RS,RG,h,fun vs H1 ds G1 h1 S1 R1 q1=>?_⟩;obtain⟨z,q1⟩:=qekz q1;refine⟨by rw[←h1.length];exact line64 z,fun p hp=>?_⟩;exact k _ _ (.obj p) (upd3 G1 p (.lst ds)) (by simp[Hv]) (S1.trans (.laidG hp)) (R1.laidG hp ⟨vs,qvz,h1.ext (.laid hp)⟩) (q1 p _ (.mk' (R1.free hp)))
end
end L3
namespace L2
open PySem PySem.Spec PyProof.Rows
def clos(env:Env):List (Str×NameKind)->List (Str×Addr)->List (Str×Addr)
 |[],acc=>acc
 | (n,k)::r,acc=>clos env r (if k=.free then (n,(env.cells.lookup n).getD 0)::acc else acc)
theorem qjrz{scope:Scope}{env:Env}(h:∀y∈scope.names,y.2=.free->∃c,env.cells.lookup y.1=some c):closureFor scope env=pure (clos env scope.names []):=by
 have key:∀(l:List (Str×NameKind)) (acc:List (Str×Addr)),(∀y∈l,y.2=.free->∃c,env.cells.lookup y.1=some c) ->
   (forIn l acc fun (x:Str×NameKind) (r:List (Str×Addr))=>(do
    if (x.2==NameKind.free)=true then do
     let a ←cellOf env x.1
     pure (ForInStep.yield ((x.1,a)::r))
    else pure (ForInStep.yield r):Sem (ForInStep (List (Str×Addr)))))=pure (clos env l acc):=by
  intro l
  induction l with
  |nil=>intro acc _;rfl
  |cons y r ih=>
   intro acc hy;obtain⟨n,k⟩:=y;rw[List.forIn_cons];by_cases hk:k=.free
   ·obtain⟨c,hc⟩:=hy (n,k) List.mem_cons_self hk;have e1:cellOf env n=pure c:=by unfold cellOf;rw[show env.cells.lookup n=some c from hc]
    subst hk;simp only[beq_self_eq_true,if_true,e1,pure_bind];rw[ih _ fun y hy'=>hy y (List.mem_cons_of_mem _ hy')];show _=pure (clos env r (if NameKind.free=NameKind.free then (n,(env.cells.lookup n).getD 0)::acc else acc));rw[if_pos rfl,show env.cells.lookup n=some c from hc];rfl
   ·have hb:(k==NameKind.free)=false:=by simpa using hk
    simp only[hb,Bool.false_eq_true,if_false,pure_bind];rw[ih _ fun y hy'=>hy y (List.mem_cons_of_mem _ hy')];show _=pure (clos env r (if k=NameKind.free then (n,(env.cells.lookup n).getD 0)::acc else acc));rw[if_neg hk]
 have:=key scope.names [] h;unfold closureFor
 first
  |exact (by simpa using this)
  | (simp only[bind_pure];exact this)
theorem qjsz{env:Env}{x:Str}{c:Addr}:∀(l:List (Str×NameKind)) (acc:List (Str×Addr)),(clos env l acc).lookup x=some c ->
  acc.lookup x=some c∨((x,NameKind.free)∈l/\c=(env.cells.lookup x).getD 0)
 |[],_,h=>.inl h
 | (n,k)::r,acc,h=>by
  rcases qjsz r _ h with q|⟨q1,q2⟩
  ·by_cases hk:k=.free
   ·rw[if_pos hk,List.lookup_cons] at q;by_cases hx:(x==n)=true
    ·rw[hx] at q;have hx':x=n:=by simpa using hx
     subst hx' hk;exact .inr ⟨List.mem_cons_self,(Option.some.inj q).symm⟩
    ·have hx2:(x==n)=false:=by simpa using hx
     rw[hx2] at q;exact .inl q
   ·rw[if_neg hk] at q;exact .inl q
  ·exact .inr ⟨List.mem_cons_of_mem _ q1,q2⟩
theorem qjtz{env:Env}{x:Str}:∀(l:List (Str×NameKind)) (acc:List (Str×Addr)),acc.lookup x=some ((env.cells.lookup x).getD 0)->(clos env l acc).lookup x=some ((env.cells.lookup x).getD 0)
 |[],_,h=>h
 | (n,k)::r,acc,h=>by
  refine qjtz r _ ?_;by_cases hk:k=.free
  ·rw[if_pos hk,List.lookup_cons];by_cases hx:(x==n)=true
   ·rw[hx];have hx':x=n:=by simpa using hx
    rw[hx']
   ·have hx2:(x==n)=false:=by simpa using hx
    rw[hx2];exact h
  ·rw[if_neg hk];exact h
theorem qjuz{env:Env}{x:Str}:∀(l:List (Str×NameKind)) (acc:List (Str×Addr)),(x,NameKind.free)∈l->(clos env l acc).lookup x=some ((env.cells.lookup x).getD 0)
 |[],_,h=>by cases h
 | (n,k)::r,acc,h=>by
  rcases List.mem_cons.mp h with e|e
  ·cases e;refine qjtz r _ ?_;rw[if_pos rfl,List.lookup_cons,beq_self_eq_true]
  ·exact qjuz r _ e
structure CmpOk(N:List Str)(sc scope:Scope)(own:List Str)(js:List Nat):Prop where
 kind:scope.kind=.function
 nocell:∀y∈scope.names,y.2≠.cell
 names:∀y∈scope.names,y.2=.local->scope.names.lookup y.1=some .local
 free:∀y∈scope.names,y.2=.free->sc.names.lookup y.1=some .cell/\own.contains y.1=false
 only:∀y∈scope.names,y.2=.free->scope.names.lookup y.1=some .free
 js:∀j∈js,j<N.length/\(N.getD j Str.empty,NameKind.free)∈scope.names
def cmpN(N own:List Str)(js:List Nat):List Str:=own++js.map fun j=>N.getD j Str.empty
def cmpSt(own:List Str)(js:List Nat)(σ:St):St:=List.replicate own.length none++js.map fun j=>(σ[j]?).getD none
def Cx.cmp(X:Cx)(scope:Scope)(own:List Str)(js:List Nat)(s:Shared)(H:Hp)(fp:List Addr):Cx:=
 { X with N:=cmpN X.N own js,s₀:=s,H₀:=H,env:=compEnvC scope (clos X.env scope.names []) s.heap.objs.size X.env,outer:=X.stack,ex:=fp,fn:=fun x=>own.contains x,pn:=[],xe:=fun _ _=>False }
theorem qelz{sc:Scope}{env:Env}{x:Str}{k:NameKind}:∀(names:List (Str×NameKind)),
  (names.map fun (n,k)=>if (k==NameKind.free&&env.scope.kind==.function&&env.kindOf n==some .cell) then (n,NameKind.cell) else (n,k)).lookup x=some k ->
  (names.lookup x=some k/\(k≠.free∨k=.free))∨(k=.cell/\names.lookup x=some .free)
 |[],h=>by simp at h
 | (n,k')::r,h=>by
  have ih:=@qelz sc env x k r;have h':List.lookup x ((if (k'==NameKind.free&&env.scope.kind==.function&&env.kindOf n==some .cell)=true then (n,NameKind.cell) else (n,k'))::_)=some k:=h;rw[List.lookup_cons];by_cases hc:(k'==NameKind.free&&env.scope.kind==.function&&env.kindOf n==some .cell)=true
  ·rw[if_pos hc,List.lookup_cons] at h';cases hx:x==n with
   |true=>
    rw[hx] at h';have e:NameKind.cell=k:=Option.some.inj h';have hk':k'=.free:=by
     rw[Bool.and_eq_true,Bool.and_eq_true] at hc;simpa using hc.1.1
    exact .inr ⟨e.symm,by rw[hk']⟩
   |false=>
    rw[hx] at h';exact ih h'
  ·rw[if_neg hc,List.lookup_cons] at h';cases hx:x==n with
   |true=>
    rw[hx] at h';have e:k'=k:=Option.some.inj h';subst e;exact .inl ⟨rfl,by by_cases z:k'=.free;exact .inr z;exact .inl z⟩
   |false=>
    rw[hx] at h';exact ih h'
theorem qf1z{x:Str}{k:NameKind}{l:List (Str×NameKind)}(h:l.lookup x=some k):(x,k)∈l:=PySem.mem_of_lookup h
section
variable {X:Cx} {pins:List (Addr×Obj)} {σ:St} {H:Hp} {s:Shared} {scope:Scope} {own:List Str} {js:List Nat} {fp:List Addr}
theorem CmpOk.cells(C:CmpOk X.N X.env.scope scope own js)(ok:X.Ok):∀y∈scope.names,y.2=.free->∃c,X.env.cells.lookup y.1=some c:=fun y hy e=>
 ok.has y.1 (.inl (C.free y hy e).1)
theorem CmpOk.cl_of(C:CmpOk X.N X.env.scope scope own js)(ok:X.Ok){x:Str}{c:Addr}(h:(clos X.env scope.names []).lookup x=some c):(x,NameKind.free)∈scope.names/\X.env.cells.lookup x=some c:=by
 rcases qjsz scope.names [] h with q|⟨q1,q2⟩
 ·cases q
 ·obtain⟨c',e⟩:=C.cells ok _ q1 rfl;refine⟨q1,?_⟩;rw[q2,show X.env.cells.lookup x=some c' from e];rfl
theorem CmpOk.cl_has(C:CmpOk X.N X.env.scope scope own js)(ok:X.Ok){x:Str}(h:(x,NameKind.free)∈scope.names):∃c,(clos X.env scope.names []).lookup x=some c/\X.env.cells.lookup x=some c:=by
 obtain⟨c,e⟩:=C.cells ok _ h rfl;refine⟨c,?_,e⟩;rw[qjuz scope.names [] h,show X.env.cells.lookup x=some c from e];rfl
theorem Inv.cmpOk(I:Inv X pins σ H s)(C:CmpOk X.N X.env.scope scope own js)(hf:∀b∈fp,FpOk X pins H b/\b<s.heap.objs.size):(X.cmp scope own js s H fp).Ok where
 mod:=I.ok.mod
 kind:=C.kind
 glob:=I.ok.glob
 blt:=I.ok.blt
 above:=Nat.le_refl _
 inj:=fun x y c h1 h2=>I.ok.inj x y c (C.cl_of I.ok h1).2 (C.cl_of I.ok h2).2
 has:=fun x h=>by
  have hfree:(x,NameKind.free)∈scope.names:=by
   rcases h with h|h
   ·rcases qelz (sc:=scope) (env:=X.env) scope.names h with⟨q,_⟩|⟨_,q⟩
    ·exact absurd rfl (C.nocell _ (qf1z q))
    ·exact qf1z q
   ·rcases qelz (sc:=scope) (env:=X.env) scope.names h with⟨q,_⟩|⟨q,_⟩
    ·exact qf1z q
    ·cases q
  obtain⟨c,e,_⟩:=C.cl_has I.ok hfree;exact⟨c,e⟩
 cab:=fun x c h1 h2=>by
  have q:=(C.free _ (C.cl_of I.ok h2).1 rfl).2;have h1':own.contains x=true:=h1;rw[q] at h1';cases h1'
 hd:=I.ok.hd
 frames:=I.ok.frames
 stk:=.inl rfl
 exf:=fun b hb=>⟨Nat.ne_of_lt (hf b hb).2,fun x c e=>(hf b hb).1.2.2.2.2.1 x c (C.cl_of I.ok e).2⟩
 bs:=I.bs
 bsz:=Nat.le_trans I.ok.bsz I.sz
 noex:=fun b o e hb=>by
  rcases (hf b hb).1.2.2.2.1 with z|z
  ·exact I.ok.noex b o e z
  ·exact absurd (Nat.lt_of_lt_of_le (Heap.lt_size e) (Nat.le_trans I.ok.bsz z)) (Nat.lt_irrefl _)
 exfs:=fun b hb z=>by
  rcases List.mem_cons.mp (I.stkSub b z) with e|e
  ·exact (hf b hb).1.2.1 e
  ·exact (hf b hb).1.2.2.1 e
 funs:=I.stack
 frf:=I.stkFree
theorem qszz{N:List Str}{js:List Nat}{i:Nat}{x:Str}(h:(js.map fun j=>N.getD j Str.empty)[i]?=some x):∃j,js[i]?=some j/\x=N.getD j Str.empty:=by
 rw[List.getElem?_map] at h;cases e:js[i]? with
 |none=>rw[e] at h;cases h
 |some j=>rw[e] at h;exact⟨j,rfl,(Option.some.inj h).symm⟩
theorem Inv.cmp(I:Inv X pins σ H s)(C:CmpOk X.N X.env.scope scope own js)(hf:∀b∈fp,FpOk X pins H b/\b<s.heap.objs.size){h':Heap}{tk:Nat}(hn:h'.Ns s.heap.objs.size fun _=>none)
  (kept:∀b o,s.heap.get? b=some o->h'.get? b=some o):Inv (X.cmp scope own js s H fp) [] (cmpSt own js σ) H { s with heap:=h',toks:=tk }:=by
 have ok:=I.cmpOk C hf;refine⟨ok,rfl,I.bare,Un.kept kept,⟨_,hn,fun i x v h1 h2 h3=>?_⟩,fun x c e=>?_,I.hok.fresh (Nat.le_refl _),fun x c e=>I.freeC x c (C.cl_of I.ok e).2,fun p hp=>?_,I.hok.kept kept,?_⟩
 ·have h1':(own++js.map fun j=>X.N.getD j Str.empty)[i]?=some x:=h1;have h2':(List.replicate own.length none++js.map fun j=>(σ[j]?).getD none)[i]?=some (some v):=h2;by_cases hi:i<own.length
  ·rw[List.getElem?_append_left (by simpa using hi),List.getElem?_replicate,if_pos hi] at h2';cases h2'
  ·rw[List.getElem?_append_right (by lia)] at h1';rw[List.getElem?_append_right (by simp;lia),List.length_replicate] at h2';obtain⟨j,hj,rfl⟩:=qszz h1';rw[List.getElem?_map,hj] at h2';have h2'':(σ[j]?).getD none=some v:=Option.some.inj h2';have hσ:σ[j]?=some (some v):=by
    cases e:σ[j]? with
    |none=>rw[e] at h2'';cases h2''
    |some o=>
     rw[e] at h2'';have:o=some v:=h2'';rw[this]
   obtain⟨jl,jf⟩:=C.js j (List.mem_of_getElem? hj);have hN:X.N[j]?=some (X.N.getD j Str.empty):=by
    rw[List.getD_eq_getElem?_getD,List.getElem?_eq_getElem jl];rfl
   have hcell:=(C.free _ jf rfl).1;obtain⟨m,hm,hl⟩:=I.loc;obtain⟨u,ru,lk⟩:=hl j _ v hN hσ (.inr (.inl hcell));refine⟨u,ru,?_⟩;obtain⟨c,e1,e2⟩:=C.cl_has I.ok jf;rcases lk with⟨z,_⟩|⟨_,c',z1,z2⟩
   ·have z':X.env.scope.names.lookup (X.N.getD j Str.empty)=some .local:=z;rw[show X.env.scope.names.lookup (X.N.getD j Str.empty)=some .cell from hcell] at z';cases z'
   ·rw[e2] at z1;cases z1;have ic:h'.IsCell c (some u):=by
     obtain⟨o,q1,q2⟩:=z2;exact⟨o,kept _ _ q1,q2⟩
    rcases h3 with h3|h3|h3
    ·exfalso;rcases qelz (sc:=scope) (env:=X.env) scope.names h3 with⟨q,_⟩|⟨q,_⟩
     ·have z:=C.only _ jf rfl;rw[q] at z;cases z
     ·cases q
    ·exact .inr ⟨.inl h3,c,e1,ic⟩
    ·exact .inr ⟨.inr h3,c,e1,ic⟩
 ·obtain⟨v,o,q1,q2⟩:=I.cell x c (C.cl_of I.ok e).2;exact⟨v,o,kept _ _ q1,q2⟩
 ·exact absurd (show p∈([]:List (Addr×Obj)) from hp) (by simp)
 ·show (List.replicate own.length none++js.map fun j=>(σ[j]?).getD none).length=(own++js.map fun j=>X.N.getD j Str.empty).length;simp
theorem Inv.uncmp{σ':St}{H':Hp}{s':Shared}{pl:List (Addr×Obj)}(I:Inv X pins σ H s)(hf:∀b∈fp,FpOk X pins H b/\b<s.heap.objs.size)(J:Inv (X.cmp scope own js s H fp) pl σ' H' s'):Inv X pins σ H' s':=by
 refine I.call' (ch:=fp) J.os J.base J.hok J.bare fun b hb=>?_;obtain⟨f0,f1,f2,f3,f4,f5⟩:=(hf b hb).1;exact⟨f3,f1,f4,f5⟩
theorem Inv.other{H':Hp}{s':Shared}{h':Heap}{b:Addr}(I0:Inv X pins σ H s)(I:Inv X pins σ H' s')(hb:s.heap.objs.size≤b)(hn:H' b=none)(sb:Heap.SameBut b s'.heap h'):Inv X pins σ H' { s' with heap:=h' }:=by
 obtain⟨f0,f1,f2,f3,f4,f5⟩:=I0.fpOk hb hn;exact I.turned (t':=s'.toks) (fun c o hc e=>(sb.2 c hc).trans e) f0 f1 f3 f4 f5
end
def PCt(X:Cx)(ifs:List Expr)(t:TT):Prop:=
 ∀(pins:List (Addr×Obj)) (s:Shared) (σ:St) (H:Hp) (Q:Bool->Hp->Prop),Inv X pins σ H s->t σ H Q ->
  wpAny (model X.prog X.w) X.A (forIn ifs true fun c r=>if r=true then do let ok ←isTrue c X.env (eval c X.env);pure (ForInStep.yield ok) else pure (ForInStep.yield r)) (TP X pins σ Q) X.xe s
def tNoTest:TT:=fun _ H Q=>Q true H
theorem qs0z{X:Cx}:PCt X [] tNoTest:=fun _ _ _ H _ I h=>wpAny_tests_nil ⟨H,I,h⟩
theorem qs1z{X:Cx}{c:Expr}{t:TT}(h:PT X c t):PCt X [c] t:=fun pins s σ H Q I hq=>wpAny_tests_one (h pins s σ H Q I hq)
section
variable {prog:Program} {w:World} {A:Around} {R:Result->Shared->Prop} {s:Shared}
theorem qs2z{elt target iter:Expr}{ifs:List Expr}{scope:Scope}{pos:Pos}{it acc:Value}{env:Env}(I:Nat->Shared->Prop)
  (turn:∀n s,I n s->wpAny (model prog w) A (pyNext it) (fun r s₁=>match r with
   |none=>R (.ok .next) s₁
   | some v=>wpAny (model prog w) A (letOwnedTupleGo target it v) (fun _ s₁'=>wpAny (model prog w) A (assign target env v) (fun _ s₂=>
     wpAny (model prog w) A (forIn ifs true fun c r=>if r=true then do let ok ←isTrue c env (eval c env);pure (ForInStep.yield ok) else pure (ForInStep.yield r)) (fun ok s₃=>
      if ok=true then wpAny (model prog w) A (eval elt env) (fun x s₄=>
       wpAny (model prog w) A (call (.builtin "list.append") [acc,x]) (fun _ s₅=>∃m,m<n/\I m s₅) (fun _ _=>False) s₄) (fun _ _=>False) s₃
      else ∃m,m<n/\I m s₃) (fun _ _=>False) s₂) (fun _ _=>False) s₁') (fun _ _=>False) s₁) (fun _ _=>False) s)
  (n:Nat) (h:I n s):
  codeAny (model prog w) A (.compLoop (.ListComp elt [⟨target,iter,ifs,0⟩] scope pos) 0 it acc env) R s:=by
 refine codeAny_loop rfl I (fun n s hI=>?_) n h;show wpAny _ A ((compTurn (.ListComp elt [⟨target,iter,ifs,0⟩] scope pos) 0 it acc env).onRaise (fun x=>do noteFrame x env;theTreesLotGoes x)) _ _ s
 refine wpAny_noted ?_;rw[compTurn_list];refine wpAny_bind (wpAny_standAt (wpAny_bind (wpAny_mono (turn n s hI) (fun r s₁ h₁=>?_) fun _ _ h'=>h'.elim)));cases r with
 |none=>exact wpAny_pure h₁
 |some v=>
  refine wpAny_bind (wpAny_mono h₁ (fun _ s₁' h₁'=>?_) fun _ _ h'=>h'.elim);refine wpAny_bind (wpAny_mono h₁' (fun _ s₂ h₂=>wpAny_bind (wpAny_mono h₂ (fun ok s₃ h₃=>?_) fun _ _ h'=>h'.elim)) fun _ _ h'=>h'.elim);cases ok with
  |false=>exact wpAny_pure ⟨rfl,h₃⟩
  |true=>
   exact wpAny_bind (wpAny_bind (wpAny_mono h₃ (fun x s₄ h₄=>wpAny_bind (wpAny_mono h₄ (fun _ s₅ h₅=>wpAny_pure (wpAny_pure ⟨rfl,h₅⟩)) fun _ _ h'=>h'.elim)) fun _ _ h'=>h'.elim))
end
def LcRd(own:List Str)(js:List Nat)(g:TG)(tc:TT)(te:TE)(J:It)(σ:St)(H:Hp)(Q:VK):Prop:=
 ∀D,H D=none->∃W:Nat->Nat->List V->St->Hp->Prop,(∃m,W 0 m [] (cmpSt own js σ) (upd H D (.lst [])))/\∀i m ys σ' H',W i m ys σ' H'->H' D=some (.lst ys) ∧
  ((J.stop i H'/\Q (.ref D) H')∨(J.go i H'/\ys.length<sizeLine/\∀x H2,J.yld i H' x H2->g x σ' H2 fun σ2 H3=>tc σ2 H3 fun b H4=>
   if b=true then te σ2 H4 fun v H5=>H5 D=some (.lst ys)/\∃m',m' < m/\W (i+1) m' (ys++[v]) σ2 (upd H5 D (.lst (ys++[v]))) else ∃m',m' < m/\W (i+1) m' ys σ2 H4))
def tLc(own:List Str)(js:List Nat)(wi:TI)(g:TG)(tc:TT)(te:TE):TE:=fun σ H Q=>wi σ H fun J H1=>LcRd own js g tc te J σ H1 Q
section
variable {X:Cx} {tg iter elt:Expr} {ifs:List Expr} {scope:Scope} {pos:Pos} {own:List Str} {js:List Nat} {g:TG} {tc:TT} {te:TE}
theorem qjvz{pins:List (Addr×Obj)}{σ:St}{H:Hp}{s:Shared}{Q:VK}{it:Addr}{fp:List Addr}{tn:Nat->Heap->Prop}{J:It}{E:Value->Shared->Prop}{RR:Value->Addr->Result->Shared->Prop}
  (hc:X.calm=true) (C:CmpOk X.N X.env.scope scope own js)
  (hb:∀s H fp,PG (X.cmp scope own js s H fp) tg g/\PCt (X.cmp scope own js s H fp) ifs tc/\PE (X.cmp scope own js s H fp) elt te)
  (I:Inv X pins σ H s) (T:Turn X.prog X.w X.K tg J fp it tn) (st:tn 0 s.heap) (hf:∀b∈fp,FpOk X pins H b) (rd:LcRd own js g tc te J σ H Q)
  (hRR:∀D N s' H',Inv X pins σ H' s'->Q (.ref D) H'->s.heap.objs.size≤N->H' N=none->(∃m,s'.heap.Ns N m)->RR (.ref D) N (.ok .next) s'):
  wpAny (model X.prog X.w) X.A (newList []) (fun acc s₃=>wpAny (model X.prog X.w) X.A (newFunctionEnv scope X.env.globals (clos X.env scope.names []) [] X.env.qual none .none (some X.env)) (fun cenv s₄=>
   codeAny (model X.prog X.w) X.A (.compStart (.ListComp elt [⟨tg,iter,ifs,0⟩] scope pos) 0 (.ref it) acc { cenv with scope:=relabel scope X.env }) (RR acc cenv.locals) s₄) E s₃) E s:=by
 have hD:H s.heap.objs.size=none:=I.fresh;obtain⟨W,⟨m0,w0⟩,turn⟩:=rd s.heap.objs.size hD;refine wpAny_newObj_type ?_;have hI3:Inv X pins σ (upd H s.heap.objs.size (.lst [])) { s with heap:=s.heap.push { cls:=.type "list",data:=.seq ([]:List Value).toArray }}:=
  I.lnew (t':=s.toks) (its:=[]) (ys:=[]) .nil (Nat.zero_le _)
 have hlt:∀b∈fp,b<s.heap.objs.size:=fun b hb=>by
  obtain⟨o,e,_⟩:=T.obj 0 _ st b hb;exact Heap.lt_size e
 have st3:tn 0 (s.heap.push { cls:=.type "list",data:=.seq ([]:List Value).toArray }):=T.keep 0 _ _ st fun b _ o e=>Heap.get?_push_of_some _ e;generalize hs3:({ s with heap:=s.heap.push { cls:=.type "list",data:=.seq ([]:List Value).toArray }}:Shared)=s3 at hI3 ⊢;have hsz3:s3.heap.objs.size=s.heap.objs.size+1:=by rw[←hs3];exact Heap.size_push ..
 have st3':tn 0 s3.heap:=by rw[←hs3];exact st3
 have hf3:∀b∈fp,FpOk X pins (upd H s.heap.objs.size (.lst [])) b/\b<s3.heap.objs.size:=fun b hb=>by
  obtain⟨f0,f1⟩:=hf b hb;refine⟨⟨?_,f1⟩,by rw[hsz3];exact Nat.lt_succ_of_lt (hlt b hb)⟩;rw[qlz (Nat.ne_of_lt (hlt b hb))];exact f0
 refine wpAny_newFunctionEnv C.nocell (by intro y hy;simp at hy) (fun h₁ hns₁ hsb₁=>?_) C.kind;have kept1:∀b o,s3.heap.get? b=some o->h₁.get? b=some o:=fun b o e=>(hsb₁.2 b (Nat.ne_of_lt (Heap.lt_size e))).trans (Heap.get?_push_of_some _ e);have I4:Inv (X.cmp scope own js s3 (upd H s.heap.objs.size (.lst [])) fp) [] (cmpSt own js σ) (upd H s.heap.objs.size (.lst [])) { s3 with heap:=h₁,toks:=s3.toks+([]:List (Str×Value)).length }:=
  hI3.cmp C hf3 hns₁ kept1
 have st4:tn 0 h₁:=T.keep 0 _ _ st3' fun b _ o e=>kept1 b o e;obtain⟨hg,ht,he⟩:=hb s3 (upd H s.heap.objs.size (.lst [])) fp
 -- the iterator's objects in the block's context
 have stat:∀{H':Hp},(∀b∈fp,H' b=none)->∀b∈fp,FpOk (X.cmp scope own js s3 (upd H s.heap.objs.size (.lst [])) fp) [] H' b:=fun {H'} hn b hb=>by
  have q:=I4.ok;exact⟨hn b hb,(q.exf b hb).1,q.exfs b hb,.inl hb,(q.exf b hb).2,fun p hp=>absurd (show p∈([]:List (Addr×Obj)) from hp) (by simp)⟩
 have loop:codeAny (model X.prog X.w) X.A (.compLoop (.ListComp elt [⟨tg,iter,ifs,0⟩] scope pos) 0 (.ref it) (.ref s.heap.objs.size) (compEnvC scope (clos X.env scope.names []) s3.heap.objs.size X.env))
   (RR (.ref s.heap.objs.size) s3.heap.objs.size) { s3 with heap:=h₁,toks:=s3.toks+([]:List (Str×Value)).length }:=by
  refine qs2z (fun n s'=>∃i ys σ' H',Inv (X.cmp scope own js s3 (upd H s.heap.objs.size (.lst [])) fp) [] σ' H' s'/\tn i s'.heap/\(∀b∈fp,H' b=none)/\W i n ys σ' H') ?_ m0
   ⟨0,[],_,_,I4,st4,fun b hb=>(hf3 b hb).1.1,w0⟩
  rintro n s5 ⟨i,ys,σ5,H5,I5,st5,fr5,w5⟩;obtain⟨hacc,hcase⟩:=turn i n ys σ5 H5 w5;rcases hcase with⟨stop,qn⟩|⟨go,hys,step⟩
  ·refine thn (T.done (X.cmp scope own js s3 (upd H s.heap.objs.size (.lst [])) fp) rfl rfl rfl hc i [] s5 σ5 H5 (fun _ _=>False) I5 (stat fr5) st5 stop) fun r s6 ⟨hr,I6⟩=>?_;subst hr;have I7:=hI3.uncmp hf3 I6;obtain⟨m,hm,_⟩:=I6.loc;exact hRR _ _ _ _ I7 qn (by rw[hsz3];exact Nat.le_succ _) I6.free ⟨m,hm⟩
  ·refine thn (T.item (X.cmp scope own js s3 (upd H s.heap.objs.size (.lst [])) fp) rfl rfl rfl hc i [] s5 σ5 H5 (fun _ _=>False) I5 (stat fr5) st5 go) fun r s6 ⟨u,hr,h6⟩=>?_;subst hr;refine thn h6 fun _ s7 ⟨x,H7,I7,r7,y7,st7,fr7⟩=>?_;have I7':=I7.pinned (stat fr7) (T.obj _ _ st7);refine thn (hg _ s7 σ5 H7 x u _ I7' r7 (step x H7 y7)) fun _ s8 ⟨σ8,H8,I8,q8⟩=>?_;refine thn (ht _ s8 σ8 H8 _ I8 q8) fun ok s9 ⟨H9,I9,q9⟩=>?_;have back:∀{σ':St} {H':Hp} {s':Shared} {ys':List V},Inv (X.cmp scope own js s3 (upd H s.heap.objs.size (.lst [])) fp) ([]++pinsAt fp s7.heap) σ' H' s'->(∃m',m' < n/\W (i+1) m' ys' σ' H') ->
     ∃m',m' < n/\∃i ys σ' H',Inv (X.cmp scope own js s3 (upd H s.heap.objs.size (.lst [])) fp) [] σ' H' s'/\tn i s'.heap/\(∀b∈fp,H' b=none)/\W i m' ys σ' H':=fun {σ' H' s' ys'} I' ⟨m',hm,w'⟩=>by
    refine⟨m',hm,i+1,ys',σ',H',I'.unpinned,T.keep _ _ _ st7 fun b hb o e=>(I'.pin (b,o) (List.mem_append_right _ (List.mem_append_right _ (qebz hb e)))).1,fun b hb=>?_,w'⟩;obtain⟨o,e,d⟩:=T.obj _ _ st7 b hb;exact (I'.pin (b,o) (List.mem_append_right _ (List.mem_append_right _ (qebz hb e)))).2.1
   cases ok with
   |false=>
    rw[if_neg Bool.false_ne_true] at q9 ⊢;exact back I9 q9
   |true=>
    rw[if_pos rfl] at q9 ⊢;refine thn (he _ s9 σ8 H9 _ I9 q9) fun xv s10 ⟨v,H10,I10,r10,hD10,q10⟩=>?_;refine thn (qegz (X:=X.cmp scope own js s3 (upd H s.heap.objs.size (.lst [])) fp) _ s10 σ8 H10 (.ref s.heap.objs.size) [v] (.ref s.heap.objs.size) [xv] (fun _ H'=>H'=upd H10 s.heap.objs.size (.lst (ys++[v]))) I10 rfl (.cons r10 .nil)
     ⟨_,ys,v,rfl,rfl,hD10,hys,rfl⟩) fun _ s11 ⟨_,H11,I11,_,e11⟩=>?_
    subst e11;exact back I11 q10
 exact codeAny_compStart_list loop (T.self _ 0 _ _ _ st4 loop)
theorem qs3z{wi:TI}(hc:X.calm=true)(C:CmpOk X.N X.env.scope scope own js)(hi:PI X tg iter wi)
  (hb:∀s H fp,PG (X.cmp scope own js s H fp) tg g/\PCt (X.cmp scope own js s H fp) ifs tc/\PE (X.cmp scope own js s H fp) elt te)
  (hs:∀x,foldedSetIterable iter X.env x=pure x:=by intro _;rfl):PE X (.ListComp elt [⟨tg,iter,ifs,0⟩] scope pos) (tLc own js wi g tc te):=by
 intro pins s σ H Q I h;rw[eval_ListComp];refine wpAny_comprehension_free (use:=none) rfl hs (qjrz (C.cells I.ok)) C.kind C.names (thn (hi pins s σ H _ I h) fun xv s₁ h₁=>thn h₁ fun itv s₂ h₂=>?_);obtain⟨it,fp,tn,J,H2,e,I2,T,st2,f2,rd⟩:=h₂;subst e;refine qjvz (RR:=fun acc C'=>compPost (model X.prog X.w) X.A X.xe none (EP X pins σ Q) acc C') hc C hb I2 T st2 f2 rd fun D N s' H' I' q hN hHN ⟨m,hm⟩=>?_;exact⟨m,hm,fun h' sb=>⟨.ref D,H',I2.other I' hN hHN sb,rfl,q⟩⟩
theorem qs4z{wi:TI}{i:Nat}{y:Str}{py spos:Pos}(hc:X.calm=true)(hN:X.N.Nodup)(hy:X.N[i]?=some y)(hyl:X.env.scope.names.lookup y=some .local)(C:CmpOk X.N X.env.scope scope own js)(hi:PI X tg iter wi)
  (hb:∀s H fp,PG (X.cmp scope own js s H fp) tg g/\PCt (X.cmp scope own js s H fp) ifs tc/\PE (X.cmp scope own js s H fp) elt te)
  (hsw:swapsWith (.ListComp elt [⟨tg,iter,ifs,0⟩] scope pos) (some (.Name y py)) spos.line X.env=pure true:=by rfl)
  (hs:∀x,foldedSetIterable iter X.env x=pure x:=by intro _;rfl):PS X (.Assign [.Name y py] (.ListComp elt [⟨tg,iter,ifs,0⟩] scope pos) spos) (tAsg (tLc own js wi g tc te) (gName i)):=by
 intro pins s σ H D I h;rw[exec_Assign_Name_used _ _ _ _ hsw];refine wpAny_bind (wpAny_standAt (wpAny_bind ?_));show wpAny _ X.A (do let _ ←comprehension (.ListComp elt [⟨tg,iter,ifs,0⟩] scope pos) scope X.env _ (newList []) false (eval iter X.env) (some (assign (.Name y py) X.env))) _ _ s;refine wpAny_bind (wpAny_mono (wpAny_comprehension_free (use:=some (assign (.Name y py) X.env)) (Q:=fun _ s'=>SP X pins D .next s') rfl hs (qjrz (C.cells I.ok)) C.kind C.names
  (thn (hi pins s σ H _ I h) fun xv s₁ h₁=>thn h₁ fun itv s₂ h₂=>?_)) (fun _ s' hq=>wpAny_pure (wpAny_pure hq)) fun _ _ e=>e)
 obtain⟨it,fp,tn,J,H2,e,I2,T,st2,f2,rd⟩:=h₂;subst e;refine qjvz (RR:=fun acc C'=>compPost (model X.prog X.w) X.A X.xe (some (assign (.Name y py) X.env)) (fun _ s'=>SP X pins D .next s') acc C') hc C hb I2 T st2 f2 rd fun L N s' H' I' q hN' hHN ⟨m,hm⟩=>?_
 show wpAny _ _ (assign (.Name y py) X.env (.ref L)) _ _ _;refine wpAny_assign_Name (qi0z I' hN hy (.inl hyl) (v:=.ref L) rfl (fun s'' I'' ⟨a,sb,ha⟩=>?_) (.inr hyl));have hNa:N≠a:=by
  obtain⟨f0,f1,f2,f3,f4,f5⟩:=I2.fpOk hN' hHN;rcases ha with rfl|ha
  ·exact f1
  ·exact Ne.symm (f4 _ _ ha)
 refine⟨m,hm.sameBut sb hNa,fun h'' sb''=>?_⟩;refine⟨σ.set i (some (.ref L)),H',?_,q⟩;obtain⟨f0,f1,f2,f3,f4,f5⟩:=I2.fpOk hN' hHN;exact I''.turned (t':=s''.toks) (fun c o hc e=>(sb''.2 c hc).trans e) f0 f1 f3 f4 f5
end
end L2
namespace L3
open PySem PySem.Spec PyProof.Rows L2
section
variable {X:Cx} {st:Stmt} {rest:List Stmt} {t u:TS3} {e c:Expr} {te:TE3} {tc:TT3} {pos:Pos}
def sNext:TS3:=fun D τ G=>D.nx τ G
def sSeq(t u:TS3):TS3:=fun D τ G=>t { D with nx:=u D } τ G
theorem qs5z:PSs3 X [] sNext:=qjpz qp7z fun D σ H ⟨τ,G,D3,RS,RG,h,k⟩=>k.nx τ σ G H RS (.refl H G) RG h
theorem qs6z(h1:PS3 X st t)(h2:PSs3 X rest u):PSs3 X (st::rest) (sSeq t u):=qjpz (qp8z h1 h2) fun D σ H ⟨τ,G,D3,RS,RG,h,k⟩=>
 ⟨τ,G,{ D3 with nx:=u D3 },RS,RG,h,⟨fun τ' σ' G' H' a b c q=>⟨τ',G',D3,a,c,q,k.step b⟩,k.bk,k.ct,k.rt⟩⟩
theorem qs7z(h1:PS3 X st t):PSs3 X [st] t:=qp9z h1
def sDrop(te:TE3):TS3:=fun D τ G=>te τ G fun _ G1=>D.nx τ G1
theorem qs8z(he:PE3 X e te)(hs:swapsWith e none pos.line X.env=pure false:=by rfl):PS3 X (.Expr e pos) (sDrop te):=qatz (qqaz he hs) fun D σ H ⟨τ,G,D3,RS,RG,h,k⟩=>
 ⟨τ,G,_,RS,RG,h,fun v H1 d G1 h1 S1 R1 q1=>k.nx τ σ G1 H1 (RS.ext (S1.ext RG)) S1 R1 q1⟩
def sRet(te:TE3):TS3:=fun D τ G=>te τ G D.rt
theorem qs9z(he:PE3 X e te):PS3 X (.Return (some e) pos) (sRet te):=qatz (qqbz he) fun D σ H ⟨τ,G,D3,RS,RG,h,k⟩=>
 ⟨τ,G,D3.rt,RS,RG,h,fun v H1 d G1 h1 S1 R1 q1=>k.rt d v G1 H1 h1 S1 R1 q1⟩
def sIf(c:TT3)(t u:TS3):TS3:=fun D τ G=>c τ G fun b G1=>Br b (t D τ G1) (u D τ G1)
theorem s_if{a b:List Stmt}(hc:PT3 X c tc)(ha:PSs3 X a t)(hb:PSs3 X b u):PS3 X (.If c a b pos) (sIf tc t u):=qatz (qqcz hc ha hb) fun D σ H ⟨τ,G,D3,RS,RG,h,k⟩=>
 ⟨τ,G,_,RS,RG,h,fun b H1 G1 S1 R1 q1=>Br.ite q1 (fun q=>⟨τ,G1,D3,RS.ext (S1.ext RG),R1,q,k.step S1⟩) fun q=>⟨τ,G1,D3,RS.ext (S1.ext RG),R1,q,k.step S1⟩⟩
def sNever:TS3:=fun _ _ _=>False
theorem qtaz:PS3 X st sNever:=qatz qqdz fun D σ H ⟨τ,G,D3,RS,RG,h,k⟩=>h
end
abbrev TG3:=D->S3->Gp->(S3->Gp->Prop)->Prop
abbrev TGs3:=List D->S3->Gp->(S3->Gp->Prop)->Prop
def lowG(K:PySem.W.Frag)(t:TG3):TG:=fun v σ H Q=>∃d τ G Q3,Hv K H d v/\RepS K τ σ H/\RepG K G H/\t d τ G Q3/\∀τ' σ' G' H',RepS K τ' σ' H'->Step H G H' G'->RepG K G' H'->Q3 τ' G'->Q σ' H'
def lowGs(K:PySem.W.Frag)(t:TGs3):TGs:=fun vs σ H Q=>∃ds τ G Q3,Hvs K H ds vs/\RepS K τ σ H/\RepG K G H/\t ds τ G Q3/\∀τ' σ' G' H',RepS K τ' σ' H'->Step H G H' G'->RepG K G' H'->Q3 τ' G'->Q σ' H'
abbrev PG3(X:Cx)(tg:Expr)(t:TG3):Prop:=PG X tg (lowG X.K t)
abbrev PGs3(X:Cx)(tgs:List Expr)(t:TGs3):Prop:=PGs X tgs (lowGs X.K t)
section
variable {X:Cx} {pos:Pos} {e:Expr} {es:List Expr}
theorem qf2z{t t':TG}(h:PG X e t)(f:∀v σ H Q,t' v σ H Q->t v σ H Q):PG X e t':=fun pins s σ H v u Q I r q=>h pins s σ H v u Q I r (f v σ H Q q)
theorem qjwz{t t':TGs}(h:PGs X es t)(f:∀v σ H Q,t' v σ H Q->t v σ H Q):PGs X es t':=fun pins s σ H v u Q I r q=>h pins s σ H v u Q I r (f v σ H Q q)
def hName(i:Nat):TG3:=fun d τ G Q=>Q (set3 τ i d) G
theorem qtbz{i:Nat}{x:Str}(hN:X.N.Nodup)(hi:X.N[i]?=some x:=by rfl)(hx:Loc X.env.scope x:=by first|exact Or.inl rfl|exact Or.inr rfl)(hf:X.fn x=true∨X.env.scope.names.lookup x=some .local:=by first|exact .inl rfl|exact .inr rfl|assumption):PG3 X (.Name x pos) (hName i):=
 qf2z (qqez hN hi hx hf) fun v σ H Q ⟨d,τ,G,Q3,hd,RS,RG,h,k⟩=>k _ _ G H (RS.set hd) (.refl H G) RG h
def hNil:TGs3:=fun ds τ G Q=>match ds with
 |[]=>Q τ G
 |_::_=>False
def hCons(t:TG3)(u:TGs3):TGs3:=fun ds τ G Q=>match ds with
 |[]=>False
 |d::r=>t d τ G fun τ' G'=>u r τ' G' Q
theorem qtcz:PGs3 X [] hNil:=qjwz qqfz fun vs σ H Q ⟨ds,τ,G,Q3,hd,RS,RG,h,k⟩=>by
 cases ds with
 |nil=>exact⟨hd.inv0,k _ _ G H RS (.refl H G) RG h⟩
 |cons d r=>exact h.elim
theorem qtdz{t:TG3}{u:TGs3}(h1:PG3 X e t)(h2:PGs3 X es u)(hs:(assignEach (e::es) X.env).map (·.2)=assign e X.env::(assignEach es X.env).map (·.2):=by rfl):PGs3 X (e::es) (hCons t u):=
 qjwz (qqgz h1 h2 hs) fun vs σ H Q ⟨ds,τ,G,Q3,hd,RS,RG,h,k⟩=>by
  cases ds with
  |nil=>exact h.elim
  |cons d r=>
   obtain⟨v,vr,rfl,q1,q2⟩:=hd.inv;refine⟨v,vr,rfl,d,τ,G,_,q1,RS,RG,h,fun τ' σ' G' H' a b c q=>?_⟩;exact⟨r,τ',G',Q3,q2.ext (b.ext RG),a,c,q,fun τ2 σ2 G2 H2 a2 b2 c2=>k τ2 σ2 G2 H2 a2 (b.trans b2) c2⟩
def hTup(n:Nat)(t:TGs3):TG3:=fun d τ G Q=>match d with
 |.tup ds=>ds.length=n/\t ds τ G Q
 |_=>False
theorem qtez{k:Nat}{t:TGs3}{n:Nat}(hc:X.calm=true)(h:PGs3 X es t)(hn:(assignEach es X.env).length=n:=by rfl)(hst:(assignEach es X.env).findIdx? (·.1)=none:=by rfl):PG3 X (.Tuple es k pos) (hTup n t):=
 qf2z (qqhz hc h hn hst) fun v σ H Q ⟨d,τ,G,Q3,hd,RS,RG,h,k⟩=>by
  cases d with
  |tup ds=>
   unfold Hv at hd;obtain⟨a,vs,e1,e2,e3⟩:=hd;exact⟨a,vs,e1,e2,by rw[←e3.length];exact h.1,ds,τ,G,Q3,e3,RS,RG,h.2,k⟩
  |_=>exact h.elim
def sAsg(te:TE3)(g:TG3):TS3:=fun D τ G=>te τ G fun x G1=>g x τ G1 D.nx
theorem qtfz{tg:Expr}{te:TE3}{g:TG3}(he:PE3 X e te)(hg:PG3 X tg g)(hs:swapsWithSole [tg] e pos.line X.env=pure false:=by rfl)(hw:swappedStores [tg] e X.env=pure none:=by rfl)
  (h1:(assignEach [tg] X.env).map (·.2)=[assign tg X.env]:=by rfl):PS3 X (.Assign [tg] e pos) (sAsg te g):=qatz (qqjz he hg hs hw h1) fun D σ H ⟨τ,G,D3,RS,RG,h,k⟩=>
 ⟨τ,G,_,RS,RG,h,fun v H1 d G1 h1 S1 R1 q1=>⟨d,τ,G1,D3.nx,h1,RS.ext (S1.ext RG),R1,q1,fun τ' σ' G' H' a b c q=>k.nx τ' σ' G' H' a (S1.trans b) c q⟩⟩
theorem qtgz{i:Nat}{x:Str}{te:TE3}{pos':Pos}(hN:X.N.Nodup)(he:PE3 X e te)(hi:X.N[i]?=some x:=by rfl)(hx:Loc X.env.scope x:=by first|exact Or.inl rfl|exact Or.inr rfl)(hs:swapsWith e (some (.Name x pos')) pos.line X.env=pure false:=by rfl)
  (hf:X.fn x=true∨X.env.scope.names.lookup x=some .local:=by first|exact .inl rfl|exact .inr rfl|assumption):PS3 X (.Assign [.Name x pos'] e pos) (sAsg te (hName i)):=qatz (qqkz hN hi hx he hs hf) fun D σ H ⟨τ,G,D3,RS,RG,h,k⟩=>
 ⟨τ,G,_,RS,RG,h,fun v H1 d G1 h1 S1 R1 q1=>k.nx _ _ G1 H1 ((RS.ext (S1.ext RG)).set h1) S1 R1 q1⟩
def sAug(i:Nat)(te:TE3)(r:R3):TS3:=fun D τ G=>match at3 τ i with
 |some x=>te τ G fun y G1=>r x y G1 fun z G2=>D.nx (set3 τ i z) G2
 |none=>False
theorem qthz{i:Nat}{x:Str}{te:TE3}{op:Operator}{r:R3}{r2:TIp}{pos':Pos}(L:LowR X.K r r2)(hN:X.N.Nodup)(he:PE3 X e te)(ho:PIp X op r2)(hi:X.N[i]?=some x:=by rfl)(hx:Loc X.env.scope x:=by first|exact Or.inl rfl|exact Or.inr rfl)(hf:X.fn x=true∨X.env.scope.names.lookup x=some .local:=by first|exact .inl rfl|exact .inr rfl|assumption):
  PS3 X (.AugAssign (.Name x pos') op e pos) (sAug i te r):=qatz (qqlz hN hi hx he ho hf) fun D σ H ⟨τ,G,D3,RS,RG,h,k⟩=>by
 unfold sAug at h;cases hd:at3 τ i with
 |none=>rw[hd] at h;exact h.elim
 |some d=>
  rw[hd] at h;obtain⟨v,e1,e2⟩:=RS.at_ i d hd;refine⟨v,e1,τ,G,_,RS,RG,h,fun v1 H1 d1 G1 h1 S1 R1 q1=>?_⟩;refine L _ _ _ _ _ _ _ _ (e2.ext (S1.ext RG)) h1 R1 q1 fun v2 H2 d2 G2 z1 z2 z3 z4=>?_;exact k.nx _ _ G2 H2 (((RS.ext (S1.ext RG)).ext (z2.ext R1)).set z1) (S1.trans z2) z3 z4
def rSet3:D->D->D->Gp->(Gp->Prop)->Prop:=fun o i v G Q=>match o,i with
 |.obj p,.int k=>∃ds j,G p=some (.lst ds)/\ixN ds.length k=some j/\Q (upd3 G p (.lst (ds.set j v)))
 |_,_=>False
def hSub(to ti:TE3):TG3:=fun v τ G Q=>to τ G fun o G1=>ti τ G1 fun i G2=>rSet3 o i v G2 fun G3=>Q τ G3
theorem qjxz{K:PySem.W.Frag}{o i v:D}{vo vi vv:V}{G:Gp}{H:Hp}{Q3:Gp->Prop}{Q:Hp->Prop}(ho:Hv K H o vo)(hi:Hv K H i vi)(hv:Hv K H v vv)(RG:RepG K G H)(h:rSet3 o i v G Q3)
  (k:∀H' G',Step H G H' G'->RepG K G' H'->Q3 G'->Q H'):rSetL vo vi vv H Q:=by
 match o,i,ho,hi,h with
 |.obj p,.int j,ho,hi,h=>
  unfold Hv at ho hi;obtain⟨ds,n,e1,e2,q⟩:=h;obtain⟨vs,e3,e4⟩:=RG p _ e1;refine⟨p,vs,j,n,ho,hi,e3,by rw[←e4.length];exact e2,k _ _ (Step.wrote (g:=.lst (ds.set n v)) e1) (RG.wrote e3 ⟨_,qvz,?_⟩) q⟩;exact (e4.ext (Ext.wrote e3)).set n (hv.ext (Ext.wrote e3))
 |.obj _,.non,_,_,h=>exact h.elim
 |.obj _,.bl _,_,_,h=>exact h.elim
 |.obj _,.str _,_,_,h=>exact h.elim
 |.obj _,.tup _,_,_,h=>exact h.elim
 |.obj _,.scr _,_,_,h=>exact h.elim
 |.obj _,.obj _,_,_,h=>exact h.elim
 |.obj _,.dc _,_,_,h=>exact h.elim
 |.dc _,_,_,_,h=>exact h.elim
 |.non,_,_,_,h=>exact h.elim
 |.bl _,_,_,_,h=>exact h.elim
 |.int _,_,_,_,h=>exact h.elim
 |.str _,_,_,_,h=>exact h.elim
 |.tup _,_,_,_,h=>exact h.elim
 |.scr _,_,_,_,h=>exact h.elim
theorem qtiz{o i:Expr}{to ti:TE3}(ho:PE3 X o to)(hi:PE3 X i ti)
  (ha:∀v,assign (.Subscript o i pos) X.env v=(do
   let ov ←holding [v] (eval o X.env)
   let iv ←holding [v,ov] (eval i X.env)
   standAt pos
   holding [v,ov,iv] (setItem ov iv v)
   release [v,ov,iv] []):=by intro _;rfl):PG3 X (.Subscript o i pos) (hSub to ti):=qf2z (qqiz ho hi set_list ha) fun v σ H Q ⟨d,τ,G,Q3,hd,RS,RG,h,k⟩=>
 ⟨τ,G,_,RS,RG,h,fun v1 H1 d1 G1 h1 S1 R1 q1=>⟨τ,G1,_,RS.ext (S1.ext RG),R1,q1,fun v2 H2 d2 G2 h2 S2 R2 q2=>
  qjxz (h1.ext (S2.ext R1)) h2 ((hd.ext (S1.ext RG)).ext (S2.ext R1)) R2 q2 fun H' G' y1 y2 y3=>k _ _ G' H' (((RS.ext (S1.ext RG)).ext (S2.ext R1)).ext (y1.ext R2)) ((S1.trans S2).trans y1) y2 y3⟩⟩
def sAugS(to ti te:TE3)(f:Int->Int->Int):TS3:=fun D τ G=>to τ G fun o G1=>ti τ G1 fun i G2=>match o,i with
 |.obj p,.int k=>∃ds x,G2 p=some (.lst ds)/\atI ds k=some (.int x)/\te τ G2 fun y G3=>match y with
  |.int y=>rSet3 o i (.int (f x y)) G3 fun G4=>D.nx τ G4
  |_=>False
 |_,_=>False
def sWhile(c:TT3)(tb:TS3):TS3:=fun D τ G=>∃W:Nat->S3->Gp->Prop,(∃m,W m τ G)/\∀m τ G,W m τ G ->
 c τ G fun b G1=>Br b (tb { D with nx:=fun τ' G'=>∃m',m' < m/\W m' τ' G',ct:=fun τ' G'=>∃m',m' < m/\W m' τ' G',bk:=D.nx } τ G1) (D.nx τ G1)
theorem qtjz{c:Expr}{body:List Stmt}{tc:TT3}{tb:TS3}(hp:PassesOwn (model X.prog X.w) X.A X.env X.xe)(hc:PT3 X c tc)(hb:PSs3 X body tb):PS3 X (.While c body [] pos) (sWhile tc tb):=
 qatz (qqnz hp hc hb) fun D σ H ⟨τ,G,D3,RS,RG,⟨W,⟨m0,w0⟩,turn⟩,k⟩=>by
  refine⟨fun m σ' H'=>∃τ' G',W m τ' G'/\RepS X.K τ' σ' H'/\RepG X.K G' H'/\Step H G H' G',⟨m0,τ,G,w0,RS,RG,.refl H G⟩,fun m σ1 H1 ⟨τ1,G1,w1,RS1,RG1,S1⟩=>?_⟩;refine⟨τ1,G1,_,RS1,RG1,turn m τ1 G1 w1,fun b H2 G2 S2 R2 q2=>Br.ite q2 (fun q=>?_) fun q=>k.nx _ _ G2 H2 (RS1.ext (S2.ext RG1)) (S1.trans S2) R2 q⟩;refine⟨fun σ' H'=>∃τ' G',(∃m',m' < m/\W m' τ' G')/\RepS X.K τ' σ' H'/\RepG X.K G' H'/\Step H G H' G',fun σ' H' ⟨τ',G',⟨m',hm,w'⟩,a,b,c⟩=>⟨m',hm,τ',G',w',a,b,c⟩,?_⟩;refine⟨τ1,G2,_,RS1.ext (S2.ext RG1),R2,q,⟨?_,?_,?_,?_⟩⟩
  ·exact fun τ' σ' G' H' a b c q=>⟨τ',G',q,a,c,(S1.trans S2).trans b⟩
  ·exact fun τ' σ' G' H' a b c q=>k.nx τ' σ' G' H' a ((S1.trans S2).trans b) c q
  ·exact fun τ' σ' G' H' a b c q=>⟨τ',G',q,a,c,(S1.trans S2).trans b⟩
  ·exact fun d v G' H' a b c q=>k.rt d v G' H' a ((S1.trans S2).trans b) c q
end
abbrev Sp3:=List D->Gp->V3->Prop
def lowSp(K:PySem.W.Frag)(sp:Sp3):Sp:=fun vs H Q _=>∃ds G Q3,Hvs K H ds vs/\RepG K G H/\sp ds G Q3/\∀v H' d G',Hv K H' d v->Step H G H' G'->RepG K G' H'->Q3 d G'->Q v H'
abbrev FnOk3(P:Program)(w:World)(K:PySem.W.Frag)(mg:Str->Option Value)(base:Heap)(k:Nat)(f:Addr)(fd:FuncData)(ps:List Str)(sp:Sp3):Prop:=FnOk P w K mg base CX0 k f fd ps (lowSp K sp)
def eCall(sp:Sp3)(t:TA3):TE3:=fun τ G Q=>t τ G fun ds G1=>sp ds G1 Q
section
variable {X:Cx} {k:Nat} {f:Addr} {fd:FuncData} {ps:List Str} {sp:Sp3} {x:Str} {p pos:Pos} {e:Expr} {es:List Expr} {t:TA3}
theorem qtkz{K:PySem.W.Frag}{σ:L2.St}{H:Hp}{Q:VK}{E:XK}(h:low K (eCall sp t) σ H Q):tCall (lowSp K sp) [] E (lowA K t) σ H Q:=by
 obtain⟨τ,G,Q3,RS,RG,h,k⟩:=h;refine⟨τ,G,_,RS,RG,h,fun vs H1 ds G1 h1 S1 R1 q1=>?_⟩;refine⟨ds,G1,Q3,by rw[List.append_nil];exact h1,R1,q1,fun v H' d G' z1 z2 z3 z4=>k v H' d G' z1 (S1.trans z2) z3 z4⟩
theorem qtlz(F:FnOk3 X.prog X.w X.K X.mg X.base k f fd ps sp)(hr:Room k X.A)(hm:X.mg x=some (.ref f))(hk:PySem.W.keepIn X.K (.ref f)=true)(hb:Binds X.K fd ps [])(ha:PA3 X (e::es) t)(hg:Gl X x:=by rfl)
  (hdb:(x==("__debug__":Str))=false:=by decide) (he:notStar e=true:=by rfl) (hpl:es.all notStar=true:=by rfl):
  PE3 X (.Call (.Name x p) (e::es) [] pos) (eCall sp t):=q0z (qrbz (E:=E0) F hr hg hm hk hb .nil pass0 ha hdb (qpz he) (qajz hpl)) fun σ H Q h=>qtkz h
end
section
variable {P:Program} {w:World} {K:PySem.W.Frag} {mg:Str->Option Value} {base:Heap}
def endsOf(Q:V3):Ends3:={ nx:=fun _ G'=>∃G0,Sub G0 G'/\Q .non G0,rt:=fun d G'=>∃G0,Sub G0 G'/\Q d G0 }
theorem fn3{x qual:Str}{st:Stmt}{f:Addr}{fd:FuncData}{N ps:List Str}{k:Nat}{sp:Sp3}(F:Fun K x qual st f fd)(S:FnScope N ps (defScope st))(hN:ps.length≤N.length)(len:∀ds G Q,sp ds G Q->ds.length=ps.length)(tb:TS3)
  (hbody:∀(cdv:Value) (A:Around) (outer:List Env) (s:Shared) (H:Hp) (E:XK),Room k (A.deeper (envOfC qual (defScope st) s.heap.objs.size f cdv)) ->
   PSs3 (cxOf CX0 P w K mg base N qual (defScope st) f cdv A outer s H E).nox (defBody st) tb)
  (hrd:∀ds G Q,sp ds G Q->tb (endsOf Q) (start3 N ds) G):FnOk3 P w K mg base (k+1) f fd ps sp:=by
 refine F.ok S (fun vs H Q E h=>?_) (fun cdv A outer s H vs Q E hr h=>?_)
 ·obtain⟨ds,G,Q3,h1,h2,h3,h4⟩:=h;rw[←h1.length];exact len _ _ _ h3
 ·obtain⟨ds,G,Q3,h1,h2,h3,h4⟩:=h;refine⟨_,hbody cdv A outer s H E hr,start3 N ds,G,endsOf Q3,.start h1 ?_,h2,hrd _ _ _ h3,⟨?_,?_,?_,?_⟩⟩
  ·rw[←h1.length,len _ _ _ h3];exact hN
  ·exact fun τ σ G' H' a b c ⟨G0,s0,q⟩=>h4 _ H' .non G0 (by simp[Hv]) (b.trans (.sub s0)) (c.sub s0) q
  ·exact fun τ σ G' H' a b c q=>q.elim
  ·exact fun τ σ G' H' a b c q=>q.elim
  ·exact fun d v G' H' a b c ⟨G0,s0,q⟩=>h4 _ H' d G0 a (b.trans (.sub s0)) (c.sub s0) q
end
end L3
namespace L3
open PySem PySem.Spec PyProof.Rows L2
structure Src where
 items:List D
 guard:Gp->Prop
structure SrcOk(K:PySem.W.Frag)(H0:Hp)(J:It)(S:Src):Prop where
 go:∀(i:Nat) d H G,Ext H0 H->RepG K G H->S.guard G->S.items[i]?=some d->J.go i H/\∀x H',J.yld i H x H'->Hv K H' d x/\Step H G H' G/\RepG K G H'
 stop:∀(i:Nat) H G,Ext H0 H->RepG K G H->S.guard G->S.items.length≤i->J.stop i H
abbrev TI3:=S3->Gp->(Src->Gp->Prop)->Prop
def lowI(K:PySem.W.Frag)(ti:TI3):TI:=fun σ H R=>∃τ G R3,RepS K τ σ H/\RepG K G H/\ti τ G R3/\∀J H' S G',SrcOk K H' J S->Step H G H' G'->RepG K G' H'->R3 S G'->R J H'
abbrev PI3(X:Cx)(tg iter:Expr)(ti:TI3):Prop:=PI X tg iter (lowI X.K ti)
section
variable {X:Cx} {tg iter:Expr} {pos p:Pos}
theorem qc3z{t t':TI}(h:PI X tg iter t)(f:∀σ H R,t' σ H R->t σ H R):PI X tg iter t':=fun pins s σ H R I q=>h pins s σ H R I (f σ H R q)
def iSeq(te:TE3):TI3:=fun τ G R=>te τ G fun x G1=>match x with
 |.obj p=>∃ds,G1 p=some (.lst ds)/\R ⟨ds,fun G=>G p=some (.lst ds)⟩ G1
 |.tup ds=>R ⟨ds,fun _=>True⟩ G1
 |.scr ds=>R ⟨ds,fun _=>True⟩ G1
 |_=>False
theorem qtmz{l:Expr}{te:TE3}(hl:PE3 X l te):PI3 X tg l (iSeq te):=by
 intro pins s σ H R I h;obtain⟨τ,G,R3,RS,RG,h,k⟩:=h
 -- the state carries what a list of the heap is
 refine thn (hl pins s σ H (fun v H'=>∃d G',Hv X.K H' d v/\Step H G H' G'/\RepG X.K G' H'/\(match d with
  |.obj p=>∃ds,G' p=some (.lst ds)/\R3 ⟨ds,fun G=>G p=some (.lst ds)⟩ G'
  |.tup ds=>R3 ⟨ds,fun _=>True⟩ G'
  |.scr ds=>R3 ⟨ds,fun _=>True⟩ G'
  | _=>False)) I ⟨τ,G,_,RS,RG,h,fun v H' d G' a b c q=>⟨d,G',a,b,c,q⟩⟩) fun v s1 ⟨x,H1,I1,r1,d,G1,hv,S1,R1,q⟩=>?_
 have hlist:∀(a:Addr) (its:List Value) (xs:List V),Vals xs its->PlainL s1.heap a its.toArray->R (Itl X.K a) H1->wpAny (model X.prog X.w) X.A (pyIter (.ref a)) (PIE X pins σ tg R) X.xe s1:=by
  intro a its xs rv p q;refine wpAny_pyIter_list p.isList ?_;refine⟨s1.heap.objs.size,[s1.heap.objs.size],_,_,H1,rfl,I1.kept (t':=s1.toks) fun b o e=>Heap.get?_push_of_some _ e,qqoz a _,⟨_,Heap.get?_push_size _ rfl,rfl,rfl⟩,fun b hb=>?_,q⟩;have e:b=s1.heap.objs.size:=by simpa using hb
  subst e;exact I1.fpOk (Nat.le_refl _) (I1.hok.fresh (Nat.le_refl _))
 cases d with
 |obj a=>
  unfold Hv at hv;subst hv;cases r1;obtain⟨ds,e1,q⟩:=q;obtain⟨vs,e2,e3⟩:=R1 a _ e1;obtain⟨its,rv,p,hz⟩:=I1.list (SqL.of e2);refine hlist a its vs rv p (k _ _ _ _ ⟨?_,?_⟩ S1 R1 q)
  ·intro i d H' G' E' RG' hg hi;obtain⟨vs',z1,z2⟩:=RG' a _ hg;obtain⟨v',y1,y2⟩:=z2.get hi;refine⟨⟨vs',v',.of z1,y1⟩,fun x H'' hy=>?_⟩;obtain⟨rfl,hy⟩:=hy;have:=hy vs' (.of z1);rw[y1] at this;cases this;exact⟨y2,.refl _ _,RG'⟩
  ·intro i H' G' E' RG' hg hi;obtain⟨vs',z1,z2⟩:=RG' a _ hg;exact⟨vs',.of z1,by rw[←z2.length];exact hi⟩
 |tup ds=>
  unfold Hv at hv;obtain⟨a,vs,rfl,e2,e3⟩:=hv;cases r1;obtain⟨its,rv,p,hz⟩:=I1.tuple e2;have hq:R (Itt X.K a) H1:=by
   refine k _ _ _ _ ⟨?_,?_⟩ S1 R1 q
   ·intro i d H' G' E' RG' hg hi;obtain⟨v',y1,y2⟩:=e3.get hi;refine⟨⟨vs,v',SqT.ext E' e2,y1⟩,fun x H'' hy=>?_⟩;obtain⟨rfl,hy⟩:=hy;have:=hy vs (SqT.ext E' e2);rw[y1] at this;cases this;exact⟨y2.ext E',.refl _ _,RG'⟩
   ·intro i H' G' E' RG' hg hi;exact⟨vs,SqT.ext E' e2,by rw[←e3.length];exact hi⟩
  refine wpAny_pyIter_tuple (show s1.heap.IsTuple a its.toArray from p) ?_;refine⟨s1.heap.objs.size,[s1.heap.objs.size],_,_,H1,rfl,I1.kept (t':=s1.toks) fun b o e=>Heap.get?_push_of_some _ e,qqpz a _,⟨_,Heap.get?_push_size _ rfl,rfl,rfl⟩,fun b hb=>?_,hq⟩;have e:b=s1.heap.objs.size:=by simpa using hb
  subst e;exact I1.fpOk (Nat.le_refl _) (I1.hok.fresh (Nat.le_refl _))
 |scr ds=>
  unfold Hv at hv;obtain⟨a,vs,rfl,e2,e3⟩:=hv;cases r1;obtain⟨its,rv,p,hz⟩:=I1.list e2.l;refine hlist a its vs rv p (k _ _ _ _ ⟨?_,?_⟩ S1 R1 q)
  ·intro i d H' G' E' RG' hg hi;obtain⟨v',y1,y2⟩:=e3.get hi;refine⟨⟨vs,v',(SqF.ext E' e2).l,y1⟩,fun x H'' hy=>?_⟩;obtain⟨rfl,hy⟩:=hy;have:=hy vs (SqF.ext E' e2).l;rw[y1] at this;cases this;exact⟨y2.ext E',.refl _ _,RG'⟩
  ·intro i H' G' E' RG' hg hi;exact⟨vs,(SqF.ext E' e2).l,by rw[←e3.length];exact hi⟩
 |non=>exact q.elim
 |bl _=>exact q.elim
 |int _=>exact q.elim
 |str _=>exact q.elim
 |dc _=>exact q.elim
def rngL(lo:Int)(n:Nat):List D:=(List.range n).map fun i:Nat=>.int (lo+(i:Int))
theorem qjyz{lo:Int}{n i:Nat}{d:D}(h:(rngL lo n)[i]?=some d):i<n/\d=.int (lo+(i:Int)):=by
 unfold rngL at h;rw[List.getElem?_map] at h;by_cases hi:i<n
 ·rw[List.getElem?_range hi] at h;simp at h;exact⟨hi,h.symm⟩
 ·rw[List.getElem?_eq_none_iff.mpr (by simpa using hi)] at h;cases h
theorem qbqz(lo:Int)(n:Nat):(rngL lo n).length=n:=by simp[rngL]
theorem qjzz{K:PySem.W.Frag}{H:Hp}(lo:Int)(n:Nat):SrcOk K H (Itr lo n) ⟨rngL lo n,fun _=>True⟩:=⟨by
 intro i d H' G' _ RG _ hi;obtain⟨h1,h2⟩:=qjyz hi;refine⟨h1,fun x H'' hy=>?_⟩;obtain⟨rfl,rfl⟩:=hy;exact⟨by rw[h2];simp[Hv],.refl _ _,RG⟩,by
 intro i H' G' _ RG _ hi;rw[qbqz] at hi;exact hi⟩
def iRng1(ta:TA3):TI3:=fun τ G R=>ta τ G fun ds G1=>match ds with
 |[.int j]=>(-(2^62)≤j/\j<2^62)/\R ⟨rngL 0 j.toNat,fun _=>True⟩ G1
 |_=>False
def iRng2(ta:TA3):TI3:=fun τ G R=>ta τ G fun ds G1=>match ds with
 |[.int i,.int j]=>(-(2^62)≤i/\i<2^62/\-(2^62)≤j/\j<2^62)/\R ⟨rngL i (j-i).toNat,fun _=>True⟩ G1
 |_=>False
theorem qtnz{a:Expr}{ta:TA3}(hm:X.mg "range" = none)(ha:PA3 X [a] ta)(hg:Gl X "range":=by rfl)(hs:notStar a=true:=by rfl):PI3 X tg (.Call (.Name "range" p) [a] [] pos) (iRng1 ta):=
 qc3z (qqrz hg hm ha (qpz hs)) fun σ H R ⟨τ,G,R3,RS,RG,h,k⟩=>⟨τ,G,_,RS,RG,h,fun vs H1 ds G1 h1 S1 R1 q1=>by
  rcases ds with _|⟨d,_|⟨d2,ds⟩⟩
  ·exact q1.elim
  ·cases d with
   |int j=>
    obtain⟨v,r,rfl,z1,z2⟩:=h1.inv;cases z2.inv0;unfold Hv at z1;exact⟨j,by rw[z1],q1.1.1,q1.1.2,k _ _ _ _ (qjzz 0 _) S1 R1 q1.2⟩
   |_=>exact q1.elim
  ·cases d<;>exact q1.elim⟩
theorem qtoz{a b:Expr}{ta:TA3}(hm:X.mg "range" = none)(ha:PA3 X [a,b] ta)(hg:Gl X "range":=by rfl)(hs:notStar a=true:=by rfl)(hs2:notStar b=true:=by rfl):
  PI3 X tg (.Call (.Name "range" p) [a,b] [] pos) (iRng2 ta):=
 qc3z (qqsz hg hm ha (by rw[qpz hs,qpz hs2];rfl) (qpz hs2)) fun σ H R ⟨τ,G,R3,RS,RG,h,k⟩=>⟨τ,G,_,RS,RG,h,fun vs H1 ds G1 h1 S1 R1 q1=>by
  rcases ds with _|⟨d,_|⟨d2,_|⟨d3,ds⟩⟩⟩
  ·exact q1.elim
  ·cases d<;>exact q1.elim
  ·cases d with
   |int i=>
    cases d2 with
    |int j=>
     obtain⟨v,r,rfl,z1,z2⟩:=h1.inv;obtain⟨v',r',rfl,z3,z4⟩:=z2.inv;cases z4.inv0;unfold Hv at z1 z3;exact⟨i,j,by rw[z1,z3],q1.1,k _ _ _ _ (qjzz i _) S1 R1 q1.2⟩
    |_=>exact q1.elim
   |_=>exact q1.elim
  ·cases d with
   |int i=>cases d2<;>exact q1.elim
   |_=>exact q1.elim⟩
def forGo(guard:Gp->Prop)(g:TG3)(tb:TS3)(D3:Ends3):List D->S3->Gp->Prop
 |[],τ,G=>guard G/\D3.nx τ G
 |d::ds,τ,G=>guard G/\g d τ G fun τ2 G2=>tb { D3 with nx:=forGo guard g tb D3 ds,ct:=forGo guard g tb D3 ds,bk:=D3.nx } τ2 G2
def sFor(ti:TI3)(g:TG3)(tb:TS3):TS3:=fun D3 τ G=>ti τ G fun S G1=>forGo S.guard g tb D3 S.items τ G1
theorem qtpz{body:List Stmt}{ti:TI3}{g:TG3}{tb:TS3}(hp:PassesOwn (model X.prog X.w) X.A X.env X.xe)(hc:X.calm=true)(hi:PI3 X tg iter ti)(hg:PG3 X tg g)(hb:PSs3 X body tb)
  (hs:∀x,foldedSetIterable iter X.env x=pure x:=by intro _;rfl):PS3 X (.For tg iter body [] pos) (sFor ti g tb):=qatz (qquz hp hc hi hg hb hs) fun D2 σ H ⟨τ,G,D3,RS,RG,h,k⟩=>by
 refine⟨τ,G,_,RS,RG,h,fun J H1 S G1 ok S1 R1 q1=>?_⟩;refine⟨fun i m σ' H'=>∃τ' G',RepS X.K τ' σ' H'/\RepG X.K G' H'/\Step H G H' G'/\Ext H1 H'/\forGo S.guard g tb D3 (S.items.drop i) τ' G'/\m+i=S.items.length,⟨S.items.length,τ,G1,RS.ext (S1.ext RG),R1,S1,.refl H1,by simpa using q1,by lia⟩,?_⟩;rintro i m σ' H' ⟨τ',G',RS',RG',S',E',q,hm⟩;by_cases hlt:i<S.items.length
 ·have hd:S.items.drop i=S.items[i]::S.items.drop (i+1):=List.drop_eq_getElem_cons hlt;have hget:S.items[i]?=some S.items[i]:=List.getElem?_eq_getElem hlt;rw[hd] at q;obtain⟨hgd,q⟩:=q;obtain⟨z1,z2⟩:=ok.go i _ H' G' E' RG' hgd hget;refine .inr ⟨z1,fun σ2 H2=>∃τ2 G2,RepS X.K τ2 σ2 H2/\RepG X.K G2 H2/\Step H G H2 G2/\Ext H1 H2/\forGo S.guard g tb D3 (S.items.drop (i+1)) τ2 G2,fun σ2 H2 ⟨τ2,G2,a1,a2,a3,a4,a5⟩=>⟨m-1,by lia,τ2,G2,a1,a2,a3,a4,a5,by lia⟩,fun x H2 hy=>?_⟩;obtain⟨y1,y2,y3⟩:=z2 x H2 hy;refine⟨S.items[i],τ',G',_,y1,RS'.ext (y2.ext RG'),y3,q,fun τ3 σ3 G3 H3 b1 b2 b3 b4=>?_⟩;refine⟨τ3,G3,_,b1,b3,b4,⟨?_,?_,?_,?_⟩⟩
  ·exact fun τ4 σ4 G4 H4 c1 c2 c3 c4=>⟨τ4,G4,c1,c3,((S'.trans y2).trans b2).trans c2,((E'.trans (y2.ext RG')).trans (b2.ext y3)).trans (c2.ext b3),c4⟩
  ·exact fun τ4 σ4 G4 H4 c1 c2 c3 c4=>k.nx τ4 σ4 G4 H4 c1 (((S'.trans y2).trans b2).trans c2) c3 c4
  ·exact fun τ4 σ4 G4 H4 c1 c2 c3 c4=>⟨τ4,G4,c1,c3,((S'.trans y2).trans b2).trans c2,((E'.trans (y2.ext RG')).trans (b2.ext y3)).trans (c2.ext b3),c4⟩
  ·exact fun d v G4 H4 c1 c2 c3 c4=>k.rt d v G4 H4 c1 (((S'.trans y2).trans b2).trans c2) c3 c4
 ·have hd:S.items.drop i=[]:=List.drop_eq_nil_of_le (by lia);rw[hd] at q;exact .inl ⟨ok.stop i H' G' E' RG' q.1 (by lia),k.nx τ' σ' G' H' RS' S' RG' q.2⟩
def compGo(guard:Gp->Prop)(g:TG3)(tc:TT3)(te:TE3)(Q:List D->Gp->Prop):List D->List D->S3->Gp->Prop
 |[],acc,τ,G=>guard G/\Q acc G
 |d::ds,acc,τ,G=>guard G/\g d τ G fun τ2 G2=>tc τ2 G2 fun b G3=>Br b (te τ2 G3 fun v G4=>compGo guard g tc te Q ds (acc++[v]) τ2 G4) (compGo guard g tc te Q ds acc τ2 G3)
def cmp3(own:List Str)(js:List Nat)(τ:S3):S3:=(own.map fun _=>none)++js.map fun j=>at3 τ j
def eComp(own:List Str)(js:List Nat)(ti:TI3)(g:TG3)(tc:TT3)(te:TE3):TE3:=fun τ G Q=>ti τ G fun S G1=>S.items.length≤sizeLine ∧
 compGo S.guard g tc te (fun ds G2=>∀p G3,New G2 p (.lst ds) G3->Q (.obj p) G3) S.items [] (cmp3 own js τ) G1
theorem qj0z:∀(τ:S3) (i:Nat),at3 τ i=(τ[i]?).getD none
 |[],i=>by simp[at3]
 |x::r,0=>by simp[at3]
 |x::r,i+1=>by simp[at3,qj0z r i]
theorem RepS.cmp{K:PySem.W.Frag}{τ:S3}{σ:L2.St}{H:Hp}(own:List Str)(js:List Nat)(R:RepS K τ σ H):RepS K (cmp3 own js τ) (cmpSt own js σ) H:=⟨by simp[cmp3,cmpSt],fun i d h=>by
 rw[qj0z] at h;unfold cmp3 at h;by_cases hi:i<own.length
 ·rw[List.getElem?_append_left (by simpa using hi)] at h;rw[List.getElem?_map,List.getElem?_eq_getElem hi] at h;cases h
 ·rw[List.getElem?_append_right (by simpa using hi),List.getElem?_map] at h;simp only[List.length_map] at h;cases hj:js[i-own.length]? with
  |none=>rw[hj] at h;cases h
  |some j=>
   rw[hj] at h;have h':at3 τ j=some d:=h;obtain⟨v,e1,e2⟩:=R.at_ j d h';refine⟨v,?_,e2⟩;unfold cmpSt;rw[List.getElem?_append_right (by simpa using hi),List.getElem?_map];simp only[List.length_replicate,hj,Option.map_some,e1,Option.getD_some]⟩
def tNoTest3:TT3:=fun _ G Q=>Q true G
theorem qtqz:PCt X [] (lowT X.K tNoTest3):=fun pins s σ H Q I ⟨τ,G,Q3,RS,RG,h,k⟩=>qs0z pins s σ H Q I (k true H G (.refl H G) RG h)
theorem qtrz{c:Expr}{t:TT3}(h:PT3 X c t):PCt X [c] (lowT X.K t):=qs1z h
theorem qj1z{K:PySem.W.Frag}{own:List Str}{js:List Nat}{ti:TI3}{g:TG3}{tc:TT3}{te:TE3}{σ:L2.St}{H:Hp}{Q:VK}(h:low K (eComp own js ti g tc te) σ H Q):tLc own js (lowI K ti) (lowG K g) (lowT K tc) (low K te) σ H Q:=by
 obtain⟨τ,G,Q3,RS,RG,h,k⟩:=h;refine⟨τ,G,_,RS,RG,h,fun J H1 S G1 ok S1 R1 q1=>?_⟩;obtain⟨hz,q1⟩:=q1;intro p hp;have hGp:G1 p=none:=R1.free hp;refine⟨fun i m ys σ' H'=>∃τ' G' acc,RepS K τ' σ' H'/\RepG K G' H'/\Step H G H' G'/\Ext H1 H'/\H' p=some (.lst ys)/\G' p=none/\Hvs K H' acc ys ∧
  compGo S.guard g tc te (fun ds G2=>∀p G3,New G2 p (.lst ds) G3->Q3 (.obj p) G3) (S.items.drop i) acc τ' G'/\m+i=S.items.length/\ys.length≤i,?_,?_⟩
 ·have E1:Ext H1 (upd H1 p (.lst [])):=.laid hp;exact⟨S.items.length,cmp3 own js τ,G1,[],((RS.ext (S1.ext RG)).cmp own js).ext E1,R1.laid hp,S1.trans (.laid hp),E1,qvz,hGp,.nil,by simpa using q1,by lia,Nat.zero_le _⟩
 rintro i m ys σ' H' ⟨τ',G',acc,RS',RG',S',E',hpl,hG',hacc,q,hm,hy⟩;refine⟨hpl,?_⟩;by_cases hlt:i<S.items.length
 ·have hd:S.items.drop i=S.items[i]::S.items.drop (i+1):=List.drop_eq_getElem_cons hlt;have hget:S.items[i]?=some S.items[i]:=List.getElem?_eq_getElem hlt;rw[hd] at q;obtain⟨hgd,q⟩:=q;obtain⟨z1,z2⟩:=ok.go i _ H' G' E' RG' hgd hget;refine .inr ⟨z1,by lia,fun x H2 hyl=>?_⟩;obtain⟨y1,y2,y3⟩:=z2 x H2 hyl
  -- what is not in G stays
  have keep:∀{Ha Hb:Hp} {Ga Gb:Gp},Step Ha Ga Hb Gb->Ha p=some (.lst ys)->Ga p=none->Hb p=some (.lst ys)/\Gb p=none:=fun {Ha Hb Ga Gb} st e n=>by
   refine⟨st.fr p _ e n,?_⟩;refine Classical.byContradiction fun z=>?_;rw[st.new p n z] at e;cases e
  obtain⟨p2,n2⟩:=keep y2 hpl hG';refine⟨S.items[i],τ',G',_,y1,RS'.ext (y2.ext RG'),y3,q,fun τ3 σ3 G3 H3 b1 b2 b3 b4=>?_⟩;obtain⟨p3,n3⟩:=keep b2 p2 n2;refine⟨τ3,G3,_,b1,b3,b4,fun bb H4 G4 c1 c2 c3=>?_⟩;obtain⟨p4,n4⟩:=keep c1 p3 n3;have E4:Ext H' H4:=((y2.ext RG').trans (b2.ext y3)).trans (c1.ext b3);have S4:Step H G H4 G4:=((S'.trans y2).trans b2).trans c1;have RS4:=b1.ext (c1.ext b3);refine Br.ite c3 (fun c3=>?_) fun c3=>?_
  ·refine⟨τ3,G4,_,RS4,c2,c3,fun v H5 d G5 e1 e2 e3 e4=>?_⟩;obtain⟨p5,n5⟩:=keep e2 p4 n4;refine⟨p5,m-1,by lia,τ3,G5,acc++[d],?_,?_,?_,?_,qvz,n5,?_,e4,by lia,by rw[List.length_append];simp;lia⟩
   ·exact (RS4.ext (e2.ext c2)).ext (.wrote p5)
   ·intro a o e;have hne:a≠p:=fun z=>by
     rw[z,n5] at e;cases e
    exact (e3 a o e).ext (.wrote p5) (qlz hne)
   ·refine⟨fun a o e n=>?_,fun a q=>?_,fun a n q=>((S4.trans e2).new a n q)⟩
    ·by_cases hne:a=p
     ·exfalso;rw[hne] at e n;have hh:=S1.fr p o e n;rw[hp] at hh;cases hh
     ·rw[qlz hne];exact (S4.trans e2).fr a o e n
    ·by_cases hne:a=p
     ·rw[hne,qvz];simp
     ·rw[qlz hne];exact (S4.trans e2).trk a q
   ·exact ((E'.trans E4).trans (e2.ext c2)).trans (.wrote p5)
   ·have E5:Ext H' (upd H5 p (.lst (ys++[v]))):=(E4.trans (e2.ext c2)).trans (.wrote p5);exact (hacc.ext E5).append (.cons (e1.ext (.wrote p5)) .nil)
  ·exact⟨m-1,by lia,τ3,G4,acc,RS4,c2,S4,E'.trans E4,p4,n4,hacc.ext E4,c3,by lia,by lia⟩
 ·have hd:S.items.drop i=[]:=List.drop_eq_nil_of_le (by lia);rw[hd] at q;refine .inl ⟨ok.stop i H' G' E' RG' q.1 (by lia),?_⟩;refine k _ H' (.obj p) (upd3 G' p (.lst acc)) (by simp[Hv]) ?_ ?_ (q.2 p _ (.mk' hG'))
  ·refine⟨S'.fr,S'.trk,fun a n z=>?_⟩;by_cases hne:a=p
   ·rw[hne];cases hh:H p with
    |none=>rfl
    |some o=>
     exfalso;rw[hne] at n;have:=S1.fr p o hh n;rw[hp] at this;cases this
   ·rw[qaiz hne] at z;exact S'.new a n z
  ·intro a o e;by_cases hne:a=p
   ·rw[hne,qahz] at e;cases e;rw[hne];exact⟨ys,hpl,hacc⟩
   ·rw[qaiz hne] at e;exact RG' a o e
theorem qtsz{elt:Expr}{ifs:List Expr}{scope:Scope}{own:List Str}{js:List Nat}{ti:TI3}{g:TG3}{tc:TT3}{te:TE3}(hc:X.calm=true)(C:CmpOk X.N X.env.scope scope own js)(hi:PI3 X tg iter ti)
  (hb:∀s H fp,PG3 (X.cmp scope own js s H fp) tg g/\PCt (X.cmp scope own js s H fp) ifs (lowT X.K tc)/\PE3 (X.cmp scope own js s H fp) elt te)
  (hs:∀x,foldedSetIterable iter X.env x=pure x:=by intro _;rfl):PE3 X (.ListComp elt [⟨tg,iter,ifs,0⟩] scope pos) (eComp own js ti g tc te):=
 q0z (qs3z hc C hi hb hs) fun σ H Q h=>qj1z h
theorem qttz{elt:Expr}{ifs:List Expr}{scope:Scope}{own:List Str}{js:List Nat}{ti:TI3}{g:TG3}{tc:TT3}{te:TE3}{i:Nat}{y:Str}{py spos:Pos}(hc:X.calm=true)(hN:X.N.Nodup)(C:CmpOk X.N X.env.scope scope own js)(hi:PI3 X tg iter ti)
  (hb:∀s H fp,PG3 (X.cmp scope own js s H fp) tg g/\PCt (X.cmp scope own js s H fp) ifs (lowT X.K tc)/\PE3 (X.cmp scope own js s H fp) elt te) (hy:X.N[i]?=some y:=by rfl) (hyl:X.env.scope.names.lookup y=some .local:=by rfl)
  (hsw:swapsWith (.ListComp elt [⟨tg,iter,ifs,0⟩] scope pos) (some (.Name y py)) spos.line X.env=pure true:=by rfl)
  (hs:∀x,foldedSetIterable iter X.env x=pure x:=by intro _;rfl):PS3 X (.Assign [.Name y py] (.ListComp elt [⟨tg,iter,ifs,0⟩] scope pos) spos) (sAsg (eComp own js ti g tc te) (hName i)):=
 qatz (qs4z hc hN hy hyl C hi hb hsw hs) fun D2 σ H ⟨τ,G,D3,RS,RG,h,k⟩=>
  qj1z ⟨τ,G,_,RS,RG,h,fun v H1 d G1 h1 S1 R1 q1=>k.nx _ _ G1 H1 ((RS.ext (S1.ext RG)).set h1) S1 R1 q1⟩
theorem qtuz{guard:Gp->Prop}{g:TG3}{tb:TS3}{D3:Ends3}(I:List D->S3->Gp->Prop)(hg:∀ds τ G,I ds τ G->guard G)
  (step:∀d ds τ G,I (d::ds) τ G->g d τ G fun τ2 G2=>tb { D3 with nx:=I ds,ct:=I ds,bk:=D3.nx } τ2 G2) (hend:∀τ G,I [] τ G->D3.nx τ G)
  (mono:∀(N N':S3->Gp->Prop),(∀τ G,N τ G->N' τ G)->∀d τ G,(g d τ G fun τ2 G2=>tb { D3 with nx:=N,ct:=N,bk:=D3.nx } τ2 G2)->g d τ G fun τ2 G2=>tb { D3 with nx:=N',ct:=N',bk:=D3.nx } τ2 G2):
  ∀ds τ G,I ds τ G->forGo guard g tb D3 ds τ G
 |[],τ,G,h=>⟨hg _ _ _ h,hend _ _ h⟩
 |d::ds,τ,G,h=>⟨hg _ _ _ h,mono (I ds) _ (fun τ G q=>qtuz I hg step hend mono ds τ G q) d τ G (step d ds τ G h)⟩
theorem q1z{guard:Gp->Prop}{g:TG3}{tb:TS3}{D3:Ends3}(I:List D->S3->Gp->Prop)(hg:∀ds τ G,I ds τ G->guard G)
  (step:∀d ds τ G (N:S3->Gp->Prop),I (d::ds) τ G->(∀τ' G',I ds τ' G'->N τ' G')->g d τ G fun τ2 G2=>tb { D3 with nx:=N,ct:=N,bk:=D3.nx } τ2 G2) (hend:∀τ G,I [] τ G->D3.nx τ G):
  ∀ds τ G,I ds τ G->forGo guard g tb D3 ds τ G
 |[],τ,G,h=>⟨hg _ _ _ h,hend _ _ h⟩
 |d::ds,τ,G,h=>⟨hg _ _ _ h,step d ds τ G _ h fun τ' G' q=>q1z I hg step hend ds τ' G' q⟩
end
end L3
namespace Dat
open PySem PySem.SeqAt
inductive D where
 |non|bl (b:Bool)|int (i:Int)|str (x:Str)|tup (xs:List D)|lst (xs:List D)|dct
mutual
def D.eqb:D->D->Bool
 |.non,.non=>true
 |.bl a,.bl b=>a==b
 |.bl a,.int b=>(if a then 1 else 0)==b
 |.int a,.bl b=>a==(if b then 1 else 0)
 |.int a,.int b=>a==b
 |.str a,.str b=>a==b
 |.tup xs,.tup ys=>eqbs xs ys
 |.lst xs,.lst ys=>eqbs xs ys
 |_,_=>false
def eqbs:List D->List D->Bool
 |[],[]=>true
 |x::xs,y::ys=>x.eqb y&&eqbs xs ys
 |_,_=>false
end
mutual
def D.dep:D->Nat
 |.tup xs=>deps xs+1
 |.lst xs=>deps xs+1
 |_=>0
def deps:List D->Nat
 |[]=>0
 |x::xs=>max x.dep (deps xs)
end
theorem dep_mem{d:D}:∀{xs:List D},d∈xs->d.dep≤deps xs
 |x::xs,h=>by
  unfold deps;rcases List.mem_cons.mp h with e|e
  ·rw[e];exact Nat.le_max_left _ _
  ·exact Nat.le_trans (dep_mem e) (Nat.le_max_right _ _)
mutual
def Hv(h:Heap):D->Value->Prop
 |.non,u=>u=.none
 |.bl b,u=>u=.bool b
 |.int i,u=>∃t,u=.int i t
 |.str x,u=>∃t,u=.str x t
 |.tup ds,u=>∃(a:Addr) (its:List Value),u=.ref a/\h.IsTuple a its.toArray/\Hvs h ds its
 |.lst ds,u=>∃(a:Addr) (its:List Value),u=.ref a/\h.IsList a its.toArray/\Hvs h ds its
 |.dct,_=>False
def Hvs(h:Heap):List D->List Value->Prop
 |[],us=>us=[]
 |d::ds,us=>∃u r,us=u::r/\Hv h d u/\Hvs h ds r
end
theorem Hvs.length{h:Heap}:∀{ds:List D} {us:List Value},Hvs h ds us->us.length=ds.length
 |[],us,e=>by
  unfold Hvs at e;rw[e];rfl
 |d::ds,us,e=>by
  unfold Hvs at e;obtain⟨u,r,rfl,_,e2⟩:=e;rw[List.length_cons,List.length_cons,e2.length]
theorem Hvs.get{h:Heap}:∀{ds:List D} {us:List Value} {j:Nat} {d:D} {u:Value},Hvs h ds us->ds[j]?=some d->us[j]?=some u->Hv h d u
 |[],_,_,_,_,_,e,_=>by simp at e
 |d::ds,us,0,_,_,q,e1,e2=>by
  unfold Hvs at q;obtain⟨u,r,rfl,q1,_⟩:=q;simp at e1 e2;rw[←e1,←e2];exact q1
 |d::ds,us,j+1,_,_,q,e1,e2=>by
  unfold Hvs at q;obtain⟨u,r,rfl,_,q2⟩:=q;exact q2.get (j:=j) (by simpa using e1) (by simpa using e2)
theorem qj2z{h:Heap}{a:Addr}{xs ys:Array Value}(hl:h.IsList a xs)(ht:h.IsTuple a ys):False:=by
 obtain⟨o,ho,hc,_⟩:=hl;obtain⟨o',ho',hc',_⟩:=ht;rw[ho] at ho';cases ho';rw[hc] at hc';exact absurd hc' (by decide)
mutual
theorem Hv.inj{h:Heap}:∀{d e:D} {u:Value},Hv h d u->Hv h e u->d=e
 |d,e,u,p,q=>by
  cases d with
  |non=>unfold Hv at p;subst p;cases e<;>unfold Hv at q<;>first|rfl|(simp at q)
  |bl b=>unfold Hv at p;subst p;cases e<;>unfold Hv at q<;>first|(simp at q;rw[q])|(simp at q)
  |int b=>unfold Hv at p;obtain⟨t,rfl⟩:=p;cases e<;>unfold Hv at q<;>first|(simp at q;rw[q])|(simp at q)
  |str b=>unfold Hv at p;obtain⟨t,rfl⟩:=p;cases e<;>unfold Hv at q<;>first|(simp at q;rw[q])|(simp at q)
  |dct=>unfold Hv at p;exact p.elim
  |tup ds=>
   unfold Hv at p;obtain⟨a,its,rfl,ha,p⟩:=p;cases e with
   |tup es=>
    unfold Hv at q;obtain⟨a',its',e1,ha',q⟩:=q;cases e1;have e2:its=its':=by
     obtain⟨o,ho,_,n,hd⟩:=ha;obtain⟨o',ho',_,n',hd'⟩:=ha';rw[ho] at ho';cases ho';rw[hd] at hd';injection hd' with e3 _
     simpa using congrArg Array.toList e3
    subst e2;rw[Hvs.inj p q]
   |lst es=>
    unfold Hv at q;obtain⟨a',its',e1,ha',q⟩:=q;cases e1;exact (qj2z ha' ha).elim
   |_=>unfold Hv at q<;>simp at q
  |lst ds=>
   unfold Hv at p;obtain⟨a,its,rfl,ha,p⟩:=p;cases e with
   |lst es=>
    unfold Hv at q;obtain⟨a',its',e1,ha',q⟩:=q;cases e1;have e2:its=its':=by
     obtain⟨o,ho,_,n,hd⟩:=ha;obtain⟨o',ho',_,n',hd'⟩:=ha';rw[ho] at ho';cases ho';rw[hd] at hd';injection hd' with e3 _
     simpa using congrArg Array.toList e3
    subst e2;rw[Hvs.inj p q]
   |tup es=>
    unfold Hv at q;obtain⟨a',its',e1,ha',q⟩:=q;cases e1;exact (qj2z ha ha').elim
   |_=>unfold Hv at q<;>simp at q
theorem Hvs.inj{h:Heap}:∀{ds es:List D} {us:List Value},Hvs h ds us->Hvs h es us->ds=es
 |[],[],_,_,_=>rfl
 |[],e::es,us,p,q=>by
  unfold Hvs at p q;subst p;obtain⟨_,_,e1,_⟩:=q;cases e1
 |d::ds,[],us,p,q=>by
  unfold Hvs at p q;subst q;obtain⟨_,_,e1,_⟩:=p;cases e1
 |d::ds,e::es,us,p,q=>by
  unfold Hvs at p q;obtain⟨u,r,rfl,p1,p2⟩:=p;obtain⟨u',r',e1,q1,q2⟩:=q;cases e1;rw[Hv.inj p1 q1,Hvs.inj p2 q2]
end
theorem qb2z:∀(ds es:List D),((List.range (min ds.length es.length)).all (fun j=>(ds.getD j .non).eqb (es.getD j .non))&&ds.length==es.length)=eqbs ds es
 |[],[]=>by simp[eqbs]
 |[],e::es=>by simp[eqbs]
 |d::ds,[]=>by simp[eqbs]
 |d::ds,e::es=>by
  have ih:=qb2z ds es;unfold eqbs;rw[←ih];rw[List.length_cons,List.length_cons,show min (ds.length+1) (es.length+1)=min ds.length es.length+1 by lia,List.range_succ_eq_map,List.all_cons,List.all_map];have e1:((ds.length+1==es.length+1):Bool)=(ds.length==es.length):=by simp
  rw[e1,Bool.and_assoc];rfl
theorem qemz:∀(ds es:List D),ds.length≠es.length->eqbs ds es=false
 |[],[],h=>absurd rfl h
 |[],e::es,_=>rfl
 |d::ds,[],_=>rfl
 |d::ds,e::es,h=>by
  unfold eqbs;rw[qemz ds es (by simpa using h),Bool.and_false]
mutual
theorem Hv.refl{h:Heap}:∀{d:D} {u:Value},Hv h d u->d.eqb d=true
 |.non,_,_=>rfl
 |.bl b,_,_=>by unfold D.eqb;simp
 |.int b,_,_=>by unfold D.eqb;simp
 |.str b,_,_=>by unfold D.eqb;simp
 |.dct,_,p=>by unfold Hv at p;exact p.elim
 |.tup ds,_,p=>by
  unfold Hv at p;obtain⟨_,_,_,_,p⟩:=p;unfold D.eqb;exact Hvs.refl p
 |.lst ds,_,p=>by
  unfold Hv at p;obtain⟨_,_,_,_,p⟩:=p;unfold D.eqb;exact Hvs.refl p
theorem Hvs.refl{h:Heap}:∀{ds:List D} {us:List Value},Hvs h ds us->eqbs ds ds=true
 |[],_,_=>rfl
 |d::ds,us,p=>by
  unfold Hvs at p;obtain⟨u,r,_,p1,p2⟩:=p;unfold eqbs;rw[Hv.refl p1,Hvs.refl p2];rfl
end
theorem q4z{h:Heap}{ds:List D}{us:List Value}(p:Hvs h ds us){j:Nat}(hj:j<us.toArray.size):Hv h (ds.getD j .non) (us.toArray[j])/\ds.getD j .non∈ds:=by
 have hl:=p.length;have hj':j<ds.length:=by simp at hj;lia
 have e1:ds[j]?=some (ds.getD j .non):=by simp[hj']
 exact⟨p.get e1 (by simp at hj;simp[hj]),List.mem_of_getElem? e1⟩
theorem eqAt{s:Shared}:∀(d e:D) (u v:Value) (A:Around),Hv s.heap d u->Hv s.heap e v->A.units+d.dep+1<cLine->EqAt A s u v (d.eqb e)
 |.non,.non,u,v,A,p1,p2,hu=>by
  unfold Hv at p1;subst p1;unfold Hv at p2;subst p2;exact EqAt.same _
 |.non,.bl b2,u,v,A,p1,p2,hu=>by
  unfold Hv at p1;subst p1;unfold Hv at p2;subst p2;exact EqAt.none_bool  b2
 |.non,.int b2,u,v,A,p1,p2,hu=>by
  unfold Hv at p1;subst p1;unfold Hv at p2;obtain⟨t2,rfl⟩:=p2;exact EqAt.none_int  b2 t2
 |.non,.str b2,u,v,A,p1,p2,hu=>by
  unfold Hv at p1;subst p1;unfold Hv at p2;obtain⟨t2,rfl⟩:=p2;exact EqAt.none_str  b2 t2
 |.non,.tup ds2,u,v,A,p1,p2,hu=>by
  unfold Hv at p1;subst p1;unfold Hv at p2;obtain⟨a2,its2,rfl,l2,p2⟩:=p2;exact EqAt.none_tuple  l2 (by lia)
 |.non,.lst ds2,u,v,A,p1,p2,hu=>by
  unfold Hv at p1;subst p1;unfold Hv at p2;obtain⟨a2,its2,rfl,l2,p2⟩:=p2;exact EqAt.none_list  l2 (by lia)
 |.bl b1,.non,u,v,A,p1,p2,hu=>by
  unfold Hv at p1;subst p1;unfold Hv at p2;subst p2;exact EqAt.bool_none b1
 |.bl b1,.bl b2,u,v,A,p1,p2,hu=>by
  unfold Hv at p1;subst p1;unfold Hv at p2;subst p2;exact EqAt.bool_bool b1 b2
 |.bl b1,.int b2,u,v,A,p1,p2,hu=>by
  unfold Hv at p1;subst p1;unfold Hv at p2;obtain⟨t2,rfl⟩:=p2;exact EqAt.bool_int b1 b2 t2
 |.bl b1,.str b2,u,v,A,p1,p2,hu=>by
  unfold Hv at p1;subst p1;unfold Hv at p2;obtain⟨t2,rfl⟩:=p2;exact EqAt.bool_str b1 b2 t2
 |.bl b1,.tup ds2,u,v,A,p1,p2,hu=>by
  unfold Hv at p1;subst p1;unfold Hv at p2;obtain⟨a2,its2,rfl,l2,p2⟩:=p2;exact EqAt.bool_tuple b1 l2 (by lia)
 |.bl b1,.lst ds2,u,v,A,p1,p2,hu=>by
  unfold Hv at p1;subst p1;unfold Hv at p2;obtain⟨a2,its2,rfl,l2,p2⟩:=p2;exact EqAt.bool_list b1 l2 (by lia)
 |.int b1,.non,u,v,A,p1,p2,hu=>by
  unfold Hv at p1;obtain⟨t1,rfl⟩:=p1;unfold Hv at p2;subst p2;exact EqAt.int_none b1 t1
 |.int b1,.bl b2,u,v,A,p1,p2,hu=>by
  unfold Hv at p1;obtain⟨t1,rfl⟩:=p1;unfold Hv at p2;subst p2;exact EqAt.int_bool b1 t1 b2
 |.int b1,.int b2,u,v,A,p1,p2,hu=>by
  unfold Hv at p1;obtain⟨t1,rfl⟩:=p1;unfold Hv at p2;obtain⟨t2,rfl⟩:=p2;exact EqAt.int_int b1 t1 b2 t2
 |.int b1,.str b2,u,v,A,p1,p2,hu=>by
  unfold Hv at p1;obtain⟨t1,rfl⟩:=p1;unfold Hv at p2;obtain⟨t2,rfl⟩:=p2;exact EqAt.int_str b1 t1 b2 t2
 |.int b1,.tup ds2,u,v,A,p1,p2,hu=>by
  unfold Hv at p1;obtain⟨t1,rfl⟩:=p1;unfold Hv at p2;obtain⟨a2,its2,rfl,l2,p2⟩:=p2;exact EqAt.int_tuple b1 t1 l2 (by lia)
 |.int b1,.lst ds2,u,v,A,p1,p2,hu=>by
  unfold Hv at p1;obtain⟨t1,rfl⟩:=p1;unfold Hv at p2;obtain⟨a2,its2,rfl,l2,p2⟩:=p2;exact EqAt.int_list b1 t1 l2 (by lia)
 |.str b1,.non,u,v,A,p1,p2,hu=>by
  unfold Hv at p1;obtain⟨t1,rfl⟩:=p1;unfold Hv at p2;subst p2;exact EqAt.str_none b1 t1
 |.str b1,.bl b2,u,v,A,p1,p2,hu=>by
  unfold Hv at p1;obtain⟨t1,rfl⟩:=p1;unfold Hv at p2;subst p2;exact EqAt.str_bool b1 t1 b2
 |.str b1,.int b2,u,v,A,p1,p2,hu=>by
  unfold Hv at p1;obtain⟨t1,rfl⟩:=p1;unfold Hv at p2;obtain⟨t2,rfl⟩:=p2;exact EqAt.str_int b1 t1 b2 t2
 |.str b1,.str b2,u,v,A,p1,p2,hu=>by
  unfold Hv at p1;obtain⟨t1,rfl⟩:=p1;unfold Hv at p2;obtain⟨t2,rfl⟩:=p2;exact EqAt.str_str b1 t1 b2 t2
 |.str b1,.tup ds2,u,v,A,p1,p2,hu=>by
  unfold Hv at p1;obtain⟨t1,rfl⟩:=p1;unfold Hv at p2;obtain⟨a2,its2,rfl,l2,p2⟩:=p2;exact EqAt.str_tuple b1 t1 l2 (by lia)
 |.str b1,.lst ds2,u,v,A,p1,p2,hu=>by
  unfold Hv at p1;obtain⟨t1,rfl⟩:=p1;unfold Hv at p2;obtain⟨a2,its2,rfl,l2,p2⟩:=p2;exact EqAt.str_list b1 t1 l2 (by lia)
 |.tup ds1,.non,u,v,A,p1,p2,hu=>by
  unfold Hv at p1;obtain⟨a1,its1,rfl,l1,p1⟩:=p1;unfold Hv at p2;subst p2;exact EqAt.tuple_none  l1 (by lia)
 |.tup ds1,.bl b2,u,v,A,p1,p2,hu=>by
  unfold Hv at p1;obtain⟨a1,its1,rfl,l1,p1⟩:=p1;unfold Hv at p2;subst p2;exact EqAt.tuple_bool b2 l1 (by lia)
 |.tup ds1,.int b2,u,v,A,p1,p2,hu=>by
  unfold Hv at p1;obtain⟨a1,its1,rfl,l1,p1⟩:=p1;unfold Hv at p2;obtain⟨t2,rfl⟩:=p2;exact EqAt.tuple_int b2 t2 l1 (by lia)
 |.tup ds1,.str b2,u,v,A,p1,p2,hu=>by
  unfold Hv at p1;obtain⟨a1,its1,rfl,l1,p1⟩:=p1;unfold Hv at p2;obtain⟨t2,rfl⟩:=p2;exact EqAt.tuple_str b2 t2 l1 (by lia)
 |.tup ds1,.tup ds2,u,v,A,p1,p2,hu=>by
  unfold Hv at p1;obtain⟨a1,its1,rfl,l1,p1⟩:=p1;unfold Hv at p2;obtain⟨a2,its2,rfl,l2,p2⟩:=p2;unfold D.eqb;by_cases ha:a1=a2
  ·subst ha;have e0:(.tup ds1:D)=.tup ds2:=Hv.inj (h:=s.heap) (u:=.ref a1) (by unfold Hv;exact⟨a1,its1,rfl,l1,p1⟩) (by unfold Hv;exact⟨a1,its2,rfl,l2,p2⟩);injection e0 with e0;subst e0;rw[p1.refl];exact EqAt.same _
  ·refine EqAt.of_refs ha ?_;have hdep:A.units+deps ds1+1+1<cLine:=by
    have e9:(.tup ds1:D).dep=deps ds1+1:=by first|rfl|(unfold D.dep;rfl)
    lia
   have q:=RcAt.tuples (e:=fun j=>(ds1.getD j .non).eqb (ds2.getD j .non)) l1 l2 (by lia) fun j h1 h2=>
    have m:=(q4z p1 h1).2
    eqAt (ds1.getD j .non) (ds2.getD j .non) _ _ A.in1 (q4z p1 h1).1 (q4z p2 h2).1 (by
     have:=dep_mem m;show A.units+1+_+1<cLine;lia)
   rw[List.size_toArray,List.size_toArray,p1.length,p2.length,qb2z] at q;exact q
 |.tup ds1,.lst ds2,u,v,A,p1,p2,hu=>by
  unfold Hv at p1;obtain⟨a1,its1,rfl,l1,p1⟩:=p1;unfold Hv at p2;obtain⟨a2,its2,rfl,l2,p2⟩:=p2;exact EqAt.tuple_list l1 l2 (by lia)
 |.lst ds1,.non,u,v,A,p1,p2,hu=>by
  unfold Hv at p1;obtain⟨a1,its1,rfl,l1,p1⟩:=p1;unfold Hv at p2;subst p2;exact EqAt.list_none  l1 (by lia)
 |.lst ds1,.bl b2,u,v,A,p1,p2,hu=>by
  unfold Hv at p1;obtain⟨a1,its1,rfl,l1,p1⟩:=p1;unfold Hv at p2;subst p2;exact EqAt.list_bool b2 l1 (by lia)
 |.lst ds1,.int b2,u,v,A,p1,p2,hu=>by
  unfold Hv at p1;obtain⟨a1,its1,rfl,l1,p1⟩:=p1;unfold Hv at p2;obtain⟨t2,rfl⟩:=p2;exact EqAt.list_int b2 t2 l1 (by lia)
 |.lst ds1,.str b2,u,v,A,p1,p2,hu=>by
  unfold Hv at p1;obtain⟨a1,its1,rfl,l1,p1⟩:=p1;unfold Hv at p2;obtain⟨t2,rfl⟩:=p2;exact EqAt.list_str b2 t2 l1 (by lia)
 |.lst ds1,.tup ds2,u,v,A,p1,p2,hu=>by
  unfold Hv at p1;obtain⟨a1,its1,rfl,l1,p1⟩:=p1;unfold Hv at p2;obtain⟨a2,its2,rfl,l2,p2⟩:=p2;exact EqAt.list_tuple l1 l2 (by lia)
 |.lst ds1,.lst ds2,u,v,A,p1,p2,hu=>by
  unfold Hv at p1;obtain⟨a1,its1,rfl,l1,p1⟩:=p1;unfold Hv at p2;obtain⟨a2,its2,rfl,l2,p2⟩:=p2;unfold D.eqb;by_cases ha:a1=a2
  ·subst ha;have e0:(.lst ds1:D)=.lst ds2:=Hv.inj (h:=s.heap) (u:=.ref a1) (by unfold Hv;exact⟨a1,its1,rfl,l1,p1⟩) (by unfold Hv;exact⟨a1,its2,rfl,l2,p2⟩);injection e0 with e0;subst e0;rw[p1.refl];exact EqAt.same _
  ·refine EqAt.of_refs ha ?_;have hdep:A.units+deps ds1+1+1<cLine:=by
    have e9:(.lst ds1:D).dep=deps ds1+1:=by first|rfl|(unfold D.dep;rfl)
    lia
   by_cases hn:ds1.length=ds2.length
   ·have q:=RcAt.lists (e:=fun j=>(ds1.getD j .non).eqb (ds2.getD j .non)) l1 l2 (by simp[p1.length,p2.length,hn]) (by lia) fun j h1 h2=>
     have m:=(q4z p1 h1).2
     eqAt (ds1.getD j .non) (ds2.getD j .non) _ _ A.in1 (q4z p1 h1).1 (q4z p2 h2).1 (by
      have:=dep_mem m;show A.units+1+_+1<cLine;lia)
    have q2:=qb2z ds1 ds2;rw[hn,Nat.min_self,beq_self_eq_true,Bool.and_true] at q2;rw[List.size_toArray,p1.length,hn,q2] at q;exact q
   ·rw[qemz _ _ hn];exact RcAt.lists_lengths l1 l2 (by simp[p1.length,p2.length,hn]) (by lia)
 |.non,.dct,u,v,A,p1,p2,hu=>by
  unfold Hv at p2;exact p2.elim
 |.bl b1,.dct,u,v,A,p1,p2,hu=>by
  unfold Hv at p2;exact p2.elim
 |.int b1,.dct,u,v,A,p1,p2,hu=>by
  unfold Hv at p2;exact p2.elim
 |.str b1,.dct,u,v,A,p1,p2,hu=>by
  unfold Hv at p2;exact p2.elim
 |.tup ds1,.dct,u,v,A,p1,p2,hu=>by
  unfold Hv at p2;exact p2.elim
 |.lst ds1,.dct,u,v,A,p1,p2,hu=>by
  unfold Hv at p2;exact p2.elim
 |.dct,e,u,v,A,p1,p2,hu=>by
  unfold Hv at p1;exact p1.elim
termination_by d=>sizeOf d
decreasing_by
 all_goals (have:=List.sizeOf_lt_of_mem m;first|(rw[D.tup.sizeOf_spec];lia)|(rw[D.lst.sizeOf_spec];lia))
theorem rcAt{s:Shared}(d e:D)(u v:Value)(A:Around)(p1:Hv s.heap d u)(p2:Hv s.heap e v)(hu:A.units+d.dep+1<cLine):RcAt A s u v (d.eqb e):=
 match d,e,p1,p2,hu with
 |.non,.non,p1,p2,hu=>by
  unfold Hv at p1;subst p1;unfold Hv at p2;subst p2;exact RcAt.none_none
 |.non,.bl b2,p1,p2,hu=>by
  unfold Hv at p1;subst p1;unfold Hv at p2;subst p2;exact RcAt.none_bool  b2
 |.non,.int b2,p1,p2,hu=>by
  unfold Hv at p1;subst p1;unfold Hv at p2;obtain⟨t2,rfl⟩:=p2;exact RcAt.none_int  b2 t2
 |.non,.str b2,p1,p2,hu=>by
  unfold Hv at p1;subst p1;unfold Hv at p2;obtain⟨t2,rfl⟩:=p2;exact RcAt.none_str  b2 t2
 |.non,.tup ds2,p1,p2,hu=>by
  unfold Hv at p1;subst p1;unfold Hv at p2;obtain⟨a2,its2,rfl,l2,p2⟩:=p2;exact RcAt.none_tuple  l2 (by lia)
 |.non,.lst ds2,p1,p2,hu=>by
  unfold Hv at p1;subst p1;unfold Hv at p2;obtain⟨a2,its2,rfl,l2,p2⟩:=p2;exact RcAt.none_list  l2 (by lia)
 |.bl b1,.non,p1,p2,hu=>by
  unfold Hv at p1;subst p1;unfold Hv at p2;subst p2;exact RcAt.bool_none b1
 |.bl b1,.bl b2,p1,p2,hu=>by
  unfold Hv at p1;subst p1;unfold Hv at p2;subst p2;exact RcAt.bool_bool b1 b2
 |.bl b1,.int b2,p1,p2,hu=>by
  unfold Hv at p1;subst p1;unfold Hv at p2;obtain⟨t2,rfl⟩:=p2;exact RcAt.bool_int b1 b2 t2
 |.bl b1,.str b2,p1,p2,hu=>by
  unfold Hv at p1;subst p1;unfold Hv at p2;obtain⟨t2,rfl⟩:=p2;exact RcAt.bool_str b1 b2 t2
 |.bl b1,.tup ds2,p1,p2,hu=>by
  unfold Hv at p1;subst p1;unfold Hv at p2;obtain⟨a2,its2,rfl,l2,p2⟩:=p2;exact RcAt.bool_tuple b1 l2 (by lia)
 |.bl b1,.lst ds2,p1,p2,hu=>by
  unfold Hv at p1;subst p1;unfold Hv at p2;obtain⟨a2,its2,rfl,l2,p2⟩:=p2;exact RcAt.bool_list b1 l2 (by lia)
 |.int b1,.non,p1,p2,hu=>by
  unfold Hv at p1;obtain⟨t1,rfl⟩:=p1;unfold Hv at p2;subst p2;exact RcAt.int_none b1 t1
 |.int b1,.bl b2,p1,p2,hu=>by
  unfold Hv at p1;obtain⟨t1,rfl⟩:=p1;unfold Hv at p2;subst p2;exact RcAt.int_bool b1 t1 b2
 |.int b1,.int b2,p1,p2,hu=>by
  unfold Hv at p1;obtain⟨t1,rfl⟩:=p1;unfold Hv at p2;obtain⟨t2,rfl⟩:=p2;exact RcAt.int_int b1 t1 b2 t2
 |.int b1,.str b2,p1,p2,hu=>by
  unfold Hv at p1;obtain⟨t1,rfl⟩:=p1;unfold Hv at p2;obtain⟨t2,rfl⟩:=p2;exact RcAt.int_str b1 t1 b2 t2
 |.int b1,.tup ds2,p1,p2,hu=>by
  unfold Hv at p1;obtain⟨t1,rfl⟩:=p1;unfold Hv at p2;obtain⟨a2,its2,rfl,l2,p2⟩:=p2;exact RcAt.int_tuple b1 t1 l2 (by lia)
 |.int b1,.lst ds2,p1,p2,hu=>by
  unfold Hv at p1;obtain⟨t1,rfl⟩:=p1;unfold Hv at p2;obtain⟨a2,its2,rfl,l2,p2⟩:=p2;exact RcAt.int_list b1 t1 l2 (by lia)
 |.str b1,.non,p1,p2,hu=>by
  unfold Hv at p1;obtain⟨t1,rfl⟩:=p1;unfold Hv at p2;subst p2;exact RcAt.str_none b1 t1
 |.str b1,.bl b2,p1,p2,hu=>by
  unfold Hv at p1;obtain⟨t1,rfl⟩:=p1;unfold Hv at p2;subst p2;exact RcAt.str_bool b1 t1 b2
 |.str b1,.int b2,p1,p2,hu=>by
  unfold Hv at p1;obtain⟨t1,rfl⟩:=p1;unfold Hv at p2;obtain⟨t2,rfl⟩:=p2;exact RcAt.str_int b1 t1 b2 t2
 |.str b1,.str b2,p1,p2,hu=>by
  unfold Hv at p1;obtain⟨t1,rfl⟩:=p1;unfold Hv at p2;obtain⟨t2,rfl⟩:=p2;exact RcAt.str_str b1 t1 b2 t2
 |.str b1,.tup ds2,p1,p2,hu=>by
  unfold Hv at p1;obtain⟨t1,rfl⟩:=p1;unfold Hv at p2;obtain⟨a2,its2,rfl,l2,p2⟩:=p2;exact RcAt.str_tuple b1 t1 l2 (by lia)
 |.str b1,.lst ds2,p1,p2,hu=>by
  unfold Hv at p1;obtain⟨t1,rfl⟩:=p1;unfold Hv at p2;obtain⟨a2,its2,rfl,l2,p2⟩:=p2;exact RcAt.str_list b1 t1 l2 (by lia)
 |.tup ds1,.non,p1,p2,hu=>by
  unfold Hv at p1;obtain⟨a1,its1,rfl,l1,p1⟩:=p1;unfold Hv at p2;subst p2;exact RcAt.tuple_none  l1 (by lia)
 |.tup ds1,.bl b2,p1,p2,hu=>by
  unfold Hv at p1;obtain⟨a1,its1,rfl,l1,p1⟩:=p1;unfold Hv at p2;subst p2;exact RcAt.tuple_bool b2 l1 (by lia)
 |.tup ds1,.int b2,p1,p2,hu=>by
  unfold Hv at p1;obtain⟨a1,its1,rfl,l1,p1⟩:=p1;unfold Hv at p2;obtain⟨t2,rfl⟩:=p2;exact RcAt.tuple_int b2 t2 l1 (by lia)
 |.tup ds1,.str b2,p1,p2,hu=>by
  unfold Hv at p1;obtain⟨a1,its1,rfl,l1,p1⟩:=p1;unfold Hv at p2;obtain⟨t2,rfl⟩:=p2;exact RcAt.tuple_str b2 t2 l1 (by lia)
 |.tup ds1,.tup ds2,p1,p2,hu=>by
  unfold Hv at p1;obtain⟨a1,its1,rfl,l1,p1⟩:=p1;unfold Hv at p2;obtain⟨a2,its2,rfl,l2,p2⟩:=p2;unfold D.eqb;have hdep:A.units+deps ds1+1+1<cLine:=by
   have e9:(.tup ds1:D).dep=deps ds1+1:=by first|rfl|(unfold D.dep;rfl)
   lia
  have q:=RcAt.tuples (e:=fun j=>(ds1.getD j .non).eqb (ds2.getD j .non)) l1 l2 (by lia) fun j h1 h2=>
   eqAt (ds1.getD j .non) (ds2.getD j .non) _ _ A.in1 (q4z p1 h1).1 (q4z p2 h2).1 (by
    have:=dep_mem (q4z p1 h1).2;show A.units+1+_+1<cLine;lia)
  rw[List.size_toArray,List.size_toArray,p1.length,p2.length,qb2z] at q;exact q
 |.tup ds1,.lst ds2,p1,p2,hu=>by
  unfold Hv at p1;obtain⟨a1,its1,rfl,l1,p1⟩:=p1;unfold Hv at p2;obtain⟨a2,its2,rfl,l2,p2⟩:=p2;exact RcAt.tuple_list l1 l2 (by lia)
 |.lst ds1,.non,p1,p2,hu=>by
  unfold Hv at p1;obtain⟨a1,its1,rfl,l1,p1⟩:=p1;unfold Hv at p2;subst p2;exact RcAt.list_none  l1 (by lia)
 |.lst ds1,.bl b2,p1,p2,hu=>by
  unfold Hv at p1;obtain⟨a1,its1,rfl,l1,p1⟩:=p1;unfold Hv at p2;subst p2;exact RcAt.list_bool b2 l1 (by lia)
 |.lst ds1,.int b2,p1,p2,hu=>by
  unfold Hv at p1;obtain⟨a1,its1,rfl,l1,p1⟩:=p1;unfold Hv at p2;obtain⟨t2,rfl⟩:=p2;exact RcAt.list_int b2 t2 l1 (by lia)
 |.lst ds1,.str b2,p1,p2,hu=>by
  unfold Hv at p1;obtain⟨a1,its1,rfl,l1,p1⟩:=p1;unfold Hv at p2;obtain⟨t2,rfl⟩:=p2;exact RcAt.list_str b2 t2 l1 (by lia)
 |.lst ds1,.tup ds2,p1,p2,hu=>by
  unfold Hv at p1;obtain⟨a1,its1,rfl,l1,p1⟩:=p1;unfold Hv at p2;obtain⟨a2,its2,rfl,l2,p2⟩:=p2;exact RcAt.list_tuple l1 l2 (by lia)
 |.lst ds1,.lst ds2,p1,p2,hu=>by
  unfold Hv at p1;obtain⟨a1,its1,rfl,l1,p1⟩:=p1;unfold Hv at p2;obtain⟨a2,its2,rfl,l2,p2⟩:=p2;unfold D.eqb;have hdep:A.units+deps ds1+1+1<cLine:=by
   have e9:(.lst ds1:D).dep=deps ds1+1:=by first|rfl|(unfold D.dep;rfl)
   lia
  by_cases hn:ds1.length=ds2.length
  ·have q:=RcAt.lists (e:=fun j=>(ds1.getD j .non).eqb (ds2.getD j .non)) l1 l2 (by simp[p1.length,p2.length,hn]) (by lia) fun j h1 h2=>
    eqAt (ds1.getD j .non) (ds2.getD j .non) _ _ A.in1 (q4z p1 h1).1 (q4z p2 h2).1 (by
     have:=dep_mem (q4z p1 h1).2;show A.units+1+_+1<cLine;lia)
   have q2:=qb2z ds1 ds2;rw[hn,Nat.min_self,beq_self_eq_true,Bool.and_true] at q2;rw[List.size_toArray,p1.length,hn,q2] at q;exact q
  ·rw[qemz _ _ hn];exact RcAt.lists_lengths l1 l2 (by simp[p1.length,p2.length,hn]) (by lia)
 |d,.dct,p1,p2,hu=>by
  unfold Hv at p2;exact p2.elim
 |.dct,e,p1,p2,hu=>by
  unfold Hv at p1;exact p1.elim
theorem rcNe{s:Shared}(d e:D)(u v:Value)(A:Around)(p1:Hv s.heap d u)(p2:Hv s.heap e v)(hu:A.units+d.dep+1<cLine):RcNeAt A s u v (!d.eqb e):=
 match d,e,p1,p2,hu with
 |.non,.non,p1,p2,hu=>by
  unfold Hv at p1;subst p1;unfold Hv at p2;subst p2;exact RcNeAt.none_none
 |.non,.bl b2,p1,p2,hu=>by
  unfold Hv at p1;subst p1;unfold Hv at p2;subst p2;exact RcNeAt.none_bool  b2
 |.non,.int b2,p1,p2,hu=>by
  unfold Hv at p1;subst p1;unfold Hv at p2;obtain⟨t2,rfl⟩:=p2;exact RcNeAt.none_int  b2 t2
 |.non,.str b2,p1,p2,hu=>by
  unfold Hv at p1;subst p1;unfold Hv at p2;obtain⟨t2,rfl⟩:=p2;exact RcNeAt.none_str  b2 t2
 |.non,.tup ds2,p1,p2,hu=>by
  unfold Hv at p1;subst p1;unfold Hv at p2;obtain⟨a2,its2,rfl,l2,p2⟩:=p2;exact RcNeAt.none_tuple  l2 (by lia)
 |.non,.lst ds2,p1,p2,hu=>by
  unfold Hv at p1;subst p1;unfold Hv at p2;obtain⟨a2,its2,rfl,l2,p2⟩:=p2;exact RcNeAt.none_list  l2 (by lia)
 |.bl b1,.non,p1,p2,hu=>by
  unfold Hv at p1;subst p1;unfold Hv at p2;subst p2;exact RcNeAt.bool_none b1
 |.bl b1,.bl b2,p1,p2,hu=>by
  unfold Hv at p1;subst p1;unfold Hv at p2;subst p2;exact RcNeAt.bool_bool b1 b2
 |.bl b1,.int b2,p1,p2,hu=>by
  unfold Hv at p1;subst p1;unfold Hv at p2;obtain⟨t2,rfl⟩:=p2;exact RcNeAt.bool_int b1 b2 t2
 |.bl b1,.str b2,p1,p2,hu=>by
  unfold Hv at p1;subst p1;unfold Hv at p2;obtain⟨t2,rfl⟩:=p2;exact RcNeAt.bool_str b1 b2 t2
 |.bl b1,.tup ds2,p1,p2,hu=>by
  unfold Hv at p1;subst p1;unfold Hv at p2;obtain⟨a2,its2,rfl,l2,p2⟩:=p2;exact RcNeAt.bool_tuple b1 l2 (by lia)
 |.bl b1,.lst ds2,p1,p2,hu=>by
  unfold Hv at p1;subst p1;unfold Hv at p2;obtain⟨a2,its2,rfl,l2,p2⟩:=p2;exact RcNeAt.bool_list b1 l2 (by lia)
 |.int b1,.non,p1,p2,hu=>by
  unfold Hv at p1;obtain⟨t1,rfl⟩:=p1;unfold Hv at p2;subst p2;exact RcNeAt.int_none b1 t1
 |.int b1,.bl b2,p1,p2,hu=>by
  unfold Hv at p1;obtain⟨t1,rfl⟩:=p1;unfold Hv at p2;subst p2;exact RcNeAt.int_bool b1 t1 b2
 |.int b1,.int b2,p1,p2,hu=>by
  unfold Hv at p1;obtain⟨t1,rfl⟩:=p1;unfold Hv at p2;obtain⟨t2,rfl⟩:=p2;exact RcNeAt.int_int b1 t1 b2 t2
 |.int b1,.str b2,p1,p2,hu=>by
  unfold Hv at p1;obtain⟨t1,rfl⟩:=p1;unfold Hv at p2;obtain⟨t2,rfl⟩:=p2;exact RcNeAt.int_str b1 t1 b2 t2
 |.int b1,.tup ds2,p1,p2,hu=>by
  unfold Hv at p1;obtain⟨t1,rfl⟩:=p1;unfold Hv at p2;obtain⟨a2,its2,rfl,l2,p2⟩:=p2;exact RcNeAt.int_tuple b1 t1 l2 (by lia)
 |.int b1,.lst ds2,p1,p2,hu=>by
  unfold Hv at p1;obtain⟨t1,rfl⟩:=p1;unfold Hv at p2;obtain⟨a2,its2,rfl,l2,p2⟩:=p2;exact RcNeAt.int_list b1 t1 l2 (by lia)
 |.str b1,.non,p1,p2,hu=>by
  unfold Hv at p1;obtain⟨t1,rfl⟩:=p1;unfold Hv at p2;subst p2;exact RcNeAt.str_none b1 t1
 |.str b1,.bl b2,p1,p2,hu=>by
  unfold Hv at p1;obtain⟨t1,rfl⟩:=p1;unfold Hv at p2;subst p2;exact RcNeAt.str_bool b1 t1 b2
 |.str b1,.int b2,p1,p2,hu=>by
  unfold Hv at p1;obtain⟨t1,rfl⟩:=p1;unfold Hv at p2;obtain⟨t2,rfl⟩:=p2;exact RcNeAt.str_int b1 t1 b2 t2
 |.str b1,.str b2,p1,p2,hu=>by
  unfold Hv at p1;obtain⟨t1,rfl⟩:=p1;unfold Hv at p2;obtain⟨t2,rfl⟩:=p2;exact RcNeAt.str_str b1 t1 b2 t2
 |.str b1,.tup ds2,p1,p2,hu=>by
  unfold Hv at p1;obtain⟨t1,rfl⟩:=p1;unfold Hv at p2;obtain⟨a2,its2,rfl,l2,p2⟩:=p2;exact RcNeAt.str_tuple b1 t1 l2 (by lia)
 |.str b1,.lst ds2,p1,p2,hu=>by
  unfold Hv at p1;obtain⟨t1,rfl⟩:=p1;unfold Hv at p2;obtain⟨a2,its2,rfl,l2,p2⟩:=p2;exact RcNeAt.str_list b1 t1 l2 (by lia)
 |.tup ds1,.non,p1,p2,hu=>by
  unfold Hv at p1;obtain⟨a1,its1,rfl,l1,p1⟩:=p1;unfold Hv at p2;subst p2;exact RcNeAt.tuple_none  l1 (by lia)
 |.tup ds1,.bl b2,p1,p2,hu=>by
  unfold Hv at p1;obtain⟨a1,its1,rfl,l1,p1⟩:=p1;unfold Hv at p2;subst p2;exact RcNeAt.tuple_bool b2 l1 (by lia)
 |.tup ds1,.int b2,p1,p2,hu=>by
  unfold Hv at p1;obtain⟨a1,its1,rfl,l1,p1⟩:=p1;unfold Hv at p2;obtain⟨t2,rfl⟩:=p2;exact RcNeAt.tuple_int b2 t2 l1 (by lia)
 |.tup ds1,.str b2,p1,p2,hu=>by
  unfold Hv at p1;obtain⟨a1,its1,rfl,l1,p1⟩:=p1;unfold Hv at p2;obtain⟨t2,rfl⟩:=p2;exact RcNeAt.tuple_str b2 t2 l1 (by lia)
 |.tup ds1,.tup ds2,p1,p2,hu=>by
  unfold Hv at p1;obtain⟨a1,its1,rfl,l1,p1⟩:=p1;unfold Hv at p2;obtain⟨a2,its2,rfl,l2,p2⟩:=p2;unfold D.eqb;have hdep:A.units+deps ds1+1+1<cLine:=by
   have e9:(.tup ds1:D).dep=deps ds1+1:=by first|rfl|(unfold D.dep;rfl)
   lia
  have q:=RcNeAt.tuples (e:=fun j=>(ds1.getD j .non).eqb (ds2.getD j .non)) l1 l2 (by lia) fun j h1 h2=>
   eqAt (ds1.getD j .non) (ds2.getD j .non) _ _ A.in1 (q4z p1 h1).1 (q4z p2 h2).1 (by
    have:=dep_mem (q4z p1 h1).2;show A.units+1+_+1<cLine;lia)
  rw[List.size_toArray,List.size_toArray,p1.length,p2.length,qb2z] at q;exact q
 |.tup ds1,.lst ds2,p1,p2,hu=>by
  unfold Hv at p1;obtain⟨a1,its1,rfl,l1,p1⟩:=p1;unfold Hv at p2;obtain⟨a2,its2,rfl,l2,p2⟩:=p2;exact RcNeAt.tuple_list l1 l2 (by lia)
 |.lst ds1,.non,p1,p2,hu=>by
  unfold Hv at p1;obtain⟨a1,its1,rfl,l1,p1⟩:=p1;unfold Hv at p2;subst p2;exact RcNeAt.list_none  l1 (by lia)
 |.lst ds1,.bl b2,p1,p2,hu=>by
  unfold Hv at p1;obtain⟨a1,its1,rfl,l1,p1⟩:=p1;unfold Hv at p2;subst p2;exact RcNeAt.list_bool b2 l1 (by lia)
 |.lst ds1,.int b2,p1,p2,hu=>by
  unfold Hv at p1;obtain⟨a1,its1,rfl,l1,p1⟩:=p1;unfold Hv at p2;obtain⟨t2,rfl⟩:=p2;exact RcNeAt.list_int b2 t2 l1 (by lia)
 |.lst ds1,.str b2,p1,p2,hu=>by
  unfold Hv at p1;obtain⟨a1,its1,rfl,l1,p1⟩:=p1;unfold Hv at p2;obtain⟨t2,rfl⟩:=p2;exact RcNeAt.list_str b2 t2 l1 (by lia)
 |.lst ds1,.tup ds2,p1,p2,hu=>by
  unfold Hv at p1;obtain⟨a1,its1,rfl,l1,p1⟩:=p1;unfold Hv at p2;obtain⟨a2,its2,rfl,l2,p2⟩:=p2;exact RcNeAt.list_tuple l1 l2 (by lia)
 |.lst ds1,.lst ds2,p1,p2,hu=>by
  unfold Hv at p1;obtain⟨a1,its1,rfl,l1,p1⟩:=p1;unfold Hv at p2;obtain⟨a2,its2,rfl,l2,p2⟩:=p2;unfold D.eqb;have hdep:A.units+deps ds1+1+1<cLine:=by
   have e9:(.lst ds1:D).dep=deps ds1+1:=by first|rfl|(unfold D.dep;rfl)
   lia
  by_cases hn:ds1.length=ds2.length
  ·have q:=RcNeAt.lists (e:=fun j=>(ds1.getD j .non).eqb (ds2.getD j .non)) l1 l2 (by simp[p1.length,p2.length,hn]) (by lia) fun j h1 h2=>
    eqAt (ds1.getD j .non) (ds2.getD j .non) _ _ A.in1 (q4z p1 h1).1 (q4z p2 h2).1 (by
     have:=dep_mem (q4z p1 h1).2;show A.units+1+_+1<cLine;lia)
   have q2:=qb2z ds1 ds2;rw[hn,Nat.min_self,beq_self_eq_true,Bool.and_true] at q2;rw[List.size_toArray,p1.length,hn,q2] at q;exact q
  ·rw[qemz _ _ hn];exact RcNeAt.lists_lengths l1 l2 (by simp[p1.length,p2.length,hn]) (by lia)
 |d,.dct,p1,p2,hu=>by
  unfold Hv at p2;exact p2.elim
 |.dct,e,p1,p2,hu=>by
  unfold Hv at p1;exact p1.elim
end Dat
namespace L3
open PySem PySem.Spec PyProof.Rows L2
section
variable {X:Cx} {K:PySem.W.Frag}
def rI3(f:Int->Int->D):R3:=fun x y G Q=>match x,y with
 |.int i,.int j=>Q (f i j) G
 |_,_=>False
theorem qzz{H:Hp}{i:Int}{v:V}(h:Hv K H (.int i) v):v=.int i:=by unfold Hv at h;exact h
theorem qc4z{H:Hp}{i:Bool}{v:V}(h:Hv K H (.bl i) v):v=.bl i:=by unfold Hv at h;exact h
theorem q2z{H:Hp}{a:Addr}{v:V}(h:Hv K H (.obj a) v):v=.ref a:=by unfold Hv at h;exact h
theorem qaoz{H:Hp}{ds:List D}{v:V}(h:Hv K H (.tup ds) v):∃a vs,v=.ref a/\SqT K H a vs/\Hvs K H ds vs:=by unfold Hv at h;exact h
theorem qbrz{H:Hp}{ds:List D}{v:V}(h:Hv K H (.scr ds) v):∃a vs,v=.ref a/\SqF K H a vs/\Hvs K H ds vs:=by unfold Hv at h;exact h
theorem qacz{H:Hp}{i:Int}:Hv K H (.int i) (.int i):=by simp[Hv]
theorem qapz{H:Hp}{i:Bool}:Hv K H (.bl i) (.bl i):=by simp[Hv]
theorem qbaz{H:Hp}{a:Addr}:Hv K H (.obj a) (.ref a):=by simp[Hv]
theorem qbbz{H:Hp}{ds:List D}{a:Addr}{vs:List V}(h:SqT K H a vs)(q:Hvs K H ds vs):Hv K H (.tup ds) (.ref a):=by
 unfold Hv;exact⟨a,vs,rfl,h,q⟩
theorem low_ints{f:Int->Int->D}{g:Int->Int->V}(hf:∀i j H,Hv K H (f i j) (g i j)):LowR K (rI3 f) (rI0 g):=fun x y vx vy G H Q3 Q hx hy RG h k=>by
 cases x with
 |int i=>
  cases y with
  |int j=>
   rw[qzz hx,qzz hy];exact⟨i,j,rfl,rfl,k _ H _ G (hf i j H) (.refl H G) RG h⟩
  |_=>exact h.elim
 |_=>exact h.elim
abbrev rSub3:R3:=rI3 fun i j=>.int (i-j)
theorem qenz:LowR K rSub3 (rI0 fun i j=>.int (i-j)):=low_ints fun _ _ _=>qacz
abbrev rLe3:R3:=rI3 fun i j=>.bl (decide (i≤j))
theorem l_le:LowR K rLe3 (rI0 fun i j=>.bl (decide (i≤j))):=low_ints fun _ _ _=>qapz
abbrev rGt3:R3:=rI3 fun i j=>.bl (decide (j<i))
theorem l_gt:LowR K rGt3 (rI0 fun i j=>.bl (decide (j<i))):=low_ints fun _ _ _=>qapz
abbrev rGe3:R3:=rI3 fun i j=>.bl (decide (j≤i))
theorem l_ge:LowR K rGe3 (rI0 fun i j=>.bl (decide (j≤i))):=low_ints fun _ _ _=>qapz
def Big(i:Int):Prop:=i.natAbs<2^4000
theorem qj3z{i:Int}(h:Big i):i.natAbs.log2<4000:=by
 by_cases h0:i.natAbs=0
 ·rw[h0];decide
 ·exact (Nat.log2_lt h0).mpr h
theorem qj4z{i:Int}(h:Big i):Builtin.Int.intBits i≤4000:=by
 unfold Builtin.Int.intBits;split
 ·exact Nat.zero_le _
 ·exact qj3z h
theorem qtvz{i j:Int}(h1:Big i)(h2:Big j):IntMulOk i j:=by
 unfold IntMulOk Builtin.Int.intTooBig;have b1:=qj4z h1;have b2:=qj4z h2;have:¬((Builtin.Int.intBits i:Int)+(Builtin.Int.intBits j:Int) > (bitsLine:Int)):=by
  have:(bitsLine:Int)=134217728:=by decide
  lia
 rw[decide_eq_false this];simp
theorem qa1z:OpR X (binaryOp .FloorDiv) (rI (fun _ j=>0<j/\Big j) fun i j=>.int (i / j)):=opI fun i j _ _ _ _ _ hc q=>by
 have h1:(0:Int)<j:=hc.1;exact floordiv_int (by lia) (by rw[Int.fdiv_eq_ediv_of_nonneg i (by lia)];exact q) (.inl (PyProof.noPylong_of_log2 (Nat.lt_trans (qj3z hc.2) (by decide))))
theorem op_mulB:OpR X (binaryOp .Mult) (rI (fun i j=>Big i/\Big j) fun i j=>.int (i*j)):=opI fun _ _ _ _ _ _ _ hc q=>mul_int q (qtvz hc.1 hc.2)
def rIC3(C:Int->Int->Prop)(f:Int->Int->D):R3:=fun x y G Q=>match x,y with
 |.int i,.int j=>C i j/\Q (f i j) G
 |_,_=>False
theorem qf3z{C:Int->Int->Prop}{f:Int->Int->D}{g:Int->Int->V}(hf:∀i j H,Hv K H (f i j) (g i j)):LowR K (rIC3 C f) (rI C g):=fun x y vx vy G H Q3 Q hx hy RG h k=>by
 cases x with
 |int i=>
  cases y with
  |int j=>
   rw[qzz hx,qzz hy];exact⟨i,j,rfl,rfl,h.1,k _ H _ G (hf i j H) (.refl H G) RG h.2⟩
  |_=>exact h.elim
 |_=>exact h.elim
abbrev rDiv3:R3:=rIC3 (fun _ j=>0<j/\Big j) fun i j=>.int (i / j)
theorem qa2z:LowR K rDiv3 (rI (fun _ j=>0<j/\Big j) fun i j=>.int (i / j)):=qf3z fun _ _ _=>qacz
abbrev rMod3:R3:=rIC3 (fun _ j=>0<j) fun i j=>.int (i%j)
theorem qakz:LowR K rMod3 (rI (fun _ j=>0<j) fun i j=>.int (i%j)):=qf3z fun _ _ _=>qacz
abbrev rPow3:R3:=rIC3 CPow fun i j=>.int (i^j.toNat)
theorem qtwz:LowR K rPow3 (rI CPow fun i j=>.int (i^j.toNat)):=qf3z fun _ _ _=>qacz
theorem qtxz{prog:Program}{w:World}{A:Around}{E:Value->Shared->Prop}{s:Shared}{t b:Addr}{ws:List Value}{Q:Value->Shared->Prop}(ht:IsTup s.heap t #[])(hb:IsTup s.heap b ws.toArray)(h1:Q (.ref b) s):
  wpAny (model prog w) A (binaryOp .Add (.ref t) (.ref b)) Q E s:=by
 obtain⟨⟨cls,dd,data,sl⟩,ho,hc,n,hd⟩:=id ht;obtain⟨⟨cls2,dd2,data2,sl2⟩,ho2,hc2,n2,hd2⟩:=id hb;simp only at hc hd hc2 hd2;subst hc hd hc2 hd2;exact concat_meets ⟨_,ho,rfl⟩ ⟨_,ho2,rfl⟩ noFill_tuple_add seq_tuple_add PySem.F.slot_tuple_add PySem.F.entry_tuple_add (PySem.F.args_tuple_add_2 _ _)
   (tuple_addW0 t b #[] ws.toArray n n2 dd dd2 sl sl2 rfl) ⟨ho,ho2,h1⟩
def rCatT0(K:PySem.W.Frag):R2:=fun x y H Q=>∃a b ys,x=.ref a/\y=.ref b/\SqT K H a []/\SqT K H b ys/\Q (.ref b) H
theorem qtyz:OpR X (binaryOp .Add) (rCatT0 X.K):=by
 intro pins s σ H x y v u Q I rx ry h;obtain⟨a,b,ys,rfl,rfl,ha,hb,q⟩:=h;cases rx;cases ry;obtain⟨its,r1,p1,_⟩:=I.tuple ha;obtain⟨its2,r2,p2,_⟩:=I.tuple hb;cases r1;exact qtxz p1 p2 ⟨.ref b,H,I,rfl,q⟩
def rAdd3:R3:=fun x y G Q=>match x,y with
 |.int i,.int j=>Q (.int (i+j)) G
 |.obj a,.obj b=>∃ds es,G a=some (.lst ds)/\G b=some (.lst es)/\ds.length+es.length≤sizeLine/\∀p G',New G p (.lst (ds++es)) G'->Q (.obj p) G'
 |.tup ds,.tup es=>ds.length+es.length≤sizeLine/\Q (.tup (ds++es)) G
 |_,_=>False
abbrev rAdd2(K:PySem.W.Frag):R2:=fun x y H Q=>rI0 (fun i j=>.int (i+j)) x y H Q∨(rCat x y H Q∨(rCatT K x y H Q∨rCatT0 K x y H Q))
theorem qwz:OpR X (binaryOp .Add) (rAdd2 X.K):=op_add.or (op_cat.or (op_catT.or qtyz))
theorem qxz:LowR K rAdd3 (rAdd2 K):=fun x y vx vy G H Q3 Q hx hy RG h k=>by
 cases x with
 |int i=>
  cases y with
  |int j=>
   rw[qzz hx,qzz hy];exact .inl ⟨i,j,rfl,rfl,k _ H _ G qacz (.refl H G) RG h⟩
  |_=>exact h.elim
 |obj a=>
  cases y with
  |obj b=>
   rw[q2z hx,q2z hy];obtain⟨ds,es,e1,e2,hz,q⟩:=h;obtain⟨vs,z1,z2⟩:=RG a _ e1;obtain⟨us,y1,y2⟩:=RG b _ e2;refine .inr (.inl ⟨a,b,vs,us,rfl,rfl,z1,y1,by rw[←z2.length,←y2.length];exact hz,fun p hp=>?_⟩);exact k _ _ (.obj p) _ qbaz (.laidG hp) (RG.newL hp (z2.append y2)) (q p _ (.mk' (RG.free hp)))
  |_=>exact h.elim
 |tup ds=>
  cases y with
  |tup es=>
   obtain⟨a,vs,rfl,e1,e2⟩:=qaoz hx;obtain⟨b,us,rfl,y1,y2⟩:=qaoz hy;by_cases h0:vs=[]
   ·subst h0;have:ds=[]:=by
     have:=e2.length;exact List.eq_nil_of_length_eq_zero (by simpa using this)
    subst this;exact .inr (.inr (.inr ⟨a,b,us,rfl,rfl,e1,y1,k _ H (.tup es) G (qbbz y1 y2) (.refl H G) RG h.2⟩))
   ·refine .inr (.inr (.inl ⟨a,b,vs,us,rfl,rfl,e1,y1,h0,by rw[←e2.length,←y2.length];exact h.1,fun z=>?_,fun z p hp=>?_⟩))
    ·subst z;have:es=[]:=List.eq_nil_of_length_eq_zero (by simpa using y2.length);subst this;refine k _ H (.tup ds) G (qbbz e1 e2) (.refl H G) RG ?_;have:=h.2;rwa [List.append_nil] at this
    ·exact k _ _ (.tup (ds++es)) G (qbbz (.of qvz) ((e2.append y2).ext (.laid hp))) (.laid hp) (RG.laid hp) h.2
  |_=>exact h.elim
 |_=>exact h.elim
def rMul3:R3:=fun x y G Q=>match x,y with
 |.int i,.int j=>(Big i/\Big j)/\Q (.int (i*j)) G
 |.obj a,.int k=>∃ds,G a=some (.lst ds)/\(-(2^63)≤k/\k<2^63)/\ds.length*k.toNat≤sizeLine/\∀p G',New G p (.lst (List.replicate k.toNat ds).flatten) G'->Q (.obj p) G'
 |_,_=>False
abbrev rMul2:R2:=fun x y H Q=>rI (fun i j=>Big i/\Big j) (fun i j=>.int (i*j)) x y H Q∨rRep x y H Q
theorem q6z:OpR X (binaryOp .Mult) rMul2:=op_mulB.or qr3z
theorem q7z:LowR K rMul3 rMul2:=fun x y vx vy G H Q3 Q hx hy RG h k=>by
 cases x with
 |int i=>
  cases y with
  |int j=>
   rw[qzz hx,qzz hy];exact .inl ⟨i,j,rfl,rfl,h.1,k _ H _ G qacz (.refl H G) RG h.2⟩
  |_=>exact h.elim
 |obj a=>
  cases y with
  |int j=>
   rw[q2z hx,qzz hy];obtain⟨ds,e1,hk,hz,q⟩:=h;obtain⟨vs,z1,z2⟩:=RG a _ e1;refine .inr ⟨a,j,vs,rfl,rfl,z1,hk.1,hk.2,by rw[←z2.length];exact hz,fun p hp=>?_⟩;exact k _ _ (.obj p) _ qbaz (.laidG hp) (RG.newL hp (z2.rep _)) (q p _ (.mk' (RG.free hp)))
  |_=>exact h.elim
 |_=>exact h.elim
def isNon:D->Bool
 |.non=>true
 |_=>false
def rIs3(neg:Bool):R3:=fun x y G Q=>match y with
 |.non=>Q (.bl (if neg then !isNon x else isNon x)) G
 |_=>False
theorem qj5z{H:Hp}{x:D}{v:V}(h:Hv K H x v):decide (v=.non)=isNon x:=by
 cases x with
 |non=>unfold Hv at h;subst h;rfl
 |bl b=>rw[qc4z h];rfl
 |int b=>rw[qzz h];rfl
 |str b=>unfold Hv at h;subst h;rfl
 |obj b=>rw[q2z h];rfl
 |tup ds=>obtain⟨a,vs,rfl,_⟩:=qaoz h;rfl
 |scr ds=>obtain⟨a,vs,rfl,_⟩:=qbrz h;rfl
 |dc a=>unfold Hv at h;rw[h.1];rfl
theorem l_is:LowR K (rIs3 false) (fun x y H Q=>y=.non/\Q (.bl (decide (x=.non))) H):=fun x y vx vy G H Q3 Q hx hy RG h k=>by
 cases y with
 |non=>
  refine⟨by unfold Hv at hy;exact hy,?_⟩;rw[qj5z hx];exact k _ H _ G qapz (.refl H G) RG h
 |_=>exact h.elim
theorem qbsz:LowR K (rIs3 true) (fun x y H Q=>y=.non/\Q (.bl (!decide (x=.non))) H):=fun x y vx vy G H Q3 Q hx hy RG h k=>by
 cases y with
 |non=>
  refine⟨by unfold Hv at hy;exact hy,?_⟩;rw[qj5z hx];exact k _ H _ G qapz (.refl H G) RG h
 |_=>exact h.elim
def intsOf:List D->Option (List Int)
 |[]=>some []
 |.int i::r=>(intsOf r).map (i::·)
 |_::_=>none
theorem qb3z{H:Hp}:∀{ds:List D} {vs:List V} {ns:List Int},Hvs K H ds vs->intsOf ds=some ns->vs=ns.map V.int
 |[],vs,ns,h,e=>by
  cases e;exact h.inv0
 |d::ds,vs,ns,h,e=>by
  cases d with
  |int i=>
   obtain⟨v,r,rfl,z1,z2⟩:=h.inv;unfold intsOf at e;cases hm:intsOf ds with
   |none=>rw[hm] at e;cases e
   |some ms=>
    rw[hm] at e;cases e;rw[qzz z1,qb3z z2 hm];rfl
  |_=>cases e
def rLtT3:R3:=fun x y G Q=>match x,y with
 |.int i,.int j=>Q (.bl (decide (i<j))) G
 |.tup ds,.tup es=>∃ns ms,intsOf ds=some ns/\intsOf es=some ms/\Q (.bl (HT.lexLt ns ms)) G
 |_,_=>False
abbrev rLtA(K:PySem.W.Frag):R2:=fun x y H Q=>rI0 (fun i j=>.bl (decide (i<j))) x y H Q∨rLtT K x y H Q
theorem qbcz(hu:X.A.units<cLine):OpR X (compareOp .Lt) (rLtA X.K):=op_lt.or (qrsz hu)
theorem qbdz:LowR K rLtT3 (rLtA K):=fun x y vx vy G H Q3 Q hx hy RG h k=>by
 cases x with
 |int i=>
  cases y with
  |int j=>
   rw[qzz hx,qzz hy];exact .inl ⟨i,j,rfl,rfl,k _ H _ G qapz (.refl H G) RG h⟩
  |_=>exact h.elim
 |tup ds=>
  cases y with
  |tup es=>
   obtain⟨a,vs,rfl,e1,e2⟩:=qaoz hx;obtain⟨b,us,rfl,y1,y2⟩:=qaoz hy;obtain⟨ns,ms,z1,z2,q⟩:=h;have q1:=qb3z e2 z1;have q2:=qb3z y2 z2;subst q1 q2;exact .inr ⟨a,b,ns,ms,rfl,rfl,e1,y1,k _ H _ G qapz (.refl H G) RG q⟩
  |_=>exact h.elim
 |_=>exact h.elim
def rIx3:R3:=fun x y G Q=>match x,y with
 |.tup ds,.int i=>∃d,atI ds i=some d/\Q d G
 |.scr ds,.int i=>∃d,atI ds i=some d/\Q d G
 |.obj p,.int i=>∃ds d,G p=some (.lst ds)/\atI ds i=some d/\Q d G
 |_,_=>False
theorem qc5z{H:Hp}{ds:List D}{vs:List V}{i:Int}{d:D}(h:Hvs K H ds vs)(e:atI ds i=some d):∃v,atI vs i=some v/\Hv K H d v:=by
 unfold atI at e ⊢;rw[←h.length];cases hx:ixN ds.length i with
 |none=>rw[hx] at e;cases e
 |some j=>
  rw[hx] at e;exact h.get e
theorem l_ix:LowR K rIx3 (rIx K):=fun x y vx vy G H Q3 Q hx hy RG h k=>by
 cases y with
 |int i=>
  rw[qzz hy];cases x with
  |tup ds=>
   obtain⟨d,e,q⟩:=h;obtain⟨a,vs,rfl,e1,e2⟩:=qaoz hx;obtain⟨v,z1,z2⟩:=qc5z e2 e;exact .inr (.inl ⟨a,vs,i,v,rfl,rfl,e1,z1,k _ H d G z2 (.refl H G) RG q⟩)
  |scr ds=>
   obtain⟨d,e,q⟩:=h;obtain⟨a,vs,rfl,e1,e2⟩:=qbrz hx;obtain⟨v,z1,z2⟩:=qc5z e2 e;exact .inl ⟨a,vs,i,v,rfl,rfl,e1.l,z1,k _ H d G z2 (.refl H G) RG q⟩
  |obj p=>
   obtain⟨ds,d,e0,e,q⟩:=h;rw[q2z hx];obtain⟨vs,e1,e2⟩:=RG p _ e0;obtain⟨v,z1,z2⟩:=qc5z e2 e;exact .inl ⟨p,vs,i,v,rfl,rfl,.of e1,z1,k _ H d G z2 (.refl H G) RG q⟩
  |_=>exact h.elim
 |_=>cases x<;>exact h.elim
theorem e_ix{a b:Expr}{ta tb:TE3}{pos:Pos}(ha:PE3 X a ta)(hb:PE3 X b tb)(hs:PlainIx b:=by intro _ _;rfl):PE3 X (.Subscript a b pos) (eOp rIx3 ta tb):=q0z (qjhz qjiz ha hb hs) fun _ _ _ h=>qejz l_ix h
def eLstIx(ta:TA3)(tb:TE3):TE3:=fun τ G Q=>ta τ G fun ds G1=>smallL (tb τ G1 fun y G2=>match y with
 |.int i=>∃d,atI ds i=some d/\Q d G2
 | _=>False) ds 64
theorem qtzz{es:List Expr}{b:Expr}{ta:TA3}{tb:TE3}{pos pos':Pos}(ha:PA3 X es ta)(hb:PE3 X b tb)(hs:PlainIx b:=by intro _ _;rfl):PE3 X (.Subscript (.List es pos') b pos) (eLstIx ta tb):=
 q0z (qjhz qjiz (qi7z ha) hb hs) fun σ H Q ⟨τ,G,Q3,RS,RG,h,k⟩=>by
  refine⟨τ,G,_,RS,RG,h,fun vs H1 ds G1 h1 S1 R1 q1=>?_⟩;obtain⟨z,q1⟩:=qekz q1;refine⟨by rw[←h1.length];exact line64 z,fun p hp=>?_⟩;refine⟨τ,G1,_,(RS.ext (S1.ext RG)).ext (.laid hp),R1.laid hp,q1,fun v2 H2 d2 G2 h2 S2 R2 q2=>?_⟩;have e2:H2 p=some (.lst vs):=S2.fr p _ qvz (R1.free hp);cases d2 with
  |int i=>
   obtain⟨d,e,q⟩:=q2;obtain⟨v,z1,z2⟩:=qc5z ((h1.ext (.laid hp)).ext (S2.ext (R1.laid hp))) e;rw[qzz h2];exact .inl ⟨p,vs,i,v,rfl,rfl,.of e2,z1,k _ H2 d G2 z2 ((S1.trans (.laid hp)).trans S2) R2 q⟩
  |_=>exact q2.elim
end
end L3
namespace L3
open PySem PySem.Spec PyProof.Rows L2
mutual
def toDat0:D->Option Dat.D
 |.non=>some .non
 |.bl b=>some (.bl b)
 |.int i=>some (.int i)
 |.str x=>some (.str x)
 |.tup ds=>match toDats0 ds with
  |some xs=>some (.tup xs)
  |none=>none
 |.scr ds=>match toDats0 ds with
  |some xs=>some (.lst xs)
  |none=>none
 |.obj _=>none
 |.dc _=>none
def toDats0:List D->Option (List Dat.D)
 |[]=>some []
 |d::ds=>match toDat0 d with
  |some x=>match toDats0 ds with
   |some xs=>some (x::xs)
   |none=>none
  |none=>none
end
def toDat(G:Gp):D->Option Dat.D
 |.obj a=>match G a with
  |some (.lst ds)=>match toDats0 ds with
   |some xs=>some (.lst xs)
   |none=>none
  |_=>none
 |d=>toDat0 d
section
variable {X:Cx} {pins:List (Addr×Obj)} {σ:L2.St} {H:Hp} {s:Shared}
mutual
theorem qbtz(I:Inv X pins σ H s):∀{d:D} {v:V} {u:Value} {x:Dat.D},Hv X.K H d v->RelV v u->toDat0 d=some x->Dat.Hv s.heap x u
 |.non,v,u,x,h,r,e=>by
  unfold Hv at h;subst h;cases e;unfold Dat.Hv;exact r
 |.bl b,v,u,x,h,r,e=>by
  unfold Hv at h;subst h;cases e;unfold Dat.Hv;exact r
 |.int b,v,u,x,h,r,e=>by
  unfold Hv at h;subst h;cases e;unfold Dat.Hv;exact r
 |.str b,v,u,x,h,r,e=>by
  unfold Hv at h;subst h;cases e;unfold Dat.Hv;exact r
 |.obj a,v,u,x,h,r,e=>by cases e
 |.dc a,v,u,x,h,r,e=>by cases e
 |.tup ds,v,u,x,h,r,e=>by
  obtain⟨a,vs,rfl,q1,q2⟩:=qaoz h;cases r;unfold toDat0 at e;cases hd:toDats0 ds with
  |none=>rw[hd] at e;cases e
  |some xs=>
   rw[hd] at e;cases e;obtain⟨its,rv,p,_⟩:=I.tuple q1;unfold Dat.Hv;exact⟨a,its,rfl,p,qeoz I q2 rv hd⟩
 |.scr ds,v,u,x,h,r,e=>by
  obtain⟨a,vs,rfl,q1,q2⟩:=qbrz h;cases r;unfold toDat0 at e;cases hd:toDats0 ds with
  |none=>rw[hd] at e;cases e
  |some xs=>
   rw[hd] at e;cases e;obtain⟨its,rv,p,_⟩:=I.list q1.l;unfold Dat.Hv;exact⟨a,its,rfl,p.isList,qeoz I q2 rv hd⟩
theorem qeoz(I:Inv X pins σ H s):∀{ds:List D} {vs:List V} {us:List Value} {xs:List Dat.D},Hvs X.K H ds vs->Vals vs us->toDats0 ds=some xs->Dat.Hvs s.heap xs us
 |[],vs,us,xs,h,r,e=>by
  cases h.inv0;cases r;cases e;unfold Dat.Hvs;rfl
 |d::ds,vs,us,xs,h,r,e=>by
  obtain⟨v,vr,rfl,q1,q2⟩:=h.inv;unfold toDats0 at e;cases hd:toDat0 d with
  |none=>rw[hd] at e;cases e
  |some x=>
   rw[hd] at e;cases hr:toDats0 ds with
   |none=>rw[hr] at e;cases e
   |some xr=>
    rw[hr] at e;cases e;cases r with
    |cons r1 r2=>
     unfold Dat.Hvs;exact⟨_,_,rfl,qbtz I q1 r1 hd,qeoz I q2 r2 hr⟩
end
theorem qb4z{G:Gp}(I:Inv X pins σ H s)(RG:RepG X.K G H){d:D}{v:V}{u:Value}{x:Dat.D}(h:Hv X.K H d v)(r:RelV v u)(e:toDat G d=some x):Dat.Hv s.heap x u:=by
 cases d with
 |obj a=>
  rw[q2z h] at r;cases r;unfold toDat at e;cases hG:G a with
  |none=>simp[hG] at e
  |some o=>
   cases o with
   |lst ds=>
    simp only[hG] at e;cases hr:toDats0 ds with
    |none=>rw[hr] at e;cases e
    |some xs=>
     rw[hr] at e;cases e;obtain⟨vs,e1,e2⟩:=RG a _ hG;obtain⟨its,rv,p,_⟩:=I.list (SqL.of e1);unfold Dat.Hv;exact⟨a,its,rfl,p.isList,qeoz I e2 rv hr⟩
   |pen=>simp[hG] at e
   |dct=>simp[hG] at e
   |gen R=>simp[hG] at e
 |non=>exact qbtz I h r e
 |bl _=>exact qbtz I h r e
 |int _=>exact qbtz I h r e
 |str _=>exact qbtz I h r e
 |tup _=>exact qbtz I h r e
 |scr _=>exact qbtz I h r e
 |dc _=>exact qbtz I h r e
end
section
variable {X:Cx} {a b e:Expr} {ta tb:TE3} {pos:Pos}
def rEq3(neg:Bool):R3:=fun x y G Q=>∃u v,toDat G x=some u/\toDat G y=some v/\u.dep≤50/\Q (.bl (if neg then !u.eqb v else u.eqb v)) G
def CmpR(X:Cx)(f:Value->Value->Sem Value)(r:R3):Prop:=
 ∀(pins:List (Addr×Obj)) (s:Shared) (σ:L2.St) (H:Hp) (G:Gp) (x y:D) (vx vy:V) (u v:Value) (Q3:V3),Inv X pins σ H s->RepG X.K G H->Hv X.K H x vx->Hv X.K H y vy->RelV vx u->RelV vy v->r x y G Q3 ->
  wpAny (model X.prog X.w) X.A (f u v) (EP X pins σ fun w H'=>∃d G',Hv X.K H' d w/\Step H G H' G'/\RepG X.K G' H'/\Q3 d G') X.xe s
theorem eqR(hu:X.A.units+64<cLine):CmpR X (compareOp .Eq) (rEq3 false):=by
 intro pins s σ H G x y vx vy u v Q3 I RG hx hy rx ry ⟨p,q,e1,e2,hd,h⟩;have:=Dat.rcAt p q u v X.A (qb4z I RG hx rx e1) (qb4z I RG hy ry e2) (by omega);exact this _ _ _ _ ⟨.bl (p.eqb q),H,I,rfl,.bl (p.eqb q),G,qapz,.refl H G,RG,h⟩
theorem neR(hu:X.A.units+64<cLine):CmpR X (compareOp .NotEq) (rEq3 true):=by
 intro pins s σ H G x y vx vy u v Q3 I RG hx hy rx ry ⟨p,q,e1,e2,hd,h⟩;have:=Dat.rcNe p q u v X.A (qb4z I RG hx rx e1) (qb4z I RG hy ry e2) (by omega);exact this _ _ _ _ ⟨.bl (!p.eqb q),H,I,rfl,.bl (!p.eqb q),G,qapz,.refl H G,RG,h⟩
def cmpR2(K:PySem.W.Frag)(r:R3):R2:=fun vx vy H Q=>∃x y G Q3,RepG K G H/\Hv K H x vx/\Hv K H y vy/\r x y G Q3/\∀v H' d G',Hv K H' d v->Step H G H' G'->RepG K G' H'->Q3 d G'->Q v H'
theorem CmpR.op{f:Value->Value->Sem Value}{r:R3}(h:CmpR X f r):OpR X f (cmpR2 X.K r):=by
 intro pins s σ H vx vy u v Q I rx ry ⟨x,y,G,Q3,RG,hx,hy,q,k⟩;refine thn (h pins s σ H G x y vx vy u v Q3 I RG hx hy rx ry q) fun w s' ⟨v',H',I',r',d,G',z1,z2,z3,z4⟩=>⟨v',H',I',r',k v' H' d G' z1 z2 z3 z4⟩
theorem qf4z{K:PySem.W.Frag}{r:R3}:LowR K r (cmpR2 K r):=fun x y vx vy G H Q3 Q hx hy RG h k=>⟨x,y,G,Q3,RG,hx,hy,h,k⟩
theorem qauz(hu:X.A.units+64<cLine):OpR X (compareOp .Eq) (cmpR2 X.K (rEq3 false)):=(eqR hu).op
theorem qavz(hu:X.A.units+64<cLine):OpR X (compareOp .NotEq) (cmpR2 X.K (rEq3 true)):=(neR hu).op
theorem l_eq{K:PySem.W.Frag}:LowR K (rEq3 false) (cmpR2 K (rEq3 false)):=qf4z
theorem l_ne{K:PySem.W.Frag}:LowR K (rEq3 true) (cmpR2 K (rEq3 true)):=qf4z
abbrev TO3:=S3->Gp->(Option Int->Gp->Prop)->Prop
def lowO(K:PySem.W.Frag)(t:TO3):TO:=fun σ H Q=>∃τ G Q3,RepS K τ σ H/\RepG K G H/\t τ G Q3/\∀o H' G',Step H G H' G'->RepG K G' H'->Q3 o G'->Q o H'
abbrev PO3(X:Cx)(e:Option Expr)(t:TO3):Prop:=PO X e (lowO X.K t)
theorem qj6z{o:Option Expr}{t t':TO}(h:PO X o t)(f:∀σ H Q,t' σ H Q->t σ H Q):PO X o t':=fun pins s σ H Q I q=>h pins s σ H Q I (f σ H Q q)
def oNone:TO3:=fun _ G Q=>Q none G
def oSome(t:TE3):TO3:=fun τ G Q=>t τ G fun x G1=>match x with
 |.int i=>Q (some i) G1
 |_=>False
theorem qt0z:PO3 X none oNone:=qj6z qrpz fun σ H Q ⟨τ,G,Q3,RS,RG,h,k⟩=>k none H G (.refl H G) RG h
theorem qt1z(h:PE3 X e ta):PO3 X (some e) (oSome ta):=qj6z (qrqz h) fun σ H Q ⟨τ,G,Q3,RS,RG,h,k⟩=>
 ⟨τ,G,_,RS,RG,h,fun v H1 d G1 h1 S1 R1 q1=>by
  cases d with
  |int i=>exact⟨i,qzz h1,k (some i) H1 G1 S1 R1 q1⟩
  |_=>exact q1.elim⟩
def cut3(ds:List D)(lo hi:Option Int):List D:=(ds.drop (HT.sIx ds.length 0 lo)).take (HT.sIx ds.length ds.length hi-HT.sIx ds.length 0 lo)
def eSl(ta:TE3)(tl th:TO3):TE3:=fun τ G Q=>ta τ G fun x G1=>tl τ G1 fun lo G2=>th τ G2 fun hi G3=>match x with
 |.tup ds=>Q (.tup (cut3 ds lo hi)) G3
 |.scr ds=>∀p G4,New G3 p (.lst (cut3 ds lo hi)) G4->Q (.obj p) G4
 |.obj a=>∃ds,G3 a=some (.lst ds)/\∀p G4,New G3 p (.lst (cut3 ds lo hi)) G4->Q (.obj p) G4
 |_=>False
theorem qf5z{K:PySem.W.Frag}{H:Hp}{ds:List D}{vs:List V}(h:Hvs K H ds vs)(lo hi:Option Int):Hvs K H (cut3 ds lo hi) (cutV vs lo hi):=by
 unfold cut3 cutV;rw[h.length];exact (h.drop _).take _
theorem qt2z{prog:Program}{w:World}{A:Around}{E:Value->Shared->Prop}{s:Shared}{t sl:Addr}{items:Array Value}{vl vu:Value}{lo hi:Option Int}{Q:Value->Shared->Prop}(ht:IsTup s.heap t items)(hs:s.heap.IsSliceOf sl vl vu .none)(pl:IsPart vl lo)(pu:IsPart vu hi)
  (hw:HT.sIx items.size 0 lo=0/\HT.sIx items.size items.size hi=items.size) (h:Q (.ref t) s):wpAny (model prog w) A (getItem (.ref t) (.ref sl)) Q E s:=by
 obtain⟨os,hos,hcs,hds⟩:=id hs;have hTs:s.TypeIs (.ref sl) "slice":=⟨os,hos,hcs⟩;unfold getItem
 try with_reducible refine wpAny_holding ?_
 first|refine wpAny_bind (wpAny_pure ?_)|skip
 refine wpAny_bind (wpAny_sequenceKey ht.typeIs (by decide) ?_);refine wpAny_bind (wpAny_callSpecial?_slot (name:=Str.ofString "__getitem__") ht.typeIs PyProof.Rows.slot_tuple_getitem
  (wpAny_call_entry PyProof.Rows.slot_tuple_getitem ht.typeIs entry_tuple_getitem ?_ (args_tuple_getitem _ _)))
 show wpAny _ _ (Builtin.Tuple.tupleItemsOf (.ref t) >>= _) _ _ s;refine wpAny_bind (tupleItemsOf_ ht ?_);refine wpAny_bind (wpAny_typeOf hTs ?_);rw[if_pos (by decide)];refine wpAny_bind (HT.sliceApplied_gen hs pl pu ?_);have hyes:(((HT.sIx items.size 0 lo:Nat):Int)==0&&(1:Int)==1&&(HT.sIx items.size items.size hi-HT.sIx items.size 0 lo)==items.size)=true:=by
  rw[hw.1,hw.2];simp
 show wpAny _ _ (if (((HT.sIx items.size 0 lo:Nat):Int)==0&&(1:Int)==1&&(HT.sIx items.size items.size hi-HT.sIx items.size 0 lo)==items.size)=true then _ else _) _ _ s;rw[if_pos hyes];unfold Builtin.Tuple.tupleIsExact;refine wpAny_bind (wpAny_bind (wpAny_typeOf ht.typeIs (wpAny_pure ?_)));rw[if_pos (by decide)];exact wpAny_bind (wpAny_rule (wpAny_pure ⟨_,rfl,wpAny_pure h⟩))
def rSlT3(K:PySem.W.Frag):V->Option Int->Option Int->Hp->VK->Prop:=fun x lo hi H Q=>∃a xs,x=.ref a/\SqT K H a xs ∧
 (HT.sIx xs.length 0 lo=0/\HT.sIx xs.length xs.length hi=xs.length)/\Q (.ref a) H
theorem sl_tupW:SlR X (rSlT3 X.K):=by
 intro pins s σ H x v vl vu lo hi sl Q I rx hs pl pu h;obtain⟨a,xs,rfl,hx,hw,q⟩:=h;cases rx;obtain⟨its,r,ht,hz⟩:=I.tuple hx;have hlen:its.toArray.size=xs.length:=by rw[List.size_toArray];exact r.length.symm
 refine⟨"tuple",_,PyProof.Rows.slot_tuple_getitem.lookup,ht.typeIs,?_⟩;exact qt2z ht hs pl pu (by rw[hlen];exact hw) ⟨.ref a,H,I,rfl,q⟩
theorem e_sl{lo hi:Option Expr}{tl th:TO3}{p2:Pos}(ha:PE3 X a ta)(hl:PO3 X lo tl)(hh:PO3 X hi th):PE3 X (.Subscript a (.Slice lo hi none p2) pos) (eSl ta tl th):=
 q0z (qrrz (sl_tup.or (sl_tupW.or qrxz)) ha hl hh) fun σ H Q ⟨τ,G,Q3,RS,RG,h,k⟩=>by
  refine⟨τ,G,_,RS,RG,h,fun v1 H1 d1 G1 h1 S1 R1 q1=>?_⟩;have RS1:=RS.ext (S1.ext RG);refine⟨τ,G1,_,RS1,R1,q1,fun l H2 G2 S2 R2 q2=>?_⟩;have RS2:=RS1.ext (S2.ext R1);refine⟨τ,G2,_,RS2,R2,q2,fun u H3 G3 S3 R3 q3=>?_⟩;have S13:Step H G H3 G3:=(S1.trans S2).trans S3;have hv:=(h1.ext (S2.ext R1)).ext (S3.ext R2);cases d1 with
  |tup ds=>
   obtain⟨a',vs,rfl,e1,e2⟩:=qaoz hv;by_cases hw:HT.sIx vs.length 0 l=0/\HT.sIx vs.length vs.length u=vs.length
   ·refine .inr (.inl ⟨a',vs,rfl,e1,hw,k _ H3 (.tup (cut3 ds l u)) G3 (qbbz e1 ?_) S13 R3 q3⟩);have:cut3 ds l u=ds:=by
     unfold cut3;rw[e2.length,hw.1,hw.2];simp[←e2.length]
    rw[this];exact e2
   ·refine .inl ⟨a',vs,rfl,e1,hw,fun p hp=>?_⟩;exact k _ _ (.tup (cut3 ds l u)) G3 (qbbz (.of qvz) ((qf5z e2 l u).ext (.laid hp))) (S13.trans (.laid hp)) (R3.laid hp) q3
  |scr ds=>
   obtain⟨a',vs,rfl,e1,e2⟩:=qbrz hv;refine .inr (.inr ⟨a',vs,rfl,e1.l,fun p hp=>?_⟩);exact k _ _ (.obj p) _ qbaz (S13.trans (.laidG hp)) (R3.newL hp (qf5z e2 l u)) (q3 p _ (.mk' (R3.free hp)))
  |obj a'=>
   rw[q2z hv];obtain⟨ds,e0,q3⟩:=q3;obtain⟨vs,e1,e2⟩:=R3 a' _ e0;refine .inr (.inr ⟨a',vs,rfl,.of e1,fun p hp=>?_⟩);exact k _ _ (.obj p) _ qbaz (S13.trans (.laidG hp)) (R3.newL hp (qf5z e2 l u)) (q3 p _ (.mk' (R3.free hp)))
  |_=>exact q3.elim
end
end L3
namespace L3
open PySem PySem.Spec PyProof.Rows L2
abbrev C3:=List D->Gp->V3->Prop
def eCB(r:C3)(t:TA3):TE3:=fun τ G Q=>t τ G fun ds G1=>r ds G1 Q
def LowC(K:PySem.W.Frag)(r:C3)(r2:List V->Hp->VK->Prop):Prop:=∀ds vs G H Q3 Q,Hvs K H ds vs->RepG K G H->r ds G Q3->(∀v H' d G',Hv K H' d v->Step H G H' G'->RepG K G' H'->Q3 d G'->Q v H')->r2 vs H Q
section
variable {X:Cx} {K:PySem.W.Frag} {e:Expr} {es:List Expr} {t:TA3} {ta:TE3} {pos p:Pos}
theorem qt3z{r:C3}{r2:List V->Hp->VK->Prop}(L:LowC K r r2){σ:L2.St}{H:Hp}{Q:VK}(h:low K (eCB r t) σ H Q):tCB r2 (lowA K t) σ H Q:=by
 obtain⟨τ,G,Q3,RS,RG,h,k⟩:=h;refine⟨τ,G,_,RS,RG,h,fun vs H1 ds G1 h1 S1 R1 q1=>?_⟩;exact L _ _ _ _ _ _ h1 R1 q1 fun v H' d G' z1 z2 z3 z4=>k v H' d G' z1 (S1.trans z2) z3 z4
theorem e_cb{r:C3}{r2:List V->Hp->VK->Prop}(L:LowC X.K r r2)(h:PE X e (tCB r2 (lowA X.K t))):PE3 X e (eCB r t):=q0z h fun _ _ _ h=>qt3z L h
theorem hvs1{H:Hp}{d:D}{vs:List V}(h:Hvs K H [d] vs):∃v,vs=[v]/\Hv K H d v:=by
 obtain⟨v,r,rfl,z1,z2⟩:=h.inv;cases z2.inv0;exact⟨v,rfl,z1⟩
theorem hvs2{H:Hp}{d d':D}{vs:List V}(h:Hvs K H [d,d'] vs):∃v v',vs=[v,v']/\Hv K H d v/\Hv K H d' v':=by
 obtain⟨v,r,rfl,z1,z2⟩:=h.inv;obtain⟨v',rfl,z3⟩:=hvs1 z2;exact⟨v,v',rfl,z1,z3⟩
def qsz:C3:=fun ds G Q=>match ds with
 |[.obj a]=>∃xs,G a=some (.lst xs)/\Q (.int xs.length) G
 |[.tup xs]=>Q (.int xs.length) G
 |[.scr xs]=>Q (.int xs.length) G
 |_=>False
theorem qt4z:LowC K qsz (fun xs H Q=>∃p ys,xs=[.ref p]/\(SqL K H p ys∨SqT K H p ys)/\Q (.int ys.length) H):=fun ds vs G H Q3 Q h RG q k=>by
 rcases ds with _|⟨d,_|⟨d2,ds⟩⟩
 ·exact q.elim
 ·obtain⟨v,rfl,hv⟩:=hvs1 h;cases d with
  |obj a=>
   obtain⟨xs,e,q⟩:=q;obtain⟨us,e1,e2⟩:=RG a _ e;rw[q2z hv];exact⟨a,us,rfl,.inl (.of e1),by rw[←e2.length];exact k _ H _ G qacz (.refl H G) RG q⟩
  |tup xs=>
   obtain⟨a,us,rfl,e1,e2⟩:=qaoz hv;exact⟨a,us,rfl,.inr e1,by rw[←e2.length];exact k _ H _ G qacz (.refl H G) RG q⟩
  |scr xs=>
   obtain⟨a,us,rfl,e1,e2⟩:=qbrz hv;exact⟨a,us,rfl,.inl e1.l,by rw[←e2.length];exact k _ H _ G qacz (.refl H G) RG q⟩
  |_=>exact q.elim
 ·cases d<;>exact q.elim
theorem qt5z(hu:X.A.units+64<cLine)(hm:X.mg "len" = none)(ha:PA3 X (e::es) t)(hg:Gl X "len":=by rfl)(he:notStar e=true:=by rfl)(hpl:es.all notStar=true:=by rfl):
  PE3 X (.Call (.Name "len" p) (e::es) [] pos) (eCB qsz t):=e_cb qt4z (qb1z qryz hg hm PySem.boot_len ha (he:=qpz he) (hpl:=qajz hpl))
def qepz:C3:=fun ds G Q=>match ds with
 |[.bl b]=>Q (.int (if b then 1 else 0)) G
 |[.int i]=>Q (.int i) G
 |_=>False
theorem qt6z:LowC K qepz (fun xs H Q=>(∃i,xs=[.int i]/\Q (.int i) H)∨∃k,xs=[.bl k]/\Q (.int (if k then 1 else 0)) H):=fun ds vs G H Q3 Q h RG q k=>by
 rcases ds with _|⟨d,_|⟨d2,ds⟩⟩
 ·exact q.elim
 ·obtain⟨v,rfl,hv⟩:=hvs1 h;cases d with
  |bl b=>
   rw[qc4z hv];exact .inr ⟨b,rfl,k _ H _ G qacz (.refl H G) RG q⟩
  |int b=>
   rw[qzz hv];exact .inl ⟨b,rfl,k _ H _ G qacz (.refl H G) RG q⟩
  |_=>exact q.elim
 ·cases d<;>exact q.elim
theorem qt7z(hu:X.A.units+64<cLine)(hm:X.mg "int" = none)(ha:PA3 X (e::es) t)(hg:Gl X "int":=by rfl)(he:notStar e=true:=by rfl)(hpl:es.all notStar=true:=by rfl):
  PE3 X (.Call (.Name "int" p) (e::es) [] pos) (eCB qepz t):=e_cb qt6z (qeez qq8z hg hm rfl ha (he:=qpz he) (hpl:=qajz hpl))
def qf6z:C3:=fun ds G Q=>match ds with
 |[.int i,.int j]=>Q (.int (if j > i then j else i)) G
 |_=>False
theorem qt8z{f:Int->Int->Int}:LowC K (fun ds G Q=>match ds with
 |[.int i,.int j]=>Q (.int (f i j)) G
 | _=>False) (fun xs H Q=>∃i j,xs=[.int i,.int j]/\Q (.int (f i j)) H):=fun ds vs G H Q3 Q h RG q k=>by
 rcases ds with _|⟨d,_|⟨d2,_|⟨d3,ds⟩⟩⟩
 ·exact q.elim
 ·cases d<;>exact q.elim
 ·obtain⟨v,v',rfl,h1,h2⟩:=hvs2 h;cases d with
  |int i=>
   cases d2 with
   |int j=>
    rw[qzz h1,qzz h2];exact⟨i,j,rfl,k _ H _ G qacz (.refl H G) RG q⟩
   |_=>exact q.elim
  |_=>exact q.elim
 ·cases d with
  |int i=>cases d2<;>exact q.elim
  |_=>exact q.elim
theorem qt9z(hu:X.A.units+64<cLine)(hm:X.mg "max" = none)(ha:PA3 X (e::es) t)(hc:X.calm=true:=by rfl)(hg:Gl X "max":=by rfl)(he:notStar e=true:=by rfl)(hpl:es.all notStar=true:=by rfl):
  PE3 X (.Call (.Name "max" p) (e::es) [] pos) (eCB qf6z t):=e_cb (qt8z (f:=fun i j=>if j > i then j else i)) (qb1z (qq7z hc) hg hm rfl ha (he:=qpz he) (hpl:=qajz hpl))
def qbez:C3:=fun ds G Q=>match ds with
 |[.obj a]=>∃xs,G a=some (.lst xs)/\Q (.tup xs) G
 |[.tup xs]=>Q (.tup xs) G
 |[.scr xs]=>Q (.tup xs) G
 |_=>False
theorem quaz:LowC K qbez (fun xs H Q=>∃p ys,xs=[.ref p]/\((SqL K H p ys/\∀l,H l=none->Q (.ref l) (upd H l (.tup ys)))∨(SqT K H p ys/\Q (.ref p) H))):=fun ds vs G H Q3 Q h RG q k=>by
 rcases ds with _|⟨d,_|⟨d2,ds⟩⟩
 ·exact q.elim
 ·obtain⟨v,rfl,hv⟩:=hvs1 h;cases d with
  |obj a=>
   obtain⟨xs,e,q⟩:=q;obtain⟨us,e1,e2⟩:=RG a _ e;rw[q2z hv];exact⟨a,us,rfl,.inl ⟨.of e1,fun l hl=>k _ _ (.tup xs) G (qbbz (.of qvz) (e2.ext (.laid hl))) (.laid hl) (RG.laid hl) q⟩⟩
  |tup xs=>
   obtain⟨a,us,rfl,e1,e2⟩:=qaoz hv;exact⟨a,us,rfl,.inr ⟨e1,k _ H _ G (qbbz e1 e2) (.refl H G) RG q⟩⟩
  |scr xs=>
   obtain⟨a,us,rfl,e1,e2⟩:=qbrz hv;exact⟨a,us,rfl,.inl ⟨e1.l,fun l hl=>k _ _ (.tup xs) G (qbbz (.of qvz) (e2.ext (.laid hl))) (.laid hl) (RG.laid hl) q⟩⟩
  |_=>exact q.elim
 ·cases d<;>exact q.elim
theorem qubz(hu:X.A.units+64<cLine)(hm:X.mg "tuple" = none)(ha:PA3 X (e::es) t)(hg:Gl X "tuple":=by rfl)(he:notStar e=true:=by rfl)(hpl:es.all notStar=true:=by rfl):
  PE3 X (.Call (.Name "tuple" p) (e::es) [] pos) (eCB qbez t):=e_cb quaz (qeez qr0z hg hm rfl ha (he:=qpz he) (hpl:=qajz hpl))
def qa3z:C3:=fun ds G Q=>match ds with
 |[.obj a]=>∃xs,G a=some (.lst xs)/\∀p G',New G p (.lst xs) G'->Q (.obj p) G'
 |[.tup xs]=>∀p G',New G p (.lst xs) G'->Q (.obj p) G'
 |[.scr xs]=>∀p G',New G p (.lst xs) G'->Q (.obj p) G'
 |_=>False
theorem qucz:LowC K qa3z (fun xs H Q=>∃p ys,xs=[.ref p]/\(SqL K H p ys∨SqT K H p ys)/\∀l,H l=none->Q (.ref l) (upd H l (.lst ys))):=fun ds vs G H Q3 Q h RG q k=>by
 have fin:∀(xs:List D) (us:List V),Hvs K H xs us->(∀p G',New G p (.lst xs) G'->Q3 (.obj p) G')->∀l,H l=none->Q (.ref l) (upd H l (.lst us)):=fun xs us e2 q l hl=>
  k _ _ (.obj l) _ qbaz (.laidG hl) (RG.newL hl e2) (q l _ (.mk' (RG.free hl)))
 rcases ds with _|⟨d,_|⟨d2,ds⟩⟩
 ·exact q.elim
 ·obtain⟨v,rfl,hv⟩:=hvs1 h;cases d with
  |obj a=>
   obtain⟨xs,e,q⟩:=q;obtain⟨us,e1,e2⟩:=RG a _ e;rw[q2z hv];exact⟨a,us,rfl,.inl (.of e1),fin xs us e2 q⟩
  |tup xs=>
   obtain⟨a,us,rfl,e1,e2⟩:=qaoz hv;exact⟨a,us,rfl,.inr e1,fin xs us e2 q⟩
  |scr xs=>
   obtain⟨a,us,rfl,e1,e2⟩:=qbrz hv;exact⟨a,us,rfl,.inl e1.l,fin xs us e2 q⟩
  |_=>exact q.elim
 ·cases d<;>exact q.elim
theorem qudz(hu:X.A.units+64<cLine)(hm:X.mg "list" = none)(ha:PA3 X (e::es) t)(hg:Gl X "list":=by rfl)(he:notStar e=true:=by rfl)(hpl:es.all notStar=true:=by rfl):
  PE3 X (.Call (.Name "list" p) (e::es) [] pos) (eCB qa3z t):=e_cb qucz (qeez qrzz hg hm rfl ha (he:=qpz he) (hpl:=qajz hpl))
def eM(r:D->List D->Gp->V3->Prop)(to:TE3)(t:TA3):TE3:=fun τ G Q=>to τ G fun x G1=>(∃a xs,x=.obj a/\G1 a=some (.lst xs))/\t τ G1 fun ds G2=>r x ds G2 Q
def LowM(K:PySem.W.Frag)(r:D->List D->Gp->V3->Prop)(r2:V->List V->Hp->VK->Prop):Prop:=∀x vx ds vs G H Q3 Q,Hv K H x vx->Hvs K H ds vs->RepG K G H->r x ds G Q3->(∀v H' d G',Hv K H' d v->Step H G H' G'->RepG K G' H'->Q3 d G'->Q v H')->r2 vx vs H Q
theorem quez{r:D->List D->Gp->V3->Prop}{r2:V->List V->Hp->VK->Prop}{to:TE3}(L:LowM K r r2){σ:L2.St}{H:Hp}{Q:VK}(h:low K (eM r to t) σ H Q):tBM K "list" r2 (low K to) (lowA K t) σ H Q:=by
 obtain⟨τ,G,Q3,RS,RG,h,k⟩:=h;refine⟨τ,G,_,RS,RG,h,fun v1 H1 d1 G1 h1 S1 R1 q1=>?_⟩;obtain⟨⟨a,xs,rfl,e1⟩,q1⟩:=q1;obtain⟨us,e2,e3⟩:=R1 a _ e1;refine⟨?_,τ,G1,_,RS.ext (S1.ext RG),R1,q1,fun vs H2 ds G2 h2 S2 R2 q2=>?_⟩
 ·rw[q2z h1];exact .inl ⟨rfl,us,.of e2⟩
 ·exact L _ _ _ _ _ _ _ _ (h1.ext (S2.ext R1)) h2 R2 q2 fun v H' d G' z1 z2 z3 z4=>k v H' d G' z1 ((S1.trans S2).trans z2) z3 z4
def qeqz:D->List D->Gp->V3->Prop:=fun x ds G Q=>match x,ds with
 |.obj a,[d]=>∃xs,G a=some (.lst xs)/\xs.length<sizeLine/\Q .non (upd3 G a (.lst (xs++[d])))
 |_,_=>False
theorem qf7z:LowM K qeqz rAppend:=fun x vx ds vs G H Q3 Q hx hs RG q k=>by
 rcases ds with _|⟨d,_|⟨d2,ds⟩⟩
 ·cases x<;>exact q.elim
 ·cases x with
  |obj a=>
   obtain⟨xs,e1,hz,q⟩:=q;obtain⟨us,e2,e3⟩:=RG a _ e1;obtain⟨v,rfl,hv⟩:=hvs1 hs;rw[q2z hx];refine⟨a,us,v,rfl,rfl,e2,by rw[←e3.length];exact hz,?_⟩;exact k _ _ .non _ (by simp[Hv]) (.wrote e1) (RG.wroteL e2 (e3.append (.cons hv .nil))) q
  |_=>exact q.elim
 ·cases x<;>exact q.elim
theorem qufz{r:D->List D->Gp->V3->Prop}{r2:V->List V->Hp->VK->Prop}{to:TE3}(L:LowM X.K r r2)(h:PE X e (tBM X.K "list" r2 (low X.K to) (lowA X.K t))):PE3 X e (eM r to t):=q0z h fun _ _ _ z=>quez L z
def instD(T:String)(G:Gp):D->Option Bool
 |.non=>some false
 |.bl _=>some (T=="bool" || T=="int")
 |.int _=>some (T=="int")
 |.str _=>some (T=="str")
 |.tup _=>some (T=="tuple")
 |.scr _=>some (T=="list")
 |.dc _=>some (T=="dict")
 |.obj a=>match G a with
  |some (.lst _)=>some (T=="list")
  |some .pen=>some (T=="list")
  |some .dct=>some (T=="dict")
  |some (.gen _)=>none
  |none=>none
def eInst(T:String)(ta:TE3):TE3:=fun τ G Q=>ta τ G fun x G1=>match instD T G1 x with
 |some b=>Q (.bl b) G1
 |none=>False
end
end L3
namespace KasS
open PySem PySem.W PyProof.Rows
structure Ord(n:Nat)(lt:Nat->Nat->Bool):Prop where
 asy:∀a b,a<n->b<n->lt a b=true->lt b a=false
 tra:∀a b c,a<n->b<n->c<n->lt b a=false->lt c b=false->lt c a=false
abbrev g(p:Array Nat)(i:Nat):Nat:=p.getD i 0
structure Va(n:Nat)(p:Array Nat):Prop where
 perm:p.toList.Perm (List.range n)
section
variable {n:Nat} {lt:Nat->Nat->Bool} {cmp:Nat->Nat->(Bool->Shared->Prop)->Shared->Prop} {s:Shared}
theorem Va.size{p:Array Nat}(v:Va n p):p.size=n:=by
 have:=v.perm.length_eq;simpa using this
theorem Va.get{p:Array Nat}(v:Va n p){i:Nat}(hi:i<n):p[i]?=some (g p i):=by
 have h:=v.size;simp[g,Array.getD,h,hi]
theorem Va.inr{p:Array Nat}(v:Va n p){i:Nat}(hi:i<n):g p i<n:=by
 have h:=v.get hi;have hm:g p i∈p.toList:=List.mem_of_getElem? (by rw[Array.getElem?_toList];exact h);have:=v.perm.mem_iff.mp hm;simpa using this
theorem Ord.refl(O:Ord n lt){a:Nat}(ha:a<n):lt a a=false:=by
 cases h:lt a a with
 |false=>rfl
 |true=>
  have:=O.asy a a ha ha h;rw[h] at this;exact this
def So(lt:Nat->Nat->Bool)(p:Array Nat)(k:Nat):Prop:=∀i j,i≤j->j<k->lt (g p j) (g p i)=false
def Ni(lt:Nat->Nat->Bool)(p:Array Nat)(k:Nat):Prop:=∀i j,i≤j->j<k->lt (g p i) (g p j)=false
def Eq'(lt:Nat->Nat->Bool)(p:Array Nat)(lo hi:Nat):Prop:=∀i j,lo≤i->i<hi->lo≤j->j<hi->lt (g p i) (g p j)=false
theorem So.one(O:Ord n lt){p:Array Nat}(v:Va n p)(hn:1≤n):So lt p 1:=fun i j h1 h2=>by
 have e1:i=0:=by lia
 have e2:j=0:=by lia
 rw[e1,e2];exact O.refl (v.inr (by lia))
theorem So.next(O:Ord n lt){p:Array Nat}(v:Va n p){a:Nat}(h1:1≤a)(ha:a<n)(S:So lt p a)(h:lt (g p a) (g p (a-1))=false):So lt p (a+1):=fun i j hij hj=>by
 by_cases hja:j<a
 ·exact S i j hij hja
 ·have e:j=a:=by lia
  subst e;by_cases hij':i=j
  ·rw[hij'];exact O.refl (v.inr ha)
  ·exact O.tra (g p i) (g p (j-1)) (g p j) (v.inr (by lia)) (v.inr (by lia)) (v.inr ha) (S i (j-1) (by lia) (by lia)) h
theorem Ni.next(O:Ord n lt){p:Array Nat}(v:Va n p){a:Nat}(h1:1≤a)(ha:a<n)(S:Ni lt p a)(h:lt (g p (a-1)) (g p a)=false):Ni lt p (a+1):=fun i j hij hj=>by
 by_cases hja:j<a
 ·exact S i j hij hja
 ·have e:j=a:=by lia
  subst e;by_cases hij':i=j
  ·rw[hij'];exact O.refl (v.inr ha)
  ·exact O.tra (g p j) (g p (j-1)) (g p i) (v.inr ha) (v.inr (by lia)) (v.inr (by lia)) h (S i (j-1) (by lia) (by lia))
theorem qb5z{p:Array Nat}(v:Va n p)(i j:Nat):Va n (kas_rev p i j):=⟨(mirror_perm p i j _).toList.trans v.perm⟩
theorem qerz{p:Array Nat}(v:Va n p){lo hi k:Nat}(hh:hi≤n)(hk:k<n):g (kas_rev p lo hi) k=if lo≤k/\k<hi then g p (lo+hi-1-k) else g p k:=by
 have h1:=getElem?_mirror_all (xs:=p) (i:=lo) (j:=hi) (by rw[v.size];exact hh) k;have h2:=(qb5z v lo hi).get hk;have h3:(kas_rev p lo hi)[k]?=_:=h1;rw[h2] at h3;by_cases hc:lo≤k/\k<hi
 ·rw[if_pos hc] at h3 ⊢;rw[v.get (by lia)] at h3;exact Option.some.inj h3
 ·rw[if_neg hc] at h3 ⊢;rw[v.get hk] at h3;exact Option.some.inj h3
theorem qf8z{p:Array Nat}(v:Va n p){lo hi k:Nat}(hh:hi≤k)(hk:k≤n)(S:Ni lt p k)(e:Eq' lt p lo hi):Ni lt (kas_rev p lo hi) k:=fun i j hij hj=>by
 rw[qerz v (by lia) (show i<n by lia),qerz v (by lia) (show j<n by lia)];by_cases hi':lo≤i/\i<hi
 ·rw[if_pos hi'];by_cases hj':lo≤j/\j<hi
  ·rw[if_pos hj'];exact e _ _ (by lia) (by lia) (by lia) (by lia)
  ·rw[if_neg hj'];exact S _ _ (by lia) hj
 ·rw[if_neg hi'];by_cases hj':lo≤j/\j<hi
  ·rw[if_pos hj'];exact S _ _ (by lia) (by lia)
  ·rw[if_neg hj'];exact S _ _ hij hj
theorem qugz{p:Array Nat}(v:Va n p){k:Nat}(hk:k≤n)(S:Ni lt p k):So lt (kas_rev p 0 k) k:=fun i j hij hj=>by
 rw[qerz v hk (show i<n by lia),qerz v hk (show j<n by lia),if_pos (by lia),if_pos (by lia)];exact S _ _ (by lia) (by lia)
variable (O:Ord n lt) (hc:∀i j,i<n->j<n->∀(C:Bool->Shared->Prop) (s:Shared),C (lt i j) s->cmp i j C s)
include O hc
theorem qf9z{p:Array Nat}(v:Va n p){G:Nat->Shared->Prop}:∀(f a:Nat),1≤a->a+f≤n->So lt p a->(∀m,a≤m->m≤a+f->So lt p m->(m=a+f∨lt (g p m) (g p (m-1))=true)->G m s)->(kas_asc p f a).kasWp cmp G s
 |0,a,_,_,S,h=>h a (Nat.le_refl _) (by lia) S (.inl (by lia))
 |f+1,a,h1,h2,S,h=>by
  show cmp _ _ _ s;refine hc _ _ (v.inr (by lia)) (v.inr (by lia)) _ s ?_;cases hb:lt (g p a) (g p (a-1)) with
  |true=>
   ((try dsimp only);rw[if_pos rfl])
   exact h a (Nat.le_refl _) (by lia) S (.inr hb)
  |false=>
   ((try dsimp only);rw[if_neg Bool.false_ne_true])
   exact qf9z v f (a+1) (by lia) (by lia) (S.next O v h1 (by lia) hb) fun m q1 q2 q3 q4=>h m (by lia) (by lia) q3 (by
    rcases q4 with q4|q4
    ·exact .inl (by lia)
    ·exact .inr q4)
theorem qesz{G:Array Nat×Nat×Nat->Shared->Prop}:∀(f:Nat) (p:Array Nat) (a q:Nat),Va n p->q+1≤a->a+f≤n->Ni lt p a->Eq' lt p (a-(q+1)) a ->
  (∀p' m q',Va n p'->a≤m->m≤a+f->q'+1≤m->Ni lt p' m->Eq' lt p' (m-(q'+1)) m->G (p',m,q') s)->(kas_desc f p a q).kasWp cmp G s
 |0,p,a,q,v,h1,h2,S,e,h=>h p a q v (Nat.le_refl _) (by lia) h1 S e
 |f+1,p,a,q,v,h1,h2,S,e,h=>by
  show cmp _ _ _ s;refine hc _ _ (v.inr (by lia)) (v.inr (by lia)) _ s ?_;have one:∀{p':Array Nat},Va n p'->Eq' lt p' (a+1-(0+1)) (a+1):=fun {p'} v' i j i1 i2 j1 j2=>by
   have e1:i=a:=by lia
   have e2:j=a:=by lia
   rw[e1,e2];exact O.refl (v'.inr (by lia))
  cases hb:lt (g p a) (g p (a-1)) with
  |true=>
   ((try dsimp only);rw[if_pos rfl])
   have S':=S.next O v (by lia) (by lia) (O.asy _ _ (v.inr (by lia)) (v.inr (by lia)) hb)
   by_cases hq:q > 0
   ·rw[if_pos hq];exact qesz f _ (a+1) 0 (qb5z v _ _) (by lia) (by lia) (qf8z v (by lia) (by lia) S' e) (one (qb5z v _ _)) fun p' m q' r1 r2 r3 r4 r5 r6=>h p' m q' r1 (by lia) (by lia) r4 r5 r6
   ·rw[if_neg hq];exact qesz f _ (a+1) 0 v (by lia) (by lia) S' (one v) fun p' m q' r1 r2 r3 r4 r5 r6=>h p' m q' r1 (by lia) (by lia) r4 r5 r6
  |false=>
   ((try dsimp only);rw[if_neg Bool.false_ne_true])
   show cmp _ _ _ s;refine hc _ _ (v.inr (by lia)) (v.inr (by lia)) _ s ?_;cases hd:lt (g p (a-1)) (g p a) with
   |true=>
    ((try dsimp only);rw[if_pos rfl])
    exact h p a q v (Nat.le_refl _) (by lia) h1 S e
   |false=>
    ((try dsimp only);rw[if_neg Bool.false_ne_true])
    refine qesz f _ (a+1) (q+1) v (by lia) (by lia) (S.next O v (by lia) (by lia) hd) (fun i j i1 i2 j1 j2=>?_) fun p' m q' r1 r2 r3 r4 r5 r6=>h p' m q' r1 (by lia) (by lia) r4 r5 r6
    have L:∀k,k<n->g p k<n:=fun k hk=>v.inr hk;by_cases hi:i=a
    ·by_cases hj:j=a
     ·rw[hi,hj];exact O.refl (L _ (by lia))
     ·rw[hi];exact O.tra (g p j) (g p (a-1)) (g p a) (L _ (by lia)) (L _ (by lia)) (L _ (by lia)) (e (a-1) j (by lia) (by lia) (by lia) (by lia)) hb
    ·by_cases hj:j=a
     ·rw[hj];exact O.tra (g p a) (g p (a-1)) (g p i) (L _ (by lia)) (L _ (by lia)) (L _ (by lia)) hd (e i (a-1) (by lia) (by lia) (by lia) (by lia))
     ·exact e i j (by lia) (by lia) (by lia) (by lia)
theorem qj7z{p:Array Nat}(v:Va n p){a:Nat}{G:Nat×Array Nat->Shared->Prop}(h1:1≤a)(h2:a≤n)(S:Ni lt p a)(h:∀m p',Va n p'->1≤m->m≤n->So lt p' m->G (m,p') s):(kas_tail3 a n p).kasWp cmp G s:=by
 unfold kas_tail3;rw[KasT.kasWp_bind];exact qf9z O hc (qb5z v 0 a) (n-a) a h1 (by lia) (qugz v h2 S) fun m q1 q2 q3 _=>h m _ (qb5z v 0 a) (by lia) (by lia) q3
theorem qj8z{p:Array Nat}(v:Va n p){a:Nat}{G:Nat×Array Nat->Shared->Prop}(h1:1≤a)(h2:a+1≤n)(S:Ni lt p (a+1))(h:∀m p',Va n p'->1≤m->m≤n->So lt p' m->G (m,p') s):(kas_descPart a n p).kasWp cmp G s:=by
 unfold kas_descPart;rw[KasT.kasWp_bind];refine qesz O hc (n-(a+1)) p (a+1) 0 v (by lia) (by lia) S (fun i j i1 i2 j1 j2=>?_) fun p' m q' r1 r2 r3 r4 r5 r6=>?_
 ·have e1:i=a:=by lia
  have e2:j=a:=by lia
  rw[e1,e2];exact O.refl (v.inr (by lia))
 ·dsimp only;by_cases hq:q' > 0
  ·rw[if_pos hq];exact qj7z O hc (qb5z r1 _ _) (by lia) (by lia) (qf8z r1 (Nat.le_refl _) (by lia) r5 r6) h
  ·rw[if_neg hq];exact qj7z O hc r1 (by lia) (by lia) r5 h
theorem quhz{p:Array Nat}(v:Va n p){G:Nat×Array Nat->Shared->Prop}(hn:1≤n)(h:∀m p',Va n p'->1≤m->m≤n->So lt p' m->G (m,p') s):(kas_count n p).kasWp cmp G s:=by
 unfold kas_count;rw[KasT.kasWp_bind];refine qf9z O hc v (n-1) 1 (Nat.le_refl _) (by lia) (So.one O v hn) fun a q1 q2 q3 q4=>?_;have L:∀k,k<n->g p k<n:=fun k hk=>v.inr hk;by_cases e1:(a==n)=true
 ·rw[if_pos e1];exact h a p v q1 (by lia) q3
 ·rw[if_neg e1];have hne:a≠n:=fun z=>e1 (by rw[z];exact beq_self_eq_true _);have hlt:lt (g p a) (g p (a-1))=true:=by
   rcases q4 with q4|q4
   ·lia
   ·exact q4
  have hle:=O.asy _ _ (L a (by lia)) (L (a-1) (by lia)) hlt;by_cases e2:a > 1
  ·rw[if_pos e2];show cmp _ _ _ s;refine hc _ _ (v.inr (by lia)) (v.inr (by lia)) _ s ?_;cases hb:lt (g p 0) (g p (a-1)) with
   |true=>
    ((try dsimp only);rw[if_pos rfl])
    exact h a p v q1 (by lia) q3
   |false=>
    ((try dsimp only);rw[if_neg Bool.false_ne_true])
    -- all of the run are alike
    have eqv:Eq' lt p 0 a:=fun i j i1 i2 j1 j2=>by
     have h1:lt (g p i) (g p 0)=false:=q3 0 i (by lia) i2;have h2:lt (g p (a-1)) (g p j)=false:=q3 j (a-1) (by lia) (by lia);have h3:lt (g p 0) (g p j)=false:=O.tra _ _ _ (L j (by lia)) (L (a-1) (by lia)) (L 0 (by lia)) h2 hb;have h4:lt (g p (a-1)) (g p i)=false:=q3 i (a-1) (by lia) (by lia);exact O.tra _ _ _ (L j (by lia)) (L 0 (by lia)) (L i (by lia)) h3 h1
    have ni:Ni lt p (a+1):=Ni.next O v (by lia) (by lia) (fun i j hij hj=>eqv i j (by lia) (by lia) (by lia) hj) hle
    exact qj8z O hc (qb5z v _ _) (by lia) (by lia) (qf8z v (by lia) (by lia) ni eqv) h
  ·rw[if_neg e2];have ea:a=1:=by lia
   subst ea;refine qj8z O hc v (Nat.le_refl _) (by lia) (Ni.next O v (by lia) (by lia) (fun i j hij hj=>?_) hle) h
   have e3:i=0:=by lia
   have e4:j=0:=by lia
   rw[e3,e4];exact O.refl (L 0 (by lia))
theorem qgaz{p:Array Nat}(v:Va n p){k:Nat}(hk:k<n)(S:So lt p k){G:Nat->Shared->Prop}:∀(f l r:Nat),l≤r->r≤k->r-l≤f->(∀i,i<l->lt (g p k) (g p i)=false)->(∀i,r≤i->i<k->lt (g p k) (g p i)=true) ->
  (∀l,l≤k->(∀i,i<l->lt (g p k) (g p i)=false)->(∀i,l≤i->i<k->lt (g p k) (g p i)=true)->G l s)->(kas_place p k f l r).kasWp cmp G s
 |0,l,r,h1,h2,h3,h4,h5,h=>by
  have e:l=r:=by lia
  subst e;exact h l h2 h4 h5
 |f+1,l,r,h1,h2,h3,h4,h5,h=>by
  unfold kas_place;by_cases hlr:l≥r
  ·rw[if_pos hlr];have e:l=r:=by lia
   subst e;exact h l h2 h4 h5
  ·rw[if_neg hlr];show cmp _ _ _ s;refine hc _ _ (v.inr hk) (v.inr (by lia)) _ s ?_;have L:∀k,k<n->g p k<n:=fun k hk=>v.inr hk;cases hb:lt (g p k) (g p ((l+r) / 2)) with
   |true=>
    ((try dsimp only);rw[if_pos rfl])
    refine qgaz v hk S f l ((l+r) / 2) (by lia) (by lia) (by lia) h4 (fun i i1 i2=>?_) h;by_cases hri:r≤i
    ·exact h5 i hri i2
    ·cases hx:lt (g p k) (g p i) with
     |true=>rfl
     |false=>
      have h6:lt (g p i) (g p ((l+r) / 2))=false:=S _ _ i1 i2;have:=O.tra _ _ _ (L ((l+r) / 2) (by lia)) (L i (by lia)) (L k hk) h6 hx;rw[hb] at this;exact this.symm
   |false=>
    ((try dsimp only);rw[if_neg Bool.false_ne_true])
    refine qgaz v hk S f ((l+r) / 2+1) r (by lia) h2 (by lia) (fun i hi=>?_) h5 h;exact O.tra _ _ _ (L i (by lia)) (L ((l+r) / 2) (by lia)) (L k hk) (S i ((l+r) / 2) (by lia) (by lia)) hb
theorem qj9z{G:Array Nat->Shared->Prop}:∀(f:Nat) (p:Array Nat) (k:Nat),Va n p->k+f=n->So lt p k->(∀p',Va n p'->So lt p' n->G p' s)->(kas_bin f p k).kasWp cmp G s
 | 0,p,k,v,hk,S,h=>h p v (by
  have e:k=n:=by lia
  rw[←e];exact S)
 |f+1,p,k,v,hk,S,h=>by
  show ((kas_place p k k 0 k).bind fun l=>kas_bin f (bubble p k (k-l)) (k+1)).kasWp cmp G s;rw[KasT.kasWp_bind];refine qgaz O hc v (by lia) S k 0 k (by lia) (Nat.le_refl _) (by lia) (fun i hi=>by lia) (fun i i1 i2=>by lia) fun l hl q1 q2=>?_;have v':Va n (bubble p k (k-l)):=⟨(bubble_perm p k (k-l)).toList.trans v.perm⟩;have L:∀k,k<n->g p k<n:=fun k hk=>v.inr hk;have bg:∀i,i<n->g (bubble p k (k-l)) i=if i=l then g p k else if l<i/\i≤k then g p (i-1) else g p i:=fun i hi=>by
   have h1:=getElem?_bubble (xs:=p) (src:=k) (by rw[v.size];lia) (k-l) (by lia) i;rw[v'.get hi,show k-(k-l)=l by lia] at h1;by_cases c1:i=l
   ·rw[if_pos c1] at h1 ⊢;rw[v.get (by lia)] at h1;exact Option.some.inj h1
   ·rw[if_neg c1] at h1 ⊢;by_cases c2:l<i/\i≤k
    ·rw[if_pos c2] at h1 ⊢;rw[v.get (by lia)] at h1;exact Option.some.inj h1
    ·rw[if_neg c2] at h1 ⊢;rw[v.get hi] at h1;exact Option.some.inj h1
  refine qj9z f _ (k+1) v' (by lia) (fun i j hij hj=>?_) h;rw[bg i (by lia),bg j (by lia)];by_cases ci:i=l
  ·rw[if_pos ci];by_cases cj:j=l
   ·rw[if_pos cj];exact O.refl (L k (by lia))
   ·rw[if_neg cj,if_pos (by lia)];exact O.asy _ _ (L k (by lia)) (L _ (by lia)) (q2 (j-1) (by lia) (by lia))
  ·rw[if_neg ci];by_cases cj:j=l
   ·rw[if_pos cj,if_neg (by lia)];exact q1 i (by lia)
   ·rw[if_neg cj];by_cases c3:l<i/\i≤k
    ·rw[if_pos c3,if_pos (by lia)];exact S (i-1) (j-1) (by lia) (by lia)
    ·rw[if_neg c3];by_cases c4:l<j/\j≤k
     ·rw[if_pos c4];exact S i (j-1) (by lia) (by lia)
     ·rw[if_neg c4];exact S i j hij (by lia)
theorem quiz{G:Array Nat->Shared->Prop}(hn:1≤n)(h:∀p,Va n p->So lt p n->G p s):(kas_sort n).kasWp cmp G s:=by
 unfold kas_sort;rw[KasT.kasWp_bind];have v0:Va n (List.toArray (List.range n)):=⟨by simp⟩;refine quhz O hc v0 hn fun m p' v m1 m2 S=>?_;dsimp only;by_cases hm:m<n
 ·rw[if_pos hm];have e:max m 1=m:=by lia
  rw[e];exact qj9z O hc (n-m) p' m v (by lia) S h
 ·rw[if_neg hm];have e:m=n:=by lia
  subst e;exact h p' v S
end
end KasS
namespace SetP
open PySem PySem.SetTable
def Masky(m:Nat):Prop:=m=7∨m=31∨m=127
def adv(m:Nat)(p:Probe):Probe:=
 if p.more > 0 then { p with j:=p.j+1,more:=p.more-1 } else
 { p with j:=(leap m p.i p.perturb).1,more:=runEnd m (leap m p.i p.perturb).1-(leap m p.i p.perturb).1,i:=(leap m p.i p.perturb).1,perturb:=(leap m p.i p.perturb).2 }
def rs(m:Nat)(q:Nat×Nat):Probe:={ j:=q.1,more:=runEnd m q.1-q.1,i:=q.1,perturb:=q.2,dummy:=none }
def sta(m:Nat)(h:Int):Probe:=rs m (bits h%(m+1),bits h)
def sq(m:Nat)(h:Int):Nat->Probe
 |0=>sta m h
 |k+1=>adv m (sq m h k)
def rn(m:Nat)(h:Int):Nat->Nat×Nat
 |0=>(bits h%(m+1),bits h)
 |r+1=>leap m (rn m h r).1 (rn m h r).2
theorem qkaz(m:Nat)(h:Int):∀k,(sq m h k).dummy=none
 |0=>rfl
 |k+1=>by
  show (adv m (sq m h k)).dummy=none;have ih:=qkaz m h k;unfold adv;split<;>simpa using ih
theorem qujz(m i:Nat):runEnd m i-i≤9:=by
 unfold runEnd;split<;>lia
theorem qgbz(m:Nat)(h:Int)(n:Nat)(q:Nat×Nat)(e:sq m h n=rs m q):∀d,d≤runEnd m q.1-q.1->sq m h (n+d)={ j:=q.1+d,more:=runEnd m q.1-q.1-d,i:=q.1,perturb:=q.2,dummy:=none }
 |0,_=>by rw[Nat.add_zero,e];rfl
 |d+1,hd=>by
  have ih:=qgbz m h n q e d (by lia);show adv m (sq m h (n+d))=_;rw[ih];unfold adv;rw[if_pos (show runEnd m q.1-q.1-d > 0 by lia)];simp only[Probe.mk.injEq,and_true,true_and];lia
theorem qkbz(m:Nat)(h:Int)(n:Nat)(q:Nat×Nat)(e:sq m h n=rs m q):sq m h (n+(runEnd m q.1-q.1)+1)=rs m (leap m q.1 q.2):=by
 show adv m (sq m h (n+(runEnd m q.1-q.1)))=_;rw[qgbz m h n q e _ (Nat.le_refl _)];unfold adv;rw[if_neg (by simp)];rfl
theorem qkcz(m:Nat)(h:Int):∀r,∃n,n≤10*r/\sq m h n=rs m (rn m h r)
 |0=>⟨0,by lia,rfl⟩
 |r+1=>by
  obtain⟨n,hn,e⟩:=qkcz m h r;have:=qujz m (rn m h r).1;exact⟨n+(runEnd m (rn m h r).1-(rn m h r).1)+1,by lia,qkbz m h n _ e⟩
theorem qukz(h:Int):bits h<2^64:=by
 unfold bits;have h1:h%(2^64:Int)<2^64:=Int.emod_lt_of_pos _ (by decide);have h2:0≤h%(2^64:Int):=Int.emod_nonneg _ (by decide);lia
theorem qkdz(m:Nat)(h:Int):∀r,(rn m h r).2=bits h / 32^r
 |0=>by simp[rn]
 |r+1=>by
  show (rn m h r).2 / 32=_;rw[qkdz m h r,Nat.div_div_eq_div_mul,Nat.pow_succ]
theorem qulz(m:Nat)(h:Int)(r:Nat)(hr:13≤r):(rn m h r).2=0:=by
 rw[qkdz];have h1:=qukz h;have h2:(32:Nat)^13≤32^r:=Nat.pow_le_pow_right (by decide) hr;have h3:(2:Nat)^64<32^13:=by decide
 exact Nat.div_eq_of_lt (by lia)
def fl(m x:Nat):Nat:=(x*5+1)%(m+1)
def it(m:Nat):Nat->Nat->Nat
 |0,x=>x
 |n+1,x=>fl m (it m n x)
theorem qc6z(m:Nat)(a:Nat):∀b x,it m (b+a) x=it m b (it m a x)
 |0,x=>by rw[Nat.zero_add];rfl
 |b+1,x=>by
  rw[show b+1+a=(b+a)+1 by lia];show fl m (it m (b+a) x)=fl m (it m b (it m a x));rw[qc6z m a b x]
theorem qgcz(m:Nat)(h:Int):∀n,(rn m h (13+n)).1=it m n (rn m h 13).1
 |0=>rfl
 |n+1=>by
  show ((rn m h (13+n)).1*5+1+(rn m h (13+n)).2 / 32)%(m+1)=fl m (it m n (rn m h 13).1);rw[qulz m h (13+n) (by lia),qgcz m h n];rfl
theorem qgdz(m:Nat)(h:Int):∀r,(rn m h r).1<m+1
 |0=>Nat.mod_lt _ (Nat.succ_pos _)
 |r+1=>Nat.mod_lt _ (Nat.succ_pos _)
def orb(m:Nat):Nat->Nat->List Nat
 |0,_=>[]
 |n+1,x=>x::orb m n (fl m x)
theorem qetz(m:Nat):∀(n x y:Nat),y∈orb m n x->∃k,k<n/\y=it m k x
 |0,_,_,h=>by cases h
 |n+1,x,y,h=>by
  rcases List.mem_cons.mp h with e|e
  ·exact⟨0,by lia,e⟩
  ·obtain⟨k,hk,e⟩:=qetz m n (fl m x) y e;refine⟨k+1,by lia,?_⟩;rw[qc6z m 1 k x];exact e
theorem orb7:((List.range 8).all fun x=>(orb 7 8 0).contains x)=true:=by decide +kernel
theorem orb31:((List.range 32).all fun x=>(orb 31 32 0).contains x)=true:=by decide +kernel
theorem orb127:((List.range 128).all fun x=>(orb 127 128 0).contains x)=true:=by decide +kernel
theorem back7:it 7 8 0=0:=by decide +kernel
theorem back31:it 31 32 0=0:=by decide +kernel
theorem back127:it 127 128 0=0:=by decide +kernel
theorem orbit{m:Nat}(hm:Masky m){x:Nat}(hx:x<m+1):∃k,k<m+1/\x=it m k 0:=by
 rcases hm with rfl|rfl|rfl
 ·have:=List.all_eq_true.mp orb7 x (List.mem_range.mpr hx);exact qetz 7 8 0 x (by simpa using this)
 ·have:=List.all_eq_true.mp orb31 x (List.mem_range.mpr hx);exact qetz 31 32 0 x (by simpa using this)
 ·have:=List.all_eq_true.mp orb127 x (List.mem_range.mpr hx);exact qetz 127 128 0 x (by simpa using this)
theorem back{m:Nat}(hm:Masky m):it m (m+1) 0=0:=by
 rcases hm with rfl|rfl|rfl
 ·exact back7
 ·exact back31
 ·exact back127
theorem period{m:Nat}(hm:Masky m){x y:Nat}(hx:x<m+1)(hy:y<m+1):∃n,n≤m/\it m n x=y:=by
 obtain⟨a,ha,ea⟩:=orbit hm hx;obtain⟨b,hb,eb⟩:=orbit hm hy;by_cases hab:a≤b
 ·refine⟨b-a,by lia,?_⟩;rw[ea,←qc6z,eb];congr 1;lia
 ·refine⟨m+1-a+b,by lia,?_⟩;rw[ea,←qc6z,eb,show m+1-a+b+a=b+(m+1) by lia,qc6z,back hm]
theorem comes{m:Nat}(hm:Masky m)(h:Int){e:Nat}(he:e≤m):∃k,k≤10*m+130/\(sq m h k).j=e:=by
 obtain⟨n,hn,en⟩:=period hm (qgdz m h 13) (show e<m+1 by lia);obtain⟨k,hk,ek⟩:=qkcz m h (13+n);refine⟨k,by lia,?_⟩;rw[ek];show (rn m h (13+n)).1=e;rw[qgcz,en]
theorem qgez{xs:Array Nat}{j:Nat}(hr:xs.toList.Pairwise (· < ·)):∀(fuel lo hi:Nat),hi-lo≤fuel->lo≤hi->hi≤xs.size->(∀i x,i<lo->xs[i]?=some x->x<j)->(∀i x,hi≤i->xs[i]?=some x->j≤x) ->
  below.go xs j fuel lo hi≤xs.size/\(∀i x,i<below.go xs j fuel lo hi->xs[i]?=some x->x<j)/\(∀i x,below.go xs j fuel lo hi≤i->xs[i]?=some x->j≤x)
 |0,lo,hi,hf,hl,hs,h1,h2=>by
  have e:lo=hi:=by lia
  subst e;exact⟨hs,h1,h2⟩
 |fuel+1,lo,hi,hf,hl,hs,h1,h2=>by
  unfold below.go;by_cases hlt:lo<hi
  ·rw[if_pos hlt];dsimp only;have hmid:(lo+hi) / 2<xs.size:=by lia
   have hg:xs.getD ((lo+hi) / 2) j=xs[(lo+hi) / 2]:=by simp[Array.getD,hmid]
   rw[hg];have pw:∀a b x y,a<b->xs[a]?=some x->xs[b]?=some y->x<y:=fun a b x y hab ea eb=>by
    have ha':a<xs.toList.length:=by
     have:=(Array.getElem?_eq_some_iff.mp ea).1;simpa using this
    have hb':b<xs.toList.length:=by
     have:=(Array.getElem?_eq_some_iff.mp eb).1;simpa using this
    have:=List.pairwise_iff_getElem.mp hr a b ha' hb' hab;obtain⟨_,e1⟩:=Array.getElem?_eq_some_iff.mp ea;obtain⟨_,e2⟩:=Array.getElem?_eq_some_iff.mp eb;simpa [e1,e2] using this
   have em:xs[(lo+hi) / 2]?=some xs[(lo+hi) / 2]:=by simp[hmid]
   by_cases hc:xs[(lo+hi) / 2]<j
   ·rw[if_pos hc];refine qgez hr fuel _ hi (by lia) (by lia) hs (fun i x hi' e=>?_) h2;by_cases hi2:i=(lo+hi) / 2
    ·subst hi2;rw[em] at e;cases e;exact hc
    ·exact Nat.lt_trans (pw i _ x _ (by lia) e em) hc
   ·rw[if_neg hc];refine qgez hr fuel lo _ (by lia) (by lia) (by lia) h1 (fun i x hi' e=>?_);by_cases hi2:i=(lo+hi) / 2
    ·subst hi2;rw[em] at e;cases e;lia
    ·have:=pw _ i _ x (by lia) em e;lia
  ·rw[if_neg hlt];have e:lo=hi:=by lia
   subst e;exact⟨hs,h1,h2⟩
theorem qeuz{xs:Array Nat}{j:Nat}(hr:xs.toList.Pairwise (· < ·)):below xs j≤xs.size/\(∀i x,i<below xs j->xs[i]?=some x->x<j)/\(∀i x,below xs j≤i->xs[i]?=some x->j≤x):=
 qgez hr xs.size 0 xs.size (by lia) (by lia) (by lia) (fun i _ h=>by lia) fun i x h e=>by
  have:=(Array.getElem?_eq_some_iff.mp e).1;lia
theorem below_at{xs:Array Nat}{j i:Nat}(hr:xs.toList.Pairwise (· < ·))(e:xs[i]?=some j):below xs j=i:=by
 obtain⟨h0,h1,h2⟩:=qeuz (j:=j) hr;have hi:=(Array.getElem?_eq_some_iff.mp e).1;by_cases hlt:i<below xs j
 ·exact absurd (h1 i j hlt e) (Nat.lt_irrefl _)
 ·by_cases hgt:below xs j<i
  ·have hb:below xs j<xs.size:=by lia
   have eb:xs[below xs j]?=some xs[below xs j]:=by simp[hb]
   have q1:=h2 _ _ (Nat.le_refl _) eb;have pw:=List.pairwise_iff_getElem.mp hr (below xs j) i (by simpa using hb) (by simpa using hi) hgt;obtain⟨_,e1⟩:=Array.getElem?_eq_some_iff.mp e;simp[e1] at pw;lia
  ·lia
end SetP
namespace SetP
open PySem PySem.SetTable
structure Tab(t:SetTable)(hs:List Int):Prop where
 mask:Masky t.mask
 size:t.place.size=hs.length
 rise:t.place.toList.Pairwise (· < ·)
 bound:∀j∈t.place.toList,j≤t.mask
 nodum:t.dummies = #[]
 room:hs.length*5<t.mask*3
 reach:∀j h,(j,h)∈t.place.toList.zip hs->∃k,(sq t.mask h k).j=j/\∀k',k' < k->(sq t.mask h k').j∈t.place.toList
theorem qkez{t:SetTable}{j i:Nat}(hr:t.place.toList.Pairwise (· < ·))(e:t.place[i]?=some j):t.slot j=.live i:=by
 unfold slot;dsimp only;rw[below_at hr e,e];simp
theorem qumz{t:SetTable}{j:Nat}(hd:t.dummies = #[])(e:j∉t.place.toList):t.slot j=.empty:=by
 unfold slot;dsimp only;have h1:¬(t.place[below t.place j]?==some j)=true:=by
  intro h;have h':t.place[below t.place j]?=some j:=by simpa using h
  exact e (by
   rw[←Array.getElem?_toList] at h';exact List.mem_of_getElem? h')
 rw[if_neg h1];have h2:has t.dummies j=false:=by
  rw[hd];rfl
 rw[h2];rfl
theorem qgfz:∀(n:Nat) (L:List Nat),(∀e,e<n->e∈L)->n≤L.length
 |0,_,_=>Nat.zero_le _
 |n+1,L,h=>by
  have h1:=h n (Nat.lt_succ_self n);have h2:=qgfz n (L.erase n) fun e he=>(List.mem_erase_of_ne (by lia)).mpr (h e (by lia));have h3:=List.length_erase_of_mem h1;have h4:=List.length_pos_of_mem h1;lia
theorem qunz{t:SetTable}{hs:List Int}(T:Tab t hs)(h:Int):∃ke,ke≤10*t.mask+130/\(sq t.mask h ke).j∉t.place.toList/\∀k,k<ke->(sq t.mask h k).j∈t.place.toList:=by
 -- some slot is empty
 have hex:∃e,e≤t.mask/\e∉t.place.toList:=by
  refine Classical.byContradiction fun hn=>?_;have hall:∀e,e≤t.mask->e∈t.place.toList:=fun e he=>Classical.byContradiction fun q=>hn ⟨e,he,q⟩;have hl:=qgfz (t.mask+1) t.place.toList fun e he=>hall e (by lia);have e1:t.place.toList.length=t.place.size:=by simp
  have:=T.size;have:=T.room;lia
 obtain⟨e,he,ne⟩:=hex;obtain⟨k,hk,ek⟩:=comes T.mask h he;have hP:∃k,(sq t.mask h k).j∉t.place.toList:=⟨k,by rw[ek];exact ne⟩
 -- the least one
 have least:∀n,(∃k,k≤n/\(sq t.mask h k).j∉t.place.toList)->∃ke,ke≤n/\(sq t.mask h ke).j∉t.place.toList/\∀k,k<ke->(sq t.mask h k).j∈t.place.toList:=by
  intro n
  induction n with
  |zero=>
   rintro⟨k,hk,q⟩;have:k=0:=by lia
   subst this;exact⟨0,Nat.le_refl _,q,fun k hk=>by lia⟩
  |succ n ih=>
   rintro⟨k,hk,q⟩;by_cases hp:∃k,k≤n/\(sq t.mask h k).j∉t.place.toList
   ·obtain⟨ke,h1,h2,h3⟩:=ih hp;exact⟨ke,by lia,h2,h3⟩
   ·have hk':k=n+1:=by
     refine Classical.byContradiction fun z=>hp ⟨k,by lia,q⟩
    subst hk';exact⟨n+1,Nat.le_refl _,q,fun k' hk'=>Classical.byContradiction fun z=>hp ⟨k',by lia,z⟩⟩
 obtain⟨ke,h1,h2,h3⟩:=least k ⟨k,Nat.le_refl _,by rw[ek];exact ne⟩;exact⟨ke,by lia,h2,h3⟩
inductive Meets(t:SetTable)(hashAt:Nat->Int)(h:Int)(n ke:Nat):Met->Prop where
 |cand {k i:Nat} (h1:n≤k) (h2:k<ke) (h3:t.place[i]?=some (sq t.mask h k).j) (h4:hashAt i=h) (h5:∀k' i',n≤k'->k' < k->t.place[i']?=some (sq t.mask h k').j->hashAt i'≠h):
   Meets t hashAt h n ke (.candidate (sq t.mask h k).j i (sq t.mask h (k+1)))
 |free (h1:n≤ke) (h5:∀k' i',n≤k'->k' < ke->t.place[i']?=some (sq t.mask h k').j->hashAt i'≠h):Meets t hashAt h n ke (.empty (sq t.mask h ke).j none)
theorem qkfz{t:SetTable}{hashAt:Nat->Int}{h:Int}{ke:Nat}(hr:t.place.toList.Pairwise (· < ·))(hd:t.dummies = #[])(he:(sq t.mask h ke).j∉t.place.toList)(hl:∀k,k<ke->(sq t.mask h k).j∈t.place.toList):
  ∀(fuel n:Nat),n≤ke->ke-n<fuel->∃met,probe.go t hashAt h fuel (sq t.mask h n)=some met/\Meets t hashAt h n ke met
 |0,n,_,hf=>by lia
 |fuel+1,n,hn,hf=>by
  unfold probe.go;by_cases hlast:n=ke
  ·subst hlast;rw[qumz hd he,qkaz];exact⟨_,rfl,.free (Nat.le_refl _) fun k' i' h1 h2=>by lia⟩
  ·have hmem:=hl n (by lia);obtain⟨i,hi⟩:=List.getElem?_of_mem hmem;have hi':t.place[i]?=some (sq t.mask h n).j:=by rw[←Array.getElem?_toList];exact hi
   rw[qkez hr hi'];dsimp only;by_cases hh:hashAt i=h
   ·rw[if_pos (by simpa using hh)];exact⟨_,rfl,.cand (Nat.le_refl _) (by lia) hi' hh fun k' i' h1 h2=>by lia⟩
   ·rw[if_neg (by simpa using hh)];obtain⟨met,e,m⟩:=qkfz (hashAt:=hashAt) hr hd he hl fuel (n+1) (by lia) (by lia);refine⟨met,e,?_⟩;have one:∀i',t.place[i']?=some (sq t.mask h n).j->hashAt i'≠h:=fun i' e'=>by
     have e1:=below_at hr hi';have e2:=below_at hr e';have:i'=i:=by lia
     rw[this];exact hh
    cases m with
    |cand h1 h2 h3 h4 h5=>
     refine .cand (by lia) h2 h3 h4 fun k' i' q1 q2 q3=>?_;by_cases hk:k'=n
     ·subst hk;exact one i' q3
     ·exact h5 k' i' (by lia) q2 q3
    |free h1 h5=>
     refine .free (by lia) fun k' i' q1 q2 q3=>?_;by_cases hk:k'=n
     ·subst hk;exact one i' q3
     ·exact h5 k' i' (by lia) q2 q3
theorem quoz{t:SetTable}{hs:List Int}(T:Tab t hs){hashAt:Nat->Int}{h:Int}{ke n:Nat}(hk:ke≤10*t.mask+130)(he:(sq t.mask h ke).j∉t.place.toList)(hl:∀k,k<ke->(sq t.mask h k).j∈t.place.toList)(hn:n≤ke):
  ∃met,t.probe hashAt h (sq t.mask h n)=some met/\Meets t hashAt h n ke met:=by
 unfold probe;exact qkfz T.rise T.nodum he hl _ n hn (by unfold turns;lia)
theorem qb6z{α:Type}(xs:Array α)(p:Nat)(x:α):(insertAt xs p x).toList=xs.toList.take p++x::xs.toList.drop p:=by
 unfold insertAt;have e:(xs.extract p xs.size).toList=xs.toList.drop p:=by
  rw[Array.toList_extract];simp[List.extract];exact List.take_of_length_le (by simp)
 simp[Array.toList_extract,List.extract];exact List.take_of_length_le (by simp)
theorem qkgz{α β:Type}:∀(p:Nat) (xs:List α) (ys:List β) (x:α) (y:β),xs.length=ys.length->((xs.take p++x::xs.drop p).zip (ys.take p++y::ys.drop p)).Perm ((x,y)::xs.zip ys)
 |0,xs,ys,x,y,_=>by simp
 |p+1,[],ys,x,y,h=>by
  have:ys=[]:=List.length_eq_zero_iff.mp (by simpa using h.symm);subst this;simp
 |p+1,a::xs,[],x,y,h=>by simp at h
 |p+1,a::xs,b::ys,x,y,h=>by
  have ih:=qkgz p xs ys x y (by simpa using h);simp only[List.take_succ_cons,List.drop_succ_cons,List.cons_append,List.zip_cons_cons];exact (List.Perm.cons (a,b) ih).trans (List.Perm.swap _ _ _)
theorem qchz{α:Type}(p:Nat)(xs:List α)(x:α):(xs.take p++x::xs.drop p).Perm (x::xs):=by
 have:=List.perm_middle (a:=x) (l₁:=xs.take p) (l₂:=xs.drop p);rw[List.take_append_drop] at this;exact this
theorem qupz{t:SetTable}{j:Nat}(hd:t.dummies = #[]):t.put j=({ t with place:=insertAt t.place (below t.place j) j,dummies:=#[]},below t.place j):=by
 unfold put;dsimp only;have h2:has t.dummies j=false:=by
  rw[hd];rfl
 rw[h2];simp[hd]
structure TabR(t:SetTable)(hs:List Int):Prop where
 mask:Masky t.mask
 size:t.place.size=hs.length
 rise:t.place.toList.Pairwise (· < ·)
 bound:∀j∈t.place.toList,j≤t.mask
 nodum:t.dummies = #[]
 fit:hs.length≤t.mask
 reach:∀j h,(j,h)∈t.place.toList.zip hs->∃k,(sq t.mask h k).j=j/\∀k',k' < k->(sq t.mask h k').j∈t.place.toList
theorem qkhz{m:Nat}(hm:Masky m)(h:Int):∀k,(sq m h k).j≤m/\(sq m h k).j+(sq m h k).more≤m:=by
 have hrun:∀i,i≤m->runEnd m i≤m:=fun i hi=>by
  unfold runEnd;split<;>lia
 have hrs:∀q:Nat×Nat,q.1≤m->(rs m q).j≤m/\(rs m q).j+(rs m q).more≤m:=fun q hq=>by
  have:=hrun q.1 hq;have h2:q.1≤runEnd m q.1:=by unfold runEnd;split<;>lia
  show q.1≤m/\q.1+(runEnd m q.1-q.1)≤m;lia
 intro k
 induction k with
 |zero=>exact hrs _ (by show bits h%(m+1)≤m;have:bits h%(m+1)<m+1:=Nat.mod_lt (bits h) (Nat.succ_pos m);lia)
 |succ k ih=>
  show (adv m (sq m h k)).j≤m/\(adv m (sq m h k)).j+(adv m (sq m h k)).more≤m;unfold adv;by_cases hc:(sq m h k).more > 0
  ·rw[if_pos hc];show (sq m h k).j+1≤m/\(sq m h k).j+1+((sq m h k).more-1)≤m;lia
  ·rw[if_neg hc];have hlt:(leap m (sq m h k).i (sq m h k).perturb).1≤m:=by
    show ((sq m h k).i*5+1+(sq m h k).perturb / 32)%(m+1)≤m;have:((sq m h k).i*5+1+(sq m h k).perturb / 32)%(m+1)<m+1:=Nat.mod_lt _ (Nat.succ_pos m);lia
   exact hrs (leap m (sq m h k).i (sq m h k).perturb) hlt
theorem Tab.put{t:SetTable}{hs:List Int}(T:Tab t hs){h:Int}{ke:Nat}(he:(sq t.mask h ke).j∉t.place.toList)(hl:∀k,k<ke->(sq t.mask h k).j∈t.place.toList):
  TabR { t with place:=insertAt t.place (below t.place (sq t.mask h ke).j) (sq t.mask h ke).j,dummies:=#[]} (hs.take (below t.place (sq t.mask h ke).j)++h::hs.drop (below t.place (sq t.mask h ke).j)):=by
 obtain⟨b0,b1,b2⟩:=qeuz (j:=(sq t.mask h ke).j) T.rise;have hlen:t.place.toList.length=hs.length:=by simpa using T.size
 have hmem:∀x,x∈(insertAt t.place (below t.place (sq t.mask h ke).j) (sq t.mask h ke).j).toList↔x=(sq t.mask h ke).j∨x∈t.place.toList:=fun x=>by
  rw[qb6z,(qchz _ t.place.toList _).mem_iff,List.mem_cons]
 refine⟨T.mask,?_,?_,fun j hj=>?_,rfl,?_,fun j h' hj=>?_⟩
 ·show (insertAt t.place (below t.place (sq t.mask h ke).j) (sq t.mask h ke).j).size=_;have e1:(insertAt t.place (below t.place (sq t.mask h ke).j) (sq t.mask h ke).j).size=(insertAt t.place (below t.place (sq t.mask h ke).j) (sq t.mask h ke).j).toList.length:=by simp
  rw[e1,qb6z,(qchz _ t.place.toList _).length_eq,(qchz _ hs _).length_eq];simp only[List.length_cons];lia
 ·show (insertAt t.place (below t.place (sq t.mask h ke).j) (sq t.mask h ke).j).toList.Pairwise (· < ·);rw[qb6z];refine List.pairwise_append.mpr ⟨T.rise.sublist (List.take_sublist _ _),List.pairwise_cons.mpr ⟨fun x hx=>?_,T.rise.sublist (List.drop_sublist _ _)⟩,fun a ha b hb=>?_⟩
  ·obtain⟨i,hi⟩:=List.getElem?_of_mem hx;rw[List.getElem?_drop] at hi;have q:=b2 (below t.place (sq t.mask h ke).j+i) x (by lia) (by rw[←Array.getElem?_toList];exact hi);have ne:x≠(sq t.mask h ke).j:=fun e=>he (e▸List.mem_of_getElem? hi);lia
  ·obtain⟨i,hi⟩:=List.getElem?_of_mem ha;have hil:i<below t.place (sq t.mask h ke).j:=by
    have:=(List.getElem?_eq_some_iff.mp hi).1;rw[List.length_take] at this;lia
   rw[List.getElem?_take_of_lt hil] at hi;have qa:=b1 i a hil (by rw[←Array.getElem?_toList];exact hi);rcases List.mem_cons.mp hb with e|hb
   ·rw[e];exact qa
   ·obtain⟨i2,hi2⟩:=List.getElem?_of_mem hb;rw[List.getElem?_drop] at hi2;have q:=b2 (below t.place (sq t.mask h ke).j+i2) b (by lia) (by rw[←Array.getElem?_toList];exact hi2);lia
 ·rcases (hmem j).mp hj with e|e
  ·rw[e];exact (qkhz T.mask h ke).1
  ·exact T.bound j e
 ·rw[(qchz _ hs _).length_eq];have:=T.room;rcases T.mask with e|e|e<;>(simp only[List.length_cons];show _≤t.mask;lia)
 ·have hp:(j,h')∈(t.place.toList.take (below t.place (sq t.mask h ke).j)++(sq t.mask h ke).j::t.place.toList.drop (below t.place (sq t.mask h ke).j)).zip
    (hs.take (below t.place (sq t.mask h ke).j)++h::hs.drop (below t.place (sq t.mask h ke).j)):=by
   rw[←qb6z];exact hj
  rw[(qkgz _ _ _ _ _ hlen).mem_iff] at hp;rcases List.mem_cons.mp hp with e|e
  ·cases e;exact⟨ke,rfl,fun k' hk'=>(hmem _).mpr (.inr (hl k' hk'))⟩
  ·obtain⟨k,e1,e2⟩:=T.reach j h' e;exact⟨k,e1,fun k' hk'=>(hmem _).mpr (.inr (e2 k' hk'))⟩
theorem TabR.tab{t:SetTable}{hs:List Int}(T:TabR t hs)(h:t.tooFull=false):Tab t hs:=by
 refine⟨T.mask,T.size,T.rise,T.bound,T.nodum,?_,T.reach⟩;have h':¬(t.fill*5≥t.mask*3):=by simpa [tooFull] using h
 have e:t.fill=hs.length:=by
  unfold fill;rw[T.size,T.nodum];rfl
 rw[e] at h';lia
end SetP
namespace SetP
open PySem PySem.SetTable
def Taken(ow:Array (Option Nat))(j:Nat):Prop:=∃k,ow[j]?=some (some k)
theorem qggz{ow:Array (Option Nat)}{j:Nat}(hj:j<ow.size):(ow.getD j (some 0)).isNone=true↔¬Taken ow j:=by
 have e:ow.getD j (some 0)=ow[j]:=by simp[Array.getD,hj]
 rw[e];unfold Taken;rw[Array.getElem?_eq_getElem hj];cases ow[j] with
 |none=>simp
 |some k=>simp
theorem qkiz{m:Nat}(hm:Masky m){h:Int}{ow:Array (Option Nat)}(hs:ow.size=m+1):∀(fuel r n:Nat),sq m h n=rs m (rn m h r)->(∀k,k<n->Taken ow (sq m h k).j) ->
  (∃r',r≤r'/\r' < r+fuel/\¬Taken ow (rn m h r').1)->∃ke,layClean.free m ow fuel (rn m h r).1 (rn m h r).2=some (sq m h ke).j/\¬Taken ow (sq m h ke).j/\∀k,k<ke->Taken ow (sq m h k).j
 |0,r,n,_,_,hx=>by
  obtain⟨r',h1,h2,_⟩:=hx;lia
 |fuel+1,r,n,hn,hk,hx=>by
  have hi:=qgdz m h r;have hre:runEnd m (rn m h r).1≤m:=by unfold runEnd;split<;>lia
  have hre2:(rn m h r).1≤runEnd m (rn m h r).1:=by unfold runEnd;split<;>lia
  have at_d:∀d,d≤runEnd m (rn m h r).1-(rn m h r).1->(sq m h (n+d)).j=(rn m h r).1+d:=fun d hd=>by
   rw[qgbz m h n _ hn d hd]
  unfold layClean.free;cases hf:(List.range (runEnd m (rn m h r).1+1-(rn m h r).1)).find? (fun k=>(ow.getD ((rn m h r).1+k) (some 0)).isNone) with
  |some k=>
   obtain⟨p1,p2,p3⟩:=List.find?_range_eq_some.mp hf;have hkr:=List.mem_range.mp p2;refine⟨n+k,?_,?_,fun k' hk'=>?_⟩
   ·rw[at_d k (by lia)]
   ·rw[at_d k (by lia)];exact (qggz (by lia)).mp p1
   ·by_cases hlt:k' < n
    ·exact hk k' hlt
    ·obtain⟨d,rfl⟩:∃d,k'=n+d:=⟨k' - n,by lia⟩;rw[at_d d (by lia)];have q:=p3 d (by lia);refine Classical.byContradiction fun z=>?_;rw[(qggz (by lia)).mpr z] at q;cases q
  |none=>
   have hnone:=List.find?_eq_none.mp hf;have occ:∀d,d≤runEnd m (rn m h r).1-(rn m h r).1->Taken ow ((rn m h r).1+d):=fun d hd=>
    Classical.byContradiction fun z=>hnone d (List.mem_range.mpr (by lia)) ((qggz (by lia)).mpr z)
   refine qkiz hm hs fuel (r+1) (n+(runEnd m (rn m h r).1-(rn m h r).1)+1) (qkbz m h n _ hn) (fun k hk'=>?_) ?_
   ·by_cases hlt:k<n
    ·exact hk k hlt
    ·obtain⟨d,rfl⟩:∃d,k=n+d:=⟨k-n,by lia⟩;rw[at_d d (by lia)];exact occ d (by lia)
   ·obtain⟨r',h1,h2,h3⟩:=hx;refine⟨r',?_,by lia,h3⟩;have:r'≠r:=fun e=>h3 (by
     rw[e];have:=occ 0 (Nat.zero_le _);simpa using this)
    lia
structure Own(m:Nat)(ow:Array (Option Nat))(l:List Int):Prop where
 size:ow.size=m+1
 all:∀(k:Nat),k<l.length->∃j:Nat,ow[j]?=some (some k)
 one:∀(j j' k:Nat),ow[j]?=some (some k)->ow[j']?=some (some k)->j=j'
 reach:∀(j k:Nat),ow[j]?=some (some k)->∃h,l[k]?=some h/\∃n,(sq m h n).j=j/\∀n',n' < n->Taken ow (sq m h n').j
theorem Own.nil(m:Nat):Own m (Array.replicate (m+1) none) []:=by
 have hno:∀(j k:Nat),¬(Array.replicate (m+1) (none:Option Nat))[j]?=some (some k):=fun j k e=>by
  rw[Array.getElem?_replicate] at e;split at e<;>simp at e
 exact⟨by simp,fun k hk=>by simp at hk,fun j j' k e=>absurd e (hno j k),fun j k e=>absurd e (hno j k)⟩
theorem Own.room{m:Nat}{ow:Array (Option Nat)}{l:List Int}(O:Own m ow l)(hl:l.length≤m):∃e,e≤m/\¬Taken ow e:=by
 refine Classical.byContradiction fun hn=>?_;have hall:∀e,e≤m->Taken ow e:=fun e he=>Classical.byContradiction fun q=>hn ⟨e,he,q⟩;obtain⟨g,hg⟩:∃g:Nat->Nat,∀k,k<l.length->ow[g k]?=some (some k):=by
  refine⟨fun k=>if q:k<l.length then (O.all k q).choose else 0,fun k hk=>?_⟩;dsimp only;rw[dif_pos hk];exact (O.all k hk).choose_spec
 have hlen:=qgfz (m+1) ((List.range l.length).map g) fun e he=>by
  obtain⟨k,hk⟩:=hall e (by lia);obtain⟨h,e1,_⟩:=O.reach e k hk;have hkl:=(List.getElem?_eq_some_iff.mp e1).1;exact List.mem_map.mpr ⟨k,List.mem_range.mpr hkl,O.one _ _ k (hg k hkl) hk⟩
 simp at hlen;lia
theorem Own.add{m:Nat}(hm:Masky m){ow:Array (Option Nat)}{l:List Int}{h:Int}(O:Own m ow l)(hl:l.length≤m):
  ∃j,layClean.free m ow (turns m) (bits h%(m+1)) (bits h)=some j/\Own m (ow.setIfInBounds j (some l.length)) (l++[h]):=by
 obtain⟨e,he,ne⟩:=O.room hl;obtain⟨n0,hn0,en0⟩:=period hm (qgdz m h 13) (show e<m+1 by lia);obtain⟨ke,h1,h2,h3⟩:=qkiz hm (h:=h) O.size (turns m) 0 0 rfl (fun k hk=>by lia) ⟨13+n0,by lia,by unfold turns;lia,by rw[qgcz,en0];exact ne⟩;refine⟨(sq m h ke).j,h1,?_⟩;have hj:(sq m h ke).j<ow.size:=by
  have:=(qkhz hm h ke).1;rw[O.size];lia
 have hget:∀j:Nat,(ow.setIfInBounds (sq m h ke).j (some l.length))[j]?=if (sq m h ke).j=j then some (some l.length) else ow[j]?:=fun j=>by
  rw[Array.getElem?_setIfInBounds];by_cases e:(sq m h ke).j=j
  ·rw[if_pos e,if_pos e,if_pos (by lia)]
  ·rw[if_neg e,if_neg e]
 have tk:∀j,Taken ow j->Taken (ow.setIfInBounds (sq m h ke).j (some l.length)) j:=fun j ⟨k,hk⟩=>by
  unfold Taken;rw[hget];by_cases e:(sq m h ke).j=j
  ·exact⟨_,if_pos e⟩
  ·exact⟨k,by rw[if_neg e];exact hk⟩
 have lt_of:∀j k:Nat,ow[j]?=some (some k)->k<l.length:=fun j k e=>by
  obtain⟨h',e1,_⟩:=O.reach j k e;exact (List.getElem?_eq_some_iff.mp e1).1
 refine⟨by rw[Array.size_setIfInBounds];exact O.size,fun k hk=>?_,fun j j' k q q'=>?_,fun j k q=>?_⟩
 ·rw[List.length_append,List.length_singleton] at hk;by_cases hkl:k<l.length
  ·obtain⟨j,hj'⟩:=O.all k hkl;refine⟨j,?_⟩;rw[hget,if_neg (fun e=>h2 ⟨k,by rw[e];exact hj'⟩)];exact hj'
  ·have:k=l.length:=by lia
   exact⟨(sq m h ke).j,by rw[hget,if_pos rfl,this]⟩
 ·rw[hget] at q q';by_cases e:(sq m h ke).j=j
  ·rw[if_pos e] at q;by_cases e':(sq m h ke).j=j'
   ·lia
   ·rw[if_neg e'] at q';cases q;exact absurd (lt_of _ _ q') (Nat.lt_irrefl _)
  ·rw[if_neg e] at q;by_cases e':(sq m h ke).j=j'
   ·rw[if_pos e'] at q';cases q';exact absurd (lt_of _ _ q) (Nat.lt_irrefl _)
   ·rw[if_neg e'] at q';exact O.one j j' k q q'
 ·rw[hget] at q;by_cases e:(sq m h ke).j=j
  ·rw[if_pos e] at q;cases q;exact⟨h,by simp,ke,e,fun n' hn'=>tk _ (h3 n' hn')⟩
  ·rw[if_neg e] at q;obtain⟨h',e1,n,e2,e3⟩:=O.reach j k q;exact⟨h',by rw[List.getElem?_append_left (lt_of j k q)];exact e1,n,e2,fun n' hn'=>tk _ (e3 n' hn')⟩
theorem qkjz{m:Nat}(hm:Masky m):∀(l' l:List Int) (ow:Array (Option Nat)),Own m ow l->l.length+l'.length≤m+1 ->
  ∃ow',(l'.foldl (fun (acc:Option (Array (Option Nat)×Nat)) h=>do
   let (owner,k) ←acc
   let j ←layClean.free m owner (turns m) (bits h%(m+1)) (bits h)
   pure (owner.setIfInBounds j (some k),k+1)) (some (ow,l.length)))=some (ow',(l++l').length)/\Own m ow' (l++l')
 |[],l,ow,O,_=>⟨ow,by simp,by simpa using O⟩
 |h::l',l,ow,O,hl=>by
  rw[List.length_cons] at hl
  obtain⟨j,e,O'⟩:=O.add hm (h:=h) (by lia)
  obtain⟨ow',e2,O2⟩:=qkjz hm l' (l++[h]) _ O' (by simp;lia)
  refine⟨ow',?_,by simpa using O2⟩
  rw[List.foldl_cons]
  have hs:(do
   let (owner,k) ←(some (ow,l.length):Option (Array (Option Nat)×Nat))
   let j ←layClean.free m owner (turns m) (bits h%(m+1)) (bits h)
   pure (owner.setIfInBounds j (some k),k+1))=some (ow.setIfInBounds j (some l.length),(l++[h]).length):=by
   show (do
    let j ←layClean.free m ow (turns m) (bits h%(m+1)) (bits h)
    pure (ow.setIfInBounds j (some l.length),l.length+1))=_
   rw[e]
   simp
  rw[hs,e2]
  simp
theorem qghz{α:Type}:∀l:List α,((List.range l.length).filterMap fun k=>l[k]?)=l
 |[]=>rfl
 |a::l=>by
  rw[List.length_cons,List.range_succ_eq_map,List.filterMap_cons_some (b:=a) (by simp),List.filterMap_map];have ih:=qghz l;congr 1
theorem quqz{α:Type}(xs:Array α):((List.range xs.size).filterMap fun k=>xs[k]?)=xs.toList:=by
 have:=qghz xs.toList;simpa using this
theorem qurz{m finger moves:Nat}{led plain:Bool}(hm:Masky m)(hs:Array Int)(hl:hs.size*5<m*3):
  ∃t order,laid m finger moves led plain hs=some (t,order)/\t.mask=m/\t.led=led/\t.plain=plain/\t.finger=finger/\order.toList.Perm (List.range hs.size)/\Tab t (order.toList.filterMap fun k=>hs[k]?):=by
 obtain⟨ow,e,O⟩:=qkjz hm hs.toList [] _ (Own.nil m) (by simp;lia);rw[List.nil_append] at e O;have hlc:layClean m hs=some ow:=by
  unfold layClean;rw[←Array.foldl_toList];have e':=congrArg (Option.map fun x:Array (Option Nat)×Nat=>x.1) e;exact e'
 have hmem:∀j k,(j,k)∈((List.range (m+1)).filterMap fun j=>(ow.getD j none).map (j,·))↔ow[j]?=some (some k):=fun j k=>by
  rw[List.mem_filterMap];constructor
  ·rintro⟨a,ha,q⟩;have ha':=List.mem_range.mp ha;cases ho:ow.getD a none with
   |none=>rw[ho] at q;cases q
   |some k'=>
    rw[ho] at q;cases q;have:ow.getD j none=ow[j]'(by rw[O.size];exact ha'):=by simp[Array.getD,O.size,ha']
    rw[this] at ho;rw[Array.getElem?_eq_getElem (by rw[O.size];exact ha'),ho]
  ·intro q;have hj:=(Array.getElem?_eq_some_iff.mp q).1;rw[O.size] at hj;refine⟨j,List.mem_range.mpr hj,?_⟩;have:ow.getD j none=some k:=by
    rw[Array.getD_eq_getD_getElem?,q];rfl
   rw[this];rfl
 generalize hL:((List.range (m+1)).filterMap fun j=>(ow.getD j none).map (j,·))=L at hmem;have rise:L.Pairwise fun a b=>a.1<b.1:=by
  rw[←hL];refine List.Pairwise.filterMap _ (fun a a' hlt b hb b' hb'=>?_) (List.pairwise_lt_range (n:=m+1));cases ho:ow.getD a none with
  |none=>rw[ho] at hb;cases hb
  |some k=>
   rw[ho] at hb;cases hb;cases ho':ow.getD a' none with
   |none=>rw[ho'] at hb';cases hb'
   |some k'=>
    rw[ho'] at hb';cases hb';exact hlt
 have nd:(L.map (·.2)).Nodup:=by
  refine List.Pairwise.map _ (R:=fun a b=>a.2≠b.2) (fun _ _ z=>z) ?_;refine List.Pairwise.imp_of_mem (fun {a b} ha hb hab=>?_) rise;intro q;obtain⟨j,k⟩:=a;obtain⟨j',k'⟩:=b;have ea:=(hmem j k).mp ha;have eb:=(hmem j' k').mp hb;have hab':j<j':=hab;have q':k=k':=q;subst q';have:=O.one j j' k ea eb;lia
 have hperm:(L.map (·.2)).Perm (List.range hs.size):=by
  refine (List.perm_ext_iff_of_nodup nd List.nodup_range).mpr fun k=>?_;rw[List.mem_map,List.mem_range];constructor
  ·rintro⟨⟨j,k'⟩,hjk,rfl⟩;obtain⟨h,e1,_⟩:=O.reach j k' ((hmem j k').mp hjk);have:=(List.getElem?_eq_some_iff.mp e1).1;simpa using this
  ·intro hk;obtain⟨j,ej⟩:=O.all k (by simpa using hk);exact⟨(j,k),(hmem j k).mpr ej,rfl⟩
 -- the hashes in the slots' order
 have hzip:∀j h,(j,h)∈(L.map (·.1)).zip ((L.map (·.2)).filterMap fun k=>hs[k]?)->∃k,(j,k)∈L/\hs[k]?=some h:=by
  have hall:∀p∈L,∃h,hs[p.2]?=some h:=fun p hp=>by
   obtain⟨h,e1,_⟩:=O.reach p.1 p.2 ((hmem p.1 p.2).mp hp);exact⟨h,by rw[←Array.getElem?_toList];exact e1⟩
  clear hmem rise nd hperm hL
  induction L with
  |nil=>intro j h q;cases q
  |cons p L ih=>
   intro j h q;obtain⟨h0,e0⟩:=hall p List.mem_cons_self;rw[List.map_cons,List.map_cons,List.filterMap_cons_some e0,List.zip_cons_cons] at q;rcases List.mem_cons.mp q with q|q
   ·cases q;exact⟨p.2,List.mem_cons_self,e0⟩
   ·obtain⟨k,q1,q2⟩:=ih (fun p hp=>hall p (List.mem_cons_of_mem _ hp)) j h q;exact⟨k,List.mem_cons_of_mem _ q1,q2⟩
 have hlenL:((L.map (·.2)).filterMap fun k=>hs[k]?).length=L.length:=by
  have h1:=(hperm.filterMap fun k=>hs[k]?).length_eq;rw[quqz] at h1;have h3:=hperm.length_eq;rw[List.length_map,List.length_range] at h3;rw[h1,h3];simp
 refine⟨_,_,by unfold laid;rw[hlc];rfl,rfl,rfl,rfl,rfl,?_,?_⟩
 ·rw[hL];exact hperm
 ·rw[hL];have hlen:L.length=hs.size:=by
   have:=hperm.length_eq;simpa using this
  refine⟨hm,?_,?_,fun j hj=>?_,rfl,?_,fun j h hj=>?_⟩
  ·rw[hlenL];simp
  ·exact List.Pairwise.map _ (fun _ _ z=>z) rise
  ·obtain⟨⟨j',k⟩,hp,rfl⟩:=List.mem_map.mp hj;have:=(Array.getElem?_eq_some_iff.mp ((hmem j' k).mp hp)).1;rw[O.size] at this;show j'≤m;lia
  ·rw[hlenL,hlen];exact hl
  ·obtain⟨k,q1,q2⟩:=hzip j h hj;obtain⟨h',e1,n,e2,e3⟩:=O.reach j k ((hmem j k).mp q1);have eh:h'=h:=by
    rw[Array.getElem?_toList,q2] at e1;exact (Option.some.inj e1).symm
   subst eh;refine⟨n,e2,fun n' hn'=>?_⟩;obtain⟨k',hk'⟩:=e3 n' hn';exact List.mem_map.mpr ⟨(_,k'),(hmem _ k').mpr hk',rfl⟩
end SetP
namespace SetM
open PySem SetP
section
variable {prog:Program} {w:World} {A:Around} {E:Value->Shared->Prop} {s:Shared}
abbrev hk(prog:Program)(w:World)(ks:List Int):Int:=tupleKeyHash (intKind prog w) ks
abbrev IsK(prog:Program)(w:World)(h:Heap)(ks:List Int)(a:Addr):Prop:=IsTupleKey (intKind prog w) h ks a
def ent(prog:Program)(w:World)(p:List Int×Addr):Int×Value:=(hk prog w p.1,.ref p.2)
structure SetAt(prog:Program)(w:World)(h:Heap)(a:Addr)(o:Obj)(es:Array (Int×Value))(ep:Nat)(t:SetTable)(xs:List (List Int×Addr)):Prop where
 at_:h.get? a=some o
 ex:o.ExactSet
 dat:o.data=.set es ep t
 ents:es.toList=xs.map (ent prog w)
 keys:∀p∈xs,IsK prog w h p.1 p.2
 nd:(xs.map (·.1)).Nodup
 plain:t.plain=true
 led:t.led = !(w.params.followText "set-order")
theorem qc7z{es:Array (Int×Value)}:(es.toList.map (·.1)).length=es.size:=by simp
theorem qb7z{es:Array (Int×Value)}{t:SetTable}(T:TabR t (es.toList.map (·.1))):t.fits es.size=true:=by
 unfold SetTable.fits;have h1:=T.size;rw[qc7z] at h1;have h2:=T.fit;rw[qc7z] at h2;have h3:t.fill=es.size:=by
  unfold SetTable.fill;rw[h1,T.nodum];rfl
 rw[h3,h1];simp;exact h2
theorem Tab.r{t:SetTable}{hs:List Int}(T:Tab t hs):TabR t hs:=by
 refine⟨T.mask,T.size,T.rise,T.bound,T.nodum,?_,T.reach⟩;have:=T.room;lia
theorem qusz{t:SetTable}(h:Masky t.mask):t.gaveWay=false:=by
 unfold SetTable.gaveWay;rcases h with e|e|e<;>rw[e]<;>rfl
theorem qutz(n:Nat){v:Value}(h:carriedByValue v=true):ofAClassStatement n v=pure false:=by
 cases v with
 |ref a=>simp[carriedByValue] at h
 |_=>first|rfl|(cases n<;>rfl)
theorem qkkz{ks:List Int}{a:Addr}{Q:Bool->Shared->Prop}(hx:IsK prog w s.heap ks a)(h:Q false s):wpAny (model prog w) A (ofAClassStatement 8 (.ref a)) Q E s:=by
 have hT:=hx.typeIs;obtain⟨o,items,n,ho,hc,hd,hi⟩:=hx;unfold ofAClassStatement;refine wpAny_bind (wpAny_typeOf hT ?_);dsimp only;rw[if_pos (by decide)];refine wpAny_bind (wpAny_pure ?_);rw[if_neg (by decide)];refine wpAny_bind (wpAny_seqItems ho hd ?_);dsimp only;refine wpAny_bind ?_;rw[←Array.forIn_toList];refine wpAny_forIn_list _ (fun rest r s'=>r.1=none/\s'=s/\∀v∈rest,carriedByValue v=true) _ ?_ ?_ _ _ ⟨rfl,rfl,hi.byValue⟩
 ·rintro v rest r s' ⟨hr,rfl,hall⟩;rw[qutz _ (hall v List.mem_cons_self)];refine wpAny_bind (wpAny_pure ?_);rw[if_neg Bool.false_ne_true];exact wpAny_pure ⟨rfl,rfl,fun u hu'=>hall u (List.mem_cons_of_mem _ hu')⟩
 ·rintro⟨r1,r2⟩ s' ⟨hr,rfl,_⟩;simp only at hr;subst hr;exact wpAny_pure h
theorem quuz{ks:List Int}{a:Addr}{Q:Bool->Shared->Prop}(hx:IsK prog w s.heap ks a)(l:List Value)(hl:∀v∈l,∃k y,v=.ref y/\IsK prog w s.heap k y)(h:Q false s):
  wpAny (model prog w) A (searchCouldBeSeen (.ref a) l) Q E s:=by
 unfold searchCouldBeSeen;refine wpAny_bind ?_;refine wpAny_forIn_list _ (fun rest r s'=>r.1=none/\s'=s/\∀v∈rest,∃k y,v=.ref y/\IsK prog w s.heap k y) _ ?_ ?_ _ _ ⟨rfl,rfl,hl⟩
 ·rintro v rest r s' ⟨hr,rfl,hall⟩;obtain⟨k,y,rfl,hy⟩:=hall v List.mem_cons_self;have hrest:∀v∈rest,∃k y,v=Value.ref y/\IsK prog w s'.heap k y:=fun v hv=>hall v (List.mem_cons_of_mem _ hv);dsimp only;by_cases hc:((a==y)||(carriedByValue (.ref a)&&carriedByValue (.ref y)))=true
  ·rw[if_pos hc];exact wpAny_pure ⟨rfl,rfl,hrest⟩
  ·rw[if_neg hc];refine wpAny_bind (wpAny_eqIsQuiet_tuple hx ?_);rw[if_neg (by decide)];refine wpAny_bind (wpAny_eqIsQuiet_tuple hy ?_);rw[if_neg (by decide)];refine wpAny_bind (qkkz hx ?_);rw[if_neg Bool.false_ne_true];refine wpAny_bind (qkkz hy ?_);rw[if_neg Bool.false_ne_true];exact wpAny_pure ⟨rfl,rfl,hrest⟩
 ·rintro⟨r1,r2⟩ s' ⟨hr,rfl,_⟩;simp only at hr;subst hr;exact wpAny_pure h
theorem quvz{ks:List Int}{a:Addr}{Q:Bool->Shared->Prop}(hx:IsK prog w s.heap ks a)(h:Q true s):wpAny (model prog w) A (hashByValue 8 (.ref a)) Q E s:=by
 have hT:=hx.typeIs;obtain⟨o,items,n,ho,hc,hd,hi⟩:=hx;unfold hashByValue;refine wpAny_bind (wpAny_specialOf hT F.slot_tuple_hash.lookup ?_);dsimp only;refine wpAny_bind (wpAny_seqItems ho hd ?_);refine wpAny_bind ?_;show wpAny _ _ (forIn items _ _) _ _ s;rw[←Array.forIn_toList];refine wpAny_forIn_list _ (fun rest r s'=>r.1=none/\s'=s/\∃l,ItemsAre (intKind prog w) l rest) _ ?_ ?_ _ _ ⟨rfl,rfl,ks,hi⟩
 ·rintro v rest r s' ⟨hr,rfl,l,hl⟩;cases hl with
  |@cons k v' _ _ h1 h2=>
   obtain⟨tk,rfl⟩:=Value.isInt_shape (k:=k) h1;have e:hashByValue 7 (.int k tk)=pure true:=by rfl
   rw[e];refine wpAny_bind (wpAny_pure ?_);rw[if_neg (by decide)];exact wpAny_pure ⟨rfl,rfl,_,h2⟩
 ·rintro⟨r1,r2⟩ s' ⟨hr,rfl,_⟩;simp only at hr;subst hr;exact wpAny_pure h
theorem quwz{es:Array (Int×Value)}{xs:List (List Int×Addr)}(he:es.toList=xs.map (ent prog w)){i:Nat}(hi:i<es.size):∃p,xs[i]?=some p/\es[i]?=some (ent prog w p):=by
 have hl:xs.length=es.size:=by
  have:=congrArg List.length he;simpa using this.symm
 obtain⟨p,hp⟩:∃p,xs[i]?=some p:=⟨xs[i]'(by lia),List.getElem?_eq_getElem (by lia)⟩;refine⟨p,hp,?_⟩;rw[←Array.getElem?_toList,he,List.getElem?_map,hp];rfl
theorem qklz{a:Addr}{o:Obj}{es:Array (Int×Value)}{ep:Nat}{t:SetTable}{xs:List (List Int×Addr)}(S:SetAt prog w s.heap a o es ep t xs)(T:Tab t (es.toList.map (·.1)))(hu:A.units<cLine)
  {ks:List Int} {x:Addr} (hx:IsK prog w s.heap ks x) {ke:Nat} (hke:ke≤10*t.mask+130) (hemp:(sq t.mask (hk prog w ks) ke).j∉t.place.toList) (hliv:∀k,k<ke->(sq t.mask (hk prog w ks) k).j∈t.place.toList)
  {Q:SetFound->Shared->Prop} (hin:ks∈xs.map (·.1)->Q (.there none) s) (hout:ks∉xs.map (·.1)->Q (.free (sq t.mask (hk prog w ks) ke).j false) s):
  ∀(fuel n:Nat) (stand:Option SetTable.Probe),stand.getD (t.probeStart (hk prog w ks))=sq t.mask (hk prog w ks) n->n≤ke->ke-n<fuel ->
   (∀(k' i':Nat) p,k' < n->t.place[i']?=some (sq t.mask (hk prog w ks) k').j->xs[i']?=some p->p.1≠ks) ->
   wpAny (model prog w) A (setSearchFrom a (.ref x) (hk prog w ks) true fuel stand) Q E s
 |0,n,stand,_,_,hf,_=>by lia
 |fuel+1,n,stand,hst,hn,hf,hprev=>by
  have hsz:t.place.size=es.size:=by
   have:=T.size
   rw[qc7z] at this
   exact this
  have hfit:=qb7z (Tab.r T)
  have hal:∀(i:Nat) (p:List Int×Addr),xs[i]?=some p->((es[i]?).map fun z:Int×Value=>z.1).getD 0=hk prog w p.1:=fun i p hp=>by
   rw[←Array.getElem?_toList,S.ents,List.getElem?_map,hp]
   rfl
  unfold setSearchFrom
  refine wpAny_bind (wpAny_setState_of S.at_ S.dat hfit ?_)
  dsimp only
  rw[qusz T.mask,if_neg Bool.false_ne_true,hst]
  obtain⟨met,e,m⟩:=quoz T (hashAt:=fun i=>((es[i]?).map fun z:Int×Value=>z.1).getD 0) hke hemp hliv hn
  erw [e]
  dsimp only
  cases m with
  |free h1 h5=>
   dsimp only
   refine wpAny_pure (hout fun hmem=>?_)
   obtain⟨p,hp,rfl⟩:=List.mem_map.mp hmem
   obtain⟨i,hi⟩:=List.getElem?_of_mem hp
   have hil:i<es.size:=by
    have h1:=(List.getElem?_eq_some_iff.mp hi).1
    have h2:=congrArg List.length S.ents
    simp at h2
    lia
   have hj:∃j,t.place[i]?=some j:=⟨t.place[i]'(by lia),by simp⟩
   obtain⟨j,hj⟩:=hj
   have hz:(j,hk prog w p.1)∈t.place.toList.zip (es.toList.map (·.1)):=by
    refine List.mem_of_getElem? (i:=i) ?_
    rw[List.getElem?_zip_eq_some]
    refine⟨by rw[Array.getElem?_toList];exact hj,?_⟩
    rw[S.ents,List.map_map,List.getElem?_map,hi]
    rfl
   obtain⟨k,hk1,hk2⟩:=T.reach _ _ hz
   have hkke:k<ke:=by
    refine Classical.byContradiction fun z=>hemp ?_
    by_cases q:k=ke
    ·rw[←q,hk1]
     exact List.mem_of_getElem? (by rw[Array.getElem?_toList];exact hj)
    ·exact hk2 ke (by lia)
   rw[←hk1] at hj
   by_cases hkn:k<n
   ·exact hprev k i p hkn hj hi rfl
   ·exact h5 k i (by lia) hkke hj (hal i p hi)
  |@cand k i h1 h2 h3 h4 h5=>
   dsimp only
   have hil:i<es.size:=by
    have:=(Array.getElem?_eq_some_iff.mp h3).1
    lia
   obtain⟨p,hp,hesi⟩:=quwz S.ents hil
   have hyk:=S.keys p (List.mem_of_getElem? hp)
   have hpk:p∈xs:=List.mem_of_getElem? hp
   have go:wpAny (model prog w) A (do
     let some (_,y):=es[i]? | unsupported "internal:set-entry"
     let equal ←holding [y] (eqBool y (.ref x))
     let (es',_,t') ←setState a
     if true&&equal then return .there none
     let some same:=t'.sameMemory t.moves t.mask|unsupported "set.changed-during-lookup:is-the-new-block-at-the-old-address"
     let still ←match (if same then t'.slot (sq t.mask (hk prog w ks) k).j else .empty) with
      |.live i'=>match es'[i']? with
       |some (_,y')=>do pure (if ←isSame y' y then some i' else none)
       |none=>pure none
      |_=>pure none
     match still with
     |none=>rule "set.search.anew";setSearchFrom a (.ref x) (hk prog w ks) true fuel none
     | some i'=>if equal then return .there (some i') else setSearchFrom a (.ref x) (hk prog w ks) true fuel (some (sq t.mask (hk prog w ks) (k+1)))) Q E s:=by
    rw[hesi]
    dsimp only[ent]
    refine wpAny_bind (wpAny_holding (wpAny_eqBool_tuple hu hyk hx ?_))
    refine wpAny_bind (wpAny_setState_of S.at_ S.dat hfit ?_)
    dsimp only
    by_cases heq:p.1=ks
    ·rw[decide_eq_true heq,if_pos (by decide)]
     exact wpAny_pure (hin (List.mem_map.mpr ⟨p,hpk,heq⟩))
    ·rw[decide_eq_false heq,if_neg (by decide)]
     have hsm:t.sameMemory t.moves t.mask=some true:=by unfold SetTable.sameMemory;simp
     rw[hsm]
     dsimp only
     rw[if_pos rfl,qkez T.rise h3]
     dsimp only
     rw[hesi]
     dsimp only[ent]
     refine wpAny_bind (wpAny_isSame_ref_self ?_)
     rw[if_pos rfl]
     refine wpAny_bind (wpAny_pure ?_)
     dsimp only
     rw[if_neg Bool.false_ne_true]
     refine qklz S T hu hx hke hemp hliv hin hout fuel (k+1) _ rfl (by lia) (by lia) fun k' i' p' hk' hpl hp'=>?_
     by_cases hkn:k' < n
     ·exact hprev k' i' p' hkn hpl hp'
     ·by_cases hkk:k'=k
      ·subst hkk
       have e1:=below_at T.rise h3
       have e2:=below_at T.rise hpl
       have:i'=i:=by lia
       subst this
       rw[hp] at hp'
       cases hp'
       exact heq
      ·intro he
       exact h5 k' i' (by lia) (by lia) hpl (by rw[hal i' p' hp',he])
   by_cases hled:t.led=true
   ·rw[hled]
    rw[if_neg (by decide)]
    exact go
   ·have hled':t.led=false:=by simpa using hled
    rw[hled']
    rw[if_pos (by decide)]
    refine wpAny_bind (quuz hx _ (fun v hv=>?_) ?_)
    ·obtain⟨e0,he0,rfl⟩:=List.mem_map.mp hv
     have he1:e0∈es.toList:=by
      have:=Array.mem_toList_iff.mp he0
      exact Array.mem_toList_iff.mpr (Array.mem_filter.mp this).1
     rw[S.ents] at he1
     obtain⟨p0,hp0,rfl⟩:=List.mem_map.mp he1
     exact⟨p0.1,p0.2,rfl,S.keys p0 hp0⟩
    ·rw[if_neg Bool.false_ne_true]
     exact go
end
end SetM
namespace SetM
open PySem SetP
section
variable {prog:Program} {w:World} {A:Around} {E:Value->Shared->Prop} {s:Shared}
def SetOn(prog:Program)(w:World)(h:Heap)(a:Addr)(xs:List (List Int×Addr)):Prop:=
 ∃o es ep t,SetAt prog w h a o es ep t xs/\Tab t (es.toList.map (·.1))
theorem qevz{h h':Heap}{a y:Addr}{ks:List Int}{o:Obj}{es:Array (Int×Value)}{ep:Nat}{t:SetTable}(ho:h.get? a=some o)(hd:o.data=.set es ep t)(sb:Heap.SameBut a h h')(hy:IsK prog w h ks y):IsK prog w h' ks y:=by
 obtain⟨oy,items,n,hoy,hc,hdy,hi⟩:=hy;have ne:y≠a:=by
  intro e;subst e;rw[ho] at hoy;cases hoy;rw[hd] at hdy;cases hdy
 exact⟨oy,items,n,(sb.2 y ne).trans hoy,hc,hdy,hi⟩
theorem qkmz{h:Heap}{a:Addr}{o:Obj}{es es':Array (Int×Value)}{ep:Nat}{t t':SetTable}(ho:h.get? a=some o)(hd:o.data=.set es ep t):
  (h.update a (Obj.putSet es' t')).get? a=some { o with data:=.set es' (ep+1) t' }:=by
 have q:=Heap.get?_update_self (Obj.putSet es' t') ho (by rw[putSet_of es' t' hd];rfl);rw[putSet_of es' t' hd] at q;exact q
theorem quxz:∀n,n<8->5≤n->SetTable.sizeAbove (SetTable.grown n)=32:=by decide +kernel
theorem quyz:∀n,n<32->19≤n->SetTable.sizeAbove (SetTable.grown n)=128:=by decide +kernel
theorem quzz{t:SetTable}{hs:List Int}(T:TabR t hs)(hf:t.tooFull=true)(h64:hs.length≤64):∃m,SetTable.sizeAbove (SetTable.grown hs.length)=m+1/\Masky m/\hs.length*5<m*3/\m+1≤128:=by
 have hfill:t.fill=hs.length:=by
  unfold SetTable.fill;rw[T.size,T.nodum];rfl
 have h':hs.length*5≥t.mask*3:=by
  unfold SetTable.tooFull at hf;rw[hfill] at hf;simpa using hf
 have hfit:=T.fit;rcases T.mask with e|e|e
 ·rw[e] at h' hfit;exact⟨31,quxz _ (by lia) (by lia),.inr (.inl rfl),by lia,by lia⟩
 ·rw[e] at h' hfit;exact⟨127,quyz _ (by lia) (by lia),.inr (.inr rfl),by lia,by lia⟩
 ·rw[e] at h';lia
theorem qu0z{α β:Type}(f:α->β)(l:List α)(o:List Nat):(o.filterMap fun k=>(l.map f)[k]?)=(o.filterMap fun k=>l[k]?).map f:=by
 rw[List.map_filterMap];congr 1;funext k;rw[List.getElem?_map]
theorem qu1z{a:Addr}{o:Obj}{es:Array (Int×Value)}{ep:Nat}{t:SetTable}{xs:List (List Int×Addr)}(S:SetAt prog w s.heap a o es ep t xs)(T:TabR t (es.toList.map (·.1)))(hf:t.tooFull=true)(h64:es.size≤64)
  {Q:Unit->Shared->Prop} (h:∀h' xs',Heap.SameBut a s.heap h'->SetOn prog w h' a xs'->xs'.Perm xs->Q () { s with heap:=h' }):
  wpAny (model prog w) A (setRelay a (SetTable.grown es.size)) Q E s:=by
 have hsz:(es.toList.map (·.1)).length=es.size:=qc7z
 obtain⟨m,hm1,hm2,hm3,hm4⟩:=quzz T hf (by rw[hsz];exact h64)
 rw[hsz] at hm1 hm3
 unfold setRelay
 refine wpAny_bind (wpAny_setState_of S.at_ S.dat (qb7z T) ?_)
 dsimp only
 rw[hm1,if_neg (by rw[sizeLine_eq];lia)]
 obtain⟨t2,order,e2,em,el,ep2,ef,hperm,T2⟩:=qurz (finger:=t.finger) (moves:=t.movedTo m) (led:=t.led) (plain:=t.plain) hm2 (es.map (·.1)) (by simpa using hm3)
 have erel:t.relaid (es.map (·.1)) (SetTable.grown es.size)=some (t2,order):=by
  unfold SetTable.relaid
  rw[hm1,Nat.add_sub_cancel]
  exact e2
 have hosz:(es.map (·.1)).size=es.size:=by simp
 rw[hosz] at hperm
 have hes2:(order.filterMap (es[·]?)).toList=(order.toList.filterMap fun k=>xs[k]?).map (ent prog w):=by
  rw[Array.toList_filterMap,←qu0z,←S.ents]
  congr 1
  funext k
  rw[Array.getElem?_toList]
 have hxl:xs.length=es.size:=by
  have:=congrArg List.length S.ents
  simpa using this.symm
 have hxp:(order.toList.filterMap fun k=>xs[k]?).Perm xs:=by
  have:=hperm.filterMap fun k=>xs[k]?
  rw[←hxl,qghz] at this
  exact this
 have hsz2:(order.filterMap (es[·]?)).size=es.size:=by
  have:=congrArg List.length hes2
  simp only[List.length_map] at this
  rw[hxp.length_eq,hxl] at this
  rw[←Array.length_toList]
  exact this
 refine wpAny_bind ?_
 show wpAny _ _ (do
  let some (t,order):=t.relaid (es.map (·.1)) (SetTable.grown es.size)|unsupported "internal:set-table-without-room"
  let es':=order.filterMap (es[·]?)
  if es'.size != es.size then unsupported "internal:set-table-lost-an-element"
  pure (es',t)) _ _ _
 rw[erel]
 dsimp only
 rw[hsz2,if_neg (by simp)]
 refine wpAny_pure ?_
 dsimp only
 refine wpAny_storeSet_of S.at_ S.dat ?_ (by rw[hsz2,sizeLine_eq];lia)
 have sb:=Heap.SameBut.update s.heap a (Obj.putSet (order.filterMap (es[·]?)) t2)
 refine h _ _ sb ⟨_,_,_,_,⟨qkmz S.at_ S.dat,⟨S.ex.1,S.ex.2.1,S.ex.2.2⟩,rfl,hes2,fun p hp=>qevz S.at_ S.dat sb (S.keys p (hxp.mem_iff.mp hp)),?_,ep2.trans S.plain,el.trans S.led⟩,?_⟩ hxp
 ·exact (hxp.map _).nodup_iff.mpr S.nd
 ·have eT:(order.filterMap (es[·]?)).toList.map (·.1)=order.toList.filterMap fun k=>(es.map (·.1))[k]?:=by
   rw[Array.toList_filterMap,List.map_filterMap]
   congr 1
   funext k
   simp
  rw[eT]
  exact T2
theorem qu2z{a:Addr}{xs:List (List Int×Addr)}(S:SetOn prog w s.heap a xs)(h64:xs.length<64)(hu:A.units<cLine){ks:List Int}{x:Addr}(hx:IsK prog w s.heap ks x)
  {Q:Bool->Shared->Prop} (h:∀b h' tk xs',s.toks≤tk->Heap.SameBut a s.heap h'->SetOn prog w h' a xs'->(ks∈xs.map (·.1)->xs'.Perm xs)->(ks∉xs.map (·.1)->xs'.Perm ((ks,x)::xs))->Q b { s with heap:=h',toks:=tk }):
  wpAny (model prog w) A (setAdd a (.ref x)) Q E s:=by
 obtain⟨o,es,ep,t,S,T⟩:=S;have hxl:xs.length=es.size:=by
  have:=congrArg List.length S.ents;simpa using this.symm
 unfold setAdd;refine wpAny_holding (wpAny_bind (wpAny_pyHash_tuple hu hx ?_));unfold setAddHashed;refine wpAny_holding ?_;have hend:∀b h' xs',Heap.SameBut a s.heap h'->SetOn prog w h' a xs'->(ks∈xs.map (·.1)->xs'.Perm xs)->(ks∉xs.map (·.1)->xs'.Perm ((ks,x)::xs))->Q b { s with heap:=h',toks:=s.toks+(ks.length+1)}:=
  fun b h' xs' q1 q2 q3 q4=>h b h' _ xs' (Nat.le_add_right _ _) q1 q2 q3 q4
 obtain⟨ke,hke,hemp,hliv⟩:=qunz T (hk prog w ks);unfold setAddHashedIn;refine wpAny_bind (wpAny_setState_of (s:={ s with toks:=s.toks+(ks.length+1)}) S.at_ S.dat (qb7z (Tab.r T)) ?_);dsimp only;rw[show byScan (.ref x) es=false from rfl,if_neg Bool.false_ne_true];refine wpAny_bind ?_;unfold setSearch;refine qklz (s:={ s with toks:=s.toks+(ks.length+1)}) S T hu hx hke hemp hliv (fun hin=>?_) (fun hout=>?_) 100000 0 none rfl (Nat.zero_le _) (by rcases T.mask with e|e|e<;>rw[e] at hke<;>lia) fun k' i' p hk'=>absurd hk' (Nat.not_lt_zero _)
 ·dsimp only;exact wpAny_pure (hend false s.heap xs (.refl _ _) ⟨o,es,ep,t,S,T⟩ (fun _=>.refl _) fun z=>absurd hin z)
 ·dsimp only;refine wpAny_bind (wpAny_setState_of (s:={ s with toks:=s.toks+(ks.length+1)}) S.at_ S.dat (qb7z (Tab.r T)) ?_);dsimp only;rw[qupz T.nodum];dsimp only;rw[S.plain,if_pos rfl];refine wpAny_bind (quvz (s:={ s with toks:=s.toks+(ks.length+1)}) hx ?_);rw[if_pos rfl];have TR:=T.put hemp hliv;generalize hp:SetTable.below t.place (sq t.mask (hk prog w ks) ke).j=p at TR ⊢;have hes1:(SetTable.insertAt es p (hk prog w ks,Value.ref x)).toList=(xs.take p++(ks,x)::xs.drop p).map (ent prog w):=by
   rw[qb6z,S.ents,List.map_append,List.map_cons,List.map_take,List.map_drop];rfl
  have hhs:(SetTable.insertAt es p (hk prog w ks,Value.ref x)).toList.map (·.1)=(es.toList.map (·.1)).take p++hk prog w ks::(es.toList.map (·.1)).drop p:=by
   rw[qb6z,List.map_append,List.map_cons,List.map_take,List.map_drop]
  have hsz1:(SetTable.insertAt es p (hk prog w ks,Value.ref x)).size=es.size+1:=by
   rw[←Array.length_toList,qb6z,(qchz p es.toList _).length_eq,List.length_cons,Array.length_toList]
  rw[←hhs] at TR;refine wpAny_bind (wpAny_storeSet_of (s:={ s with toks:=s.toks+(ks.length+1)}) S.at_ S.dat ?_ (by rw[hsz1,sizeLine_eq];lia));have sb:=Heap.SameBut.update s.heap a (Obj.putSet (SetTable.insertAt es p (hk prog w ks,Value.ref x)) { t with place:=SetTable.insertAt t.place p (sq t.mask (hk prog w ks) ke).j,dummies:=#[],plain:=true });have hpx:(xs.take p++(ks,x)::xs.drop p).Perm ((ks,x)::xs):=qchz p xs _;have S1:SetAt prog w (s.heap.update a (Obj.putSet (SetTable.insertAt es p (hk prog w ks,Value.ref x)) { t with place:=SetTable.insertAt t.place p (sq t.mask (hk prog w ks) ke).j,dummies:=#[],plain:=true })) a { o with data:=.set (SetTable.insertAt es p (hk prog w ks,Value.ref x)) (ep+1) { t with place:=SetTable.insertAt t.place p (sq t.mask (hk prog w ks) ke).j,dummies:=#[],plain:=true }} (SetTable.insertAt es p (hk prog w ks,Value.ref x)) (ep+1)
    { t with place:=SetTable.insertAt t.place p (sq t.mask (hk prog w ks) ke).j,dummies:=#[],plain:=true } (xs.take p++(ks,x)::xs.drop p):=by
   refine⟨qkmz S.at_ S.dat,⟨S.ex.1,S.ex.2.1,S.ex.2.2⟩,rfl,hes1,fun q hq=>?_,?_,rfl,S.led⟩
   ·rcases List.mem_cons.mp (hpx.mem_iff.mp hq) with e|e
    ·rw[e];exact qevz S.at_ S.dat sb hx
    ·exact qevz S.at_ S.dat sb (S.keys q e)
   ·refine (hpx.map _).nodup_iff.mpr ?_;rw[List.map_cons,List.nodup_cons];exact⟨hout,S.nd⟩
  have TR':TabR { t with place:=SetTable.insertAt t.place p (sq t.mask (hk prog w ks) ke).j,dummies:=#[],plain:=true } ((SetTable.insertAt es p (hk prog w ks,Value.ref x)).toList.map (·.1)):=
   ⟨TR.mask,TR.size,TR.rise,TR.bound,TR.nodum,TR.fit,TR.reach⟩
  by_cases hfull:({ t with place:=SetTable.insertAt t.place p (sq t.mask (hk prog w ks) ke).j,dummies:=#[],plain:=true }:SetTable).tooFull=true
  ·rw[hfull,if_pos (by decide)];refine wpAny_bind ?_;rw[←hsz1];refine qu1z (s:={ s with heap:=s.heap.update a _,toks:=s.toks+(ks.length+1)}) S1 TR' hfull (by rw[hsz1];lia) fun h' xs' sb' S2 pm=>?_;exact wpAny_pure (hend true h' xs' (sb.trans sb') S2 (fun z=>absurd z hout) fun _=>pm.trans hpx)
  ·have hfull':({ t with place:=SetTable.insertAt t.place p (sq t.mask (hk prog w ks) ke).j,dummies:=#[],plain:=true }:SetTable).tooFull=false:=by simpa using hfull
   rw[hfull',if_neg (by decide)];exact wpAny_pure (hend true _ _ sb ⟨_,_,_,_,S1,TR'.tab hfull'⟩ (fun z=>absurd z hout) fun _=>hpx)
end
end SetM
namespace SetM
open PySem SetP
theorem slot_sit_next:Slot "set_iterator" "__next__" "set_iterator.__next__":=
 .of (owner:="set_iterator") (n:="__next__")
  (by rw[typeLookup_type,builtinLookup_eq_fast];kernel_rfl)
  (by decide +kernel) (by decide +kernel) (by decide +kernel)
  (by first|exact .inl (by decide +kernel)|exact .inr (by decide +kernel))
  (by rw[isSubtype_type];kernel_rfl)
theorem qknz:Slot "set_iterator" "__iter__" "set_iterator.__iter__":=
 .of (owner:="set_iterator") (n:="__iter__")
  (by rw[typeLookup_type,builtinLookup_eq_fast];kernel_rfl)
  (by decide +kernel) (by decide +kernel) (by decide +kernel)
  (by first|exact .inl (by decide +kernel)|exact .inr (by decide +kernel))
  (by rw[isSubtype_type];kernel_rfl)
theorem qkoz:entryFor table "set_iterator.__next__" = some Builtin.«set_iterator.__next__»:=entryFor_of_tree (by kernel_rfl)
theorem qu3z:entryFor table "set.__iter__" = some Builtin.«frozenset.__iter__»:=
 entryFor_alias (id':="frozenset.__iter__") (by rw[fastTable_eq_tree];kernel_rfl) (by decide +kernel) (by decide +kernel) (by rw[fastTable_eq_tree];kernel_rfl)
theorem qkpz:Manifest.owners.lookup (String.ofList ['r','o','t','a','r','e','t','i','_','t','e','s'].reverse)=some Manifest.sig_set_iterator:=by kernel_rfl
theorem qkqz(a:Value):argsOk "set_iterator.__next__" ⟨[a],[]⟩:=by
 unfold argsOk;rw[signature?_of (id:="set_iterator.__next__") (n:=['_','_','t','x','e','n','_','_']) (o:=['r','o','t','a','r','e','t','i','_','t','e','s']) (by kernel_rfl) qkpz]
 kernel_rfl
theorem qkrz{α:Type}(next:Nat->Nat):∀(fuel k:Nat) (left:List α) (out:Array α),left.length≤fuel->(pickOrder.go next fuel k left out).toList.Perm (out.toList++left)
 |0,k,left,out,h=>by
  have:left=[]:=List.length_eq_zero_iff.mp (by lia);subst this;show out.toList.Perm (out.toList++[]);rw[List.append_nil]
 |fuel+1,k,left,out,h=>by
  unfold pickOrder.go;cases hl:left[next k%left.length]? with
  |none=>
   have:left=[]:=by
    cases left with
    |nil=>rfl
    |cons a l=>
     have:=Nat.mod_lt (next k) (show 0<(a::l).length by simp)
     rw[List.getElem?_eq_getElem this] at hl;cases hl
   subst this;show out.toList.Perm (out.toList++[]);rw[List.append_nil]
  |some x=>
   have hlt:=(List.getElem?_eq_some_iff.mp hl).1;have ih:=qkrz next fuel (k+1) (left.eraseIdx (next k%left.length)) (out.push x) (by rw[List.length_eraseIdx];split<;>lia)
   refine ih.trans ?_;rw[Array.toList_push,List.append_assoc];refine List.Perm.append_left _ ?_;obtain⟨_,e⟩:=List.getElem?_eq_some_iff.mp hl;rw[←e,List.eraseIdx_eq_take_drop_succ];have q:=List.perm_middle (a:=left[next k%left.length]) (l₁:=left.take (next k%left.length)) (l₂:=left.drop (next k%left.length+1))
   rw[List.getElem_cons_drop,List.take_append_drop] at q;exact q.symm
theorem qu4z{α:Type}(next:Nat->Nat)(xs:Array α):(pickOrder next xs).toList.Perm xs.toList:=by
 have:=qkrz next xs.size 0 xs.toList #[] (by simp)
 unfold pickOrder;simpa using this
def byText(w:World):Bool:=w.params.followText "set-order"
def walkL(w:World)(a:Addr)(ep:Nat)(es:Array (Int×Value)):List (Int×Value):=if byText w then (pickOrder (w.params.setOrder a ep) es).toList else es.toList
theorem walkL_perm(w:World)(a:Addr)(ep:Nat)(es:Array (Int×Value)):(walkL w a ep es).Perm es.toList:=by
 unfold walkL;split
 ·exact qu4z _ _
 ·exact .refl _
def IsSit(h:Heap)(it a:Addr)(slot i n ep:Nat):Prop:=h.get? it=some { cls:=.type "set_iterator",data:=.fields #[rawInt slot,rawInt i,.ref a,rawInt n,rawInt ep]}
def SlotOk(w:World)(t:SetTable)(slot i:Nat):Prop:=byText w=true∨SetTable.below t.place slot=i
section
variable {prog:Program} {w:World} {A:Around} {E:Value->Shared->Prop} {s:Shared}
theorem qgiz{Q:Bool->Shared->Prop}(h:Q (byText w) s):wpAny (model prog w) A setsByText Q E s:=by
 unfold setsByText;exact wpAny_bind (wpAny_askSetting (wpAny_pure h))
theorem qu5z{a:Addr}{o:Obj}{es:Array (Int×Value)}{ep:Nat}{t:SetTable}{xs:List (List Int×Addr)}(S:SetAt prog w s.heap a o es ep t xs)(T:Tab t (es.toList.map (·.1)))
  {Q:Value->Shared->Prop} (h:Q (.ref s.heap.objs.size) { s with heap:=s.heap.push { cls:=.type "set_iterator",data:=.fields #[rawInt (0:Nat),rawInt (0:Nat),.ref a,rawInt es.size,rawInt ep]}}):
  wpAny (model prog w) A (pyIter (.ref a)) Q E s:=by
 have hT:s.TypeIs (.ref a) "set":=⟨o,S.at_,S.ex.1⟩;have hfit:=qb7z (Tab.r T);refine wpAny_pyIter_slot hT F.slot_set_iter (wpAny_call_entry F.slot_set_iter hT qu3z ?_ (F.args_set_iter_1 _));unfold Builtin.«frozenset.__iter__»;show wpAny _ _ (Builtin.Frozenset.slot0 "__iter__" ⟨[.ref a],[]⟩ >>= _) _ _ s;refine wpAny_bind (m:=Builtin.Frozenset.slot0 "__iter__" ⟨[.ref a],[]⟩) (wpAny_of_eq (a:=a) rfl ?_);unfold Builtin.Frozenset.sizeOf setEntries;refine wpAny_bind (wpAny_bind (wpAny_bind (wpAny_setState_of S.at_ S.dat hfit (wpAny_pure (wpAny_pure ?_)))));unfold setDrawn;refine wpAny_bind (wpAny_bind (wpAny_setState_of S.at_ S.dat hfit ?_));refine wpAny_bind (qgiz (wpAny_pure ?_));have hnd:(!byText w&&(!t.plain&&decide (es.size > 1)))=false:=by rw[S.plain];simp
 show wpAny _ _ (if (!byText w&&(!t.plain&&decide (es.size > 1)))=true then _ else _) _ _ s;rw[hnd,if_neg Bool.false_ne_true];refine wpAny_bind (wpAny_pure ?_);refine wpAny_bind (wpAny_setEpoch_of S.at_ S.dat hfit ?_);refine wpAny_bind ?_;unfold newFields;refine wpAny_newObj_type ?_;refine wpAny_pure ⟨_,rfl,"set_iterator",_,⟨_,Heap.get?_push_size _ rfl,rfl⟩,slot_sit_next.lookup,h⟩
theorem qksz{a:Addr}{o:Obj}{es:Array (Int×Value)}{ep:Nat}{t:SetTable}{xs:List (List Int×Addr)}(S:SetAt prog w s.heap a o es ep t xs)(T:Tab t (es.toList.map (·.1))){slot i:Nat}(hsl:SlotOk w t slot i)
  {Q:Option (Value×Nat)->Shared->Prop} (h1:∀p slot',(walkL w a ep es)[i]?=some p->SlotOk w t slot' (i+1)->Q (some (p.2,slot')) s) (h2:(walkL w a ep es)[i]?=none->Q none s):
  wpAny (model prog w) A (setNext a slot i ep) Q E s:=by
 have hfit:=qb7z (Tab.r T);have hsz:t.place.size=es.size:=by
  have:=T.size;rw[qc7z] at this;exact this
 unfold setNext;refine wpAny_bind (wpAny_setState_of S.at_ S.dat hfit ?_);dsimp only;refine wpAny_bind (qgiz ?_);unfold walkL at h1 h2;cases hbt:byText w with
 |true=>
  rw[hbt] at h1 h2;rw[if_pos rfl];simp only[if_true,Array.getElem?_toList] at h1 h2;rw[if_neg (by simp)];unfold setWalk;refine wpAny_bind (wpAny_bind (wpAny_setState_of S.at_ S.dat hfit ?_));dsimp only;refine wpAny_bind (qgiz ?_);rw[hbt,if_pos rfl];refine wpAny_bind (wpAny_askSetting (wpAny_pure ?_));refine wpAny_pure ?_;show Q (Option.map (fun e=>(e.snd,slot)) (pickOrder (w.params.setOrder a ep) es)[i]?) s;cases hp:(pickOrder (w.params.setOrder a ep) es)[i]? with
  |none=>exact h2 hp
  |some p=>exact h1 p slot hp (.inl hbt)
 |false=>
  rw[hbt] at h1 h2;rw[if_neg Bool.false_ne_true];simp only[Bool.false_eq_true,if_false,Array.getElem?_toList] at h1 h2;have hled:t.led=true:=by
   rw[S.led];show (!byText w)=true;rw[hbt];rfl
  have hb:SetTable.below t.place slot=i:=by
   rcases hsl with z|z
   ·rw[hbt] at z;cases z
   ·exact z
  have hnd:(!t.plain&&decide (es.size > 1))=false:=by rw[S.plain];simp
  show wpAny _ _ (if (!t.plain&&decide (es.size > 1))=true then _ else _) _ _ s;rw[hnd,if_neg Bool.false_ne_true];refine wpAny_bind ?_;show wpAny _ _ (if (!t.led && !es.isEmpty)=true then _ else _) _ _ s;rw[hled,if_neg (by simp)];refine wpAny_pure ?_;rw[hb];cases hp:es[i]? with
  |none=>
   refine wpAny_pure ?_;have hpl:t.place[i]?=none:=by
    have:=Array.getElem?_eq_none_iff.mp hp;exact Array.getElem?_eq_none_iff.mpr (by lia)
   exact h2 hp
  |some p=>
   have hil:=(Array.getElem?_eq_some_iff.mp hp).1;have hj:t.place[i]?=some (t.place[i]'(by lia)):=by simp[hsz,hil]
   rw[hj];obtain⟨ph,pv⟩:=p;refine wpAny_pure (h1 (ph,pv) _ hp (.inr ?_))
   -- the next place
   obtain⟨b0,b1,b2⟩:=qeuz (j:=t.place[i]'(by lia)+1) T.rise;refine Classical.byContradiction fun hne=>?_;by_cases hlt:SetTable.below t.place (t.place[i]'(by lia)+1)≤i
   ·have:=b2 i _ hlt hj;lia
   ·have hgt:i+1<SetTable.below t.place (t.place[i]'(by lia)+1):=by lia
    have hi1:i+1<t.place.size:=by lia
    have e1:t.place[i+1]?=some (t.place[i+1]):=by simp[hi1]
    have q:=b1 (i+1) _ hgt e1;have pw:=List.pairwise_iff_getElem.mp T.rise i (i+1) (by simp;lia) (by simpa using hi1) (Nat.lt_succ_self i);simp at pw;lia
theorem qgjz{it a:Addr}{slot i n ep:Nat}(hit:IsSit s.heap it a slot i n ep):s.TypeIs (.ref it) "set_iterator":=⟨_,hit,rfl⟩
theorem qktz{a it:Addr}{o:Obj}{es:Array (Int×Value)}{ep:Nat}{t:SetTable}{xs:List (List Int×Addr)}(S:SetAt prog w s.heap a o es ep t xs)(T:Tab t (es.toList.map (·.1))){slot i:Nat}(hit:IsSit s.heap it a slot i es.size ep)
  {P:PySem.Fin->Shared->Prop} (h:wpAny (model prog w) A (do
   match ←setNext a slot i ep with
   |some (x,next)=>
    setField (.ref it) 0 (rawInt next)
    setField (.ref it) 1 (rawInt ((i:Int)+1))
    ret x
   | none=>setField (.ref it) 2 .none;raiseNew (←newExc (.type "StopIteration") [])) P E s):
  wpAny (model prog w) A (Builtin.«set_iterator.__next__» ⟨[.ref it],[]⟩) P E s:=by
 have hfit:=qb7z (Tab.r T);unfold Builtin.«set_iterator.__next__»;refine wpAny_bind (m:=slotArgs "__next__" 0 ⟨[.ref it],[]⟩) (wpAny_of_eq (a:=(.ref it,[])) rfl ?_);refine wpAny_bind (wpAny_fieldsOf hit rfl ?_);dsimp only[rawInt];unfold setEntries;refine wpAny_bind (wpAny_bind (wpAny_setState_of S.at_ S.dat hfit (wpAny_pure ?_)));rw[if_neg (by simp)];exact h
theorem qu6z{a it:Addr}{o:Obj}{es:Array (Int×Value)}{ep:Nat}{t:SetTable}{xs:List (List Int×Addr)}(S:SetAt prog w s.heap a o es ep t xs)(T:Tab t (es.toList.map (·.1))){slot i:Nat}(hsl:SlotOk w t slot i)(hit:IsSit s.heap it a slot i es.size ep)
  {p:Int×Value} (hp:(walkL w a ep es)[i]?=some p) {Q:Option Value->Shared->Prop}
  (h:∀h' slot',IsSit h' it a slot' (i+1) es.size ep->SlotOk w t slot' (i+1)->Heap.SameBut it s.heap h'->Q (some p.2) { s with heap:=h' }):wpAny (model prog w) A (pyNext (.ref it)) Q E s:=by
 have hT:=qgjz hit;unfold pyNext;refine wpAny_bind (wpAny_attempt (wpAny_callSpecial?_slot (name:=Str.ofString "__next__") hT slot_sit_next
  (wpAny_call_entry slot_sit_next hT qkoz (qktz S T hit (wpAny_bind (qksz S T hsl (fun q slot' hq hs'=>?_) fun hn=>?_))) (qkqz _))))
 ·rw[hp] at hq;cases hq;dsimp only;refine wpAny_bind (wpAny_setField_rec hit (by simp) fun h1 e1 sb1=>?_);refine wpAny_bind (wpAny_setField_rec (s:={ s with heap:=h1 }) e1 (by simp) fun h2 e2 sb2=>?_)
  refine wpAny_pure ⟨_,rfl,wpAny_pure (h h2 slot' ?_ hs' (sb1.trans sb2))⟩;unfold IsSit;rw[e2];rfl
 ·rw[hp] at hn;cases hn
theorem qu7z{a it:Addr}{o:Obj}{es:Array (Int×Value)}{ep:Nat}{t:SetTable}{xs:List (List Int×Addr)}(hh:A.handled=none)(S:SetAt prog w s.heap a o es ep t xs)(T:Tab t (es.toList.map (·.1))){slot i:Nat}(hsl:SlotOk w t slot i)(hit:IsSit s.heap it a slot i es.size ep)
  (hp:(walkL w a ep es)[i]?=none) {Q:Option Value->Shared->Prop}
  (h:∀h',Heap.ExtBut it s.heap h'->Q none { s with heap:=h' }):wpAny (model prog w) A (pyNext (.ref it)) Q E s:=by
 have hT:=qgjz hit;unfold pyNext;refine wpAny_bind (wpAny_attempt (wpAny_callSpecial?_slot (name:=Str.ofString "__next__") hT slot_sit_next
  (wpAny_call_entry slot_sit_next hT qkoz (qktz S T hit (wpAny_bind (qksz S T hsl (fun q slot' hq hs'=>?_) fun hn=>?_))) (qkqz _))))
 ·rw[hp] at hq;cases hq
 ·dsimp only;refine wpAny_bind (wpAny_setField_rec hit (by simp) fun h1 e1 sb1=>?_);refine wpAny_bind ?_;simp only[newExc,newTuple];refine wpAny_bind (wpAny_newObj_type ?_ (by size_fits));refine wpAny_bind (m:=firstArgMember _ _) (wpAny_of_eq (a:=Value.none) (by first|rfl|(simp only[firstArgMember];rfl)) ?_)
  refine wpAny_newObj_type ?_ (by size_fits);simp only[raiseNew];refine wpAny_bind (wpAny_handled ?_);rw[show A.in1.handled=none from hh];refine wpAny_bind (wpAny_pure (wpAny_throw ?_));refine wpAny_bind (wpAny_isInstance (T:="StopIteration") (b:=true) ⟨_,Heap.get?_push_size _ rfl,rfl⟩ isSubtype_stop ?_);refine wpAny_pure (h _ fun b ob hb e=>?_);exact Heap.get?_push_of_some _ (Heap.get?_push_of_some _ ((sb1.2 b hb).trans e))
end
end SetM
namespace SetM
open PySem SetP
section
variable {prog:Program} {w:World} {A:Around} {E:Value->Shared->Prop} {s:Shared}
theorem SetAt.kept{h h':Heap}{a:Addr}{o:Obj}{es:Array (Int×Value)}{ep:Nat}{t:SetTable}{xs:List (List Int×Addr)}(S:SetAt prog w h a o es ep t xs)
  (k:∀b∈a::xs.map (·.2),∀ob,h.get? b=some ob->h'.get? b=some ob):SetAt prog w h' a o es ep t xs:=by
 refine⟨k a List.mem_cons_self _ S.at_,S.ex,S.dat,S.ents,fun p hp=>?_,S.nd,S.plain,S.led⟩;obtain⟨oy,items,n,ho,r⟩:=S.keys p hp;exact⟨oy,items,n,k _ (List.mem_cons_of_mem _ (List.mem_map.mpr ⟨p,hp,rfl⟩)) _ ho,r⟩
theorem SetAt.ne_sit{h:Heap}{a it:Addr}{o:Obj}{es:Array (Int×Value)}{ep ep':Nat}{t:SetTable}{xs:List (List Int×Addr)}{slot i n:Nat}{b:Addr}(S:SetAt prog w h a o es ep t xs)(hit:IsSit h it b slot i n ep'):
  ∀c∈a::xs.map (·.2),c≠it:=fun c hc e=>by
 subst e;unfold IsSit at hit;rcases List.mem_cons.mp hc with e|e
 ·rw[e,S.at_] at hit;cases hit;have:=S.dat;cases this
 ·obtain⟨p,hp,rfl⟩:=List.mem_map.mp e;obtain⟨oy,items,k,ho,hc,hd,_⟩:=S.keys p hp;rw[ho] at hit;cases hit;cases hd
theorem qu8z(hh:A.handled=none){a it:Addr}{o:Obj}{es:Array (Int×Value)}{ep:Nat}{t:SetTable}{xs:List (List Int×Addr)}(T:Tab t (es.toList.map (·.1))):
  Walks prog w A it (it::a::xs.map (·.2)) [it] es.size (fun i v=>∃p,(walkL w a ep es)[i]?=some p/\v=p.2)
   (fun i h=>∃slot,IsSit h it a slot i es.size ep/\SlotOk w t slot i/\SetAt prog w h a o es ep t xs) where
 sub:=fun b hb=>by
  have:b=it:=by simpa using hb
  simp[this]
 frame:=fun i h h' ⟨slot,h1,h2,h3⟩ k=>⟨slot,k it List.mem_cons_self _ h1,h2,h3.kept fun b hb ob e=>k b (List.mem_cons_of_mem _ hb) ob e⟩
 item:=fun i s Q E hi ⟨slot,h1,h2,h3⟩ hQ=>by
  have hlen:(walkL w a ep es).length=es.size:=by rw[(walkL_perm w a ep es).length_eq];simp
  have hp:(walkL w a ep es)[i]?=some ((walkL w a ep es)[i]'(by lia)):=List.getElem?_eq_getElem (by lia);refine qu6z h3 T h2 h1 hp fun h' slot' q1 q2 sb=>?_;refine hQ _ h' s.toks ⟨_,hp,rfl⟩ ⟨slot',q1,q2,h3.kept fun b hb ob e=>(sb.2 b (h3.ne_sit h1 b hb)).trans e⟩ fun b ob hb e=>?_;exact (sb.2 b (by simpa using hb)).trans e
 done:=fun s Q E ⟨slot,h1,h2,h3⟩ hQ=>by
  have hlen:(walkL w a ep es).length=es.size:=by rw[(walkL_perm w a ep es).length_eq];simp
  refine qu7z hh h3 T h2 h1 (List.getElem?_eq_none_iff.mpr (by lia)) fun h' q=>?_;exact hQ h' s.toks fun b ob hb e=>q b ob (by simpa using hb) e
 self:=fun i s Q E ⟨slot,h1,h2,h3⟩ h=>by
  have hT:=qgjz h1;refine wpAny_pyIter_slot hT qknz (wpAny_call_entry qknz hT (b:=Builtin.«dict_keyiterator.__iter__») ?_ ?_ ?_)
  ·exact entryFor_alias (id':="dict_keyiterator.__iter__") (by kernel_rfl) (by decide +kernel) (by decide +kernel) (by kernel_rfl)
  ·show wpAny _ _ (ret (.ref it)) _ _ s;exact wpAny_pure ⟨_,rfl,"set_iterator",_,hT,slot_sit_next.lookup,h⟩
  ·unfold argsOk;rw[signature?_of (id:="set_iterator.__iter__") (n:=['_','_','r','e','t','i','_','_']) (o:=['r','o','t','a','r','e','t','i','_','t','e','s']) (by kernel_rfl) qkpz]
   kernel_rfl
theorem wp_collect_set(hh:A.handled=none){a:Addr}{o:Obj}{es:Array (Int×Value)}{ep:Nat}{t:SetTable}{xs:List (List Int×Addr)}(S:SetAt prog w s.heap a o es ep t xs)(T:Tab t (es.toList.map (·.1)))(h64:es.size≤64)
  {Q:List Value->Shared->Prop} (h:∀s',Moved [] (fun x y=>y=x) s s'->Q ((walkL w a ep es).map (·.2)) s'):wpAny (model prog w) A (collect (.ref a)) Q E s:=by
 have hT:s.TypeIs (.ref a) "set":=⟨o,S.at_,S.ex.1⟩;have hal:a<s.heap.objs.size:=Heap.lt_size S.at_;unfold collect;refine wpAny_bind (wpAny_runValue (codeAny_builtin F.entry_proto_collect ?_));rw[Around.under_plainId F.plain_proto_collect _];show wpAny _ A.in1 (newList [] >>= fun q=>again (.builtin "list.__iadd__" ⟨[q,.ref a],[]⟩)) _ _ s;refine wpAny_bind (wpAny_newObj_type ?_);refine wpAny_pure ⟨plainId_quiet F.plain_list_iadd _,codeAny_builtin F.entry_list_iadd ?_⟩;rw[Around.under_plainId F.plain_list_iadd _];show wpAny _ A.in1 (Builtin.List.listExtendWith (.ref s.heap.objs.size) (.ref a) (.ref s.heap.objs.size)) _ _ _;unfold Builtin.List.listExtendWith;have S1:SetAt prog w (s.heap.push { cls:=.type "list",data:=.seq ([]:List Value).toArray }) a o es ep t xs:=S.kept fun b _ ob e=>Heap.get?_push_of_some _ e;have hT1:Shared.TypeIs { s with heap:=s.heap.push { cls:=.type "list",data:=.seq ([]:List Value).toArray }} (.ref a) "set":=⟨o,S1.at_,S.ex.1⟩;refine wpAny_bind (wpAny_typeOf hT1 ?_);have ne:s.heap.objs.size≠a:=Nat.ne_of_gt hal;have e1:Builtin.List.listSameRef (.ref s.heap.objs.size) (.ref a)=false:=by simp[Builtin.List.listSameRef,ne]
 rw[if_neg (by rw[e1];decide)];refine wpAny_bind (qu5z (s:={ s with heap:=s.heap.push { cls:=.type "list",data:=.seq ([]:List Value).toArray }}) S1 T ?_);have S2:=S1.kept (h':=(s.heap.push { cls:=.type "list",data:=.seq ([]:List Value).toArray }).push { cls:=.type "set_iterator",data:=.fields #[rawInt (0:Nat),rawInt (0:Nat),.ref a,rawInt es.size,rawInt ep]}) fun b _ ob e=>Heap.get?_push_of_some _ e;have hit:IsSit ((s.heap.push { cls:=.type "list",data:=.seq ([]:List Value).toArray }).push { cls:=.type "set_iterator",data:=.fields #[rawInt (0:Nat),rawInt (0:Nat),.ref a,rawInt es.size,rawInt ep]})
   (s.heap.push { cls:=.type "list",data:=.seq ([]:List Value).toArray }).objs.size a 0 0 es.size ep:=Heap.get?_push_size _ rfl
 have hS0:((s.heap.push { cls:=.type "list",data:=.seq ([]:List Value).toArray }).push { cls:=.type "set_iterator",data:=.fields #[rawInt (0:Nat),rawInt (0:Nat),.ref a,rawInt es.size,rawInt ep]}).get? s.heap.objs.size
   = some { cls:=.type "list",data:=.seq ([]:List Value).toArray }:=Heap.get?_push_of_some _ (Heap.get?_push_size _ rfl)
 have keep0:∀b ob,s.heap.get? b=some ob->((s.heap.push { cls:=.type "list",data:=.seq ([]:List Value).toArray }).push { cls:=.type "set_iterator",data:=.fields #[rawInt (0:Nat),rawInt (0:Nat),.ref a,rawInt es.size,rawInt ep]}).get? b=some ob:=
  fun b ob e=>Heap.get?_push_of_some _ (Heap.get?_push_of_some _ e)
 have hI:(s.heap.push { cls:=.type "list",data:=.seq ([]:List Value).toArray }).objs.size=s.heap.objs.size+1:=Heap.size_push ..;generalize (s.heap.push { cls:=.type "list",data:=.seq ([]:List Value).toArray }).objs.size=it at hI hit ⊢;generalize ((s.heap.push { cls:=.type "list",data:=.seq ([]:List Value).toArray }).push { cls:=.type "set_iterator",data:=.fields #[rawInt (0:Nat),rawInt (0:Nat),.ref a,rawInt es.size,rawInt ep]})=hp at S2 hit hS0 keep0 ⊢;refine wpAny_bind (wpAny_holding ?_);have hT2:Shared.TypeIs { s with heap:=hp } (.ref a) "set":=⟨o,S2.at_,S.ex.1⟩;unfold Builtin.List.listLengthHint;refine wpAny_bind (wpAny_specialOf hT2 F.slot_set_len.lookup ?_);generalize hid:("set.__len__":String)=id0;dsimp only;rw[show splitId id0=some ("set","__len__") from by subst hid;decide +kernel];subst hid;dsimp only;refine wpAny_bind (wpAny_isInstance (b:=true) hT2 (by rw[isSubtype_type];kernel_rfl) ?_)
 rw[if_neg (by decide)];show wpAny _ A.in1 (typeOf (.ref a) >>= _) _ _ _;refine wpAny_bind (wpAny_typeOf hT2 (wpAny_pure ?_));show wpAny _ A.in1 (rule "list.extend.makes-room" >>= fun _=>Builtin.List.listTouch (.ref s.heap.objs.size) >>= fun _=>again (.builtin "list.extend.loop" ⟨[.ref s.heap.objs.size,.ref it,.ref s.heap.objs.size],[]⟩)) _ _ _;refine wpAny_bind (wpAny_rule (wpAny_bind ?_));show wpAny _ A.in1 (updateSeq s.heap.objs.size (·.push .none) >>= fun _=>updateSeq s.heap.objs.size (·.pop)) _ _ _;refine wpAny_bind (wpAny_updateSeq (s:={ s with heap:=hp }) hS0 rfl ?_);have q1:=Heap.get?_update_self (Obj.mapSeq (·.push Value.none)) hS0 rfl;refine wpAny_updateSeq (s:={ s with heap:=hp.update s.heap.objs.size (Obj.mapSeq (·.push Value.none))}) q1 rfl ?_;have q2:=Heap.get?_update_self (Obj.mapSeq (·.pop)) q1 rfl;have oth:∀b ob,b≠s.heap.objs.size->hp.get? b=some ob->((hp.update s.heap.objs.size (Obj.mapSeq (·.push Value.none))).update s.heap.objs.size (Obj.mapSeq (·.pop))).get? b=some ob:=
  fun b ob hb e=>(Heap.get?_update_other _ _ (Ne.symm hb)).trans ((Heap.get?_update_other _ _ (Ne.symm hb)).trans e)
 have q3:∃c,((hp.update s.heap.objs.size (Obj.mapSeq (·.push Value.none))).update s.heap.objs.size (Obj.mapSeq (·.pop))).get? s.heap.objs.size=some { cls:=.type "list",dict:=none,data:=.seq #[] c,slots:=#[]}:=⟨_,q2⟩;clear q2;generalize (hp.update s.heap.objs.size (Obj.mapSeq (·.push Value.none))).update s.heap.objs.size (Obj.mapSeq (·.pop))=hp2 at q3 oth ⊢;obtain⟨c0,q2⟩:=q3;have hfp:∀b∈it::a::xs.map (·.2),b≠s.heap.objs.size:=fun b hb e=>by
  rcases List.mem_cons.mp hb with z|z
  ·lia
  ·have hlt:b<s.heap.objs.size:=by
    rcases List.mem_cons.mp z with z|z
    ·rw[z];exact hal
    ·obtain⟨p,hp',rfl⟩:=List.mem_map.mp z;obtain⟨oy,_,_,ho,_⟩:=S.keys p hp';exact Heap.lt_size ho
   lia
 have W:=(qu8z (prog:=prog) (w:=w) (A:=A.in1) (by simpa using hh) (it:=it) (a:=a) (o:=o) (ep:=ep) (xs:=xs) T).toS;refine wpAny_pure ⟨plainId_quiet F.plain_extend_loop _,codeAny_extend_loopS W (by rw[sizeLine_eq];lia) _ (fun hm=>hfp _ hm rfl) _ es.size 0 _ _ _ rfl (Nat.zero_le _) ?_ q2 (ItemsOf.nil _) fun s' acc' c' hm hS' hacc=>?_⟩
 ·refine⟨0,oth _ _ (hfp _ List.mem_cons_self) hit,?_,S2.kept fun b hb ob e=>oth b ob (hfp b (List.mem_cons_of_mem _ hb)) e⟩;by_cases hb:byText w=true
  ·exact .inl hb
  ·refine .inr ?_;obtain⟨b0,b1,b2⟩:=qeuz (j:=0) T.rise;refine Classical.byContradiction fun hne=>?_;have hpos:0<SetTable.below t.place 0:=by lia
   have h0:0<t.place.size:=by lia
   have:=b1 0 (t.place[0]) hpos (by simp[h0]);lia
 ·show wpAny _ A (load s.heap.objs.size >>= _) _ _ s';refine wpAny_bind (wpAny_load hS' ?_);refine wpAny_pure ?_;have hlen:(walkL w a ep es).length=es.size:=by rw[(walkL_perm w a ep es).length_eq];simp
  have eacc:acc'.toList=(walkL w a ep es).map (·.2):=by
   refine List.ext_getElem? fun i=>?_;rw[List.getElem?_map,Array.getElem?_toList];cases ha:acc'[i]? with
   |none=>
    have h1:=Array.getElem?_eq_none_iff.mp ha;rw[hacc.1] at h1;rw[List.getElem?_eq_none_iff.mpr (by lia)];rfl
   |some v=>
    obtain⟨p,e1,e2⟩:=hacc.2 i v ha;rw[e1,e2];rfl
  show Q acc'.toList s';rw[eacc];refine h s' ⟨fun b ob _ e=>?_,hm.gens,hm.drawn,hm.os,?_⟩
  ·have hlt:=Heap.lt_size e;refine hm.heap b ob ?_ (oth b ob (Nat.ne_of_lt hlt) (keep0 b ob e));intro z;rcases List.mem_cons.mp z with z|z
   ·rw[z] at hlt;exact Nat.lt_irrefl _ hlt
   ·have:b=it:=by simpa using z
    rw[this,hI] at hlt;exact Nat.lt_irrefl _ (Nat.lt_of_succ_lt hlt)
  ·exact hm.toks
end
end SetM
namespace SetM
open PySem SetP
section
variable {prog:Program} {w:World} {A:Around} {E:Value->Shared->Prop} {s:Shared}
def freshSet(w:World):Obj:={ cls:=.type "set",dict:=none,data:=.set #[] 0 (.fresh 0 0 (!(byText w)))}
theorem qu9z(a:Value){Q₁:Value->Shared->Prop}(h:Q₁ (.ref s.heap.objs.size) { s with heap:=s.heap.push (freshSet w)}):
  codeAny (model prog w) A (.call (.builtin "set.__new__") ⟨[.type "set",a],[]⟩) (wants Q₁ E) s:=by
 refine codeAny_of_tree ?_;show wpAny _ A.in1 (checkBuiltinCall "set.__new__" ⟨[.type "set",a],[]⟩ >>= fun _=>again (.builtin "set.__new__" ⟨[.type "set",a],[]⟩)) _ _ s;refine wpAny_bind (wpAny_of_eq (F.newCall_set_1 a) (wpAny_pure ⟨plainId_quiet F.plain_set_new _,codeAny_builtin F.entry_set_new ?_⟩));rw[Around.under_plainId F.plain_set_new _];unfold Builtin.«set.__new__» Builtin.Frozenset.newClass;have hsub:=sub_set_self;obtain⟨hp,g,d,tk,os⟩:=s;dsimp only;wp_walk;refine wpAny_askSetting (wpAny_pure ?_);dsimp only;simp only[newObj];refine wpAny_bind (wpAny_alloc (wpAny_pure ?_));exact wpAny_pure h
theorem qvaz(led:Bool):Tab (SetTable.fresh 0 0 led) []:=
 ⟨.inl rfl,rfl,List.Pairwise.nil,(fun j hj=>(nomatch hj)),rfl,(by show 0*5<7*3;decide),(fun j h hj=>(nomatch hj))⟩
structure Ded(ps xs:List (List Int×Addr)):Prop where
 sub:∀p∈xs,p∈ps
 all:∀p∈ps,p.1∈xs.map (·.1)
 len:xs.length≤ps.length
theorem Ded.add{ps xs xs':List (List Int×Addr)}{p:List Int×Addr}(d:Ded ps xs)(h1:p.1∈xs.map (·.1)->xs'.Perm xs)(h2:p.1∉xs.map (·.1)->xs'.Perm (p::xs)):Ded (ps++[p]) xs':=by
 by_cases hm:p.1∈xs.map (·.1)
 ·have pm:=h1 hm;refine⟨fun q hq=>List.mem_append_left _ (d.sub q (pm.mem_iff.mp hq)),fun q hq=>?_,?_⟩
  ·rw[(pm.map _).mem_iff];rcases List.mem_append.mp hq with hq|hq
   ·exact d.all q hq
   ·have:q=p:=by simpa using hq
    rw[this];exact hm
  ·rw[pm.length_eq,List.length_append];have:=d.len;lia
 ·have pm:=h2 hm;refine⟨fun q hq=>?_,fun q hq=>?_,?_⟩
  ·rcases List.mem_cons.mp (pm.mem_iff.mp hq) with e|e
   ·exact List.mem_append_right _ (by simp[e])
   ·exact List.mem_append_left _ (d.sub q e)
  ·rw[(pm.map _).mem_iff,List.map_cons];rcases List.mem_append.mp hq with hq|hq
   ·exact List.mem_cons_of_mem _ (d.all q hq)
   ·have:q=p:=by simpa using hq
    rw[this];exact List.mem_cons_self
  ·rw[pm.length_eq,List.length_append,List.length_cons,List.length_singleton];have:=d.len;lia
theorem qvbz{I:Addr}{fp:List Addr}{n:Nat}{P:Nat->Value->Prop}{St:Nat->Heap->Prop}(W:Walks prog w A.in1 I fp [I] n P St)(S:Addr)(hSf:S∉fp)(ps:List (List Int×Addr))(hps:ps.length=n)(hn:n≤60)
  (hu:A.in1.units<cLine) (hval:∀(i:Nat) v,P i v->∃p,ps[i]?=some p/\v=.ref p.2) (hpf:∀p∈ps,p.2≠I/\p.2≠S) {R:Result->Shared->Prop}:
  ∀(k i:Nat) (s:Shared) (xs:List (List Int×Addr)),n-i=k->i≤n->St i s.heap->SetOn prog w s.heap S xs->Ded (ps.take i) xs->(∀p∈ps,IsK prog w s.heap p.1 p.2) ->
   (∀h' tk xs',(∀b ob,b≠S->b≠I->s.heap.get? b=some ob->h'.get? b=some ob)->SetOn prog w h' S xs'->Ded ps xs'->R (.ok (.ret .none)) { s with heap:=h',toks:=tk }) ->
   codeAny (model prog w) A (.builtin "set.update.loop" ⟨[.ref S,.ref I],[]⟩) R s:=by
 have hSI:S≠I:=fun e=>hSf (W.sub _ (by rw[e];simp));have on_kept:∀{h h':Heap} {xs:List (List Int×Addr)},SetOn prog w h S xs->(∀p∈xs,p∈ps)->(∀b ob,b≠I->h.get? b=some ob->h'.get? b=some ob)->SetOn prog w h' S xs:=fun {h h' xs} ⟨o,es,ep,t,q,T⟩ sub kp=>
  ⟨o,es,ep,t,q.kept fun b hb ob e=>kp b ob (by
   rcases List.mem_cons.mp hb with z|z
   ·rw[z];exact hSI
   ·obtain⟨p,hp,rfl⟩:=List.mem_map.mp z;exact (hpf p (sub p hp)).1) e,T⟩
 intro k
 induction k with
 |zero=>
  intro i s xs hk hi hst hS hd hkeys hR;have hin:i=n:=by lia
  subst hin;refine codeAny_builtin PyProof.Rows.F.entry_set_update_loop ?_;rw[Around.under_plainId PyProof.Rows.F.plain_set_update_loop _];show wpAny _ A.in1 (pyNext (.ref I) >>= _) _ _ s;refine wpAny_bind (W.done s _ _ hst fun h' tk kp=>?_);show wpAny _ A.in1 (ret Value.none) _ _ _;have hd':Ded ps xs:=by
   rw[←hps,List.take_length] at hd;exact hd
  exact wpAny_pure (hR h' tk xs (fun b ob _ hb e=>kp b ob (by simpa using hb) e) (on_kept hS hd'.sub fun b ob hb e=>kp b ob (by simpa using hb) e) hd')
 |succ k ih=>
  intro i s xs hk hi hst hS hd hkeys hR;have hlt:i<n:=by lia
  refine codeAny_builtin PyProof.Rows.F.entry_set_update_loop ?_;rw[Around.under_plainId PyProof.Rows.F.plain_set_update_loop _];show wpAny _ A.in1 (pyNext (.ref I) >>= _) _ _ s;refine wpAny_bind (W.item i s _ _ hlt hst fun v h1 tk1 hP hst1 kp1=>?_);obtain⟨p,hp,rfl⟩:=hval i v hP;have hpm:p∈ps:=List.mem_of_getElem? hp;have kp1':∀b ob,b≠I->s.heap.get? b=some ob->h1.get? b=some ob:=fun b ob hb e=>kp1 b ob (by simpa using hb) e;have key1:∀q∈ps,IsK prog w h1 q.1 q.2:=fun q hq=>by
   obtain⟨oy,items,m,ho,r⟩:=hkeys q hq;exact⟨oy,items,m,kp1' _ _ (hpf q hq).1 ho,r⟩
  have sub0:∀q∈xs,q∈ps:=fun q hq=>List.mem_of_mem_take (hd.sub q hq);have hS1:=on_kept hS sub0 kp1';show wpAny _ A.in1 (holding [Value.ref p.2] (setAdd S (.ref p.2)) >>= _) _ _ _;have hlen:xs.length<64:=by
   have h1:=hd.len;rw[List.length_take] at h1;lia
  refine wpAny_bind (wpAny_holding (qu2z (s:={ s with heap:=h1,toks:=tk1 }) hS1 hlen hu (key1 p hpm) fun b h2 tk2 xs2 _ sb hS2 q1 q2=>?_));have hd2:Ded (ps.take (i+1)) xs2:=by
   rw[List.take_add_one,hp];exact hd.add q1 q2
  obtain⟨oS,_,_,_,SS,_⟩:=hS1;refine wpAny_pure ⟨plainId_quiet PyProof.Rows.F.plain_set_update_loop _,ih (i+1) _ xs2 (by lia) hlt (W.frame _ _ _ hst1 fun c hc ob e=>(sb.2 c (fun z=>hSf (z▸hc))).trans e) hS2 hd2 (fun q hq=>qevz SS.at_ SS.dat sb (key1 q hq)) fun h' tk xs' kp' a1 a2=>?_⟩;exact hR h' tk xs' (fun c ob c1 c2 e=>kp' c ob c1 c2 ((sb.2 c c1).trans (kp1' c ob c2 e))) a1 a2
set_option maxHeartbeats 6400000 in
theorem call_set_tups{l:Addr}{vs:List Value}{ps:List (List Int×Addr)}{Q:Value->Shared->Prop}(hh:A.handled=none)(hl:s.heap.IsList l vs.toArray)(hv:vs=ps.map fun p=>Value.ref p.2)(hk:∀p∈ps,IsK prog w s.heap p.1 p.2)(hn:ps.length≤60)
  (hu:A.units+4<cLine)
  (h:∀h' tk xs,(∀b ob,s.heap.get? b=some ob->h'.get? b=some ob)->SetOn prog w h' s.heap.objs.size xs->Ded ps xs->Q (.ref s.heap.objs.size) { s with heap:=h',toks:=tk }):
  wpAny (model prog w) A (call (.type "set") [.ref l]) Q E s:=by
 obtain⟨c,tl,hmro⟩:=F.called_set.mro;have hmade:=F.called_set.made;have hsub:=F.called_set.sub;refine wpAny_call (codeAny_of_tree ?_);show wpAny _ _ (callAny (.type "set") _) _ _ _;refine wpAny_pure ⟨Code.quiet_builtin _ (by decide +kernel),codeAny_builtin F.entry_type_call ?_⟩;rw[Around.under_plain (weight_type_call_type "set" [.ref l] []) rfl];have h1:=F.called_set.notType;have h2:=F.called_set.canCreate;have hct:=F.typeCall_set_1 (.ref l)
 repeat (any_goals (first|assumption|wp_step))
 refine codeAny_mono (qu9z (.ref l) (E:=E) (Q₁:=fun obj s₁=>obj=.ref s.heap.objs.size/\s₁={ s with heap:=s.heap.push (freshSet w)}) ⟨rfl,rfl⟩) fun r s₁ hr=>?_;cases r with
 |error e=>exact hr
 |ok fl=>
  cases fl with
  |ret obj=>
   obtain⟨rfl,rfl⟩:=hr;have hS:(s.heap.push (freshSet w)).get? s.heap.objs.size=some (freshSet w):=Heap.get?_push_size _ rfl;have hT:Shared.TypeIs { s with heap:=s.heap.push (freshSet w)} (.ref s.heap.objs.size) "set":=⟨_,hS,rfl⟩;have hli:=F.called_set.init.lookup;have hbi:=F.called_set.init.bind (.ref s.heap.objs.size)
   repeat (any_goals (first|assumption|wp_step))
   refine codeAny_mono (codeAny_call_builtin (R:=wants (fun r s₂=>r=.none/\∃h' tk xs,s₂={ s with heap:=h',toks:=tk }/\(∀b ob,s.heap.get? b=some ob->h'.get? b=some ob)/\SetOn prog w h' s.heap.objs.size xs/\Ded ps xs) E)
    F.called_set.init.plain F.entry_set_init (check_set_init_1 hT ?_)) fun r₂ s₂ hr₂=>?_
   ·obtain⟨ol,hol,hcl,nl,hdl⟩:=hl;obtain⟨ocls,odict,odata,oslots⟩:=ol;simp only at hcl hdl;subst hcl;subst hdl;have hol':(s.heap.push (freshSet w)).get? l=some { cls:=.type "list",dict:=odict,data:=.seq vs.toArray nl,slots:=oslots }:=Heap.get?_push_of_some _ hol;have hsls:=F.sub_list_set;have hslf:=F.sub_list_frozenset;have hne:(Value.type "list" == Value.type "dict")=false:=by decide
    have hl1:(s.heap.push (freshSet w)).IsList l vs.toArray:=⟨_,hol',rfl,nl,rfl⟩;have hS2:(s.heap.push (freshSet w)).get? s.heap.objs.size=some { cls:=.type "set",dict:=none,data:=.set #[] 0 (.fresh 0 0 (!(byText w)))}:=hS;unfold Builtin.«set.__init__» noKeywords Builtin.Frozenset.updateFrom;generalize hPI:pyIter=PI;wp_walk;subst hPI;refine wpAny_pyIter_list hl1 ?_;refine wpAny_bind (wpAny_runValue ?_);have hlS:l<s.heap.objs.size:=Heap.lt_size hol;have hh3:A.in1.in1.in1.handled=none:=by simp[hh]
    have hu3:A.in1.in1.in1.units<cLine:=by
     show A.units+1+1+1<cLine;lia
    have hsz:(s.heap.push (freshSet w)).objs.size=s.heap.objs.size+1:=Heap.size_push ..;have hneI:l≠(s.heap.push (freshSet w)).objs.size:=by
     rw[hsz];exact Nat.ne_of_lt (Nat.lt_succ_of_lt hlS)
    have hSf:s.heap.objs.size∉[(s.heap.push (freshSet w)).objs.size,l]:=by
     rw[hsz];intro z;rcases List.mem_cons.mp z with z|z
     ·exact absurd z (Nat.ne_of_lt (Nat.lt_succ_self _))
     ·have:s.heap.objs.size=l:=by simpa using z
      exact absurd this (Nat.ne_of_gt hlS)
    have hlen:vs.toArray.size=ps.length:=by rw[hv];simp
    refine qvbz (Walks.list hh3 _ l hneI vs.toArray) s.heap.objs.size hSf ps hlen.symm (by rw[hlen];exact hn) hu3 (fun i v e=>?_) (fun p hp=>?_) (vs.toArray.size-0) 0 _ [] rfl (Nat.zero_le _)
     ⟨⟨_,Heap.get?_push_size _ rfl,rfl,rfl⟩,hl1.push _⟩ ?hS0 ⟨(fun p hp=>(nomatch hp)),(fun p hp=>by rw[List.take_zero] at hp;cases hp),Nat.zero_le _⟩ (fun p hp=>?_) ?hR
    case hS0=>
     refine⟨_,#[],0,_,⟨Heap.get?_push_of_some _ hS2,⟨rfl,rfl,rfl⟩,rfl,rfl,(fun p hp=>(nomatch hp)),List.nodup_nil,rfl,rfl⟩,qvaz _⟩
    case hR=>
     intro h' tk xs q1 q2 q3;refine wpAny_pure ?_;show wpAny _ _ (ret Value.none) _ _ _;refine wpAny_pure ⟨rfl,h',tk,xs,rfl,fun b ob e=>?_,q2,q3⟩;have hb:=Heap.lt_size e;refine q1 b ob (Nat.ne_of_lt hb) ?_ (Heap.get?_push_of_some _ (Heap.get?_push_of_some _ e));rw[hsz];exact Nat.ne_of_lt (Nat.lt_succ_of_lt hb)
    ·rw[hv,List.getElem?_toArray,List.getElem?_map] at e;cases hp:ps[i]? with
     |none=>rw[hp] at e;cases e
     |some p=>rw[hp] at e;exact⟨p,rfl,(Option.some.inj e).symm⟩
    ·obtain⟨oy,_,_,ho,_⟩:=hk p hp;have hb:=Heap.lt_size ho;rw[hsz];exact⟨Nat.ne_of_lt (Nat.lt_succ_of_lt hb),Nat.ne_of_lt hb⟩
    ·obtain⟨oy,items,m,ho,r⟩:=hk p hp;exact⟨oy,items,m,Heap.get?_push_of_some _ (Heap.get?_push_of_some _ ho),r⟩
   ·cases r₂ with
    |error e=>exact hr₂
    |ok fl₂=>
     cases fl₂ with
     |ret r=>
      obtain⟨rfl,h',tk,xs,rfl,q1,q2,q3⟩:=hr₂
      repeat (any_goals (first|assumption|wp_step))
      exact h _ _ _ q1 q2 q3
     |_=>exact hr₂.elim
  |_=>exact hr.elim
end
end SetM
namespace SortV
open PySem PySem.W PyProof.Rows SetM KasS
def lx:List Int->List Int->Bool
 |[],[]=>false
 |[],_::_=>true
 |_::_,[]=>false
 |x::xs,y::ys=>if x=y then lx xs ys else decide (x<y)
theorem qkuz:∀{x y:List Int},lx x y=true->lx y x=false
 |[],[],h=>by cases h
 |[],_::_,_=>rfl
 |_::_,[],h=>by cases h
 |x::xs,y::ys,h=>by
  unfold lx at h ⊢;by_cases e:x=y
  ·rw[if_pos e] at h;rw[if_pos e.symm];exact qkuz h
  ·rw[if_neg e] at h;rw[if_neg (Ne.symm e)];have:=of_decide_eq_true h;exact decide_eq_false (by lia)
theorem qkvz:∀{a b c:List Int},lx b a=false->lx c b=false->lx c a=false
 |[],b,[],_,_=>rfl
 |[],[],c::cs,_,h=>h
 |[],b::bs,c::cs,h,_=>rfl
 |a::as,[],c,h,_=>by cases h
 |a::as,b::bs,[],_,h=>by cases h
 |a::as,b::bs,c::cs,h1,h2=>by
  unfold lx at h1 h2 ⊢;by_cases e1:b=a
  ·rw[if_pos e1] at h1;by_cases e2:c=b
   ·rw[if_pos e2] at h2;rw[if_pos (e2.trans e1)];exact qkvz h1 h2
   ·rw[if_neg e2] at h2;have:=of_decide_eq_false h2;by_cases e3:c=a
    ·lia
    ·rw[if_neg e3];exact decide_eq_false (by lia)
  ·rw[if_neg e1] at h1;have:=of_decide_eq_false h1;by_cases e2:c=b
   ·rw[if_neg (by lia)];exact decide_eq_false (by lia)
   ·rw[if_neg e2] at h2;have:=of_decide_eq_false h2;by_cases e3:c=a
    ·lia
    ·rw[if_neg e3];exact decide_eq_false (by lia)
section
variable {prog:Program} {w:World} {A:Around} {E:Value->Shared->Prop} {s:Shared}
theorem qvcz{Q:Bool->Shared->Prop}:∀(xs ys:List Int) (us vs:List Value) (i:Nat) (fin:Bool),ItemsAre (intKind prog w) xs us->ItemsAre (intKind prog w) ys vs ->
  (fin=decide (us.length<vs.length)∨∃n m,fin=decide (n+us.length<n+vs.length)/\m=n)->Q (lx xs ys) s->KatLex prog w A true fin Q (us.zip vs) i s:=by
 intro xs
 induction xs with
 |nil=>
  intro ys us vs i fin h1 h2 hf h;cases h1;cases h2 with
  |nil=>
   have:fin=false:=by
    rcases hf with hf|⟨n,m,hf,_⟩<;>simp at hf<;>exact hf
   rw[this];exact kat_nil h
  |cons h3 h4=>
   have:fin=true:=by
    rcases hf with hf|⟨n,m,hf,_⟩<;>rw[hf]<;>simp
   rw[this];exact kat_nil h
 |cons x xs ih=>
  intro ys us vs i fin h1 h2 hf h;cases h1 with
  |cons h1 h1'=>
  cases h2 with
  |nil=>
   have:fin=false:=by
    rcases hf with hf|⟨n,m,hf,_⟩<;>rw[hf]<;>simp
   rw[this];exact kat_nil h
  |cons h3 h4=>
   obtain⟨t,rfl⟩:=Value.isInt_shape h1;obtain⟨t',rfl⟩:=Value.isInt_shape h3;refine kat_cons (wpAny_eqBool_int ?_);unfold lx at h;rename_i _ y ys _;by_cases e:x=y
   ·rw[if_pos e] at h;have:(x==y)=true:=by simpa using e
    rw[this];refine kat_yes (ih ys _ _ (i+1) fin h1' h4 (.inr ?_) h);rcases hf with hf|⟨n,m,hf,_⟩
    ·exact⟨1,1,by rw[hf];simp[Nat.add_comm],rfl⟩
    ·exact⟨n+1,n+1,by rw[hf];congr 1;simp only[List.length_cons];apply propext;lia,rfl⟩
   ·rw[if_neg e] at h;have:(x==y)=false:=by simpa using e
    rw[this];refine kat_no ?_;by_cases hi:i=0
    ·subst hi;exact oneLt_int h
    ·have hb:(true&&i==0)=false:=by simp[hi]
     rw[hb];exact kat_one _ _ (lt_int h)
theorem qvdz{Q:Bool->Shared->Prop}{x y:List Int}{a b:Addr}(hx:IsK prog w s.heap x a)(hy:IsK prog w s.heap y b)(h:Q (lx x y) s):wpAny (model prog w) A (keyLt' (tuples' true) (.ref a) (.ref b)) Q E s:=by
 obtain⟨o,its,n,ho,_,hd,hi⟩:=hx;obtain⟨o',its',n',ho',_,hd',hi'⟩:=hy;exact kat_lt ho hd ho' hd' (qvcz x y its.toList its'.toList 0 _ hi hi' (.inl (by simp)) h)
def plt(ps:List (List Int×Addr))(i j:Nat):Bool:=lx ((ps.getD i ([],0)).1) ((ps.getD j ([],0)).1)
theorem qvez(ps:List (List Int×Addr))(n:Nat):Ord n (plt ps):=⟨fun a b _ _ h=>qkuz h,fun a b c _ _ _ h1 h2=>qkvz h1 h2⟩
def cmpP(n:Nat)(lt:Nat->Nat->Bool)(i j:Nat)(C:Bool->Shared->Prop)(s:Shared):Prop:=i<n/\j<n/\C (lt i j) s
theorem conv{α:Type}{n:Nat}{lt:Nat->Nat->Bool}{κ:SortKind}{vs:List Value}{Q:α->Shared->Prop}(ha:∀i j,i<n->j<n->∀C:Bool->Shared->Prop,C (lt i j) s->kas_ask prog w A κ vs i j C s):
  ∀t:KasT α,t.kasWp (cmpP n lt) Q s->t.kasWp (kas_ask prog w A κ vs) Q s
 |.ret a,h=>h
 |.ask i j k,h=>by
  obtain⟨h1,h2,h3⟩:=h;exact ha i j h1 h2 _ (conv ha (k (lt i j)) h3)
theorem qgkz{ps:List (List Int×Addr)}{i:Nat}(hi:i<ps.length):(ps.map fun p=>Value.ref p.2).getD i Value.none=.ref (ps.getD i ([],0)).2:=by
 simp[List.getD,hi]
theorem getD_mem{ps:List (List Int×Addr)}{i:Nat}(hi:i<ps.length):ps.getD i ([],0)∈ps:=by
 simp[List.getD,hi]
theorem qvfz{ps:List (List Int×Addr)}(hk:∀p∈ps,IsK prog w s.heap p.1 p.2):∀i j,i<ps.length->j<ps.length->∀C:Bool->Shared->Prop,C (plt ps i j) s->kas_ask prog w A (tuples' true) (ps.map fun p=>Value.ref p.2) i j C s:=fun i j hi hj C h=>by
 unfold kas_ask;rw[qgkz hi,qgkz hj];exact qvdz (hk _ (getD_mem hi)) (hk _ (getD_mem hj)) h
theorem qkwz{h:Heap}:∀{ps:List (List Int×Addr)},(∀p∈ps,IsK prog w h p.1 p.2/\p.1≠[])->∃fs,KatTups h (ps.map fun p=>Value.ref p.2) fs/\fs.length=ps.length/\∀v∈fs,∃i t,v=.int i t
 |[],_=>⟨[],.nil,rfl,fun v hv=>nomatch hv⟩
 |p::ps,hk=>by
  obtain⟨fs,h1,h2,h3⟩:=qkwz (ps:=ps) fun q hq=>hk q (List.mem_cons_of_mem _ hq);obtain⟨⟨o,its,n,ho,hc,hd,hi⟩,hne⟩:=hk p List.mem_cons_self;obtain⟨ks,a⟩:=p;cases ks with
  |nil=>exact absurd rfl hne
  |cons k ks=>
   obtain⟨its⟩:=its;cases hi with
   |cons h4 h5=>
    rename_i v vs;obtain⟨t,e⟩:=Value.isInt_shape h4;refine⟨v::fs,KatTups.cons ho hc hd (by simp) h1,by simp[h2],fun u hu=>?_⟩;rcases List.mem_cons.mp hu with q|q
    ·exact⟨k,t,q.trans e⟩
    ·exact h3 u q
theorem qvgz{ps:List (List Int×Addr)}(hne:ps≠[])(hk:∀p∈ps,IsK prog w s.heap p.1 p.2/\p.1≠[]){Q:SortKind->Shared->Prop}(h:Q (tuples' true) s):wpAny (model prog w) A (keyKind' (ps.map fun p=>Value.ref p.2).toArray) Q E s:=by
 obtain⟨fs,h1,h2,h3⟩:=qkwz hk;have hl:0<fs.length:=by
  rw[h2];exact List.length_pos_iff.mpr hne
 refine kat_kind (T:=.type "int") h1 hl (fun v hv=>?_) rfl h;obtain⟨i,t,rfl⟩:=h3 v hv;exact .now
structure Srt(ps qs:List (List Int×Addr)):Prop where
 perm:qs.Perm ps
 rise:qs.Pairwise fun x y=>lx y.1 x.1=false
theorem qvhz{ps:List (List Int×Addr)}{p:Array Nat}(v:Va ps.length p)(S:So (plt ps) p ps.length):Srt ps (p.toList.map fun i=>ps.getD i ([],0)):=by
 refine⟨?_,?_⟩
 ·refine (v.perm.map _).trans ?_;have:(List.range ps.length).map (fun i=>ps.getD i ([],0))=ps:=by
   refine List.ext_getElem? fun i=>?_;by_cases hi:i<ps.length
   ·simp[List.getElem?_map,List.getElem?_range hi,List.getD,hi]
   ·rw[List.getElem?_eq_none_iff.mpr (by simpa using hi),List.getElem?_eq_none_iff.mpr (by lia)]
  rw[this]
 ·rw[List.pairwise_map,List.pairwise_iff_getElem];intro i j hi hj hij;have hs:=v.size;have h1:i<ps.length:=by rw[←hs];simpa using hi
  have h2:j<ps.length:=by rw[←hs];simpa using hj
  have e1:p.toList[i]=g p i:=by
   have:=v.get h1;simp[g,Array.getD,hs,h1]
  have e2:p.toList[j]=g p j:=by simp[g,Array.getD,hs,h2]
  rw[e1,e2];exact S i j (Nat.le_of_lt hij) h2
theorem qviz{ps:List (List Int×Addr)}{p:Array Nat}(v:Va ps.length p):(p.toList.map fun i=>(ps.map fun q=>Value.ref q.2).getD i Value.none)=(p.toList.map fun i=>ps.getD i ([],0)).map fun q=>Value.ref q.2:=by
 rw[List.map_map];refine List.map_congr_left fun i hi=>?_;have:i<ps.length:=by
  have:=v.perm.mem_iff.mp hi;simpa using this
 exact qgkz this
theorem qvjz{h h':Heap}{ks:List Int}{a b:Addr}{its:Array Value}{n:Nat}(hb:h.get? b=some (seqObj "list" its n))(keep:∀c o,c≠b->h.get? c=some o->h'.get? c=some o)(hk:IsK prog w h ks a):IsK prog w h' ks a:=by
 obtain⟨o,it,m,ho,hc,hd,hi⟩:=hk;refine⟨o,it,m,keep a o (fun e=>?_) ho,hc,hd,hi⟩;rw[e,hb] at ho;cases ho;injection hc with hc
 exact absurd hc (by decide)
theorem qvkz{a:Addr}{n:Nat}{ps:List (List Int×Addr)}{P:PySem.Fin->Shared->Prop}(ho:s.heap.get? a=some (seqObj "list" (ps.map fun p=>Value.ref p.2).toArray n))(hk:∀p∈ps,IsK prog w s.heap p.1 p.2/\p.1≠[])(h2:2≤ps.length)(h64:ps.length<64)
  (h:∀qs h' c,Srt ps qs->h'.get? a=some (seqObj "list" (qs.map fun p=>Value.ref p.2).toArray c)->(∀b o,b≠a->s.heap.get? b=some o->h'.get? b=some o)->P (.done (.ret .none)) { s with heap:=h' }):
  wpAny (model prog w) A (Builtin.«list.sort» ⟨[.ref a],[]⟩) P E s:=by
 have ha:a<s.heap.objs.size:=Heap.lt_size ho;have s1:=Heap.SameBut.update s.heap a (Obj.mapSeq fun _=>(#[]:Array Value));obtain⟨e1,ho1⟩:∃e1,(s.heap.update a (Obj.mapSeq fun _=>(#[]:Array Value))).get? a=some (seqObj "list" #[] e1):=⟨_,get?_update_seq ho fun _=>#[]⟩;generalize hvs:(ps.map fun p=>Value.ref p.2)=vs at ho;have hlen:vs.length=ps.length:=by rw[←hvs,List.length_map]
 have hu3:∀b o,b≠a->s.heap.get? b=some o->(((s.heap.update a (Obj.mapSeq fun _=>(#[]:Array Value))).push (seqObj "tuple" vs.toArray 0)).push (seqObj "list" #[] 0)).get? b=some o:=fun b o hb e=>
  Heap.get?_push_of_some _ (Heap.get?_push_of_some _ ((s1.2 b hb).trans e))
 have ho3:(((s.heap.update a (Obj.mapSeq fun _=>(#[]:Array Value))).push (seqObj "tuple" vs.toArray 0)).push (seqObj "list" #[] 0)).get? a=some (seqObj "list" #[] e1):=Heap.get?_push_of_some _ (Heap.get?_push_of_some _ ho1);rw[list_sort_plain];refine wpAny_bind (listItems_at ho rfl ?_);refine wpAny_bind (listUpdate_at ho rfl ?_ (by rw[List.size_toArray,sizeLine_eq];lia) (Nat.zero_le _));refine wpAny_bind (seqEpoch_at ho1 rfl ?_);refine wpAny_bind (wpAny_newTuple ?_ (by show vs.length≤_;rw[sizeLine_eq];lia));refine wpAny_bind (wpAny_newList ?_ (Nat.zero_le _));refine wpAny_holding ?_;show wpAny (model prog w) A _ P E { s with heap:=((s.heap.update a (Obj.mapSeq fun _=>(#[]:Array Value))).push (seqObj "tuple" vs.toArray 0)).push (seqObj "list" #[] 0)};generalize ((s.heap.update a (Obj.mapSeq fun _=>(#[]:Array Value))).push (seqObj "tuple" vs.toArray 0)).push (seqObj "list" #[] 0)=h3 at hu3 ho3 ⊢;have hk3:∀p∈ps,IsK prog w h3 p.1 p.2/\p.1≠[]:=fun p hp=>⟨qvjz ho hu3 (hk p hp).1,(hk p hp).2⟩;dsimp only;have hn2:¬vs.toArray.size<2:=by rw[List.size_toArray];lia
 rw[if_neg hn2,if_neg hn2];have hne:ps≠[]:=fun z=>by rw[z] at h2;simp at h2
 refine wpAny_bind ?_;rw[←hvs];refine qvgz (s:={ s with heap:=h3 }) hne hk3 ?_;have hsort:(kas_sort vs.length).kasWp (kas_ask prog w A (tuples' true) (ps.map fun p=>Value.ref p.2)) (fun p s'=>s'={ s with heap:=h3 }/\Va ps.length p/\So (plt ps) p ps.length) { s with heap:=h3 }:=by
  refine conv (lt:=plt ps) (n:=ps.length) (qvfz (s:={ s with heap:=h3 }) fun p hp=>(hk3 p hp).1) _ ?_
  rw[hlen];exact quiz (qvez ps ps.length) (fun i j hi hj C s' hC=>⟨hi,hj,hC⟩) (by lia) fun p v S=>⟨rfl,v,S⟩
 have hsort:(kas_sort (ps.map fun p=>Value.ref p.2).length).kasWp (kas_ask prog w A (tuples' true) (ps.map fun p=>Value.ref p.2)) (fun p s'=>s'={ s with heap:=h3 }/\Va ps.length p/\So (plt ps) p ps.length) { s with heap:=h3 }:=by
  rw[hlen] at hsort;rw[List.length_map];exact hsort
 refine wpAny_bind (wpAny_mono (kat_run (Q:=fun st' s'=>∃p:Array Nat,p.size=(ps.map fun p=>Value.ref p.2).length/\arrOf st'=p.map (kas_item ((ps.map fun p=>Value.ref p.2).toArray.zip (ps.map fun p=>Value.ref p.2).toArray))/\failedOf st'=none/\s'={ s with heap:=h3 }/\Va ps.length p/\So (plt ps) p ps.length)
  rfl (by rw[List.length_map];exact h2) (by rw[List.length_map];exact h64) (fun p' st' s' a1 a2 a3 a4=>⟨p',a1,a2,a3,a4⟩) hsort) ?_ fun _ _ e=>e)
 rintro⟨⟨⟩,st'⟩ s' ⟨p,hp,har,hf,rfl,va,so⟩;dsimp only;have hout:=kat_snds rfl har;rw[qviz va] at hout;have hS:=qvhz va so;generalize (p.toList.map fun i=>ps.getD i ([],0))=qs at hout hS;have hsz:(List.toArray (qs.map fun q=>Value.ref q.2)).size=ps.length:=by rw[List.size_toArray,List.length_map,hS.perm.length_eq]
 rw[hout];have s2:=Heap.SameBut.update h3 a (Obj.mapSeq fun _=>List.toArray (qs.map fun q=>Value.ref q.2));obtain⟨c2,hc2⟩:∃c2,(h3.update a (Obj.mapSeq fun _=>List.toArray (qs.map fun q=>Value.ref q.2))).get? a=some (seqObj "list" (List.toArray (qs.map fun q=>Value.ref q.2)) c2):=⟨_,get?_update_seq ho3 fun _=>List.toArray (qs.map fun q=>Value.ref q.2)⟩;refine wpAny_bind (seqEpoch_at ho3 rfl ?_);refine wpAny_bind (listUpdate_at ho3 rfl ?_ (Nat.zero_le _) (Nat.le_trans (Nat.le_of_eq hsz) (by rw[sizeLine_eq];lia)));rw[hf];simp only[bne_self_eq_false,Bool.false_eq_true,if_false];exact wpAny_pure (h qs _ c2 hS hc2 fun b o hb e=>(s2.2 b hb).trans (hu3 b o hb e))
theorem qvlz{a:Addr}{n:Nat}{vs:List Value}{P:PySem.Fin->Shared->Prop}(ho:s.heap.get? a=some (seqObj "list" vs.toArray n))(h2:vs.length<2)
  (h:∀h' c,h'.get? a=some (seqObj "list" vs.toArray c)->(∀b o,b≠a->s.heap.get? b=some o->h'.get? b=some o)->P (.done (.ret .none)) { s with heap:=h' }):
  wpAny (model prog w) A (Builtin.«list.sort» ⟨[.ref a],[]⟩) P E s:=by
 have s1:=Heap.SameBut.update s.heap a (Obj.mapSeq fun _=>(#[]:Array Value));obtain⟨e1,ho1⟩:∃e1,(s.heap.update a (Obj.mapSeq fun _=>(#[]:Array Value))).get? a=some (seqObj "list" #[] e1):=⟨_,get?_update_seq ho fun _=>#[]⟩;have hu3:∀b o,b≠a->s.heap.get? b=some o->(((s.heap.update a (Obj.mapSeq fun _=>(#[]:Array Value))).push (seqObj "tuple" vs.toArray 0)).push (seqObj "list" #[] 0)).get? b=some o:=fun b o hb e=>
  Heap.get?_push_of_some _ (Heap.get?_push_of_some _ ((s1.2 b hb).trans e))
 have ho3:(((s.heap.update a (Obj.mapSeq fun _=>(#[]:Array Value))).push (seqObj "tuple" vs.toArray 0)).push (seqObj "list" #[] 0)).get? a=some (seqObj "list" #[] e1):=Heap.get?_push_of_some _ (Heap.get?_push_of_some _ ho1);rw[list_sort_plain];refine wpAny_bind (listItems_at ho rfl ?_);refine wpAny_bind (listUpdate_at ho rfl ?_ (by rw[List.size_toArray,sizeLine_eq];lia) (Nat.zero_le _));refine wpAny_bind (seqEpoch_at ho1 rfl ?_);refine wpAny_bind (wpAny_newTuple ?_ (by show vs.length≤_;rw[sizeLine_eq];lia));refine wpAny_bind (wpAny_newList ?_ (Nat.zero_le _));refine wpAny_holding ?_;show wpAny (model prog w) A _ P E { s with heap:=((s.heap.update a (Obj.mapSeq fun _=>(#[]:Array Value))).push (seqObj "tuple" vs.toArray 0)).push (seqObj "list" #[] 0)};generalize ((s.heap.update a (Obj.mapSeq fun _=>(#[]:Array Value))).push (seqObj "tuple" vs.toArray 0)).push (seqObj "list" #[] 0)=h3 at hu3 ho3 ⊢;dsimp only;have hn2:vs.toArray.size<2:=by rw[List.size_toArray];lia
 rw[if_pos hn2,if_pos hn2];refine wpAny_bind (wpAny_pure ?_);rw[StateT.run_pure];refine wpAny_bind (wpAny_pure ?_);dsimp only;have hout:(arrOf (SortSt.mk' general' (vs.toArray.zip vs.toArray) #[] 7 none)).map (·.2)=vs.toArray:=by
  show (vs.toArray.zip vs.toArray).map (·.2)=vs.toArray;refine Array.ext (by simp) fun i h1 h2=>?_;simp
 rw[hout];have s2:=Heap.SameBut.update h3 a (Obj.mapSeq fun _=>vs.toArray);obtain⟨c2,hc2⟩:∃c2,(h3.update a (Obj.mapSeq fun _=>vs.toArray)).get? a=some (seqObj "list" vs.toArray c2):=⟨_,get?_update_seq ho3 fun _=>vs.toArray⟩;refine wpAny_bind (seqEpoch_at ho3 rfl ?_);refine wpAny_bind (listUpdate_at ho3 rfl ?_ (Nat.zero_le _) (by rw[List.size_toArray,sizeLine_eq];lia));simp only[bne_self_eq_false,Bool.false_eq_true,if_false];exact wpAny_pure (h _ c2 hc2 fun b o hb e=>(s2.2 b hb).trans (hu3 b o hb e))
theorem qvmz{h h':Heap}{ks:List Int}{a:Addr}(keep:∀c o,h.get? c=some o->h'.get? c=some o)(hk:IsK prog w h ks a):IsK prog w h' ks a:=by
 obtain⟨o,it,m,ho,r⟩:=hk;exact⟨o,it,m,keep a o ho,r⟩
theorem sorted_of{l:Addr}{ps:List (List Int×Addr)}{Q:Value->Shared->Prop}(hk:∀p∈ps,IsK prog w s.heap p.1 p.2/\p.1≠[])(h64:ps.length<64)
  (hcol:∀(R:List Value->Shared->Prop),(∀s',Moved [] (fun x y=>y=x) s s'->R (ps.map fun p=>Value.ref p.2) s')->wpAny (model prog w) A.in1 (collect (.ref l)) R E s)
  (h:∀qs s' c D,Srt ps qs->s.heap.get? D=none->s'.heap.get? D=some (seqObj "list" (qs.map fun p=>Value.ref p.2).toArray c)->Moved [] (fun x y=>y=x) s s'->Q (.ref D) s'):
  wpAny (model prog w) A (call (.builtin "sorted") [.ref l]) Q E s:=by
 refine Calls.call_function_entry kind_sorted plain_sorted entry_sorted (args_sorted1 _) ?_;unfold Builtin.«sorted»;refine wpAny_bind (m:=checkCount "sorted" 1 1 _) (wpAny_pure ?_);refine wpAny_bind (hcol _ fun s1 hm=>?_);refine wpAny_bind (wpAny_newList ?_ (by rw[List.length_map,sizeLine_eq];lia));have hoL:(s1.heap.push (seqObj "list" (ps.map fun p=>Value.ref p.2).toArray 0)).get? s1.heap.objs.size=some (seqObj "list" (ps.map fun p=>Value.ref p.2).toArray 0):=Heap.get?_push_size _ rfl;have keep0:∀b o,s.heap.get? b=some o->s1.heap.get? b=some o:=fun b o e=>hm.heap b o (fun z=>nomatch z) e;have hfr:s.heap.get? s1.heap.objs.size=none:=by
  cases hz:s.heap.get? s1.heap.objs.size with
  |none=>rfl
  |some o=>exact absurd (Heap.lt_size (keep0 _ _ hz)) (Nat.lt_irrefl _)
 have keep:∀b o,s.heap.get? b=some o->(s1.heap.push (seqObj "list" (ps.map fun p=>Value.ref p.2).toArray 0)).get? b=some o:=fun b o e=>Heap.get?_push_of_some _ (keep0 b o e);show wpAny _ _ _ _ _ { s1 with heap:=s1.heap.push (seqObj "list" (ps.map fun p=>Value.ref p.2).toArray 0)};refine wpAny_bind (wpAny_holding (wpAny_call_entry slot_list_sort ⟨_,hoL,rfl⟩ entry_list_sort ?body (args_list_sort _)));have fin:∀qs h' c,Srt ps qs->h'.get? s1.heap.objs.size=some (seqObj "list" (qs.map fun p=>Value.ref p.2).toArray c)->(∀b o,b≠s1.heap.objs.size->(s1.heap.push (seqObj "list" (ps.map fun p=>Value.ref p.2).toArray 0)).get? b=some o->h'.get? b=some o)->Q (.ref s1.heap.objs.size) { s1 with heap:=h' }:=fun qs h' c hS e kk=>
  h qs _ c _ hS hfr e ⟨fun b o _ e1=>kk b o (Nat.ne_of_lt (Heap.lt_size (keep0 b o e1))) (keep b o e1),hm.gens,hm.drawn,hm.os,hm.toks⟩
 case body=>
  by_cases h2:2≤ps.length
  ·refine qvkz (s:={ s1 with heap:=s1.heap.push (seqObj "list" (ps.map fun p=>Value.ref p.2).toArray 0)}) hoL (fun p hp=>⟨qvmz keep (hk p hp).1,(hk p hp).2⟩) h2 h64 fun qs h' c hS e kk=>?_;exact⟨_,rfl,wpAny_pure ⟨_,rfl,fin qs h' c hS e kk⟩⟩
  ·refine qvlz (s:={ s1 with heap:=s1.heap.push (seqObj "list" (ps.map fun p=>Value.ref p.2).toArray 0)}) hoL (by rw[List.length_map];lia) fun h' c e kk=>?_;have hS:Srt ps ps:=⟨.refl _,by
    rcases ps with _|⟨x,_|⟨y,r⟩⟩
    ·exact .nil
    ·exact List.pairwise_singleton _ _
    ·simp at h2⟩
   exact⟨_,rfl,wpAny_pure ⟨_,rfl,fin ps h' c hS e kk⟩⟩
end
end SortV
namespace L3
open PySem PySem.Spec PyProof.Rows L2
structure Kit(T:String):Prop where
 non:∀K,PySem.W.kitOne K (.type "NoneType") (.type T)=some false
 bl:∀K,PySem.W.kitOne K (.type "bool") (.type T)=some (T=="bool" || T=="int")
 int:∀K,PySem.W.kitOne K (.type "int") (.type T)=some (T=="int")
 str:∀K,PySem.W.kitOne K (.type "str") (.type T)=some (T=="str")
 tup:∀K,PySem.W.kitOne K (.type "tuple") (.type T)=some (T=="tuple")
 lst:∀K,PySem.W.kitOne K (.type "list") (.type T)=some (T=="list")
 dct:∀K,PySem.W.kitOne K (.type "dict") (.type T)=some (T=="dict")
theorem qvnz:Kit "int":=⟨fun _=>rfl,fun _=>rfl,fun _=>rfl,fun _=>rfl,fun _=>rfl,fun _=>rfl,fun _=>rfl⟩
theorem qvoz:Kit "bool":=⟨fun _=>rfl,fun _=>rfl,fun _=>rfl,fun _=>rfl,fun _=>rfl,fun _=>rfl,fun _=>rfl⟩
theorem kit_tuple:Kit "tuple":=⟨fun _=>rfl,fun _=>rfl,fun _=>rfl,fun _=>rfl,fun _=>rfl,fun _=>rfl,fun _=>rfl⟩
theorem qvpz:Kit "list":=⟨fun _=>rfl,fun _=>rfl,fun _=>rfl,fun _=>rfl,fun _=>rfl,fun _=>rfl,fun _=>rfl⟩
section
variable {X:Cx} {a e:Expr} {es:List Expr} {ta:TE3} {t:TA3} {pos p p2:Pos}
theorem qvqz{T:String}(k:Kit T):CallR X (.builtin "isinstance") (fun vs H Q=>∃d v G b,vs=[v,.ty T]/\Hv X.K H d v/\RepG X.K G H/\instD T G d=some b/\Q (.bl b) H):=by
 intro pins s σ H vs us Q I r h;obtain⟨d,v,G,b,rfl,hd,RG,hb,q⟩:=h;obtain⟨u,c,rfl,ru,rc⟩:=vals2 r;cases (show c=Value.type T from rc);have fin:∀tk,EP X pins σ Q (.bool b) { s with toks:=tk }:=fun tk=>⟨.bl b,H,I.tok tk,rfl,q⟩
 cases d with
 |non=>
  unfold Hv at hd;subst hd;cases (show u=Value.none from ru);cases hb;exact PySem.W.kia_one PySem.W.kitx_none I.kIn True.intro (k.non _) (fun z=>nomatch z) fin
 |bl y=>
  rw[qc4z hd] at ru;cases (show u=Value.bool y from ru);cases hb;exact PySem.W.kia_one PySem.W.kitx_bool I.kIn True.intro (k.bl _) (fun z=>nomatch z) fin
 |int y=>
  rw[qzz hd] at ru;obtain⟨t,rfl⟩:=(show ∃t,u=Value.int y t from ru);cases hb;exact PySem.W.kia_one PySem.W.kitx_int I.kIn True.intro (k.int _) (fun z=>nomatch z) fin
 |str y=>
  unfold Hv at hd;subst hd;obtain⟨t,rfl⟩:=(show ∃t,u=Value.str y t from ru);cases hb;exact PySem.W.kia_one PySem.W.kitx_str I.kIn True.intro (k.str _) (fun z=>nomatch z) fin
 |tup ds=>
  obtain⟨x,xs,rfl,e1,_⟩:=qaoz hd;cases (show u=Value.ref x from ru);cases hb;obtain⟨its,_,⟨o,h1,h2,_⟩,_⟩:=I.tuple e1;exact PySem.W.kia_one PySem.W.kitx_tuple I.kIn ⟨o,h1,h2⟩ (k.tup _) (fun z=>nomatch z) fin
 |scr ds=>
  obtain⟨x,xs,rfl,e1,_⟩:=qbrz hd;cases (show u=Value.ref x from ru);cases hb;obtain⟨its,_,p1,_⟩:=I.list e1.l;obtain⟨o,h1,h2,_⟩:=p1.isList;exact PySem.W.kia_one PySem.W.kitx_list I.kIn ⟨o,h1,h2⟩ (k.lst _) (fun z=>nomatch z) fin
 |dc x=>
  unfold Hv at hd;obtain⟨rfl,ob,φ,e1,c⟩:=hd;cases (show u=Value.ref x from ru);cases hb;obtain⟨h1,_⟩:=I.hok x _ e1;exact PySem.W.kia_one PySem.W.kitx_dict I.kIn ⟨ob,h1,c⟩ (k.dct _) (fun z=>nomatch z) fin
 |obj x=>
  rw[q2z hd] at ru;cases (show u=Value.ref x from ru);unfold instD at hb;cases hG:G x with
  |none=>simp[hG] at hb
  |some o=>
   have hl:∀xs,H x=some (.lst xs)->∃o,s.heap.get? x=some o/\o.cls=.type "list":=fun xs e=>by
    obtain⟨_,_,n,_,h1⟩:=(show ObjOk X.prog X.w H s.heap x (.lst xs) from I.hok x _ e);exact⟨_,h1,rfl⟩
   cases o with
   |lst ds=>
    simp only[hG] at hb;cases hb;obtain⟨vs,e1,_⟩:=RG x _ hG;obtain⟨o,h1,h2⟩:=hl _ e1;exact PySem.W.kia_one PySem.W.kitx_list I.kIn ⟨o,h1,h2⟩ (k.lst _) (fun z=>nomatch z) fin
   |pen=>
    simp only[hG] at hb;cases hb;obtain⟨_,_,_,e1,_⟩:=RG x _ hG;obtain⟨o,h1,h2⟩:=hl _ e1;exact PySem.W.kia_one PySem.W.kitx_list I.kIn ⟨o,h1,h2⟩ (k.lst _) (fun z=>nomatch z) fin
   |gen R=>simp[hG] at hb
   |dct=>
    simp only[hG] at hb;cases hb;have e1:H x=some (.ext fun h=>∃o,h.get? x=some o/\o.cls=.type "dict"):=RG x _ hG;obtain⟨⟨o,h1,h2⟩,_⟩:=(show ObjOk X.prog X.w H s.heap x _ from I.hok x _ e1);exact PySem.W.kia_one PySem.W.kitx_dict I.kIn ⟨o,h1,h2⟩ (k.dct _) (fun z=>nomatch z) fin
theorem qvrz{T:String}{TS:Str}(k:Kit T)(hv:bootBuiltins TS=some (.type T))(ha:PE3 X a ta)(hm:X.mg "isinstance" = none)(hm2:X.mg TS=none)(hgT:Gl X TS)(hnT:TS≠"__name__")(hdT:(TS==("__debug__":Str))=false)(hg:Gl X "isinstance":=by rfl)
  (he:notStar a=true:=by rfl):
  PE3 X (.Call (.Name "isinstance" p) [a,.Name TS p2] [] pos) (eInst T ta):=
 q0z (qb1z (qvqz k) hg hm rfl (qc2z ha (qc2z (qp0z (v:=.ty T) hgT hm2 hv rfl hnT hdT) qedz (qpz rfl)) (qpz he)) (he:=qpz he) (hpl:=qajz rfl)) fun σ H Q ⟨τ,G,Q3,RS,RG,h,k⟩=>by
  refine⟨τ,G,_,RS,RG,h,fun v H1 d G1 h1 S1 R1 q1=>?_⟩;cases hb:instD T G1 d with
  |none=>rw[hb] at q1;exact q1.elim
  |some b=>
   rw[hb] at q1;exact⟨d,v,G1,b,rfl,h1,R1,hb,k _ H1 (.bl b) G1 qapz S1 R1 q1⟩
end
def tupI(ns:List Int):D:=.tup (ns.map D.int)
section
variable {P:Program} {w:World} {H:Hp} {h:Heap} {a:Addr} {o:HO}
theorem qvsz(x:ObjOk P w H h a o):∃o,h.get? a=some o:=by
 cases o with
 |lst xs=>obtain⟨_,_,_,_,e⟩:=x;exact⟨_,e⟩
 |tup xs=>obtain⟨_,_,_,o,e,_⟩:=x;exact⟨_,e⟩
 |dK kvs=>obtain⟨_,_,_,_,o,_,_,e,_⟩:=x;exact⟨_,e⟩
 |dT kvs=>obtain⟨_,_,_,_,o,_,_,e,_⟩:=x;exact⟨_,e⟩
 |set S n=>obtain⟨o,_,_,_,e,_⟩:=x;exact⟨_,e⟩
 |ins C dx fs=>obtain⟨_,_,_,e,_⟩:=x;exact⟨_,e⟩
 |own y=>obtain⟨_,e⟩:=x;exact⟨_,e⟩
 |xd fs=>obtain⟨_,⟨_,_,_,e,_⟩,_⟩:=x;exact⟨_,e⟩
 |rng lo hi=>obtain⟨_,_,_,e⟩:=x;exact⟨_,e⟩
 |frz ob u=>obtain⟨e,_⟩:=x;exact⟨_,e⟩
 |tbl ps=>exact⟨_,(show h.get? a=some _ from x)⟩
 |met f y=>exact⟨_,(show h.get? a=some _ from x)⟩
 |ext φ=>obtain⟨_,⟨_,e⟩,_⟩:=x;exact⟨_,e⟩
end
section
variable {X:Cx} {pins:List (Addr×Obj)} {σ:L2.St} {H:Hp} {s:Shared}
theorem Inv.freeN(I:Inv X pins σ H s){a:Addr}(hn:s.heap.get? a=none):H a=none:=by
 cases e:H a with
 |none=>rfl
 |some o=>
  obtain⟨ob,h⟩:=qvsz (I.hok a o e);rw[hn] at h;cases h
theorem Inv.laidN{a:Addr}{o:HO}{t':Nat}{h':Heap}(I:Inv X pins σ H s)(k:∀b u,s.heap.get? b=some u->h'.get? b=some u)(hn:s.heap.get? a=none)(new:ObjOk X.prog X.w (upd H a o) h' a o):
  Inv X pins σ (upd H a o) { s with heap:=h',toks:=t' }:=by
 have hH:=Inv.freeN I hn;have ne:∀b u,s.heap.get? b=some u->b≠a:=fun b u e z=>by rw[z,hn] at e;cases e
 refine I.un ⟨fun b u q _ _ _=>k b u q,fun b u q _ _ _=>⟨u.slots,k b u q⟩,fun b u q n _=>by rw[qlz (ne b u q)];exact n,fun b u q _=>⟨u,k b u q⟩,fun b xs q=>by rw[qlz (qanz q hH)];exact q,
  fun b u xs q=>by rw[qlz (qanz q hH)];exact q,fun b ps q=>⟨#[],by rw[qlz (qanz q hH),q];simp⟩⟩ fun b u e=>?_
 by_cases hb:b=a
 ·subst hb;rw[qvz] at e;cases e;exact new
 ·rw[qlz hb] at e;exact (I.hok b u e).stay (fun c v _ q=>k c v q) (fun c q=>by rw[qlz (qanz q hH)];exact q) fun c xs q=>by rw[qlz (qanz q hH)];exact q
theorem qkxz{ns:List Int}:∀{us:List Value},Vals (ns.map V.int) us->ItemsAre (intKind X.prog X.w) ns us:=by
 induction ns with
 |nil=>intro us r;cases r;exact .nil
 |cons n ns ih=>
  intro us r;cases r with
  |cons r1 r2=>
   obtain⟨t,rfl⟩:=(show ∃t,_=Value.int n t from r1);exact .cons (by show Value.isInt n (.int n t)=true;simp[Value.isInt]) (ih r2)
theorem qglz(I:Inv X pins σ H s):∀{nss:List (List Int)} {vs:List V} {us:List Value},Hvs X.K H (nss.map tupI) vs->Vals vs us ->
  ∃ps:List (List Int×Addr),ps.map (·.1)=nss/\vs=ps.map (fun p=>.ref p.2)/\us=ps.map (fun p=>Value.ref p.2)/\∀p∈ps,SqT X.K H p.2 (p.1.map V.int)/\SetM.IsK X.prog X.w s.heap p.1 p.2
 |[],vs,us,h,r=>by
  cases h.inv0;cases r;exact⟨[],rfl,rfl,rfl,fun p hp=>nomatch hp⟩
 |ns::nss,vs,us,h,r=>by
  obtain⟨v,vr,rfl,q1,q2⟩:=h.inv;cases r with
  |cons r1 r2=>
   obtain⟨ps,e1,e2,e3,e4⟩:=qglz I q2 r2;obtain⟨a,ws,rfl,z1,z2⟩:=qaoz q1;have hw:ws=ns.map V.int:=by
    refine qb3z z2 ?_;clear z2 z1 q1 h e1 e2 e3 e4 q2 r2 r1
    induction ns with
    |nil=>rfl
    |cons n ns ih=>simp[intsOf,ih]
   subst hw;cases (show _=Value.ref a from r1);obtain⟨its,rv,⟨o,h1,h2,n,h3⟩,_⟩:=I.tuple z1;refine⟨(ns,a)::ps,by simp[e1],by simp[e2],by simp[e3],fun p hp=>?_⟩;rcases List.mem_cons.mp hp with rfl|hp
   ·exact⟨z1,o,its.toArray,n,h1,h2,h3,qkxz rv⟩
   ·exact e4 p hp
theorem qgmz{K:PySem.W.Frag}{H:Hp}:∀{qs:List (List Int×Addr)},(∀p∈qs,SqT K H p.2 (p.1.map V.int))->Hvs K H ((qs.map (·.1)).map tupI) (qs.map fun p=>.ref p.2)
 |[],_=>.nil
 |q::qs,h=>.cons (qbbz (h q List.mem_cons_self) (Hvs.ints _)) (qgmz fun p hp=>h p (List.mem_cons_of_mem _ hp))
theorem qkyz:∀(qs:List (List Int×Addr)),Vals (qs.map fun p=>V.ref p.2) (qs.map fun p=>Value.ref p.2)
 |[]=>.nil
 |q::qs=>.cons rfl (qkyz qs)
def RiseL(nss:List (List Int)):Prop:=nss.Pairwise fun x y=>SortV.lx y x=false
theorem qkzz{Q:VK}(I:Inv X pins σ H s){ps qs:List (List Int×Addr)}{s':Shared}{c:Nat}{D':Addr}(hz:ps.length<64)(hS:SortV.Srt ps qs)(hn:s.heap.get? D'=none)(hD:s'.heap.get? D'=some (seqObj "list" (qs.map fun p=>Value.ref p.2).toArray c))
  (hm:Moved [] (fun x y=>y=x) s s') (q:H D'=none->Q (.ref D') (upd H D' (.lst (qs.map fun p=>.ref p.2)))):EP X pins σ Q (.ref D') s':=by
 have e:s'={ s with heap:=s'.heap,toks:=s'.toks }:=by
  cases s';cases s;have h1:=hm.gens;have h2:=hm.drawn;have h3:=hm.os;simp only at h1 h2 h3;subst h1 h2 h3;rfl
 rw[e];refine⟨.ref D',_,Inv.laidN I (o:=.lst (qs.map fun p=>.ref p.2)) (fun b u z=>hm.heap b u (fun y=>nomatch y) z) hn ?_,rfl,q (Inv.freeN I hn)⟩;refine⟨?_,_,c,qkyz qs,hD⟩;rw[List.length_map,hS.perm.length_eq,sizeLine_eq];lia
theorem qvtz(hc:X.calm=true)(hu:X.A.units+64<cLine):CallR X (.builtin "sorted") (fun vs H Q=>∃(a:Addr) (xs:List V) (nss:List (List Int)),vs=[.ref a]/\SqL X.K H a xs/\Hvs X.K H (nss.map tupI) xs/\nss.length<64/\(∀ns∈nss,ns≠[]) ∧
  ∀(p:Addr) (mss:List (List Int)) (ys:List V),H p=none->mss.Perm nss->RiseL mss->Hvs X.K H (mss.map tupI) ys->Q (.ref p) (upd H p (.lst ys))):=by
 intro pins s σ H vs us Q I r h;obtain⟨a,xs,nss,rfl,hl,hv,hz,hne,q⟩:=h;obtain⟨u,rfl,ru⟩:=vals1 r;cases ru;obtain⟨its,rv,pl,_⟩:=I.list hl;obtain⟨ps,e1,e2,e3,e4⟩:=qglz I hv rv;subst e3;have hlen:ps.length=nss.length:=by rw[←e1,List.length_map]
 refine SortV.sorted_of (ps:=ps) (fun p hp=>⟨(e4 p hp).2,hne _ (by rw[←e1];exact List.mem_map.mpr ⟨p,hp,rfl⟩)⟩) (by lia) (fun R hR=>?_) fun qs s' c D' hS hn hD hm=>?_
 ·refine collect_list pl.isList (hR _ ⟨fun b o _ e=>?_,rfl,rfl,rfl,Nat.le_refl _⟩) (by rw[List.length_map,sizeLine_eq];lia);have hlt:=Heap.lt_size e;show ((s.heap.push (seqObj "list" #[] 0)).update s.heap.objs.size _).get? b=some o;rw[Heap.get?_update_other _ _ (Nat.ne_of_gt hlt)];exact Heap.get?_push_of_some _ e
 ·refine qkzz I (by lia) hS hn hD hm fun hf=>?_;refine q _ (qs.map (·.1)) _ hf (by rw[←e1];exact hS.perm.map _) ?_ (qgmz fun p hp=>(e4 p (hS.perm.mem_iff.mp hp)).1);exact List.pairwise_map.mpr hS.rise
end
end L3
namespace L3
open PySem PySem.Spec PyProof.Rows L2
def setφ(P:Program)(w:World)(b:Addr)(zs:List (List Int×Addr)):Heap->Prop:=fun h=>∃o es ep t,h.get? b=some o/\o.ExactSet/\o.data=.set es ep t/\es.toList=zs.map (SetM.ent P w)/\(zs.map (·.1)).Nodup/\t.plain=true ∧
 t.led=(!(w.params.followText "set-order"))/\SetP.Tab t (es.toList.map (·.1))
theorem qvuz{α β:Type}{f:α->β}{l l':List β}(h:l.Perm l'):∀{zs:List α},l'=zs.map f->∃zs':List α,zs'.Perm zs/\l=zs'.map f:=by
 induction h with
 |nil=>
  intro zs e;have:zs=[]:=by simpa using e.symm
  subst this;exact⟨[],.nil,rfl⟩
 |cons x _ ih=>
  intro zs e;cases zs with
  |nil=>cases e
  |cons z zs=>
   simp only[List.map_cons,List.cons.injEq] at e;obtain⟨zs',h1,h2⟩:=ih e.2;exact⟨z::zs',h1.cons z,by simp[e.1,h2]⟩
 |swap x y l=>
  intro zs e;rcases zs with _|⟨z,_|⟨z2,zs⟩⟩
  ·cases e
  ·simp at e
  ·simp only[List.map_cons,List.cons.injEq] at e;exact⟨z2::z::zs,.swap _ _ _,by simp[e.1,e.2.1,e.2.2]⟩
 |trans _ _ ih1 ih2=>
  intro zs e;obtain⟨z2,h1,h2⟩:=ih2 e;obtain⟨z1,h3,h4⟩:=ih1 h2;exact⟨z1,h3.trans h1,h4⟩
section
variable {X:Cx}
theorem qvvz(hc:X.calm=true)(hu:X.A.units+64<cLine):CallR X (.type "set") (fun vs H Q=>∃(a:Addr) (xs:List V) (nss:List (List Int)),vs=[.ref a]/\SqL X.K H a xs/\Hvs X.K H (nss.map tupI) xs/\nss.length≤60 ∧
  ∀(b:Addr) (zs:List (List Int×Addr)),H b=none->(∀p∈zs,SqT X.K H p.2 (p.1.map V.int))->(∀ns,ns∈zs.map (·.1)↔ns∈nss)->(zs.map (·.1)).Nodup->zs.length≤nss.length->Q (.ref b) (upd H b (.ext (setφ X.prog X.w b zs)))):=by
 intro pins s σ H vs us Q I r h;obtain⟨a,xs,nss,rfl,hl,hv,hz,q⟩:=h;obtain⟨u,rfl,ru⟩:=vals1 r;cases ru;obtain⟨its,rv,pl,_⟩:=I.list hl;obtain⟨ps,e1,e2,e3,e4⟩:=qglz I hv rv;subst e3;have hlen:ps.length=nss.length:=by rw[←e1,List.length_map]
 refine SetM.call_set_tups (ps:=ps) (I.ok.hd hc) pl.isList rfl (fun p hp=>(e4 p hp).2) (by lia) (by lia) fun h' tk zs kk hS hD=>?_;obtain⟨o,es,ep,t,S,T⟩:=hS;refine⟨.ref s.heap.objs.size,_,I.laid (o:=.ext (setφ X.prog X.w s.heap.objs.size zs)) kk (Nat.le_refl _) ?_,rfl,q _ zs (I.hok.fresh (Nat.le_refl _)) (fun p hp=>(e4 p (hD.sub p hp)).1) (fun ns=>?_) S.nd ?_⟩
 ·refine⟨⟨o,es,ep,t,S.at_,S.ex,S.dat,S.ents,S.nd,S.plain,S.led,T⟩,⟨o,S.at_⟩,fun h1 h2 ⟨o',es',ep',t',y1,y⟩ kk2=>⟨o',es',ep',t',kk2 _ y1,y⟩⟩
 ·rw[←e1];constructor
  ·intro hm;obtain⟨p,hp,rfl⟩:=List.mem_map.mp hm;exact List.mem_map.mpr ⟨p,hD.sub p hp,rfl⟩
  ·intro hm;obtain⟨p,hp,rfl⟩:=List.mem_map.mp hm;exact hD.all p hp
 ·rw[←hlen];exact hD.len
theorem qvwz(hc:X.calm=true)(hu:X.A.units+64<cLine):CallR X (.builtin "sorted") (fun vs H Q=>∃(b:Addr) (zs:List (List Int×Addr)),vs=[.ref b]/\H b=some (.ext (setφ X.prog X.w b zs))/\(∀p∈zs,SqT X.K H p.2 (p.1.map V.int))/\zs.length≤60/\(∀p∈zs,p.1≠[]) ∧
  ∀(p:Addr) (mss:List (List Int)) (ys:List V),H p=none->mss.Perm (zs.map (·.1))->RiseL mss->Hvs X.K H (mss.map tupI) ys->Q (.ref p) (upd H p (.lst ys))):=by
 intro pins s σ H vs us Q I r h;obtain⟨b,zs,rfl,hb,hk,hz,hne,q⟩:=h;obtain⟨u,rfl,ru⟩:=vals1 r;cases ru;obtain⟨⟨o,es,ep,t,y1,y2,y3,y4,y5,y6,y7,T⟩,_⟩:=(show ObjOk X.prog X.w H s.heap b _ from I.hok b _ hb);have hK:∀p∈zs,SetM.IsK X.prog X.w s.heap p.1 p.2:=fun p hp=>by
  obtain⟨its,rv,⟨o,h1,h2,n,h3⟩,_⟩:=I.tuple (hk p hp);exact⟨o,its.toArray,n,h1,h2,h3,qkxz rv⟩
 have S:SetM.SetAt X.prog X.w s.heap b o es ep t zs:=⟨y1,y2,y3,y4,hK,y5,y6,y7⟩;obtain⟨zs',p1,p2⟩:=qvuz (SetM.walkL_perm X.w b ep es) y4;have hsz:es.size=zs.length:=by
  have:es.toList.length=zs.length:=by rw[y4,List.length_map]
  simpa using this
 refine SortV.sorted_of (ps:=zs') (fun p hp=>⟨hK p (p1.mem_iff.mp hp),hne p (p1.mem_iff.mp hp)⟩) (by rw[p1.length_eq];lia) (fun R hR=>?_) fun qs s' c D' hS hn hD hm=>?_
 ·refine SetM.wp_collect_set (by have:=I.ok.hd hc;simpa using this) S T (by lia) fun s' hm=>?_;have:=hR s' hm;rw[p2,List.map_map];exact this
 ·refine qkzz I (by rw[p1.length_eq];lia) hS hn hD hm fun hf=>?_;refine q _ (qs.map (·.1)) _ hf ((hS.perm.map _).trans (p1.map _)) ?_ (qgmz fun p hp=>hk p (p1.mem_iff.mp (hS.perm.mem_iff.mp hp)));exact List.pairwise_map.mpr hS.rise
end
section
variable {X:Cx} {K:PySem.W.Frag} {e:Expr} {es:List Expr} {t:TA3} {ta:TE3} {pos p p' pos':Pos}
def qewz:C3:=fun ds G Q=>match ds with
 |[.obj a]=>∃nss:List (List Int),G a=some (.lst (nss.map tupI))/\nss.length<64/\(∀ns∈nss,ns≠[])/\∀(p:Addr) (mss:List (List Int)) (G':Gp),New G p (.lst (mss.map tupI)) G'->mss.Perm nss->RiseL mss->Q (.obj p) G'
 |_=>False
theorem qvxz:LowC K qewz (fun vs H Q=>∃(a:Addr) (xs:List V) (nss:List (List Int)),vs=[.ref a]/\SqL K H a xs/\Hvs K H (nss.map tupI) xs/\nss.length<64/\(∀ns∈nss,ns≠[]) ∧
  ∀(p:Addr) (mss:List (List Int)) (ys:List V),H p=none->mss.Perm nss->RiseL mss->Hvs K H (mss.map tupI) ys->Q (.ref p) (upd H p (.lst ys))):=fun ds vs G H Q3 Q h RG q k=>by
 rcases ds with _|⟨d,_|⟨d2,ds⟩⟩
 ·exact q.elim
 ·obtain⟨v,rfl,hv⟩:=hvs1 h;cases d with
  |obj a=>
   obtain⟨nss,e1,hz,hne,q⟩:=q;obtain⟨xs,e2,e3⟩:=RG a _ e1;rw[q2z hv];exact⟨a,xs,nss,rfl,.of e2,e3,hz,hne,fun p mss ys hp h1 h2 h3=>k _ _ (.obj p) _ qbaz (.laidG hp) (RG.newL hp h3) (q p mss _ (.mk' (RG.free hp)) h1 h2)⟩
  |_=>exact q.elim
 ·cases d<;>exact q.elim
theorem qvyz(hu:X.A.units+64<cLine)(hm:X.mg "sorted" = none)(ha:PA3 X (e::es) t)(hc:X.calm=true:=by rfl)(hg:Gl X "sorted":=by rfl)(he:notStar e=true:=by rfl)(hpl:es.all notStar=true:=by rfl):
  PE3 X (.Call (.Name "sorted" p) (e::es) [] pos) (eCB qewz t):=e_cb qvxz (qb1z (qvtz hc hu) hg hm rfl ha (he:=qpz he) (hpl:=qajz hpl))
def eSortSet(ta:TE3):TE3:=fun τ G Q=>ta τ G fun x G1=>match x with
 |.obj a=>∃nss:List (List Int),G1 a=some (.lst (nss.map tupI))/\nss.length≤60/\(∀ns∈nss,ns≠[])/\∀(p:Addr) (mss:List (List Int)) (G':Gp),New G1 p (.lst (mss.map tupI)) G'->(∀ns,ns∈mss↔ns∈nss)->mss.Nodup->RiseL mss->mss.length≤nss.length->Q (.obj p) G'
 |_=>False
theorem qvzz(hu:X.A.units+64<cLine)(ha:PE3 X e ta)(hm:X.mg "sorted" = none)(hm2:X.mg "set" = none)(hc:X.calm=true:=by rfl)(hg:Gl X "sorted":=by rfl)(hg2:Gl X "set":=by rfl)(he2:notStar e=true:=by rfl):
  PE3 X (.Call (.Name "sorted" p) [.Call (.Name "set" p') [e] [] pos'] [] pos) (eSortSet ta):=
 q0z (qb1z (qvwz hc hu) hg hm rfl (qc2z (qeez (qvvz hc hu) hg2 hm2 rfl (qc2z ha qedz (qpz he2)) (he:=qpz he2) (hpl:=qajz rfl)) qedz (qpz rfl)) (he:=qpz rfl) (hpl:=qajz rfl)) fun σ H Q ⟨τ,G,Q3,RS,RG,h,k⟩=>by
  refine⟨τ,G,_,RS,RG,h,fun v H1 d G1 h1 S1 R1 q1=>?_⟩;cases d with
  |obj a=>
   obtain⟨nss,e1,hz,hne,q⟩:=q1;obtain⟨xs,e2,e3⟩:=R1 a _ e1;rw[q2z h1];refine⟨a,xs,nss,rfl,.of e2,e3,hz,fun b zs hb hk hmem hnd hlen=>?_⟩;have E2:Ext H1 (upd H1 b (.ext (setφ X.prog X.w b zs))):=.laid hb;refine⟨b,zs,rfl,qvz,fun p hp=>SqT.ext E2 (hk p hp),by lia,fun p hp=>hne _ ((hmem _).mp (List.mem_map.mpr ⟨p,hp,rfl⟩)),fun p mss ys hp hpm hr hv=>?_⟩;have R2:RepG X.K G1 (upd H1 b (.ext (setφ X.prog X.w b zs))):=R1.laid hb;refine k _ _ (.obj p) _ qbaz ((S1.trans (.laid hb)).trans (.laidG hp)) (R2.newL hp hv) (q p mss _ (.mk' (R2.free hp)) (fun ns=>?_) ?_ hr ?_)
   ·rw[hpm.mem_iff];exact hmem ns
   ·exact hpm.nodup_iff.mpr hnd
   ·rw[hpm.length_eq,List.length_map];exact hlen
  |_=>exact q1.elim
def blsOf:List D->Option (List Bool)
 |[]=>some []
 |.bl b::r=>(blsOf r).map (b::·)
 |_::_=>none
theorem qk0z{H:Hp}:∀{ds:List D} {vs:List V} {bs:List Bool},Hvs K H ds vs->blsOf ds=some bs->vs=bs.map V.bl
 |[],vs,ns,h,e=>by
  cases e;exact h.inv0
 |d::ds,vs,ns,h,e=>by
  cases d with
  |bl i=>
   obtain⟨v,r,rfl,z1,z2⟩:=h.inv;unfold blsOf at e;cases hm:blsOf ds with
   |none=>rw[hm] at e;cases e
   |some ms=>
    rw[hm] at e;cases e;rw[qc4z z1,qk0z z2 hm];rfl
  |_=>cases e
theorem qk1z:∀{bs:List Bool} {us:List Value},Vals (bs.map V.bl) us->us=bs.map Value.bool
 |[],_,.nil=>rfl
 |b::bs,_,.cons r rr=>by
  rw[(show _=Value.bool b from r),qk1z rr];rfl
theorem range_all(bs:List Bool):(List.range bs.length).all (fun i=>bs.getD i false)=bs.all id:=by
 rw[Bool.eq_iff_iff];simp only[List.all_eq_true,List.mem_range,id_eq];constructor
 ·intro h b hb;obtain⟨i,hi,rfl⟩:=List.mem_iff_getElem.mp hb;have:=h i hi;simpa [List.getD,hi] using this
 ·intro h i hi;have:=h bs[i] (List.getElem_mem hi);simpa [List.getD,hi] using this
theorem qk2z(hc:X.calm=true){pins:List (Addr×Obj)}{s:Shared}{σ:L2.St}{H:Hp}{a:Addr}{xs:List V}{E:Value->Shared->Prop}(I:Inv X pins σ H s)(hl:SqL X.K H a xs){Q:Value->Shared->Prop}
  (q:∀(its:List Value) (I':Addr),Vals xs its->WalksS X.prog X.w X.A.in1 I' [I',a] [I'] (fun x y=>y=x) its.length (fun i v=>its[i]?=some v) (fun i s=>s.heap.IsListIter I' a i/\s.heap.IsList a its.toArray) ->
   (s.heap.push { cls:=.type "list_iterator",data:=.fields #[.ref a,.int 0 0]}).IsListIter I' a 0->(s.heap.push { cls:=.type "list_iterator",data:=.fields #[.ref a,.int 0 0]}).IsList a its.toArray ->
   (∀b∈[I',a],b<(s.heap.push { cls:=.type "list_iterator",data:=.fields #[.ref a,.int 0 0]}).objs.size) ->
   (∀s',Moved [I'] (fun x y=>y=x) { s with heap:=s.heap.push { cls:=.type "list_iterator",data:=.fields #[.ref a,.int 0 0]}} s'->Inv X pins σ H s')->Q (.ref I') { s with heap:=s.heap.push { cls:=.type "list_iterator",data:=.fields #[.ref a,.int 0 0]}}):
  wpAny (model X.prog X.w) X.A.in1 (pyIter (.ref a)) Q E s:=by
 obtain⟨its,rv,pl,_⟩:=I.list hl;have hla:a<s.heap.objs.size:=by
  obtain⟨o,h1,_⟩:=pl.isList;exact Heap.lt_size h1
 refine wpAny_pyIter_list pl.isList ?_;have hW:=(Walks.list (prog:=X.prog) (w:=X.w) (A:=X.A.in1) (by have:=I.ok.hd hc;simpa using this) s.heap.objs.size a (Nat.ne_of_lt hla) its.toArray).toS;refine q its s.heap.objs.size rv (by simpa using hW) ⟨_,Heap.get?_push_size _ rfl,rfl,rfl⟩ ?_ ?_ fun s' hm=>?_
 ·obtain⟨o,h1,h2⟩:=pl.isList;exact⟨o,Heap.get?_push_of_some _ h1,h2⟩
 ·intro b hb;rw[size_push'];rcases List.mem_cons.mp hb with e|e
  ·rw[e];exact Nat.lt_succ_self _
  ·have:b=a:=by simpa using e
   rw[this];exact Nat.lt_succ_of_lt hla
 ·have e:s'={ s with heap:=s'.heap,toks:=s'.toks }:=by
   cases s';cases s;have h1:=hm.gens;have h2:=hm.drawn;have h3:=hm.os;simp only at h1 h2 h3;subst h1 h2 h3;rfl
  rw[e];exact I.kept fun b u z=>hm.heap b u (fun y=>by
   have:b=s.heap.objs.size:=by simpa using y
   exact absurd (this▸Heap.lt_size z) (Nat.lt_irrefl _)) (Heap.get?_push_of_some _ z)
theorem qv0z(hc:X.calm=true):CallR X (.builtin "all") (fun vs H Q=>∃(a:Addr) (bs:List Bool),vs=[.ref a]/\SqL X.K H a (bs.map V.bl)/\Q (.bl (bs.all id)) H):=by
 intro pins s σ H vs us Q I r h;obtain⟨a,bs,rfl,hl,q⟩:=h;obtain⟨u,rfl,ru⟩:=vals1 r;cases ru;refine call_all_walkS (qk2z hc I hl fun its I' rv W h1 h2 h3 back=>⟨I',_,_,_,_,_,_,fun i=>bs.getD i false,rfl,W,⟨h1,h2⟩,?_,fun s' hm=>?_⟩)
 ·intro i v s' Q' E' hv hq;have hx:=qk1z rv;subst hx;rw[List.getElem?_map] at hv;cases hb:bs[i]? with
  |none=>rw[hb] at hv;cases hv
  |some b=>
   rw[hb] at hv;cases hv;have:bs.getD i false=b:=by simp[List.getD,hb]
   dsimp only at hq;rw[this] at hq;exact wpAny_truthy_bool hq
 ·have:its.length=bs.length:=by rw[←rv.length,List.length_map]
  rw[this,range_all];exact⟨.bl (bs.all id),H,back s' hm,rfl,q⟩
theorem qk3z(ns:List Int):∀k,k≤ns.length->preSum (fun i=>ns.getD i 0) k=(ns.take k).sum
 |0,_=>by simp[preSum]
 |k+1,hk=>by
  rw[preSum,qk3z ns k (by lia),List.take_succ,List.sum_append];have:k<ns.length:=by lia
  simp[List.getD,this]
theorem qv1z(hc:X.calm=true):CallR X (.builtin "sum") (fun vs H Q=>∃(a:Addr) (ns:List Int),vs=[.ref a]/\SqL X.K H a (ns.map V.int)/\Q (.int ns.sum) H):=by
 intro pins s σ H vs us Q I r h;obtain⟨a,ns,rfl,hl,q⟩:=h;obtain⟨u,rfl,ru⟩:=vals1 r;cases ru;refine call_sum_walkAnyS (qk2z hc I hl fun its I' rv W h1 h2 h3 back=>⟨I',_,_,_,_,_,_,fun i=>ns.getD i 0,rfl,W,⟨h1,h2⟩,h3,?_,fun s' t' hm=>?_⟩)
 ·intro i v hv;have hi:i<ns.length:=by
   have h4:its.length=ns.length:=by rw[←rv.length,List.length_map]
   have:=(List.getElem?_eq_some_iff.mp hv).1;lia
  obtain⟨u',e1,e2⟩:=rv.get (i:=i) (x:=.int ns[i]) (by rw[List.getElem?_map,List.getElem?_eq_getElem hi];rfl);rw[hv] at e1;cases e1;obtain⟨t,rfl⟩:=(show ∃t,v=Value.int ns[i] t from e2);exact⟨t,by simp[List.getD,hi]⟩
 ·have h4:its.length=ns.length:=by rw[←rv.length,List.length_map]
  rw[h4,qk3z ns ns.length (Nat.le_refl _),List.take_length];exact⟨.int ns.sum,H,back s' hm,⟨t',rfl⟩,q⟩
def qc8z:C3:=fun ds G Q=>match ds with
 |[.obj a]=>∃xs bs,G a=some (.lst xs)/\blsOf xs=some bs/\Q (.bl (bs.all id)) G
 |_=>False
def qc9z:C3:=fun ds G Q=>match ds with
 |[.obj a]=>∃xs ns,G a=some (.lst xs)/\intsOf xs=some ns/\Q (.int ns.sum) G
 |_=>False
theorem qv2z:LowC K qc8z (fun vs H Q=>∃(a:Addr) (bs:List Bool),vs=[.ref a]/\SqL K H a (bs.map V.bl)/\Q (.bl (bs.all id)) H):=fun ds vs G H Q3 Q h RG q k=>by
 rcases ds with _|⟨d,_|⟨d2,ds⟩⟩
 ·exact q.elim
 ·obtain⟨v,rfl,hv⟩:=hvs1 h;cases d with
  |obj a=>
   obtain⟨xs,bs,e1,e2,q⟩:=q;obtain⟨ys,e3,e4⟩:=RG a _ e1;rw[q2z hv];rw[qk0z e4 e2] at e3;exact⟨a,bs,rfl,.of e3,k _ H _ G qapz (.refl H G) RG q⟩
  |_=>exact q.elim
 ·cases d<;>exact q.elim
theorem qv3z:LowC K qc9z (fun vs H Q=>∃(a:Addr) (ns:List Int),vs=[.ref a]/\SqL K H a (ns.map V.int)/\Q (.int ns.sum) H):=fun ds vs G H Q3 Q h RG q k=>by
 rcases ds with _|⟨d,_|⟨d2,ds⟩⟩
 ·exact q.elim
 ·obtain⟨v,rfl,hv⟩:=hvs1 h;cases d with
  |obj a=>
   obtain⟨xs,bs,e1,e2,q⟩:=q;obtain⟨ys,e3,e4⟩:=RG a _ e1;rw[q2z hv];rw[qb3z e4 e2] at e3;exact⟨a,bs,rfl,.of e3,k _ H _ G qacz (.refl H G) RG q⟩
  |_=>exact q.elim
 ·cases d<;>exact q.elim
theorem qv4z(hu:X.A.units+64<cLine)(hm:X.mg "all" = none)(ha:PA3 X (e::es) t)(hc:X.calm=true:=by rfl)(hg:Gl X "all":=by rfl)(he:notStar e=true:=by rfl)(hpl:es.all notStar=true:=by rfl):
  PE3 X (.Call (.Name "all" p) (e::es) [] pos) (eCB qc8z t):=e_cb qv2z (qb1z (qv0z hc) hg hm rfl ha (he:=qpz he) (hpl:=qajz hpl))
theorem qv5z(hu:X.A.units+64<cLine)(hm:X.mg "sum" = none)(ha:PA3 X (e::es) t)(hc:X.calm=true:=by rfl)(hg:Gl X "sum":=by rfl)(he:notStar e=true:=by rfl)(hpl:es.all notStar=true:=by rfl):
  PE3 X (.Call (.Name "sum" p) (e::es) [] pos) (eCB qc9z t):=e_cb qv3z (qb1z (qv1z hc) hg hm rfl ha (he:=qpz he) (hpl:=qajz hpl))
end
end L3
namespace L3
open PySem PySem.Spec PyProof.Rows L2
section
variable {prog:Program} {w:World} {A:Around} {E:Value->Shared->Prop} {s:Shared}
theorem qgnz{α β:Type}{f g:α->Option β}:∀{l:List α},(∀x∈l,f x=g x)->l.filterMap f=l.filterMap g
 |[],_=>rfl
 |x::l,h=>by
  rw[List.filterMap_cons,List.filterMap_cons,h x List.mem_cons_self,qgnz fun y hy=>h y (List.mem_cons_of_mem _ hy)]
theorem qk4z{α:Type}:∀(l:List α),(List.range l.length).filterMap (fun i=>l[i]?)=l
 |[]=>rfl
 |a::l=>by
  rw[List.length_cons,List.range_succ_eq_map,List.filterMap_cons_some (b:=a) (by simp),List.filterMap_map];congr 1;exact qk4z l
theorem qv6z(xs:List Value):((List.range xs.length).filterMap fun (m:Nat)=>xs.toArray[(((xs.length:Int)-1)+(m:Int)*(-1)).toNat]?)=xs.reverse:=by
 have h2:=qk4z xs.reverse;rw[List.length_reverse] at h2;refine Eq.trans (qgnz fun m hm=>?_) h2;have hm':=List.mem_range.mp hm;rw[List.getElem?_reverse hm',List.getElem?_toArray];congr 1;omega
end
end L3
namespace L3
open PySem PySem.Spec PyProof.Rows L2
open Sem (wp)
def Ik(k:Bool)(h:Heap)(jt a:Addr)(i:Nat):Prop:=match k with
 |true=>h.IsListIter jt a i
 |false=>h.IsTupleIter jt a i
def Sk(k:Bool)(h:Heap)(a:Addr)(xs:Array Value):Prop:=match k with
 |true=>h.IsList a xs
 |false=>h.IsTuple a xs
theorem Ik.of{k:Bool}{h h':Heap}{jt a:Addr}{i:Nat}(x:Ik k h jt a i)(f:∀o,h.get? jt=some o->h'.get? jt=some o):Ik k h' jt a i:=by
 cases k<;>(obtain⟨o,e,r⟩:=x;exact⟨o,f o e,r⟩)
theorem Sk.of{k:Bool}{h h':Heap}{a:Addr}{xs:Array Value}(x:Sk k h a xs)(f:∀o,h.get? a=some o->h'.get? a=some o):Sk k h' a xs:=by
 cases k<;>(obtain⟨o,e,r⟩:=x;exact⟨o,f o e,r⟩)
theorem Ik.obj{k:Bool}{h:Heap}{jt a:Addr}{i:Nat}(x:Ik k h jt a i):∃o,h.get? jt=some o/\∀v,o.data≠.cell v:=by
 cases k<;>(obtain⟨o,e,c,d⟩:=x;exact⟨o,e,fun v z=>by rw[d] at z;cases z⟩)
section
variable {P:Program} {w:World} {A:Around} {E:Value->Shared->Prop} {s:Shared}
theorem nextK{k:Bool}{jt a:Addr}{i:Nat}{xs:Array Value}{u:Value}{Q:Value->Shared->Prop}(hi:Ik k s.heap jt a i)(ha:Sk k s.heap a xs)(hx:xs[i]?=some u)
  (q:∀h',Ik k h' jt a (i+1)->Heap.SameBut jt s.heap h'->Q u { s with heap:=h' }):wpAny (model P w) A (Builtin.SmallTypes.nextOf (.ref jt)) Q E s:=by
 cases k with
 |true=>exact wpAny_nextOf_list_item hi ha hx q
 |false=>
  have hi:s.heap.IsTupleIter jt a i:=hi;obtain⟨o,e1,c1,d1⟩:=id hi;obtain⟨oa,e2,c2,n2,d2⟩:=(show s.heap.IsTuple a xs from ha);unfold Builtin.SmallTypes.nextOf;refine wpAny_bind (wpAny_callSpecial?_slot (name:=Str.ofString "__next__") hi.typeIs F.slot_tuple_iterator_next (wpAny_call_entry F.slot_tuple_iterator_next hi.typeIs F.entry_tuple_iterator_next ?_ (F.args_tuple_iterator_next_1 _)));show wpAny _ _ (field (.ref jt) 0 >>= _) _ _ s;refine wpAny_bind (wpAny_field e1 d1 (x:=.ref a) rfl ?_);show wpAny _ _ (if (Value.ref a==Value.none)=true then _ else _) _ _ s;rw[if_neg (show ¬((Value.ref a==Value.none)=true) from Bool.false_ne_true)];show wpAny _ _ (field (.ref jt) 1 >>= _) _ _ s;refine wpAny_bind (wpAny_field e1 d1 (x:=.int i 0) rfl ?_);show wpAny _ _ (seqItems? (.ref a) >>= _) _ _ s;refine wpAny_bind (wpAny_seqItems e2 d2 ?_);simp only[hx,Int.toNat_natCast];refine wpAny_bind (wpAny_setField e1 d1 (by simp) (wpAny_pure ⟨u,rfl,wpAny_pure (q _ ?_ (Heap.SameBut.update ..))⟩));exact⟨_,Heap.get?_update_self _ e1 (Obj.isFreed_of_fields (Obj.data_mapFields d1 _)),(Obj.cls_mapFields ..).trans c1,by rw[Obj.data_mapFields d1];simp[rawInt]⟩
theorem qciz{k:Bool}{jt a:Addr}{i:Nat}{xs:Array Value}{Q:Value->Shared->Prop}(hh:A.handled=none)(hi:Ik k s.heap jt a i)(ha:Sk k s.heap a xs)(hx:xs[i]?=none)
  (q:∀h' e,Heap.ExtBut jt s.heap h'->(∃o,h'.get? e=some o/\o.cls=.type "StopIteration")->E (.ref e) { s with heap:=h' }):wpAny (model P w) A (Builtin.SmallTypes.nextOf (.ref jt)) Q E s:=by
 cases k with
 |true=>exact wpAny_nextOf_list_end hh hi ha hx q
 |false=>
  have hi:s.heap.IsTupleIter jt a i:=hi;obtain⟨o,e1,c1,d1⟩:=id hi;obtain⟨oa,e2,c2,n2,d2⟩:=(show s.heap.IsTuple a xs from ha);unfold Builtin.SmallTypes.nextOf;refine wpAny_bind (wpAny_callSpecial?_slot (name:=Str.ofString "__next__") hi.typeIs F.slot_tuple_iterator_next (wpAny_call_entry F.slot_tuple_iterator_next hi.typeIs F.entry_tuple_iterator_next ?_ (F.args_tuple_iterator_next_1 _)));show wpAny _ _ (field (.ref jt) 0 >>= _) _ _ s;refine wpAny_bind (wpAny_field e1 d1 (x:=.ref a) rfl ?_);show wpAny _ _ (if (Value.ref a==Value.none)=true then _ else _) _ _ s;rw[if_neg (show ¬((Value.ref a==Value.none)=true) from Bool.false_ne_true)];show wpAny _ _ (field (.ref jt) 1 >>= _) _ _ s;refine wpAny_bind (wpAny_field e1 d1 (x:=.int i 0) rfl ?_);show wpAny _ _ (seqItems? (.ref a) >>= _) _ _ s;refine wpAny_bind (wpAny_seqItems e2 d2 ?_);simp only[hx,Int.toNat_natCast];refine wpAny_bind (wpAny_rule (wpAny_bind (wpAny_setField e1 d1 (by simp) ?_)));show wpAny _ _ (newExc (.type "StopIteration") [] >>= _) _ _ ({ s with heap:=_ }:Shared);refine wpAny_bind ?_;simp only[newTuple,newExc];refine wpAny_bind (wpAny_newObj_type ?_ (by size_fits));refine wpAny_bind (m:=firstArgMember _ _) (wpAny_of_eq (a:=Value.none) (by first|(simp only[firstArgMember];rfl)|rfl) ?_)
  refine wpAny_newObj_type ?_ (by size_fits);simp only[raiseNew];refine wpAny_bind (wpAny_handled ?_)
  first|rw[hh]|rw[show A.in1.handled=none from hh]
  refine wpAny_bind (wpAny_pure (wpAny_throw ?_));exact q _ _ (((Heap.SameBut.update ..).extBut.push _).push _) ⟨_,Heap.get?_push_size _ rfl,rfl⟩
theorem zipK{k1 k2:Bool}{zz ti ot j1 j2 a1 a2:Addr}{m n:Nat}{xs ys:Array Value}{u v c d:Value}{Q:Value->Shared->Prop}(D:ZipApart zz ti ot j1 j2 a1 a2)
  (Z:IsZip s.heap zz ti ot .none) (Ti:IsPair s.heap ti (.ref j1) (.ref j2)) (To:IsPair s.heap ot c d) (g1:Ik k1 s.heap j1 a1 m) (g2:Ik k2 s.heap j2 a2 n) (s1:Sk k1 s.heap a1 xs) (s2:Sk k2 s.heap a2 ys) (hu:xs[m]?=some u) (hv:ys[n]?=some v)
  (q:∀h',IsZip h' zz ti ot (rawInt s.heap.objs.size)->IsPair h' ot u v->Ik k1 h' j1 a1 (m+1)->Ik k2 h' j2 a2 (n+1)->IsPair h' s.heap.objs.size u v ->
   (∀b o,b≠zz->b≠ot->b≠j1->b≠j2->s.heap.get? b=some o->h'.get? b=some o)->Q (.ref s.heap.objs.size) { s with heap:=h' }):
  wpAny (model P w) A (Builtin.«zip.__next__» ⟨[.ref zz],[]⟩) (fun fin s'=>∃r,fin=.done (.ret r)/\Q r s') E s:=by
 show wpAny _ _ (field (.ref zz) 2 >>= _) _ _ _;refine wpAny_bind (wpAny_field Z rfl (x:=.bool false) rfl ?_);show wpAny _ _ (field (.ref zz) 3 >>= _) _ _ _;refine wpAny_bind (wpAny_field Z rfl (x:=.ref ti) rfl ?_);refine wpAny_bind (wpAny_seqItems Ti rfl ?_);show wpAny _ _ (Builtin.SmallTypes.ownedTupleIsFree (.ref zz) >>= _) _ _ _;refine wpAny_bind ?_;unfold Builtin.SmallTypes.ownedTupleIsFree;refine wpAny_bind (wpAny_field Z rfl (x:=.none) rfl (wpAny_pure ?_));simp only[if_true];refine wpAny_bind (wpAny_rule ?_);refine wpAny_bind (wpAny_field Z rfl (x:=.ref ot) rfl ?_);refine wpAny_bind (wpAny_setField_rec Z (by simp) fun w1 Z1 b1=>?_)
 replace Z1:IsZip w1 zz ti ot .ellipsis:=Z1
 refine wpAny_bind ?_
 (simp only[List.zipIdx_nil,List.zipIdx_cons,List.forIn_nil,List.forIn_cons])
 have k1_:∀b o,b≠zz->s.heap.get? b=some o->w1.get? b=some o:=fun b o h e=>b1.extBut b o h e;refine wpAny_bind (wpAny_bind (wpAny_onRaise ?_));show wpAny _ _ (Builtin.SmallTypes.nextOf (.ref j1) >>= _) _ _ _;refine wpAny_bind (nextK (g1.of fun o e=>k1_ _ o D.i1z e) (s1.of fun o e=>k1_ _ o D.l1z e) hu fun w2 J1 b2=>wpAny_pure ?_);have k2_:∀b o,b≠zz->b≠j1->s.heap.get? b=some o->w2.get? b=some o:=fun b o h h2 e=>b2.extBut b o h2 (k1_ b o h e);have To2:IsPair w2 ot c d:=k2_ _ _ D.TOz D.TOi1 To;refine wpAny_bind (wpAny_seqItems To2 rfl ?_);refine wpAny_bind (wpAny_updateSeq_pair To2 fun w3 To3 b3=>?_)
 replace To3:IsPair w3 ot u d:=To3
 have k3_:∀b o,b≠zz->b≠j1->b≠ot->s.heap.get? b=some o->w3.get? b=some o:=fun b o h h2 h3 e=>b3.extBut b o h3 (k2_ b o h h2 e);refine wpAny_bind (wpAny_letGo (wpAny_pure ?_));refine wpAny_bind (wpAny_bind (wpAny_onRaise ?_));show wpAny _ _ (Builtin.SmallTypes.nextOf (.ref j2) >>= _) _ _ _;refine wpAny_bind (nextK (g2.of fun o e=>k3_ _ o D.i2z D.i12.symm D.TOi2.symm e) (s2.of fun o e=>k3_ _ o D.l2z D.l2i1 D.l2TO e) hv fun w4 J2 b4=>wpAny_pure ?_);have To4:IsPair w4 ot u d:=b4.extBut _ _ D.TOi2 To3;refine wpAny_bind (wpAny_seqItems To4 rfl ?_);refine wpAny_bind (wpAny_updateSeq_pair To4 fun w5 To5 b5=>?_)
 replace To5:IsPair w5 ot u v:=To5
 refine wpAny_bind (wpAny_letGo (wpAny_pure (wpAny_pure ?_)));refine wpAny_bind (wpAny_seqItems To5 rfl ?_);refine wpAny_bind (wpAny_newTuple ?_);have sz:w5.objs.size=s.heap.objs.size:=by rw[b5.1,b4.1,b3.1,b2.1,b1.1]
 have Z5:IsZip w5 zz ti ot .ellipsis:=b5.extBut _ _ D.TOz.symm (b4.extBut _ _ D.i2z.symm (b3.extBut _ _ D.TOz.symm (b2.extBut _ _ D.i1z.symm Z1)));have k5_:∀b o,b≠zz->b≠ot->b≠j1->b≠j2->s.heap.get? b=some o->w5.get? b=some o:=fun b o c1 c2 c3 c4 e=>b5.extBut _ _ c2 (b4.extBut _ _ c4 (k3_ b o c1 c3 c2 e));have L1:Ik k1 w5 j1 a1 (m+1):=J1.of fun o e=>b5.extBut _ _ D.TOi1.symm (b4.extBut _ _ D.i12 (b3.extBut _ _ D.TOi1.symm e));have L2:Ik k2 w5 j2 a2 (n+1):=J2.of fun o e=>b5.extBut _ _ D.TOi2.symm e;have lz:zz<w5.objs.size:=Heap.lt_size Z5;show wpAny _ _ (Builtin.SmallTypes.ownedTupleHandOut (.ref zz) (.ref w5.objs.size) >>= _) _ _ _;refine wpAny_bind ?_;unfold Builtin.SmallTypes.ownedTupleHandOut;have Z6:IsZip (w5.push { cls:=.type "tuple",data:=.seq #[u,v]}) zz ti ot .ellipsis:=Heap.get?_push_of_some _ Z5;refine wpAny_bind (wpAny_setField_rec Z6 (by simp) fun w7 Z7 b7=>?_)
 replace Z7:IsZip w7 zz ti ot (rawInt w5.objs.size):=Z7
 refine wpAny_setField_rec Z7 (by simp) fun w8 Z8 b8=>?_
 replace Z8:IsZip w8 zz ti ot (rawInt w5.objs.size):=Z8
 have up:∀b o,b≠zz->w5.get? b=some o->w8.get? b=some o:=fun b o c1 e=>b8.extBut _ _ c1 (b7.extBut _ _ c1 (Heap.get?_push_of_some _ e));have T8:IsPair w8 w5.objs.size u v:=b8.extBut _ _ (Nat.ne_of_gt lz) (b7.extBut _ _ (Nat.ne_of_gt lz) (Heap.get?_push_size _ rfl));rw[sz] at Z8 T8;refine wpAny_pure ⟨_,rfl,?_⟩;show Q (.ref w5.objs.size) _;rw[sz];exact q w8 Z8 (up _ _ D.TOz To5) (L1.of fun o e=>up _ o D.i1z e) (L2.of fun o e=>up _ o D.i2z e) T8 fun b o c1 c2 c3 c4 e=>up b o c1 (k5_ b o c1 c2 c3 c4 e)
theorem qk5z{k1 k2:Bool}{zz ti ot j1 j2 a1 a2:Addr}{m n:Nat}{xs ys:Array Value}{c d:Value}{Q:Fin->Shared->Prop}(hh:A.handled=none)(D:ZipApart zz ti ot j1 j2 a1 a2)
  (Z:IsZip s.heap zz ti ot .none) (Ti:IsPair s.heap ti (.ref j1) (.ref j2)) (To:IsPair s.heap ot c d) (g1:Ik k1 s.heap j1 a1 m) (g2:Ik k2 s.heap j2 a2 n) (s1:Sk k1 s.heap a1 xs) (s2:Sk k2 s.heap a2 ys) (he:xs[m]?=none∨ys[n]?=none)
  (q:∀h' e,(∀b o,b≠zz->b≠ot->b≠j1->b≠j2->s.heap.get? b=some o->h'.get? b=some o)->(∃o,h'.get? e=some o/\o.cls=.type "StopIteration")->E (.ref e) { s with heap:=h' }):
  wpAny (model P w) A (Builtin.«zip.__next__» ⟨[.ref zz],[]⟩) Q E s:=by
 show wpAny _ _ (field (.ref zz) 2 >>= _) _ _ _;refine wpAny_bind (wpAny_field Z rfl (x:=.bool false) rfl ?_);show wpAny _ _ (field (.ref zz) 3 >>= _) _ _ _;refine wpAny_bind (wpAny_field Z rfl (x:=.ref ti) rfl ?_);refine wpAny_bind (wpAny_seqItems Ti rfl ?_);show wpAny _ _ (Builtin.SmallTypes.ownedTupleIsFree (.ref zz) >>= _) _ _ _;refine wpAny_bind ?_;unfold Builtin.SmallTypes.ownedTupleIsFree;refine wpAny_bind (wpAny_field Z rfl (x:=.none) rfl (wpAny_pure ?_));simp only[if_true];refine wpAny_bind (wpAny_rule ?_);refine wpAny_bind (wpAny_field Z rfl (x:=.ref ot) rfl ?_);refine wpAny_bind (wpAny_setField_rec Z (by simp) fun w1 Z1 b1=>?_)
 replace Z1:IsZip w1 zz ti ot .ellipsis:=Z1
 refine wpAny_bind ?_
 (simp only[List.zipIdx_nil,List.zipIdx_cons,List.forIn_nil,List.forIn_cons])
 have k1_:∀b o,b≠zz->s.heap.get? b=some o->w1.get? b=some o:=fun b o h e=>b1.extBut b o h e;refine wpAny_bind (wpAny_bind (wpAny_onRaise ?_));show wpAny _ _ (Builtin.SmallTypes.nextOf (.ref j1) >>= _) _ _ _;cases hx:xs[m]? with
 |none=>
  refine wpAny_bind (qciz hh (g1.of fun o e=>k1_ _ o D.i1z e) (s1.of fun o e=>k1_ _ o D.l1z e) hx fun w2 e b2 hs=>?_);obtain⟨oe,e1,e2⟩:=hs;have Z2:IsZip w2 zz ti ot .ellipsis:=b2 _ _ D.i1z.symm Z1;have ez:e≠zz:=fun x=>by
   subst x;rw[Z2] at e1;cases e1;simp at e2
  exact wpAny_setField_rec Z2 (by simp) fun w3 _ b3=>q w3 e (fun b o c1 _ c3 _ x=>b3.extBut _ _ c1 (b2 _ _ c3 (k1_ b o c1 x))) ⟨oe,b3.extBut _ _ ez e1,e2⟩
 |some u=>
  have hy:ys[n]?=none:=by
   rcases he with h|h
   ·rw[hx] at h;cases h
   ·exact h
  refine wpAny_bind (nextK (g1.of fun o e=>k1_ _ o D.i1z e) (s1.of fun o e=>k1_ _ o D.l1z e) hx fun w2 J1 b2=>wpAny_pure ?_);have k2_:∀b o,b≠zz->b≠j1->s.heap.get? b=some o->w2.get? b=some o:=fun b o h h2 e=>b2.extBut b o h2 (k1_ b o h e);have To2:IsPair w2 ot c d:=k2_ _ _ D.TOz D.TOi1 To;refine wpAny_bind (wpAny_seqItems To2 rfl ?_);refine wpAny_bind (wpAny_updateSeq_pair To2 fun w3 To3 b3=>?_);have k3_:∀b o,b≠zz->b≠j1->b≠ot->s.heap.get? b=some o->w3.get? b=some o:=fun b o h h2 h3 e=>b3.extBut b o h3 (k2_ b o h h2 e);refine wpAny_bind (wpAny_letGo (wpAny_pure ?_));refine wpAny_bind (wpAny_bind (wpAny_onRaise ?_));show wpAny _ _ (Builtin.SmallTypes.nextOf (.ref j2) >>= _) _ _ _;refine wpAny_bind (qciz hh (g2.of fun o e=>k3_ _ o D.i2z D.i12.symm D.TOi2.symm e) (s2.of fun o e=>k3_ _ o D.l2z D.l2i1 D.l2TO e) hy fun w4 e b4 hs=>?_);obtain⟨oe,e1,e2⟩:=hs;have Z4:IsZip w4 zz ti ot .ellipsis:=b4 _ _ D.i2z.symm (b3.extBut _ _ D.TOz.symm (b2.extBut _ _ D.i1z.symm Z1));have ez:e≠zz:=fun x=>by
   subst x;rw[Z4] at e1;cases e1;simp at e2
  exact wpAny_setField_rec Z4 (by simp) fun w5 _ b5=>q w5 e (fun b o c1 c2 c3 c4 x=>b5.extBut _ _ c1 (b4 _ _ c4 (k3_ b o c1 c3 c2 x))) ⟨oe,b5.extBut _ _ ez e1,e2⟩
end
end L3
namespace L3
open PySem PySem.Spec PyProof.Rows L2
open Sem (wp)
section
variable {X:Cx} {pins:List (Addr×Obj)} {σ:L2.St} {H:Hp} {s:Shared}
theorem turnedL{h':Heap}{t':Nat}{fp:List Addr}(I:L2.Inv X pins σ H s)(k:∀b o,b∉fp->s.heap.get? b=some o->h'.get? b=some o)(hf:∀b∈fp,FpOk X pins H b):L2.Inv X pins σ H { s with heap:=h',toks:=t' }:=by
 have nit:∀b u,H b=some u->b∉fp:=fun b u e z=>by rw[(hf b z).1] at e;cases e
 refine I.step (g':=s.gens) (d':=s.drawn) (ch:=fp) (fun b hb=>?_) (fun b o _ _ hc e _=>k b o hc e) (fun b o _ _ hc e _=>⟨o.slots,k b o hc e⟩) (fun _ _ _ _ n=>n) (fun b o hc e=>⟨o,k b o hc e⟩) (fun _ _ e=>e) (fun _ _ _ e=>e) (fun b ps e=>⟨#[],by rw[e];simp⟩) (fun m hm=>?_) (fun b u e=>?_) I.bare
 ·obtain⟨f0,f1,f2,f3,f4,f5⟩:=hf b hb;exact⟨f3,f1,f4,f5⟩
 ·obtain⟨o,es,ep,ho,r⟩:=hm;exact⟨o,es,ep,k _ o (fun z=>(hf _ z).2.1 rfl) ho,r⟩
 ·refine (I.hok b u e).stay (fun c v hc q=>k c v ?_ q) (fun _ q=>q) fun _ _ q=>q;rcases hc with z|z
  ·rw[z];exact nit b u e
  ·exact nit c _ z
def SqK(K:PySem.W.Frag)(k:Bool)(H:Hp)(a:Addr)(xs:List V):Prop:=match k with
 |true=>SqL K H a xs
 |false=>SqT K H a xs
theorem SqK.heap{k:Bool}{a:Addr}{xs:List V}(I:L2.Inv X pins σ H s)(h:SqK X.K k H a xs):∃its,Vals xs its/\Sk k s.heap a its.toArray:=by
 cases k with
 |true=>
  obtain⟨its,rv,p,hz⟩:=I.list (show SqL X.K H a xs from h);exact⟨its,rv,p.isList⟩
 |false=>
  obtain⟨its,rv,p,hz⟩:=I.tuple (show SqT X.K H a xs from h);exact⟨its,rv,p⟩
theorem SqK.inj{k:Bool}{a:Addr}{xs ys:List V}(I:L2.Inv X pins σ H s)(h:SqK X.K k H a xs)(h':SqK X.K k H a ys):xs=ys:=by
 cases k with
 |true=>exact I.list_inj (show SqL X.K H a xs from h) (show SqL X.K H a ys from h')
 |false=>exact I.tuple_inj (show SqT X.K H a xs from h) (show SqT X.K H a ys from h')
theorem SqK.apart{k:Bool}{a b:Addr}{xs:List V}(I:L2.Inv X pins σ H s)(h:SqK X.K k H a xs)(f:FpOk X pins H b):a≠b:=by
 intro z;subst z;have hb:(∃u,H a=some u)∨∃o,X.K.lookup a=some o:=by
  cases k <;>
  ·rcases h with (h|⟨o,h⟩)|⟨o,_,_,h,_⟩
   ·exact .inl ⟨_,h⟩
   ·exact .inl ⟨_,h⟩
   ·exact .inr ⟨_,h⟩
 rcases hb with⟨u,e⟩|⟨o,e⟩
 ·rw[f.1] at e;cases e
 ·have e2:=I.mod.kin a o e;rcases f.2.2.2.1 with q|q
  ·exact I.ok.noex a o e2 q
  ·exact absurd (Nat.lt_of_lt_of_le (Heap.lt_size (I.ok.bs a o e2).1) q) (Nat.lt_irrefl _)
end
def Itz(K:PySem.W.Frag)(k1 k2:Bool)(a1 a2:Addr):It:=
 ⟨fun i H=>∃xs ys x y,(SqK K k1 H a1 xs/\xs[i]?=some x)/\SqK K k2 H a2 ys/\ys[i]?=some y,
  fun i H x H'=>∃T u v,x=.ref T/\H T=none/\H'=upd H T (.tup [u,v])/\(∀xs,SqK K k1 H a1 xs->xs[i]?=some u)/\∀ys,SqK K k2 H a2 ys->ys[i]?=some v,
  fun i H=>∃xs ys,SqK K k1 H a1 xs/\SqK K k2 H a2 ys/\(xs.length≤i∨ys.length≤i)⟩
theorem zap{zz ti ot j1 j2 a1 a2:Addr}(h:[zz,ti,ot,j1,j2].Nodup)(h1:∀b∈[zz,ti,ot,j1,j2],a1≠b)(h2:∀b∈[zz,ti,ot,j1,j2],a2≠b):ZipApart zz ti ot j1 j2 a1 a2:=by
 simp only[List.nodup_cons,List.mem_cons,not_or,List.not_mem_nil,not_false_eq_true,List.nodup_nil,and_true] at h;obtain⟨⟨n1,n2,n3,n4⟩,⟨n5,n6,n7⟩,⟨n8,n9⟩,n10⟩:=h;exact⟨Ne.symm n1,Ne.symm n2,Ne.symm n3,Ne.symm n4,n5,n6,n7,n8,n9,n10,h1 _ (by simp),h1 _ (by simp),h1 _ (by simp),h1 _ (by simp),h2 _ (by simp),h2 _ (by simp),h2 _ (by simp),h2 _ (by simp)⟩
theorem qv7z{P:Program}{w:World}{K:PySem.W.Frag}{es:List Expr}{n0:Nat}{ps:Pos}(k1 k2:Bool)(a1 a2 zz ti ot j1 j2:Addr)(hd:[zz,ti,ot,j1,j2].Nodup):
  Turn P w K (.Tuple es n0 ps) (Itz K k1 k2 a1 a2) [zz,ti,ot,j1,j2] zz (fun i h=>IsZip h zz ti ot .none/\IsPair h ti (.ref j1) (.ref j2)/\(∃c d,IsPair h ot c d)/\Ik k1 h j1 a1 i/\Ik k2 h j2 a2 i) where
 mem:=by simp
 obj:=fun i h st b hb=>by
  obtain⟨Z,Ti,⟨c,d,To⟩,g1,g2⟩:=st;simp only[List.mem_cons,List.not_mem_nil,or_false] at hb;rcases hb with rfl|rfl|rfl|rfl|rfl
  ·exact⟨_,Z,fun v z=>by cases (show Data.fields _=Data.cell v from z)⟩
  ·exact⟨_,Ti,fun v z=>by cases (show Data.seq _ _=Data.cell v from z)⟩
  ·exact⟨_,To,fun v z=>by cases (show Data.seq _ _=Data.cell v from z)⟩
  ·exact g1.obj
  ·exact g2.obj
 keep:=fun i h h' st k=>by
  obtain⟨Z,Ti,⟨c,d,To⟩,g1,g2⟩:=st;exact⟨k _ (by simp) _ Z,k _ (by simp) _ Ti,⟨c,d,k _ (by simp) _ To⟩,g1.of fun o e=>k _ (by simp) _ e,g2.of fun o e=>k _ (by simp) _ e⟩
 item:=by
  intro X hP hw hK hc i pins s σ H E I hf st hg;subst hP hw hK;obtain⟨Z,Ti,⟨c,d,To⟩,g1,g2⟩:=st;obtain⟨xs,ys,x,y,⟨q1,hx⟩,q2,hy⟩:=hg;obtain⟨its1,rv1,p1⟩:=q1.heap I;obtain⟨its2,rv2,p2⟩:=q2.heap I;obtain⟨u,hu,ru⟩:=rv1.get hx;obtain⟨v,hv,rv⟩:=rv2.get hy;have D:=zap hd (fun b hb=>q1.apart I (hf b hb)) (fun b hb=>q2.apart I (hf b hb));have hT:s.TypeIs (.ref zz) "zip":=⟨_,Z,rfl⟩;unfold pyNext;refine wpAny_bind (wpAny_attempt (wpAny_callSpecial?_slot (name:=Str.ofString "__next__") hT F.slot_zip_next (wpAny_call_entry F.slot_zip_next hT F.entry_zip_next (zipK D Z Ti To g1 g2 p1 p2 (u:=u) (v:=v) (by simpa using hu) (by simpa using hv) fun h' Z' To' g1' g2' T' kp=>?_) (F.args_zip_next_1 _))));refine wpAny_pure ⟨_,rfl,?_⟩;refine wpAny_letOwnedTupleGo_zip Z' fun h2 Z2 b2=>?_;have hn:H s.heap.objs.size=none:=I.hok.fresh (Nat.le_refl _);have I1:L2.Inv X pins σ (upd H s.heap.objs.size (.tup [x,y])) { s with heap:=s.heap.push { cls:=.type "tuple",data:=.seq #[u,v]}}:=I.laid (t':=s.toks) (fun b o e=>Heap.get?_push_of_some _ e) (Nat.le_refl _) ⟨by show 2≤sizeLine;decide,[u,v],.cons ru (.cons rv .nil),⟨_,Heap.get?_push_size _ rfl,rfl,_,rfl⟩⟩;have lt:∀b∈[zz,ti,ot,j1,j2],b<s.heap.objs.size:=fun b hb=>by
   simp only[List.mem_cons,List.not_mem_nil,or_false] at hb;rcases hb with rfl|rfl|rfl|rfl|rfl
   ·exact Heap.lt_size Z
   ·exact Heap.lt_size Ti
   ·exact Heap.lt_size To
   ·obtain⟨o,e,_⟩:=g1.obj;exact Heap.lt_size e
   ·obtain⟨o,e,_⟩:=g2.obj;exact Heap.lt_size e
  have hf':∀b∈[zz,ti,ot,j1,j2],FpOk X pins (upd H s.heap.objs.size (.tup [x,y])) b:=fun b hb=>⟨by rw[qlz (Nat.ne_of_lt (lt b hb))];exact (hf b hb).1,(hf b hb).2⟩;have I2:L2.Inv X pins σ (upd H s.heap.objs.size (.tup [x,y])) { s with heap:=h2 }:=turnedL (s:={ s with heap:=s.heap.push { cls:=.type "tuple",data:=.seq #[u,v]}}) (t':=s.toks) I1 (fun b o hb e=>by
   simp only[List.mem_cons,List.not_mem_nil,or_false,not_or] at hb;refine b2.extBut b o hb.1 ?_;rcases Heap.get?_push_cases e with⟨rfl,rfl⟩|e
   ·exact T'
   ·exact kp b o hb.1 hb.2.2.1 hb.2.2.2.1 hb.2.2.2.2 e) hf'
  refine⟨.ref s.heap.objs.size,_,I2,rfl,⟨_,x,y,rfl,hn,rfl,fun zs hz=>by rw[hz.inj I q1];exact hx,fun zs hz=>by rw[hz.inj I q2];exact hy⟩,⟨Z2,?_,⟨u,v,?_⟩,g1'.of fun o e=>b2.extBut _ _ D.i1z e,g2'.of fun o e=>b2.extBut _ _ D.i2z e⟩,fun b hb=>(hf' b hb).1⟩
  ·exact b2.extBut _ _ D.TIz (kp _ _ D.TIz D.TITO D.TIi1 D.TIi2 Ti)
  ·exact b2.extBut _ _ D.TOz To'
 done:=by
  intro X hP hw hK hc i pins s σ H E I hf st hg;subst hP hw hK;obtain⟨Z,Ti,⟨c,d,To⟩,g1,g2⟩:=st;obtain⟨xs,ys,q1,q2,hl⟩:=hg;obtain⟨its1,rv1,p1⟩:=q1.heap I;obtain⟨its2,rv2,p2⟩:=q2.heap I;have D:=zap hd (fun b hb=>q1.apart I (hf b hb)) (fun b hb=>q2.apart I (hf b hb));have hT:s.TypeIs (.ref zz) "zip":=⟨_,Z,rfl⟩;have l1:=rv1.length;have l2:=rv2.length;unfold pyNext;refine wpAny_bind (wpAny_attempt (wpAny_callSpecial?_slot (name:=Str.ofString "__next__") hT F.slot_zip_next (wpAny_call_entry F.slot_zip_next hT F.entry_zip_next (qk5z (I.ok.hd hc) D Z Ti To g1 g2 p1 p2 (by
   rcases hl with h|h
   ·exact .inl (by simp;lia)
   ·exact .inr (by simp;lia)) fun h' e kp hs=>?_) (F.args_zip_next_1 _))))
  obtain⟨o,ho,hcl⟩:=hs;refine wpAny_bind (wpAny_isInstance (T:="StopIteration") (b:=true) ⟨o,ho,hcl⟩ isSubtype_stop ?_);refine wpAny_pure ⟨rfl,turnedL (t':=s.toks) I (fun b o hb e=>?_) hf⟩;simp only[List.mem_cons,List.not_mem_nil,or_false,not_or] at hb;exact kp b o hb.1 hb.2.2.1 hb.2.2.2.1 hb.2.2.2.2 e
 self:=fun _ _ _ _ _ st h=>wpAny_pyIter_zip st.1 h
def itO(k:Bool)(a:Addr):Obj:=match k with
 |true=>{ cls:=.type "list_iterator",data:=.fields #[.ref a,.int 0 0]}
 |false=>{ cls:=.type "tuple_iterator",data:=.fields #[.ref a,.int 0 0]}
def zw1(k1:Bool)(h:Heap)(a1:Addr):Heap:=h.push (itO k1 a1)
def zw2(k1 k2:Bool)(h:Heap)(a1 a2:Addr):Heap:=(zw1 k1 h a1).push (itO k2 a2)
def zw3(k1 k2:Bool)(h:Heap)(a1 a2:Addr):Heap:=(zw2 k1 k2 h a1 a2).push { cls:=.type "tuple",data:=.seq #[.ref h.objs.size,.ref (zw1 k1 h a1).objs.size]}
def zw4(k1 k2:Bool)(h:Heap)(a1 a2:Addr):Heap:=(zw3 k1 k2 h a1 a2).push { cls:=.type "tuple",data:=.seq #[.none,.none]}
def zw5(k1 k2:Bool)(h:Heap)(a1 a2:Addr):Heap:=(zw4 k1 k2 h a1 a2).push { cls:=.type "zip",data:=.fields #[.none,.bool false,.bool false,.ref (zw2 k1 k2 h a1 a2).objs.size,.ref (zw3 k1 k2 h a1 a2).objs.size]}
theorem itK{k:Bool}{h:Heap}{jt a:Addr}(e:h.get? jt=some (itO k a)):Ik k h jt a 0:=by
 cases k<;>exact⟨_,e,rfl,rfl⟩
theorem qk6z{k:Bool}{a:Addr}:(itO k a).isFreed=false:=by cases k<;>rfl
theorem qv8z(k1 k2:Bool)(a1 a2:Addr)(xs ys:Array Value):Meets (Builtin.«zip.__new__» ⟨[.type "zip",.ref a1,.ref a2],[]⟩) (fun _ R s=>Sk k1 s.heap a1 xs/\Sk k2 s.heap a2 ys ∧
   R (.ok (.ret (.ref (zw4 k1 k2 s.heap a1 a2).objs.size))) { s with heap:=zw5 k1 k2 s.heap a1 a2 }):=
 .of_wp fun prog w A R s h=>by
  obtain⟨hp,g,d,tk,os⟩:=s;obtain⟨h1,h2,h⟩:=h;have hsub:=sub_zip;cases k1<;>cases k2
  ·have q1:Heap.IsTuple (Shared.heap ⟨hp,g,d,tk,os⟩) a1 xs:=h1;have q2:Heap.IsTuple (Shared.heap ⟨hp.push { cls:=.type "tuple_iterator",data:=.fields #[.ref a1,.int 0 0]},g,d,tk,os⟩) a2 ys:=Heap.IsTuple.push h2 _;wp_walk using wpAny_pyIter_tuple q1,wpAny_pyIter_tuple q2;exact⟨_,rfl,h⟩
  ·have q1:Heap.IsTuple (Shared.heap ⟨hp,g,d,tk,os⟩) a1 xs:=h1;have q2:Heap.IsList (Shared.heap ⟨hp.push { cls:=.type "tuple_iterator",data:=.fields #[.ref a1,.int 0 0]},g,d,tk,os⟩) a2 ys:=Heap.IsList.push h2 _;wp_walk using wpAny_pyIter_tuple q1,wpAny_pyIter_list q2;exact⟨_,rfl,h⟩
  ·have q1:Heap.IsList (Shared.heap ⟨hp,g,d,tk,os⟩) a1 xs:=h1;have q2:Heap.IsTuple (Shared.heap ⟨hp.push { cls:=.type "list_iterator",data:=.fields #[.ref a1,.int 0 0]},g,d,tk,os⟩) a2 ys:=Heap.IsTuple.push h2 _;wp_walk using wpAny_pyIter_list q1,wpAny_pyIter_tuple q2;exact⟨_,rfl,h⟩
  ·have q1:Heap.IsList (Shared.heap ⟨hp,g,d,tk,os⟩) a1 xs:=h1;have q2:Heap.IsList (Shared.heap ⟨hp.push { cls:=.type "list_iterator",data:=.fields #[.ref a1,.int 0 0]},g,d,tk,os⟩) a2 ys:=Heap.IsList.push h2 _;wp_walk using wpAny_pyIter_list q1,wpAny_pyIter_list q2;exact⟨_,rfl,h⟩
theorem qgoz{k1 k2:Bool}{h:Heap}{a1 a2:Addr}:IsZip (zw5 k1 k2 h a1 a2) (h.objs.size+4) (h.objs.size+2) (h.objs.size+3) .none/\IsPair (zw5 k1 k2 h a1 a2) (h.objs.size+2) (.ref h.objs.size) (.ref (h.objs.size+1))/\IsPair (zw5 k1 k2 h a1 a2) (h.objs.size+3) .none .none ∧
  Ik k1 (zw5 k1 k2 h a1 a2) h.objs.size a1 0/\Ik k2 (zw5 k1 k2 h a1 a2) (h.objs.size+1) a2 0/\(zw4 k1 k2 h a1 a2).objs.size=h.objs.size+4/\∀c o,h.get? c=some o->(zw5 k1 k2 h a1 a2).get? c=some o:=by
 have e1:(zw1 k1 h a1).objs.size=h.objs.size+1:=Heap.size_push ..;have e2:(zw2 k1 k2 h a1 a2).objs.size=h.objs.size+2:=(Heap.size_push ..).trans (by rw[e1]);have e3:(zw3 k1 k2 h a1 a2).objs.size=h.objs.size+3:=(Heap.size_push ..).trans (by rw[e2]);have e4:(zw4 k1 k2 h a1 a2).objs.size=h.objs.size+4:=(Heap.size_push ..).trans (by rw[e3]);have u5:∀c o,(zw4 k1 k2 h a1 a2).get? c=some o->(zw5 k1 k2 h a1 a2).get? c=some o:=fun c o e=>Heap.get?_push_of_some _ e;have u4:∀c o,(zw3 k1 k2 h a1 a2).get? c=some o->(zw5 k1 k2 h a1 a2).get? c=some o:=fun c o e=>u5 c o (Heap.get?_push_of_some _ e);have u3:∀c o,(zw2 k1 k2 h a1 a2).get? c=some o->(zw5 k1 k2 h a1 a2).get? c=some o:=fun c o e=>u4 c o (Heap.get?_push_of_some _ e);have u2:∀c o,(zw1 k1 h a1).get? c=some o->(zw5 k1 k2 h a1 a2).get? c=some o:=fun c o e=>u3 c o (Heap.get?_push_of_some _ e);have u1:∀c o,h.get? c=some o->(zw5 k1 k2 h a1 a2).get? c=some o:=fun c o e=>u2 c o (Heap.get?_push_of_some _ e);have g5:(zw5 k1 k2 h a1 a2).get? (zw4 k1 k2 h a1 a2).objs.size=some _:=Heap.get?_push_size _ rfl;have g4:(zw5 k1 k2 h a1 a2).get? (zw3 k1 k2 h a1 a2).objs.size=some _:=u5 _ _ (Heap.get?_push_size _ rfl);have g3:(zw5 k1 k2 h a1 a2).get? (zw2 k1 k2 h a1 a2).objs.size=some _:=u4 _ _ (Heap.get?_push_size _ rfl);have g2:(zw5 k1 k2 h a1 a2).get? (zw1 k1 h a1).objs.size=some (itO k2 a2):=u3 _ _ (Heap.get?_push_size _ qk6z);have g1:(zw5 k1 k2 h a1 a2).get? h.objs.size=some (itO k1 a1):=u2 _ _ (Heap.get?_push_size _ qk6z);rw[e2,e3,e4] at g5;rw[e1,e2] at g3;rw[e3] at g4;rw[e1] at g2;exact⟨g5,g3,g4,itK g1,itK g2,e4,u1⟩
theorem qk7z{P:Program}{w:World}{A:Around}{E:Value->Shared->Prop}{s:Shared}{k1 k2:Bool}{a1 a2:Addr}{xs ys:Array Value}{Q:Value->Shared->Prop}(h1:Sk k1 s.heap a1 xs)(h2:Sk k2 s.heap a2 ys)
  (q:Q (.ref (s.heap.objs.size+4)) { s with heap:=zw5 k1 k2 s.heap a1 a2 }):wpAny (model P w) A (call (.type "zip") [.ref a1,.ref a2]) Q E s:=by
 refine callType_new F.called_zip (by decide) (F.typeCall_zip_2 _ _) (F.newCall_zip_2 _ _) (fun obj=>F.args_object_init_3 obj _ _) F.entry_zip_new (qv8z k1 k2 a1 a2 xs ys) ⟨h1,h2,?_⟩;obtain⟨z1,_,_,_,_,z2,_⟩:=qgoz (k1:=k1) (k2:=k2) (h:=s.heap) (a1:=a1) (a2:=a2);show _/\_;rw[z2];exact⟨⟨_,z1,rfl⟩,q⟩
section
variable {X:Cx} {es:List Expr} {n0:Nat} {ps p pos:Pos}
def jZip(K:PySem.W.Frag)(ta:TA):TI:=fun σ H R=>ta σ H fun vs H1=>∃k1 k2 a1 a2,vs=[.ref a1,.ref a2]/\(∃xs,SqK K k1 H1 a1 xs)/\(∃ys,SqK K k2 H1 a2 ys)/\R (Itz K k1 k2 a1 a2) H1
theorem qv9z{a b:Expr}{ta:TA}(hg:Gl X "zip")(hm:X.mg "zip" = none)(ha:PA X [a,b] ta)(hs:starEach [a,b] X.env=[(false,eval a X.env),(false,eval b X.env)]:=by rfl)(hs2:starEach [b] X.env=[(false,eval b X.env)]:=by rfl):
  PI X (.Tuple es n0 ps) (.Call (.Name "zip" p) [a,b] [] pos) (jZip X.K ta):=by
 intro pins s σ H R I h;refine Call_ (qa0z I hg hm boot_zip (PyProof.Rows.callWith_type1 (thn (ha pos pins s σ H _ I h) fun us s1 ⟨vs,H1,I1,r1,q1⟩=>?_) (by rw[hs,hs2]) (by rw[hs2];rfl)));obtain⟨k1,k2,a1,a2,e,⟨xs,q1⟩,⟨ys,q2⟩,q⟩:=q1;subst e;cases r1 with
 |cons r rr=>
  cases rr with
  |cons r' rr=>
   cases rr;cases r;cases r';obtain⟨its1,rv1,p1⟩:=q1.heap I1;obtain⟨its2,rv2,p2⟩:=q2.heap I1;refine qk7z p1 p2 ?_;obtain⟨z1,z2,z3,z4,z5,z6,z7⟩:=qgoz (k1:=k1) (k2:=k2) (h:=s1.heap) (a1:=a1) (a2:=a2);refine wpAny_pyIter_zip (s:={ s1 with heap:=zw5 k1 k2 s1.heap a1 a2 }) z1 ?_
   refine⟨s1.heap.objs.size+4,[s1.heap.objs.size+4,s1.heap.objs.size+2,s1.heap.objs.size+3,s1.heap.objs.size,s1.heap.objs.size+1],_,_,H1,rfl,I1.kept (t':=s1.toks) z7,qv7z k1 k2 a1 a2 _ _ _ _ _ (by simp),⟨z1,z2,⟨_,_,z3⟩,z4,z5⟩,fun b hb=>?_,q⟩;have hb:s1.heap.objs.size≤b:=by
    simp only[List.mem_cons,List.not_mem_nil,or_false] at hb;rcases hb with rfl|rfl|rfl|rfl|rfl
    ·exact Nat.le_add_right _ _
    ·exact Nat.le_add_right _ _
    ·exact Nat.le_add_right _ _
    ·exact Nat.le_refl _
    ·exact Nat.le_add_right _ _
   exact I1.fpOk hb (I1.hok.fresh hb)
def seqD(G:Gp):D->List D->Prop
 |.obj p,ds=>G p=some (.lst ds)
 |.tup es,ds=>ds=es
 |.scr es,ds=>ds=es
 |_,_=>False
def zipD(xs ys:List D):List D:=List.zipWith (fun x y=>.tup [x,y]) xs ys
def iZip(ta:TA3):TI3:=fun τ G R=>ta τ G fun ds G1=>match ds with
 |[x,y]=>∃xs ys,seqD G1 x xs/\seqD G1 y ys/\R ⟨zipD xs ys,fun G=>seqD G x xs/\seqD G y ys⟩ G1
 |_=>False
theorem qdaz{K:PySem.W.Frag}{H:Hp}{x:D}{v:V}(hv:Hv K H x v):∃k,∀H' G' xs,Ext H H'->RepG K G' H'->seqD G' x xs->∃a vs,v=.ref a/\SqK K k H' a vs/\Hvs K H' xs vs:=by
 cases x with
 |obj p=>
  unfold Hv at hv;subst hv;refine⟨true,fun H' G' xs E RG h=>?_⟩;obtain⟨vs,e2,e3⟩:=RG p _ h;exact⟨p,vs,rfl,SqL.of e2,e3⟩
 |tup es=>
  unfold Hv at hv;obtain⟨a,vs,rfl,e2,e3⟩:=hv;refine⟨false,fun H' G' xs E RG h=>?_⟩;cases (show xs=es from h);exact⟨a,vs,rfl,SqT.ext E e2,e3.ext E⟩
 |scr es=>
  unfold Hv at hv;obtain⟨a,vs,rfl,e2,e3⟩:=hv;refine⟨true,fun H' G' xs E RG h=>?_⟩;cases (show xs=es from h);exact⟨a,vs,rfl,(SqF.ext E e2).l,e3.ext E⟩
 |non=>exact⟨true,fun _ _ _ _ _ h=>h.elim⟩
 |bl _=>exact⟨true,fun _ _ _ _ _ h=>h.elim⟩
 |int _=>exact⟨true,fun _ _ _ _ _ h=>h.elim⟩
 |str _=>exact⟨true,fun _ _ _ _ _ h=>h.elim⟩
 |dc _=>exact⟨true,fun _ _ _ _ _ h=>h.elim⟩
theorem qk8z{xs ys:List D}{i:Nat}{d:D}(h:(zipD xs ys)[i]?=some d):∃x y,xs[i]?=some x/\ys[i]?=some y/\d=.tup [x,y]:=by
 unfold zipD at h;rw[List.getElem?_zipWith] at h;cases hx:xs[i]? with
 |none=>rw[hx] at h;cases h
 |some x=>
  cases hy:ys[i]? with
  |none=>rw[hx,hy] at h;cases h
  |some y=>
   rw[hx,hy] at h;cases h;exact⟨x,y,rfl,rfl,rfl⟩
theorem qwaz{a b:Expr}{ta:TA3}(hm:X.mg "zip" = none)(ha:PA3 X [a,b] ta)(hg:Gl X "zip":=by rfl)(hs:notStar a=true:=by rfl)(hs2:notStar b=true:=by rfl):
  PI3 X (.Tuple es n0 ps) (.Call (.Name "zip" p) [a,b] [] pos) (iZip ta):=
 qc3z (qv9z hg hm ha (by rw[qpz hs,qpz hs2];rfl) (qpz hs2)) fun σ H R ⟨τ,G,R3,RS,RG,h,k⟩=>⟨τ,G,_,RS,RG,h,fun vs H1 ds G1 h1 S1 R1 q1=>by
  rcases ds with _|⟨d,_|⟨d2,_|⟨d3,ds⟩⟩⟩
  ·exact q1.elim
  ·exact q1.elim
  ·obtain⟨xs,ys,s1,s2,q⟩:=q1;obtain⟨v,r,rfl,z1,z2⟩:=h1.inv;obtain⟨v',r',rfl,z3,z4⟩:=z2.inv;cases z4.inv0;obtain⟨k1,f1⟩:=qdaz z1;obtain⟨k2,f2⟩:=qdaz z3;obtain⟨a1,vs1,rfl,y1,w1⟩:=f1 _ _ _ (Ext.refl _) R1 s1;obtain⟨a2,vs2,rfl,y2,w2⟩:=f2 _ _ _ (Ext.refl _) R1 s2;refine⟨k1,k2,a1,a2,rfl,⟨_,y1⟩,⟨_,y2⟩,k _ _ _ _ ⟨?_,?_⟩ S1 R1 q⟩
   ·intro i d H' G' E' RG' hg hi;obtain⟨x,y,e1,e2,rfl⟩:=qk8z hi;obtain⟨b1,us1,c1,m1,n1⟩:=f1 _ _ _ E' RG' hg.1;obtain⟨b2,us2,c2,m2,n2⟩:=f2 _ _ _ E' RG' hg.2;cases c1;cases c2;obtain⟨u1,o1,o2⟩:=n1.get e1;obtain⟨u2,o3,o4⟩:=n2.get e2;refine⟨⟨_,_,_,_,⟨m1,o1⟩,m2,o3⟩,fun x' H'' hy=>?_⟩;obtain⟨T,u,v,rfl,hn,rfl,t1,t2⟩:=hy;have:=t1 _ m1;rw[o1] at this;cases this;have:=t2 _ m2;rw[o3] at this;cases this;refine⟨?_,.laid hn,RG'.laid hn⟩;unfold Hv;exact⟨T,_,rfl,.of qvz,.cons (o2.ext (.laid hn)) (.cons (o4.ext (.laid hn)) .nil)⟩
   ·intro i H' G' E' RG' hg hi;obtain⟨b1,us1,c1,m1,n1⟩:=f1 _ _ _ E' RG' hg.1;obtain⟨b2,us2,c2,m2,n2⟩:=f2 _ _ _ E' RG' hg.2;cases c1;cases c2;refine⟨_,_,m1,m2,?_⟩;have hi:(zipD xs ys).length≤i:=hi;unfold zipD at hi;rw[List.length_zipWith] at hi;rw[←n1.length,←n2.length];lia
  ·exact q1.elim⟩
end
end L3
namespace L3
open PySem PySem.Spec PyProof.Rows L2
open Sem (wp)
theorem drawsK{P:Program}{w:World}{A:Around}{k:Bool}(hh:A.handled=none)(it a:Addr)(hne:a≠it)(xs:Array Value):
  Draws P w A it [it,a] xs.size (fun i v=>xs[i]?=some v) (fun i h=>Ik k h it a i/\Sk k h a xs) where
 live:=fun _ _ st=>let ⟨o,ho,_⟩:=st.1.obj;⟨o,ho⟩
 frame:=fun _ _ _ st hk=>⟨st.1.of fun o e=>hk it (by simp) o e,st.2.of fun o e=>hk a (by simp) o e⟩
 item:=fun i s Q E hi st hQ=>by
  refine nextK st.1 st.2 (u:=xs[i]) (by simp[hi]) fun h' hit' hs'=>?_;exact hQ _ h' s.toks (by simp[hi]) ⟨hit',st.2.of fun o e=>hs'.extBut a o hne e⟩ hs'
 done:=fun s Q E st hE=>qciz hh st.1 st.2 (by simp) hE
section
variable {P:Program} {w:World} {A:Around} {E:Value->Shared->Prop} {s:Shared}
theorem qwbz{k:Bool}{e it a:Addr}{i:Int}{j:Nat}{xs:Array Value}{old:Value}{Q:Option Value->Shared->Prop}(hh:A.handled=none)(he:IsEnum s.heap e it i old)(hi:Ik k s.heap it a j)(ha:Sk k s.heap a xs)(hx:xs[j]?=none)
  (hQ:∀h',Heap.ExtBut it s.heap h'->Q none { s with heap:=h' }):wpAny (model P w) A (pyNext (.ref e)) Q E s:=by
 have hT:s.TypeIs (.ref e) "enumerate":=⟨_,he,rfl⟩;unfold pyNext;refine wpAny_bind (wpAny_attempt (wpAny_callSpecial?_slot (name:=Str.ofString "__next__") hT F.slot_enumerate_next
  (wpAny_call_entry F.slot_enumerate_next hT F.entry_enumerate_next ?_ (F.args_enumerate_next_1 _))))
 show wpAny _ _ (field (.ref e) 2 >>= _) _ _ _;refine wpAny_bind (wpAny_field he rfl (x:=.ref it) rfl ?_);refine wpAny_bind (qciz (by simpa using hh) hi ha hx fun h' x he' hx'=>?_);obtain⟨o,ho,hc⟩:=hx';refine wpAny_bind (wpAny_isInstance (T:="StopIteration") (b:=true) ⟨o,ho,hc⟩ isSubtype_stop ?_);exact wpAny_pure (hQ _ he')
open AutoSeq1 (wpAny_loadPart') in
theorem qwcz(l:Addr)(items:Array Value)(n:Nat)(dct:Option Addr)(sl:Array (Option Value)):
  Meets (Builtin.«enumerate.__new__» ⟨[.type "enumerate",.ref l],[]⟩) (fun _ R s=>s.heap.get? l=some { cls:=.type "tuple",dict:=dct,data:=.seq items n,slots:=sl } ∧
   R (.ok (.ret (.ref (s.heap.push { cls:=.type "tuple_iterator",data:=.fields #[.ref l,.int 0 0]}).objs.size)))
    { s with heap:=(s.heap.push { cls:=.type "tuple_iterator",data:=.fields #[.ref l,.int 0 0]}).push { cls:=.type "enumerate",data:=.fields #[.none,.bool false,.ref s.heap.objs.size,rawInt 0,.none,.none]}}):=
 .of_wp fun prog w A R s h=>by
  obtain⟨hp,g,d,tk,os⟩:=s;obtain⟨hl,h⟩:=h;have hsub:=sub_enumerate;have hL:Heap.IsTuple (Shared.heap ⟨hp,g,d,tk,os⟩) l items:=⟨_,hl,rfl,n,rfl⟩;wp_walk using wpAny_loadPart' hl;refine wpAny_stack_any fun st=>wpAny_pure ?_;split
  ·rename_i c _ _ _ _ _;cases (c==Value.type "enumerate")
   ·wp_walk using wpAny_loadPart' hl,wpAny_pyIter_tuple hL;exact⟨_,rfl,h⟩
   ·wp_walk using wpAny_loadPart' hl,wpAny_pyIter_tuple hL;exact⟨_,rfl,h⟩
  ·wp_walk using wpAny_loadPart' hl,wpAny_pyIter_tuple hL;exact⟨_,rfl,h⟩
theorem qwdz{l:Addr}{items:Array Value}{Q:Value->Shared->Prop}(hL:s.heap.IsTuple l items)
  (h:∀h',IsEnum h' (s.heap.objs.size+1) s.heap.objs.size 0 .none->h'.IsTupleIter s.heap.objs.size l 0->h'.objs.size=s.heap.objs.size+2 ->
   (∀b o,s.heap.get? b=some o->h'.get? b=some o)->Q (.ref (s.heap.objs.size+1)) { s with heap:=h' }):
  wpAny (model P w) A (call (.type "enumerate") [.ref l]) Q E s:=by
 obtain⟨⟨c,dct,dt,sl⟩,hl,hc,n,hd⟩:=hL
 replace hc:c=.type "tuple":=hc
 replace hd:dt=.seq items n:=hd
 subst hc hd;refine callType_new F.called_enumerate (by decide) (F.typeCall_enumerate_1 _) (F.newCall_enumerate_1 _) (fun obj=>F.args_object_init_2 obj _) F.entry_enumerate_new
  (qwcz l items n dct sl) ⟨hl,?_⟩
 have hz:(s.heap.push { cls:=.type "tuple_iterator",data:=.fields #[.ref l,.int 0 0]}).objs.size=s.heap.objs.size+1:=Heap.size_push ..;show _/\_;rw[hz];have he:IsEnum ((s.heap.push { cls:=.type "tuple_iterator",data:=.fields #[.ref l,.int 0 0]}).push
   { cls:=.type "enumerate",data:=.fields #[.none,.bool false,.ref s.heap.objs.size,rawInt 0,.none,.none]}) (s.heap.objs.size+1) s.heap.objs.size 0 .none:=by
  have:=Heap.get?_push_size (s.heap.push { cls:=.type "tuple_iterator",data:=.fields #[.ref l,.int 0 0]})
   (o:={ cls:=.type "enumerate",data:=.fields #[.none,.bool false,.ref s.heap.objs.size,rawInt 0,.none,.none]}) rfl
  rw[hz] at this;exact this
 refine⟨⟨_,he,rfl⟩,h _ he ⟨_,Heap.get?_push_of_some _ (Heap.get?_push_size _ rfl),rfl,rfl⟩ (by rw[Heap.size_push,hz]) fun b o x=>Heap.get?_push_of_some _ (Heap.get?_push_of_some _ x)⟩
theorem qwez{k:Bool}{l:Addr}{items:Array Value}{Q:Value->Shared->Prop}(hL:Sk k s.heap l items)
  (h:∀h',IsEnum h' (s.heap.objs.size+1) s.heap.objs.size 0 .none->Ik k h' s.heap.objs.size l 0->h'.objs.size=s.heap.objs.size+2 ->
   (∀b o,s.heap.get? b=some o->h'.get? b=some o)->Q (.ref (s.heap.objs.size+1)) { s with heap:=h' }):
  wpAny (model P w) A (call (.type "enumerate") [.ref l]) Q E s:=by
 cases k with
 |true=>exact call_enumerate_list hL h
 |false=>exact qwdz hL h
end
def Itn(K:PySem.W.Frag)(k:Bool)(a:Addr):It:=
 ⟨fun i H=>∃xs x,SqK K k H a xs/\xs[i]?=some x,
  fun i H x H'=>∃T u,x=.ref T/\H T=none/\H'=upd H T (.tup [.int i,u])/\∀xs,SqK K k H a xs->xs[i]?=some u,
  fun i H=>∃xs,SqK K k H a xs/\xs.length≤i⟩
theorem qwfz{P:Program}{w:World}{K:PySem.W.Frag}{es:List Expr}{n0:Nat}{ps:Pos}(k:Bool)(a en jt:Addr)(hne:en≠jt):
  Turn P w K (.Tuple es n0 ps) (Itn K k a) [en,jt] en (fun i h=>(∃old,IsEnum h en jt i old)/\Ik k h jt a i) where
 mem:=by simp
 obj:=fun i h st b hb=>by
  obtain⟨⟨old,Z⟩,g⟩:=st;simp only[List.mem_cons,List.not_mem_nil,or_false] at hb;rcases hb with rfl|rfl
  ·exact⟨_,Z,fun v z=>by cases (show Data.fields _=Data.cell v from z)⟩
  ·exact g.obj
 keep:=fun i h h' st k=>⟨let ⟨old,Z⟩:=st.1;⟨old,k _ (by simp) _ Z⟩,st.2.of fun o e=>k _ (by simp) _ e⟩
 item:=by
  intro X hP hw hK hc i pins s σ H E I hf st hg;subst hP hw hK;obtain⟨⟨old,Z⟩,g⟩:=st;obtain⟨xs,x,q1,hx⟩:=hg;obtain⟨its,rv,p⟩:=SqK.heap I q1;obtain⟨u,hu,ru⟩:=rv.get hx;have hi:i<its.toArray.size:=by
   have:=(List.getElem?_eq_some_iff.mp hu).1;simpa using this
  have hja:a≠jt:=SqK.apart I q1 (hf jt (by simp));have hea:a≠en:=SqK.apart I q1 (hf en (by simp));refine wpAny_pyNext_enum_itemD (drawsK (k:=k) (by have:=I.ok.hd hc;simpa using this) jt a hja its.toArray) Z ⟨g,p⟩ hi hne (by simp[hne,hea.symm]) fun x2 h' tk hx2 Z' g' T' sz kp=>⟨_,rfl,?_⟩;have ex:x2=u:=by
   have:its.toArray[i]?=some u:=by simpa using hu
   rw[hx2] at this;exact Option.some.inj this
  subst ex;refine wpAny_letOwnedTupleGo_enum (s:={ s with heap:=h',toks:=tk+1 }) Z' fun h2 Z2 b2=>?_;have hn:H s.heap.objs.size=none:=I.hok.fresh (Nat.le_refl _);have I1:L2.Inv X pins σ (upd H s.heap.objs.size (.tup [.int i,x])) { s with heap:=s.heap.push { cls:=.type "tuple",data:=.seq #[.int i tk,x2]}}:=I.laid (t':=s.toks) (fun b o e=>Heap.get?_push_of_some _ e) (Nat.le_refl _) ⟨by show 2≤sizeLine;decide,[.int i tk,x2],.cons ⟨_,rfl⟩ (.cons ru .nil),⟨_,Heap.get?_push_size _ rfl,rfl,_,rfl⟩⟩;have lt:∀b∈[en,jt],b<s.heap.objs.size:=fun b hb=>by
   simp only[List.mem_cons,List.not_mem_nil,or_false] at hb;rcases hb with rfl|rfl
   ·exact Heap.lt_size Z
   ·obtain⟨o,e,_⟩:=g.obj;exact Heap.lt_size e
  have hf':∀b∈[en,jt],FpOk X pins (upd H s.heap.objs.size (.tup [.int i,x])) b:=fun b hb=>⟨by rw[qlz (Nat.ne_of_lt (lt b hb))];exact (hf b hb).1,(hf b hb).2⟩;have I2:L2.Inv X pins σ (upd H s.heap.objs.size (.tup [.int i,x])) { s with heap:=h2,toks:=tk+1 }:=turnedL (s:={ s with heap:=s.heap.push { cls:=.type "tuple",data:=.seq #[.int i tk,x2]}}) (t':=tk+1) I1 (fun b o hb e=>by
   simp only[List.mem_cons,List.not_mem_nil,or_false,not_or] at hb;refine b2.extBut b o hb.1 ?_;rcases Heap.get?_push_cases e with⟨rfl,rfl⟩|e
   ·exact T'
   ·exact kp b o hb.1 hb.2 e) hf'
  exact⟨.ref s.heap.objs.size,_,I2,rfl,⟨_,x,rfl,hn,rfl,fun zs hz=>by rw[SqK.inj I hz q1];exact hx⟩,⟨⟨_,Z2⟩,g'.1.of fun o e=>b2.extBut jt o hne.symm e⟩,fun b hb=>(hf' b hb).1⟩
 done:=by
  intro X hP hw hK hc i pins s σ H E I hf st hg;subst hP hw hK;obtain⟨⟨old,Z⟩,g⟩:=st;obtain⟨xs,q1,hl⟩:=hg;obtain⟨its,rv,p⟩:=SqK.heap I q1;have l1:=rv.length;exact qwbz (I.ok.hd hc) Z g p (by simp;omega) fun h' kp=>⟨rfl,turnedL (t':=s.toks) I (fun b o hb e=>by
   simp only[List.mem_cons,List.not_mem_nil,or_false,not_or] at hb;exact kp b o hb.2 e) hf⟩
 self:=fun _ _ _ _ _ st h=>let ⟨⟨_,Z⟩,_⟩:=st;wpAny_pyIter_enum Z h
section
variable {X:Cx} {es:List Expr} {n0:Nat} {ps p pos:Pos}
def jEnum(K:PySem.W.Frag)(ta:TA):TI:=fun σ H R=>ta σ H fun vs H1=>∃k a,vs=[.ref a]/\(∃xs,SqK K k H1 a xs)/\R (Itn K k a) H1
theorem qwgz{a:Expr}{ta:TA}(hg:Gl X "enumerate")(hm:X.mg "enumerate" = none)(ha:PA X [a] ta)(hs:starEach [a] X.env=[(false,eval a X.env)]:=by rfl):PI X (.Tuple es n0 ps) (.Call (.Name "enumerate" p) [a] [] pos) (jEnum X.K ta):=by
 intro pins s σ H R I h;refine Call_ (qa0z I hg hm boot_enumerate (PyProof.Rows.callWith_type1 (thn (ha pos pins s σ H _ I h) fun us s1 ⟨vs,H1,I1,r1,q1⟩=>?_) hs rfl));obtain⟨k,a1,e,⟨xs,q1⟩,q⟩:=q1;subst e;cases r1 with
 |cons r rr=>
  cases rr;cases r;obtain⟨its,rv,p⟩:=SqK.heap I1 q1;refine qwez p fun h' z1 z2 z3 z4=>?_;refine wpAny_pyIter_enum (s:={ s1 with heap:=h' }) z1 ?_
  refine⟨s1.heap.objs.size+1,[s1.heap.objs.size+1,s1.heap.objs.size],_,_,H1,rfl,I1.kept (t':=s1.toks) z4,qwfz k a1 _ _ (by simp),⟨⟨_,z1⟩,z2⟩,fun b hb=>?_,q⟩;have hb:s1.heap.objs.size≤b:=by
   simp only[List.mem_cons,List.not_mem_nil,or_false] at hb;rcases hb with rfl|rfl
   ·exact Nat.le_add_right _ _
   ·exact Nat.le_refl _
  exact I1.fpOk hb (I1.hok.fresh hb)
def enumD(xs:List D):List D:=zipD (rngL 0 xs.length) xs
def iEnum(ta:TA3):TI3:=fun τ G R=>ta τ G fun ds G1=>match ds with
 |[x]=>∃xs,seqD G1 x xs/\R ⟨enumD xs,fun G=>seqD G x xs⟩ G1
 |_=>False
theorem qwhz{a:Expr}{ta:TA3}(hm:X.mg "enumerate" = none)(ha:PA3 X [a] ta)(hg:Gl X "enumerate":=by rfl)(hs:notStar a=true:=by rfl):
  PI3 X (.Tuple es n0 ps) (.Call (.Name "enumerate" p) [a] [] pos) (iEnum ta):=
 qc3z (qwgz hg hm ha (qpz hs)) fun σ H R ⟨τ,G,R3,RS,RG,h,k⟩=>⟨τ,G,_,RS,RG,h,fun vs H1 ds G1 h1 S1 R1 q1=>by
  rcases ds with _|⟨d,_|⟨d2,ds⟩⟩
  ·exact q1.elim
  ·obtain⟨xs,s1,q⟩:=q1;obtain⟨v,r,rfl,z1,z2⟩:=h1.inv;cases z2.inv0;obtain⟨kk,hsq⟩:=qdaz z1;obtain⟨a1,vs1,rfl,y1,w1⟩:=hsq _ _ _ (Ext.refl _) R1 s1;refine⟨kk,a1,rfl,⟨_,y1⟩,k _ _ _ _ ⟨?_,?_⟩ S1 R1 q⟩
   ·intro i d H' G' E' RG' hg hi;obtain⟨x,y,e1,e2,rfl⟩:=qk8z hi;obtain⟨b1,us1,c1,m1,n1⟩:=hsq _ _ _ E' RG' hg;cases c1;obtain⟨u1,o1,o2⟩:=n1.get e2;obtain⟨_,rfl⟩:=qjyz e1;refine⟨⟨_,_,m1,o1⟩,fun x' H'' hy=>?_⟩;obtain⟨T,u,rfl,hn,rfl,t1⟩:=hy;have:=t1 _ m1;rw[o1] at this;cases this;refine⟨?_,.laid hn,RG'.laid hn⟩;unfold Hv;exact⟨T,_,rfl,.of qvz,.cons (by simp[Hv]) (.cons (o2.ext (.laid hn)) .nil)⟩
   ·intro i H' G' E' RG' hg hi;obtain⟨b1,us1,c1,m1,n1⟩:=hsq _ _ _ E' RG' hg;cases c1;refine⟨_,m1,?_⟩;have hi:(enumD xs).length≤i:=hi;unfold enumD zipD at hi;rw[List.length_zipWith,qbqz] at hi;rw[←n1.length];omega
  ·exact q1.elim⟩
end
end L3
namespace L3
open PySem PySem.Spec PyProof.Rows L2
open Classical in
noncomputable def eqF (h:Heap) (vs:List Dat.D) (u:Dat.D) (y:Value):Bool:=if q:∃d,d∈vs/\Dat.Hv h d y then (Classical.choose q).eqb u else false
theorem qk9z{h:Heap}{vs:List Dat.D}{u d:Dat.D}{y:Value}(hd:d∈vs)(hy:Dat.Hv h d y):eqF h vs u y=d.eqb u:=by
 unfold eqF;have q:∃d,d∈vs/\Dat.Hv h d y:=⟨d,hd,hy⟩;rw[dif_pos q,Dat.Hv.inj (Classical.choose_spec q).2 hy]
theorem qgpz{h:Heap}{vs0:List Dat.D}{u:Dat.D}:∀{vs:List Dat.D} {us:List Value},(∀d∈vs,d∈vs0)->Dat.Hvs h vs us->us.any (eqF h vs0 u)=vs.any fun v=>v.eqb u
 |[],us,_,p=>by
  unfold Dat.Hvs at p;subst p;rfl
 |d::ds,us,hm,p=>by
  unfold Dat.Hvs at p;obtain⟨y,r,rfl,p1,p2⟩:=p;rw[List.any_cons,List.any_cons,qk9z (hm d List.mem_cons_self) p1,qgpz (fun d hd=>hm d (List.mem_cons_of_mem _ hd)) p2]
theorem qlaz{h:Heap}{y:Value}:∀{vs:List Dat.D} {us:List Value},Dat.Hvs h vs us->y∈us->∃d,d∈vs/\Dat.Hv h d y
 |[],us,p,hy=>by
  unfold Dat.Hvs at p;subst p;cases hy
 |d::ds,us,p,hy=>by
  unfold Dat.Hvs at p;obtain⟨x,r,rfl,p1,p2⟩:=p;rcases List.mem_cons.mp hy with rfl|hy
  ·exact⟨d,List.mem_cons_self,p1⟩
  ·obtain⟨e,h1,h2⟩:=qlaz p2 hy;exact⟨e,List.mem_cons_of_mem _ h1,h2⟩
def rIn3(neg:Bool):R3:=fun x y G Q=>∃u vs,toDat G x=some u/\(toDat G y=some (.lst vs)∨toDat G y=some (.tup vs))/\Dat.deps vs≤50/\Q (.bl (if neg then !(vs.any fun v=>v.eqb u) else vs.any fun v=>v.eqb u)) G
section
variable {X:Cx}
theorem inR(hu:X.A.units+64<cLine):CmpR X (compareOp .In) (rIn3 false):=by
 intro pins s σ H G x y vx vy u v Q3 I RG hx hy rx ry ⟨p,vs,e1,e2,hd,h⟩;have dx:=qb4z I RG hx rx e1;have fin:EP X pins σ (fun w H'=>∃d G',Hv X.K H' d w/\Step H G H' G'/\RepG X.K G' H'/\Q3 d G') (.bool (vs.any fun v=>v.eqb p)) s:=⟨.bl _,H,I,rfl,.bl _,G,qapz,.refl H G,RG,h⟩;have he:∀(its:List Value),Dat.Hvs s.heap vs its->∀y,y∈its.toArray->SeqAt.EqAt X.A.in1 s y u (eqF s.heap vs p y):=fun its hv y hy=>by
  obtain⟨d,hd',hv'⟩:=qlaz hv (by simpa using hy);rw[qk9z hd' hv'];exact Dat.eqAt d p y u _ hv' dx (by
   have:=Dat.dep_mem hd';have h1:X.A.in1.units=X.A.units+1:=rfl;omega)
 rcases e2 with e2|e2
 ·have dy:=qb4z I RG hy ry e2;unfold Dat.Hv at dy;obtain⟨a,its,rfl,hl,hv⟩:=dy;refine SeqAt.in_listAt (eqF s.heap vs p) hl (he its hv) ?_;rw[List.any_toArray,qgpz (fun d hd=>hd) hv];exact fin
 ·have dy:=qb4z I RG hy ry e2;unfold Dat.Hv at dy;obtain⟨a,its,rfl,hl,hv⟩:=dy;refine SeqAt.in_tupleAt (eqF s.heap vs p) hl (he its hv) ?_;rw[List.any_toArray,qgpz (fun d hd=>hd) hv];exact fin
theorem qwiz(hu:X.A.units+64<cLine):OpR X (compareOp .In) (cmpR2 X.K (rIn3 false)):=(inR hu).op
theorem l_in{K:PySem.W.Frag}:LowR K (rIn3 false) (cmpR2 K (rIn3 false)):=qf4z
end
end L3
namespace L2
open PySem PySem.Spec PyProof.Rows
def Itr3(lo c:Int)(n:Nat):It:=⟨fun i _=>i<n,fun i H x H'=>H'=H/\x=.int (lo+i*c),fun i _=>n≤i⟩
theorem qwjz{P:Program}{w:World}{K:PySem.W.Frag}{tg:Expr}(it:Addr)(lo c:Int)(n:Nat):Turn P w K tg (Itr3 lo c n) [it] it (fun i h=>IsRangeIter h it (lo+(i:Nat)*c) ((n:Int)-(i:Nat)) c) where
 mem:=by simp
 obj:=fun i h st b hb=>by
  have e:b=it:=by simpa using hb
  subst e;exact⟨_,st,fun v z=>by
   have z':Data.fields _=Data.cell v:=z;cases z'⟩
 keep:=fun i h h' st k=>k it (by simp) _ st
 item:=by
  intro X hP hw hK hc i pins s σ H E I hf st hg;subst hP hw hK;obtain⟨f0,f1,f2,f3,f4,f5⟩:=hf it (by simp);have W:=Walks.range (prog:=X.prog) (w:=X.w) (I.ok.hd hc) it lo c n;refine W.item i s _ _ hg st fun v h' tk hv st' kk=>?_;obtain⟨t,rfl⟩:=hv;have I1:Inv X pins σ H { s with heap:=h',toks:=tk }:=I.turned (fun b o hb e=>kk b o (by simpa using hb) e) f0 f1 f3 f4 f5;refine⟨_,rfl,qeaz (s:={ s with heap:=h',toks:=tk }) (n:="range_iterator") st' rfl rfl (by decide) ⟨.int (lo+i*c),H,I1,⟨t,rfl⟩,⟨rfl,rfl⟩,st',fun b hb=>(hf b hb).1⟩⟩
 done:=by
  intro X hP hw hK hc i pins s σ H E I hf st hg;subst hP hw hK;obtain⟨f0,f1,f2,f3,f4,f5⟩:=hf it (by simp);exact wpAny_pyNext_range_end (I.ok.hd hc) st (by have:n≤i:=hg;omega) fun h' eb=>⟨rfl,I.turned (t':=s.toks) (fun b o hb e=>eb b o hb e) f0 f1 f3 f4 f5⟩
 self:=fun _ _ _ _ _ st h=>wpAny_pyIter_rangeiter st h
def cntR(i j c:Int):Nat:=if i<j then ((j-i-1) / c+1).toNat else 0
theorem qwkz{i j c:Int}(hc:0<c):Builtin.Range.rangeSize i j c=(cntR i j c:Int):=by
 unfold Builtin.Range.rangeSize cntR;rw[if_pos hc];split
 ·rename_i h;have:0≤(j-i-1) / c:=Int.ediv_nonneg (by omega) (by omega);omega
 ·rfl
theorem qwlz{i j c:Int}(h1:-(2^61)≤i)(h2:i<2^61)(h3:-(2^61)≤j)(h4:j<2^61)(hc:0<c)(hc2:c<2^30):Builtin.Range.small i j c=true:=by
 have hs:Builtin.Range.rangeSize i j c≤2^62/\0≤Builtin.Range.rangeSize i j c:=by
  unfold Builtin.Range.rangeSize;rw[if_pos hc];split
  ·rename_i h;have e1:(j-i-1) / c≤j-i-1:=Int.ediv_le_self _ (by omega);have e2:0≤(j-i-1) / c:=Int.ediv_nonneg (by omega) (by omega);omega
  ·omega
 unfold Builtin.Range.small;generalize Builtin.Range.rangeSize i j c=z at hs;simp only[Builtin.Range.rangeFitsLong,Bool.and_eq_true,Bool.or_eq_true,decide_eq_true_eq,beq_iff_eq,hc,gt_iff_lt,if_true];have:∀p q:Int,True:=fun _ _=>trivial;refine ?_;omega
section
variable {X:Cx} {tg:Expr}
theorem qwmz{pins:List (Addr×Obj)}{σ:St}{H:Hp}{s:Shared}{R:It->Hp->Prop}{E:Value->Shared->Prop}{lo hi c:Int}{t u v:Tok}{tk:Nat}(I:Inv X pins σ H s)(hs:Builtin.Range.small lo hi c=true)(hc:0<c)
  (q:R (Itr3 lo c (cntR lo hi c)) H):wpAny (model X.prog X.w) X.A (pyIter (.ref s.heap.objs.size)) (PIE X pins σ tg R) E { s with heap:=s.heap.push { cls:=.type "range",data:=.fields #[.int lo t,.int hi u,.int c v]},toks:=tk }:=by
 refine wpAny_pyIter_range (IsRange.new ..) hs ?_;have I1:Inv X pins σ H { s with heap:=s.heap.push { cls:=.type "range",data:=.fields #[.int lo t,.int hi u,.int c v]},toks:=tk }:=I.kept fun b o e=>Heap.get?_push_of_some _ e;refine⟨(s.heap.push { cls:=.type "range",data:=.fields #[.int lo t,.int hi u,.int c v]}).objs.size,[(s.heap.push { cls:=.type "range",data:=.fields #[.int lo t,.int hi u,.int c v]}).objs.size],_,_,H,rfl,
  I1.kept (t':=tk) fun b o e=>Heap.get?_push_of_some _ e,qwjz _ lo c (cntR lo hi c),?_,fun b hb=>?_,q⟩
 ·have e1:lo+((0:Nat):Int)*c=lo:=by simp
  have e2:(((cntR lo hi c):Nat):Int)-((0:Nat):Int)=Builtin.Range.rangeSize lo hi c:=by rw[qwkz hc];simp
  show IsRangeIter _ _ (lo+((0:Nat):Int)*c) ((((cntR lo hi c):Nat):Int)-((0:Nat):Int)) c;rw[e1,e2];exact Heap.get?_push_size _ rfl
 ·have e:b=(s.heap.push { cls:=.type "range",data:=.fields #[.int lo t,.int hi u,.int c v]}).objs.size:=by simpa using hb
  subst e;exact I1.fpOk (Nat.le_refl _) (I1.hok.fresh (Nat.le_refl _))
def iRng3'(ta:TA):TI:=fun σ H R=>ta σ H fun vs H1=>∃i j c:Int,vs=[.int i,.int j,.int c]/\(-(2^61)≤i/\i<2^61/\-(2^61)≤j/\j<2^61/\0<c/\c<2^30)/\R (Itr3 i c (cntR i j c)) H1
theorem qwnz{a b d:Expr}{ta:TA}{p pos:Pos}(hg:Gl X "range")(hm:X.mg "range" = none)(ha:PA X [a,b,d] ta)(hs:starEach [a,b,d] X.env=[(false,eval a X.env),(false,eval b X.env),(false,eval d X.env)])(hs2:starEach [b,d] X.env=[(false,eval b X.env),(false,eval d X.env)]):
  PI X tg (.Call (.Name "range" p) [a,b,d] [] pos) (iRng3' ta):=by
 intro pins s σ H R I h;refine Call_ (qa0z I hg hm boot_range (PyProof.Rows.callWith_type1 (thn (ha pos pins s σ H _ I h) fun us s1 ⟨vs,H1,I1,r1,q1⟩=>?_) (by rw[hs,hs2]) (by rw[hs2];rfl)));obtain⟨i,j,c,e,⟨q1,q2,q3,q4,q5,q6⟩,q⟩:=q1;subst e;cases r1 with
 |cons r rr=>
  cases rr with
  |cons r' rr=>
   cases rr with
   |cons r'' rr=>
    cases rr;obtain⟨t,rfl⟩:=r;obtain⟨t',rfl⟩:=r';obtain⟨t'',rfl⟩:=r'';exact call_range_3 (by omega) (qwmz I1 (qwlz q1 q2 q3 q4 q5 q6) q5 q) (.inl (PyProof.noPylong_small (by omega)))
end
section
variable {X:Cx}
theorem qwoz:PGet X (rIxL X.K):=by
 intro pins s σ H x y v u Q I rx ry h;obtain⟨p,xs,i,z,rfl,rfl,hq,he,q⟩:=h;cases rx;obtain⟨t,rfl⟩:=ry;obtain⟨its,r,pl,hz⟩:=I.list hq;obtain⟨j,h1,h2,h3,h4,h5⟩:=qefz he;obtain⟨w,ew,rw'⟩:=r.get h2;have hl:=r.length;have hn:=line63;have fin:EP X pins σ Q w s:=⟨z,H,I,rw',q⟩;by_cases h0:0≤i
 ·have hj:i.toNat=j:=by
   rw[seqIndex_of h0 h5] at h1;exact Option.some.inj h1
  exact wpAny_getItem_list pl.isList h0 (by omega) (by rw[hj];simpa using ew) fin
 ·have hj:(i+(its.toArray.size:Int)).toNat=j:=by
   rw[seqIndex_neg (by omega) h4] at h1;rw[List.size_toArray,←hl];exact Option.some.inj h1
  exact wpAny_getItem_list_neg pl.isList (by omega) (by rw[List.size_toArray]<;>omega) (by omega) (by rw[hj];simpa using ew) fin
end
end L2
namespace L3
open PySem PySem.Spec PyProof.Rows L2
section
variable {X:Cx} {tg:Expr} {p pos:Pos}
def rngC(lo c:Int)(n:Nat):List D:=(List.range n).map fun i:Nat=>.int (lo+(i:Int)*c)
theorem qwpz{lo c:Int}{n i:Nat}{d:D}(h:(rngC lo c n)[i]?=some d):i<n/\d=.int (lo+(i:Int)*c):=by
 unfold rngC at h;rw[List.getElem?_map] at h;by_cases hi:i<n
 ·rw[List.getElem?_range hi] at h;simp at h;exact⟨hi,h.symm⟩
 ·rw[List.getElem?_eq_none_iff.mpr (by simpa using hi)] at h;cases h
theorem qwqz(lo c:Int)(n:Nat):(rngC lo c n).length=n:=by simp[rngC]
theorem qwrz{K:PySem.W.Frag}{H:Hp}(lo c:Int)(n:Nat):SrcOk K H (Itr3 lo c n) ⟨rngC lo c n,fun _=>True⟩:=⟨by
 intro i d H' G' _ RG _ hi;obtain⟨h1,h2⟩:=qwpz hi;refine⟨h1,fun x H'' hy=>?_⟩;obtain⟨rfl,rfl⟩:=hy;exact⟨by rw[h2];simp[Hv],.refl _ _,RG⟩,by
 intro i H' G' _ RG _ hi;rw[qwqz] at hi;exact hi⟩
def iRng3(ta:TA3):TI3:=fun τ G R=>ta τ G fun ds G1=>match ds with
 |[.int i,.int j,.int c]=>(-(2^61)≤i/\i<2^61/\-(2^61)≤j/\j<2^61/\0<c/\c<2^30)/\R ⟨rngC i c (cntR i j c),fun _=>True⟩ G1
 |_=>False
theorem qwsz{a b d:Expr}{ta:TA3}(hm:X.mg "range" = none)(ha:PA3 X [a,b,d] ta)(hg:Gl X "range":=by rfl)(hs:notStar a=true:=by rfl)(hs2:notStar b=true:=by rfl)(hs3:notStar d=true:=by rfl):
  PI3 X tg (.Call (.Name "range" p) [a,b,d] [] pos) (iRng3 ta):=
 qc3z (qwnz hg hm ha (by rw[qpz hs,qpz hs2,qpz hs3];rfl) (by rw[qpz hs2,qpz hs3];rfl)) fun σ H R ⟨τ,G,R3,RS,RG,h,k⟩=>⟨τ,G,_,RS,RG,h,fun vs H1 ds G1 h1 S1 R1 q1=>by
  rcases ds with _|⟨d,_|⟨d2,_|⟨d3,_|⟨d4,ds⟩⟩⟩⟩
  ·exact q1.elim
  ·cases d<;>exact q1.elim
  ·cases d<;>(try exact q1.elim)<;>cases d2<;>exact q1.elim
  ·cases d with
   |int i=>
    cases d2 with
    |int j=>
     cases d3 with
     |int c=>
      obtain⟨v,r,rfl,z1,z2⟩:=h1.inv;obtain⟨v2,r2,rfl,z3,z4⟩:=z2.inv;obtain⟨v3,r3,rfl,z5,z6⟩:=z4.inv;cases z6.inv0;unfold Hv at z1 z3 z5;exact⟨i,j,c,by rw[z1,z3,z5],q1.1,k _ _ _ _ (qwrz i c _) S1 R1 q1.2⟩
     |_=>exact q1.elim
    |_=>cases d3<;>exact q1.elim
   |_=>cases d2<;>(try exact q1.elim)<;>cases d3<;>exact q1.elim
  ·cases d<;>(try exact q1.elim)<;>cases d2<;>(try exact q1.elim)<;>cases d3<;>exact q1.elim⟩
abbrev rIAdd3:R3:=rI3 fun i j=>.int (i+j)
theorem qwtz{K:PySem.W.Frag}:LowR K rIAdd3 (ipI fun i j=>i+j):=low_ints fun _ _ _=>qacz
theorem qwuz{o i e:Expr}{to ti te:TE3}{tpos:Pos}(ho:PE3 X o to)(hi:PE3 X i ti)(he:PE3 X e te)
  (ha:∀ov iv new,augStore i ov iv new=(do holding [new,ov,iv] (setItem ov iv new);release [new,ov,iv] [];pure .next):=by intros;rfl):
  PS3 X (.AugAssign (.Subscript o i tpos) .Add e pos) (sAugS to ti te (· + ·)):=
 qatz (qqmz ho hi qwoz he qi3z set_list ha) fun D σ H ⟨τ,G,D3,RS,RG,h,k⟩=>by
  refine⟨τ,G,_,RS,RG,h,fun v1 H1 d1 G1 h1 S1 R1 q1=>⟨τ,G1,_,RS.ext (S1.ext RG),R1,q1,fun v2 H2 d2 G2 h2 S2 R2 q2=>?_⟩⟩;cases d1 with
  |obj p=>
   cases d2 with
   |int j=>
    obtain⟨ds,x,e1,e2,q⟩:=q2;obtain⟨vs,z1,z2⟩:=R2 p _ e1;obtain⟨v,z3,z4⟩:=qc5z z2 e2;have hv1:v1=.ref p:=q2z h1;have hv2:v2=.int j:=qzz h2;refine⟨p,vs,j,v,hv1,hv2,.of z1,z3,⟨τ,G2,_,(RS.ext (S1.ext RG)).ext (S2.ext R1),R2,q,fun v5 H5 d5 G5 h5 S5 R5 q5=>?_⟩⟩;cases d5 with
    |int y=>
     have hx:v=.int x:=qzz z4;have hy:v5=.int y:=qzz h5;refine⟨x,y,hx,hy,?_⟩;exact qjxz (((h1.ext (S2.ext R1)).ext (S5.ext R2))) ((h2.ext (S5.ext R2))) qacz R5 q5 fun H' G' y1 y2 y3=>k.nx _ _ G' H' ((((RS.ext (S1.ext RG)).ext (S2.ext R1)).ext (S5.ext R2)).ext (y1.ext R5)) (((S1.trans S2).trans S5).trans y1) y2 y3
    |_=>exact q5.elim
   |_=>exact q2.elim
  |_=>cases d2<;>exact q2.elim
end
end L3
namespace L3
open PySem PySem.Spec PyProof.Rows L2
structure QE(X:Cx)(e:Expr)(t:TE3):Prop where
 of:PE3 X e t
structure QT(X:Cx)(e:Expr)(t:TT3):Prop where
 of:PT3 X e t
structure QW(X:Cx)(e:Expr)(t:TT3):Prop where
 of:PW3 X e t
structure QA(X:Cx)(es:List Expr)(t:TA3):Prop where
 of:PA3 X es t
structure QS(X:Cx)(st:Stmt)(t:TS3):Prop where
 of:PS3 X st t
structure QSs(X:Cx)(st:List Stmt)(t:TS3):Prop where
 of:PSs3 X st t
structure QG(X:Cx)(tg:Expr)(t:TG3):Prop where
 of:PG3 X tg t
structure QGs(X:Cx)(tgs:List Expr)(t:TGs3):Prop where
 of:PGs3 X tgs t
structure QI(X:Cx)(tg iter:Expr)(t:TI3):Prop where
 of:PI3 X tg iter t
structure QO(X:Cx)(e:Option Expr)(t:TO3):Prop where
 of:PO3 X e t
structure QC(X:Cx)(ifs:List Expr)(t:TT3):Prop where
 of:PCt X ifs (lowT X.K t)
section
variable {X:Cx} {a b e c:Expr} {ta tb te:TE3} {tA tB:TT3} {pos:Pos} {es rest:List Expr}
theorem qaz{i:Nat}{x:Str}(h:PE X (.Name x pos) (tVar i)):QE X (.Name x pos) (eVar i):=⟨qsdz (h:=h)⟩
end
section
variable {X:Cx} {a b e c:Expr} {ta tb te:TE3} {tA tB:TT3} {pos:Pos} {es rest:List Expr}
theorem qdz{i:Int}{j}:QE X (.Constant (.int i) j pos) (eC (.int i)):=⟨qsez ⟩
end
section
variable {X:Cx} {a b e c:Expr} {ta tb te:TE3} {tA tB:TT3} {pos:Pos} {es rest:List Expr}
theorem qadz{i:Bool}{j}:QE X (.Constant (.bool i) j pos) (eC (.bl i)):=⟨e_bl ⟩
end
section
variable {X:Cx} {a b e c:Expr} {ta tb te:TE3} {tA tB:TT3} {pos:Pos} {es rest:List Expr}
theorem quz{j}:QE X (.Constant .none j pos) (eC .non):=⟨qsfz ⟩
end
section
variable {X:Cx} {a b e c:Expr} {ta tb te:TE3} {tA tB:TT3} {pos:Pos} {es rest:List Expr}
theorem qbfz{x:Str}{i:Int}{u:Tok}(hm:X.mg x=some (.int i u))(hg:Gl X x:=by rfl)(hd:(x==("__debug__":Str))=false:=by decide):QE X (.Name x pos) (eC (.int i)):=⟨qsgz (hm:=hm) (hg:=hg) (hd:=hd)⟩
end
section
variable {X:Cx} {a b e c:Expr} {ta tb te:TE3} {tA tB:TT3} {pos:Pos} {es rest:List Expr}
theorem qjz{op:Operator}{r:R3}{r2:R2}(L:LowR X.K r r2)(ho:OpR X (binaryOp op) r2)(ha:QE X a ta)(hb:QE X b tb):QE X (.BinOp a op b pos) (eOp r ta tb):=⟨e_op (L:=L) (ho:=ho) (ha:=ha.of) (hb:=hb.of)⟩
end
section
variable {X:Cx} {a b e c:Expr} {ta tb te:TE3} {tA tB:TT3} {pos:Pos} {es rest:List Expr}
theorem qaez{op:CmpOp}{r:R3}{r2:R2}(L:LowR X.K r r2)(ho:OpR X (compareOp op) r2)(ha:QE X a ta)(hb:QE X b tb)(hm:behindInMarks op b=false):QE X (.Compare a [op] [b] pos) (eOp r ta tb):=⟨qshz (L:=L) (ho:=ho) (ha:=ha.of) (hb:=hb.of) (hm:=hm)⟩
end
section
variable {X:Cx} {a b e c:Expr} {ta tb te:TE3} {tA tB:TT3} {pos:Pos} {es rest:List Expr}
theorem qoz{op:CmpOp}{r:R3}{r2:R2}(L:LowR X.K r r2)(ho:OpR X (compareOp op) r2)(ha:QE X a ta)(hb:QE X b tb)(hm:behindInMarks op b=false):QT X (.Compare a [op] [b] pos) (eTest (eOp r ta tb)):=⟨qsiz (L:=L) (ho:=ho) (ha:=ha.of) (hb:=hb.of) (hm:=hm)⟩
end
section
variable {X:Cx} {a b e c:Expr} {ta tb te:TE3} {tA tB:TT3} {pos:Pos} {es rest:List Expr}
theorem q3z(h:QE X a ta)(he:∀whole,isTrue a X.env whole=(do let v ←whole;standAt a.pos;holding [v] (truthy v)):=by intro _;rfl):QT X a (eTest ta):=⟨qsjz (h:=h.of) (he:=he)⟩
end
section
variable {X:Cx} {a b e c:Expr} {ta tb te:TE3} {tA tB:TT3} {pos:Pos} {es rest:List Expr}
theorem qdbz(ha:QT X a tA):QW X (.BoolOp .And [a] pos) tA:=⟨qsmz (ha:=ha.of)⟩
end
section
variable {X:Cx} {a b e c:Expr} {ta tb te:TE3} {tA tB:TT3} {pos:Pos} {es rest:List Expr}
theorem qa4z(ha:QT X a tA):QW X (.BoolOp .Or [a] pos) tA:=⟨qsnz (ha:=ha.of)⟩
end
section
variable {X:Cx} {a b e c:Expr} {ta tb te:TE3} {tA tB:TT3} {pos:Pos} {es rest:List Expr}
theorem qdcz(ha:QT X a tA)(hb:QW X (.BoolOp .And (b::rest) pos) tB):QW X (.BoolOp .And (a::b::rest) pos) (eAnd tA tB):=⟨qsoz (ha:=ha.of) (hb:=hb.of)⟩
end
section
variable {X:Cx} {a b e c:Expr} {ta tb te:TE3} {tA tB:TT3} {pos:Pos} {es rest:List Expr}
theorem qawz(ha:QT X a tA)(hb:QW X (.BoolOp .Or (b::rest) pos) tB):QW X (.BoolOp .Or (a::b::rest) pos) (eOr tA tB):=⟨qspz (ha:=ha.of) (hb:=hb.of)⟩
end
section
variable {X:Cx} {a b e c:Expr} {ta tb te:TE3} {tA tB:TT3} {pos:Pos} {es rest:List Expr}
theorem qafz(h:QW X a tA):QT X a tA:=⟨tt_w (h:=h.of)⟩
end
section
variable {X:Cx} {a b e c:Expr} {ta tb te:TE3} {tA tB:TT3} {pos:Pos} {es rest:List Expr}
theorem q8z(ha:QT X a tA):QT X (.UnaryOp .Not a pos) (eNot tA):=⟨qsqz (ha:=ha.of)⟩
end
section
variable {X:Cx} {a b e c:Expr} {ta tb te:TE3} {tA tB:TT3} {pos:Pos} {es rest:List Expr}
theorem qa5z{op}(h:QE X a ta):QE X (.BoolOp op [a] pos) ta:=⟨qsrz (h:=h.of)⟩
end
section
variable {X:Cx} {a b e c:Expr} {ta tb te:TE3} {tA tB:TT3} {pos:Pos} {es rest:List Expr}
theorem qbgz(ha:QE X a ta)(hb:QE X (.BoolOp .And (b::rest) pos) tb):QE X (.BoolOp .And (a::b::rest) pos) (eAndV ta tb):=⟨qssz (ha:=ha.of) (hb:=hb.of)⟩
end
section
variable {X:Cx} {a b e c:Expr} {ta tb te:TE3} {tA tB:TT3} {pos:Pos} {es rest:List Expr}
theorem qwvz(ha:QE X a ta)(hb:QE X (.BoolOp .Or (b::rest) pos) tb):QE X (.BoolOp .Or (a::b::rest) pos) (eOrV ta tb):=⟨e_or (ha:=ha.of) (hb:=hb.of)⟩
end
section
variable {X:Cx} {a b e c:Expr} {ta tb te:TE3} {tA tB:TT3} {pos:Pos} {es rest:List Expr}
theorem qwwz(ha:QE X a ta):QE X (.UnaryOp .Not a pos) (eNotV ta):=⟨qstz (ha:=ha.of)⟩
end
section
variable {X:Cx} {a b e c:Expr} {ta tb te:TE3} {tA tB:TT3} {pos:Pos} {es rest:List Expr}
theorem qwxz(hc:QT X c tA)(ha:QE X a ta)(hb:QE X b tb):QE X (.IfExp c a b pos) (eIf tA ta tb):=⟨qsuz (hc:=hc.of) (ha:=ha.of) (hb:=hb.of)⟩
end
section
variable {X:Cx} {a b e c:Expr} {ta tb te:TE3} {tA tB:TT3} {pos:Pos} {es rest:List Expr}
theorem qcz  : QA X [] aNil:=⟨qsvz ⟩
end
section
variable {X:Cx} {a b e c:Expr} {ta tb te:TE3} {tA tB:TT3} {pos:Pos} {es rest:List Expr}
theorem qbz{tr:TA3}(ha:QE X a ta)(hr:QA X es tr)(hs:notStar a=true:=by rfl):QA X (a::es) (aCons ta tr):=⟨qswz (ha:=ha.of) (hr:=hr.of) (hs:=hs)⟩
end
section
variable {X:Cx} {a b e c:Expr} {ta tb te:TE3} {tA tB:TT3} {pos:Pos} {es rest:List Expr}
theorem qaqz{t:TA3}{x1}(h:QA X es t):QE X (.Tuple es x1 pos) (eTup t):=⟨qsxz (h:=h.of)⟩
end
section
variable {X:Cx} {a b e c:Expr} {ta tb te:TE3} {tA tB:TT3} {pos:Pos} {es rest:List Expr}
theorem q9z{t:TA3}(h:QA X es t):QE X (.List es pos) (eLst t):=⟨qsyz (h:=h.of)⟩
end
section
variable {X:Cx} {st:Stmt} {rest:List Stmt} {t u:TS3} {e c:Expr} {te:TE3} {tc:TT3} {pos:Pos}
theorem qqz  : QSs X [] sNext:=⟨qs5z ⟩
end
section
variable {X:Cx} {st:Stmt} {rest:List Stmt} {t u:TS3} {e c:Expr} {te:TE3} {tc:TT3} {pos:Pos}
theorem qfz(h1:QS X st t)(h2:QSs X rest u):QSs X (st::rest) (sSeq t u):=⟨qs6z (h1:=h1.of) (h2:=h2.of)⟩
end
section
variable {X:Cx} {st:Stmt} {rest:List Stmt} {t u:TS3} {e c:Expr} {te:TE3} {tc:TT3} {pos:Pos}
theorem qez(h1:QS X st t):QSs X [st] t:=⟨qs7z (h1:=h1.of)⟩
end
section
variable {X:Cx} {st:Stmt} {rest:List Stmt} {t u:TS3} {e c:Expr} {te:TE3} {tc:TT3} {pos:Pos}
theorem qalz(he:QE X e te)(hs:swapsWith e none pos.line X.env=pure false:=by rfl):QS X (.Expr e pos) (sDrop te):=⟨qs8z (he:=he.of) (hs:=hs)⟩
end
section
variable {X:Cx} {st:Stmt} {rest:List Stmt} {t u:TS3} {e c:Expr} {te:TE3} {tc:TT3} {pos:Pos}
theorem qiz(he:QE X e te):QS X (.Return (some e) pos) (sRet te):=⟨qs9z (he:=he.of)⟩
end
section
variable {X:Cx} {st:Stmt} {rest:List Stmt} {t u:TS3} {e c:Expr} {te:TE3} {tc:TT3} {pos:Pos}
theorem qrz{a b:List Stmt}(hc:QT X c tc)(ha:QSs X a t)(hb:QSs X b u):QS X (.If c a b pos) (sIf tc t u):=⟨s_if (hc:=hc.of) (ha:=ha.of) (hb:=hb.of)⟩
end
section
variable {X:Cx} {st:Stmt} {rest:List Stmt} {t u:TS3} {e c:Expr} {te:TE3} {tc:TT3} {pos:Pos}
theorem qgqz  : QS X st sNever:=⟨qtaz ⟩
end
section
variable {X:Cx} {pos:Pos} {e:Expr} {es:List Expr}
theorem qmz{i:Nat}{x:Str}(hN:X.N.Nodup)(hi:X.N[i]?=some x:=by rfl)(hx:Loc X.env.scope x:=by first|exact Or.inl rfl|exact Or.inr rfl)(hf:X.fn x=true∨X.env.scope.names.lookup x=some .local:=by first|exact .inl rfl|exact .inr rfl|assumption):QG X (.Name x pos) (hName i):=⟨qtbz (hN:=hN) (hi:=hi) (hx:=hx) (hf:=hf)⟩
end
section
variable {X:Cx} {pos:Pos} {e:Expr} {es:List Expr}
theorem qbhz  : QGs X [] hNil:=⟨qtcz ⟩
end
section
variable {X:Cx} {pos:Pos} {e:Expr} {es:List Expr}
theorem q5z{t:TG3}{u:TGs3}(h1:QG X e t)(h2:QGs X es u)(hs:(assignEach (e::es) X.env).map (·.2)=assign e X.env::(assignEach es X.env).map (·.2):=by rfl):QGs X (e::es) (hCons t u):=⟨qtdz (h1:=h1.of) (h2:=h2.of) (hs:=hs)⟩
end
section
variable {X:Cx} {pos:Pos} {e:Expr} {es:List Expr}
theorem qbiz{k:Nat}{t:TGs3}{n:Nat}(hc:X.calm=true)(h:QGs X es t)(hn:(assignEach es X.env).length=n:=by rfl)(hst:(assignEach es X.env).findIdx? (·.1)=none:=by rfl):QG X (.Tuple es k pos) (hTup n t):=⟨qtez (hc:=hc) (h:=h.of) (hn:=hn) (hst:=hst)⟩
end
section
variable {X:Cx} {pos:Pos} {e:Expr} {es:List Expr}
theorem qexz{tg:Expr}{te:TE3}{g:TG3}(he:QE X e te)(hg:QG X tg g)(hs:swapsWithSole [tg] e pos.line X.env=pure false:=by rfl)(hw:swappedStores [tg] e X.env=pure none:=by rfl)(h1:(assignEach [tg] X.env).map (·.2)=[assign tg X.env]:=by rfl):QS X (.Assign [tg] e pos) (sAsg te g):=⟨qtfz (he:=he.of) (hg:=hg.of) (hs:=hs) (hw:=hw) (h1:=h1)⟩
end
section
variable {X:Cx} {pos:Pos} {e:Expr} {es:List Expr}
theorem qkz{i:Nat}{x:Str}{te:TE3}{pos':Pos}(hN:X.N.Nodup)(he:QE X e te)(hi:X.N[i]?=some x:=by rfl)(hx:Loc X.env.scope x:=by first|exact Or.inl rfl|exact Or.inr rfl)(hs:swapsWith e (some (.Name x pos')) pos.line X.env=pure false:=by rfl)(hf:X.fn x=true∨X.env.scope.names.lookup x=some .local:=by first|exact .inl rfl|exact .inr rfl|assumption):QS X (.Assign [.Name x pos'] e pos) (sAsg te (hName i)):=⟨qtgz (hN:=hN) (he:=he.of) (hi:=hi) (hx:=hx) (hs:=hs) (hf:=hf)⟩
end
section
variable {X:Cx} {pos:Pos} {e:Expr} {es:List Expr}
theorem qwyz{i:Nat}{x:Str}{te:TE3}{op:Operator}{r:R3}{r2:TIp}{pos':Pos}(L:LowR X.K r r2)(hN:X.N.Nodup)(he:QE X e te)(ho:PIp X op r2)(hi:X.N[i]?=some x:=by rfl)(hx:Loc X.env.scope x:=by first|exact Or.inl rfl|exact Or.inr rfl)(hf:X.fn x=true∨X.env.scope.names.lookup x=some .local:=by first|exact .inl rfl|exact .inr rfl|assumption):QS X (.AugAssign (.Name x pos') op e pos) (sAug i te r):=⟨qthz (L:=L) (hN:=hN) (he:=he.of) (ho:=ho) (hi:=hi) (hx:=hx) (hf:=hf)⟩
end
section
variable {X:Cx} {pos:Pos} {e:Expr} {es:List Expr}
theorem qlbz{o i:Expr}{to ti:TE3}(ho:QE X o to)(hi:QE X i ti) (ha:∀v,assign (.Subscript o i pos) X.env v=(do
   let ov ←holding [v] (eval o X.env)
   let iv ←holding [v,ov] (eval i X.env)
   standAt pos
   holding [v,ov,iv] (setItem ov iv v)
   release [v,ov,iv] []):=by intro _;rfl):QG X (.Subscript o i pos) (hSub to ti):=⟨qtiz (ho:=ho.of) (hi:=hi.of) (ha:=ha)⟩
end
section
variable {X:Cx} {pos:Pos} {e:Expr} {es:List Expr}
theorem qlcz{c:Expr}{body:List Stmt}{tc:TT3}{tb:TS3}(hp:PassesOwn (model X.prog X.w) X.A X.env X.xe)(hc:QT X c tc)(hb:QSs X body tb):QS X (.While c body [] pos) (sWhile tc tb):=⟨qtjz (hp:=hp) (hc:=hc.of) (hb:=hb.of)⟩
end
section
variable {X:Cx} {k:Nat} {f:Addr} {fd:FuncData} {ps:List Str} {sp:Sp3} {x:Str} {p pos:Pos} {e:Expr} {es:List Expr} {t:TA3}
theorem qgz(F:FnOk3 X.prog X.w X.K X.mg X.base k f fd ps sp)(hr:Room k X.A)(hm:X.mg x=some (.ref f))(hk:PySem.W.keepIn X.K (.ref f)=true)(hb:Binds X.K fd ps [])(ha:QA X (e::es) t)(hg:Gl X x:=by rfl)(hdb:(x==("__debug__":Str))=false:=by decide)(he:notStar e=true:=by rfl)(hpl:es.all notStar=true:=by rfl):QE X (.Call (.Name x p) (e::es) [] pos) (eCall sp t):=⟨qtlz (F:=F) (hr:=hr) (hm:=hm) (hk:=hk) (hb:=hb) (ha:=ha.of) (hg:=hg) (hdb:=hdb) (he:=he) (hpl:=hpl)⟩
end
section
variable {X:Cx} {tg iter:Expr} {pos p:Pos}
theorem qamz{l:Expr}{te:TE3}(hl:QE X l te):QI X tg l (iSeq te):=⟨qtmz (hl:=hl.of)⟩
end
section
variable {X:Cx} {tg iter:Expr} {pos p:Pos}
theorem qb8z{a:Expr}{ta:TA3}(hm:X.mg "range" = none)(ha:QA X [a] ta)(hg:Gl X "range":=by rfl)(hs:notStar a=true:=by rfl):QI X tg (.Call (.Name "range" p) [a] [] pos) (iRng1 ta):=⟨qtnz (hm:=hm) (ha:=ha.of) (hg:=hg) (hs:=hs)⟩
end
section
variable {X:Cx} {tg iter:Expr} {pos p:Pos}
theorem qgrz{a b:Expr}{ta:TA3}(hm:X.mg "range" = none)(ha:QA X [a,b] ta)(hg:Gl X "range":=by rfl)(hs:notStar a=true:=by rfl)(hs2:notStar b=true:=by rfl):QI X tg (.Call (.Name "range" p) [a,b] [] pos) (iRng2 ta):=⟨qtoz (hm:=hm) (ha:=ha.of) (hg:=hg) (hs:=hs) (hs2:=hs2)⟩
end
section
variable {X:Cx} {tg iter:Expr} {pos p:Pos}
theorem qaaz{body:List Stmt}{ti:TI3}{g:TG3}{tb:TS3}(hp:PassesOwn (model X.prog X.w) X.A X.env X.xe)(hc:X.calm=true)(hi:QI X tg iter ti)(hg:QG X tg g)(hb:QSs X body tb)(hs:∀x,foldedSetIterable iter X.env x=pure x:=by intro _;rfl):QS X (.For tg iter body [] pos) (sFor ti g tb):=⟨qtpz (hp:=hp) (hc:=hc) (hi:=hi.of) (hg:=hg.of) (hb:=hb.of) (hs:=hs)⟩
end
section
variable {X:Cx} {tg iter:Expr} {pos p:Pos}
theorem qa6z  : QC X [] (tNoTest3):=⟨qtqz ⟩
end
section
variable {X:Cx} {tg iter:Expr} {pos p:Pos}
theorem qddz{c:Expr}{t:TT3}(h:QT X c t):QC X [c] (t):=⟨qtrz (h:=h.of)⟩
end
section
variable {X:Cx} {K:PySem.W.Frag}
theorem qnz{a b:Expr}{ta tb:TE3}{pos:Pos}(ha:QE X a ta)(hb:QE X b tb)(hs:PlainIx b:=by intro _ _;rfl):QE X (.Subscript a b pos) (eOp rIx3 ta tb):=⟨e_ix (ha:=ha.of) (hb:=hb.of) (hs:=hs)⟩
end
section
variable {X:Cx} {K:PySem.W.Frag}
theorem qgsz{es:List Expr}{b:Expr}{ta:TA3}{tb:TE3}{pos pos':Pos}(ha:QA X es ta)(hb:QE X b tb)(hs:PlainIx b:=by intro _ _;rfl):QE X (.Subscript (.List es pos') b pos) (eLstIx ta tb):=⟨qtzz (ha:=ha.of) (hb:=hb.of) (hs:=hs)⟩
end
section
variable {X:Cx} {a b e:Expr} {ta tb:TE3} {pos:Pos}
theorem qbjz  : QO X none oNone:=⟨qt0z ⟩
end
section
variable {X:Cx} {a b e:Expr} {ta tb:TE3} {pos:Pos}
theorem qaxz(h:QE X e ta):QO X (some e) (oSome ta):=⟨qt1z (h:=h.of)⟩
end
section
variable {X:Cx} {a b e:Expr} {ta tb:TE3} {pos:Pos}
theorem qa7z{lo hi:Option Expr}{tl th:TO3}{p2:Pos}(ha:QE X a ta)(hl:QO X lo tl)(hh:QO X hi th):QE X (.Subscript a (.Slice lo hi none p2) pos) (eSl ta tl th):=⟨e_sl (ha:=ha.of) (hl:=hl.of) (hh:=hh.of)⟩
end
section
variable {X:Cx} {K:PySem.W.Frag} {e:Expr} {es:List Expr} {t:TA3} {ta:TE3} {pos p:Pos}
theorem qyz(hu:X.A.units+64<cLine)(hm:X.mg "len" = none)(ha:QA X (e::es) t)(hg:Gl X "len":=by rfl)(he:notStar e=true:=by rfl)(hpl:es.all notStar=true:=by rfl):QE X (.Call (.Name "len" p) (e::es) [] pos) (eCB qsz t):=⟨qt5z (hu:=hu) (hm:=hm) (ha:=ha.of) (hg:=hg) (he:=he) (hpl:=hpl)⟩
end
section
variable {X:Cx} {K:PySem.W.Frag} {e:Expr} {es:List Expr} {t:TA3} {ta:TE3} {pos p:Pos}
theorem qwzz(hu:X.A.units+64<cLine)(hm:X.mg "int" = none)(ha:QA X (e::es) t)(hg:Gl X "int":=by rfl)(he:notStar e=true:=by rfl)(hpl:es.all notStar=true:=by rfl):QE X (.Call (.Name "int" p) (e::es) [] pos) (eCB qepz t):=⟨qt7z (hu:=hu) (hm:=hm) (ha:=ha.of) (hg:=hg) (he:=he) (hpl:=hpl)⟩
end
section
variable {X:Cx} {K:PySem.W.Frag} {e:Expr} {es:List Expr} {t:TA3} {ta:TE3} {pos p:Pos}
theorem qw0z(hu:X.A.units+64<cLine)(hm:X.mg "max" = none)(ha:QA X (e::es) t)(hc:X.calm=true:=by rfl)(hg:Gl X "max":=by rfl)(he:notStar e=true:=by rfl)(hpl:es.all notStar=true:=by rfl):QE X (.Call (.Name "max" p) (e::es) [] pos) (eCB qf6z t):=⟨qt9z (hu:=hu) (hm:=hm) (ha:=ha.of) (hc:=hc) (hg:=hg) (he:=he) (hpl:=hpl)⟩
end
section
variable {X:Cx} {K:PySem.W.Frag} {e:Expr} {es:List Expr} {t:TA3} {ta:TE3} {pos p:Pos}
theorem qdez(hu:X.A.units+64<cLine)(hm:X.mg "tuple" = none)(ha:QA X (e::es) t)(hg:Gl X "tuple":=by rfl)(he:notStar e=true:=by rfl)(hpl:es.all notStar=true:=by rfl):QE X (.Call (.Name "tuple" p) (e::es) [] pos) (eCB qbez t):=⟨qubz (hu:=hu) (hm:=hm) (ha:=ha.of) (hg:=hg) (he:=he) (hpl:=hpl)⟩
end
section
variable {X:Cx} {K:PySem.W.Frag} {e:Expr} {es:List Expr} {t:TA3} {ta:TE3} {pos p:Pos}
theorem qb9z(hu:X.A.units+64<cLine)(hm:X.mg "list" = none)(ha:QA X (e::es) t)(hg:Gl X "list":=by rfl)(he:notStar e=true:=by rfl)(hpl:es.all notStar=true:=by rfl):QE X (.Call (.Name "list" p) (e::es) [] pos) (eCB qa3z t):=⟨qudz (hu:=hu) (hm:=hm) (ha:=ha.of) (hg:=hg) (he:=he) (hpl:=hpl)⟩
end
section
variable {X:Cx} {a e:Expr} {es:List Expr} {ta:TE3} {t:TA3} {pos p p2:Pos}
theorem qcaz{T:String}{TS:Str}(k:Kit T)(hv:bootBuiltins TS=some (.type T))(ha:QE X a ta)(hm:X.mg "isinstance" = none)(hm2:X.mg TS=none)(hgT:Gl X TS)(hnT:TS≠"__name__")(hdT:(TS==("__debug__":Str))=false)(hg:Gl X "isinstance":=by rfl)(he:notStar a=true:=by rfl):QE X (.Call (.Name "isinstance" p) [a,.Name TS p2] [] pos) (eInst T ta):=⟨qvrz (k:=k) (hv:=hv) (ha:=ha.of) (hm:=hm) (hm2:=hm2) (hgT:=hgT) (hnT:=hnT) (hdT:=hdT) (hg:=hg) (he:=he)⟩
end
section
variable {X:Cx} {K:PySem.W.Frag} {e:Expr} {es:List Expr} {t:TA3} {ta:TE3} {pos p p' pos':Pos}
theorem qw1z(hu:X.A.units+64<cLine)(hm:X.mg "sorted" = none)(ha:QA X (e::es) t)(hc:X.calm=true:=by rfl)(hg:Gl X "sorted":=by rfl)(he:notStar e=true:=by rfl)(hpl:es.all notStar=true:=by rfl):QE X (.Call (.Name "sorted" p) (e::es) [] pos) (eCB qewz t):=⟨qvyz (hu:=hu) (hm:=hm) (ha:=ha.of) (hc:=hc) (hg:=hg) (he:=he) (hpl:=hpl)⟩
end
section
variable {X:Cx} {K:PySem.W.Frag} {e:Expr} {es:List Expr} {t:TA3} {ta:TE3} {pos p p' pos':Pos}
theorem qw2z(hu:X.A.units+64<cLine)(ha:QE X e ta)(hm:X.mg "sorted" = none)(hm2:X.mg "set" = none)(hc:X.calm=true:=by rfl)(hg:Gl X "sorted":=by rfl)(hg2:Gl X "set":=by rfl)(he2:notStar e=true:=by rfl):QE X (.Call (.Name "sorted" p) [.Call (.Name "set" p') [e] [] pos'] [] pos) (eSortSet ta):=⟨qvzz (hu:=hu) (ha:=ha.of) (hm:=hm) (hm2:=hm2) (hc:=hc) (hg:=hg) (hg2:=hg2) (he2:=he2)⟩
end
section
variable {X:Cx} {K:PySem.W.Frag} {e:Expr} {es:List Expr} {t:TA3} {ta:TE3} {pos p p' pos':Pos}
theorem qldz(hu:X.A.units+64<cLine)(hm:X.mg "all" = none)(ha:QA X (e::es) t)(hc:X.calm=true:=by rfl)(hg:Gl X "all":=by rfl)(he:notStar e=true:=by rfl)(hpl:es.all notStar=true:=by rfl):QE X (.Call (.Name "all" p) (e::es) [] pos) (eCB qc8z t):=⟨qv4z (hu:=hu) (hm:=hm) (ha:=ha.of) (hc:=hc) (hg:=hg) (he:=he) (hpl:=hpl)⟩
end
section
variable {X:Cx} {K:PySem.W.Frag} {e:Expr} {es:List Expr} {t:TA3} {ta:TE3} {pos p p' pos':Pos}
theorem qlez(hu:X.A.units+64<cLine)(hm:X.mg "sum" = none)(ha:QA X (e::es) t)(hc:X.calm=true:=by rfl)(hg:Gl X "sum":=by rfl)(he:notStar e=true:=by rfl)(hpl:es.all notStar=true:=by rfl):QE X (.Call (.Name "sum" p) (e::es) [] pos) (eCB qc9z t):=⟨qv5z (hu:=hu) (hm:=hm) (ha:=ha.of) (hc:=hc) (hg:=hg) (he:=he) (hpl:=hpl)⟩
end
section
variable {X:Cx} {es:List Expr} {n0:Nat} {ps p pos:Pos}
theorem qgtz{a b:Expr}{ta:TA3}(hm:X.mg "zip" = none)(ha:QA X [a,b] ta)(hg:Gl X "zip":=by rfl)(hs:notStar a=true:=by rfl)(hs2:notStar b=true:=by rfl):QI X (.Tuple es n0 ps) (.Call (.Name "zip" p) [a,b] [] pos) (iZip ta):=⟨qwaz (hm:=hm) (ha:=ha.of) (hg:=hg) (hs:=hs) (hs2:=hs2)⟩
end
section
variable {X:Cx} {es:List Expr} {n0:Nat} {ps p pos:Pos}
theorem qguz{a:Expr}{ta:TA3}(hm:X.mg "enumerate" = none)(ha:QA X [a] ta)(hg:Gl X "enumerate":=by rfl)(hs:notStar a=true:=by rfl):QI X (.Tuple es n0 ps) (.Call (.Name "enumerate" p) [a] [] pos) (iEnum ta):=⟨qwhz (hm:=hm) (ha:=ha.of) (hg:=hg) (hs:=hs)⟩
end
section
variable {X:Cx} {tg:Expr} {p pos:Pos}
theorem qlfz{a b d:Expr}{ta:TA3}(hm:X.mg "range" = none)(ha:QA X [a,b,d] ta)(hg:Gl X "range":=by rfl)(hs:notStar a=true:=by rfl)(hs2:notStar b=true:=by rfl)(hs3:notStar d=true:=by rfl):QI X tg (.Call (.Name "range" p) [a,b,d] [] pos) (iRng3 ta):=⟨qwsz (hm:=hm) (ha:=ha.of) (hg:=hg) (hs:=hs) (hs2:=hs2) (hs3:=hs3)⟩
end
section
variable {X:Cx} {tg:Expr} {p pos:Pos}
theorem qw3z{o i e:Expr}{to ti te:TE3}{tpos:Pos}(ho:QE X o to)(hi:QE X i ti)(he:QE X e te)(ha:∀ov iv new,augStore i ov iv new=(do holding [new,ov,iv] (setItem ov iv new);release [new,ov,iv] [];pure .next):=by intros;rfl):QS X (.AugAssign (.Subscript o i tpos) .Add e pos) (sAugS to ti te (· + ·)):=⟨qwuz (ho:=ho.of) (hi:=hi.of) (he:=he.of) (ha:=ha)⟩
end
section
variable {X:Cx} {a b c e o:Expr} {es:List Expr} {ta tb tc te to:TE3} {t:TA3} {pos apos cpos p:Pos}
theorem qeyz{op op':CmpOp}{r r':R3}{r2 r2':R2}(L:LowR X.K r r2)(L':LowR X.K r' r2')(ho:OpR X (compareOp op) r2)(ho':OpR X (compareOp op') r2')(ha:QE X a ta)(hb:QE X b tb)(hc:QE X c tc)(hm:lastMarks [op,op'] [b,c]=false:=by with_unfolding_all rfl):
  QE X (.Compare a [op,op'] [b,c] pos) (eChain r r' ta tb tc):=⟨qskz (op:=op) (op':=op') L L' (qq2z ho ho' ha.of hb.of hc.of hm)⟩
theorem qw4z{op op':CmpOp}{r r':R3}{r2 r2':R2}(L:LowR X.K r r2)(L':LowR X.K r' r2')(ho:OpR X (compareOp op) r2)(ho':OpR X (compareOp op') r2')(ha:QE X a ta)(hb:QE X b tb)(hc:QE X c tc)(hm:lastMarks [op,op'] [b,c]=false:=by with_unfolding_all rfl):
  QT X (.Compare a [op,op'] [b,c] pos) (eTest (eChain r r' ta tb tc)):=⟨qslz (op:=op) (op':=op') L L' (qq3z ho ho' ha.of hb.of hc.of hm)⟩
theorem qgvz{name:Str}{id:String}{r:D->List D->Gp->V3->Prop}{r2:V->List V->Hp->VK->Prop}(L:LowM X.K r r2)(slot:Slot "list" name id)(hty:typeOf (.builtin id)=pure (.type "method_descriptor"))(hm:MtR X id r2)(ho:QE X o to)(ha:QA X (e::es) t)
  (hbase:attributeBase o name X.env (eval o X.env)=eval o X.env:=by rfl)
  (hfew:((backTo cpos (starEach (e::es) X.env)).all (fun x=>!x.1)&&(backToKw cpos (keywordEach [] X.env)).all (fun x=>x.1.isSome)
   && decide ((e::es).length+([]:List Keyword).length+(if ([]:List Keyword).isEmpty then 0 else 1)<30))=true:=by rfl)
  (hline:(apos.endLine==cpos.line)=true:=by rfl) (he:notStar e=true:=by rfl) (hpl:es.all notStar=true:=by rfl):
  QE X (.Call (.Attribute o name apos) (e::es) [] cpos) (eM r to t):=⟨qufz L (qr2z PySem.F.plainAttrs_list slot hty hm ho.of ha.of hbase hfew hline (qpz he) (qajz hpl))⟩
end
section
variable {X:Cx} {tg iter elt:Expr} {ifs:List Expr} {scope:Scope} {own:List Str} {js:List Nat} {ti:TI3} {g:TG3} {tc:TT3} {te:TE3} {pos:Pos}
theorem qarz(hc:X.calm=true)(C:CmpOk X.N X.env.scope scope own js)(hi:QI X tg iter ti)
  (hb:∀s H fp,QG (X.cmp scope own js s H fp) tg g/\QC (X.cmp scope own js s H fp) ifs tc/\QE (X.cmp scope own js s H fp) elt te)
  (hs:∀x,foldedSetIterable iter X.env x=pure x:=by intro _;rfl):QE X (.ListComp elt [⟨tg,iter,ifs,0⟩] scope pos) (eComp own js ti g tc te):=
 ⟨qtsz hc C hi.of (fun s H fp=>⟨(hb s H fp).1.of,(hb s H fp).2.1.of,(hb s H fp).2.2.of⟩) hs⟩
theorem qgwz{i:Nat}{y:Str}{py spos:Pos}(hc:X.calm=true)(hN:X.N.Nodup)(C:CmpOk X.N X.env.scope scope own js)(hi:QI X tg iter ti)
  (hb:∀s H fp,QG (X.cmp scope own js s H fp) tg g/\QC (X.cmp scope own js s H fp) ifs tc/\QE (X.cmp scope own js s H fp) elt te) (hy:X.N[i]?=some y:=by rfl) (hyl:X.env.scope.names.lookup y=some .local:=by rfl)
  (hsw:swapsWith (.ListComp elt [⟨tg,iter,ifs,0⟩] scope pos) (some (.Name y py)) spos.line X.env=pure true:=by rfl)
  (hs:∀x,foldedSetIterable iter X.env x=pure x:=by intro _;rfl):QS X (.Assign [.Name y py] (.ListComp elt [⟨tg,iter,ifs,0⟩] scope pos) spos) (sAsg (eComp own js ti g tc te) (hName i)):=
 ⟨qttz hc hN C hi.of (fun s H fp=>⟨(hb s H fp).1.of,(hb s H fp).2.1.of,(hb s H fp).2.2.of⟩) hy hyl hsw hs⟩
end
theorem qfn3{P:Program}{w:World}{K:PySem.W.Frag}{mg:Str->Option Value}{base:Heap}{x qual:Str}{st:Stmt}{f:Addr}{fd:FuncData}{N ps:List Str}{k:Nat}{sp:Sp3}(F:Fun K x qual st f fd)(S:FnScope N ps (defScope st))(hN:ps.length≤N.length)(len:∀ds G Q,sp ds G Q->ds.length=ps.length)(tb:TS3)
  (hbody:∀(cdv:Value) (A:Around) (outer:List Env) (s:Shared) (H:Hp) (E:XK),Room k (A.deeper (envOfC qual (defScope st) s.heap.objs.size f cdv)) ->
   QSs (cxOf CX0 P w K mg base N qual (defScope st) f cdv A outer s H E).nox (defBody st) tb)
  (hrd:∀ds G Q,sp ds G Q->tb (endsOf Q) (start3 N ds) G):FnOk3 P w K mg base (k+1) f fd ps sp:=fn3 F S hN len tb (fun cdv A outer s H E hr=>(hbody cdv A outer s H E hr).of) hrd
theorem qezz{P:Program}{w:World}{K:PySem.W.Frag}{mg:Str->Option Value}{base:Heap}{f:Addr}{fd:FuncData}{ps:List Str}{k:Nat}{sp:Sp3}(h:∀ds G Q,¬sp ds G Q):FnOk3 P w K mg base k f fd ps sp:=
 ⟨fun vs H Q E q=>by obtain⟨ds,G,Q3,_,_,z,_⟩:=q;exact absurd z (h _ _ _),fun A outer s H args us vs Q E _ _ _ _ q=>by obtain⟨ds,G,Q3,_,_,z,_⟩:=q;exact absurd z (h _ _ _)⟩
end L3
namespace My
open PySem L2 L3
def Known(G:Gp):D->Prop
 |.obj a=>∃o,G a=some o/\o.plain
 |_=>True
def wholeD:D->Bool
 |.int _=>true
 |_=>false
theorem qhz{Q:V3}{d:D}{G:Gp}(h:Q d G):(endsOf Q).rt d G:=⟨G,Sub.refl G,h⟩
theorem qasz{Q:V3}{d:D}{G G':Gp}(s:Sub G G')(h:Q d G):(endsOf Q).rt d G':=⟨G,s,h⟩
theorem qtz{i:Int}(h1:-(10^80)<i)(h2:i<10^80):Big i:=by
 have:i.natAbs<10^80:=by lia
 exact Nat.lt_trans this (by decide)
theorem Sub.updN{G G':Gp}{a:Addr}{o:GO}(s:Sub G G')(h:G a=none):Sub G (upd3 G' a o):=fun b u e=>by
 rw[qaiz (fun z=>by rw[z,h] at e;cases e)];exact s b u e
def qbkz:Sp3:=fun ds G Q=>match ds with
 |[d]=>Known G d/\Q (.bl (wholeD d)) G
 |_=>False
def qlgz:TS3:=sRet (eAndV (eInst "int" (eVar 0)) (eNotV (eInst "bool" (eVar 0))))
theorem qw5z{nm:Str}:∀ds G Q,qbkz ds G Q->qlgz (endsOf Q) (start3 [nm] ds) G:=by
 intro ds G Q h;rcases ds with _|⟨d,_|⟨d2,ds⟩⟩
 ·exact h.elim
 ·cases d with
  |int i=>exact⟨fun _=>qhz h.2,nofun⟩
  |bl b=>exact⟨fun _=>qhz h.2,nofun⟩
  |non=>exact⟨nofun,fun _=>qhz h.2⟩
  |str _=>exact⟨nofun,fun _=>qhz h.2⟩
  |tup _=>exact⟨nofun,fun _=>qhz h.2⟩
  |scr _=>exact⟨nofun,fun _=>qhz h.2⟩
  |dc _=>exact⟨nofun,fun _=>qhz h.2⟩
  |obj a=>
   obtain⟨o1,h1,hp⟩:∃o,G a=some o/\o.plain:=h.1;show match instD "int" G (.obj a) with
    |some b=>_
    |none=>_
   cases hG:G a with
   |none=>rw[h1] at hG;cases hG
   |some o=>
    cases o with
    |lst _=>simp only[instD,hG];exact⟨nofun,fun _=>qhz h.2⟩
    |pen=>simp only[instD,hG];exact⟨nofun,fun _=>qhz h.2⟩
    |dct=>simp only[instD,hG];exact⟨nofun,fun _=>qhz h.2⟩
    |gen R=>
     rw[h1] at hG;cases hG;exact hp.elim
 ·exact h.elim
abbrev qw6z:=@qw5z "thing"
def qdfz:Sp3:=fun ds G Q=>∃(ns:List Int) (k:Nat),ds=[.scr (ns.map .int),.int k]/\∀i:Int,Q (.int i) G
def qlhz:TS3:=sSeq (sIf (eTest (eOp rLtT3 (eVar 1) (eCB qsz (aCons (eVar 0) (aNil))))) (sRet (eOp rIx3 (eVar 0) (eVar 1))) (sNext)) (sRet (eC (.int 0)))
theorem qw7z:∀ds G Q,qdfz ds G Q->qlhz (endsOf Q) (start3 ["script","k"] ds) G:=by
 rintro ds G Q ⟨ns,k,rfl,q⟩;refine⟨fun h=>?_,fun h=>qhz (q 0)⟩;have h':(k:Int)<((ns.map D.int).length:Nat):=of_decide_eq_true h;rw[List.length_map] at h';have hk:k<ns.length:=by lia
 exact⟨.int ns[k],qbpz (by rw[List.getElem?_map,List.getElem?_eq_getElem hk];rfl),qhz (q _)⟩
def qcjz:Sp3:=fun ds G Q=>∃n:Int,ds=[.int n]/\0≤n/\∀r:Int,0≤r->r<2147483629->Q (.int r) G
def qliz:TS3:=sSeq (sAsg (eOp rMod3 (eOp rAdd3 (eVar 0) (eC (.int 7919))) (eC (.int 2147483647))) (hName 0)) (sRet (eOp rMod3 (eOp rAdd3 (eOp rAdd3 (eOp rMul3 (eVar 0) (eVar 0)) (eOp rMul3 (eC (.int 48271)) (eVar 0))) (eC (.int 12345))) (eC (.int 2147483629))))
theorem qw8z:∀ds G Q,qcjz ds G Q->qliz (endsOf Q) (start3 ["seed"] ds) G:=by
 rintro ds G Q ⟨n,rfl,hn,q⟩;have h1:=Int.emod_nonneg (n+7919) (show (2147483647:Int)≠0 by decide);have h2:=Int.emod_lt_of_pos (n+7919) (show (0:Int)<2147483647 by decide);have hb:Big ((n+7919)%2147483647):=qtz (by lia) (by lia);refine⟨(by decide:(0:Int)<2147483647),⟨hb,hb⟩,⟨qtz (by decide) (by decide),hb⟩,(by decide:(0:Int)<2147483629),qhz (q _ ?_ ?_)⟩
 ·exact Int.emod_nonneg _ (by decide)
 ·exact Int.emod_lt_of_pos _ (by decide)
def qe0z:Sp3:=fun ds G Q=>∃(p:Addr) (m i j k:Int),ds=[.obj p,.int m]/\G p=some (.lst [.int i,.int j,.int k])/\PenOk i j k/\0<m/\Big m ∧
 ∀r i' j' k':Int,PenOk i' j' k'->0≤r->r<m->Q (.int r) (upd3 G p (.lst [.int i',.int j',.int k']))
def qayz:Sp3:=fun ds G Q=>∃(p:Addr) (m:Int),ds=[.obj p,.int m]/\G p=some .pen/\(0<m/\Big m)/\∀r:Int,0≤r->r<m->Q (.int r) G
def qljz:TS3:=sSeq (sIf (eTest (eOp (rEq3 false) (eOp rIx3 (eVar 0) (eC (.int 1))) (eC (.int 1)))) (sSeq (sAsg (eOp rMod3 (eOp rIx3 (eVar 0) (eC (.int 0))) (eVar 1)) (hName 2)) (sSeq (sAsg (eOp rDiv3 (eOp rIx3 (eVar 0) (eC (.int 0))) (eVar 1)) (hSub (eVar 0) (eC (.int 0)))) (sRet (eVar 2)))) (sNext)) (sSeq (sAsg (eCall qcjz (aCons (eOp rAdd3 (eCall qcjz (aCons (eOp rIx3 (eVar 0) (eC (.int 2))) (aNil))) (eC (.int 7))) (aNil))) (hSub (eVar 0) (eC (.int 2)))) (sRet (eOp rMod3 (eOp rDiv3 (eOp rIx3 (eVar 0) (eC (.int 2))) (eC (.int 64))) (eVar 1))))
theorem qw9z:∀ds G Q,qe0z ds G Q->qljz (endsOf Q) (start3 ["pen","many","found"] ds) G:=by
 rintro ds G Q ⟨p,m,i,j,k,rfl,hp,ok,hm,hb,q⟩;obtain⟨o1,o2,o3⟩:=ok;refine⟨_,_,hp,rfl,_,_,rfl,rfl,Nat.zero_le _,fun _=>?_,fun _=>?_⟩
 ·refine⟨_,_,hp,rfl,hm,_,_,hp,rfl,⟨hm,hb⟩,_,0,hp,rfl,?_⟩;refine qhz (q (i%m) (i / m) j k ⟨?_,o2,o3⟩ ?_ ?_)
  ·exact Int.ediv_nonneg o1 (by lia)
  ·exact Int.emod_nonneg _ (by lia)
  ·exact Int.emod_lt_of_pos _ hm
 ·refine⟨_,_,hp,rfl,_,rfl,o2,fun r h1 h2=>⟨_,rfl,(by lia),fun r' h3 h4=>?_⟩⟩;refine⟨_,2,hp,rfl,_,_,qahz,rfl,⟨by decide,qtz (by decide) (by decide)⟩,hm,?_⟩;refine qhz (q _ i j r' ⟨o1,h3,by lia⟩ ?_ ?_)
  ·exact Int.emod_nonneg _ (by lia)
  ·exact Int.emod_lt_of_pos _ hm
theorem qxaz{K:PySem.W.Frag}:∀vs H Q E,lowSp K qayz vs H Q E->lowSp K qe0z vs H Q E:=by
 rintro vs H Q E ⟨ds,G,Q3,hd,RG,⟨p,m,rfl,hp,hm,q⟩,k⟩;obtain⟨i,j,l,e,ok⟩:=RG p _ hp;refine⟨_,upd3 G p (.lst [.int i,.int j,.int l]),fun d G'=>∃i' j' l',PenOk i' j' l'/\G'=upd3 G p (.lst [.int i',.int j',.int l'])/\Q3 d G,hd,?_,⟨p,m,i,j,l,rfl,qahz,ok,hm.1,hm.2,fun r i' j' k' ok' h1 h2=>⟨i',j',k',ok',qsaz,q r h1 h2⟩⟩,?_⟩
 ·intro a o ea;by_cases z:a=p
  ·subst z;rw[qahz] at ea;cases ea;exact⟨_,e,.cons (by simp[Hv]) (.cons (by simp[Hv]) (.cons (by simp[Hv]) .nil))⟩
  ·rw[qaiz z] at ea;exact RG a o ea
 ·rintro v H' d G' hv S R ⟨i',j',l',ok',rfl,h3⟩;refine k v H' d G hv ⟨fun a o ea n=>S.fr a o ea ?_,S.trk,fun a n z=>absurd n z⟩ (fun a o ea=>?_) h3
  ·have:a≠p:=fun z=>by rw[z,hp] at n;cases n
   rw[qaiz this];exact n
  ·by_cases z:a=p
   ·subst z;rw[hp] at ea;cases ea;obtain⟨ws,e1,e2⟩:=R a _ qahz;have:=qb3z e2 (ns:=[i',j',l']) rfl;subst this;exact⟨i',j',l',e1,ok'⟩
   ·exact R a o (by rw[qaiz z];exact ea)
def qe1z:Sp3:=fun ds G Q=>∃c:Int,ds=[.int c]/\∀p i j k G',New G p (.lst [.int i,.int j,.int k]) G'->PenOk i j k->Q (.obj p) G'
def qgxz:Sp3:=fun ds G Q=>∃c:Int,ds=[.int c]/\∀p G',New G p .pen G'->Q (.obj p) G'
def qlkz:TS3:=sSeq (sAsg (eCB qf6z (aCons (eVar 0) (aCons (eOp rSub3 (eC (.int 0)) (eVar 0)) (aNil)))) (hName 1)) (sRet (eLst (aCons (eVar 1) (aCons (eCB qepz (aCons (eOp rGe3 (eVar 1) (eOp rPow3 (eC (.int 10)) (eC (.int 18)))) (aNil))) (aCons (eOp rMod3 (eVar 1) (eC (.int 1000003))) (aNil))))))
theorem qxbz:∀ds G Q,qe1z ds G Q->qlkz (endsOf Q) (start3 ["cell","left"] ds) G:=by
 rintro ds G Q ⟨c,rfl,q⟩;refine⟨⟨by decide,by decide,by decide⟩,(by decide:(0:Int)<1000003),fun p G' hp=>qhz (q p _ _ _ _ hp ⟨?_,?_,?_⟩)⟩
 ·split<;>lia
 ·exact Int.emod_nonneg _ (by decide)
 ·exact Int.lt_trans (Int.emod_lt_of_pos _ (by decide)) (by decide)
theorem qxcz{K:PySem.W.Frag}:∀vs H Q E,lowSp K qgxz vs H Q E->lowSp K qe1z vs H Q E:=by
 rintro vs H Q E ⟨ds,G,Q3,hd,RG,⟨c,rfl,q⟩,k⟩;refine⟨_,G,fun d G'=>∃p i j l,PenOk i j l/\New G p (.lst [.int i,.int j,.int l]) G'/\d=.obj p,hd,RG,⟨c,rfl,fun p i j l G' hp ok=>⟨p,i,j,l,ok,hp,rfl⟩⟩,?_⟩;rintro v H' d G' hv S R ⟨p,i,j,l,ok,hp,rfl⟩;refine k v H' _ (upd3 G' p .pen) hv ⟨S.fr,S.trk,fun a n z=>S.new a n ?_⟩ (fun a o ea=>?_) (q p _ ⟨hp.non,Sub.updN hp.sub hp.non,qahz⟩)
 ·by_cases y:a=p
  ·rw[y,hp.at_];simp
  ·rw[qaiz y] at z;exact z
 ·by_cases z:a=p
  ·subst z;rw[qahz] at ea;cases ea;obtain⟨ws,e1,e2⟩:=R a _ hp.at_;have:=qb3z e2 (ns:=[i,j,l]) rfl;subst this;exact⟨i,j,l,e1,ok⟩
  ·rw[qaiz z] at ea;exact R a o ea
abbrev Clk:=Int×Int
def cD(c:Clk):D:=.tup [.int c.1,.int c.2]
def csD(cs:List Clk):D:=.tup (cs.map cD)
def Valid(c:Clk):Prop:=0<c.1/\0≤c.2/\c.2<c.1
def rg(n:Int)(c:Clk):Bool:=n%c.1==c.2
def qdgz:Sp3:=fun ds G Q=>∃(c:Clk) (n:Int),ds=[cD c,.int n]/\0<c.1/\Q (.bl (rg n c)) G
def qllz:TS3:=sRet (eOp (rEq3 false) (eOp rMod3 (eVar 1) (eOp rIx3 (eVar 0) (eC (.int 0)))) (eOp rIx3 (eVar 0) (eC (.int 1))))
theorem qxdz:∀ds G Q,qdgz ds G Q->qllz (endsOf Q) (start3 ["clock","number"] ds) G:=by
 rintro ds G Q ⟨⟨s,r⟩,n,rfl,hs,q⟩;exact⟨_,rfl,hs,_,rfl,_,_,rfl,rfl,Nat.zero_le _,qhz q⟩
def qckz:Sp3:=fun ds G Q=>∃(cs:List Clk) (n:Int),ds=[csD cs,.int n]/\(∀c∈cs,0<c.1)/\cs.length≤1000/\∀p G',New G p (.lst ((cs.filter (rg n)).map cD)) G'->Q (.obj p) G'
def qlmz:TS3:=sRet (eComp ["clock"] [1] (iSeq (eVar 0)) (hName 0) (eTest (eCall qdgz (aCons (eVar 0) (aCons (eVar 1) (aNil))))) (eVar 0))
theorem line1000{n:Nat}(h:n≤1000):n≤sizeLine:=Nat.le_trans h (by decide)
theorem qabz{α:Type}{guard:Gp->Prop}{g:TG3}{tc:TT3}{te:TE3}{Q:List D->Gp->Prop}(I:S3->Prop)(h:α->D)(pr:α->Bool)(f:α->D){G:Gp}(hg:guard G):∀(xs:List α) (acc:List D) (τ:S3),I τ ->
  (∀x∈xs,∀τ (K1:S3->Gp->Prop) (K2:S3->D->Gp->Prop),I τ->(pr x=true->∀τ2,I τ2->K2 τ2 (f x) G)->(pr x=false->∀τ2,I τ2->K1 τ2 G)->g (h x) τ G fun τ2 G2=>tc τ2 G2 fun b G3=>Br b (te τ2 G3 fun v G4=>K2 τ2 v G4) (K1 τ2 G3)) ->
  Q (acc++(xs.filter pr).map f) G->compGo guard g tc te Q (xs.map h) acc τ G
 |[],acc,τ,_,_,q=>⟨hg,by simpa using q⟩
 |d::ds,acc,τ,hI,hs,q=>by
  refine⟨hg,hs d List.mem_cons_self τ (fun τ2 G3=>compGo guard g tc te Q (ds.map h) acc τ2 G3) (fun τ2 v G4=>compGo guard g tc te Q (ds.map h) (acc++[v]) τ2 G4) hI (fun hp τ2 h2=>?_) fun hp τ2 h2=>?_⟩
  ·refine qabz I h pr f hg ds _ τ2 h2 (fun d' hd=>hs d' (List.mem_cons_of_mem _ hd)) ?_;rw[List.filter_cons_of_pos hp] at q;simpa using q
  ·refine qabz I h pr f hg ds _ τ2 h2 (fun d' hd=>hs d' (List.mem_cons_of_mem _ hd)) ?_;rw[List.filter_cons_of_neg (by rw[hp];simp)] at q;exact q
theorem qxez:∀ds G Q,qckz ds G Q->qlmz (endsOf Q) (start3 ["clocks","number"] ds) G:=by
 rintro ds G Q ⟨cs,n,rfl,hc,hz,q⟩;refine⟨by show (cs.map cD).length≤sizeLine;rw[List.length_map];exact line1000 hz,?_⟩;refine qabz (fun τ=>∃x,τ=[x,some (.int n)]) cD (rg n) cD (G:=G) trivial cs [] _ ⟨none,rfl⟩ ?_ ?_
 ·rintro c hm τ K1 K2 ⟨x,rfl⟩ h1 h2;exact⟨c,n,rfl,hc c hm,fun e=>h1 e _ ⟨_,rfl⟩,fun e=>h2 e _ ⟨_,rfl⟩⟩
 ·exact fun p G' hp=>qhz (q p G' hp)
end My
namespace My
open PySem L2 L3
def cX(c:Clk):Dat.D:=.tup [.int c.1,.int c.2]
theorem qe2z:∀cs:List Clk,toDats0 (cs.map cD)=some (cs.map cX)
 |[]=>rfl
 |c::cs=>by
  show (match toDat0 (cD c) with
   |some x=>match toDats0 (cs.map cD) with
    |some xs=>some (x::xs)
    |none=>none
   | none=>none)=_
  rw[qe2z cs];rfl
theorem qcbz{G:Gp}{a:Addr}{ds:List D}{xs:List Dat.D}(h:G a=some (.lst ds))(e:toDats0 ds=some xs):toDat G (.obj a)=some (.lst xs):=by
 unfold toDat;simp only[h,e]
theorem qgyz:∀cs:List Clk,Dat.deps (cs.map cX)≤1
 |[]=>Nat.zero_le _
 |c::cs=>by
  show max (cX c).dep (Dat.deps (cs.map cX))≤1;have h1:(cX c).dep=1:=rfl;have:=qgyz cs;omega
theorem qlnz(cs:List Clk):(Dat.D.lst (cs.map cX)).dep≤50:=by
 show Dat.deps (cs.map cX)+1≤50;have:=qgyz cs;omega
theorem qe3z(xs:List Dat.D):(Dat.D.lst xs).eqb (.lst [])=xs.isEmpty:=by
 cases xs with
 |nil=>rfl
 |cons x xs=>rfl
theorem qloz(a b:Clk):(cX a).eqb (cX b)=decide (a=b):=by
 obtain⟨s,r⟩:=a;obtain⟨s',r'⟩:=b;show ((s==s')&&((r==r')&&true))=decide ((s,r)=(s',r'));rw[Bool.eq_iff_iff];simp
def missD(cs:List Clk):D->Bool
 |.int n=>(cs.filter (rg n)).isEmpty
 |_=>false
def qdhz:Sp3:=fun ds G Q=>∃(cs:List Clk) (d:D),ds=[csD cs,d]/\Known G d/\(∀c∈cs,0<c.1)/\cs.length≤1000/\Q (.bl (missD cs d)) G
def qlpz:TS3:=sRet (eAndV (eCall qbkz (aCons (eVar 1) (aNil))) (eOp (rEq3 false) (eCall qckz (aCons (eVar 0) (aCons (eVar 1) (aNil)))) (eLst (aNil))))
theorem qxfz{α β:Type}(f:α->β)(xs:List α):(xs.map f).isEmpty=xs.isEmpty:=by cases xs<;>rfl
theorem qxgz:∀ds G Q,qdhz ds G Q->qlpz (endsOf Q) (start3 ["clocks","thing"] ds) G:=by
 rintro ds G Q ⟨cs,d,rfl,hk,hc,hz,q⟩;refine⟨hk,?_⟩;cases d with
 |int n=>
  refine⟨fun _=>?_,nofun⟩;refine⟨cs,n,rfl,hc,hz,fun p G1 h1 p2 G2 h2=>⟨_,_,qcbz (h2.sub _ _ h1.at_) (qe2z _),qcbz h2.at_ rfl,qlnz _,?_⟩⟩;rw[show (if false=true then _ else Dat.D.eqb (.lst ((cs.filter (rg n)).map cX)) (.lst []))=missD cs (.int n) by
   show Dat.D.eqb _ _=_;rw[qe3z,qxfz];rfl]
  exact qasz (h1.sub.trans h2.sub) q
 |_=>exact⟨nofun,fun _=>qhz q⟩
def rg2(n:Int)(c:Clk):Bool:=(n-c.2)%c.1==0
theorem qlqz{c:Clk}(h:Valid c)(n:Int):rg2 n c=rg n c:=by
 obtain⟨h1,h2,h3⟩:=h;unfold rg rg2;rw[Bool.eq_iff_iff];simp only[beq_iff_eq];constructor
 ·intro e;have h4:=Int.emod_emod_of_dvd n (Int.dvd_refl c.1);have:n%c.1=c.2%c.1:=Int.emod_eq_emod_iff_emod_sub_eq_zero.mpr e;rw[this];exact Int.emod_eq_of_lt h2 h3
 ·intro e;refine Int.emod_eq_emod_iff_emod_sub_eq_zero.mp ?_;rw[e];exact (Int.emod_eq_of_lt h2 h3).symm
theorem qxhz{cs:List Clk}(h:∀c∈cs,Valid c)(n:Int):cs.filter (rg2 n)=cs.filter (rg n):=List.filter_congr fun c hc=>qlqz (h c hc) n
end My
namespace My
open PySem L2 L3
def cutG{α:Type}(xs:List α)(lo hi:Option Int):List α:=(xs.drop (HT.sIx xs.length 0 lo)).take (HT.sIx xs.length xs.length hi-HT.sIx xs.length 0 lo)
theorem qbuz{α:Type}(f:α->D)(xs:List α)(lo hi:Option Int):cut3 (xs.map f) lo hi=(cutG xs lo hi).map f:=by
 unfold cut3 cutG;rw[List.length_map,List.map_take,List.map_drop]
theorem qxiz{α:Type}(xs:List α)(lo hi:Option Int):(cutG xs lo hi).length≤xs.length:=by
 unfold cutG;rw[List.length_take,List.length_drop];lia
theorem qdiz{α:Type}(xs:List α)(k:Nat):cutG xs none (some (k:Int))=xs.take k:=by
 unfold cutG;rw[HT.sIx_none,HT.sIx_nat];simp only[List.drop_zero,Nat.sub_zero];by_cases h:k≤xs.length
 ·rw[Nat.min_eq_left h]
 ·rw[Nat.min_eq_right (by lia),List.take_length,List.take_of_length_le (by lia)]
theorem qlrz{α:Type}(xs:List α)(k:Nat):cutG xs (some (k:Int)) none=xs.drop k:=by
 unfold cutG;rw[HT.sIx_none,HT.sIx_nat];by_cases h:k≤xs.length
 ·rw[Nat.min_eq_left h];exact List.take_of_length_le (by rw[List.length_drop];lia)
 ·rw[Nat.min_eq_right (by lia),List.drop_length,List.drop_eq_nil_of_le (by lia)];simp
def ClOk(M:Int)(cs:List Clk):Prop:=∀c∈cs,Valid c/\c.1≤M
theorem qxjz{s r k i:Int}(h:Valid (s,r))(h1:0≤i)(h2:i<k):Valid (s*k,r+s*i):=by
 obtain⟨a,b,c⟩:=h;simp only at a b c;have q:=Int.mul_le_mul_of_nonneg_left (show i≤k-1 by lia) (show 0≤s by lia);rw[Int.mul_sub,Int.mul_one] at q;have q2:=Int.mul_nonneg (show 0≤s by lia) h1;refine⟨?_,?_,?_⟩
 ·exact Int.mul_pos a (by lia)
 ·show 0≤r+s*i;lia
 ·show r+s*i<s*k;lia
theorem qlsz{α:Type}(f:α->D){xs:List α}{r:Int}(h1:0≤r)(h2:r<(xs.length:Nat)):∃x,xs[r.toNat]?=some x/\x∈xs/\atI (xs.map f) r=some (f x):=by
 have hk:r.toNat<xs.length:=by lia
 refine⟨xs[r.toNat],List.getElem?_eq_getElem hk,List.getElem_mem hk,?_⟩;have e:r=((r.toNat:Nat):Int):=by lia
 have q:atI (xs.map f) ((r.toNat:Nat):Int)=some (f xs[r.toNat]):=qbpz (by rw[List.getElem?_map];simp[hk]);rw[←e] at q;exact q
theorem qe4z{ns:List Int}{r:Int}(h1:0≤r)(h2:r<(ns.length:Nat)):∃n,n∈ns/\atI (ns.map D.int) r=some (.int n):=by
 obtain⟨x,_,h3,h4⟩:=qlsz D.int h1 h2;exact⟨x,h3,h4⟩
end My
namespace My
open PySem L2 L3
def toL(c:Clk):List Int:=[c.1,c.2]
theorem qgzz(cs:List Clk):(cs.map toL).map tupI=cs.map cD:=by
 rw[List.map_map];rfl
theorem qg0z{cs:List Clk}:∀{mss:List (List Int)},(∀ns∈mss,ns∈cs.map toL)->∃cs':List Clk,mss=cs'.map toL/\∀c∈cs',c∈cs
 |[],_=>⟨[],rfl,fun c hc=>nomatch hc⟩
 |ns::mss,h=>by
  obtain⟨cs',e,hc⟩:=qg0z (mss:=mss) fun n hn=>h n (List.mem_cons_of_mem _ hn);obtain⟨c,h1,rfl⟩:=List.mem_map.mp (h ns List.mem_cons_self);refine⟨c::cs',by simp[e],fun d hd=>?_⟩;rcases List.mem_cons.mp hd with rfl|hd
  ·exact h1
  ·exact hc d hd
def cLt(a b:Clk):Prop:=a.1<b.1∨(a.1=b.1/\a.2<b.2)
def Rise(cs:List Clk):Prop:=cs.Pairwise cLt
theorem qg1z{a b:Clk}(h:toL a=toL b):a=b:=by
 obtain⟨s,r⟩:=a;obtain⟨s',r'⟩:=b;simp[toL] at h;simp[h]
theorem qxkz{a b:Clk}(h:SortV.lx (toL b) (toL a)=false)(hne:a≠b):cLt a b:=by
 obtain⟨s,r⟩:=a;obtain⟨s',r'⟩:=b;unfold toL at h;simp only[SortV.lx] at h;by_cases e:s'=s
 ·rw[if_pos e] at h;by_cases e2:r'=r
  ·exact absurd (by rw[e,e2]) hne
  ·rw[if_neg e2] at h;have:=of_decide_eq_false h;exact .inr ⟨e.symm,by simp only;omega⟩
 ·rw[if_neg e] at h;have:=of_decide_eq_false h;exact .inl (by simp only;omega)
theorem qltz{cs:List Clk}(h:RiseL (cs.map toL))(nd:(cs.map toL).Nodup):Rise cs:=by
 have h1:=List.pairwise_map.mp h;have h2:=List.pairwise_map.mp nd;exact (h1.and h2).imp fun {a b} q=>qxkz q.1 fun z=>q.2 (by rw[z])
theorem qxlz{cs:List Clk}{mss:List (List Int)}(hmem:∀ns,ns∈mss↔ns∈cs.map toL)(nd:mss.Nodup)(hr:RiseL mss)(hl:mss.length≤(cs.map toL).length):
  ∃cs':List Clk,mss=cs'.map toL/\(∀c,c∈cs'↔c∈cs)/\Rise cs'/\cs'.length≤cs.length:=by
 obtain⟨cs',rfl,hc⟩:=qg0z fun ns hn=>(hmem ns).mp hn;refine⟨cs',rfl,fun c=>⟨fun h=>hc c h,fun h=>?_⟩,qltz hr nd,by simpa using hl⟩;obtain⟨c',h1,h2⟩:=List.mem_map.mp ((hmem (toL c)).mpr (List.mem_map.mpr ⟨c,h,rfl⟩));rw[←qg1z h2];exact h1
theorem qluz{cs:List Clk}:∀ns∈cs.map toL,ns≠[]:=fun ns hn=>by
 obtain⟨c,_,rfl⟩:=List.mem_map.mp hn;simp[toL]
theorem qlvz{G:Gp}{a:Addr}{cs:List Clk}(e:G a=some (.lst (cs.map cD))):G a=some (.lst ((cs.map toL).map tupI)):=by rw[qgzz];exact e
end My
namespace My
open PySem L2 L3
theorem qclz{guard:Gp->Prop}{g:TG3}{tc:TT3}{te:TE3}{Q:List D->Gp->Prop}(I:List D->List D->S3->Gp->Prop)(hg:∀ds acc τ G,I ds acc τ G->guard G)
  (step:∀d ds acc τ G (K1:S3->Gp->Prop) (K2:S3->D->Gp->Prop),I (d::ds) acc τ G->(∀τ' v G',I ds (acc++[v]) τ' G'->K2 τ' v G')->(∀τ' G',I ds acc τ' G'->K1 τ' G')->g d τ G fun τ2 G2=>tc τ2 G2 fun b G3=>Br b (te τ2 G3 fun v G4=>K2 τ2 v G4) (K1 τ2 G3))
  (hend:∀acc τ G,I [] acc τ G->Q acc G):∀ds acc τ G,I ds acc τ G->compGo guard g tc te Q ds acc τ G
 |[],acc,τ,G,h=>⟨hg _ _ _ _ h,hend _ _ _ h⟩
 |d::ds,acc,τ,G,h=>⟨hg _ _ _ _ h,step d ds acc τ G (fun τ2 G3=>compGo guard g tc te Q ds acc τ2 G3) (fun τ2 v G4=>compGo guard g tc te Q ds (acc++[v]) τ2 G4) h
   (fun τ' v G' q=>qclz I hg step hend ds _ τ' G' q) fun τ' G' q=>qclz I hg step hend ds _ τ' G' q⟩
theorem wrote{G G1:Gp}{q:Addr}{o o':GO}(n:New G q o G1):New G q o' (upd3 G1 q o'):=⟨n.non,Sub.updN n.sub n.non,qahz⟩
end My
namespace My
open PySem L2 L3
def rndF(cs:List Clk)(a:Nat):Nat:=cs.foldl (fun a c=>Nat.lcm a c.1.toNat) a
def rnd(cs:List Clk):Nat:=rndF cs 1
theorem qlwz{M:Nat}:∀{cs:List Clk} {a:Nat},(∀c∈cs,0<c.1/\c.1≤(M:Int))->0<a->0<rndF cs a/\rndF cs a≤a*M^cs.length
 |[],a,_,h=>⟨h,by simp[rndF]⟩
 |c::cs,a,hc,h=>by
  obtain⟨h1,h2⟩:=hc c List.mem_cons_self;have hp:0<Nat.lcm a c.1.toNat:=Nat.lcm_pos h (by omega);obtain⟨h3,h4⟩:=qlwz (cs:=cs) (a:=Nat.lcm a c.1.toNat) (fun d hd=>hc d (List.mem_cons_of_mem _ hd)) hp;refine⟨h3,Nat.le_trans h4 ?_⟩;rw[List.length_cons,Nat.pow_succ,Nat.mul_comm (M^cs.length) M,←Nat.mul_assoc];refine Nat.mul_le_mul_right _ ?_;have:Nat.lcm a c.1.toNat≤a*c.1.toNat:=Nat.le_of_dvd (Nat.mul_pos h (by omega)) (Nat.lcm_dvd (Nat.dvd_mul_right _ _) (Nat.dvd_mul_left _ _));exact Nat.le_trans this (Nat.mul_le_mul_left _ (by omega))
theorem qxmz{cs:List Clk}(h:ClOk 1000 cs)(hl:cs.length≤12):0<rnd cs/\rnd cs≤1000^12:=by
 obtain⟨h1,h2⟩:=qlwz (M:=1000) (cs:=cs) (a:=1) (fun c hc=>⟨(h c hc).1.1,(h c hc).2⟩) (by decide);refine⟨h1,Nat.le_trans h2 ?_⟩;rw[Nat.one_mul];exact Nat.pow_le_pow_right (by decide) hl
theorem qg2z{n:Nat}(h:n<10^80):Big (n:Int):=by
 show (n:Int).natAbs<2^4000;exact Nat.lt_trans (by simpa using h) (by decide)
end My
namespace My
open PySem L2 L3
def qccz:Sp3:=fun ds G Q=>∃a b:Nat,ds=[.int a,.int b]/\Q (.int (Nat.gcd a b:Nat)) G
def qxnz:TS3:=sAsg (eVar 2) (hName 1)
def qxoz:TS3:=sSeq (sAsg (eVar 1) (hName 0)) qxnz
def qxpz:TS3:=sSeq (sAsg (eOp rMod3 (eVar 0) (eVar 1)) (hName 2)) qxoz
def qxqz:TS3:=sRet (eVar 0)
def qlxz:TS3:=sSeq (sWhile (eTest (eOp (rEq3 true) (eVar 1) (eC (.int 0)))) (qxpz)) qxqz
theorem qxrz:∀ds G Q,qccz ds G Q->qlxz (endsOf Q) (start3 ["one","other","left"] ds) G:=by
 rintro ds G Q ⟨a,b,rfl,q⟩;refine⟨fun m τ G'=>G'=G/\∃(a':Nat) (x:Option D),τ=[some (.int a'),some (.int (m:Nat)),x]/\Nat.gcd a' m=Nat.gcd a b,⟨b,rfl,a,_,rfl,rfl⟩,?_⟩;rintro m τ G' ⟨rfl,a',x,rfl,hg⟩;refine⟨_,_,rfl,rfl,Nat.zero_le _,fun h=>?_,fun h=>?_⟩
 ·have h1:(!((m:Int)==0))=true:=h;have h':(0:Int)<(m:Int):=by simp at h1;lia
  refine⟨h',a'%m,by exact_mod_cast Nat.mod_lt a' (by lia),rfl,m,some (.int (a'%m:Nat)),?_,?_⟩
  ·show [some (D.int (m:Nat)),some (D.int ((a':Int)%(m:Int))),some (D.int ((a':Int)%(m:Int)))]=_;rw[←Int.natCast_emod]
  ·rw[←hg,Nat.gcd_comm a' m,Nat.gcd_rec m a',Nat.gcd_comm]
 ·have h1:(!((m:Int)==0))=false:=h;have:m=0:=by simp at h1;lia
  subst this;rw[Nat.gcd_zero_right] at hg;rw[←hg] at q;exact qhz q
def nD(n:Nat):D:=.int (n:Nat)
def lcmF(ns:List Nat)(a:Nat):Nat:=ns.foldl Nat.lcm a
def qlyz:Sp3:=fun ds G Q=>∃(p:Addr) (ns:List Nat),ds=[.obj p]/\G p=some (.lst (ns.map nD))/\(∀n∈ns,0<n/\n≤1000)/\ns.length≤20/\Q (.int (lcmF ns 1:Nat)) G
def qxsz:TS3:=sAsg (eOp rMul3 (eVar 1) (eOp rDiv3 (eVar 2) (eCall qccz (aCons (eVar 1) (aCons (eVar 2) (aNil)))))) (hName 1)
def qxtz:TS3:=sRet (eVar 1)
def qxuz:TS3:=sSeq (sFor (iSeq (eVar 0)) (hName 2) (qxsz)) qxtz
def qlzz:TS3:=sSeq (sAsg (eC (.int 1)) (hName 1)) qxuz
theorem qxvz:∀ds G Q,qlyz ds G Q->qlzz (endsOf Q) (start3 ["numbers","least","number"] ds) G:=by
 rintro ds G Q ⟨p,ns,rfl,hp,ok,hl,q⟩;refine⟨_,hp,?_⟩;refine q1z (fun ds τ G'=>G'=G/\∃(zs:List Nat) (a:Nat) (x2:Option D),ds=zs.map nD/\τ=[some (.obj p),some (.int a),x2]/\(∀n∈zs,0<n/\n≤1000)/\0<a/\a*1000^zs.length≤1000^20/\lcmF zs a=lcmF ns 1) (fun _ _ _ h=>by rw[h.1];exact hp) ?_ ?_ _ _ _ ⟨rfl,ns,1,none,rfl,rfl,ok,by decide,?_,rfl⟩
 ·rintro d ds τ G' N ⟨rfl,zs,a,x2,e,rfl,okz,ha,hb,hr⟩ hN;cases zs with
  |nil=>cases e
  |cons n zs=>
   cases e;obtain⟨hs1,hs2⟩:=okz _ List.mem_cons_self;have hg:0<Nat.gcd a n:=Nat.gcd_pos_of_pos_left _ ha;have hga:Nat.gcd a n≤a:=Nat.le_of_dvd ha (Nat.gcd_dvd_left _ _);have ha20:a≤1000^20:=Nat.le_trans (Nat.le_mul_of_pos_right _ (Nat.pow_pos (by decide))) hb;have hbig:∀k:Nat,k≤1000^20->Big (k:Int):=fun k hk=>qg2z (Nat.lt_of_le_of_lt hk (by decide));refine⟨a,n,rfl,⟨by lia,hbig _ (Nat.le_trans hga ha20)⟩,⟨hbig _ ha20,?_⟩,?_⟩
   ·show Big ((n:Int) / (Nat.gcd a n:Nat));rw[←Int.natCast_ediv];exact hbig _ (Nat.le_trans (Nat.div_le_self _ _) (Nat.le_trans hs2 (by decide)))
   have el:a*(n / Nat.gcd a n)=Nat.lcm a n:=by
    unfold Nat.lcm;rw[Nat.mul_div_assoc a (Nat.gcd_dvd_right a n)]
   refine hN _ _ ⟨rfl,zs,Nat.lcm a n,some (nD n),rfl,?_,fun c hc=>okz c (List.mem_cons_of_mem _ hc),Nat.lcm_pos ha (by lia),?_,hr⟩
   ·show [some (D.obj p),some (D.int ((a:Int)*((n:Int) / (Nat.gcd a n:Nat)))),_]=_;rw[←Int.natCast_ediv,←Int.natCast_mul,el]
   ·refine Nat.le_trans ?_ hb;rw[List.length_cons,Nat.pow_succ,Nat.mul_comm (1000^zs.length) 1000,←Nat.mul_assoc];refine Nat.mul_le_mul_right _ ?_;have:Nat.lcm a n≤a*n:=Nat.le_of_dvd (Nat.mul_pos ha (by lia)) (Nat.lcm_dvd (Nat.dvd_mul_right _ _) (Nat.dvd_mul_left _ _));exact Nat.le_trans this (Nat.mul_le_mul_left _ (by lia))
 ·rintro τ G' ⟨rfl,zs,a,x2,e,rfl,okz,ha,hb,hr⟩;have:zs=[]:=by cases zs with
   |nil=>rfl
   |cons z zs=>cases e
  subst this;have hr':a=lcmF ns 1:=hr;rw[←hr'] at q;exact qhz q
 ·rw[Nat.one_mul];exact Nat.pow_le_pow_right (by decide) hl
theorem ql0z(cs:List Clk)(a:Nat):lcmF (cs.map fun c=>c.1.toNat) a=rndF cs a:=by
 unfold lcmF rndF;rw[List.foldl_map]
def qbvz:Sp3:=fun ds G Q=>∃cs:List Clk,ds=[csD cs]/\ClOk 1000 cs/\cs.length≤20/\Q (.int (rnd cs:Nat)) G
def qxwz:TS3:=sRet (eCall qlyz (aCons (eComp ["clock"] [] (iSeq (eVar 0)) (hName 0) (tNoTest3) (eOp rIx3 (eVar 0) (eC (.int 0)))) (aNil)))
theorem filter_all{α:Type}(xs:List α):xs.filter (fun _=>true)=xs:=List.filter_eq_self.mpr fun _ _=>rfl
theorem q87z:∀ds G Q,qbvz ds G Q->qxwz (endsOf Q) (start3 ["clocks"] ds) G:=by
 rintro ds G Q ⟨cs,rfl,ok,hl,q⟩;refine⟨by show (cs.map cD).length≤sizeLine;rw[List.length_map];exact line1000 (by lia),?_⟩;refine qabz (fun τ=>∃x,τ=[x]) cD (fun _=>true) (fun c=>nD c.1.toNat) (G:=G) trivial cs [] _ ⟨none,rfl⟩ ?_ ?_
 ·rintro⟨s,r⟩ hm τ K1 K2 ⟨x,rfl⟩ h1 h2;refine⟨fun _=>⟨_,rfl,?_⟩,nofun⟩;have hs:0<s:=(ok _ hm).1.1;have:=h1 rfl [some (cD (s,r))] ⟨_,rfl⟩;show K2 [some (cD (s,r))] (.int s) G;rw[show D.int s=nD (s,r).1.toNat by show D.int s=D.int ((s.toNat:Nat):Int);rw[Int.toNat_of_nonneg (by lia)]];exact this
 ·intro p G' n;rw[filter_all,List.nil_append,show cs.map (fun c:Clk=>nD c.1.toNat)=(cs.map fun c:Clk=>c.1.toNat).map nD by rw[List.map_map];rfl] at n;refine⟨p,_,rfl,n.at_,fun k hk=>?_,by rw[List.length_map];exact hl,?_⟩
  ·obtain⟨c,hc,rfl⟩:=List.mem_map.mp hk;obtain⟨⟨a,_⟩,b⟩:=ok c hc;lia
  ·rw[ql0z];exact qasz n.sub q
def qdjz:Sp3:=fun ds G Q=>∃t b:Nat,ds=[.int t,.int b]/\0<b/\b<10^80/\Q (.tup [nD (t / Nat.gcd t b),nD (b / Nat.gcd t b)]) G
def qxxz:TS3:=sRet (eTup (aCons (eOp rDiv3 (eVar 0) (eVar 2)) (aCons (eOp rDiv3 (eVar 1) (eVar 2)) (aNil))))
def ql1z:TS3:=sSeq (sAsg (eCall qccz (aCons (eVar 0) (aCons (eVar 1) (aNil)))) (hName 2)) qxxz
theorem qxyz:∀ds G Q,qdjz ds G Q->ql1z (endsOf Q) (start3 ["top","bottom","shared"] ds) G:=by
 rintro ds G Q ⟨t,b,rfl,hb,hz,q⟩;have hg:0<Nat.gcd t b:=Nat.gcd_pos_of_pos_right _ hb;have hgb:Nat.gcd t b≤b:=Nat.le_of_dvd hb (Nat.gcd_dvd_right _ _);have big:Big ((Nat.gcd t b:Nat):Int):=qg2z (by lia);refine⟨t,b,rfl,⟨by lia,big⟩,⟨by lia,big⟩,?_⟩;show (endsOf Q).rt (.tup [.int ((t:Int) / (Nat.gcd t b:Nat)),.int ((b:Int) / (Nat.gcd t b:Nat))]) G;rw[←Int.natCast_ediv,←Int.natCast_ediv];exact qhz q
def topN(cs:List Clk)(R:Nat):Nat:=(cs.map fun c=>R / c.1.toNat).sum
def shT(cs:List Clk):Nat:=topN cs (rnd cs) / Nat.gcd (topN cs (rnd cs)) (rnd cs)
def shB(cs:List Clk):Nat:=rnd cs / Nat.gcd (topN cs (rnd cs)) (rnd cs)
theorem qg3z:∀ns:List Int,intsOf (ns.map D.int)=some ns
 |[]=>rfl
 |n::ns=>by
  show (intsOf (ns.map D.int)).map (n::·)=_;rw[qg3z ns];rfl
theorem ql2z{R:Nat}:∀{cs:List Clk},(∀c∈cs,0<c.1)->(cs.map fun c=>(R:Int) / c.1).sum=((topN cs R:Nat):Int)
 |[],_=>rfl
 |c::cs,h=>by
  have h0:=h c List.mem_cons_self;have ih:=ql2z (R:=R) (cs:=cs) fun c hc=>h c (List.mem_cons_of_mem _ hc);unfold topN at ih ⊢;rw[List.map_cons,List.sum_cons,ih,List.map_cons,List.sum_cons,Int.natCast_add,Int.natCast_ediv,Int.toNat_of_nonneg (by lia)]
def qcmz:Sp3:=fun ds G Q=>∃cs:List Clk,ds=[csD cs]/\ClOk 1000 cs/\cs.length≤12/\Q (.tup [nD (shT cs),nD (shB cs)]) G
def qxzz:TS3:=sRet (eCall qdjz (aCons (eCB qc9z (aCons (eComp ["clock"] [1] (iSeq (eVar 0)) (hName 0) (tNoTest3) (eOp rDiv3 (eVar 1) (eOp rIx3 (eVar 0) (eC (.int 0))))) (aNil))) (aCons (eVar 1) (aNil))))
def ql3z:TS3:=sSeq (sAsg (eCall qbvz (aCons (eVar 0) (aNil))) (hName 1)) qxzz
theorem qx0z:∀ds G Q,qcmz ds G Q->ql3z (endsOf Q) (start3 ["clocks","bottom"] ds) G:=by
 rintro ds G Q ⟨cs,rfl,ok,hl,q⟩;obtain⟨r1,r2⟩:=qxmz ok hl;refine⟨cs,rfl,ok,by lia,by show (cs.map cD).length≤sizeLine;rw[List.length_map];exact line1000 (by lia),?_⟩;refine qabz (fun τ=>∃x,τ=[x,some (.int (rnd cs:Nat))]) cD (fun _=>true) (fun c=>.int ((rnd cs:Nat) / c.1)) (G:=G) trivial cs [] _ ⟨none,rfl⟩ ?_ ?_
 ·rintro⟨s,r⟩ hm τ K1 K2 ⟨x,rfl⟩ h1 h2;have hs:0<s:=(ok _ hm).1.1;have hs2:s≤1000:=(ok _ hm).2;exact⟨fun _=>⟨_,rfl,⟨hs,qtz (by lia) (by lia)⟩,h1 rfl _ ⟨_,rfl⟩⟩,nofun⟩
 ·intro p G' n;rw[filter_all,List.nil_append,show cs.map (fun c:Clk=>D.int ((rnd cs:Nat) / c.1))=(cs.map fun c:Clk=>((rnd cs:Nat):Int) / c.1).map D.int by rw[List.map_map];rfl] at n;refine⟨_,_,n.at_,qg3z _,topN cs (rnd cs),rnd cs,?_,r1,Nat.lt_of_le_of_lt r2 (by decide),qasz n.sub q⟩;rw[ql2z fun c hc=>(ok c hc).1.1]
end My
namespace My
open PySem L2 L3
def qdkz:Sp3:=fun ds G Q=>∃n b:Nat,ds=[.int n,.int b]/\0<b/\b<10^70/\Nat.gcd n b=1/\∀r:Int,0≤r->r<b->((b:Int)∣n*r-1)->Q (.int r) G
def qx1z:TS3:=sAsg (eVar 8) (hName 5)
def qx2z:TS3:=sSeq (sAsg (eVar 7) (hName 3)) qx1z
def qx3z:TS3:=sSeq (sAsg (eVar 5) (hName 4)) qx2z
def qx4z:TS3:=sSeq (sAsg (eVar 3) (hName 2)) qx3z
def qx5z:TS3:=sSeq (sAsg (eOp rSub3 (eVar 4) (eOp rMul3 (eVar 6) (eVar 5))) (hName 8)) qx4z
def qx6z:TS3:=sSeq (sAsg (eOp rSub3 (eVar 2) (eOp rMul3 (eVar 6) (eVar 3))) (hName 7)) qx5z
def qx7z:TS3:=sSeq (sAsg (eOp rDiv3 (eVar 2) (eVar 3)) (hName 6)) qx6z
def qx8z:TS3:=sRet (eOp rMod3 (eVar 4) (eVar 1))
def qx9z:TS3:=sSeq (sWhile (eTest (eOp (rEq3 true) (eVar 3) (eC (.int 0)))) (qx7z)) qx8z
def qyaz:TS3:=sSeq (sAsg (eC (.int 1)) (hName 5)) qx9z
def qybz:TS3:=sSeq (sAsg (eC (.int 0)) (hName 4)) qyaz
def qycz:TS3:=sSeq (sAsg (eOp rMod3 (eVar 0) (eVar 1)) (hName 3)) qybz
def ql4z:TS3:=sSeq (sAsg (eVar 1) (hName 2)) qycz
theorem qydz{hf lf q:Int}{lo hi le b:Nat}(hq:0≤q)(he:(le:Int)=hi-q*lo)(h:hf.natAbs*lo+lf.natAbs*hi≤b):lf.natAbs*le+(hf-q*lf).natAbs*lo≤b:=by
 obtain⟨k,rfl⟩:∃k:Nat,q=(k:Int):=⟨q.toNat,by lia⟩;have h1:(hf-(k:Int)*lf).natAbs≤hf.natAbs+k*lf.natAbs:=by
  have:=Int.natAbs_sub_le hf ((k:Int)*lf);rw[Int.natAbs_mul,Int.natAbs_natCast] at this;exact this
 have h2:hi=le+k*lo:=by
  have:(hi:Int)=((le+k*lo:Nat):Int):=by
   rw[Int.natCast_add,Int.natCast_mul];lia
  exact_mod_cast this
 have h3:=Nat.mul_le_mul_right lo h1;rw[Nat.add_mul] at h3;have h4:lf.natAbs*hi=lf.natAbs*le+k*lf.natAbs*lo:=by
  rw[h2,Nat.mul_add,Nat.mul_comm k lf.natAbs,Nat.mul_assoc]
 lia
theorem qyez:∀ds G Q,qdkz ds G Q->ql4z (endsOf Q) (start3 ["number","bound","high","low","high_factor","low_factor","turns","left","left_factor"] ds) G:=by
 rintro ds G Q ⟨n,b,rfl,hb,hz,hg,q⟩;have hb':(0:Int)<(b:Int):=by lia
 refine⟨hb',?_⟩;refine⟨fun m τ G'=>G'=G/\∃(hi:Nat) (hf lf:Int) (x6 x7 x8:Option D),τ=[some (.int n),some (.int b),some (.int hi),some (.int (m:Nat)),some (.int hf),some (.int lf),x6,x7,x8]/\m<hi/\hi≤b/\Nat.gcd hi m=1/\((b:Int)∣hi-hf*n)/\((b:Int)∣m-lf*n)/\hf.natAbs*m+lf.natAbs*hi≤b,⟨n%b,rfl,b,0,1,none,none,none,?_,Nat.mod_lt _ hb,Nat.le_refl _,?_,?_,?_,?_⟩,?_⟩
 ·show [some (D.int n),some (D.int b),some (D.int b),some (D.int ((n:Int)%(b:Int))),_,_,_,_,_]=_;rw[←Int.natCast_emod]
 ·rw[←hg,Nat.gcd_comm b,←Nat.gcd_rec,Nat.gcd_comm]
 ·rw[Int.zero_mul,Int.sub_zero];exact Int.dvd_refl _
 ·refine⟨-((n:Int) / b),?_⟩;have:=Int.mul_ediv_add_emod (n:Int) b;rw[Int.natCast_emod,Int.mul_neg];lia
 ·simp
 rintro m τ G' ⟨rfl,hi,hf,lf,x6,x7,x8,rfl,h0,h1,hgm,d1,d2,hbd⟩;refine⟨_,_,rfl,rfl,Nat.zero_le _,fun h=>?_,fun h=>?_⟩
 ·have h2:(!((m:Int)==0))=true:=h;have hm:0<m:=by simp at h2;lia
  have hlf:lf.natAbs≤b:=Nat.le_trans (Nat.le_mul_of_pos_right _ (by lia)) (Nat.le_trans (Nat.le_add_left _ _) hbd);have bigb:∀i:Int,i.natAbs≤b->Big i:=fun i hi'=>qtz (by lia) (by lia);have hq:((hi:Int) / (m:Int))=((hi / m:Nat):Int):=(Int.natCast_ediv _ _).symm;have hqb:Big ((hi:Int) / (m:Int)):=by
   rw[hq];exact bigb _ (by rw[Int.natAbs_natCast];exact Nat.le_trans (Nat.div_le_self _ _) h1)
  have hmb:Big (m:Int):=bigb _ (by rw[Int.natAbs_natCast];lia);have hle:((hi%m:Nat):Int)=hi-(hi:Int) / m*m:=by
   have:=Int.mul_ediv_add_emod (hi:Int) m;rw[Int.natCast_emod,Int.mul_comm ((hi:Int) / m)];lia
  refine⟨⟨by lia,hmb⟩,⟨hqb,hmb⟩,⟨hqb,bigb _ hlf⟩,hi%m,Nat.mod_lt _ hm,rfl,m,lf,hf-(hi:Int) / m*lf,some (.int ((hi:Int) / m)),some (.int ((hi%m:Nat):Int)),some (.int (hf-(hi:Int) / m*lf)),?_,Nat.mod_lt _ hm,by lia,?_,d2,?_,?_⟩
  ·show [some (D.int n),some (D.int b),some (D.int m),some (D.int ((hi:Int)-(hi:Int) / m*m)),some (D.int lf),some (D.int (hf-(hi:Int) / m*lf)),some (D.int ((hi:Int) / m)),some (D.int ((hi:Int)-(hi:Int) / m*m)),some (D.int (hf-(hi:Int) / m*lf))]=_;rw[←hle]
  ·rw[←hgm,Nat.gcd_comm hi m,Nat.gcd_rec m hi,Nat.gcd_comm]
  ·rw[hle];have:=Int.dvd_sub d1 (Int.dvd_trans d2 (Int.dvd_mul_left ((hi:Int) / m) _));rw[show (hi:Int)-(hi:Int) / m*m-(hf-(hi:Int) / m*lf)*n=hi-hf*n-(hi:Int) / m*(m-lf*n) by
    rw[Int.sub_mul,Int.mul_sub,Int.mul_assoc];lia]
   exact this
  ·exact qydz (by rw[hq];exact Int.natCast_nonneg _) hle hbd
 ·have h2:(!((m:Int)==0))=false:=h;have:m=0:=by simp at h2;lia
  subst this;rw[Nat.gcd_zero_right] at hgm;subst hgm;refine⟨hb',qhz (q _ (Int.emod_nonneg _ (by lia)) (Int.emod_lt_of_pos _ hb') ?_)⟩;have e:=Int.mul_ediv_add_emod hf b;have h3:(n:Int)*(hf%b)-1 = -((1:Nat)-hf*n)-b*(n*(hf / b)):=by
   have:hf%b=hf-b*(hf / b):=by lia
   rw[this,Int.mul_sub,←Int.mul_assoc,←Int.mul_assoc,Int.mul_comm (n:Int) hf,Int.mul_comm (n:Int) b];lia
  rw[h3];exact Int.dvd_sub (Int.dvd_neg.mpr d1) (Int.dvd_mul_right _ _)
def Meets(a b:Clk)(x:Int):Prop:=0≤x/\x<(Nat.lcm a.1.toNat b.1.toNat:Nat)/\a.1∣x-a.2/\b.1∣x-b.2
theorem Meets.one{a b:Clk}{x y:Int}(ha:Valid a)(hb:Valid b)(hx:Meets a b x)(hy:Meets a b y):x=y:=by
 obtain⟨x1,x2,x3,x4⟩:=hx;obtain⟨y1,y2,y3,y4⟩:=hy;have d1:a.1∣x-y:=by
  have:=Int.dvd_sub x3 y3;rwa [show x-a.2-(y-a.2)=x-y by lia] at this
 have d2:b.1∣x-y:=by
  have:=Int.dvd_sub x4 y4;rwa [show x-b.2-(y-b.2)=x-y by lia] at this
 have e1:a.1.toNat∣(x-y).natAbs:=by
  have:=Int.natAbs_dvd_natAbs.mpr d1;rwa [show a.1.natAbs=a.1.toNat by have:=ha.1;lia] at this
 have e2:b.1.toNat∣(x-y).natAbs:=by
  have:=Int.natAbs_dvd_natAbs.mpr d2;rwa [show b.1.natAbs=b.1.toNat by have:=hb.1;lia] at this
 have e3:=Nat.lcm_dvd e1 e2;have:(x-y).natAbs=0:=Nat.eq_zero_of_dvd_of_lt e3 (by lia);lia
def meetO(a b:Clk):Option Clk:=((List.range (Nat.lcm a.1.toNat b.1.toNat)).find? fun x:Nat=>rg2 x a&&rg2 x b).map fun x:Nat=>(((Nat.lcm a.1.toNat b.1.toNat:Nat):Int),(x:Int))
theorem rg2_iff{c:Clk}{n:Int}:rg2 n c=true↔c.1∣n-c.2:=by
 unfold rg2;rw[beq_iff_eq];exact⟨Int.dvd_of_emod_eq_zero,Int.emod_eq_zero_of_dvd⟩
theorem qyfz{a b:Clk}{x:Int}(ha:Valid a)(hb:Valid b)(h:Meets a b x):meetO a b=some (((Nat.lcm a.1.toNat b.1.toNat:Nat):Int),x):=by
 obtain⟨k,rfl⟩:∃k:Nat,x=(k:Int):=⟨x.toNat,by have:=h.1;lia⟩;unfold meetO;cases e:(List.range (Nat.lcm a.1.toNat b.1.toNat)).find? fun x:Nat=>rg2 x a&&rg2 x b with
 |none=>
  have:=List.find?_eq_none.mp e k (List.mem_range.mpr (by have:=h.2.1;lia));exact absurd (by rw[Bool.and_eq_true,rg2_iff,rg2_iff];exact h.2.2) this
 |some y=>
  have h1:=List.find?_some e;have h2:=List.mem_range.mp (List.mem_of_find?_eq_some e);rw[Bool.and_eq_true,rg2_iff,rg2_iff] at h1;have:((y:Nat):Int)=(k:Int):=Meets.one ha hb ⟨by lia,by lia,h1.1,h1.2⟩ h;show some ((((Nat.lcm a.1.toNat b.1.toNat:Nat):Int),((y:Nat):Int)):Clk)=_;rw[this]
theorem qygz{a b:Clk}(h:∀x,¬Meets a b x):meetO a b=none:=by
 unfold meetO;rw[List.find?_eq_none.mpr]
 ·rfl
 ·intro x hx h1;rw[Bool.and_eq_true,rg2_iff,rg2_iff] at h1;exact h x ⟨by lia,by have:=List.mem_range.mp hx;lia,h1.1,h1.2⟩
theorem qyhz{a b:Clk}{m:Clk}(h:meetO a b=some m):m.1=(Nat.lcm a.1.toNat b.1.toNat:Nat)/\Meets a b m.2:=by
 unfold meetO at h;cases e:(List.range (Nat.lcm a.1.toNat b.1.toNat)).find? fun x:Nat=>rg2 x a&&rg2 x b with
 |none=>rw[e] at h;cases h
 |some y=>
  rw[e] at h;have h1:=List.find?_some e;have h2:=List.mem_range.mp (List.mem_of_find?_eq_some e);rw[Bool.and_eq_true,rg2_iff,rg2_iff] at h1;cases h;exact⟨rfl,Int.natCast_nonneg _,Int.ofNat_lt.mpr h2,h1.1,h1.2⟩
def oD:Option Clk->D
 |none=>.non
 |some c=>cD c
def qdlz:Sp3:=fun ds G Q=>∃a b:Clk,ds=[cD a,cD b]/\Valid a/\Valid b/\a.1<10^60/\b.1<10^60/\Q (oD (meetO a b)) G
def qyiz:TS3:=sRet (eTup (aCons (eOp rMul3 (eOp rIx3 (eVar 0) (eC (.int 0))) (eVar 4)) (aCons (eOp rAdd3 (eOp rIx3 (eVar 0) (eC (.int 1))) (eOp rMul3 (eOp rIx3 (eVar 0) (eC (.int 0))) (eVar 5))) (aNil))))
def qyjz:TS3:=sSeq (sAsg (eOp rMod3 (eOp rMul3 (eOp rDiv3 (eVar 3) (eVar 2)) (eCall qdkz (aCons (eOp rDiv3 (eOp rIx3 (eVar 0) (eC (.int 0))) (eVar 2)) (aCons (eVar 4) (aNil))))) (eVar 4)) (hName 5)) qyiz
def qykz:TS3:=sSeq (sAsg (eOp rDiv3 (eOp rIx3 (eVar 1) (eC (.int 0))) (eVar 2)) (hName 4)) qyjz
def qylz:TS3:=sSeq (sIf (eTest (eOp (rEq3 true) (eOp rMod3 (eVar 3) (eVar 2)) (eC (.int 0)))) (sRet (eC .non)) (sNext)) qykz
def qymz:TS3:=sSeq (sAsg (eOp rSub3 (eOp rIx3 (eVar 1) (eC (.int 1))) (eOp rIx3 (eVar 0) (eC (.int 1)))) (hName 3)) qylz
def ql5z:TS3:=sSeq (sAsg (eCall qccz (aCons (eOp rIx3 (eVar 0) (eC (.int 0))) (aCons (eOp rIx3 (eVar 1) (eC (.int 0))) (aNil)))) (hName 2)) qymz
theorem qynz{g p q:Nat}{ap t inv r1 r2:Int}(hg:0<g)(hp:0<p)(hq:0<q)(hpq:Nat.gcd p q=1)(h1:0≤r1)(h2:r1<((g*p:Nat):Int))(e:r2-r1=g*ap)(hi:(q:Int)∣p*inv-1)(ht:t=ap*inv%q):
  Meets (((g*p:Nat):Int),r1) (((g*q:Nat):Int),r2) (r1+((g*p:Nat):Int)*t):=by
 have t1:0≤t:=by rw[ht];exact Int.emod_nonneg _ (by lia)
 have t2:t<q:=by rw[ht];exact Int.emod_lt_of_pos _ (by lia)
 have hl:Nat.lcm (g*p) (g*q)=g*p*q:=by
  rw[Nat.lcm_mul_left,Nat.lcm,hpq,Nat.div_one,Nat.mul_assoc]
 refine⟨?_,?_,?_,?_⟩
 ·exact Int.add_nonneg h1 (Int.mul_nonneg (Int.natCast_nonneg _) t1)
 ·show r1+((g*p:Nat):Int)*t<(Nat.lcm (((g*p:Nat):Int)).toNat (((g*q:Nat):Int)).toNat:Nat);rw[Int.toNat_natCast,Int.toNat_natCast,hl,Int.natCast_mul (g*p) q];have:((g*p:Nat):Int)*t≤((g*p:Nat):Int)*((q:Int)-1):=Int.mul_le_mul_of_nonneg_left (by lia) (Int.natCast_nonneg _);rw[Int.mul_sub,Int.mul_one] at this;lia
 ·show ((g*p:Nat):Int)∣r1+((g*p:Nat):Int)*t-r1;rw[show r1+((g*p:Nat):Int)*t-r1=((g*p:Nat):Int)*t by lia];exact Int.dvd_mul_right _ _
 ·show ((g*q:Nat):Int)∣r1+((g*p:Nat):Int)*t-r2;have d:(q:Int)∣p*t-ap:=by
   have e1:=Int.mul_ediv_add_emod (ap*inv) q;have e2:(p:Int)*t-ap=ap*(p*inv-1)-q*(p*(ap*inv / q)):=by
    have:t=ap*inv-q*(ap*inv / q):=by lia
    rw[this,Int.mul_sub,Int.mul_sub,Int.mul_one,←Int.mul_assoc (p:Int) q,Int.mul_comm (p:Int) q,Int.mul_assoc (q:Int),←Int.mul_assoc ap (p:Int),Int.mul_comm ap (p:Int),Int.mul_assoc (p:Int) ap];lia
   rw[e2];exact Int.dvd_sub (Int.dvd_trans hi (Int.dvd_mul_left _ _)) (Int.dvd_mul_right _ _)
  obtain⟨k,hk⟩:=d;refine⟨k,?_⟩;have:r1+((g*p:Nat):Int)*t-r2=g*(p*t-ap):=by
   rw[Int.mul_sub,←e,←Int.mul_assoc,Int.natCast_mul];lia
  rw[this,hk,Int.natCast_mul,Int.mul_assoc]
theorem qyoz:∀ds G Q,qdlz ds G Q->ql5z (endsOf Q) (start3 ["one","other","shared","apart","many","turns"] ds) G:=by
 rintro ds G Q ⟨⟨s1,r1⟩,⟨s2,r2⟩,rfl,va,vb,z1,z2,q⟩;have v1:0<s1:=va.1;have v2:0<s2:=vb.1;have z1':s1<10^60:=z1;have z2':s2<10^60:=z2;obtain⟨m1,rfl⟩:∃n:Nat,s1=(n:Int):=⟨s1.toNat,by lia⟩;obtain⟨m2,rfl⟩:∃n:Nat,s2=(n:Int):=⟨s2.toNat,by lia⟩;have hg:0<Nat.gcd m1 m2:=Nat.gcd_pos_of_pos_left _ (by lia);have hgl:Nat.gcd m1 m2≤m1:=Nat.le_of_dvd (by lia) (Nat.gcd_dvd_left _ _);have bg:Big ((Nat.gcd m1 m2:Nat):Int):=qtz (by lia) (by lia);refine⟨_,rfl,_,rfl,m1,m2,rfl,_,rfl,_,rfl,by show (0:Int)<(Nat.gcd m1 m2:Nat);lia,_,_,rfl,rfl,Nat.zero_le _,fun h=>?_,fun h=>?_⟩
 ·have h':(!((r2-r1)%((Nat.gcd m1 m2:Nat):Int)==0))=true:=h;have hne:(r2-r1)%((Nat.gcd m1 m2:Nat):Int)≠0:=by simpa using h'
  rw[qygz] at q
  ·exact qhz q
  ·rintro x ⟨_,_,d1,d2⟩;have e1:((Nat.gcd m1 m2:Nat):Int)∣x-r1:=Int.dvd_trans (Int.natCast_dvd_natCast.mpr (Nat.gcd_dvd_left _ _)) d1;have e2:((Nat.gcd m1 m2:Nat):Int)∣x-r2:=Int.dvd_trans (Int.natCast_dvd_natCast.mpr (Nat.gcd_dvd_right _ _)) d2;have:=Int.dvd_sub e1 e2;rw[show x-r1-(x-r2)=r2-r1 by lia] at this;exact hne (Int.emod_eq_zero_of_dvd this)
 ·have h':(!((r2-r1)%((Nat.gcd m1 m2:Nat):Int)==0))=false:=h;have he:(r2-r1)%((Nat.gcd m1 m2:Nat):Int)=0:=by simpa using h'
  obtain⟨p,hp⟩:=Nat.gcd_dvd_left m1 m2;obtain⟨k,hk⟩:=Nat.gcd_dvd_right m1 m2;have hpk:Nat.gcd p k=1:=by
   have:=Nat.gcd_mul_left (Nat.gcd m1 m2) p k;rw[←hp,←hk] at this;exact Nat.eq_of_mul_eq_mul_left hg (by rw[←this,Nat.mul_one])
  have hp0:0<p:=by
   rcases Nat.eq_zero_or_pos p with z|z
   ·rw[z,Nat.mul_zero] at hp;lia
   ·exact z
  have hk0:0<k:=by
   rcases Nat.eq_zero_or_pos k with z|z
   ·rw[z,Nat.mul_zero] at hk;lia
   ·exact z
  have hkm:k≤m2:=by rw[hk];exact Nat.le_mul_of_pos_left _ hg
  have hpm:p≤m1:=by rw[hp];exact Nat.le_mul_of_pos_left _ hg
  have dk:((m2:Int) / ((Nat.gcd m1 m2:Nat):Int))=(k:Int):=by
   rw[←Int.natCast_ediv];congr 1;exact Nat.div_eq_of_eq_mul_right hg hk
  have dp:((m1:Int) / ((Nat.gcd m1 m2:Nat):Int))=(p:Int):=by
   rw[←Int.natCast_ediv];congr 1;exact Nat.div_eq_of_eq_mul_right hg hp
  have c0:(0:Int)<((Nat.gcd m1 m2:Nat):Int):=by lia
  have eap:r2-r1=((Nat.gcd m1 m2:Nat):Int)*((r2-r1) / ((Nat.gcd m1 m2:Nat):Int)):=by
   have:=Int.mul_ediv_add_emod (r2-r1) ((Nat.gcd m1 m2:Nat):Int);lia
  have a1:0≤r1:=va.2.1;have a2:r1<(m1:Int):=va.2.2;have b1:0≤r2:=vb.2.1;have b2:r2<(m2:Int):=vb.2.2;have bap:Big ((r2-r1) / ((Nat.gcd m1 m2:Nat):Int)):=by
   have h3:=Int.natAbs_ediv_le_natAbs (r2-r1) ((Nat.gcd m1 m2:Nat):Int);exact qtz (by lia) (by lia)
  refine⟨_,rfl,⟨c0,bg⟩,⟨c0,bg⟩,_,rfl,⟨c0,bg⟩,?_⟩;dsimp only;rw[dk,dp];refine⟨p,k,rfl,hk0,by lia,hpk,fun inv i1 i2 i3=>⟨⟨bap,qtz (by lia) (by lia)⟩,by show (0:Int)<(k:Int);lia,?_⟩⟩;have t1:=Int.emod_nonneg ((r2-r1) / ((Nat.gcd m1 m2:Nat):Int)*inv) (show (k:Int)≠0 by lia);have t2:=Int.emod_lt_of_pos ((r2-r1) / ((Nat.gcd m1 m2:Nat):Int)*inv) (show (0:Int)<(k:Int) by lia);refine⟨_,rfl,⟨qtz (by lia) (by lia),qtz (by lia) (by lia)⟩,_,rfl,_,rfl,⟨qtz (by lia) (by lia),qtz (by lia) (by lia)⟩,?_⟩;have M:=qynz (g:=Nat.gcd m1 m2) (p:=p) (q:=k) (inv:=inv) (r1:=r1) (r2:=r2) hg hp0 hk0 hpk a1 (by rw[←hp];exact a2) eap i3 rfl;rw[←hp,←hk] at M;rw[qyfz va vb M] at q;have el:Nat.lcm m1 m2=m1*k:=by
   unfold Nat.lcm;rw[Nat.mul_div_assoc _ (Nat.gcd_dvd_right _ _)];congr 1;exact Nat.div_eq_of_eq_mul_right hg hk
  have q':Q (.tup [.int ((Nat.lcm m1 m2:Nat):Int),.int (r1+(m1:Int)*((r2-r1) / ((Nat.gcd m1 m2:Nat):Int)*inv%k))]) G:=q;rw[el,Int.natCast_mul] at q';exact qhz q'
end My
namespace My
open PySem L2 L3
def pairO(cs:List Clk)(i j:Nat):Option (Nat×Nat×Int):=match cs[i]?,cs[j]? with
 |some a,some b=>(meetO a b).map fun m=>(i,j,m.2)
 |_,_=>none
def rowO(cs:List Clk)(i:Nat):Option (Nat×Nat×Int):=(List.range (cs.length-(i+1))).findSome? fun k=>pairO cs i (i+1+k)
def clashO(cs:List Clk):Option (Nat×Nat×Int):=(List.range cs.length).findSome? (rowO cs)
def kD:Option (Nat×Nat×Int)->D
 |none=>.non
 |some (i,j,x)=>.tup [nD i,nD j,.int x]
theorem rng0(n:Nat):rngL 0 n=(List.range n).map nD:=by
 unfold rngL;refine List.map_congr_left fun i _=>?_;show D.int (0+(i:Int))=D.int (i:Int);rw[Int.zero_add]
theorem rngS(i n:Nat):rngL ((i:Int)+1) n=(List.range n).map fun k=>nD (i+1+k):=by
 unfold rngL;refine List.map_congr_left fun k _=>?_;show D.int ((i:Int)+1+(k:Int))=D.int ((i+1+k:Nat):Int);rw[Int.natCast_add,Int.natCast_add];rfl
theorem ql6z{cs:List Clk}{i:Nat}{a:Clk}(h:cs[i]?=some a):atI (cs.map cD) (i:Int)=some (cD a):=qbpz (by rw[List.getElem?_map,h];rfl)
def qdmz:Sp3:=fun ds G Q=>∃cs:List Clk,ds=[csD cs]/\ClOk 1000 cs/\cs.length≤1000/\Q (kD (clashO cs)) G
def qypz:TS3:=sIf (eTest (eOp (rIs3 true) (eVar 3) (eC .non))) (sRet (eTup (aCons (eVar 1) (aCons (eVar 2) (aCons (eOp rIx3 (eVar 3) (eC (.int 1))) (aNil)))))) (sNext)
def qyqz:TS3:=sSeq (sAsg (eCall qdlz (aCons (eOp rIx3 (eVar 0) (eVar 1)) (aCons (eOp rIx3 (eVar 0) (eVar 2)) (aNil)))) (hName 3)) qypz
def qyrz:TS3:=sFor (iRng2 (aCons (eOp rAdd3 (eVar 1) (eC (.int 1))) (aCons (eCB qsz (aCons (eVar 0) (aNil))) (aNil)))) (hName 2) (qyqz)
def qysz:TS3:=sRet (eC .non)
def ql7z:TS3:=sSeq (sFor (iRng1 (aCons (eCB qsz (aCons (eVar 0) (aNil))) (aNil))) (hName 1) (qyrz)) qysz
theorem qytz:∀ds G Q,qdmz ds G Q->ql7z (endsOf Q) (start3 ["clocks","place","other","met"] ds) G:=by
 rintro ds G Q ⟨cs,rfl,ok,hl,q⟩;refine⟨by rw[List.length_map];omega,?_⟩;rw[List.length_map,Int.toNat_natCast,rng0];refine q1z (fun ds τ G'=>G'=G/\∃(is:List Nat) (x1 x2 x3:Option D),ds=is.map nD/\(∀i∈is,i<cs.length)/\is.findSome? (rowO cs)=clashO cs/\τ=[some (csD cs),x1,x2,x3]) (fun _ _ _ _=>trivial) ?_ ?_ _ _ _ ⟨rfl,_,_,_,_,rfl,fun i hi=>List.mem_range.mp hi,rfl,rfl⟩
 ·rintro d ds τ G' N ⟨rfl,is,x1,x2,x3,e,hi,hr,rfl⟩ hN;cases is with
  |nil=>cases e
  |cons i is=>
   cases e;have hin:=hi i List.mem_cons_self;obtain⟨a,ha⟩:∃a,cs[i]?=some a:=⟨cs[i],List.getElem?_eq_getElem hin⟩;have va:=ok a (List.mem_of_getElem? ha);refine⟨by rw[List.length_map];omega,?_⟩;rw[List.length_map,show (((cs.length:Nat):Int)-((i:Int)+1)).toNat=cs.length-(i+1) by omega,rngS];refine q1z (fun ds τ G''=>G''=G'/\∃(ks:List Nat) (x2 x3:Option D),ds=ks.map (fun k=>nD (i+1+k))/\(∀k∈ks,i+1+k<cs.length)/\ks.findSome? (fun k=>pairO cs i (i+1+k))=rowO cs i/\τ=[some (csD cs),some (nD i),x2,x3]) (fun _ _ _ _=>trivial) ?_ ?_ _ _ _ ⟨rfl,_,_,_,rfl,fun k hk=>by have:=List.mem_range.mp hk;omega,rfl,rfl⟩
   ·rintro d ds τ G'' N' ⟨rfl,ks,x2,x3,e,hk,hr',rfl⟩ hN';cases ks with
    |nil=>cases e
    |cons k ks=>
     cases e;have hkn:=hk k List.mem_cons_self;obtain⟨b,hb⟩:∃b,cs[i+1+k]?=some b:=⟨cs[i+1+k],List.getElem?_eq_getElem hkn⟩;have vb:=ok b (List.mem_of_getElem? hb);have ep:pairO cs i (i+1+k)=(meetO a b).map fun m=>(i,i+1+k,m.2):=by
      unfold pairO;rw[ha,hb]
     refine⟨_,ql6z ha,_,ql6z hb,a,b,rfl,va.1,vb.1,by have:=va.2;omega,by have:=vb.2;omega,?_⟩;cases em:meetO a b with
     |none=>
      refine⟨nofun,fun _=>hN' _ _ ⟨rfl,ks,_,_,rfl,fun k' h'=>hk k' (List.mem_cons_of_mem _ h'),?_,rfl⟩⟩;rw[←hr',List.findSome?_cons,ep,em];rfl
     |some m=>
      refine⟨fun _=>⟨_,rfl,?_⟩,nofun⟩;have e1:rowO cs i=some (i,i+1+k,m.2):=by
       rw[←hr',List.findSome?_cons,ep,em];rfl
      have e2:clashO cs=some (i,i+1+k,m.2):=by
       rw[←hr,List.findSome?_cons,e1]
      rw[e2] at q;exact qhz q
   ·rintro τ G'' ⟨rfl,ks,x2,x3,e,hk,hr',rfl⟩;have:ks=[]:=by cases ks with
     |nil=>rfl
     |cons z zs=>cases e
    subst this;have e1:rowO cs i=none:=hr'.symm;refine hN _ _ ⟨rfl,is,_,_,_,rfl,fun i' h'=>hi i' (List.mem_cons_of_mem _ h'),?_,rfl⟩;rw[←hr,List.findSome?_cons,e1]
 ·rintro τ G' ⟨rfl,is,x1,x2,x3,e,hi,hr,rfl⟩;have:is=[]:=by cases is with
   |nil=>rfl
   |cons z zs=>cases e
  subst this;have e1:clashO cs=none:=hr.symm;rw[e1] at q;exact qhz q
end My
namespace My
open PySem L2 L3
def Known2(G:Gp):D->Prop
 |.tup ds=>∀d∈ds,Known G d
 |.obj a=>∃o,G a=some o/\o.plain
 |_=>True
theorem Known.sub{G G':Gp}{d:D}(s:Sub G G')(h:Known G d):Known G' d:=by
 cases d with
 |obj a=>
  obtain⟨o,e,hp⟩:=h;exact⟨o,s a o e,hp⟩
 |_=>trivial
theorem qe5z{G:Gp}{d:D}(h:Known2 G d)(hn:∀ds,d≠.tup ds):instD "tuple" G d=some false:=by
 cases d with
 |obj a=>
  obtain⟨o,hG,hp⟩:∃o,G a=some o/\o.plain:=h;cases o with
  |gen R=>exact hp.elim
  |_=>simp[instD,hG]
 |tup ds=>exact absurd rfl (hn ds)
 |_=>rfl
end My
namespace My
open PySem L2 L3
theorem qyuz{cs:List Clk}{mss:List (List Int)}(hp:mss.Perm (cs.map toL))(nd:cs.Nodup)(hr:RiseL mss):∃cs':List Clk,mss=cs'.map toL/\(∀c,c∈cs'↔c∈cs)/\Rise cs'/\cs'.length=cs.length:=by
 obtain⟨cs',rfl,hc⟩:=qg0z fun ns hn=>hp.mem_iff.mp hn;have hnd:(cs.map toL).Nodup:=by
  refine List.pairwise_map.mpr (nd.imp fun {a b} h z=>h (qg1z z))
 refine⟨cs',rfl,fun c=>⟨fun h=>hc c h,fun h=>?_⟩,qltz hr (hp.nodup_iff.mpr hnd),by simpa using hp.length_eq⟩;obtain⟨c',h1,h2⟩:=List.mem_map.mp (hp.mem_iff.mpr (List.mem_map.mpr ⟨c,h,rfl⟩));rw[←qg1z h2];exact h1
theorem qg4z{α:Type}(f:α->Bool):∀xs:List α,blsOf (xs.map fun x=>D.bl (f x))=some (xs.map f)
 |[]=>rfl
 |x::xs=>by
  show Option.map _ (blsOf (xs.map fun x=>D.bl (f x)))=_;rw[qg4z f xs];rfl
end My
namespace My
open PySem L2 L3
def Kn(G:Gp):Nat->D->Prop
 |0,d=>Known G d
 |n+1,.tup ds=>∀d∈ds,Kn G n d
 |_+1,d=>Known G d
def KnD(G:Gp)(d:D):Prop:=∀n,Kn G n d
section
variable {G G':Gp}
theorem KnD.tup{ds:List D}(h:∀d∈ds,KnD G d):KnD G (.tup ds):=fun n=>match n with
 |0=>trivial
 |n+1=>fun d hd=>h d hd n
theorem KnD.int(i:Int):KnD G (.int i):=fun n=>by cases n<;>trivial
theorem KnD.non:KnD G .non:=fun n=>by cases n<;>trivial
theorem KnD.el{ds:List D}{d:D}(h:KnD G (.tup ds))(hd:d∈ds):KnD G d:=fun n=>h (n+1) d hd
theorem KnD.known{d:D}(h:KnD G d):Known G d:=h 0
theorem KnD.known2{d:D}(h:KnD G d):Known2 G d:=by
 cases d with
 |tup ds=>exact fun d hd=>(h.el hd).known
 |obj a=>exact h 0
 |_=>trivial
theorem Kn.sub(s:Sub G G'):∀(n:Nat) (d:D),Kn G n d->Kn G' n d
 |0,d,h=>Known.sub s h
 |n+1,.tup ds,h=>fun d hd=>Kn.sub s n d (h d hd)
 |n+1,.non,_=>trivial
 |n+1,.bl _,_=>trivial
 |n+1,.int _,_=>trivial
 |n+1,.str _,_=>trivial
 |n+1,.scr _,_=>trivial
 |n+1,.dc _,_=>trivial
 |n+1,.obj _,h=>Known.sub s h
theorem KnD.sub{d:D}(s:Sub G G')(h:KnD G d):KnD G' d:=fun n=>Kn.sub s n d (h n)
theorem KnD.clk(c:Clk):KnD G (cD c):=.tup fun d hd=>by
 simp only[List.mem_cons,List.not_mem_nil,or_false] at hd;rcases hd with rfl|rfl
 ·exact .int _
 ·exact .int _
theorem KnD.two{a b:D}(ha:KnD G a)(hb:KnD G b):KnD G (.tup [a,b]):=.tup fun d hd=>by
 simp only[List.mem_cons,List.not_mem_nil,or_false] at hd;rcases hd with rfl|rfl
 ·exact ha
 ·exact hb
end
def clkV(s r:Int):Bool:=(decide (1≤s)&&decide (s≤1000))&&(decide (0≤r)&&decide (r<s))
def clkB:D->Bool
 |.tup [.int s,.int r]=>clkV s r
 |_=>false
def qdnz:Sp3:=fun ds G Q=>∃d:D,ds=[d]/\KnD G d/\Q (.bl (clkB d)) G
def qyvz:TS3:=sRet (eAndV (eChain rLe3 rLe3 (eC (.int 1)) (eOp rIx3 (eVar 0) (eC (.int 0))) (eC (.int 1000))) (eChain rLe3 rLtT3 (eC (.int 0)) (eOp rIx3 (eVar 0) (eC (.int 1))) (eOp rIx3 (eVar 0) (eC (.int 0)))))
def qywz:TS3:=sSeq (sIf (eOr (eNot (eTest (eCall qbkz (aCons (eOp rIx3 (eVar 0) (eC (.int 0))) (aNil))))) (eNot (eTest (eCall qbkz (aCons (eOp rIx3 (eVar 0) (eC (.int 1))) (aNil)))))) (sRet (eC (.bl false))) (sNext)) qyvz
def qg5z:TS3:=sSeq (sIf (eOr (eNot (eTest (eInst "tuple" (eVar 0)))) (eTest (eOp (rEq3 true) (eCB qsz (aCons (eVar 0) (aNil))) (eC (.int 2))))) (sRet (eC (.bl false))) (sNext)) qywz
theorem ql8z{ds:List D}(h:ds.length≠2):clkB (.tup ds)=false:=by
 unfold clkB;split
 ·rename_i h2;cases h2;exact absurd rfl h
 ·rfl
theorem qyxz:∀ds G Q,qdnz ds G Q->qg5z (endsOf Q) (start3 ["thing"] ds) G:=by
 rintro ds G Q ⟨d,rfl,hk,q⟩;have not_tup:(∀ds,d≠.tup ds)->qg5z (endsOf Q) (start3 ["thing"] [d]) G:=by
  intro hn;have e:clkB d=false:=by
   cases d with
   |tup ds=>exact absurd rfl (hn ds)
   |_=>rfl
  rw[e] at q;show match instD "tuple" G d with
   |some b=>_
   |none=>False
  rw[qe5z hk.known2 hn];exact⟨fun _=>⟨fun _=>qhz q,nofun⟩,nofun⟩
 cases d with
 |tup ds=>
  refine⟨nofun,fun _=>⟨_,_,rfl,rfl,Nat.zero_le _,?_⟩⟩;rcases ds with _|⟨a,_|⟨b,_|⟨c,ds⟩⟩⟩
  ·exact⟨fun _=>qhz q,nofun⟩
  ·rw[ql8z (by simp)] at q;exact⟨fun _=>qhz q,nofun⟩
  ·refine⟨nofun,fun _=>⟨a,rfl,(hk.el (by simp)).known,?_⟩⟩;have hb:Known G b:=(hk.el (by simp)).known;cases a with
   |int s=>
    refine⟨nofun,fun _=>⟨b,rfl,hb,?_⟩⟩;cases b with
    |int r=>
     have fin:∀v,clkV s r=v->(endsOf Q).rt (.bl v) G:=fun v e=>by
      rw[←e];exact qhz q
     refine⟨nofun,fun _=>⟨_,rfl,⟨fun h1=>⟨fun h2=>⟨_,rfl,fun h3=>⟨_,rfl,fin _ ?_⟩,fun h3=>fin _ ?_⟩,fun h2=>fin _ ?_⟩,fun h1=>⟨nofun,fun _=>fin _ ?_⟩⟩⟩⟩
     ·unfold clkV;rw[h1,h2,h3];rfl
     ·unfold clkV;rw[h1,h2,h3];rfl
     ·unfold clkV;rw[h1,h2];rfl
     ·unfold clkV;rw[h1];rfl
    |_=>exact⟨fun _=>qhz q,nofun⟩
   |_=>exact⟨fun _=>⟨fun _=>qhz q,nofun⟩,nofun⟩
  ·refine⟨fun _=>?_,fun h=>?_⟩
   ·rw[ql8z (by simp)] at q;exact qhz q
   have h':(!(((ds.length+1+1+1:Nat):Int)==2))=false:=h;simp at h';omega
 |_=>exact not_tup nofun
end My
namespace My
open PySem L2 L3
mutual
def depD:D->Nat
 |.tup ds=>depDs ds+1
 |.non=>0
 |.bl _=>0
 |.int _=>0
 |.str _=>0
 |.scr _=>0
 |.dc _=>0
 |.obj _=>0
def depDs:List D->Nat
 |[]=>0
 |d::ds=>max (depD d) (depDs ds)
end
theorem qe6z(ds:List D):depD (.tup ds)=depDs ds+1:=by rw[depD]
theorem qg6z{d:D}:∀{ds:List D},d∈ds->depD d≤depDs ds
 |[],h=>nomatch h
 |e::ds,h=>by
  rw[depDs];rcases List.mem_cons.mp h with rfl|h
  ·exact Nat.le_max_left _ _
  ·exact Nat.le_trans (qg6z h) (Nat.le_max_right _ _)
theorem ql9z{n:Nat}:∀{ds:List D},(∀d∈ds,depD d≤n)->depDs ds≤n
 |[],_=>by rw[depDs];exact Nat.zero_le _
 |d::ds,h=>by
  rw[depDs];exact Nat.max_le.mpr ⟨h d List.mem_cons_self,ql9z fun e he=>h e (List.mem_cons_of_mem _ he)⟩
theorem qcnz{α β:Type}(f:α->D)(g:β->D):∀(as:List α) (bs:List β),zipD (as.map f) (bs.map g)=(as.zip bs).map fun p=>D.tup [f p.1,g p.2]
 |[],_=>rfl
 |a::as,[]=>rfl
 |a::as,b::bs=>by
  show D.tup [f a,g b]::zipD (as.map f) (bs.map g)=D.tup [f a,g b]::(as.zip bs).map _;rw[qcnz f g as bs]
theorem qmaz{α:Type}(f:α->D)(as:List α)(bs:List D):zipD (as.map f) bs=(as.zip bs).map fun p=>D.tup [f p.1,p.2]:=by
 have:=qcnz f (fun d:D=>d) as bs;rw[List.map_id'] at this;exact this
theorem qg7z{β:Type}(g:β->D)(bs:List β):enumD (bs.map g)=((List.range bs.length).zip bs).map fun p=>D.tup [nD p.1,g p.2]:=by
 unfold enumD;rw[List.length_map,rng0];exact qcnz nD g _ _
def rD:Option Int->D
 |none=>.non
 |some i=>.int i
def setC(ns:List Int)(rs:List (Option Int)):List Clk:=(ns.zip rs).filterMap fun p=>p.2.map fun r=>(p.1,r)
def opens(rs:List (Option Int)):List Nat:=(List.range rs.length).filter fun k=>(rs.getD k none).isNone
theorem qyyz{α:Type}(a0:α)(rs:List α):(List.range rs.length).zip rs=(List.range rs.length).map fun k=>(k,rs.getD k a0):=by
 apply List.ext_getElem?;intro i;rw[List.getElem?_map];by_cases hi:i<rs.length
 ·rw[List.getElem?_range hi,List.getElem?_eq_getElem (by simpa using hi),List.getElem_zip];simp[hi]
 ·rw[List.getElem?_eq_none_iff.mpr (by simpa using hi),List.getElem?_eq_none_iff.mpr (by simpa using hi)];rfl
theorem qyzz(rs:List (Option Int)):(((List.range rs.length).zip rs).filter fun p=>p.2.isNone).map (fun p=>nD p.1)=(opens rs).map nD:=by
 rw[qyyz none,List.filter_map,List.map_map];rfl
theorem qg8z:∀ps:List (Int×Option Int),(ps.filter fun p=>p.2.isSome).map (fun p=>cD (p.1,p.2.getD 0))=(ps.filterMap fun p=>p.2.map fun r=>((p.1,r):Clk)).map cD
 |[]=>rfl
 | (s,none)::ps=>qg8z ps
 | (s,some r)::ps=>by
  show cD (s,r)::_=cD (s,r)::_;rw[←qg8z ps]
def qy0z:TS3:=sRet (eCB qbez (aCons (eComp ["step","rest"] [] (iZip (aCons (eVar 0) (aCons (eVar 1) (aNil)))) (hTup 2 (hCons (hName 0) (hCons (hName 1) (hNil)))) (eTest (eOp (rIs3 true) (eVar 1) (eC .non))) (eTup (aCons (eVar 0) (aCons (eVar 1) (aNil))))) (aNil)))
def qcoz:Sp3:=fun ds G Q=>∃(q:Addr) (rs:List (Option Int)),ds=[.obj q]/\G q=some (.lst (rs.map rD))/\rs.length≤1000/\∀p1 G1,New G p1 (.lst ((opens rs).map nD)) G1->Q (.obj p1) G1
def qmbz:TS3:=sRet (eComp ["place","rest"] [] (iEnum (aCons (eVar 0) (aNil))) (hTup 2 (hCons (hName 0) (hCons (hName 1) (hNil)))) (eTest (eOp (rIs3 false) (eVar 1) (eC .non))) (eVar 0))
theorem qy1z:∀ds G Q,qcoz ds G Q->qmbz (endsOf Q) (start3 ["rests"] ds) G:=by
 rintro ds G Q ⟨q,rs,rfl,hq,hl,k⟩;refine⟨rs.map rD,hq,?_⟩;rw[qg7z rD rs];refine⟨?_,?_⟩
 ·show (((List.range rs.length).zip rs).map _).length≤sizeLine;rw[List.length_map,List.length_zip,List.length_range];exact line1000 (by omega)
 refine qabz (fun τ=>∃x y,τ=[x,y]) (fun p:Nat×Option Int=>D.tup [nD p.1,rD p.2]) (fun p=>p.2.isNone) (fun p=>nD p.1) (G:=G) hq ((List.range rs.length).zip rs) [] _ ⟨none,none,rfl⟩ ?_ ?_
 ·rintro⟨s,r⟩ hm τ K1 K2 ⟨x,y,rfl⟩ h1 h2;cases r with
  |none=>exact⟨rfl,fun _=>h1 rfl _ ⟨_,_,rfl⟩,nofun⟩
  |some r=>exact⟨rfl,nofun,fun _=>h2 rfl _ ⟨_,_,rfl⟩⟩
 ·intro p1 G1 n1;rw[List.nil_append,qyzz] at n1;exact qhz (k p1 G1 n1)
def qbwz:Sp3:=fun ds G Q=>∃(q:Addr) (rs:List (Option Int)) (k:Nat) (r:Int),ds=[.obj q,.int k,.int r]/\G q=some (.lst (rs.map rD))/\k<rs.length/\rs.length≤100/\∀p1 G1,New G p1 (.lst ((rs.set k (some r)).map rD)) G1->Q (.obj p1) G1
def qmcz:TS3:=sRet (eOp rAdd3 (eOp rAdd3 (eSl (eVar 0) (oNone) (oSome (eVar 1))) (eLst (aCons (eVar 2) (aNil)))) (eSl (eVar 0) (oSome (eOp rAdd3 (eVar 1) (eC (.int 1)))) (oNone)))
theorem qmdz{G:Gp}{q:Addr}{rs:List (Option Int)}{k:Nat}{r:Int}{Q:V3}(hq:G q=some (.lst (rs.map rD)))(hk:k<rs.length)(hl:rs.length≤100)(h:∀p1 G1,New G p1 (.lst ((rs.set k (some r)).map rD)) G1->Q (.obj p1) G1){p1 G1}(n1:New G p1 (.lst (cut3 (rs.map rD) none (some (k:Int)))) G1){p2 G2}(n2:New G1 p2 (.lst [.int r]) G2):
  rAdd3 (.obj p1) (.obj p2) G2 fun x G3=>∃ds,G3 q=some (.lst ds)/\∀p4 G4,New G3 p4 (.lst (cut3 ds (some ((k:Int)+1)) none)) G4->rAdd3 x (.obj p4) G4 Q:=by
 have s2:=n1.sub.trans n2.sub;have c1:cut3 (rs.map rD) none (some (k:Int))=(rs.take k).map rD:=by rw[qbuz,qdiz]
 have c2:cut3 (rs.map rD) (some ((k:Int)+1)) none=(rs.drop (k+1)).map rD:=by rw[qbuz,show (k:Int)+1=((k+1:Nat):Int) by omega,qlrz]
 rw[c1] at n1;refine⟨_,_,n2.sub _ _ n1.at_,n2.at_,?_,fun p3 G3 n3=>⟨_,n3.sub _ _ (s2 _ _ hq),fun p4 G4 n4=>?_⟩⟩
 ·rw[List.length_map,List.length_take];exact line1000 (by show min k rs.length+1≤1000;omega)
 rw[c2] at n4;refine⟨_,_,n4.sub _ _ n3.at_,n4.at_,?_,fun p5 G5 n5=>h p5 G5 ⟨(s2.trans (n3.sub.trans n4.sub)).of_none n5.non,s2.trans ((n3.sub.trans n4.sub).trans n5.sub),?_⟩⟩
 ·rw[List.length_append,List.length_map,List.length_map,List.length_take,List.length_drop];exact line1000 (by show min k rs.length+1+(rs.length-(k+1))≤1000;omega)
 ·rw[n5.at_,List.set_eq_take_append_cons_drop,if_pos hk];simp[rD]
theorem qy2z:∀ds G Q,qbwz ds G Q->qmcz (endsOf Q) (start3 ["rests","place","rest"] ds) G:=by
 rintro ds G Q ⟨q,rs,k,r,rfl,hq,hk,hl,h⟩;exact⟨_,hq,fun p1 G1 n1 p2 G2 n2=>qmdz (Q:=(endsOf Q).rt) hq hk hl (fun p G n=>qhz (h p G n)) n1 n2⟩
theorem qe7z{rs:List (Option Int)}{k:Nat}(h:k∈opens rs):k<rs.length:=by
 have:=(List.mem_filter.mp h).1;simpa using this
def qy3z:TS3:=sRet (eCB qc8z (aCons (eComp ["step"] [] (iSeq (eVar 0)) (hName 0) (tNoTest3) (eAndV (eCall qbkz (aCons (eVar 0) (aNil))) (eChain rLe3 rLe3 (eC (.int 2)) (eVar 0) (eC (.int 24))))) (aNil)))
def qy4z:TS3:=sSeq (sIf (eOr (eNot (eTest (eInst "list" (eVar 0)))) (eNot (eTest (eChain rLe3 rLe3 (eC (.int 1)) (eCB qsz (aCons (eVar 0) (aNil))) (eC (.int 6)))))) (sRet (eC (.bl false))) (sNext)) qy3z
end My
namespace My
open PySem L2 L3
theorem qy5z{cs:List Clk}{d:Nat}:∀{a:Nat},a∣d->(∀c∈cs,c.1.toNat∣d)->rndF cs a∣d:=by
 induction cs with
 |nil=>exact fun h _=>h
 |cons c cs ih=>
  intro a h hc;exact ih (a:=Nat.lcm a c.1.toNat) (Nat.lcm_dvd h (hc c List.mem_cons_self)) fun c' h'=>hc c' (List.mem_cons_of_mem _ h')
theorem qy6z{cs:List Clk}:∀{a:Nat},a∣rndF cs a:=by
 induction cs with
 |nil=>exact Nat.dvd_refl _
 |cons c cs ih=>intro a;exact Nat.dvd_trans (Nat.dvd_lcm_left a c.1.toNat) (ih (a:=Nat.lcm a c.1.toNat))
theorem qy7z{cs:List Clk}{c:Clk}:∀{a:Nat},c∈cs->c.1.toNat∣rndF cs a:=by
 induction cs with
 |nil=>exact fun h=>nomatch h
 |cons d cs ih=>
  intro a h;rcases List.mem_cons.mp h with rfl|h
  ·exact Nat.dvd_trans (Nat.dvd_lcm_right a c.1.toNat) (qy6z (cs:=cs) (a:=Nat.lcm a c.1.toNat))
  ·exact ih (a:=Nat.lcm a d.1.toNat) h
end My
namespace My
open PySem L2 L3
def ClSm(cs:List Clk):Prop:=∀c∈cs,Valid c/\(c.1≤24/\c.1∣720)
theorem more720{s k:Int}(h0:0<s)(h:s∣720)(hk:k=2∨k=3)(hl:s*k<25):s*k∣720:=by
 obtain⟨n,rfl⟩:∃n:Nat,s=(n:Int):=⟨s.toNat,by lia⟩;have hn:n∣720:=Int.natCast_dvd_natCast.mp h;have h2:∀n:Nat,n<13->n∣720->(n*2<25->n*2∣720)/\(n*3<25->n*3∣720):=by decide
 rcases hk with rfl|rfl
 ·exact Int.natCast_dvd_natCast.mpr ((h2 n (by lia) hn).1 (by lia))
 ·exact Int.natCast_dvd_natCast.mpr ((h2 n (by lia) hn).2 (by lia))
def qdoz:Sp3:=fun ds G Q=>∃(p:Addr) (t:Int),ds=[.obj p,.int t]/\G p=some .pen/\(0≤t/\t≤1000)/\∀q cs G',ClSm cs->1≤cs.length->cs.length≤12->New G q (.lst (cs.map cD)) G'->Q (.obj q) G'
def qy8z:TS3:=sIf (eAnd (eTest (eOp rLtT3 (eOp rAdd3 (eCB qsz (aCons (eVar 2) (aNil))) (eVar 5)) (eC (.int 13)))) (eTest (eOp rLtT3 (eOp rMul3 (eVar 6) (eVar 5)) (eC (.int 25))))) (sAsg (eOp rAdd3 (eOp rAdd3 (eSl (eVar 2) (oNone) (oSome (eVar 4))) (eComp ["part"] [6,5,7] (iRng1 (aCons (eVar 5) (aNil))) (hName 0) (tNoTest3) (eTup (aCons (eOp rMul3 (eVar 1) (eVar 2)) (aCons (eOp rAdd3 (eVar 3) (eOp rMul3 (eVar 1) (eVar 0))) (aNil)))))) (eSl (eVar 2) (oSome (eOp rAdd3 (eVar 4) (eC (.int 1)))) (oNone))) (hName 2)) (sNext)
def qy9z:TS3:=sSeq (sAsg (eOp rIx3 (eVar 2) (eVar 4)) (hTup 2 (hCons (hName 6) (hCons (hName 7) (hNil))))) qy8z
def qzaz:TS3:=sSeq (sAsg (eLstIx (aCons (eC (.int 2)) (aCons (eC (.int 2)) (aCons (eC (.int 3)) (aNil)))) (eCall qayz (aCons (eVar 0) (aCons (eC (.int 3)) (aNil))))) (hName 5)) qy9z
def qzbz:TS3:=sSeq (sAsg (eCall qayz (aCons (eVar 0) (aCons (eCB qsz (aCons (eVar 2) (aNil))) (aNil)))) (hName 4)) qzaz
def qzcz:TS3:=sRet (eVar 2)
def qzdz:TS3:=sSeq (sFor (iRng1 (aCons (eVar 1) (aNil))) (hName 3) (qzbz)) qzcz
def qmez:TS3:=sSeq (sAsg (eLst (aCons (eTup (aCons (eC (.int 1)) (aCons (eC (.int 0)) (aNil)))) (aNil))) (hName 2)) qzdz
theorem qzez:∀ds G Q,qdoz ds G Q->qmez (endsOf Q) (start3 ["pen","times","found","turn","spot","k","step","rest"] ds) G:=by
 rintro ds G Q ⟨p,t,rfl,hp,ht,q⟩;intro q0 G0 hq0;refine⟨⟨by lia,by lia⟩,?_⟩;refine q1z (fun _ τ G'=>∃q cs x3 x4 x5 x6 x7,τ=[some (.obj p),some (.int t),some (.obj q),x3,x4,x5,x6,x7]/\New G q (.lst (cs.map cD)) G'/\ClSm cs/\1≤cs.length/\cs.length≤12) (fun _ _ _ _=>trivial) ?_ ?_ _ _ _ ?_
 ·rintro d ds τ G1 N ⟨q1,cs,x3,x4,x5,x6,x7,rfl,n1,ok,l1,l2⟩ hN;have e1:=n1.at_;have hp1:=n1.sub p _ hp;refine⟨_,e1,p,_,rfl,hp1,⟨?_,?_⟩,fun spot h1 h2=>?_⟩
  ·rw[List.length_map];lia
  ·exact qtz (by rw[List.length_map];lia) (by rw[List.length_map];lia)
  rw[List.length_map] at h2;refine⟨p,3,rfl,hp1,⟨by decide,qtz (by decide) (by decide)⟩,fun r h3 h4=>?_⟩;obtain⟨k,hk,ek⟩:=qe4z (ns:=[2,2,3]) h3 h4;refine⟨.int k,ek,?_⟩;obtain⟨c,ec1,hc,ec⟩:=qlsz cD h1 h2;obtain⟨s,r'⟩:=c;refine⟨_,cD (s,r'),e1,ec,rfl,?_⟩;have hv:=(ok _ hc).1;have hs24:=(ok _ hc).2.1;have hs720:=(ok _ hc).2.2;have hk':k=2∨k=3:=by simp at hk;lia
  have again:N [some (.obj p),some (.int t),some (.obj q1),some d,some (.int spot),some (.int k),some (.int s),some (.int r')] G1:=
   hN _ _ ⟨q1,cs,_,_,_,_,_,rfl,n1,ok,l1,l2⟩
  refine⟨_,e1,fun h5=>⟨⟨qtz ?_ ?_,qtz ?_ ?_⟩,fun h6=>?_,fun h6=>again⟩,fun h5=>⟨nofun,fun _=>again⟩⟩
  ·have:=hv.1;simp only at this;lia
  ·simp only at hs24;lia
  ·lia
  ·lia
  have h5':((cs.map cD).length:Int)+k<13:=of_decide_eq_true h5;have h6':s*k<25:=of_decide_eq_true h6;rw[List.length_map] at h5';refine⟨_,e1,fun p1 G2 a1=>⟨⟨by lia,by lia⟩,?_,?_⟩⟩
  ·show (rngL 0 k.toNat).length≤sizeLine;rw[qbqz];exact line1000 (by lia)
  refine qabz (fun τ=>∃x,τ=[x,some (.int s),some (.int k),some (.int r')]) (fun i:Nat=>D.int (0+(i:Int))) (fun _=>true) (fun i:Nat=>cD (s*k,r'+s*(0+(i:Int)))) trivial (List.range k.toNat) [] _ ⟨none,rfl⟩ ?_ ?_
  ·rintro i hi τ K1 K2 ⟨x,rfl⟩ g1 g2;have hi':(i:Int)<k:=by have:=List.mem_range.mp hi;lia
   have b1:Big s:=qtz (by have:=hv.1;simp only at this;lia) (by simp only at hs24;lia);refine⟨fun _=>⟨⟨b1,qtz (by lia) (by lia)⟩,⟨b1,qtz (by lia) (by lia)⟩,?_⟩,nofun⟩;exact g1 rfl _ ⟨_,rfl⟩
  ·intro p2 G3 a2;obtain⟨j,rfl⟩:∃j:Nat,spot=(j:Int):=⟨spot.toNat,by lia⟩;have hj:j<cs.length:=by lia
   have el:(cut3 (cs.map cD) none (some (j:Int))++([]++((List.range k.toNat).filter fun _=>true).map fun i:Nat=>cD (s*k,r'+s*(0+(i:Int))))++cut3 (cs.map cD) (some ((j:Int)+1)) none) =
     (cs.take j++((List.range k.toNat).map fun i:Nat=>(s*k,r'+s*(0+(i:Int))))++cs.drop (j+1)).map cD:=by
    rw[qbuz,qbuz,qdiz,show ((j:Int)+1)=((j+1:Nat):Int) by lia,qlrz,List.filter_eq_self.mpr (fun _ _=>rfl)];simp[List.map_append,List.map_map]
   have hlen:(cs.take j++((List.range k.toNat).map fun i:Nat=>(s*k,r'+s*(0+(i:Int))))++cs.drop (j+1)).length=cs.length-1+k.toNat:=by
    rw[List.length_append,List.length_append,List.length_take,List.length_drop,List.length_map,List.length_range];lia
   have hle:(cut3 (cs.map cD) none (some (j:Int))++([]++((List.range k.toNat).filter fun _=>true).map fun i:Nat=>cD (s*k,r'+s*(0+(i:Int))))++cut3 (cs.map cD) (some ((j:Int)+1)) none).length≤12:=by
    rw[el,List.length_map,hlen];lia
   refine⟨_,_,a2.sub _ _ a1.at_,a2.at_,?_,fun p3 G4 a3=>?_⟩
   ·rw[List.length_append,List.length_append] at hle;exact line1000 (by lia)
   refine⟨_,a3.sub _ _ (a2.sub _ _ (a1.sub _ _ e1)),fun p4 G5 a4=>?_⟩;refine⟨_,_,a4.sub _ _ a3.at_,a4.at_,?_,fun p5 G6 a5=>?_⟩
   ·rw[←List.length_append];exact line1000 (by lia)
   ·rw[el] at a5;have s4:=((n1.sub.trans a1.sub).trans a2.sub).trans (a3.sub.trans a4.sub);refine hN _ _ ⟨p5,_,_,_,_,_,_,rfl,⟨s4.of_none a5.non,s4.trans a5.sub,a5.at_⟩,fun c hc=>?_,by lia,by lia⟩;rcases List.mem_append.mp hc with hc|hc
    ·rcases List.mem_append.mp hc with hc|hc
     ·exact ok c (List.mem_of_mem_take hc)
     ·obtain⟨i,hi,rfl⟩:=List.mem_map.mp hc;have:=List.mem_range.mp hi;exact⟨qxjz hv (by lia) (by lia),by show s*k≤24;lia,more720 hv.1 hs720 hk' h6'⟩
    ·exact ok c (List.mem_of_mem_drop hc)
 ·rintro τ G1 ⟨q1,cs,x3,x4,x5,x6,x7,rfl,n1,ok,l1,l2⟩;exact qhz (q q1 cs _ ok l1 l2 n1)
 ·exact⟨q0,[(1,0)],_,_,_,_,_,rfl,hq0,by intro c hc;simp at hc;subst hc;exact⟨⟨by decide,by decide,by decide⟩,by decide,by decide⟩,by decide,by decide⟩
end My
namespace My
open PySem L2 L3
def qbxz:Sp3:=fun ds G Q=>∃a b:Int,ds=[.int a,.int b]/\a≤b/\Q .non G
def qmfz:TS3:=sIf (eTest (eOp rGt3 (eVar 0) (eVar 1))) (sNever) (sNext)
theorem qzfz:∀ds G Q,qbxz ds G Q->qmfz (endsOf Q) (start3 ["many","most"] ds) G:=by
 rintro ds G Q ⟨a,b,rfl,h,q⟩;refine⟨fun h'=>?_,fun _=>⟨G,Sub.refl _,q⟩⟩;have:a > b:=of_decide_eq_true h';lia
def nums(c:Clk)(n:Nat):List Nat:=(List.range (cntR c.2 n c.1)).map fun i=>c.2.toNat+i*c.1.toNat
theorem qmgz{c:Clk}(h:Valid c)(n:Nat):rngC c.2 c.1 (cntR c.2 n c.1)=(nums c n).map nD:=by
 unfold rngC nums;rw[List.map_map];refine List.map_congr_left fun i _=>?_;show D.int _=D.int ((c.2.toNat+i*c.1.toNat:Nat):Int);congr 1;have:=h.1;have:=h.2.1;rw[Int.natCast_add,Int.natCast_mul,Int.toNat_of_nonneg (by lia),Int.toNat_of_nonneg (by lia)]
theorem qe8z{c:Clk}(h:Valid c){n x:Nat}:x∈nums c n↔x<n/\rg x c=true:=by
 obtain⟨h1,h2,h3⟩:=h;unfold nums;rw[List.mem_map];obtain⟨s,hs⟩:∃s:Nat,c.1=(s:Int):=⟨c.1.toNat,by lia⟩;obtain⟨r,hr⟩:∃r:Nat,c.2=(r:Int):=⟨c.2.toNat,by lia⟩;have hrg:rg x c=true↔x%s=r:=by
  show ((x:Int)%c.1==c.2)=true↔_;rw[beq_iff_eq,hs,hr];constructor
  ·intro e;exact_mod_cast e
  ·intro e;exact_mod_cast e
 rw[hrg];have s0:0<s:=by lia
 have rs:r<s:=by lia
 have hc:∀i,i<cntR c.2 n c.1↔r+i*s<n:=fun i=>by
  unfold cntR;rw[hs,hr];split
  ·rename_i hlt;have hrn:r<n:=by lia
   rw[show ((n:Int)-(r:Int)-1) / (s:Int)+1=(((n-r-1) / s+1:Nat):Int) by
    rw[Int.natCast_add,Int.natCast_ediv,show ((n-r-1:Nat):Int)=(n:Int)-(r:Int)-1 by lia];rfl,Int.toNat_natCast,Nat.lt_succ_iff,Nat.le_div_iff_mul_le s0]
   lia
  ·rename_i hlt;have:¬r<n:=by lia
   constructor
   ·intro z;exact absurd z (Nat.not_lt_zero _)
   ·intro z;lia
 rw[hs,hr,Int.toNat_natCast,Int.toNat_natCast];constructor
 ·rintro⟨i,hi,rfl⟩;have hi:=List.mem_range.mp hi;rw[←hs,←hr] at hi;refine⟨(hc i).mp hi,?_⟩;rw[Nat.add_mul_mod_self_right,Nat.mod_eq_of_lt rs]
 ·rintro⟨hx,e⟩;have hd:s*(x / s)+x%s=x:=Nat.div_add_mod x s;refine⟨x / s,?_,?_⟩
  ·rw[List.mem_range,←hs,←hr,hc,Nat.mul_comm];lia
  ·rw[Nat.mul_comm];lia
theorem qmhz{c:Clk}(h:Valid c)(n:Nat):(nums c n).Nodup:=by
 unfold nums;unfold List.Nodup;rw[List.pairwise_map];refine List.Pairwise.imp ?_ (List.nodup_range (n:=cntR c.2 n c.1));intro a b hab e;have:=h.1;have h0:0<c.1.toNat:=by lia
 exact hab (Nat.eq_of_mul_eq_mul_right h0 (by lia))
def cntN(cs:List Clk)(x:Nat):Nat:=(cs.filter (rg x)).length
def tabD(f:Nat->Nat)(n:Nat):List D:=(List.range n).map fun x=>nD (f x)
theorem qdpz(f:Nat->Nat)(n:Nat):(tabD f n).length=n:=by simp[tabD]
theorem qmiz{f:Nat->Nat}{n x:Nat}(h:x<n):atI (tabD f n) (x:Int)=some (nD (f x)):=qbpz (by
 unfold tabD;rw[List.getElem?_map,List.getElem?_range h];rfl)
theorem qzgz{f:Nat->Nat}{n x v:Nat}(h:x<n):(tabD f n).set x (nD v)=tabD (fun y=>if y=x then v else f y) n:=by
 unfold tabD;apply List.ext_getElem?;intro i;rw[List.getElem?_set];by_cases hi:i<n
 ·by_cases hx:x=i
  ·subst hx;simp[h]
  ·have:¬i=x:=fun z=>hx z.symm;simp[hi,hx,this]
 ·have:¬x=i:=fun z=>hi (by lia);simp[hi,this]
theorem qmjz{f g:Nat->Nat}{n:Nat}(h:∀x,x<n->f x=g x):tabD f n=tabD g n:=by
 unfold tabD;refine List.map_congr_left fun x hx=>?_;rw[h x (List.mem_range.mp hx)]
theorem qzhz{n x:Nat}(h:x<n):ixN n (x:Int)=some x:=by
 unfold ixN;simp[h]
def qcpz:Sp3:=fun ds G Q=>∃(cs:List Clk) (n:Nat),ds=[csD cs,.int n]/\ClOk 1000 cs/\cs.length≤1000/\n≤10000/\∀p G',New G p (.lst (tabD (cntN cs) n)) G'->Q (.obj p) G'
def qziz:TS3:=sAugS (eVar 2) (eVar 5) (eC (.int 1)) (· + ·)
def qzjz:TS3:=sFor (iRng3 (aCons (eVar 4) (aCons (eVar 1) (aCons (eVar 3) (aNil))))) (hName 5) (qziz)
def qzkz:TS3:=sRet (eVar 2)
def qzlz:TS3:=sSeq (sFor (iSeq (eVar 0)) (hTup 2 (hCons (hName 3) (hCons (hName 4) (hNil)))) (qzjz)) qzkz
def qzmz:TS3:=sSeq (sAsg (eOp rMul3 (eLst (aCons (eC (.int 0)) (aNil))) (eVar 1)) (hName 2)) qzlz
def qmkz:TS3:=sSeq (sDrop (eCall qbxz (aCons (eVar 1) (aCons (eC (.int 10000)) (aNil))))) qzmz
theorem zeros(n:Nat):(List.replicate n [D.int 0]).flatten=tabD (fun _=>0) n:=by
 unfold tabD
 induction n with
 |zero=>rfl
 |succ n ih=>
  rw[List.replicate_succ',List.flatten_append,ih,List.range_succ,List.map_append];rfl
theorem qmlz(c:Clk)(cs:List Clk)(x:Nat):cntN (c::cs) x=(if rg x c=true then 1 else 0)+cntN cs x:=by
 unfold cntN;rw[List.filter_cons];split
 ·rw[List.length_cons];lia
 ·lia
theorem qznz:∀ds G Q,qcpz ds G Q->qmkz (endsOf Q) (start3 ["clocks","many","counts","step","rest","number"] ds) G:=by
 rintro ds G Q ⟨cs,n,rfl,ok,hl,hn,q⟩;refine⟨n,10000,rfl,by lia,?_⟩;intro p0 G0 n0;refine⟨_,n0.at_,⟨by lia,by lia⟩,?_,fun p G1 n1=>?_⟩
 ·rw[Int.toNat_natCast];exact Nat.le_trans (show 1*n≤10000 by lia) (by decide)
 rw[Int.toNat_natCast,zeros] at n1;have m1:New G p (.lst (tabD (fun _=>0) n)) G1:=⟨n0.sub.of_none n1.non,n0.sub.trans n1.sub,n1.at_⟩;refine q1z (fun ds τ G'=>∃(zs:List Clk) (f:Nat->Nat) (x3 x4 x5:Option D),ds=zs.map cD/\τ=[some (csD cs),some (.int n),some (.obj p),x3,x4,x5]/\New G p (.lst (tabD f n)) G'/\(∀z∈zs,z∈cs)/\∀x,f x+cntN zs x=cntN cs x) (fun _ _ _ _=>trivial) ?_ ?_ _ _ _ ⟨cs,fun _=>0,none,none,none,rfl,rfl,m1,fun _ h=>h,fun x=>Nat.zero_add _⟩
 ·rintro d ds τ G' N ⟨zs,f,x3,x4,x5,e,rfl,m2,hm,hf⟩ hN;cases zs with
  |nil=>cases e
  |cons c zs=>
   cases e;obtain⟨hv,h1000⟩:=ok c (hm c List.mem_cons_self);have v1:=hv.1;have v2:=hv.2.1;have v3:=hv.2.2;refine⟨rfl,⟨by lia,by lia,by lia,by lia,v1,by lia⟩,?_⟩;show forGo _ _ _ _ (rngC c.2 c.1 (cntR c.2 n c.1)) _ _;rw[qmgz hv];refine q1z (fun ds τ G'=>∃(ms:List Nat) (g:Nat->Nat) (x5:Option D),ds=ms.map nD/\τ=[some (csD cs),some (.int n),some (.obj p),some (.int c.1),some (.int c.2),x5]/\New G p (.lst (tabD g n)) G'/\ms.Nodup/\(∀x∈ms,x<n/\rg x c=true)/\∀x,x<n->g x=f x+(if rg x c=true/\x∉ms then 1 else 0)) (fun _ _ _ _=>trivial) ?_ ?_ _ _ _ ⟨nums c n,f,x5,rfl,rfl,m2,qmhz hv n,fun x hx=>(qe8z hv).mp hx,fun x hx=>?_⟩
   ·rintro d ds τ G2 N2 ⟨ms,g,x5,e,rfl,m3,nd,hr,hg⟩ hN2;cases ms with
    |nil=>cases e
    |cons x ms=>
     cases e;have nd':=List.nodup_cons.mp nd;obtain⟨hx,hrx⟩:=hr x List.mem_cons_self;refine⟨_,_,m3.at_,qmiz hx,?_⟩;refine⟨_,x,m3.at_,?_,?_⟩
     ·rw[qdpz];exact qzhz hx
     ·refine hN2 _ _ ⟨ms,fun y=>if y=x then g x+1 else g y,_,rfl,rfl,⟨m3.non,Sub.updN m3.sub m3.non,?_⟩,nd'.2,fun y hy=>hr y (List.mem_cons_of_mem _ hy),fun y hy=>?_⟩
      ·rw[qahz,←qzgz hx];rfl
      ·have:=hg y hy;by_cases hyx:y=x
       ·subst hyx;rw[if_neg (fun z=>z.2 List.mem_cons_self)] at this;rw[if_pos (⟨hrx,nd'.1⟩:rg y c=true/\y∉ms)];show (if y=y then g y+1 else g y)=f y+1;rw[if_pos rfl,this]
       ·show (if y=x then g x+1 else g y)=_;rw[if_neg hyx,this];have:y∉x::ms↔y∉ms:=by simp[hyx]
        simp only[this]
   ·rintro τ G2 ⟨ms,g,x5,e,rfl,m3,nd,hr,hg⟩;have e0:ms=[]:=by cases ms with
     |nil=>rfl
     |cons z zs=>cases e
    subst e0;refine hN _ _ ⟨zs,fun x=>f x+(if rg x c=true then 1 else 0),_,_,_,rfl,rfl,?_,fun z hz=>hm z (List.mem_cons_of_mem _ hz),fun x=>?_⟩
    ·rw[qmjz (g:=g) fun x hx=>?_]
     ·exact m3
     ·rw[hg x hx];simp
    ·have:=hf x;rw[qmlz] at this;show f x+(if rg x c=true then 1 else 0)+cntN zs x=cntN cs x;lia
   ·rw[if_neg]
    ·rfl
    ·rintro⟨z1,z2⟩;exact z2 ((qe8z hv).mpr ⟨hx,z1⟩)
 ·rintro τ G' ⟨zs,f,x3,x4,x5,e,rfl,m2,hm,hf⟩;have e0:zs=[]:=by cases zs with
   |nil=>rfl
   |cons z zs=>cases e
  subst e0;refine qhz (q p G' ?_);rw[qmjz (g:=f) fun x _=>by have:=hf x;have e:cntN [] x=0:=rfl;lia];exact m2
def oN:Option Nat->D
 |none=>.non
 |some x=>nD x
def qdqz:Sp3:=fun ds G Q=>∃(c:Clk) (p:Addr) (f:Nat->Nat) (n m:Nat),ds=[cD c,.obj p,.int m]/\G p=some (.lst (tabD f n))/\Valid c/\c.1≤1000000/\n≤10000/\Q (oN ((nums c n).find? fun x=>f x==m)) G
def qzoz:TS3:=sIf (eTest (eOp (rEq3 false) (eOp rIx3 (eVar 1) (eVar 3)) (eVar 2))) (sRet (eVar 3)) (sNext)
def qzpz:TS3:=sRet (eC .non)
def qmmz:TS3:=sSeq (sFor (iRng3 (aCons (eOp rIx3 (eVar 0) (eC (.int 1))) (aCons (eCB qsz (aCons (eVar 1) (aNil))) (aCons (eOp rIx3 (eVar 0) (eC (.int 0))) (aNil))))) (hName 3) (qzoz)) qzpz
theorem qzqz:∀ds G Q,qdqz ds G Q->qmmz (endsOf Q) (start3 ["clock","counts","many","number"] ds) G:=by
 rintro ds G Q ⟨c,p,f,n,m,rfl,hp,hv,hb,hn,q⟩;have v1:=hv.1;have v2:=hv.2.1;have v3:=hv.2.2;refine⟨_,rfl,_,hp,_,rfl,⟨by lia,by lia,by rw[qdpz];lia,by rw[qdpz];lia,v1,by lia⟩,?_⟩;show forGo _ _ _ _ (rngC c.2 c.1 (cntR c.2 (((tabD f n).length:Nat):Int) c.1)) _ _;rw[qdpz,qmgz hv];refine q1z (fun ds τ G'=>G'=G/\∃(ms:List Nat) (x3:Option D),ds=ms.map nD/\τ=[some (cD c),some (.obj p),some (.int m),x3]/\(∀x∈ms,x<n)/\ms.find? (fun x=>f x==m)=(nums c n).find? fun x=>f x==m) (fun _ _ _ _=>trivial) ?_ ?_ _ _ _ ⟨rfl,nums c n,none,rfl,rfl,fun x hx=>((qe8z hv).mp hx).1,rfl⟩
 ·rintro d ds τ G' N ⟨eg,ms,x3,e,rfl,hm,hf⟩ hN;cases ms with
  |nil=>cases e
  |cons x ms=>
   cases e;rw[List.find?_cons] at hf;refine⟨_,_,by rw[eg];exact hp,qmiz (hm x List.mem_cons_self),_,_,rfl,rfl,Nat.zero_le _,fun h=>?_,fun h=>?_⟩
   ·have h':(((f x:Nat):Int)==(m:Int))=true:=h;have e2:f x=m:=by
     rw[beq_iff_eq] at h';exact_mod_cast h'
    rw[show (f x==m)=true by rw[e2,beq_self_eq_true]] at hf;rw[←hf] at q;rw[eg];exact qhz q
   ·have h':(((f x:Nat):Int)==(m:Int))=false:=h;have e2:(f x==m)=false:=by
     cases e3:f x==m with
     |false=>rfl
     |true=>
      rw[beq_iff_eq] at e3;rw[e3,beq_self_eq_true] at h';cases h'
    rw[e2] at hf;exact hN _ _ ⟨eg,ms,_,rfl,rfl,fun y hy=>hm y (List.mem_cons_of_mem _ hy),hf⟩
 ·rintro τ G' ⟨eg,ms,x3,e,rfl,hm,hf⟩;cases ms with
  |cons x ms=>cases e
  |nil=>
   have hf:none=(nums c n).find? fun x=>f x==m:=hf;rw[←hf] at q;rw[eg];exact qhz q
end My
namespace My
open PySem L2 L3
def fwO(cs:List Clk)(c:Clk):Option Nat:=(nums c (rnd (cs++[c]))).find? fun x=>cntN cs x==0
def qdrz:Sp3:=fun ds G Q=>∃(cs:List Clk) (c:Clk),ds=[csD cs,cD c]/\ClOk 1000 (cs++[c])/\cs.length≤12/\rnd (cs++[c])≤10000/\Q (oN (fwO cs c)) G
def qmnz:TS3:=sRet (eCall qdqz (aCons (eVar 1) (aCons (eCall qcpz (aCons (eVar 0) (aCons (eCall qbvz (aCons (eOp rAdd3 (eVar 0) (eTup (aCons (eVar 1) (aNil)))) (aNil))) (aNil)))) (aCons (eC (.int 0)) (aNil)))))
theorem qzrz:∀ds G Q,qdrz ds G Q->qmnz (endsOf Q) (start3 ["clocks","clock"] ds) G:=by
 rintro ds G Q ⟨cs,c,rfl,ok,hl,hn,q⟩;have hc:=ok c (by simp);have h1:=hc.2;refine⟨?_,cs++[c],?_,ok,by simp;lia,cs,rnd (cs++[c]),rfl,fun z hz=>ok z (List.mem_append_left _ hz),by lia,hn,fun p G1 n1=>?_⟩
 ·show (cs.map cD).length+1≤sizeLine;rw[List.length_map];exact line1000 (by lia)
 ·show [D.tup (cs.map cD++[cD c])]=[csD (cs++[c])];unfold csD;rw[List.map_append];rfl
 ·exact⟨c,p,cntN cs,rnd (cs++[c]),0,rfl,n1.at_,hc.1,by lia,hn,qasz n1.sub q⟩
def fmO(cs:List Clk):Option Nat:=(List.range (rnd cs)).find? fun x=>cntN cs x==0
theorem qmoz(cs:List Clk):rnd (cs++[(1,0)])=rnd cs:=by
 unfold rnd rndF;rw[List.foldl_append];show Nat.lcm _ 1=_;rw[Nat.lcm_one_right]
theorem qzsz(n:Nat):nums (1,0) n=List.range n:=by
 have e:cntR 0 (n:Int) 1=n:=by
  unfold cntR;split
  ·rw[Int.ediv_one];lia
  ·lia
 unfold nums;show (List.range (cntR 0 (n:Int) 1)).map (fun i=>0+i*1)=_;rw[e];refine (List.map_congr_left fun i _=>?_).trans (List.map_id _);show 0+i*1=i;lia
theorem qztz(cs:List Clk):fwO cs (1,0)=fmO cs:=by
 unfold fwO fmO;rw[qmoz,qzsz]
theorem qzuz{cs:List Clk}(ok:ClOk 1000 cs):ClOk 1000 (cs++[(1,0)]):=fun z hz=>by
 rcases List.mem_append.mp hz with h|h
 ·exact ok z h
 ·have:z=(1,0):=by simpa using h
  subst this;exact⟨⟨by decide,by decide,by decide⟩,by decide⟩
def RndS(cs:List Clk):Prop:=ClOk 1000 cs/\cs.length≤12/\rnd cs≤10000
def qdsz:Sp3:=fun ds G Q=>∃cs:List Clk,ds=[csD cs]/\RndS cs/\Q (oN (fmO cs)) G
def qmpz:TS3:=sRet (eCall qdrz (aCons (eVar 0) (aCons (eTup (aCons (eC (.int 1)) (aCons (eC (.int 0)) (aNil)))) (aNil))))
theorem qzvz:∀ds G Q,qdsz ds G Q->qmpz (endsOf Q) (start3 ["clocks"] ds) G:=by
 rintro ds G Q ⟨cs,rfl,⟨ok,hl,hn⟩,q⟩;refine⟨cs,(1,0),rfl,qzuz ok,hl,by rw[qmoz];exact hn,?_⟩;rw[qztz];exact qhz q
def qdtz:Sp3:=fun ds G Q=>∃cs:List Clk,ds=[csD cs]/\RndS cs/\Q (.bl (fmO cs).isNone) G
def qmqz:TS3:=sRet (eOp (rIs3 false) (eCall qdsz (aCons (eVar 0) (aNil))) (eC .non))
theorem qzwz:∀ds G Q,qdtz ds G Q->qmqz (endsOf Q) (start3 ["clocks"] ds) G:=by
 rintro ds G Q ⟨cs,rfl,hs,q⟩;refine⟨cs,rfl,hs,?_⟩;have:isNon (oN (fmO cs))=(fmO cs).isNone:=by cases fmO cs<;>rfl
 show (endsOf Q).rt (.bl (isNon (oN (fmO cs)))) G;rw[this];exact qhz q
def missL(cs:List Clk):List Nat:=(List.range (rnd cs)).filter fun x=>cntN cs x==0
def qzxz:Sp3:=fun ds G Q=>∃cs:List Clk,ds=[csD cs]/\RndS cs/\∀p G',New G p (.lst ((missL cs).map nD)) G'->Q (.obj p) G'
def qzyz:TS3:=sRet (eComp ["number","many"] [] (iEnum (aCons (eVar 1) (aNil))) (hTup 2 (hCons (hName 0) (hCons (hName 1) (hNil)))) (eTest (eOp (rEq3 false) (eVar 1) (eC (.int 0)))) (eVar 0))
def qzzz:TS3:=sSeq (sAsg (eCall qcpz (aCons (eVar 0) (aCons (eCall qbvz (aCons (eVar 0) (aNil))) (aNil)))) (hName 1)) qzyz
theorem qmrz(f:Nat->Nat)(n:Nat):enumD (tabD f n)=(List.range n).map fun x=>D.tup [nD x,nD (f x)]:=by
 unfold enumD;rw[qdpz,rng0];unfold tabD;have:=qcnz nD (fun x=>nD (f x)) (List.range n) (List.range n);rw[this];have h:∀xs:List Nat,(xs.zip xs).map (fun p=>D.tup [nD p.1,nD (f p.2)])=xs.map fun x=>D.tup [nD x,nD (f x)]:=fun xs=>by
  induction xs with
  |nil=>rfl
  |cons x xs ih=>
   rw[List.zip_cons_cons,List.map_cons,ih];rfl
 exact h _
theorem qe9z(a b:Nat):((a:Int)==(b:Int))=(a==b):=by
 rw[Bool.eq_iff_iff,beq_iff_eq,beq_iff_eq];exact⟨fun h=>by exact_mod_cast h,fun h=>by rw[h]⟩
theorem q88z:∀ds G Q,qzxz ds G Q->qzzz (endsOf Q) (start3 ["clocks","counts"] ds) G:=by
 rintro ds G Q ⟨cs,rfl,⟨ok,hl,hn⟩,q⟩;refine⟨cs,rfl,ok,by lia,cs,rnd cs,rfl,ok,by lia,hn,fun p G1 n1=>?_⟩;refine⟨_,n1.at_,?_,?_⟩
 ·show (enumD (tabD (cntN cs) (rnd cs))).length≤sizeLine;rw[qmrz,List.length_map,List.length_range];exact Nat.le_trans hn (by decide)
 show compGo _ _ _ _ _ (enumD (tabD (cntN cs) (rnd cs))) _ _ _;rw[qmrz];refine qabz (guard:=fun G=>G p=some (.lst (tabD (cntN cs) (rnd cs)))) (fun τ=>∃x y,τ=[x,y]) (fun x=>D.tup [nD x,nD (cntN cs x)]) (fun x=>cntN cs x==0) nD (G:=G1) n1.at_ (List.range (rnd cs)) [] _ ⟨none,none,rfl⟩ ?_ ?_
 ·rintro x hm τ K1 K2 ⟨y,z,rfl⟩ h1 h2;refine⟨rfl,_,_,rfl,rfl,Nat.zero_le _,fun h=>?_,fun h=>?_⟩
  ·have h':(((cntN cs x:Nat):Int)==((0:Nat):Int))=true:=h;rw[qe9z] at h';exact h1 h' _ ⟨_,_,rfl⟩
  ·have h':(((cntN cs x:Nat):Int)==((0:Nat):Int))=false:=h;rw[qe9z] at h';exact h2 h' _ ⟨_,_,rfl⟩
 ·intro p2 G2 n2;rw[List.nil_append] at n2;exact qhz (q p2 G2 ⟨n1.sub.of_none n2.non,n1.sub.trans n2.sub,n2.at_⟩)
def exB(cs:List Clk):Bool:=(decide (shT cs=1)&&decide (shB cs=1))&&(clashO cs).isNone
def qduz:Sp3:=fun ds G Q=>∃cs:List Clk,ds=[csD cs]/\ClOk 1000 cs/\cs.length≤12/\Q (.bl (exB cs)) G
def qmsz:TS3:=sRet (eAndV (eOp (rEq3 false) (eCall qcmz (aCons (eVar 0) (aNil))) (eTup (aCons (eC (.int 1)) (aCons (eC (.int 1)) (aNil))))) (eOp (rIs3 false) (eCall qdmz (aCons (eVar 0) (aNil))) (eC .non)))
theorem qz0z:∀ds G Q,qduz ds G Q->qmsz (endsOf Q) (start3 ["clocks"] ds) G:=by
 rintro ds G Q ⟨cs,rfl,ok,hl,q⟩;have e1:(Dat.D.tup [.int (shT cs:Nat),.int (shB cs:Nat)]).eqb (.tup [.int 1,.int 1])=(decide (shT cs=1)&&decide (shB cs=1)):=by
  show ((((shT cs:Nat):Int)==((1:Nat):Int))&&((((shB cs:Nat):Int)==((1:Nat):Int))&&true))=_;rw[qe9z,qe9z,Bool.and_true];rfl
 refine⟨cs,rfl,ok,hl,_,_,rfl,rfl,Nat.le_of_ble_eq_true rfl,fun h=>?_,fun h=>?_⟩
 ·have h':(Dat.D.tup [.int (shT cs:Nat),.int (shB cs:Nat)]).eqb (.tup [.int 1,.int 1])=true:=h;rw[e1] at h';refine⟨cs,rfl,ok,by lia,?_⟩;have:isNon (kD (clashO cs))=(clashO cs).isNone:=by cases clashO cs<;>rfl
  show (endsOf Q).rt (.bl (isNon (kD (clashO cs)))) G;unfold exB at q;rw[h',Bool.true_and] at q;rw[this];exact qhz q
 ·have h':(Dat.D.tup [.int (shT cs:Nat),.int (shB cs:Nat)]).eqb (.tup [.int 1,.int 1])=false:=h;rw[e1] at h';unfold exB at q;rw[h',Bool.false_and] at q;exact qhz q
end My
namespace My
open PySem L2 L3
def Cov(cs:List Clk):Prop:=∀x:Nat,∃z∈cs,rg x z=true
theorem qcqz{cs:List Clk}{z:Clk}(h:z∈cs):z.1.toNat∣rnd cs:=qy7z h
theorem qz1z{z:Clk}(hz:0<z.1){N:Nat}(hd:z.1.toNat∣N)(x t:Int):rg (x+t*N) z=rg x z:=by
 have:z.1∣t*(N:Int):=by
  have h:=Int.natCast_dvd_natCast.mpr hd;rw[Int.toNat_of_nonneg (by lia)] at h;exact Int.dvd_mul_of_dvd_right h
 unfold rg;rw[Int.add_emod,Int.emod_eq_zero_of_dvd this,Int.add_zero,Int.emod_emod]
theorem qz2z{z:Clk}(hz:0<z.1){N:Nat}(hd:z.1.toNat∣N)(x:Nat):rg ((x%N:Nat):Int) z=rg x z:=by
 have e:(x:Int)=((x%N:Nat):Int)+((x / N:Nat):Int)*N:=by
  have:=Nat.mod_add_div x N;rw[Nat.mul_comm] at this;exact_mod_cast this.symm
 rw[e,qz1z hz hd]
theorem cnt_pos{cs:List Clk}{x:Nat}:cntN cs x≠0↔∃z∈cs,rg x z=true:=by
 unfold cntN;rw[Ne,List.length_eq_zero_iff,List.filter_eq_nil_iff];constructor
 ·intro h;refine Classical.byContradiction fun hn=>h fun z hz hr=>hn ⟨z,hz,hr⟩
 ·rintro⟨z,hz,hr⟩ h;exact h z hz hr
theorem qdvz{cs:List Clk}(h:∀z∈cs,0<z.1):0<rnd cs:=by
 have:∀(cs:List Clk) (a:Nat),(∀z∈cs,0<z.1)->0<a->0<rndF cs a:=by
  intro cs
  induction cs with
  |nil=>intro a _ h;exact h
  |cons z zs ih=>
   intro a hz ha;refine ih _ (fun y hy=>hz y (List.mem_cons_of_mem _ hy)) (Nat.lcm_pos ha ?_);have:=hz z List.mem_cons_self;lia
 exact this cs 1 h (by decide)
theorem qz3z{cs:List Clk}(h:∀z∈cs,0<z.1):fmO cs=none↔Cov cs:=by
 unfold fmO;rw[List.find?_eq_none];constructor
 ·intro hn x;have hx:x%rnd cs<rnd cs:=Nat.mod_lt _ (qdvz h);have h1:=hn (x%rnd cs) (List.mem_range.mpr hx);obtain⟨z,hz,hr⟩:=cnt_pos.mp (show cntN cs (x%rnd cs)≠0 by simpa using h1);exact⟨z,hz,by rw[qz2z (h z hz) (qcqz hz)] at hr;exact hr⟩
 ·intro hc x _ hx;have:=cnt_pos.mpr (hc x);rw[beq_iff_eq] at hx;exact this hx
end My
namespace Cve
abbrev m:Nat:=10708457761
def ws:List Nat:=[0,1,10708457760,8190244814,9228822740,361694877,8190244815,8356586839,4215031578,9482552521,5580217876,6930092342,6592417826,10130563944,5462034841,4613485046,1300538629,1809708535,7604301077,2280215166,2830671003,9007091386,3353182442,6568930816,2365614199]
def w(d:Nat):Nat:=ws.getD d 0
theorem w_ok:∀d,d<25->0<d->(w d^d%m=1/\∀j,j<d->0<j->Nat.gcd (m+1-w d^j%m) m=1):=by decide +kernel
def nx(a:Int)(f:Nat->Int):Nat->Int:=fun x=>f (x+1)-a*f x
def ops:List Int->(Nat->Int)->Nat->Int
 |[],f=>f
 |a::l,f=>ops l (nx a f)
def Z(f:Nat->Int):Prop:=∀x,(m:Int)∣f x
theorem qz4z(a b:Int)(f):nx a (nx b f)=nx b (nx a f):=by
 funext x;simp only[nx];grind
theorem qz5z(l):∀a f,ops l (nx a f)=nx a (ops l f):=by
 induction l with
 |nil=>intro a f;rfl
 |cons b l ih=>intro a f;simp only[ops];rw[qz4z,ih]
theorem qz6z(l l'):∀f,ops (l++l') f=ops l' (ops l f):=by
 induction l with
 |nil=>intro f;rfl
 |cons b l ih=>intro f;simp only[List.cons_append,ops];rw[ih]
theorem qz7z(l l'):∀f,ops l' (ops l f)=ops l (ops l' f):=by
 induction l with
 |nil=>intro f;rfl
 |cons b l ih=>intro f;simp only[ops];rw[ih,qz5z]
theorem Z_nx{f a}(h:Z f):Z (nx a f):=fun x=>Int.dvd_sub (h (x+1)) (Int.dvd_mul_of_dvd_right (h x))
theorem qmtz{l}:∀{f},Z f->Z (ops l f):=by
 induction l with
 |nil=>intro f h;exact h
 |cons b l ih=>intro f h;exact ih (Z_nx h)
theorem qmuz(l):∀c f g,ops l (fun x=>f x-c*g x)=fun x=>ops l f x-c*ops l g x:=by
 induction l with
 |nil=>intro c f g;rfl
 |cons a l ih=>
  intro c f g;simp only[ops];rw[←ih];congr 1;funext x;simp only[nx];grind
theorem qz8z(v:Int)(l):∀k f,ops (l.map (v*·)) (fun x=>v^(x+k)*f x)=fun x=>v^(x+k+l.length)*ops l f x:=by
 induction l with
 |nil=>intro k f;rfl
 |cons a l ih=>
  intro k f;simp only[List.map,ops,List.length_cons];have:nx (v*a) (fun x=>v^(x+k)*f x)=fun x=>v^(x+(k+1))*nx a f x:=by
   funext x;simp only[nx];have e1:v^(x+1+k)=v^(x+k)*v:=by rw[show x+1+k=x+k+1 by lia,Int.pow_succ]
   have e2:v^(x+(k+1))=v^(x+k)*v:=by rw[←Int.pow_succ];rfl
   rw[e1,e2];grind
  rw[this,ih];funext x;congr 2;lia
theorem qz9z(l):∀f,Z (ops l f)->(∀x<l.length,(m:Int)∣f x)->Z f:=by
 induction l with
 |nil=>intro f h _;exact h
 |cons a l ih=>
  intro f h h0 x;have hg:Z (nx a f):=ih (nx a f) h fun x hx=>Int.dvd_sub (h0 (x+1) (by simpa using hx)) (Int.dvd_mul_of_dvd_right (h0 x (by simp;lia)))
  induction x with
  |zero=>exact h0 0 (by simp)
  |succ x ihx=>
   have:=Int.dvd_add (hg x) (Int.dvd_mul_of_dvd_right (b:=a) ihx);simpa [nx] using this
def F:List (Nat×Nat)->Nat->Int
 |[],_=>1
 |c::cs,x=>F cs x-((w c.1:Int)^(x+(c.1-c.2)))*F cs x
def A:List (Nat×Nat)->List Int
 |[]=>[1]
 |c::cs=>A cs++(A cs).map ((w c.1:Int)*·)
theorem q0az(cs):(A cs).length=2^cs.length:=by
 induction cs with
 |nil=>rfl
 |cons c cs ih=>simp only[A,List.length_append,List.length_map,ih,List.length_cons];lia
theorem kills(cs):Z (ops (A cs) (F cs)):=by
 induction cs with
 |nil=>intro x;simp[A,ops,nx,F]
 |cons c cs ih=>
  have e:F (c::cs)=fun x=>F cs x-1*((w c.1:Int)^(x+(c.1-c.2))*F cs x):=by funext x;simp only[F];grind
  rw[e,A,qz6z,qmuz];rw[qmuz];intro x;refine Int.dvd_sub (qmtz ih x) (Int.dvd_mul_of_dvd_right ?_);rw[qz7z (A cs) ((A cs).map _),qz8z];exact qmtz (l:=A cs) (fun x=>Int.dvd_mul_of_dvd_right (ih x)) x
theorem qmvz(d x:Nat):((w d:Int)^x)%m=((w d^x%m:Nat):Int):=by simp
theorem qmwz(d:Nat)(h:d<25)(h0:0<d)(k:Nat):(m:Int)∣1-(w d:Int)^(d*k):=by
 have h1:(m:Int)∣1-(w d:Int)^d:=by
  have:=(w_ok d h h0).1;have e:=qmvz d d;rw[this] at e;have e2:=Int.mul_ediv_add_emod ((w d:Int)^d) m;rw[e] at e2;exact⟨-((w d:Int)^d / m),by rw[←e2];grind⟩
 induction k with
 |zero=>simp
 |succ k ih=>
  rw[Nat.mul_succ,Int.pow_add];obtain⟨a,ha⟩:=h1;obtain⟨b,hb⟩:=ih;exact⟨a+b-m*a*b,by
   have e1:(w d:Int)^d=1-m*a:=by lia
   have e2:(w d:Int)^(d*k)=1-m*b:=by lia
   rw[e1,e2];grind⟩
def U(a:Int):Prop:=∃u:Int,(m:Int)∣1-u*a
theorem q0bz{a b}(ha:U a)(hb:U b):U (a*b):=by
 obtain⟨u,p,hp⟩:=ha;obtain⟨v,q,hq⟩:=hb;exact⟨u*v,p+q-m*p*q,by
  have e1:u*a=1-m*p:=by lia
  have e2:v*b=1-m*q:=by lia
  have:u*v*(a*b)=(u*a)*(v*b):=by grind
  rw[this,e1,e2];grind⟩
theorem U_ne{a}(h:U a):¬(m:Int)∣a:=by
 intro ha;obtain⟨u,hu⟩:=h;have:=Int.dvd_add hu (Int.dvd_mul_of_dvd_right (b:=u) ha);have h2:1-u*a+u*a=1:=by lia
 have e:(m:Int)∣1:=by rwa [h2] at this
 revert e;decide
theorem bez(a b:Nat):∃u v:Int,u*a+v*b=Nat.gcd a b:=by
 induction a,b using Nat.gcd.induction with
 |H0 n=>exact⟨0,1,by simp⟩
 |H1 a b h ih=>
  obtain⟨u,v,e⟩:=ih;have e2:(b:Int)=a*(b / a:Nat)+(b%a:Nat):=by have:=Nat.div_add_mod b a;lia
  rw[Nat.gcd_rec];exact⟨v-u*(b / a:Nat),u,by rw[←e];generalize ((b / a:Nat):Int)=q at *;generalize ((b%a:Nat):Int)=r at *;rw[e2];grind⟩
theorem q0cz(a:Nat)(h:Nat.gcd a m=1):U a:=by
 obtain⟨u,v,e⟩:=bez a m;rw[h] at e;exact⟨u,v,by have:u*(a:Int)+v*(m:Int)=1:=e;grind⟩
theorem unit(d x:Nat)(h:d<25)(h0:0<d)(hx:x%d≠0):U (1-(w d:Int)^x):=by
 have h1:=q0cz _ ((w_ok d h h0).2 (x%d) (Nat.mod_lt _ h0) (by lia));obtain⟨u,hu⟩:=h1;refine⟨u,?_⟩;have hk:=qmwz d h h0 (x / d);have e:(w d:Int)^x=(w d:Int)^(d*(x / d))*(w d:Int)^(x%d):=by rw[←Int.pow_add,Nat.div_add_mod]
 have e3:=qmvz d (x%d);have h2:(m:Int)∣(1-(w d:Int)^x)-((m+1-w d^(x%d)%m:Nat):Int):=by
  have l:w d^(x%d)%m<m:=Nat.mod_lt _ (by decide);obtain⟨b,hb⟩:=hk;have e2:(w d:Int)^(d*(x / d))=1-m*b:=by lia
  have e4:(w d:Int)^(x%d)=m*((w d:Int)^(x%d) / m)+((w d^(x%d)%m:Nat):Int):=by
   rw[←e3];exact (Int.mul_ediv_add_emod _ _).symm
  generalize hq:(w d:Int)^(x%d) / m=q at e4;generalize hr:w d^(x%d)%m=r at *;have e5:((m+1-r:Nat):Int)=(m:Int)+1-r:=by lia
  rw[e,e2,e5,e4];exact⟨b*(m*q+r)-q-1,by grind⟩
 have:=Int.dvd_sub hu (Int.dvd_mul_of_dvd_right (b:=u) h2);have e:1-u*((m+1-w d^(x%d)%m:Nat):Int)-u*(1-(w d:Int)^x-((m+1-w d^(x%d)%m:Nat):Int))=1-u*(1-(w d:Int)^x):=by
  generalize ((m+1-w d^(x%d)%m:Nat):Int)=y;grind
 rwa [e] at this
def Okc(c:Nat×Nat):Prop:=c.1<25/\c.2<c.1
theorem qmxz(cs)(h:∀c∈cs,Okc c)(x):(m:Int)∣F cs x↔∃c∈cs,x%c.1=c.2:=by
 have key:(∃c∈cs,x%c.1=c.2)/\(m:Int)∣F cs x∨(¬∃c∈cs,x%c.1=c.2)/\U (F cs x):=by
  induction cs with
  |nil=>right;exact⟨by simp,1,by simp[F]⟩
  |cons c cs ih=>
   have⟨o1,o2⟩:=h c (by simp);have e:F (c::cs) x=(1-(w c.1:Int)^(x+(c.1-c.2)))*F cs x:=by simp only[F];grind
   have ih:=ih fun c hc=>h c (by simp[hc]);rw[e];by_cases hr:x%c.1=c.2
   ·left;refine⟨⟨c,by simp,hr⟩,?_⟩;refine Int.dvd_mul_of_dvd_left ?_;have:x+(c.1-c.2)=c.1*(x / c.1+1):=by
     have:=Nat.div_add_mod x c.1;rw[Nat.mul_add];lia
    rw[this];exact qmwz _ o1 (by lia) _
   ·rcases ih with⟨⟨b,hb,hb'⟩,hd⟩|⟨hn,hu⟩
    ·left;exact⟨⟨b,by simp[hb],hb'⟩,Int.dvd_mul_of_dvd_right hd⟩
    ·right;refine⟨?_,q0bz (unit _ _ o1 (by lia) ?_) hu⟩
     ·rintro⟨b,hb,hb'⟩;rcases List.mem_cons.1 hb with rfl|hb
      ·exact hr hb'
      ·exact hn ⟨b,hb,hb'⟩
     ·intro h0;apply hr;have hx:=Nat.div_add_mod x c.1;obtain⟨k,hk⟩:=Nat.dvd_of_mod_eq_zero h0;have l:=Nat.mod_lt x (show 0<c.1 by lia);have e1:(x+(c.1-c.2))%c.1=(x%c.1+(c.1-c.2))%c.1:=by simp
      rw[h0] at e1;by_cases hlt:x%c.1+(c.1-c.2)<c.1
      ·rw[Nat.mod_eq_of_lt hlt] at e1;lia
      ·rw[Nat.mod_eq_sub_mod (by lia)] at e1;rw[Nat.mod_eq_of_lt (by lia)] at e1;lia
 rcases key with⟨a,b⟩|⟨a,b⟩
 ·exact⟨fun _=>a,fun _=>b⟩
 ·exact⟨fun d=>absurd d (U_ne b),fun c=>absurd c a⟩
theorem cve(cs:List (Nat×Nat))(h:∀c∈cs,Okc c)(h0:∀x<2^cs.length,∃c∈cs,x%c.1=c.2)(x:Nat):∃c∈cs,x%c.1=c.2:=
 (qmxz cs h x).1 (qz9z (A cs) (F cs) (kills cs) (fun y hy=>(qmxz cs h y).2 (h0 y (by rwa [q0az] at hy))) x)
end Cve
namespace My
open PySem L2 L3
structure RsOk(ns:List Int)(rs:List (Option Int)):Prop where
 len:rs.length=ns.length
 n6:ns.length≤6
 st:∀n∈ns,2≤n/\n≤24
 rest:∀(k:Nat) (r:Int),rs[k]?=some (some r)->∃n,ns[k]?=some n/\0≤r/\r<n
structure Fits(ns:List Int)(rs:List (Option Int))(ts:List Int):Prop where
 len:ts.length=ns.length
 ok:∀(k:Nat) (t n:Int),ts[k]?=some t->ns[k]?=some n->0≤t/\t<n
 set:∀(k:Nat) (r:Int),rs[k]?=some (some r)->ts[k]?=some r
 cov:∀x:Nat,∃(k:Nat) (n:Int),ns[k]?=some n/\ts[k]?=some ((x:Int)%n)
def Comp(ns:List Int)(rs:List (Option Int)):Prop:=∃ts,Fits ns rs ts
def nmO(cs:List Clk):Option Nat:=(List.range (2^cs.length)).find? fun x=>cntN cs x==0
theorem mem_setC{ns:List Int}{rs:List (Option Int)}{c:Clk}:c∈setC ns rs↔∃k:Nat,ns[k]?=some c.1/\rs[k]?=some (some c.2):=by
 unfold setC;rw[List.mem_filterMap];constructor
 ·rintro⟨⟨n,o⟩,hm,e⟩;obtain⟨k,hk⟩:=List.getElem?_of_mem hm;rw[List.getElem?_zip_eq_some] at hk;cases o with
  |none=>cases e
  |some r=>
   cases e;exact⟨k,hk.1,hk.2⟩
 ·rintro⟨k,h1,h2⟩;exact⟨(c.1,some c.2),List.mem_of_getElem? (i:=k) (List.getElem?_zip_eq_some.mpr ⟨h1,h2⟩),rfl⟩
theorem qg9z(ns:List Int)(rs:List (Option Int)):(setC ns rs).length≤ns.length:=by
 unfold setC;refine Nat.le_trans (List.length_filterMap_le _ _) ?_;rw[List.length_zip];lia
theorem RsOk.valid{ns:List Int}{rs:List (Option Int)}(h:RsOk ns rs):∀c∈setC ns rs,Valid c/\c.1≤24:=fun c hc=>by
 obtain⟨k,h1,h2⟩:=mem_setC.mp hc;obtain⟨n,h3,h4,h5⟩:=h.rest k _ h2;rw[h1] at h3;cases h3;have:=h.st _ (List.mem_of_getElem? h1);exact⟨⟨by lia,h4,h5⟩,this.2⟩
theorem qmyz{cs:List Clk}(hv:∀c∈cs,Valid c/\c.1≤24)(h:nmO cs=none)(x:Nat):∃c∈cs,rg x c=true:=by
 unfold nmO at h;rw[List.find?_eq_none] at h;have key:∀(x:Nat) (c:Clk),c∈cs->(rg x c=true↔x%c.1.toNat=c.2.toNat):=fun x c hc=>by
  obtain⟨⟨h1,h2,h3⟩,_⟩:=hv c hc;unfold rg;rw[beq_iff_eq];have e:(x:Int)%c.1=((x%c.1.toNat:Nat):Int):=by
   rw[Int.natCast_emod,Int.toNat_of_nonneg (by lia)]
  rw[e];lia
 have:=Cve.cve (cs.map fun c=>(c.1.toNat,c.2.toNat)) (fun d hd=>by
  obtain⟨c,hc,rfl⟩:=List.mem_map.mp hd;obtain⟨⟨h1,h2,h3⟩,h4⟩:=hv c hc;exact⟨by show c.1.toNat<25;lia,by show c.2.toNat<c.1.toNat;lia⟩) (fun y hy=>by
  rw[List.length_map] at hy;have:=h y (List.mem_range.mpr hy);obtain⟨c,hc,hr⟩:=cnt_pos.mp (show cntN cs y≠0 by simpa using this);exact⟨_,List.mem_map_of_mem hc,(key y c hc).mp hr⟩) x
 obtain⟨d,hd,e⟩:=this;obtain⟨c,hc,rfl⟩:=List.mem_map.mp hd;exact⟨c,hc,(key x c hc).mpr e⟩
theorem q0dz{ns:List Int}{rs:List (Option Int)}(h:RsOk ns rs)(hn:nmO (setC ns rs)=none):Comp ns rs:=by
 have at_:∀(k:Nat) (n:Int) (o:Option Int),ns[k]?=some n->rs[k]?=some o->((ns.zip rs).map fun p=>p.2.getD 0)[k]?=some (o.getD 0):=fun k n o h1 h2=>by
  rw[List.getElem?_map,List.getElem?_zip_eq_some (z:=(n,o)) |>.mpr ⟨h1,h2⟩];rfl
 have ex:∀(k:Nat) (n:Int),ns[k]?=some n->∃o,rs[k]?=some o:=fun k n hk=>by
  have:=(List.getElem?_eq_some_iff.mp hk).1;exact⟨_,List.getElem?_eq_getElem (by rw[h.len];exact this)⟩
 refine⟨(ns.zip rs).map fun p=>p.2.getD 0,?_,fun k t n ht hk=>?_,fun k r hr=>?_,fun x=>?_⟩
 ·rw[List.length_map,List.length_zip,h.len];lia
 ·obtain⟨o,ho⟩:=ex k n hk;rw[at_ k n o hk ho] at ht;cases ht;cases o with
  |none=>
   have:=h.st n (List.mem_of_getElem? hk);exact⟨by decide,by show (0:Int)<n;lia⟩
  |some r=>
   obtain⟨n',h1,h2,h3⟩:=h.rest k r ho;rw[hk] at h1;cases h1;exact⟨h2,h3⟩
 ·obtain⟨n,h1,_,_⟩:=h.rest k r hr;rw[at_ k n _ h1 hr];rfl
 ·obtain⟨c,hc,hr⟩:=qmyz h.valid hn x;obtain⟨k,h1,h2⟩:=mem_setC.mp hc;refine⟨k,c.1,h1,?_⟩;rw[at_ k _ _ h1 h2];unfold rg at hr;rw[beq_iff_eq] at hr;rw[hr];rfl
theorem open_at{rs:List (Option Int)}{k:Nat}:k∈opens rs↔rs[k]?=some none:=by
 unfold opens;rw[List.mem_filter,List.mem_range];constructor
 ·rintro⟨h1,h2⟩;rw[List.getD_eq_getElem?_getD,List.getElem?_eq_getElem h1] at h2;rw[List.getElem?_eq_getElem h1];cases e:rs[k] with
  |none=>rfl
  |some r=>rw[e] at h2;cases h2
 ·intro h;refine⟨(List.getElem?_eq_some_iff.mp h).1,?_⟩;rw[List.getD_eq_getElem?_getD,h];rfl
theorem q0ez{rs:List (Option Int)}{k j:Nat}{r:Int}(hk:k∈opens rs){r':Int}(h:rs[j]?=some (some r')):(rs.set k (some r))[j]?=some (some r'):=by
 rw[List.getElem?_set_ne,h];intro z;rw[←z,open_at.mp hk] at h;cases h
theorem q0fz{ns:List Int}{rs:List (Option Int)}{k:Nat}{r:Int}(hk:k∈opens rs)(h:Comp ns (rs.set k (some r))):Comp ns rs:=by
 obtain⟨ts,h⟩:=h;exact⟨ts,h.len,h.ok,fun j r' hj=>h.set j r' (q0ez hk hj),h.cov⟩
theorem qhaz{ns:List Int}{rs:List (Option Int)}{k:Nat}{r:Int}{ts:List Int}(h:Fits ns rs ts)(hk:k∈opens rs)(ht:ts[k]?=some r):Comp ns (rs.set k (some r)):=by
 refine⟨ts,h.len,h.ok,fun j r' hj=>?_,h.cov⟩;by_cases z:k=j
 ·subst z;rw[List.getElem?_set_self (qe7z hk)] at hj;cases hj;exact ht
 ·rw[List.getElem?_set_ne z] at hj;exact h.set j r' hj
theorem q0gz{ns:List Int}{rs:List (Option Int)}(h:RsOk ns rs){x:Nat}(hx:nmO (setC ns rs)=some x)(hc:Comp ns rs):∃(k:Nat) (n:Int),k∈opens rs/\ns[k]?=some n/\Comp ns (rs.set k (some ((x:Int)%n))):=by
 obtain⟨ts,hf⟩:=hc;obtain⟨k,n,h1,h2⟩:=hf.cov x;have hl:=(List.getElem?_eq_some_iff.mp h1).1;have h0:=List.find?_some hx;rw[beq_iff_eq] at h0;have hk:k∈opens rs:=by
  rw[open_at];have e:=List.getElem?_eq_getElem (l:=rs) (i:=k) (by rw[h.len];exact hl);cases e2:rs[k]'(by rw[h.len];exact hl) with
  |none=>rw[e,e2]
  |some r=>
   exfalso;rw[e2] at e;have h3:=hf.set k r e;rw[h2] at h3;refine absurd h0 (cnt_pos.mpr ⟨(n,r),mem_setC.mpr ⟨k,h1,e⟩,?_⟩);unfold rg;rw[beq_iff_eq];exact Option.some.inj h3
 exact⟨k,n,hk,h1,qhaz hf hk h2⟩
theorem RsOk.with{ns:List Int}{rs:List (Option Int)}{k:Nat}{n r:Int}(h:RsOk ns rs)(hn:ns[k]?=some n)(h0:0≤r)(h1:r<n):RsOk ns (rs.set k (some r)):=by
 refine⟨by rw[List.length_set,h.len],h.n6,h.st,fun j r' hj=>?_⟩;by_cases z:k=j
 ·subst z;have hl:=(List.getElem?_eq_some_iff.mp hn).1;rw[List.getElem?_set_self (by rw[h.len];exact hl)] at hj;cases hj;exact⟨n,hn,h0,h1⟩
 ·rw[List.getElem?_set_ne z] at hj;exact h.rest j r' hj
theorem q0hz{rs:List (Option Int)}{k:Nat}{r:Int}(h:k∈opens rs):(opens (rs.set k (some r))).length<(opens rs).length:=by
 have e:opens (rs.set k (some r))=(opens rs).filter (fun j=>j != k):=by
  unfold opens;rw[List.length_set,List.filter_filter];refine List.filter_congr fun j hj=>?_;rw[List.mem_range] at hj;by_cases hjk:j=k
  ·subst hjk;rw[List.getD_eq_getElem?_getD,List.getElem?_set_self hj];simp
  ·rw[List.getD_eq_getElem?_getD,List.getElem?_set_ne (by lia),←List.getD_eq_getElem?_getD];simp[hjk]
 rw[e];exact List.length_filter_lt_length_iff_exists.mpr ⟨k,h,by simp⟩
end My
namespace L3
open PySem PySem.Spec PyProof.Rows L2
abbrev noG:Gp:=fun _=>none
abbrev E3:=Str->List (Str×Int)->Prop
abbrev SpX:=List D->V3->E3->Prop
structure Joins(G1 G' G2:Gp):Prop where
 old:Sub G1 G2
 new:Sub G' G2
 out:∀a,G' a≠none->G1 a=none
def eCallX(sp:SpX)(E:E3)(t:TA3):TE3:=fun τ G Q=>t τ G fun ds G1=>sp ds (fun d G'=>∀G2,Joins G1 G' G2->Q d G2) E
end L3
namespace L3
open PySem PySem.Spec PyProof.Rows L2
theorem len1{us:List Value}(h:us.length=1):∃a,us=[a]:=List.length_eq_one_iff.mp h
theorem len2{us:List Value}(h:us.length=2):∃a b,us=[a,b]:=by
 rcases us with _|⟨a,us⟩
 ·cases h
 ·obtain⟨b,rfl⟩:=len1 (us:=us) (Nat.succ.inj h);exact⟨a,b,rfl⟩
theorem len3{us:List Value}(h:us.length=3):∃a b c,us=[a,b,c]:=by
 rcases us with _|⟨a,us⟩
 ·cases h
 ·obtain⟨b,c,rfl⟩:=len2 (us:=us) (Nat.succ.inj h);exact⟨a,b,c,rfl⟩
theorem len4{us:List Value}(h:us.length=4):∃a b c d,us=[a,b,c,d]:=by
 rcases us with _|⟨a,us⟩
 ·cases h
 ·obtain⟨b,c,d,rfl⟩:=len3 (us:=us) (Nat.succ.inj h);exact⟨a,b,c,d,rfl⟩
end L3
namespace My
open PySem L2 L3
theorem qhbz(G:Gp):Sub noG G:=fun _ _ e=>nomatch e
end My
namespace L3
open PySem PySem.Spec PyProof.Rows L2
mutual
def noScr:D->Bool
 |.tup ds=>noScrs ds
 |.scr _=>false
 |.dc _=>false
 |_=>true
def noScrs:List D->Bool
 |[]=>true
 |d::ds=>noScr d&&noScrs ds
end
end L3
namespace My
open PySem L2 L3
def okS:D->Bool
 |.int i=>decide (2≤i)&&decide (i≤24)
 |_=>false
def stB:D->Bool
 |.scr xs=>(decide (1≤xs.length)&&decide (xs.length≤6))&&xs.all okS
 |_=>false
def notO:D->Prop
 |.obj _=>False
 |_=>True
theorem notO.known{G:Gp}{d:D}(h:notO d):Known G d:=by
 cases d with
 |obj a=>exact h.elim
 |_=>trivial
def KnS(d:D):Prop:=notO d/\∀xs,d=.scr xs->∀x∈xs,notO x
def qdwz:Sp3:=fun ds G Q=>∃d:D,ds=[d]/\KnS d/\Q (.bl (stB d)) G
abbrev qmzz:=qy4z
theorem q0iz:∀ds G Q,qdwz ds G Q->qmzz (endsOf Q) (start3 ["thing"] ds) G:=by
 rintro ds G Q ⟨d,rfl,hk,q⟩;cases d with
 |scr xs=>
  refine⟨nofun,fun _=>⟨fun h=>⟨fun h2=>?_,fun h2=>?_⟩,fun h=>?_⟩⟩
  ·have h':(!(decide (((xs.length:Nat):Int)≤6)))=true:=h2;have e:stB (.scr xs)=false:=by
    have:decide (xs.length≤6)=false:=by
     rw[decide_eq_false_iff_not];intro z;rw[decide_eq_true (by lia)] at h';cases h'
    show ((_&&decide (xs.length≤6))&&_)=false;rw[this,Bool.and_false,Bool.false_and]
   rw[e] at q;exact qhz q
  ·have h1:(1:Int)≤((xs.length:Nat):Int):=of_decide_eq_true h;have h':(!(decide (((xs.length:Nat):Int)≤6)))=false:=h2;have l6:xs.length≤6:=by
    refine Nat.le_of_not_lt fun z=>?_;rw[decide_eq_false (by lia)] at h';cases h'
   refine⟨by show xs.length≤sizeLine;exact line1000 (by lia),?_⟩;show compGo _ _ _ _ _ xs _ _ _;rw[←List.map_id xs];refine qabz (fun τ=>∃x,τ=[x]) id (fun _=>true) (fun x=>.bl (okS x)) (G:=G) trivial xs [] _ ⟨none,rfl⟩ ?_ ?_
   ·rintro x hm τ K1 K2 ⟨y,rfl⟩ g1 g2;have hn:=hk.2 xs rfl x hm;have k:=g1 rfl [some x] ⟨_,rfl⟩;refine⟨fun _=>⟨hn.known,?_⟩,nofun⟩;cases x with
    |int i=>
     refine⟨fun _=>⟨fun a=>?_,fun a=>?_⟩,nofun⟩
     ·have e:okS (.int i)=decide (i≤24):=by
       show (decide (2≤i)&&decide (i≤24))=_;rw[show decide (2≤i)=true from a,Bool.true_and]
      rw[e] at k;exact k
     ·have e:okS (.int i)=false:=by
       show (decide (2≤i)&&decide (i≤24))=_;rw[show decide (2≤i)=false from a,Bool.false_and]
      rw[e] at k;exact k
    |obj a=>exact hn.elim
    |_=>exact⟨nofun,fun _=>k⟩
   ·intro p1 G1 n1;rw[filter_all,List.nil_append] at n1;refine⟨_,_,n1.at_,qg4z okS xs,?_⟩;have e:stB (.scr xs)=(xs.map okS).all id:=by
     show ((decide (1≤xs.length)&&decide (xs.length≤6))&&xs.all okS)=_;rw[decide_eq_true (by lia),decide_eq_true l6,List.all_map];rfl
    rw[e] at q;exact qasz n1.sub q
  ·have h':decide ((1:Int)≤((xs.length:Nat):Int))=false:=h;have e:stB (.scr xs)=false:=by
    show ((decide (1≤xs.length)&&_)&&_)=false;rw[decide_eq_false (by rw[decide_eq_false_iff_not] at h';lia),Bool.false_and,Bool.false_and]
   rw[e] at q;exact⟨fun _=>qhz q,nofun⟩
 |obj a=>exact hk.1.elim
 |_=>exact⟨fun _=>⟨fun _=>qhz q,nofun⟩,nofun⟩
def qcrz:Sp3:=fun ds G Q=>∃(d:D) (ns:List Nat),ds=[d]/\(∀es,d≠.tup es)/\seqD G d (ns.map nD)/\(∀n∈ns,0<n/\n≤1000)/\ns.length≤20/\Q (.int (lcmF ns 1:Nat)) G
abbrev qm0z:=qlzz
theorem q0jz:∀ds G Q,qcrz ds G Q->qm0z (endsOf Q) (start3 ["numbers","least","number"] ds) G:=by
 rintro ds G Q ⟨d,ns,rfl,ht,hd,ok,hl,q⟩;cases d with
 |obj p=>exact qxvz _ _ _ ⟨p,ns,rfl,hd,ok,hl,q⟩
 |scr es=>
  have hd:ns.map nD=es:=hd;subst hd;refine q1z (fun ds τ G'=>G'=G/\∃(zs:List Nat) (a:Nat) (x2:Option D),ds=zs.map nD/\τ=[some (.scr (ns.map nD)),some (.int a),x2]/\(∀n∈zs,0<n/\n≤1000)/\0<a/\a*1000^zs.length≤1000^20/\lcmF zs a=lcmF ns 1) (fun _ _ _ _=>trivial) ?_ ?_ _ _ _ ⟨rfl,ns,1,none,rfl,rfl,ok,by decide,?_,rfl⟩
  ·rintro d ds τ G' N ⟨rfl,zs,a,x2,e,rfl,okz,ha,hb,hr⟩ hN;cases zs with
   |nil=>cases e
   |cons n zs=>
    cases e;obtain⟨hs1,hs2⟩:=okz _ List.mem_cons_self;have hg:0<Nat.gcd a n:=Nat.gcd_pos_of_pos_left _ ha;have hga:Nat.gcd a n≤a:=Nat.le_of_dvd ha (Nat.gcd_dvd_left _ _);have ha20:a≤1000^20:=Nat.le_trans (Nat.le_mul_of_pos_right _ (Nat.pow_pos (by decide))) hb;have hbig:∀k:Nat,k≤1000^20->Big (k:Int):=fun k hk=>qg2z (Nat.lt_of_le_of_lt hk (by decide));refine⟨a,n,rfl,⟨by lia,hbig _ (Nat.le_trans hga ha20)⟩,⟨hbig _ ha20,?_⟩,?_⟩
    ·show Big ((n:Int) / (Nat.gcd a n:Nat));rw[←Int.natCast_ediv];exact hbig _ (Nat.le_trans (Nat.div_le_self _ _) (Nat.le_trans hs2 (by decide)))
    have el:a*(n / Nat.gcd a n)=Nat.lcm a n:=by
     unfold Nat.lcm;rw[Nat.mul_div_assoc a (Nat.gcd_dvd_right a n)]
    refine hN _ _ ⟨rfl,zs,Nat.lcm a n,some (nD n),rfl,?_,fun c hc=>okz c (List.mem_cons_of_mem _ hc),Nat.lcm_pos ha (by lia),?_,hr⟩
    ·show [some (D.scr (ns.map nD)),some (D.int ((a:Int)*((n:Int) / (Nat.gcd a n:Nat)))),_]=_;rw[←Int.natCast_ediv,←Int.natCast_mul,el]
    ·refine Nat.le_trans ?_ hb;rw[List.length_cons,Nat.pow_succ,Nat.mul_comm (1000^zs.length) 1000,←Nat.mul_assoc];refine Nat.mul_le_mul_right _ ?_;have:Nat.lcm a n≤a*n:=Nat.le_of_dvd (Nat.mul_pos ha (by lia)) (Nat.lcm_dvd (Nat.dvd_mul_right _ _) (Nat.dvd_mul_left _ _));exact Nat.le_trans this (Nat.mul_le_mul_left _ (by lia))
  ·rintro τ G' ⟨rfl,zs,a,x2,e,rfl,okz,ha,hb,hr⟩;have:zs=[]:=by cases zs with
    |nil=>rfl
    |cons z zs=>cases e
   subst this;have hr':a=lcmF ns 1:=hr;rw[←hr'] at q;exact qhz q
  ·rw[Nat.one_mul];exact Nat.pow_le_pow_right (by decide) hl
 |tup es=>exact absurd rfl (ht es)
 |_=>exact hd.elim
def qm1z:TS3:=sRet (eCall qcrz (aCons (eComp ["clock"] [] (iSeq (eVar 0)) (hName 0) (tNoTest3) (eOp rIx3 (eVar 0) (eC (.int 0)))) (aNil)))
theorem q0kz:∀ds G Q,qbvz ds G Q->qm1z (endsOf Q) (start3 ["clocks"] ds) G:=by
 rintro ds G Q ⟨cs,rfl,ok,hl,q⟩;refine⟨by show (cs.map cD).length≤sizeLine;rw[List.length_map];exact line1000 (by lia),?_⟩;refine qabz (fun τ=>∃x,τ=[x]) cD (fun _=>true) (fun c=>nD c.1.toNat) (G:=G) trivial cs [] _ ⟨none,rfl⟩ ?_ ?_
 ·rintro⟨s,r⟩ hm τ K1 K2 ⟨x,rfl⟩ h1 h2;refine⟨fun _=>⟨_,rfl,?_⟩,nofun⟩;have hs:0<s:=(ok _ hm).1.1;have:=h1 rfl [some (cD (s,r))] ⟨_,rfl⟩;show K2 [some (cD (s,r))] (.int s) G;rw[show D.int s=nD (s,r).1.toNat by show D.int s=D.int ((s.toNat:Nat):Int);rw[Int.toNat_of_nonneg (by lia)]];exact this
 ·intro p G' n;rw[filter_all,List.nil_append,show cs.map (fun c:Clk=>nD c.1.toNat)=(cs.map fun c:Clk=>c.1.toNat).map nD by rw[List.map_map];rfl] at n;refine⟨.obj p,_,rfl,nofun,n.at_,fun k hk=>?_,by rw[List.length_map];exact hl,?_⟩
  ·obtain⟨c,hc,rfl⟩:=List.mem_map.mp hk;obtain⟨⟨a,_⟩,b⟩:=ok c hc;lia
  ·rw[ql0z];exact qasz n.sub q
abbrev stD(ns:List Int):D:=.scr (ns.map D.int)
structure St(ns:List Int):Prop where
 l1:1≤ns.length
 l6:ns.length≤6
 st:∀n∈ns,2≤n/\n≤24
def rndS(ns:List Int):Nat:=lcmF (ns.map Int.toNat) 1
theorem q0lz{ns:List Int}(h:∀n∈ns,2≤n/\n≤24):ns.map D.int=(ns.map Int.toNat).map nD:=by
 rw[List.map_map];refine List.map_congr_left fun n hn=>?_;have:=h n hn;show D.int n=D.int ((n.toNat:Nat):Int);rw[Int.toNat_of_nonneg (by lia)]
def qcdz:Sp3:=fun ds G Q=>∃(d:D) (ns:List Int) (rs:List (Option Int)),ds=[stD ns,d]/\seqD G d (rs.map rD)/\ns.length≤1000/\Q (csD (setC ns rs)) G
abbrev qm2z:=qy0z
theorem q0mz:∀ds G Q,qcdz ds G Q->qm2z (endsOf Q) (start3 ["steps","rests"] ds) G:=by
 rintro ds G Q ⟨d,ns,rs,rfl,hq,hl,k⟩;refine⟨ns.map D.int,rs.map rD,rfl,hq,?_⟩;rw[qcnz D.int rD ns rs];refine⟨?_,?_⟩
 ·show ((ns.zip rs).map _).length≤sizeLine;rw[List.length_map,List.length_zip];exact line1000 (by lia)
 refine qabz (fun τ=>∃x y,τ=[x,y]) (fun p:Int×Option Int=>D.tup [.int p.1,rD p.2]) (fun p=>p.2.isSome) (fun p=>cD (p.1,p.2.getD 0)) (G:=G) ⟨rfl,hq⟩ (ns.zip rs) [] _ ⟨none,none,rfl⟩ ?_ ?_
 ·rintro⟨s,r⟩ hm τ K1 K2 ⟨x,y,rfl⟩ h1 h2;cases r with
  |none=>exact⟨rfl,nofun,fun _=>h2 rfl _ ⟨_,_,rfl⟩⟩
  |some r=>exact⟨rfl,fun _=>h1 rfl _ ⟨_,_,rfl⟩,nofun⟩
 ·intro p1 G1 n1;rw[List.nil_append,qg8z] at n1;exact⟨_,n1.at_,qasz n1.sub k⟩
def qdxz:Sp3:=fun ds G Q=>∃n:Nat,ds=[.int n]/\n≤60/\Q (.int ((2^n:Nat):Int)) G
def q0nz:TS3:=sAug 1 (eVar 1) rIAdd3
def q0oz:TS3:=sRet (eVar 1)
def q0pz:TS3:=sSeq (sFor (iRng1 (aCons (eVar 0) (aNil))) (hName 2) (q0nz)) q0oz
def qm3z:TS3:=sSeq (sAsg (eC (.int 1)) (hName 1)) q0pz
theorem q0qz:∀ds G Q,qdxz ds G Q->qm3z (endsOf Q) (start3 ["times","number","turn"] ds) G:=by
 rintro ds G Q ⟨n,rfl,hn,q⟩;refine⟨⟨by lia,by lia⟩,?_⟩;show forGo _ _ _ _ (rngL 0 ((n:Int)).toNat) _ _;rw[Int.toNat_natCast,rng0];refine q1z (fun ds τ G'=>G'=G/\∃(k:Nat) (x2:Option D),ds.length+k=n/\τ=[some (.int n),some (.int ((2^k:Nat):Int)),x2]) (fun _ _ _ _=>trivial) ?_ ?_ _ _ _ ⟨rfl,0,none,by simp,rfl⟩
 ·rintro d ds τ G' N ⟨rfl,k,x2,hk,rfl⟩ hN;refine hN _ _ ⟨rfl,k+1,some d,by simp at hk;lia,?_⟩;show [some (D.int n),some (D.int (((2^k:Nat):Int)+((2^k:Nat):Int))),_]=_;rw[show ((2^k:Nat):Int)+((2^k:Nat):Int)=((2^(k+1):Nat):Int) by rw[Nat.pow_succ];lia]
 ·rintro τ G' ⟨rfl,k,x2,hk,rfl⟩;have:k=n:=by simpa using hk
  rw[this];exact qhz q
def qdyz:Sp3:=fun ds G Q=>∃cs:List Clk,ds=[csD cs]/\cs.length≤60/\Q (.int ((2^cs.length:Nat):Int)) G
def qm4z:TS3:=sRet (eCall qdxz (aCons (eCB qsz (aCons (eVar 0) (aNil))) (aNil)))
theorem q0rz:∀ds G Q,qdyz ds G Q->qm4z (endsOf Q) (start3 ["clocks"] ds) G:=by
 rintro ds G Q ⟨cs,rfl,hl,q⟩;refine⟨cs.length,?_,hl,qhz q⟩;show [D.int (((cs.map cD).length:Nat):Int)]=_;rw[List.length_map]
def qcsz:Sp3:=fun ds G Q=>∃cs:List Clk,ds=[csD cs,.int 0]/\(∀c∈cs,0<c.1)/\cs.length≤6/\Q (oN (nmO cs)) G
def q0sz:TS3:=sIf (eTest (eOp (rEq3 false) (eCall qckz (aCons (eVar 0) (aCons (eVar 2) (aNil)))) (eLst (aNil)))) (sRet (eVar 2)) (sNext)
def q0tz:TS3:=sRet (eC .non)
def q0uz:TS3:=sSeq (sFor (iRng2 (aCons (eVar 1) (aCons (eOp rAdd3 (eVar 1) (eCall qdyz (aCons (eVar 0) (aNil)))) (aNil)))) (hName 2) (q0sz)) q0tz
def qm5z:TS3:=sSeq (sDrop (eCall qbxz (aCons (eCB qsz (aCons (eVar 0) (aNil))) (aCons (eC (.int 10)) (aNil))))) q0uz
theorem q0vz:∀ds G Q,qcsz ds G Q->qm5z (endsOf Q) (start3 ["clocks","number","looked"] ds) G:=by
 rintro ds G Q ⟨cs,rfl,hp,hl,q⟩;have hlm:(((cs.map cD).length:Nat):Int)=(cs.length:Nat):=by rw[List.length_map]
 refine⟨_,_,rfl,?_,cs,rfl,by lia,?_⟩
 ·show (((cs.map cD).length:Nat):Int)≤10;lia
 have h64:2^cs.length≤2^6:=Nat.pow_le_pow_right (by decide) hl;have h64:2^cs.length≤64:=h64;have q:Q (oN ((List.range (2^cs.length)).find? fun x=>cntN cs x==0)) G:=q;generalize 2^cs.length=N at h64 q ⊢;refine⟨⟨by lia,by lia,by lia,by lia⟩,?_⟩;show forGo _ _ _ _ (rngL 0 (0+(N:Int)-0).toNat) _ _;rw[show (0+(N:Int)-0).toNat=N by lia,rng0];refine q1z (fun ds τ G'=>Sub G G'/\∃(xs:List Nat) (x2:Option D),ds=xs.map nD/\τ=[some (csD cs),some (.int 0),x2]/\xs.find? (fun x=>cntN cs x==0)=(List.range N).find? fun x=>cntN cs x==0) (fun _ _ _ _=>trivial) ?_ ?_ _ _ _ ⟨Sub.refl _,List.range N,none,rfl,rfl,rfl⟩
 ·rintro d ds τ G' N' ⟨s1,xs,x2,e,rfl,hf⟩ hN;cases xs with
  |nil=>cases e
  |cons x xs=>
   cases e;refine⟨cs,(x:Int),rfl,hp,by lia,fun p2 G2 n2 p3 G3 n3=>?_⟩;refine⟨_,_,qcbz (n3.sub _ _ n2.at_) (qe2z _),qcbz n3.at_ rfl,qlnz _,fun h=>?_,fun h=>?_⟩
   ·have h':(Dat.D.lst ((cs.filter (rg (x:Int))).map cX)).eqb (.lst [])=true:=h;rw[qe3z] at h';have h0:(cntN cs x==0)=true:=by
     unfold cntN;cases e2:cs.filter (rg (x:Int)) with
     |nil=>rfl
     |cons a l=>rw[e2] at h';cases h'
    rw[List.find?_cons_of_pos (by exact h0)] at hf;rw[←hf] at q;exact qasz ((s1.trans n2.sub).trans n3.sub) q
   ·have h':(Dat.D.lst ((cs.filter (rg (x:Int))).map cX)).eqb (.lst [])=false:=h;rw[qe3z] at h';have h0:(cntN cs x==0)=false:=by
     unfold cntN;cases e2:cs.filter (rg (x:Int)) with
     |nil=>rw[e2] at h';cases h'
     |cons a l=>rfl
    rw[List.find?_cons_of_neg (by rw[h0];decide)] at hf;exact hN _ _ ⟨(s1.trans n2.sub).trans n3.sub,xs,_,rfl,rfl,hf⟩
 ·rintro τ G' ⟨s1,xs,x2,e,rfl,hf⟩;cases xs with
  |cons x xs=>cases e
  |nil=>
   rw[←hf] at q;exact qasz s1 q
def qctz:Sp3:=fun ds G Q=>∃(d:D) (ns:List Int) (rs:List (Option Int)),ds=[stD ns,d]/\seqD G d (rs.map rD)/\(∀n∈ns,0<n)/\ns.length≤6/\Q (.bl (nmO (setC ns rs)).isNone) G
def qm6z:TS3:=sRet (eOp (rIs3 false) (eCall qcsz (aCons (eCall qcdz (aCons (eVar 0) (aCons (eVar 1) (aNil)))) (aCons (eC (.int 0)) (aNil)))) (eC .non))
theorem qhcz{ns:List Int}{rs:List (Option Int)}(h:∀n∈ns,0<n):∀c∈setC ns rs,0<c.1:=fun c hc=>by
 obtain⟨k,h1,_⟩:=mem_setC.mp hc;exact h _ (List.mem_of_getElem? h1)
theorem q0wz:∀ds G Q,qctz ds G Q->qm6z (endsOf Q) (start3 ["steps","rests"] ds) G:=by
 rintro ds G Q ⟨d,ns,rs,rfl,hd,hp,hl,q⟩;have:=qg9z ns rs;refine⟨d,ns,rs,rfl,hd,by lia,setC ns rs,rfl,qhcz hp,by lia,?_⟩;have e:isNon (oN (nmO (setC ns rs)))=(nmO (setC ns rs)).isNone:=by cases nmO (setC ns rs)<;>rfl
 show (endsOf Q).rt (.bl (isNon (oN (nmO (setC ns rs))))) G;rw[e];exact qhz q
end My
namespace L3
open PySem PySem.Spec PyProof.Rows L2
open Sem (wp)
def IsZipN(h:Heap)(z TI TO:Addr)(a:Nat)(b:Bool):Prop:=
 h.get? z=some { cls:=.type "zip",dict:=none,data:=.fields #[rawInt a,.bool b,.bool false,.ref TI,.ref TO],slots:=#[]}
section
variable {P:Program} {w:World} {A:Around} {E:Value->Shared->Prop} {s:Shared}
theorem q0xz{a:Addr}{o:Obj}{Q:Option Obj->Shared->Prop}(ho:s.heap.get? a=some o)(h:Q (some o) s):wpAny (model P w) A (loadIfAlive a) Q E s:=by
 have h':Q (s.heap.get? a) s:=by rw[ho];exact h
 exact fun _ _ _=>h'
theorem qm7z{zz ti ot a:Addr}{b:Bool}{oa:Obj}{Q:Bool->Shared->Prop}(Z:IsZipN s.heap zz ti ot a b)(ha:s.heap.get? a=some oa)
  (q:∀h',IsZipN h' zz ti ot a true->Heap.SameBut zz s.heap h'->Q false { s with heap:=h' }):wpAny (model P w) A (Builtin.SmallTypes.ownedTupleIsFree (.ref zz)) Q E s:=by
 unfold IsZipN at Z;unfold Builtin.SmallTypes.ownedTupleIsFree;refine wpAny_bind (wpAny_field Z rfl (x:=rawInt a) rfl ?_);show wpAny _ _ (loadIfAlive ((a:Int).toNat) >>= _) _ _ _;rw[Int.toNat_natCast];refine wpAny_bind (q0xz ha ?_);simp only[Option.isNone_some,Bool.false_eq_true,if_false];refine wpAny_bind (wpAny_field Z rfl (x:=.bool b) rfl ?_);cases b with
 |true=>
  rw[if_neg (show ¬((Value.bool true != Value.bool true)=true) from Bool.false_ne_true)];exact wpAny_pure (q s.heap Z (Heap.SameBut.refl _ _))
 |false=>
  rw[if_pos (show (Value.bool false != Value.bool true)=true from rfl)];refine wpAny_bind (wpAny_setField_rec Z (by simp) fun h₃ he₃ hs₃=>?_);exact wpAny_pure (q h₃ he₃ hs₃)
theorem zipN{k1 k2:Bool}{zz ti ot j1 j2 a1 a2 a:Addr}{b:Bool}{oa:Obj}{m n:Nat}{xs ys:Array Value}{u v:Value}{Q:Value->Shared->Prop}(D:ZipApart zz ti ot j1 j2 a1 a2)
  (Z:IsZipN s.heap zz ti ot a b) (ha:s.heap.get? a=some oa) (Ti:IsPair s.heap ti (.ref j1) (.ref j2)) (g1:Ik k1 s.heap j1 a1 m) (g2:Ik k2 s.heap j2 a2 n) (s1:Sk k1 s.heap a1 xs) (s2:Sk k2 s.heap a2 ys) (hu:xs[m]?=some u) (hv:ys[n]?=some v)
  (q:∀h',IsZipN h' zz ti ot a true->Ik k1 h' j1 a1 (m+1)->Ik k2 h' j2 a2 (n+1)->IsPair h' s.heap.objs.size u v ->
   (∀b o,b≠zz->b≠ot->b≠j1->b≠j2->s.heap.get? b=some o->h'.get? b=some o)->Q (.ref s.heap.objs.size) { s with heap:=h' }):
  wpAny (model P w) A (Builtin.«zip.__next__» ⟨[.ref zz],[]⟩) (fun fin s'=>∃r,fin=.done (.ret r)/\Q r s') E s:=by
 have Z0:=Z;unfold IsZipN at Z0;show wpAny _ _ (field (.ref zz) 2 >>= _) _ _ _;refine wpAny_bind (wpAny_field Z0 rfl (x:=.bool false) rfl ?_);show wpAny _ _ (field (.ref zz) 3 >>= _) _ _ _;refine wpAny_bind (wpAny_field Z0 rfl (x:=.ref ti) rfl ?_);refine wpAny_bind (wpAny_seqItems Ti rfl ?_);show wpAny _ _ (Builtin.SmallTypes.ownedTupleIsFree (.ref zz) >>= _) _ _ _;refine wpAny_bind (qm7z Z ha fun w1 Z1 b1=>?_);have k1_:∀b o,b≠zz->s.heap.get? b=some o->w1.get? b=some o:=fun b o h e=>b1.extBut b o h e;simp only[Bool.false_eq_true,if_false];refine wpAny_bind ?_;rw[←Array.forIn_toList];simp only[List.forIn_nil,List.forIn_cons];refine wpAny_bind (wpAny_bind (wpAny_holding ?_));show wpAny _ _ (Builtin.SmallTypes.nextOf (.ref j1) >>= _) _ _ _;refine wpAny_bind (nextK (g1.of fun o e=>k1_ _ o D.i1z e) (s1.of fun o e=>k1_ _ o D.l1z e) hu fun w2 J1 b2=>wpAny_pure ?_);have k2_:∀b o,b≠zz->b≠j1->s.heap.get? b=some o->w2.get? b=some o:=fun b o h h2 e=>b2.extBut b o h2 (k1_ b o h e);refine wpAny_pure ?_;refine wpAny_bind (wpAny_bind (wpAny_holding ?_));show wpAny _ _ (Builtin.SmallTypes.nextOf (.ref j2) >>= _) _ _ _;refine wpAny_bind (nextK (g2.of fun o e=>k2_ _ o D.i2z D.i12.symm e) (s2.of fun o e=>k2_ _ o D.l2z D.l2i1 e) hv fun w3 J2 b3=>wpAny_pure ?_);refine wpAny_pure (wpAny_pure ?_);refine wpAny_bind (wpAny_newTuple (hsz:=by show 2≤sizeLine;decide) ?_);have sz:w3.objs.size=s.heap.objs.size:=by rw[b3.1,b2.1,b1.1]
 refine wpAny_pure ⟨_,rfl,?_⟩;show Q (.ref w3.objs.size) _;have T8:IsPair (w3.push { cls:=.type "tuple",data:=.seq #[u,v]}) w3.objs.size u v:=Heap.get?_push_size _ rfl;rw[sz] at T8 ⊢;have Z3:IsZipN w3 zz ti ot a true:=b3.extBut _ _ D.i2z.symm (b2.extBut _ _ D.i1z.symm Z1);exact q _ (Heap.get?_push_of_some _ Z3) (J1.of fun o e=>Heap.get?_push_of_some _ (b3.extBut _ _ D.i12 e)) (J2.of fun o e=>Heap.get?_push_of_some _ e) T8 fun b o c1 c2 c3 c4 e=>Heap.get?_push_of_some _ (b3.extBut _ _ c4 (k2_ b o c1 c3 e))
theorem q0yz{k1 k2:Bool}{zz ti ot j1 j2 a1 a2 a:Addr}{b:Bool}{oa:Obj}{m n:Nat}{xs ys:Array Value}{Q:Fin->Shared->Prop}(hh:A.handled=none)(D:ZipApart zz ti ot j1 j2 a1 a2)
  (Z:IsZipN s.heap zz ti ot a b) (ha:s.heap.get? a=some oa) (Ti:IsPair s.heap ti (.ref j1) (.ref j2)) (g1:Ik k1 s.heap j1 a1 m) (g2:Ik k2 s.heap j2 a2 n) (s1:Sk k1 s.heap a1 xs) (s2:Sk k2 s.heap a2 ys) (he:xs[m]?=none∨ys[n]?=none)
  (q:∀h' e,(∀b o,b≠zz->b≠ot->b≠j1->b≠j2->s.heap.get? b=some o->h'.get? b=some o)->(∃o,h'.get? e=some o/\o.cls=.type "StopIteration")->E (.ref e) { s with heap:=h' }):
  wpAny (model P w) A (Builtin.«zip.__next__» ⟨[.ref zz],[]⟩) Q E s:=by
 have Z0:=Z;unfold IsZipN at Z0;show wpAny _ _ (field (.ref zz) 2 >>= _) _ _ _;refine wpAny_bind (wpAny_field Z0 rfl (x:=.bool false) rfl ?_);show wpAny _ _ (field (.ref zz) 3 >>= _) _ _ _;refine wpAny_bind (wpAny_field Z0 rfl (x:=.ref ti) rfl ?_);refine wpAny_bind (wpAny_seqItems Ti rfl ?_);show wpAny _ _ (Builtin.SmallTypes.ownedTupleIsFree (.ref zz) >>= _) _ _ _;refine wpAny_bind (qm7z Z ha fun w1 Z1 b1=>?_);have k1_:∀b o,b≠zz->s.heap.get? b=some o->w1.get? b=some o:=fun b o h e=>b1.extBut b o h e;simp only[Bool.false_eq_true,if_false];refine wpAny_bind ?_;rw[←Array.forIn_toList];simp only[List.forIn_nil,List.forIn_cons];refine wpAny_bind (wpAny_bind (wpAny_holding ?_));show wpAny _ _ (Builtin.SmallTypes.nextOf (.ref j1) >>= _) _ _ _;cases hx:xs[m]? with
 |none=>
  exact wpAny_bind (qciz hh (g1.of fun o e=>k1_ _ o D.i1z e) (s1.of fun o e=>k1_ _ o D.l1z e) hx fun w2 e b2 hs=>q w2 e (fun b o c1 _ c3 _ x=>b2 _ _ c3 (k1_ b o c1 x)) hs)
 |some u=>
  have hy:ys[n]?=none:=by
   rcases he with h|h
   ·rw[hx] at h;cases h
   ·exact h
  refine wpAny_bind (nextK (g1.of fun o e=>k1_ _ o D.i1z e) (s1.of fun o e=>k1_ _ o D.l1z e) hx fun w2 J1 b2=>wpAny_pure ?_);have k2_:∀b o,b≠zz->b≠j1->s.heap.get? b=some o->w2.get? b=some o:=fun b o h h2 e=>b2.extBut b o h2 (k1_ b o h e);refine wpAny_pure ?_;refine wpAny_bind (wpAny_bind (wpAny_holding ?_));show wpAny _ _ (Builtin.SmallTypes.nextOf (.ref j2) >>= _) _ _ _;exact wpAny_bind (qciz hh (g2.of fun o e=>k2_ _ o D.i2z D.i12.symm e) (s2.of fun o e=>k2_ _ o D.l2z D.l2i1 e) hy fun w3 e b3 hs=>q w3 e (fun b o c1 _ c3 c4 x=>b3 _ _ c4 (k2_ b o c1 c3 x)) hs)
structure ZS(k1 k2:Bool)(zz ti ot j1 j2 a1 a2 S:Addr)(xs ys:Array Value)(h:Heap)(i:Nat):Prop where
 z:(i=0/\IsZip h zz ti ot .none/\∃c d,IsPair h ot c d)∨∃a b oa,IsZipN h zz ti ot a b/\h.get? a=some oa/\S<a
 t:IsPair h ti (.ref j1) (.ref j2)
 g1:Ik k1 h j1 a1 i
 g2:Ik k2 h j2 a2 i
 s1:Sk k1 h a1 xs
 s2:Sk k2 h a2 ys
structure Below(zz ti ot j1 j2 a1 a2 S:Addr):Prop where
 z:zz<S
 t:ti<S
 o:ot<S
 i1:j1<S
 i2:j2<S
 l1:a1<S
 l2:a2<S
theorem ZS.keep{k1 k2:Bool}{zz ti ot j1 j2 a1 a2 S:Addr}{xs ys:Array Value}{h h':Heap}{i:Nat}(x:ZS k1 k2 zz ti ot j1 j2 a1 a2 S xs ys h i)(B:Below zz ti ot j1 j2 a1 a2 S)(k:∀b o,b≠S->h.get? b=some o->h'.get? b=some o):ZS k1 k2 zz ti ot j1 j2 a1 a2 S xs ys h' i:=by
 obtain⟨hz,ht,hg1,hg2,hs1,hs2⟩:=x;refine⟨?_,k _ _ (Nat.ne_of_lt B.t) ht,hg1.of fun o e=>k _ _ (Nat.ne_of_lt B.i1) e,hg2.of fun o e=>k _ _ (Nat.ne_of_lt B.i2) e,hs1.of fun o e=>k _ _ (Nat.ne_of_lt B.l1) e,hs2.of fun o e=>k _ _ (Nat.ne_of_lt B.l2) e⟩;rcases hz with⟨e0,e1,c,d,e2⟩|⟨a,b,oa,e1,e2,e3⟩
 ·exact .inl ⟨e0,k _ _ (Nat.ne_of_lt B.z) e1,c,d,k _ _ (Nat.ne_of_lt B.o) e2⟩
 ·exact .inr ⟨a,b,oa,k _ _ (Nat.ne_of_lt B.z) e1,k _ _ (Nat.ne_of_gt e3) e2,e3⟩
theorem q0zz{k1 k2:Bool}{zz ti ot j1 j2 a1 a2 S:Addr}{xs ys:Array Value}{i:Nat}{u v:Value}{Q:Option Value->Shared->Prop}(D:ZipApart zz ti ot j1 j2 a1 a2)(B:Below zz ti ot j1 j2 a1 a2 S)(st:ZS k1 k2 zz ti ot j1 j2 a1 a2 S xs ys s.heap i)(hS:S<s.heap.objs.size)
  (hu:xs[i]?=some u) (hv:ys[i]?=some v)
  (q:∀h',ZS k1 k2 zz ti ot j1 j2 a1 a2 S xs ys h' (i+1)->IsPair h' s.heap.objs.size u v->(∀b o,b≠zz->b≠ot->b≠j1->b≠j2->s.heap.get? b=some o->h'.get? b=some o)->Q (some (.ref s.heap.objs.size)) { s with heap:=h' }):
  wpAny (model P w) A (pyNext (.ref zz)) Q E s:=by
 obtain⟨hz,ht,hg1,hg2,hs1,hs2⟩:=st;unfold pyNext;rcases hz with⟨rfl,Z,c,d,To⟩|⟨a,b,oa,Z,ha,hSa⟩
 ·have hT:s.TypeIs (.ref zz) "zip":=⟨_,Z,rfl⟩;refine wpAny_bind (wpAny_attempt (wpAny_callSpecial?_slot (name:=Str.ofString "__next__") hT F.slot_zip_next (wpAny_call_entry F.slot_zip_next hT F.entry_zip_next (zipK D Z ht To hg1 hg2 hs1 hs2 hu hv fun h' Z' To' g1' g2' T' kp=>?_) (F.args_zip_next_1 _))));exact wpAny_pure (q h' ⟨.inr ⟨_,false,_,Z',T',hS⟩,kp _ _ D.TIz D.TITO D.TIi1 D.TIi2 ht,g1',g2',hs1.of fun o e=>kp _ _ D.l1z D.l1TO D.l1i1 D.l1i2 e,hs2.of fun o e=>kp _ _ D.l2z D.l2TO D.l2i1 D.l2i2 e⟩ T' kp)
 ·have hT:s.TypeIs (.ref zz) "zip":=⟨_,Z,rfl⟩;refine wpAny_bind (wpAny_attempt (wpAny_callSpecial?_slot (name:=Str.ofString "__next__") hT F.slot_zip_next (wpAny_call_entry F.slot_zip_next hT F.entry_zip_next (zipN D Z ha ht hg1 hg2 hs1 hs2 hu hv fun h' Z' g1' g2' T' kp=>?_) (F.args_zip_next_1 _))));exact wpAny_pure (q h' ⟨.inr ⟨_,true,_,Z',kp _ _ (Nat.ne_of_gt (Nat.lt_trans B.z hSa)) (Nat.ne_of_gt (Nat.lt_trans B.o hSa)) (Nat.ne_of_gt (Nat.lt_trans B.i1 hSa)) (Nat.ne_of_gt (Nat.lt_trans B.i2 hSa)) ha,hSa⟩,kp _ _ D.TIz D.TITO D.TIi1 D.TIi2 ht,g1',g2',hs1.of fun o e=>kp _ _ D.l1z D.l1TO D.l1i1 D.l1i2 e,hs2.of fun o e=>kp _ _ D.l2z D.l2TO D.l2i1 D.l2i2 e⟩ T' kp)
theorem q00z{k1 k2:Bool}{zz ti ot j1 j2 a1 a2 S:Addr}{xs ys:Array Value}{i:Nat}{Q:Option Value->Shared->Prop}(hh:A.handled=none)(D:ZipApart zz ti ot j1 j2 a1 a2)(st:ZS k1 k2 zz ti ot j1 j2 a1 a2 S xs ys s.heap i)(he:xs[i]?=none∨ys[i]?=none)
  (q:∀h',(∀b o,b≠zz->b≠ot->b≠j1->b≠j2->s.heap.get? b=some o->h'.get? b=some o)->Q none { s with heap:=h' }):
  wpAny (model P w) A (pyNext (.ref zz)) Q E s:=by
 obtain⟨hz,ht,hg1,hg2,hs1,hs2⟩:=st;unfold pyNext;rcases hz with⟨rfl,Z,c,d,To⟩|⟨a,b,oa,Z,ha,hSa⟩
 ·have hT:s.TypeIs (.ref zz) "zip":=⟨_,Z,rfl⟩;refine wpAny_bind (wpAny_attempt (wpAny_callSpecial?_slot (name:=Str.ofString "__next__") hT F.slot_zip_next (wpAny_call_entry F.slot_zip_next hT F.entry_zip_next (qk5z (A:=A.in1) hh D Z ht To hg1 hg2 hs1 hs2 he fun h' e kp hs=>?_) (F.args_zip_next_1 _))));obtain⟨o,ho,hcl⟩:=hs;refine wpAny_bind (wpAny_isInstance (T:="StopIteration") (b:=true) ⟨o,ho,hcl⟩ isSubtype_stop ?_);exact wpAny_pure (q h' kp)
 ·have hT:s.TypeIs (.ref zz) "zip":=⟨_,Z,rfl⟩;refine wpAny_bind (wpAny_attempt (wpAny_callSpecial?_slot (name:=Str.ofString "__next__") hT F.slot_zip_next (wpAny_call_entry F.slot_zip_next hT F.entry_zip_next (q0yz (A:=A.in1) hh D Z ha ht hg1 hg2 hs1 hs2 he fun h' e kp hs=>?_) (F.args_zip_next_1 _))));obtain⟨o,ho,hcl⟩:=hs;refine wpAny_bind (wpAny_isInstance (T:="StopIteration") (b:=true) ⟨o,ho,hcl⟩ isSubtype_stop ?_);exact wpAny_pure (q h' kp)
structure ZG(xs ys:Array Value)(lo:Addr)(h:Heap)(as:List Addr):Prop where
 rise:as.Pairwise (· < ·)
 above:∀a∈as,lo<a
 pairs:∀(j:Nat) (a:Addr),as[j]?=some a->∃u v,xs[j]?=some u/\ys[j]?=some v/\IsPair h a u v
theorem ZG.there{xs ys:Array Value}{lo:Addr}{h:Heap}{as:List Addr}(g:ZG xs ys lo h as){a:Addr}(ha:a∈as):a<h.objs.size:=by
 obtain⟨j,hj⟩:=List.mem_iff_getElem?.mp ha;obtain⟨_,_,_,_,e⟩:=g.pairs j a hj;exact Heap.lt_size e
end
section
variable {P:Program} {w:World} {A:Around} {s:Shared} {R:Result->Shared->Prop} {xs ys:Array Value} {k1 k2:Bool} {zz ti ot j1 j2 a1 a2 S:Addr}
theorem q01z(hh:A.handled=none)(D:ZipApart zz ti ot j1 j2 a1 a2)(B:Below zz ti ot j1 j2 a1 a2 S)(hn:xs.size≤sizeLine)(res:Value){h₁:Heap}
  (hR:∀h' acc c as,(∀b o,b≠S->b≠zz->b≠ot->b≠j1->b≠j2->h₁.get? b=some o->h'.get? b=some o)->h'.get? S=some { cls:=.type "list",dict:=none,data:=.seq acc c,slots:=#[]}->as.length=min xs.size ys.size->ZG xs ys S h' as ->
   acc.toList=as.map Value.ref->R (.ok (.ret res)) { s with heap:=h' }):
  ∀(k i:Nat) (h:Heap) (c:Nat) (acc:Array Value) (as:List Addr),min xs.size ys.size-i=k->i≤min xs.size ys.size->ZS k1 k2 zz ti ot j1 j2 a1 a2 S xs ys h i->(∀b o,b≠S->b≠zz->b≠ot->b≠j1->b≠j2->h₁.get? b=some o->h.get? b=some o) ->
   h.get? S=some { cls:=.type "list",dict:=none,data:=.seq acc c,slots:=#[]}->acc.toList=as.map Value.ref->as.length=i->ZG xs ys S h as ->
   codeAny (model P w) A (.builtin "list.extend.loop" ⟨[.ref S,.ref zz,res],[]⟩) R { s with heap:=h }:=by
 have nz:=Nat.ne_of_gt B.z;have no:=Nat.ne_of_gt B.o;have n1:=Nat.ne_of_gt B.i1;have n2:=Nat.ne_of_gt B.i2;have ab:∀a,S<a->a≠zz/\a≠ot/\a≠j1/\a≠j2/\a≠S:=fun a ha=>⟨Nat.ne_of_gt (Nat.lt_trans B.z ha),Nat.ne_of_gt (Nat.lt_trans B.o ha),Nat.ne_of_gt (Nat.lt_trans B.i1 ha),Nat.ne_of_gt (Nat.lt_trans B.i2 ha),Nat.ne_of_gt ha⟩;intro k
 induction k with
 |zero=>
  intro i h c acc as hk hi hst hkeep hS hacc hal hG;have hin:i=min xs.size ys.size:=by omega
  refine codeAny_builtin F.entry_extend_loop ?_;rw[Around.under_plainId F.plain_extend_loop _];show wpAny _ A.in1 (pyNext (.ref zz) >>= _) _ _ _;refine wpAny_bind (q00z (s:={ s with heap:=h }) (A:=A.in1) hh D hst ?_ fun h' kp=>?_)
  ·rcases Nat.lt_or_ge i xs.size with h1|h1
   ·exact .inr (Array.getElem?_eq_none (by omega))
   ·exact .inl (Array.getElem?_eq_none h1)
  refine wpAny_pure (hR h' acc c as (fun b o c0 c1 c2 c3 c4 e=>kp b o c1 c2 c3 c4 (hkeep b o c0 c1 c2 c3 c4 e)) (kp S _ nz no n1 n2 hS) (by omega) ⟨hG.rise,hG.above,fun j a hj=>?_⟩ hacc);obtain⟨u,v,e1,e2,e3⟩:=hG.pairs j a hj;obtain⟨d1,d2,d3,d4,_⟩:=ab a (hG.above a (List.mem_of_getElem? hj));exact⟨u,v,e1,e2,kp a _ d1 d2 d3 d4 e3⟩
 |succ k ih=>
  intro i h c acc as hk hi hst hkeep hS hacc hal hG;have hlt:i<min xs.size ys.size:=by omega
  obtain⟨u,hu⟩:∃p,xs[i]?=some p:=⟨xs[i]'(by omega),Array.getElem?_eq_getElem (by omega)⟩;obtain⟨v,hv⟩:∃p,ys[i]?=some p:=⟨ys[i]'(by omega),Array.getElem?_eq_getElem (by omega)⟩;have hsz:acc.size=i:=by rw[←Array.length_toList,hacc,List.length_map,hal]
  have hSl:S<h.objs.size:=Heap.lt_size hS;refine codeAny_builtin F.entry_extend_loop ?_;rw[Around.under_plainId F.plain_extend_loop _];show wpAny _ A.in1 (pyNext (.ref zz) >>= _) _ _ _;refine wpAny_bind (q0zz (s:={ s with heap:=h }) (A:=A.in1) D B hst hSl hu hv fun h' hst' ht hkp=>?_);dsimp only at ht hkp ⊢;have hS':=hkp S _ nz no n1 n2 hS;have up:∀b o,b≠S->h'.get? b=some o->(h'.update S (Obj.mapSeq (·.push (Value.ref h.objs.size)))).get? b=some o:=fun b o hb e=>(Heap.get?_update_other _ _ (Ne.symm hb)).trans e;show wpAny _ A.in1 (updateSeq S (·.push (Value.ref h.objs.size)) >>= _) _ _ _;refine wpAny_bind ?_;refine wpAny_updateSeq hS' rfl (wpAny_pure ⟨plainId_quiet F.plain_extend_loop _,ih (i+1) _ _ (acc.push (Value.ref h.objs.size)) (as++[h.objs.size]) (by omega) hlt (hst'.keep B up)
   (fun b o c0 c1 c2 c3 c4 e=>up b o c0 (hkp b o c1 c2 c3 c4 (hkeep b o c0 c1 c2 c3 c4 e))) (Heap.get?_update_self _ hS' rfl) (by rw[Array.toList_push,hacc,List.map_append];rfl) (by rw[List.length_append,hal];rfl) ⟨?_,?_,?_⟩⟩) (by rw[hsz];omega) (by show (acc.push (Value.ref h.objs.size)).size≤sizeLine+1;rw[Array.size_push,hsz];omega)
  ·refine List.pairwise_append.mpr ⟨hG.rise,List.pairwise_singleton _ _,fun a ha b hb=>?_⟩;rw[List.mem_singleton.mp hb];exact hG.there ha
  ·intro a ha;rcases List.mem_append.mp ha with ha|ha
   ·exact hG.above a ha
   ·rw[List.mem_singleton.mp ha];exact hSl
  ·intro j b hj;rcases Nat.lt_trichotomy j as.length with h1|h1|h1
   ·rw[List.getElem?_append_left h1] at hj;obtain⟨u',v',e1,e2,e3⟩:=hG.pairs j b hj;obtain⟨d1,d2,d3,d4,d5⟩:=ab b (hG.above b (List.mem_of_getElem? hj));exact⟨u',v',e1,e2,up b _ d5 (hkp b _ d1 d2 d3 d4 e3)⟩
   ·subst h1;have hb:h.objs.size=b:=by simpa using hj
    subst hb;exact⟨u,v,by rw[hal];exact hu,by rw[hal];exact hv,up _ _ (Nat.ne_of_gt hSl) ht⟩
   ·have hnone:(as++[h.objs.size])[j]?=none:=List.getElem?_eq_none (by rw[List.length_append,List.length_singleton];omega);rw[hnone] at hj;cases hj
end
theorem q02z:typeLookup (.type "zip") "__len__" = pure none:=by rw[typeLookup_type,builtinLookup_eq_fast];kernel_rfl
theorem q03z:typeLookup (.type "zip") "__length_hint__" = pure none:=by rw[typeLookup_type,builtinLookup_eq_fast];kernel_rfl
section
variable {P:Program} {w:World} {A:Around} {E:Value->Shared->Prop} {s:Shared} {R:Result->Shared->Prop} {xs ys:Array Value} {k1 k2:Bool} {zz ti ot j1 j2 a1 a2 S:Addr}
theorem q04z(hT:s.TypeIs (.ref zz) "zip"){Q:Bool->Shared->Prop}(h:Q true s):wpAny (model P w) A (Builtin.List.listLengthHint (.ref zz)) Q E s:=by
 unfold Builtin.List.listLengthHint;refine wpAny_bind (wpAny_specialOf hT q02z ?_);refine wpAny_ite_split (fun hab=>absurd hab (by decide)) (fun _=>?_);refine wpAny_ite_split (fun hab=>absurd hab (by decide)) (fun _=>?_);refine wpAny_bind (wpAny_specialOf hT q03z ?_);exact wpAny_pure h
theorem q05z(hh:A.handled=none)(D:ZipApart zz ti ot j1 j2 a1 a2)(B:Below zz ti ot j1 j2 a1 a2 S)(hn:xs.size≤sizeLine)(res:Value)(c₀:Nat)
  (Z:IsZip s.heap zz ti ot .none) (To:∃c d,IsPair s.heap ot c d) (Ti:IsPair s.heap ti (.ref j1) (.ref j2)) (g1:Ik k1 s.heap j1 a1 0) (g2:Ik k2 s.heap j2 a2 0) (s1:Sk k1 s.heap a1 xs) (s2:Sk k2 s.heap a2 ys) (hS:s.heap.get? S=some { cls:=.type "list",data:=.seq #[] c₀ })
  (hR:∀h' acc c as,(∀b o,b≠S->b≠zz->b≠ot->b≠j1->b≠j2->s.heap.get? b=some o->h'.get? b=some o)->h'.get? S=some { cls:=.type "list",dict:=none,data:=.seq acc c,slots:=#[]}->as.length=min xs.size ys.size->ZG xs ys S h' as ->
   acc.toList=as.map Value.ref->R (.ok (.ret res)) { s with heap:=h' }):
  wpAny (model P w) A.in1 (Builtin.List.listExtendWith (.ref S) (.ref zz) res)
   (fun fin s'=>match fin with | .done f=>R (.ok f) s' | .again c'=>c'.quiet=true/\codeAny (model P w) A c' R s') (fun e s'=>R (.error e) s') s:=by
 have hSr:S≠zz:=Nat.ne_of_gt B.z;have key:∀(h:Heap) (c₁:Nat),(∀b o,b≠S->s.heap.get? b=some o->h.get? b=some o)->h.get? S=some { cls:=.type "list",data:=.seq #[] c₁ } ->
   codeAny (model P w) A (.builtin "list.extend.loop" ⟨[.ref S,.ref zz,res],[]⟩) R { s with heap:=h }:=by
  intro h c₁ hk hS₁;have st:ZS k1 k2 zz ti ot j1 j2 a1 a2 S xs ys s.heap 0:=⟨.inl ⟨rfl,Z,To⟩,Ti,g1,g2,s1,s2⟩;exact q01z (h₁:=s.heap) hh D B hn res hR _ 0 h c₁ #[] [] rfl (Nat.zero_le _) (st.keep B hk) (fun b o c0 _ _ _ _ e=>hk b o c0 e) hS₁ rfl rfl ⟨List.Pairwise.nil,(fun _ ha=>nomatch ha),(fun j a hj=>by simp at hj)⟩
 unfold Builtin.List.listExtendWith;refine wpAny_bind (wpAny_typeOf (T:="zip") ⟨_,Z,rfl⟩ ?_);have h1:Builtin.List.listSameRef (.ref S) (.ref zz)=false:=by simp[Builtin.List.listSameRef,hSr]
 have h2:(Value.type "zip" == Value.type "list")=false:=by decide
 have h3:(Value.type "zip" == Value.type "tuple")=false:=by decide
 simp only[h1,h2,h3,Bool.or_false,Bool.false_eq_true,if_false];refine wpAny_bind (wpAny_pyIter_zip Z ?_);refine wpAny_bind (wpAny_holding (q04z ⟨_,Z,rfl⟩ ?_));refine wpAny_ite_split (fun _=>?_) (fun hab=>absurd rfl hab);refine wpAny_bind (wpAny_rule ?_);refine wpAny_bind ?_;show wpAny _ _ (updateSeq S (·.push .none) >>= fun _=>updateSeq S (·.pop)) _ _ _;refine wpAny_bind (wpAny_updateSeq hS rfl ?_);have hS₂:=Heap.get?_update_self (Obj.mapSeq (·.push Value.none)) hS rfl;refine wpAny_updateSeq (hz:=by seq_fits) hS₂ rfl ?_;have hS₃:=Heap.get?_update_self (Obj.mapSeq (·.pop)) hS₂ rfl;refine wpAny_pure ⟨plainId_quiet F.plain_extend_loop _,key _ _ (fun b o hb e=>?_) hS₃⟩;exact (Heap.get?_update_other _ _ (Ne.symm hb)).trans ((Heap.get?_update_other _ _ (Ne.symm hb)).trans e)
theorem q06z(hh:A.handled=none)(D:ZipApart zz ti ot j1 j2 a1 a2)(B:Below zz ti ot j1 j2 a1 a2 S)(hn:xs.size≤sizeLine)
  (Z:IsZip s.heap zz ti ot .none) (To:∃c d,IsPair s.heap ot c d) (Ti:IsPair s.heap ti (.ref j1) (.ref j2)) (g1:Ik k1 s.heap j1 a1 0) (g2:Ik k2 s.heap j2 a2 0) (s1:Sk k1 s.heap a1 xs) (s2:Sk k2 s.heap a2 ys) (hS:s.heap.get? S=some { cls:=.type "list",data:=.seq #[]})
  (hR:∀h' acc c as,(∀b o,b≠S->b≠zz->b≠ot->b≠j1->b≠j2->s.heap.get? b=some o->h'.get? b=some o)->h'.get? S=some { cls:=.type "list",dict:=none,data:=.seq acc c,slots:=#[]}->as.length=min xs.size ys.size->ZG xs ys S h' as ->
   acc.toList=as.map Value.ref->R (.ok (.ret .none)) { s with heap:=h' }):
  wpAny (model P w) A.in1 (Builtin.«list.__init__» ⟨[.ref S,.ref zz],[]⟩)
   (fun fin s'=>match fin with | .done f=>R (.ok f) s' | .again c'=>c'.quiet=true/\codeAny (model P w) A c' R s') (fun e s'=>R (.error e) s') s:=by
 show wpAny _ _ (do let old ←Builtin.List.listItems (.ref S);Builtin.List.listUpdate (.ref S) (fun _=>#[]);letGo old.toList.reverse;Builtin.List.listExtendWith (.ref S) (.ref zz) .none) _ _ s
 refine wpAny_bind ?_;unfold Builtin.List.listItems;refine wpAny_bind (wpAny_seqItems hS rfl (wpAny_pure ?_));show wpAny _ _ (updateSeq S (fun _=>#[]) >>= fun _=>letGo (#[]:Array Value).toList.reverse >>= fun _=>Builtin.List.listExtendWith (.ref S) (.ref zz) .none) _ _ s;refine wpAny_bind (wpAny_updateSeq hS rfl ?_);have hS₂:=Heap.get?_update_self (Obj.mapSeq (fun _=>(#[]:Array Value))) hS rfl;have oth:∀b o,b≠S->s.heap.get? b=some o->(s.heap.update S (Obj.mapSeq (fun _=>(#[]:Array Value)))).get? b=some o:=
  fun b o hb e=>(Heap.get?_update_other _ _ (Ne.symm hb)).trans e
 refine wpAny_bind (wpAny_letGo ?_);obtain⟨c,d,To⟩:=To;exact q05z hh D B hn .none _ (oth _ _ (Nat.ne_of_lt B.z) Z) ⟨c,d,oth _ _ (Nat.ne_of_lt B.o) To⟩ (oth _ _ (Nat.ne_of_lt B.t) Ti) (g1.of fun o e=>oth _ _ (Nat.ne_of_lt B.i1) e) (g2.of fun o e=>oth _ _ (Nat.ne_of_lt B.i2) e) (s1.of fun o e=>oth _ _ (Nat.ne_of_lt B.l1) e) (s2.of fun o e=>oth _ _ (Nat.ne_of_lt B.l2) e) hS₂
  fun h' acc c as hk hS' hl hG hacc=>hR h' acc c as (fun b o c0 c1 c2 c3 c4 e=>hk b o c0 c1 c2 c3 c4 (oth b o c0 e)) hS' hl hG hacc
theorem q07z{Q:Value->Shared->Prop}(hh:A.handled=none)(D:ZipApart zz ti ot j1 j2 a1 a2)(hn:xs.size≤sizeLine)
  (Z:IsZip s.heap zz ti ot .none) (To:∃c d,IsPair s.heap ot c d) (Ti:IsPair s.heap ti (.ref j1) (.ref j2)) (g1:Ik k1 s.heap j1 a1 0) (g2:Ik k2 s.heap j2 a2 0) (s1:Sk k1 s.heap a1 xs) (s2:Sk k2 s.heap a2 ys)
  (hQ:∀h' acc c as,(∀b o,b≠zz->b≠ot->b≠j1->b≠j2->s.heap.get? b=some o->h'.get? b=some o)->h'.get? s.heap.objs.size=some { cls:=.type "list",dict:=none,data:=.seq acc c,slots:=#[]}->as.length=min xs.size ys.size->ZG xs ys s.heap.objs.size h' as ->
   acc.toList=as.map Value.ref->Q (.ref s.heap.objs.size) { s with heap:=h' }):
  wpAny (model P w) A (call (.type "list") [.ref zz]) Q E s:=by
 refine callType_codes (Q₁:=fun obj s₁=>obj=.ref s.heap.objs.size/\s₁={ s with heap:=s.heap.push { cls:=.type "list",data:=.seq #[]}}) F.called_list (F.typeCall_list_1 _) F.entry_list_init
  (code_list_new _ ⟨rfl,rfl⟩) fun obj s₁ h₁=>?_
 obtain⟨rfl,rfl⟩:=h₁;have hS:(s.heap.push { cls:=.type "list",data:=.seq #[]}).get? s.heap.objs.size=some { cls:=.type "list",data:=.seq #[]}:=Heap.get?_push_size _ rfl;have up:∀b o,s.heap.get? b=some o->(s.heap.push { cls:=.type "list",data:=.seq #[]}).get? b=some o:=fun b o e=>Heap.get?_push_of_some _ e;obtain⟨c,d,To⟩:=To;have hlt:∀{k:Bool} {a:Addr} {vs:Array Value},Sk k s.heap a vs->a<s.heap.objs.size:=fun {k a vs} h=>by cases k<;>(obtain⟨o,e,_⟩:=h;exact Heap.lt_size e)
 have hli:∀{k:Bool} {j a:Addr} {i:Nat},Ik k s.heap j a i->j<s.heap.objs.size:=fun {k j a i} h=>by cases k<;>(obtain⟨o,e,_⟩:=h;exact Heap.lt_size e)
 refine⟨⟨_,hS,rfl⟩,F.args_list_init_2 _ _,q06z (A:=A.in1) hh D ⟨Heap.lt_size Z,Heap.lt_size Ti,Heap.lt_size To,hli g1,hli g2,hlt s1,hlt s2⟩ hn (up _ _ Z) ⟨c,d,up _ _ To⟩ (up _ _ Ti) (g1.of fun o e=>up _ _ e) (g2.of fun o e=>up _ _ e) (s1.of fun o e=>up _ _ e) (s2.of fun o e=>up _ _ e) hS fun h' acc c as hk hS' hl hG hacc=>?_⟩;exact⟨rfl,hQ h' acc c as (fun b o c1 c2 c3 c4 e=>hk b o (Nat.ne_of_lt (Heap.lt_size e)) c1 c2 c3 c4 (up _ _ e)) hS' hl hG hacc⟩
end
def lays:Hp->List Addr->List (V×V)->Hp
 |H,a::as,p::ps=>lays (upd H a (.tup [p.1,p.2])) as ps
 |H,_,_=>H
theorem qm8z{H:Hp}{ps:List (V×V)}:lays H [] ps=H:=by cases ps<;>rfl
theorem qcuz{b:Addr}:∀{as:List Addr} {ps:List (V×V)} {H:Hp},b∉as->lays H as ps b=H b
 |[],_,_,_=>by rw[qm8z]
 |a::as,[],_,_=>rfl
 |a::as,p::ps,H,h=>by
  simp only[List.mem_cons,not_or] at h;obtain⟨h1,h2⟩:=h;show lays (upd H a _) as ps b=_;rw[qcuz h2,qlz h1]
theorem qm9z:∀{as:List Addr} {ps:List (V×V)} {H:Hp} {j:Nat} {a:Addr} {p:V×V},as.Nodup->as[j]?=some a->ps[j]?=some p->lays H as ps a=some (.tup [p.1,p.2])
 |[],_,_,_,_,_,_,h,_=>by simp at h
 |b::as,[],_,_,_,_,_,_,h=>by simp at h
 |b::as,q::ps,H,0,a,p,hd,h,h'=>by
  simp at h h';subst h h';show lays (upd H b _) as ps b=_;rw[qcuz (List.nodup_cons.mp hd).1,qvz]
 |b::as,q::ps,H,j+1,a,p,hd,h,h'=>by
  show lays (upd H b _) as ps a=_;exact qm9z (List.nodup_cons.mp hd).2 (by simpa using h) (by simpa using h')
section
variable {X:Cx} {pins:List (Addr×Obj)} {σ:L2.St} {H H':Hp} {s:Shared}
theorem laidAll{h':Heap}{t':Nat}{fp:List Addr}(I:L2.Inv X pins σ H s)(k:∀b o,b∉fp->s.heap.get? b=some o->h'.get? b=some o)(hf:∀b∈fp,FpOk X pins H b)(hold:∀b,b<s.heap.objs.size->H' b=H b)
  (new:∀a o,s.heap.objs.size≤a->H' a=some o->ObjOk X.prog X.w H' h' a o):L2.Inv X pins σ H' { s with heap:=h',toks:=t' }:=by
 have nit:∀b u,H b=some u->b∉fp:=fun b u e z=>by rw[(hf b z).1] at e;cases e
 have kp:∀b u,H b=some u->H' b=some u:=fun b u e=>by rw[hold b (I.hok.lt e)];exact e
 refine I.step (g':=s.gens) (d':=s.drawn) (ch:=fp) (fun b hb=>?_) (fun b o _ _ hc e _=>k b o hc e) (fun b o _ _ hc e _=>⟨o.slots,k b o hc e⟩) (fun b o _ e n=>by rw[hold b (Heap.lt_size e)];exact n) (fun b o hc e=>⟨o,k b o hc e⟩) (fun _ _ e=>kp _ _ e) (fun _ _ _ e=>kp _ _ e) (fun b ps e=>⟨#[],by rw[kp _ _ e];simp⟩) (fun m hm=>?_) (fun b u e=>?_) I.bare
 ·obtain⟨f0,f1,f2,f3,f4,f5⟩:=hf b hb;exact⟨f3,f1,f4,f5⟩
 ·obtain⟨o,es,ep,ho,r⟩:=hm;exact⟨o,es,ep,k _ o (fun z=>(hf _ z).2.1 rfl) ho,r⟩
 ·rcases Nat.lt_or_ge b s.heap.objs.size with hb|hb
  ·rw[hold b hb] at e;refine (I.hok b u e).stay (fun c v hc q=>k c v ?_ q) (fun _ q=>kp _ _ q) fun _ _ q=>kp _ _ q;rcases hc with z|z
   ·rw[z];exact nit b u e
   ·exact nit c _ z
  ·exact new b u hb e
end
section
variable {X:Cx} {a b:Expr} {ta:TA} {p p2 pos pos2:Pos}
def jLZ(K:PySem.W.Frag)(ta:TA):TE:=fun σ H Q=>ta σ H fun vs H1=>∃k1 k2 a1 a2 xs ys,vs=[.ref a1,.ref a2]/\SqK K k1 H1 a1 xs/\SqK K k2 H1 a2 ys/\xs.length≤1000 ∧
 ∀as S,as.length=min xs.length ys.length->as.Nodup->(∀c∈as,H1 c=none)->H1 S=none->S∉as->Q (.ref S) (upd (lays H1 as (xs.zip ys)) S (.lst (as.map V.ref)))
theorem q08z(hc:X.calm=true)(hg:Gl X "zip")(hm:X.mg "zip" = none)(hgl:Gl X "list")(hml:X.mg "list" = none)(ha:PA X [a,b] ta)(hs:starEach [a,b] X.env=[(false,eval a X.env),(false,eval b X.env)])(hs2:starEach [b] X.env=[(false,eval b X.env)]):
  PE X (.Call (.Name "list" p) [.Call (.Name "zip" p2) [a,b] [] pos2] [] pos) (jLZ X.K ta):=by
 intro pins s σ H Q I h;refine wpAny_Call_Name_kw (qa0z I hgl hml boot_list ?_);refine PyProof.Rows.callWith_type1 ?_ rfl rfl;show wpAny _ _ (spliced ((false,eval (.Call (.Name "zip" p2) [a,b] [] pos2) X.env)::backTo pos [])) _ _ s;refine Calls.spliced_cons ?_;refine Call_ (qa0z I hg hm boot_zip (PyProof.Rows.callWith_type1 (thn (ha pos2 pins s σ H _ I h) fun us s1 ⟨vs,H1,I1,r1,q1⟩=>?_) (by rw[hs,hs2]) (by rw[hs2];rfl)));obtain⟨k1,k2,a1,a2,xs,ys,e,q1,q2,hx,q⟩:=q1;subst e;cases r1 with
 |cons r rr=>
  cases rr with
  |cons r' rr=>
   cases rr;cases r;cases r';obtain⟨its1,rv1,p1⟩:=q1.heap I1;obtain⟨its2,rv2,p2⟩:=q2.heap I1;refine qk7z p1 p2 ?_;obtain⟨z1,z2,z3,z4,z5,z6,z7⟩:=qgoz (k1:=k1) (k2:=k2) (h:=s1.heap) (a1:=a1) (a2:=a2);refine Calls.spliced_nil ?_;have I2:L2.Inv X pins σ H1 { s1 with heap:=zw5 k1 k2 s1.heap a1 a2 }:=I1.kept (t':=s1.toks) z7
   have hb:∀c∈[s1.heap.objs.size+4,s1.heap.objs.size+2,s1.heap.objs.size+3,s1.heap.objs.size,s1.heap.objs.size+1],FpOk X pins H1 c:=fun c hc=>by
    have hb:s1.heap.objs.size≤c:=by
     simp only[List.mem_cons,List.not_mem_nil,or_false] at hc;rcases hc with rfl|rfl|rfl|rfl|rfl
     ·exact Nat.le_add_right _ _
     ·exact Nat.le_add_right _ _
     ·exact Nat.le_add_right _ _
     ·exact Nat.le_refl _
     ·exact Nat.le_add_right _ _
    exact I1.fpOk hb (I1.hok.fresh hb)
   have D:=zap (zz:=s1.heap.objs.size+4) (ti:=s1.heap.objs.size+2) (ot:=s1.heap.objs.size+3) (j1:=s1.heap.objs.size) (j2:=s1.heap.objs.size+1) (a1:=a1) (a2:=a2) (by simp) (fun c hc=>q1.apart I1 (hb c hc)) (fun c hc=>q2.apart I1 (hb c hc));have l1:=rv1.length;have l2:=rv2.length;refine q07z (s:={ s1 with heap:=zw5 k1 k2 s1.heap a1 a2 }) (xs:=its1.toArray) (ys:=its2.toArray) (I2.ok.hd hc) D (by show its1.toArray.size≤sizeLine;rw[List.size_toArray,←l1];exact Nat.le_trans hx (by decide)) z1 ⟨_,_,z3⟩ z2 z4 z5 (p1.of fun o e=>z7 _ _ e) (p2.of fun o e=>z7 _ _ e) fun h' acc c as kp eS hl hG hacc=>?_;have hl':as.length=min xs.length ys.length:=by rw[hl,List.size_toArray,List.size_toArray,l1,l2]
   have nd:as.Nodup:=hG.rise.imp fun h=>Nat.ne_of_lt h;have fr:∀c∈as,H1 c=none:=fun c hc=>I2.hok.fresh (Nat.le_of_lt (hG.above c hc));have fS:H1 (zw5 k1 k2 s1.heap a1 a2).objs.size=none:=I2.hok.fresh (Nat.le_refl _);have nS:(zw5 k1 k2 s1.heap a1 a2).objs.size∉as:=fun hm=>Nat.lt_irrefl _ (hG.above _ hm);refine⟨.ref (zw5 k1 k2 s1.heap a1 a2).objs.size,_,laidAll (s:={ s1 with heap:=zw5 k1 k2 s1.heap a1 a2 }) (t':=s1.toks) (h':=h') I2 (fun b o hb e=>?_) hb (fun b hb=>?_) (fun a o hle e=>?_),rfl,q as _ hl' nd fr fS nS⟩
   ·simp only[List.mem_cons,List.not_mem_nil,or_false,not_or] at hb;exact kp b o hb.1 hb.2.2.1 hb.2.2.2.1 hb.2.2.2.2 e
   ·rw[qlz (Nat.ne_of_lt hb),qcuz fun hm=>Nat.lt_asymm hb (hG.above b hm)]
   ·by_cases ea:a=(zw5 k1 k2 s1.heap a1 a2).objs.size
    ·subst ea;rw[qvz] at e;cases e;refine⟨by rw[List.length_map,hl'];exact Nat.le_trans (Nat.le_trans (Nat.min_le_left _ _) hx) (by decide),as.map Value.ref,c,?_,?_⟩
     ·clear hG hacc hl hl' nd fr nS
      induction as with
      |nil=>exact .nil
      |cons x as ih=>exact .cons rfl ih
     ·rw[eS,←hacc]
    ·rw[qlz ea] at e;by_cases hm:a∈as
     ·obtain⟨j,hj⟩:=List.mem_iff_getElem?.mp hm;obtain⟨u,v,e1,e2,e3⟩:=hG.pairs j a hj;have hj':j<min xs.length ys.length:=by
       rw[←hl'];exact (List.getElem?_eq_some_iff.mp hj).1
      have x1:xs[j]?=some xs[j]:=List.getElem?_eq_getElem (by omega);have y1:ys[j]?=some ys[j]:=List.getElem?_eq_getElem (by omega);rw[qm9z nd hj (p:=(xs[j],ys[j])) (List.getElem?_zip_eq_some.mpr ⟨x1,y1⟩)] at e;cases e;obtain⟨u',hu,ru⟩:=rv1.get x1;obtain⟨v',hv,rv⟩:=rv2.get y1;have eu:u'=u:=by
       have:its1[j]?=some u:=by simpa using e1
       rw[this] at hu;exact (Option.some.inj hu).symm
      have ev:v'=v:=by
       have:its2[j]?=some v:=by simpa using e2
       rw[this] at hv;exact (Option.some.inj hv).symm
      subst eu ev;exact⟨by show 2≤sizeLine;decide,[u',v'],.cons ru (.cons rv .nil),⟨_,e3,rfl,_,rfl⟩⟩
     ·rw[qcuz hm,I2.hok.fresh hle] at e;cases e
end
section
variable {K:PySem.W.Frag}
theorem qhdz{G:Gp}:∀{as:List Addr} {ps:List (V×V)} {H:Hp},as.Nodup->(∀c∈as,H c=none)->RepG K G H->Step H G (lays H as ps) G/\RepG K G (lays H as ps)
 |[],ps,H,_,_,R=>by rw[qm8z];exact⟨.refl H G,R⟩
 |a::as,[],H,_,_,R=>⟨.refl H G,R⟩
 |a::as,p::ps,H,hd,hf,R=>by
  have h0:=hf a List.mem_cons_self;obtain⟨n1,n2⟩:=List.nodup_cons.mp hd;obtain⟨S1,R1⟩:=qhdz (G:=G) (as:=as) (ps:=ps) (H:=upd H a (.tup [p.1,p.2])) n2 (fun c hc=>by rw[qlz (show c≠a from fun z=>n1 (z▸hc))];exact hf c (List.mem_cons_of_mem _ hc)) (R.laid h0);exact⟨(Step.laid h0).trans S1,R1⟩
theorem qnaz{G:Gp}:∀{as:List Addr} {xs ys:List D} {vs ws:List V} {H:Hp},as.length=min xs.length ys.length->as.Nodup->(∀c∈as,H c=none)->RepG K G H->Hvs K H xs vs->Hvs K H ys ws->Hvs K (lays H as (vs.zip ws)) (zipD xs ys) (as.map V.ref)
 |[],xs,ys,vs,ws,H,hl,_,_,_,h1,h2=>by
  have:zipD xs ys=[]:=by
   unfold zipD;apply List.eq_nil_of_length_eq_zero;rw[List.length_zipWith];simp at hl;omega
  rw[this];exact .nil
 |a::as,[],ys,vs,ws,H,hl,_,_,_,_,_=>by simp at hl
 |a::as,x::xs,[],vs,ws,H,hl,_,_,_,_,_=>by simp at hl
 |a::as,x::xs,y::ys,vs,ws,H,hl,hd,hf,R,h1,h2=>by
  obtain⟨v,vs',rfl,z1,z2⟩:=h1.inv;obtain⟨w,ws',rfl,z3,z4⟩:=h2.inv;have h0:=hf a List.mem_cons_self;obtain⟨n1,n2⟩:=List.nodup_cons.mp hd;have hf':∀c∈as,upd H a (.tup [v,w]) c=none:=fun c hc=>by rw[qlz (show c≠a from fun z=>n1 (z▸hc))];exact hf c (List.mem_cons_of_mem _ hc)
  have R':=R.laid (o:=.tup [v,w]) h0;have E1:Ext H (upd H a (.tup [v,w])):=.laid h0;obtain⟨S1,_⟩:=qhdz (K:=K) (G:=G) (as:=as) (ps:=vs'.zip ws') n2 hf' R';have E2:Ext (upd H a (.tup [v,w])) (lays (upd H a (.tup [v,w])) as (vs'.zip ws')):=S1.ext R';show Hvs K (lays (upd H a (.tup [v,w])) as (vs'.zip ws')) (D.tup [x,y]::zipD xs ys) (V.ref a::as.map V.ref);refine .cons ?_ (qnaz (G:=G) (by simp at hl;omega) n2 hf' R' (z2.ext E1) (z4.ext E1));unfold Hv;exact⟨a,[v,w],rfl,.of (by rw[qcuz n1];exact qvz),.cons ((z1.ext E1).ext E2) (.cons ((z3.ext E1).ext E2) .nil)⟩
end
section
variable {X:Cx} {a b:Expr} {ta:TA3} {p p2 pos pos2:Pos}
def eLZ(ta:TA3):TE3:=fun τ G Q=>ta τ G fun ds G1=>match ds with
 |[x,y]=>∃xs ys,seqD G1 x xs/\seqD G1 y ys/\xs.length≤1000/\∀p G2,New G1 p (.lst (zipD xs ys)) G2->Q (.obj p) G2
 |_=>False
theorem q09z(hc:X.calm=true)(hm:X.mg "zip" = none)(hml:X.mg "list" = none)(ha:PA3 X [a,b] ta)(hg:Gl X "zip":=by rfl)(hgl:Gl X "list":=by rfl)(hs:notStar a=true:=by rfl)(hs2:notStar b=true:=by rfl):
  PE3 X (.Call (.Name "list" p) [.Call (.Name "zip" p2) [a,b] [] pos2] [] pos) (eLZ ta):=
 q0z (q08z hc hg hm hgl hml ha (by rw[qpz hs,qpz hs2];rfl) (qpz hs2)) fun σ H Q ⟨τ,G,Q3,RS,RG,h,k⟩=>⟨τ,G,_,RS,RG,h,fun vs H1 ds G1 h1 S1 R1 q1=>by
  rcases ds with _|⟨d,_|⟨d2,_|⟨d3,ds⟩⟩⟩
  ·exact q1.elim
  ·exact q1.elim
  ·obtain⟨xs,ys,s1,s2,hl,q⟩:=q1;obtain⟨v,r,rfl,z1,z2⟩:=h1.inv;obtain⟨v',r',rfl,z3,z4⟩:=z2.inv;cases z4.inv0;obtain⟨k1,f1⟩:=qdaz z1;obtain⟨k2,f2⟩:=qdaz z3;obtain⟨a1,vs1,rfl,y1,w1⟩:=f1 _ _ _ (Ext.refl _) R1 s1;obtain⟨a2,vs2,rfl,y2,w2⟩:=f2 _ _ _ (Ext.refl _) R1 s2;have e1:=w1.length;have e2:=w2.length;refine⟨k1,k2,a1,a2,vs1,vs2,rfl,y1,y2,by rw[←e1];exact hl,fun as S hl' nd fr fS nS=>?_⟩;obtain⟨S2,R2⟩:=qhdz (K:=X.K) (G:=G1) (ps:=vs1.zip vs2) nd fr R1;have hS:lays H1 as (vs1.zip vs2) S=none:=by rw[qcuz nS];exact fS
   exact k _ _ (.obj S) _ qbaz ((S1.trans S2).trans (.laidG hS)) (R2.newL hS (qnaz (by rw[hl',e1,e2]) nd fr R1 w1 w2)) (q S _ (.mk' (R2.free hS)))
  ·exact q1.elim⟩
end
end L3
namespace L3
open PySem PySem.Spec PyProof.Rows L2
section
variable {X:Cx} {a b:Expr} {ta:TA3} {p p2 pos pos2:Pos}
theorem q1az(hc:X.calm=true)(hm:X.mg "zip" = none)(hml:X.mg "list" = none)(ha:QA X [a,b] ta)(hg:Gl X "zip":=by rfl)(hgl:Gl X "list":=by rfl)(hs:notStar a=true:=by rfl)(hs2:notStar b=true:=by rfl):
  QE X (.Call (.Name "list" p) [.Call (.Name "zip" p2) [a,b] [] pos2] [] pos) (eLZ ta):=⟨q09z hc hm hml ha.of hg hgl hs hs2⟩
end
end L3
namespace My
open PySem L2 L3
def covB(ns is:List Int):Bool:=(nmO (setC ns (is.map some))).isNone
def manyF(ns:List Int):Nat->List Int->Nat
 |0,is=>if covB ns is then 1 else 0
 |k+1,is=>((List.range ((ns[is.length]?.getD 0).toNat)).map fun r:Nat=>manyF ns k (is++[(r:Int)])).sum
def grow(acc:List (List Int))(n:Int):List (List Int):=acc.flatMap fun is=>(List.range n.toNat).map fun r:Nat=>is++[(r:Int)]
def allR(ns:List Int):List (List Int):=ns.foldl grow [[]]
theorem qdzz(is:List Int)(n:Int):grow [is] n=(List.range n.toNat).map fun r:Nat=>is++[(r:Int)]:=by
 unfold grow;rw[List.flatMap_cons,List.flatMap_nil,List.append_nil]
theorem qcvz:∀(ms:List Int) (acc:List (List Int)),ms.foldl grow acc=acc.flatMap fun is=>ms.foldl grow [is]
 |[],acc=>by
  show acc=acc.flatMap fun is=>[is]
  induction acc with
  |nil=>rfl
  |cons a acc ih=>rw[List.flatMap_cons,←ih];rfl
 |n::ms,acc=>by
  show ms.foldl grow (grow acc n)=acc.flatMap fun is=>ms.foldl grow (grow [is] n);rw[qcvz ms (grow acc n)];show ((acc.flatMap fun is=>(List.range n.toNat).map fun r:Nat=>is++[(r:Int)]).flatMap fun is=>ms.foldl grow [is])=_;rw[List.flatMap_assoc];congr 1;funext is;rw[qcvz ms (grow [is] n),qdzz]
theorem qnbz(ns:List Int):∀(ms is:List Int),(∀j,ms[j]?=ns[is.length+j]?)->manyF ns ms.length is=((ms.foldl grow [is]).filter (covB ns)).length
 |[],is,_=>by
  show (if covB ns is then 1 else 0)=([is].filter (covB ns)).length;rw[List.filter_cons];split<;>rfl
 |n::ms,is,h=>by
  have h0:ns[is.length]?=some n:=by
   have:=h 0;rw[Nat.add_zero] at this;rw[←this];rfl
  show ((List.range ((ns[is.length]?.getD 0).toNat)).map fun r:Nat=>manyF ns ms.length (is++[(r:Int)])).sum=((ms.foldl grow (grow [is] n)).filter (covB ns)).length;rw[h0,qcvz,qdzz,List.filter_flatMap,List.length_flatMap,List.map_map];show ((List.range n.toNat).map _).sum=_;congr 1;refine List.map_congr_left fun r _=>?_;show manyF ns ms.length (is++[(r:Int)])=((ms.foldl grow [is++[(r:Int)]]).filter (covB ns)).length;refine qnbz ns ms _ fun j=>?_;have:=h (j+1);rw[List.length_append,List.length_singleton,show is.length+1+j=is.length+(j+1) by lia,←this];rfl
theorem qhez(ns:List Int):manyF ns ns.length []=((allR ns).filter (covB ns)).length:=qnbz ns ns [] fun j=>by rw[List.length_nil,Nat.zero_add]
theorem q1bz(js:List Nat):((js.map fun j:Nat=>(j:Int)).sum:Int)=((js.sum:Nat):Int):=by
 induction js with
 |nil=>rfl
 |cons j js ih=>rw[List.map_cons,List.sum_cons,List.sum_cons,ih];lia
def qbyz(n:Nat):Sp3:=fun ds G Q=>∃(q:Addr) (ns is:List Int),ds=[stD ns,.obj q]/\G q=some (.lst (is.map D.int))/\St ns/\is.length≤ns.length/\ns.length-is.length<n/\∀G',Sub G G'->Q (nD (manyF ns (ns.length-is.length) is)) G'
theorem q1cz:∀ds G Q,¬qbyz 0 ds G Q:=by
 rintro ds G Q ⟨_,_,_,_,_,_,_,h,_⟩;lia
def q1dz(n:Nat):TS3:=sRet (eCB qc9z (aCons (eComp ["rest"] [0,1] (iRng1 (aCons (eOp rIx3 (eVar 0) (eCB qsz (aCons (eVar 1) (aNil)))) (aNil))) (hName 0) (tNoTest3) (eCall (qbyz n) (aCons (eVar 1) (aCons (eOp rAdd3 (eVar 2) (eLst (aCons (eVar 0) (aNil)))) (aNil))))) (aNil)))
def qncz(n:Nat):TS3:=sSeq (sIf (eTest (eOp (rEq3 false) (eCB qsz (aCons (eVar 1) (aNil))) (eCB qsz (aCons (eVar 0) (aNil))))) (sRet (eIf (eTest (eCall qctz (aCons (eVar 0) (aCons (eVar 1) (aNil))))) (eC (.int 1)) (eC (.int 0)))) (sNext)) (q1dz n)
theorem q1ez(n:Nat):∀ds G Q,qbyz (n+1) ds G Q->qncz n (endsOf Q) (start3 ["steps","rests"] ds) G:=by
 rintro ds G Q ⟨q,ns,is,rfl,hq,hs,hle,hn,k⟩;have h6:=hs.l6;have hp:∀n∈ns,0<n:=fun n hm=>by have:=hs.st n hm;lia
 refine⟨_,hq,_,_,rfl,rfl,Nat.zero_le _,fun h=>?_,fun h=>?_⟩
 ·have h':((((is.map D.int).length:Nat):Int)==(((ns.map D.int).length:Nat):Int))=true:=h;rw[List.length_map,List.length_map] at h';have he:=eq_of_beq h';have e0:ns.length-is.length=0:=by lia
  rw[e0] at k;refine⟨.obj q,ns,is.map some,rfl,by show G q=_;rw[hq,List.map_map];rfl,hp,h6,fun hb=>qhz ?_,fun hb=>qhz ?_⟩
  ·have hb:covB ns is=true:=hb;have:=k G (Sub.refl _);unfold manyF at this;rw[hb] at this;exact this
  ·have hb:covB ns is=false:=hb;have:=k G (Sub.refl _);unfold manyF at this;rw[hb] at this;exact this
 ·have h':((((is.map D.int).length:Nat):Int)==(((ns.map D.int).length:Nat):Int))=false:=h;rw[List.length_map,List.length_map] at h';have hne:=ne_of_beq_false h';have hlt:is.length<ns.length:=by lia
  have en:ns[is.length]?=some ns[is.length]:=List.getElem?_eq_getElem hlt;have hn2:=hs.st ns[is.length] (List.getElem_mem hlt);generalize ns[is.length]=m at en hn2;obtain⟨l,hl⟩:∃l,ns.length-is.length=l+1:=⟨ns.length-is.length-1,by lia⟩;rw[hl] at k;refine⟨_,hq,.int m,?_,⟨by lia,by lia⟩,?_,?_⟩
  ·show atI (ns.map D.int) (((is.map D.int).length:Nat):Int)=_;exact qbpz (by rw[List.length_map,List.getElem?_map,en];rfl)
  ·show (rngL 0 m.toNat).length≤sizeLine;rw[qbqz];exact line1000 (by lia)
  show compGo _ _ _ _ _ (rngL 0 m.toNat) _ _ _;rw[rng0];refine qclz (fun ds acc τ G'=>Sub G G'/\(∃xs ys:List Nat,ys++xs=List.range m.toNat/\ds=xs.map nD/\acc=(ys.map fun r:Nat=>((manyF ns l (is++[(r:Int)]):Nat):Int)).map D.int)/\∃x,τ=[x,some (stD ns),some (.obj q)]) (fun _ _ _ _ _=>trivial) ?_ ?_ _ _ _ _ ⟨Sub.refl _,⟨_,[],rfl,rfl,rfl⟩,none,rfl⟩
  ·rintro d ds acc τ G1 K1 K2 ⟨s1,⟨xs,ys,hxy,e,rfl⟩,x,rfl⟩ g1 g2;cases xs with
   |nil=>cases e
   |cons y xs=>
    cases e;refine⟨fun _ p5 G5 n5=>⟨_,_,n5.sub _ _ (s1 _ _ hq),n5.at_,?_,fun p6 G6 n6=>⟨p6,ns,is++[(y:Int)],rfl,?_,hs,by rw[List.length_append,List.length_singleton];lia,by rw[List.length_append,List.length_singleton];lia,fun G7 s7=>?_⟩⟩,nofun⟩
    ·rw[List.length_map];exact line1000 (by simp;lia)
    ·rw[n6.at_,List.map_append];rfl
    ·rw[List.length_append,List.length_singleton,show ns.length-(is.length+1)=l by lia];exact g1 _ _ _ ⟨((s1.trans n5.sub).trans n6.sub).trans s7,⟨xs,ys++[y],by rw[List.append_assoc];exact hxy,rfl,by rw[List.map_append,List.map_append];rfl⟩,_,rfl⟩
  ·rintro acc τ G1 ⟨s1,⟨xs,ys,hxy,e,rfl⟩,x,rfl⟩ p2 G2 n2;refine⟨_,_,n2.at_,qg3z _,qhz ?_⟩;have hx:xs=[]:=by
    cases xs with
    |nil=>rfl
    |cons _ _=>cases e
   subst hx;rw[List.append_nil] at hxy;have:=k _ (s1.trans n2.sub);unfold manyF at this;rw[en,Option.getD_some,←hxy] at this;have e2:(ys.map fun r:Nat=>((manyF ns l (is++[(r:Int)]):Nat):Int)).sum=(((ys.map fun r:Nat=>manyF ns l (is++[(r:Int)])).sum:Nat):Int):=by rw[←q1bz,List.map_map];rfl
   rw[e2];exact this
def prodS(ns:List Int):Int:=ns.foldl (· * ·) 1
theorem qfaz:∀{ns:List Int} {a:Int},(∀n∈ns,2≤n/\n≤24)->1≤a->a≤ns.foldl (· * ·) a
 |[],a,_,h=>Int.le_refl _
 |n::ns,a,hn,h=>by
  have h2:=hn n List.mem_cons_self;have h3:a*1≤a*n:=Int.mul_le_mul_of_nonneg_left (by lia) (by lia);have:=qfaz (ns:=ns) (a:=a*n) (fun m hm=>hn m (List.mem_cons_of_mem _ hm)) (by lia);show a≤ns.foldl (· * ·) (a*n);lia
theorem qndz:∀{ns:List Int} {a:Int},(∀n∈ns,2≤n/\n≤24)->1≤a->ns.foldl (· * ·) a≤a*24^ns.length
 |[],a,_,h=>by show a≤a*24^0;lia
 |n::ns,a,hn,h=>by
  have h2:=hn n List.mem_cons_self;have h3:a*1≤a*n:=Int.mul_le_mul_of_nonneg_left (by lia) (by lia);have h4:a*n≤a*24:=Int.mul_le_mul_of_nonneg_left (by lia) (by lia);have h5:=qndz (ns:=ns) (a:=a*n) (fun m hm=>hn m (List.mem_cons_of_mem _ hm)) (by lia);have h6:(0:Int)≤24^ns.length:=Int.pow_nonneg (by decide);have h7:a*n*24^ns.length≤a*24*24^ns.length:=Int.mul_le_mul_of_nonneg_right h4 h6;show ns.foldl (· * ·) (a*n)≤a*24^(ns.length+1);rw[Int.pow_succ,show a*(24^ns.length*24)=a*24*24^ns.length by grind];lia
theorem St.prod{ns:List Int}(h:St ns):1≤prodS ns/\prodS ns≤24^6:=by
 refine⟨qfaz h.st (by decide),Int.le_trans (qndz h.st (by decide)) ?_⟩;have:(24:Int)^ns.length≤24^6:=by
  have h6:=h.l6;generalize ns.length=l at h6
  match l,h6 with
  |0,_=>decide
  |1,_=>decide
  |2,_=>decide
  |3,_=>decide
  |4,_=>decide
  |5,_=>decide
  |6,_=>decide
  |l+7,h=>lia
 lia
theorem St.stB{ns:List Int}(h:St ns):My.stB (stD ns)=true:=by
 have h1:=h.l1;have h6:=h.l6;have hl:(ns.map D.int).length=ns.length:=List.length_map _;show (decide (1≤(ns.map D.int).length)&&decide ((ns.map D.int).length≤6)&&(ns.map D.int).all okS)=true;rw[hl,Bool.and_eq_true,Bool.and_eq_true];refine⟨⟨decide_eq_true h1,decide_eq_true h6⟩,List.all_eq_true.mpr fun d hd=>?_⟩;obtain⟨n,hn,rfl⟩:=List.mem_map.mp hd;have:=h.st n hn;show (decide (2≤n)&&decide (n≤24))=true;rw[Bool.and_eq_true];exact⟨decide_eq_true this.1,decide_eq_true this.2⟩
theorem St.kn{ns:List Int}(h:St ns):KnS (stD ns):=⟨trivial,fun xs e x hx=>by
 cases e;obtain⟨n,_,rfl⟩:=List.mem_map.mp hx;trivial⟩
def shC(ns:List Int):List Clk:=ns.map fun n=>((n,0):Clk)
end My
namespace My
open PySem L2 L3
def xI:D->Int
 |.int i=>i
 |_=>0
def restAt(ns:List Int)(rs:List (Option Int))(x:Int)(k:Nat):List (Option Int):=rs.set k (some (x%ns.getD k 1))
mutual
def casesB(ns:List Int)(rs:List (Option Int)):D->Bool
 |.tup [x,y]=>missD (setC ns rs) x&&papsB ns rs (xI x) y
 |_=>false
termination_by d=>sizeOf d
def papsB(ns:List Int)(rs:List (Option Int))(x:Int):D->Bool
 |.tup ps=>decide (ps.length=(opens rs).length)&&eachB ns rs x (opens rs) ps
 |_=>false
termination_by d=>sizeOf d
def eachB(ns:List Int)(rs:List (Option Int))(x:Int):List Nat->List D->Bool
 |k::ks,p::ps=>casesB ns (restAt ns rs x k) p&&eachB ns rs x ks ps
 |_,_=>true
termination_by _ ps=>sizeOf ps
end
theorem qhfz(ns:List Int)(rs:List (Option Int))(x:Int):∀(ks:List Nat) (ps:List D),eachB ns rs x ks ps=(ks.zip ps).all fun z=>casesB ns (restAt ns rs x z.1) z.2
 |[],ps=>by rw[eachB];rfl;nofun
 |k::ks,[]=>by rw[eachB];rfl;nofun
 |k::ks,p::ps=>by
  rw[eachB,qhfz ns rs x ks ps];rfl
structure StepsOk(ns:List Int)(rs:List (Option Int)):Prop where
 len:ns.length=rs.length
 small:rs.length≤100
 pos:∀s∈ns,0<s
theorem StepsOk.set{ns:List Int}{rs:List (Option Int)}(h:StepsOk ns rs)(x:Int)(k:Nat):StepsOk ns (restAt ns rs x k):=⟨by unfold restAt;rw[List.length_set];exact h.len,by unfold restAt;rw[List.length_set];exact h.small,h.pos⟩
theorem StepsOk.clocks{ns:List Int}{rs:List (Option Int)}(h:StepsOk ns rs):(∀c∈setC ns rs,0<c.1)/\(setC ns rs).length≤1000:=by
 have:=qg9z ns rs;have:=h.len;have:=h.small;exact⟨qhcz h.pos,by omega⟩
def qbzz(n:Nat):Sp3:=fun ds G Q=>∃(q:Addr) (ns:List Int) (rs:List (Option Int)) (d:D),ds=[stD ns,.obj q,d]/\G q=some (.lst (rs.map rD))/\KnD G d/\depD d<n/\StepsOk ns rs/\∀G',Sub G G'->Q (.bl (casesB ns rs d)) G'
def qcwz(n:Nat):Sp3:=fun ds G Q=>∃(q:Addr) (ns:List Int) (rs:List (Option Int)) (x:Int) (d:D),ds=[stD ns,.obj q,.int x,d]/\G q=some (.lst (rs.map rD))/\KnD G d/\depD d<n/\StepsOk ns rs/\∀G',Sub G G'->Q (.bl (papsB ns rs x d)) G'
theorem q1fz:∀ds G Q,¬qbzz 0 ds G Q:=by
 rintro ds G Q ⟨_,_,_,_,_,_,_,h,_⟩;exact absurd h (Nat.not_lt_zero _)
theorem q1gz:∀ds G Q,¬qcwz 0 ds G Q:=by
 rintro ds G Q ⟨_,_,_,_,_,_,_,_,h,_⟩;exact absurd h (Nat.not_lt_zero _)
def q1hz(n:Nat):TS3:=sRet (eAndV (eCall qdhz (aCons (eCall qcdz (aCons (eVar 0) (aCons (eVar 1) (aNil)))) (aCons (eOp rIx3 (eVar 2) (eC (.int 0))) (aNil)))) (eCall (qcwz n) (aCons (eVar 0) (aCons (eVar 1) (aCons (eOp rIx3 (eVar 2) (eC (.int 0))) (aCons (eOp rIx3 (eVar 2) (eC (.int 1))) (aNil)))))))
def qhgz(n:Nat):TS3:=sSeq (sIf (eOr (eNot (eTest (eInst "tuple" (eVar 2)))) (eTest (eOp (rEq3 true) (eCB qsz (aCons (eVar 2) (aNil))) (eC (.int 2))))) (sRet (eC (.bl false))) (sNext)) (q1hz n)
theorem qnez(ns:List Int)(rs:List (Option Int))(a b:D):casesB ns rs (.tup [a,b])=(missD (setC ns rs) a&&papsB ns rs (xI a) b):=by rw[casesB]
theorem q1iz(n:Nat):∀ds G Q,qbzz (n+1) ds G Q->qhgz n (endsOf Q) (start3 ["steps","rests","thing"] ds) G:=by
 rintro ds G Q ⟨q,ns,rs,d,rfl,hq,hk,hd,ok,k⟩;have not_tup:(∀ds,d≠.tup ds)->qhgz n (endsOf Q) (start3 ["steps","rests","thing"] [stD ns,.obj q,d]) G:=by
  intro hn;have e:casesB ns rs d=false:=by
   cases d with
   |tup ds=>exact absurd rfl (hn ds)
   |_=>rw[casesB];simp
  rw[e] at k;show match instD "tuple" G d with
   |some b=>_
   |none=>False
  rw[qe5z hk.known2 hn];exact⟨fun _=>⟨fun _=>qhz (k _ (Sub.refl _)),nofun⟩,nofun⟩
 cases d with
 |tup ds=>
  refine⟨nofun,fun _=>⟨_,_,rfl,rfl,Nat.zero_le _,?_⟩⟩;rcases ds with _|⟨a,_|⟨b,_|⟨c,ds⟩⟩⟩
  ·refine⟨fun _=>?_,nofun⟩;rw[show casesB ns rs (.tup [])=false by rw[casesB];simp] at k;exact qhz (k _ (Sub.refl _))
  ·refine⟨fun _=>?_,nofun⟩;rw[show casesB ns rs (.tup [a])=false by rw[casesB];simp] at k;exact qhz (k _ (Sub.refl _))
  ·rw[qnez] at k;obtain⟨c1,c2⟩:=ok.clocks;have ka:KnD G a:=hk.el (by simp);have kb:KnD G b:=hk.el (by simp);have db:depD b<n:=by
    have h1:depD b≤depDs [a,b]:=qg6z (by simp);rw[qe6z] at hd;omega
   refine⟨nofun,fun _=>⟨.obj q,ns,rs,rfl,hq,by have:=ok.len;have:=ok.small;omega,a,rfl,setC ns rs,a,rfl,ka.known,c1,c2,fun h=>?_,fun h=>?_⟩⟩
   ·have h:missD (setC ns rs) a=true:=h;rw[h,Bool.true_and] at k;cases a with
    |int x=>exact⟨_,rfl,_,rfl,q,ns,rs,x,b,rfl,hq,kb,db,ok,fun G' s=>qhz (k G' s)⟩
    |_=>cases h
   ·have h:missD (setC ns rs) a=false:=h;rw[h,Bool.false_and] at k;exact qhz (k _ (Sub.refl _))
  ·refine⟨fun _=>?_,fun h=>?_⟩
   ·rw[show casesB ns rs (.tup (a::b::c::ds))=false by rw[casesB];simp] at k;exact qhz (k _ (Sub.refl _))
   ·have h':(!(((ds.length+1+1+1:Nat):Int)==2))=false:=h;simp at h';omega
 |_=>exact not_tup nofun
def q1jz(n:Nat):TS3:=sIf (eNot (eTest (eCall (qbzz n) (aCons (eVar 0) (aCons (eCall qbwz (aCons (eVar 1) (aCons (eVar 5) (aCons (eOp rMod3 (eVar 2) (eOp rIx3 (eVar 0) (eVar 5))) (aNil))))) (aCons (eVar 6) (aNil))))))) (sRet (eC (.bl false))) (sNext)
def q1kz(n:Nat):TS3:=sRet (eC (.bl true))
def q1lz(n:Nat):TS3:=sSeq (sFor (iZip (aCons (eVar 4) (aCons (eVar 3) (aNil)))) (hTup 2 (hCons (hName 5) (hCons (hName 6) (hNil)))) ((q1jz n))) (q1kz n)
def qnfz(n:Nat):TS3:=sSeq (sIf (eOr (eNot (eTest (eInst "tuple" (eVar 3)))) (eTest (eOp (rEq3 true) (eCB qsz (aCons (eVar 3) (aNil))) (eCB qsz (aCons (eVar 4) (aNil)))))) (sRet (eC (.bl false))) (sNext)) (q1lz n)
def qngz(n:Nat):TS3:=sSeq (sAsg (eCall qcoz (aCons (eVar 1) (aNil))) (hName 4)) (qnfz n)
theorem q1mz(n:Nat):∀ds G Q,qcwz (n+1) ds G Q->qngz n (endsOf Q) (start3 ["steps","rests","number","papers","places","place","paper"] ds) G:=by
 rintro ds G Q ⟨q,ns,rs,x,d,rfl,hq,hk,hd,ok,k⟩;have hsm:=ok.small;refine⟨q,rs,rfl,hq,by omega,fun p1 G1 n1=>?_⟩;have not_tup:(∀ds,d≠.tup ds)->qnfz n (endsOf Q) [some (stD ns),some (.obj q),some (.int x),some d,some (.obj p1),none,none] G1:=by
  intro hn;have e:papsB ns rs x d=false:=by
   cases d with
   |tup ds=>exact absurd rfl (hn ds)
   |_=>rw[papsB];simp
  rw[e] at k;show match instD "tuple" G1 d with
   |some b=>_
   |none=>False
  rw[qe5z (hk.sub n1.sub).known2 hn];exact⟨fun _=>⟨fun _=>qhz (k _ n1.sub),nofun⟩,nofun⟩
 cases d with
 |tup ps=>
  have e:papsB ns rs x (.tup ps)=(decide (ps.length=(opens rs).length)&&eachB ns rs x (opens rs) ps):=by rw[papsB]
  rw[e] at k;refine⟨nofun,fun _=>⟨_,n1.at_,_,_,rfl,rfl,Nat.zero_le _,fun h=>?_,fun h=>?_⟩⟩
  ·have h':(!(((ps.length:Nat):Int)==((((opens rs).map nD).length:Nat):Int)))=true:=h;rw[List.length_map] at h';have hne:ps.length≠(opens rs).length:=fun z=>by
    rw[z] at h';simp at h'
   rw[decide_eq_false hne,Bool.false_and] at k;exact qhz (k _ n1.sub)
  ·have h':(!(((ps.length:Nat):Int)==((((opens rs).map nD).length:Nat):Int)))=false:=h;rw[List.length_map] at h';have heq:ps.length=(opens rs).length:=by
    simp at h';omega
   rw[decide_eq_true heq,Bool.true_and,qhfz] at k;refine⟨_,_,n1.at_,rfl,?_⟩;rw[qmaz nD (opens rs) ps];refine q1z (fun ds τ G'=>∃(zs:List (Nat×D)) (x5 x6:Option D),ds=zs.map (fun z=>D.tup [nD z.1,z.2])/\τ=[some (stD ns),some (.obj q),some (.int x),some (.tup ps),some (.obj p1),x5,x6]/\Sub G1 G'/\(∀z∈zs,z.1∈opens rs/\z.2∈ps)/\(zs.all fun z=>casesB ns (restAt ns rs x z.1) z.2)=((opens rs).zip ps).all fun z=>casesB ns (restAt ns rs x z.1) z.2) (fun _ _ _ h=>by
    obtain⟨_,_,_,_,_,sg,_⟩:=h;exact⟨sg _ _ n1.at_,rfl⟩) ?_ ?_ _ _ _ ⟨(opens rs).zip ps,none,none,rfl,rfl,Sub.refl _,fun z hz=>List.of_mem_zip hz,rfl⟩
   ·rintro d ds τ G' N ⟨zs,x5,x6,e1,rfl,sg,hz,ha⟩ hN;cases zs with
    |nil=>cases e1
    |cons z zs=>
     cases e1;obtain⟨i,d'⟩:=z;obtain⟨h1,h2⟩:=hz (i,d') List.mem_cons_self;have hi:=qe7z h1;have hi2:i<ns.length:=by rw[ok.len];exact hi
     have hgq:=sg _ _ (n1.sub _ _ hq);have dd:depD d' < n:=by
      have h3:depD d'≤depDs ps:=qg6z h2;rw[qe6z] at hd;omega
     refine⟨rfl,.int ns[i],qbpz (by rw[List.getElem?_map,List.getElem?_eq_getElem hi2];rfl),ok.pos _ (List.getElem_mem hi2),q,rs,i,x%ns[i],rfl,hgq,hi,hsm,fun p2 G2 n2=>?_⟩;have er:rs.set i (some (x%ns[i]))=restAt ns rs x i:=by
      unfold restAt;rw[List.getD_eq_getElem?_getD,List.getElem?_eq_getElem hi2];rfl
     rw[er] at n2;refine⟨p2,ns,restAt ns rs x i,d',rfl,n2.at_,((hk.el h2).sub n1.sub).sub (sg.trans n2.sub),dd,ok.set x i,fun G3 s3=>⟨fun h=>?_,fun h=>?_⟩⟩
     ·have hf:casesB ns (restAt ns rs x i) d'=false:=by simpa using h
      rw[←ha,List.all_cons,hf,Bool.false_and] at k;exact qhz (k _ (n1.sub.trans (sg.trans (n2.sub.trans s3))))
     ·have ht:casesB ns (restAt ns rs x i) d'=true:=by simpa using h
      refine hN _ _ ⟨zs,_,_,rfl,rfl,sg.trans (n2.sub.trans s3),fun z hz'=>hz z (List.mem_cons_of_mem _ hz'),?_⟩;rw[←ha,List.all_cons,ht,Bool.true_and]
   ·rintro τ G' ⟨zs,x5,x6,e1,rfl,sg,hz,ha⟩;cases zs with
    |cons z zs=>cases e1
    |nil=>
     rw[←ha] at k;exact qhz (k _ (n1.sub.trans sg))
 |_=>exact not_tup nofun
theorem nones{m:Nat}:(List.replicate m [D.non]).flatten=(List.replicate m (none:Option Int)).map rD:=by
 induction m with
 |zero=>rfl
 |succ m ih=>
  rw[List.replicate_succ,List.flatten_cons,List.replicate_succ,List.map_cons,ih];rfl
theorem St.rs{ns:List Int}(h:St ns):RsOk ns (List.replicate ns.length none):=by
 refine⟨by simp,h.l6,h.st,fun k r hk=>?_⟩;rw[List.getElem?_replicate] at hk;split at hk<;>cases hk
theorem none_list{ns:List Int}{G:Gp}{Q:V3}{τ:S3}(h:St ns)(k:∀p G',New G p (.lst ((List.replicate ns.length (none:Option Int)).map rD)) G'->Q (.obj p) G'):eOp rMul3 (eLst (aCons (eC .non) (aNil))) (eCB qsz (aCons (eVar 0) (aNil))) (some (stD ns)::τ) G Q:=by
 have hlm:(ns.map D.int).length=ns.length:=List.length_map ..;have:=h.l6;refine fun p1 G1 n1=>⟨_,n1.at_,⟨by omega,by rw[hlm];omega⟩,?_,fun p2 G2 n2=>?_⟩
 ·rw[hlm,Int.toNat_natCast];exact line1000 (by show 1*ns.length≤1000;omega)
 ·rw[hlm,Int.toNat_natCast,nones] at n2;exact k p2 G2 ⟨n1.sub.of_none n2.non,n1.sub.trans n2.sub,n2.at_⟩
theorem q1nz{ns:List Int}(hs:St ns):StepsOk ns (List.replicate ns.length none):=⟨by rw[List.length_replicate],by rw[List.length_replicate];have:=hs.l6;omega,fun s h=>by have:=hs.st s h;omega⟩
def q1oz:SpX:=fun ds Q E=>∃ns:List Int,ds=[stD ns]/\St ns/\(rndS ns≤10000->Q .non noG)/\(10000<rndS ns->E "TooGreat" [("many",((rndS ns:Nat):Int)),("most",10000)])
end My
namespace My
open PySem L2 L3
def casF:Nat->List Int->List (Option Int)->D
 |0,_,_=>.non
 |n+1,ns,rs=>match nmO (setC ns rs) with
  |none=>.non
  |some x=>if ((opens rs).map fun k=>casF n ns (restAt ns rs (x:Int) k)).any isNon then .non else .tup [nD x,.tup ((opens rs).map fun k=>casF n ns (restAt ns rs (x:Int) k))]
theorem RsOk.pos{ns:List Int}{rs:List (Option Int)}(h:RsOk ns rs):∀n∈ns,0<n:=fun n hn=>by have:=h.st n hn;lia
theorem RsOk.at_{ns:List Int}{rs:List (Option Int)}(h:RsOk ns rs){k:Nat}(hk:k∈opens rs):∃n,ns[k]?=some n/\2≤n/\n≤24/\∀x:Int,restAt ns rs x k=rs.set k (some (x%n)):=by
 have hl:=qe7z hk;have hn:k<ns.length:=by rw[←h.len];exact hl
 have:=h.st ns[k] (List.getElem_mem hn);refine⟨ns[k],List.getElem?_eq_getElem hn,this.1,this.2,fun x=>?_⟩;unfold restAt;rw[List.getD_eq_getElem?_getD,List.getElem?_eq_getElem hn];rfl
theorem RsOk.rest_ok{ns:List Int}{rs:List (Option Int)}(h:RsOk ns rs){k:Nat}(hk:k∈opens rs)(x:Int):RsOk ns (restAt ns rs x k)/\(opens (restAt ns rs x k)).length<(opens rs).length:=by
 obtain⟨n,h1,h2,h3,h4⟩:=h.at_ hk;rw[h4 x];exact⟨h.with h1 (Int.emod_nonneg _ (by lia)) (Int.emod_lt_of_pos _ (by lia)),q0hz hk⟩
theorem qfbz:∀{n:Nat} {ns:List Int} {rs:List (Option Int)},RsOk ns rs->(opens rs).length<n->(isNon (casF n ns rs)=true↔Comp ns rs)
 |0,ns,rs,_,h=>absurd h (Nat.not_lt_zero _)
 |n+1,ns,rs,hr,h=>by
  cases hx:nmO (setC ns rs) with
  |none=>
   have e:casF (n+1) ns rs=.non:=by simp only[casF,hx]
   rw[e];exact⟨fun _=>q0dz hr hx,fun _=>rfl⟩
  |some x=>
   have e:isNon (casF (n+1) ns rs)=((opens rs).map fun k=>casF n ns (restAt ns rs (x:Int) k)).any isNon:=by
    simp only[casF,hx];split
    ·rename_i h1;rw[h1];rfl
    ·rename_i h1;rw[Bool.not_eq_true] at h1;rw[h1];rfl
   rw[e,List.any_map,List.any_eq_true];constructor
   ·rintro⟨k,hk,h1⟩;obtain⟨m,h2,h3,h4,h5⟩:=hr.at_ hk;obtain⟨r1,r2⟩:=hr.rest_ok hk (x:Int);have:=(qfbz r1 (by lia)).mp h1;rw[h5] at this;exact q0fz hk this
   ·intro hc;obtain⟨k,m,h1,h2,h3⟩:=q0gz hr hx hc;obtain⟨m',g2,g3,g4,g5⟩:=hr.at_ h1;rw[h2] at g2;cases g2;obtain⟨r1,r2⟩:=hr.rest_ok h1 (x:Int);rw[←g5] at h3;exact⟨k,h1,(qfbz r1 (by lia)).mpr h3⟩
theorem qnhz{α β:Type}(f:α->β)(p:α×β->Bool):∀ks:List α,(ks.zip (ks.map f)).all p=ks.all fun k=>p (k,f k)
 |[]=>rfl
 |k::ks=>by
  rw[List.map_cons,List.zip_cons_cons,List.all_cons,List.all_cons,qnhz f p ks]
theorem qniz{n:Nat}{ns:List Int}{rs:List (Option Int)}(h:isNon (casF (n+1) ns rs)=false):∃x:Nat,nmO (setC ns rs)=some x/\(∀k∈opens rs,isNon (casF n ns (restAt ns rs (x:Int) k))=false)/\casF (n+1) ns rs=.tup [nD x,.tup ((opens rs).map fun k=>casF n ns (restAt ns rs (x:Int) k))]:=by
 cases hx:nmO (setC ns rs) with
 |none=>
  simp only[casF,hx] at h;cases h
 |some x=>
  refine⟨x,rfl,?_⟩;simp only[casF,hx] at h ⊢;split
  ·rename_i h1;rw[if_pos h1] at h;cases h
  ·rename_i h1;rw[Bool.not_eq_true,List.any_map,List.any_eq_false] at h1;exact⟨fun k hk=>by simpa using h1 k hk,rfl⟩
theorem qnjz:∀{n:Nat} {ns:List Int} {rs:List (Option Int)},isNon (casF n ns rs)=false->casesB ns rs (casF n ns rs)=true
 |0,ns,rs,h=>by cases h
 |n+1,ns,rs,h=>by
  obtain⟨x,hx,hk,e⟩:=qniz h;rw[e,qnez];have h0:=List.find?_some hx;rw[beq_iff_eq] at h0;have h1:missD (setC ns rs) (nD x)=true:=by
   show ((setC ns rs).filter (rg (x:Int))).isEmpty=true;unfold cntN at h0;exact List.isEmpty_iff.mpr (List.eq_nil_of_length_eq_zero h0)
  rw[h1,Bool.true_and,papsB,List.length_map,decide_eq_true rfl,Bool.true_and,qhfz,qnhz,List.all_eq_true];exact fun k hk'=>qnjz (hk k hk')
theorem qfcz:∀(n:Nat) (ns:List Int) (rs:List (Option Int)),KnD noG (casF n ns rs)/\depD (casF n ns rs)≤2*n/\noScr (casF n ns rs)=true
 |0,ns,rs=>⟨KnD.non,by simp[casF,depD],rfl⟩
 |n+1,ns,rs=>by
  cases h:isNon (casF (n+1) ns rs) with
  |true=>
   have e:casF (n+1) ns rs=.non:=by
    revert h;cases casF (n+1) ns rs<;>intro h<;>first|rfl|cases h
   rw[e];exact⟨KnD.non,by simp[depD],rfl⟩
  |false=>
   obtain⟨x,hx,hk,e⟩:=qniz h;rw[e];refine⟨KnD.two (KnD.int _) (KnD.tup fun d hd=>?_),?_,?_⟩
   ·obtain⟨k,_,rfl⟩:=List.mem_map.mp hd;exact (qfcz n ns _).1
   ·show depD (.tup [.int ((x:Nat):Int),.tup _])≤_;rw[qe6z,depDs,depD,depDs,depDs,qe6z];have:depDs ((opens rs).map fun k=>casF n ns (restAt ns rs (x:Int) k))≤2*n:=ql9z fun d hd=>by
     obtain⟨k,_,rfl⟩:=List.mem_map.mp hd;exact (qfcz n ns _).2.1
    lia
   ·have key:∀ds:List D,(∀d∈ds,noScr d=true)->noScrs ds=true:=by
     intro ds
     induction ds with
     |nil=>intro _;simp[noScrs]
     |cons d ds ih=>intro h;simp[noScrs,h d List.mem_cons_self,ih fun e he=>h e (List.mem_cons_of_mem _ he)]
    have:=key ((opens rs).map fun k=>casF n ns (restAt ns rs (x:Int) k)) fun d hd=>by
     obtain⟨k,_,rfl⟩:=List.mem_map.mp hd;exact (qfcz n ns _).2.2
    show noScr (.tup [.int ((x:Nat):Int),.tup _])=true;simp[noScr,noScrs,this]
def qblz(n:Nat):Sp3:=fun ds G Q=>∃(q:Addr) (ns:List Int) (rs:List (Option Int)) (m:Nat),ds=[stD ns,.obj q]/\G q=some (.lst (rs.map rD))/\RsOk ns rs/\(opens rs).length<m/\m≤n/\∀G',Sub G G'->Q (casF m ns rs) G'
theorem q1pz:∀ds G Q,¬qblz 0 ds G Q:=by
 rintro ds G Q ⟨_,_,_,_,_,_,_,h,h2,_⟩;lia
def q1qz(n:Nat):TS3:=sDrop (eM qeqz (eVar 3) (aCons (eVar 5) (aNil)))
def q1rz(n:Nat):TS3:=sSeq (sIf (eTest (eOp (rIs3 false) (eVar 5) (eC .non))) (sRet (eC .non)) (sNext)) (q1qz n)
def q1sz(n:Nat):TS3:=sSeq (sAsg (eCall (qblz n) (aCons (eVar 0) (aCons (eCall qbwz (aCons (eVar 1) (aCons (eVar 4) (aCons (eOp rMod3 (eVar 2) (eOp rIx3 (eVar 0) (eVar 4))) (aNil))))) (aNil)))) (hName 5)) (q1rz n)
def q1tz(n:Nat):TS3:=sRet (eTup (aCons (eVar 2) (aCons (eCB qbez (aCons (eVar 3) (aNil))) (aNil))))
def q1uz(n:Nat):TS3:=sSeq (sFor (iSeq (eCall qcoz (aCons (eVar 1) (aNil)))) (hName 4) ((q1sz n))) (q1tz n)
def q1vz(n:Nat):TS3:=sSeq (sAsg (eLst (aNil)) (hName 3)) (q1uz n)
def q1wz(n:Nat):TS3:=sSeq (sIf (eTest (eOp (rIs3 false) (eVar 2) (eC .non))) (sRet (eC .non)) (sNext)) (q1vz n)
def qnkz(n:Nat):TS3:=sSeq (sAsg (eCall qcsz (aCons (eCall qcdz (aCons (eVar 0) (aCons (eVar 1) (aNil)))) (aCons (eC (.int 0)) (aNil)))) (hName 2)) (q1wz n)
theorem qfdz(rs:List (Option Int)):(opens rs).length≤rs.length:=by
 unfold opens;have:=List.length_filter_le (fun k=>(rs.getD k none).isNone) (List.range rs.length);rwa [List.length_range] at this
theorem q1xz(n:Nat):∀ds G Q,qblz (n+1) ds G Q->qnkz n (endsOf Q) (start3 ["steps","rests","number","papers","place","paper"] ds) G:=by
 rintro ds G Q ⟨q,ns,rs,m,rfl,hq,hr,hom,hmn,q1⟩;obtain⟨m,rfl⟩:∃m',m=m'+1:=⟨m-1,by lia⟩;have hl:=qg9z ns rs;have h6:=hr.n6;have hrl:=hr.len;have hol:=qfdz rs;refine⟨.obj q,ns,rs,rfl,hq,by lia,setC ns rs,rfl,qhcz hr.pos,by lia,?_⟩;cases hx:nmO (setC ns rs) with
 |none=>
  have e:casF (m+1) ns rs=.non:=by simp only[casF,hx]
  rw[e] at q1;exact⟨fun _=>qhz (q1 G (Sub.refl _)),nofun⟩
 |some x=>
  have en:((opens rs).map fun k=>casF m ns (restAt ns rs (x:Int) k)).any isNon=true->casF (m+1) ns rs=.non:=fun h=>by
   simp only[casF,hx];rw[if_pos h]
  have es:((opens rs).map fun k=>casF m ns (restAt ns rs (x:Int) k)).any isNon=false->casF (m+1) ns rs=.tup [nD x,.tup ((opens rs).map fun k=>casF m ns (restAt ns rs (x:Int) k))]:=fun h=>by
   simp only[casF,hx];rw[if_neg (by rw[h];decide)]
  refine⟨nofun,fun _ p3 G3 n3=>⟨q,rs,rfl,n3.sub _ _ hq,by lia,fun p4 G4 n4=>⟨_,n4.at_,?_⟩⟩⟩;have h34:p4≠p3:=fun z=>by
   have:=n4.non;rw[z,n3.at_] at this;cases this
  refine q1z (fun ds τ G'=>∃(ks done:List Nat) (x4 x5:Option D),ds=ks.map nD/\done++ks=opens rs/\τ=[some (stD ns),some (.obj q),some (.int (x:Nat)),some (.obj p3),x4,x5]/\New G p3 (.lst (done.map fun k=>casF m ns (restAt ns rs (x:Int) k))) G'/\G' p4=some (.lst ((opens rs).map nD))/\∀k∈done,isNon (casF m ns (restAt ns rs (x:Int) k))=false) (fun _ _ _ h=>by
   obtain⟨_,_,_,_,_,_,_,_,h,_⟩:=h;exact h) ?_ ?_ _ _ _ ⟨opens rs,[],none,none,rfl,rfl,rfl,⟨n3.non,n3.sub.trans n4.sub,n4.sub _ _ n3.at_⟩,n4.at_,nofun⟩
  ·rintro d ds τ G5 N ⟨ks,done,x4,x5,e,hdk,rfl,n5,e5,hall⟩ hN;cases ks with
   |nil=>cases e
   |cons k ks=>
    cases e;have hk:k∈opens rs:=by rw[←hdk];simp
    have hkl:=qe7z hk;obtain⟨w,en2,w2,w24,er⟩:=hr.at_ hk;obtain⟨r1,r2⟩:=hr.rest_ok hk (x:Int);have hdl:done.length+(ks.length+1)≤6:=by
     have:=congrArg List.length hdk;rw[List.length_append,List.length_cons] at this;lia
    refine⟨.int w,qbpz (by rw[List.getElem?_map,en2];rfl),by show (0:Int)<w;lia,q,rs,k,(x:Int)%w,rfl,n5.sub _ _ hq,hkl,by lia,fun p6 G6 n6=>?_⟩;rw[←er] at n6;refine⟨p6,ns,_,m,rfl,n6.at_,r1,by lia,by lia,fun G7 s7=>?_⟩;have s8:=n6.sub.trans s7;refine⟨fun h=>?_,fun h=>?_⟩
    ·have h:isNon (casF m ns (restAt ns rs (x:Int) k))=true:=h;have:=en (by rw[List.any_map,List.any_eq_true];exact⟨k,hk,h⟩);rw[this] at q1;exact qhz (q1 _ (n5.sub.trans s8))
    ·have h:isNon (casF m ns (restAt ns rs (x:Int) k))=false:=h;have n8:New G p3 (.lst (done.map fun k=>casF m ns (restAt ns rs (x:Int) k))) G7:=⟨n5.non,n5.sub.trans s8,s8 _ _ n5.at_⟩;refine⟨⟨p3,_,rfl,n8.at_⟩,_,n8.at_,?_,hN _ _ ⟨ks,done++[k],_,_,rfl,by rw[List.append_assoc];exact hdk,rfl,⟨n8.non,Sub.updN n8.sub n8.non,?_⟩,?_,fun j hj=>?_⟩⟩
     ·rw[List.length_map];exact Nat.lt_of_le_of_lt (show done.length≤6 by lia) (by decide)
     ·rw[qahz,List.map_append];rfl
     ·rw[qaiz h34];exact s8 _ _ e5
     ·rcases List.mem_append.mp hj with hj|hj
      ·exact hall j hj
      ·rw[List.mem_singleton.mp hj];exact h
  ·rintro τ G5 ⟨ks,done,x4,x5,e,hdk,rfl,n5,e5,hall⟩;have e0:ks=[]:=by
    cases ks with
    |nil=>rfl
    |cons k ks=>cases e
   subst e0;rw[List.append_nil] at hdk;subst hdk;have:=es (by rw[List.any_map,List.any_eq_false];exact fun k hk=>by rw[Function.comp_apply,hall k hk];decide);rw[this] at q1;exact⟨_,n5.at_,qhz (q1 _ n5.sub)⟩
def qcez:Sp3:=fun ds G Q=>∃(q:Addr) (ns:List Int) (rs:List (Option Int)),ds=[stD ns,.obj q]/\G q=some (.lst (rs.map rD))/\RsOk ns rs/\(Comp ns rs->∀G',Sub G G'->Q (.bl true) G')/\(¬Comp ns rs->∀G',Sub G G'->Q (.bl false) G')
def qnlz:TS3:=sRet (eOp (rIs3 false) (eCall (qblz 40) (aCons (eVar 0) (aCons (eVar 1) (aNil)))) (eC .non))
theorem q1yz:∀ds G Q,qcez ds G Q->qnlz (endsOf Q) (start3 ["steps","rests"] ds) G:=by
 rintro ds G Q ⟨q,ns,rs,rfl,hq,hr,q1,q2⟩;have hol:=qfdz rs;have h6:=hr.n6;have hrl:=hr.len;refine⟨q,ns,rs,10,rfl,hq,hr,by lia,by decide,fun G' s=>?_⟩;have key:=qfbz (n:=10) hr (by lia);show (endsOf Q).rt (.bl (isNon (casF 10 ns rs))) G';cases h:isNon (casF 10 ns rs) with
 |true=>exact qhz (q1 (key.mp h) G' s)
 |false=>
  refine qhz (q2 (fun hc=>?_) G' s);rw[key.mpr hc] at h;cases h
abbrev RsL:=List (Addr×List (Option Int))
def qcxz:Sp3:=fun ds G Q=>∃(p:Addr) (ns:List Int) (zs:RsL),ds=[stD ns,.obj p]/\G p=some (.lst (zs.map fun z=>D.obj z.1))/\(∀z∈zs,G z.1=some (.lst (z.2.map rD))/\RsOk ns z.2)/\(∃z∈zs,Comp ns z.2)/\∀(pre:RsL) (z:Addr×List (Option Int)) (post:RsL),zs=pre++z::post->(∀y∈pre,¬Comp ns y.2)->Comp ns z.2->∀G',Sub G G'->Q (.obj z.1) G'
def q1zz:TS3:=sIf (eTest (eCall qcez (aCons (eVar 0) (aCons (eVar 2) (aNil))))) (sRet (eVar 2)) (sNext)
def q10z:TS3:=sRet (eC .non)
def qnmz:TS3:=sSeq (sFor (iSeq (eVar 1)) (hName 2) (q1zz)) q10z
theorem q11z:∀ds G Q,qcxz ds G Q->qnmz (endsOf Q) (start3 ["steps","tried","rests"] ds) G:=by
 rintro ds G Q ⟨p,ns,zs,rfl,hp,hz,hex,q⟩;refine⟨_,hp,?_⟩;refine q1z (fun ds τ G'=>Sub G G'/\∃(pre ys:RsL) (x2:Option D),ds=ys.map (fun z=>D.obj z.1)/\τ=[some (stD ns),some (.obj p),x2]/\zs=pre++ys/\∀y∈pre,¬Comp ns y.2) (fun _ _ _ h=>h.1 _ _ hp) ?_ ?_ _ _ _ ⟨Sub.refl _,[],zs,none,rfl,rfl,rfl,nofun⟩
 ·rintro d ds τ G1 N ⟨s1,pre,ys,x2,e,rfl,hys,hpre⟩ hN;cases ys with
  |nil=>cases e
  |cons y ys=>
   cases e;have hy:y∈zs:=by rw[hys];simp
   obtain⟨e1,hr⟩:=hz y hy;refine⟨y.1,ns,y.2,rfl,s1 _ _ e1,hr,fun hc G2 s2=>⟨fun _=>qhz (q pre y ys hys hpre hc _ (s1.trans s2)),nofun⟩,fun hc G2 s2=>⟨nofun,fun _=>hN _ _ ⟨s1.trans s2,pre++[y],ys,_,rfl,rfl,by rw[List.append_assoc];exact hys,fun z hz'=>?_⟩⟩⟩;rcases List.mem_append.mp hz' with h|h
   ·exact hpre z h
   ·rw[List.mem_singleton.mp h];exact hc
 ·rintro τ G1 ⟨s1,pre,ys,x2,e,rfl,hys,hpre⟩;cases ys with
  |cons y ys=>cases e
  |nil=>
   obtain⟨z,h1,h2⟩:=hex;rw[hys,List.append_nil] at h1;exact absurd h2 (hpre z h1)
end My
namespace My
open PySem L2 L3
theorem qnnz{ns:List Int}{s:Nat}{z:Nat×Int}{zs:List (Nat×Int)}(h:z::zs=((List.range ns.length).zip ns).drop s):z.1=s/\ns[s]?=some z.2/\zs=((List.range ns.length).zip ns).drop (s+1):=by
 have hl:s<((List.range ns.length).zip ns).length:=by
  refine Nat.lt_of_not_le fun w=>?_;rw[List.drop_eq_nil_of_le w] at h;cases h
 rw[List.drop_eq_getElem_cons hl,List.getElem_zip] at h;cases h;rw[List.length_zip,List.length_range] at hl;exact⟨List.getElem_range _,List.getElem?_eq_getElem (by lia),rfl⟩
theorem range_drop{m i:Nat}{d:D}{ds:List D}(h:d::ds=((List.range m).drop i).map nD):i<m/\d=nD i/\ds=((List.range m).drop (i+1)).map nD:=by
 have hl:i<(List.range m).length:=by
  refine Nat.lt_of_not_le fun w=>?_;rw[List.drop_eq_nil_of_le w] at h;cases h
 rw[List.drop_eq_getElem_cons hl,List.getElem_range] at h;cases h;rw[List.length_range] at hl;exact⟨hl,rfl,rfl⟩
def preR(ns is:List Int):List (Option Int):=is.map some++List.replicate (ns.length-is.length) none
theorem qnoz(ns:List Int):preR ns []=List.replicate ns.length none:=rfl
theorem qnpz{ns is:List Int}(h:is.length=ns.length):preR ns is=is.map some:=by
 unfold preR;rw[h,Nat.sub_self];exact List.append_nil _
theorem preR_at{ns is:List Int}{k:Nat}{r:Int}:(preR ns is)[k]?=some (some r)↔is[k]?=some r:=by
 unfold preR;by_cases h:k<is.length
 ·rw[List.getElem?_append_left (by rw[List.length_map];exact h),List.getElem?_map];cases is[k]?<;>simp
 ·rw[List.getElem?_append_right (by rw[List.length_map];lia),List.getElem?_replicate,List.getElem?_eq_none (l:=is) (by lia)];split<;>simp
theorem qfez{ns is:List Int}{k:Nat}(h1:is.length≤k)(h2:k<ns.length):(preR ns is)[k]?=some none:=by
 unfold preR;rw[List.getElem?_append_right (by rw[List.length_map];exact h1),List.getElem?_replicate,List.length_map,if_pos (by lia)]
theorem qcyz{ns is:List Int}{r:Int}(h:is.length<ns.length):(preR ns is).set is.length (some r)=preR ns (is++[r]):=by
 apply List.ext_getElem?;intro k;have hl:(preR ns is).length=ns.length:=by unfold preR;rw[List.length_append,List.length_map,List.length_replicate];lia
 rcases Nat.lt_trichotomy k is.length with w|w|w
 ·rw[List.getElem?_set_ne (by lia)];unfold preR;rw[List.getElem?_append_left (by rw[List.length_map];exact w),List.getElem?_append_left (by rw[List.length_map,List.length_append];lia),List.getElem?_map,List.getElem?_map,List.getElem?_append_left w]
 ·subst w;rw[List.getElem?_set_self (by lia)];exact (preR_at.mpr (by simp)).symm
 ·rw[List.getElem?_set_ne (by lia)];rcases Nat.lt_or_ge k ns.length with u|u
  ·rw[qfez (by lia) u,qfez (by rw[List.length_append,List.length_singleton];lia) u]
  ·rw[List.getElem?_eq_none (by lia),List.getElem?_eq_none];unfold preR;rw[List.length_append,List.length_map,List.length_replicate,List.length_append,List.length_singleton];lia
structure FirstR(ns is:List Int):Prop where
 le:is.length≤ns.length
 ok:RsOk ns (preR ns is)
 comp:Comp ns (preR ns is)
 fst:∀(k:Nat) (t:Int),is[k]?=some t->∀r:Int,0≤r->r<t->¬Comp ns (preR ns (is.take k++[r]))
def q12z:SpX:=fun ds Q E=>∃ns:List Int,ds=[stD ns]/\St ns/\(rndS ns≤10000->(¬Comp ns (preR ns [])->Q .non noG)/\∀is,FirstR ns is->is.length=ns.length->Q (.tup (is.map D.int)) noG)/\(10000<rndS ns->E "TooGreat" [("many",((rndS ns:Nat):Int)),("most",10000)])
def q13z(E:E3):TS3:=sAsg (eCall qcxz (aCons (eVar 0) (aCons (eVar 4) (aNil)))) (hName 1)
def qnqz(E:E3):TS3:=sSeq (sAsg (eComp ["rest"] [1,2] (iRng1 (aCons (eVar 3) (aNil))) (hName 0) (tNoTest3) (eCall qbwz (aCons (eVar 1) (aCons (eVar 2) (aCons (eVar 0) (aNil)))))) (hName 4)) (q13z E)
def q14z(E:E3):TS3:=sRet (eCB qbez (aCons (eVar 1) (aNil)))
def q15z(E:E3):TS3:=sSeq (sFor (iEnum (aCons (eVar 0) (aNil))) (hTup 2 (hCons (hName 2) (hCons (hName 3) (hNil)))) ((qnqz E))) (q14z E)
def q16z(E:E3):TS3:=sSeq (sIf (eNot (eTest (eCall qcez (aCons (eVar 0) (aCons (eVar 1) (aNil)))))) (sRet (eC .non)) (sNext)) (q15z E)
def q17z(E:E3):TS3:=sSeq (sAsg (eOp rMul3 (eLst (aCons (eC .non) (aNil))) (eCB qsz (aCons (eVar 0) (aNil)))) (hName 1)) (q16z E)
def q18z(E:E3):TS3:=sSeq (sDrop (eCallX q1oz E (aCons (eVar 0) (aNil)))) (q17z E)
def ForI(ns:List Int)(ds:List D)(τ:S3)(G':Gp):Prop:=∃(is:List Int) (q:Addr) (x2 x3 x4:Option D),ds=(((List.range ns.length).zip ns).drop is.length).map (fun p=>D.tup [nD p.1,D.int p.2])/\τ=[some (stD ns),some (.obj q),x2,x3,x4]/\G' q=some (.lst ((preR ns is).map rD))/\FirstR ns is
theorem q19z{ns:List Int}{E:E3}{D3:Ends3}{n:Int}{q:Addr}{is:List Int}{x4:Option D}{G1:Gp}{ds:List D}(en:ns[is.length]?=some n)(hq:G1 q=some (.lst ((preR ns is).map rD)))(hf:FirstR ns is)
  (e:ds=(((List.range ns.length).zip ns).drop (is.length+1)).map (fun p=>D.tup [nD p.1,D.int p.2])) (hN:∀τ' G',ForI ns ds τ' G'->D3.nx τ' G'):qnqz E D3 [some (stD ns),some (.obj q),some (nD is.length),some (.int n),x4] G1:=by
 have hjl:is.length<ns.length:=(List.getElem?_eq_some_iff.mp en).1;have hr:=hf.ok;have hn2:=hr.st n (List.mem_of_getElem? en);have h6:=hr.n6;have hrl:=hr.len;obtain⟨m,rfl⟩:∃m:Nat,n=(m:Int):=⟨n.toNat,by lia⟩;have hop:is.length∈opens (preR ns is):=open_at.mpr (qfez (Nat.le_refl _) hjl);refine⟨⟨by lia,by lia⟩,?_,?_⟩
 ·show (rngL 0 ((m:Int)).toNat).length≤sizeLine;rw[qbqz];exact line1000 (by lia)
 show compGo _ _ _ _ _ (rngL 0 ((m:Int)).toNat) _ _ _;rw[Int.toNat_natCast,rng0];refine qclz (fun ds acc τ G'=>Sub G1 G'/\∃(i:Nat) (zs:RsL) (x:Option D),ds=((List.range m).drop i).map nD/\acc=zs.map (fun z=>D.obj z.1)/\(∀z∈zs,G' z.1=some (.lst (z.2.map rD)))/\zs.map (·.2)=((List.range m).take i).map (fun r:Nat=>preR ns (is++[(r:Int)]))/\τ=[x,some (.obj q),some (nD is.length)]) (fun _ _ _ _ _=>trivial) ?_ ?_ _ _ _ _ ⟨Sub.refl _,0,[],none,rfl,rfl,nofun,rfl,rfl⟩
 ·rintro d ds' acc τ G2 K1 K2 ⟨s2,i,zs,x,e1,rfl,hz,hi,rfl⟩ g1 g2;obtain⟨him,rfl,rfl⟩:=range_drop e1;refine⟨fun _=>⟨q,_,is.length,(i:Int),rfl,s2 _ _ hq,by lia,by lia,fun p5 G5 n5=>?_⟩,nofun⟩;rw[qcyz hjl] at n5;refine g1 _ _ _ ⟨s2.trans n5.sub,i+1,zs++[(p5,preR ns (is++[(i:Int)]))],_,rfl,by simp,fun z hz'=>?_,?_,rfl⟩
  ·rcases List.mem_append.mp hz' with h|h
   ·exact n5.sub _ _ (hz z h)
   ·have:z=(p5,preR ns (is++[(i:Int)])):=by simpa using h
    subst this;exact n5.at_
  ·rw[List.map_append,hi,List.take_add_one,List.map_append,List.getElem?_range him];rfl
 ·rintro acc τ G2 ⟨s2,i,zs,x,e1,rfl,hz,hi,rfl⟩ p6 G6 n6;have him:m≤i:=by
   have:=congrArg List.length e1;rw[List.length_map,List.length_drop,List.length_range] at this;have:0=m-i:=this;lia
  rw[List.take_of_length_le (by rw[List.length_range];exact him)] at hi;have hzr:∀z∈zs,∃r:Nat,r<m/\z.2=preR ns (is++[(r:Int)]):=fun z h=>by
   have:z.2∈zs.map (·.2):=List.mem_map_of_mem h;rw[hi] at this;obtain⟨r,hrm,e⟩:=List.mem_map.mp this;exact⟨r,List.mem_range.mp hrm,e.symm⟩
  have hrok:∀r:Nat,r<m->RsOk ns (preR ns (is++[(r:Int)])):=fun r h=>by
   rw[←qcyz hjl];exact hr.with en (by lia) (by lia)
  refine⟨p6,ns,zs,rfl,n6.at_,fun z h=>?_,?_,fun pre z post hzs hpre hcz G7 s7=>?_⟩
  ·obtain⟨r,hrm,h2⟩:=hzr z h;exact⟨n6.sub _ _ (hz z h),by rw[h2];exact hrok r hrm⟩
  ·obtain⟨ts,hts⟩:=hf.comp;have hjt:is.length<ts.length:=by rw[hts.len];exact hjl
   have et:=List.getElem?_eq_getElem hjt;obtain⟨t0,t1⟩:=hts.ok _ _ _ et en;have hm:preR ns (is++[ts[is.length]])∈zs.map (·.2):=by
    rw[hi];exact List.mem_map.mpr ⟨ts[is.length].toNat,List.mem_range.mpr (by lia),by rw[Int.toNat_of_nonneg t0]⟩
   obtain⟨z,h1,h2⟩:=List.mem_map.mp hm;refine⟨z,h1,?_⟩;rw[h2,←qcyz hjl];exact qhaz hts hop et
  ·have hzm:z∈zs:=by rw[hzs];simp
   -- z is the r-th of them,those ahead are left aside
   have hpl:pre.length<m:=by
    have:=congrArg List.length hi;rw[List.length_map,List.length_map,List.length_range,hzs,List.length_append,List.length_cons] at this;lia
   have hz2:z.2=preR ns (is++[((pre.length:Nat):Int)]):=by
    have h1:(zs.map (·.2))[pre.length]?=some z.2:=by rw[hzs,List.map_append,List.getElem?_append_right (by simp)];simp
    rw[hi,List.getElem?_map,List.getElem?_range hpl] at h1;exact (Option.some.inj h1).symm
   have hbefore:∀r:Nat,r<pre.length->¬Comp ns (preR ns (is++[(r:Int)])):=fun r hrp=>by
    have h1:(zs.map (·.2))[r]?=some (pre[r]'hrp).2:=by rw[hzs,List.map_append,List.getElem?_append_left (by simpa using hrp),List.getElem?_map,List.getElem?_eq_getElem hrp];rfl
    rw[hi,List.getElem?_map,List.getElem?_range (by lia)] at h1;have h1:=Option.some.inj h1;have h2:=hpre _ (List.getElem_mem hrp);rw[←h1] at h2;exact h2
   have e7:=s7 _ _ (n6.sub _ _ (hz z hzm));rw[hz2] at e7 hcz;refine hN _ _ ⟨is++[((pre.length:Nat):Int)],z.1,_,_,_,by rw[List.length_append,List.length_singleton];exact e,rfl,e7,by rw[List.length_append,List.length_singleton];lia,hrok _ hpl,hcz,fun k t hk r r0 rt=>?_⟩;rcases Nat.lt_trichotomy k is.length with w|w|w
   ·rw[List.getElem?_append_left w] at hk;rw[List.take_append_of_le_length (by lia)];exact hf.fst k t hk r r0 rt
   ·subst w;rw[List.getElem?_append_right (Nat.le_refl _),Nat.sub_self] at hk;have hk:((pre.length:Nat):Int)=t:=Option.some.inj hk;rw[List.take_append_of_le_length (Nat.le_refl _),List.take_length];have:=hbefore r.toNat (by lia);rw[Int.toNat_of_nonneg r0] at this;exact this
   ·rw[List.getElem?_eq_none (by rw[List.length_append,List.length_singleton];lia)] at hk;cases hk
theorem q89z:∀ds Q E,q12z ds Q E->q18z E (endsOf Q) (start3 ["steps","rests","place","step","tried"] ds) noG:=by
 rintro ds Q E ⟨ns,rfl,hs,q1,q2⟩;refine⟨ns,rfl,hs,fun h G1 j1=>?_,q2⟩;obtain⟨qn,qt⟩:=q1 h;refine none_list (τ:=[none,none,none,none]) hs fun p G2 n2=>⟨p,ns,_,rfl,n2.at_,hs.rs,fun hc G3 s3=>⟨nofun,fun _=>?_⟩,fun hc G3 s3=>⟨fun _=>qasz (qhbz _) (qn hc),nofun⟩⟩;refine⟨ns.map D.int,rfl,?_⟩;rw[qg7z D.int ns];refine q1z (ForI ns) (fun _ _ _ _=>rfl) ?_ ?_ _ _ _ ⟨[],p,none,none,none,rfl,rfl,s3 _ _ n2.at_,Nat.zero_le _,hs.rs,hc,fun k t h=>by simp at h⟩
 ·rintro d ds τ G4 N ⟨is,q,x2,x3,x4,e,rfl,hq,hf⟩ hN;cases hd:((List.range ns.length).zip ns).drop is.length with
  |nil=>rw[hd] at e;cases e
  |cons z zs=>
   rw[hd] at e;cases e;obtain⟨z1,z2,z3⟩:=qnnz hd.symm;refine⟨rfl,?_⟩;rw[z1];exact q19z z2 hq hf (by rw[z3]) hN
 ·rintro τ G4 ⟨is,q,x2,x3,x4,e,rfl,hq,hf⟩;have hj:ns.length≤is.length:=by
   have:=congrArg List.length e;rw[List.length_map,List.length_drop,List.length_zip,List.length_range] at this;have:0=min ns.length ns.length-is.length:=this;lia
  have hle:=hf.le;refine⟨_,hq,?_⟩;rw[qnpz (by lia),List.map_map];exact qasz (qhbz _) (qt is hf (by lia))
def okR(n:Int):D->Bool
 |.int r=>decide (0≤r)&&decide (r<n)
 |_=>false
def formR(ns:List Int):D->Bool
 |.tup ds=>decide (ds.length=ns.length)&&(ns.zip ds).all fun z=>okR z.1 z.2
 |_=>false
def qd0z:Sp3:=fun ds G Q=>∃(ns:List Int) (d:D),ds=[stD ns,d]/\ns.length≤6/\KnD G d/\∀G',Sub G G'->Q (.bl (formR ns d)) G'
def q2az:TS3:=sRet (eCB qc8z (aCons (eComp ["step","rest"] [] (iZip (aCons (eVar 0) (aCons (eVar 1) (aNil)))) (hTup 2 (hCons (hName 0) (hCons (hName 1) (hNil)))) (tNoTest3) (eAndV (eCall qbkz (aCons (eVar 1) (aNil))) (eChain rLe3 rLtT3 (eC (.int 0)) (eVar 1) (eVar 0)))) (aNil)))
def qhhz:TS3:=sSeq (sIf (eOr (eNot (eTest (eInst "tuple" (eVar 1)))) (eTest (eOp (rEq3 true) (eCB qsz (aCons (eVar 1) (aNil))) (eCB qsz (aCons (eVar 0) (aNil)))))) (sRet (eC (.bl false))) (sNext)) q2az
theorem q2bz:∀ds G Q,qd0z ds G Q->qhhz (endsOf Q) (start3 ["steps","thing"] ds) G:=by
 rintro ds G Q ⟨ns,d,rfl,h6,hk,q⟩;have not_tup:(∀ds,d≠.tup ds)->qhhz (endsOf Q) (start3 ["steps","thing"] [stD ns,d]) G:=by
  intro hn;have e:formR ns d=false:=by
   cases d with
   |tup ds=>exact absurd rfl (hn ds)
   |_=>rfl
  rw[e] at q;show match instD "tuple" G d with
   |some b=>_
   |none=>False
  rw[qe5z hk.known2 hn];exact⟨fun _=>⟨fun _=>qhz (q _ (Sub.refl _)),nofun⟩,nofun⟩
 cases d with
 |tup ds=>
  refine⟨nofun,fun _=>⟨_,_,rfl,rfl,Nat.zero_le _,fun h=>?_,fun h=>?_⟩⟩
  ·have h':(!(((ds.length:Nat):Int)==(((ns.map D.int).length:Nat):Int)))=true:=h;rw[List.length_map] at h';have hne:ds.length≠ns.length:=fun z=>by
    rw[z] at h';simp at h'
   have e:formR ns (.tup ds)=false:=by
    show (decide (ds.length=ns.length)&&_)=false;rw[decide_eq_false hne,Bool.false_and]
   rw[e] at q;exact qhz (q _ (Sub.refl _))
  ·have h':(!(((ds.length:Nat):Int)==(((ns.map D.int).length:Nat):Int)))=false:=h;rw[List.length_map] at h';have heq:ds.length=ns.length:=by
    simp at h';lia
   refine⟨ns.map D.int,ds,rfl,rfl,?_⟩;rw[qmaz D.int ns ds];refine⟨?_,?_⟩
   ·show ((ns.zip ds).map _).length≤sizeLine;rw[List.length_map,List.length_zip];exact line1000 (by lia)
   refine qabz (fun τ=>∃x y,τ=[x,y]) (fun z:Int×D=>D.tup [.int z.1,z.2]) (fun _=>true) (fun z=>.bl (okR z.1 z.2)) (G:=G) ⟨rfl,rfl⟩ (ns.zip ds) [] _ ⟨none,none,rfl⟩ ?_ ?_
   ·rintro⟨n,d⟩ hm τ K1 K2 ⟨x,y,rfl⟩ g1 g2;have hd:Known G d:=(hk.el (List.of_mem_zip hm).2).known;have k:=g1 rfl [some (.int n),some d] ⟨_,_,rfl⟩;refine⟨rfl,fun _=>⟨hd,?_⟩,nofun⟩;cases d with
    |int r=>
     refine⟨fun _=>⟨fun a=>?_,fun a=>?_⟩,nofun⟩
     ·have e:okR n (.int r)=decide (r<n):=by
       show (decide (0≤r)&&decide (r<n))=_;rw[show decide (0≤r)=true from a,Bool.true_and]
      rw[e] at k;exact k
     ·have e:okR n (.int r)=false:=by
       show (decide (0≤r)&&decide (r<n))=_;rw[show decide (0≤r)=false from a,Bool.false_and]
      rw[e] at k;exact k
    |_=>exact⟨nofun,fun _=>k⟩
   ·intro p1 G1 n1;rw[filter_all,List.nil_append] at n1;refine⟨_,_,n1.at_,qg4z (fun z:Int×D=>okR z.1 z.2) (ns.zip ds),?_⟩;have e:formR ns (.tup ds)=((ns.zip ds).map fun z=>okR z.1 z.2).all id:=by
     show (decide (ds.length=ns.length)&&(ns.zip ds).all fun z=>okR z.1 z.2)=_;rw[decide_eq_true heq,Bool.true_and,List.all_map];rfl
    rw[e] at q;exact qhz (q _ n1.sub)
 |_=>exact not_tup nofun
theorem q2cz{ns:List Int}{d:D}(h:formR ns d=true):∃is:List Int,d=.tup (is.map D.int)/\is.length=ns.length/\∀c∈ns.zip is,0≤c.2/\c.2<c.1:=by
 cases d with
 |tup ds=>
  have h':(decide (ds.length=ns.length)&&(ns.zip ds).all fun z=>okR z.1 z.2)=true:=h;rw[Bool.and_eq_true,decide_eq_true_iff] at h';obtain⟨hl,ha⟩:=h';have key:∀(ms:List Int) (es:List D),es.length=ms.length->((ms.zip es).all fun z=>okR z.1 z.2)=true->∃is:List Int,es=is.map D.int/\is.length=ms.length/\∀c∈ms.zip is,0≤c.2/\c.2<c.1:=by
   intro ms
   induction ms with
   |nil=>
    intro es hl _;have:es=[]:=List.eq_nil_of_length_eq_zero hl;subst this;exact⟨[],rfl,rfl,nofun⟩
   |cons m ms ih=>
    intro es hl ha;cases es with
    |nil=>cases hl
    |cons e es=>
     rw[List.zip_cons_cons,List.all_cons,Bool.and_eq_true] at ha;obtain⟨is,rfl,h2,h3⟩:=ih es (by simpa using hl) ha.2;cases e with
     |int r=>
      have h0:(decide (0≤r)&&decide (r<m))=true:=ha.1;rw[Bool.and_eq_true,decide_eq_true_iff,decide_eq_true_iff] at h0;refine⟨r::is,rfl,by simp[h2],fun c hc=>?_⟩;rw[List.zip_cons_cons] at hc;rcases List.mem_cons.mp hc with rfl|hc
      ·exact h0
      ·exact h3 c hc
     |_=>cases ha.1
  obtain⟨is,rfl,h2,h3⟩:=key ns ds hl ha;exact⟨is,rfl,h2,h3⟩
 |_=>cases h
def optD:D->Option Int
 |.int i=>some i
 |_=>none
def optsD:D->List (Option Int)
 |.tup ds=>ds.map optD
 |_=>[]
def restsB(ns:List Int)(d:D):Bool:=formR ns d&&(nmO (setC ns (optsD d))).isNone
end My
namespace My
open PySem L2 L3
def qd1z:Sp3:=fun ds G Q=>∃(p:Addr) (ns:List Int),ds=[.obj p]/\G p=some (.lst (ns.map D.int))/\(∀n∈ns,2≤n/\n≤24)/\ns.length≤6/\Q (.int (prodS ns)) G
def q2dz:TS3:=sAsg (eOp rMul3 (eVar 1) (eVar 2)) (hName 1)
def q2ez:TS3:=sRet (eVar 1)
def q2fz:TS3:=sSeq (sFor (iSeq (eVar 0)) (hName 2) (q2dz)) q2ez
def qnrz:TS3:=sSeq (sAsg (eC (.int 1)) (hName 1)) q2fz
theorem q2gz{ns:List Int}(h:∀n∈ns,2≤n/\n≤24)(h6:ns.length≤6):1≤prodS ns/\prodS ns≤24^6:=by
 cases ns with
 |nil=>decide
 |cons n ns=>exact St.prod ⟨by simp,h6,h⟩
theorem q2hz:∀ds G Q,qd1z ds G Q->qnrz (endsOf Q) (start3 ["steps","found","step"] ds) G:=by
 rintro ds G Q ⟨p,ns,rfl,hp,hn,h6,q⟩;obtain⟨hp1,hp2⟩:=q2gz hn h6;refine⟨_,hp,?_⟩;refine q1z (fun ds τ G'=>G'=G/\∃(ms:List Int) (a:Int) (x2:Option D),ds=ms.map D.int/\τ=[some (.obj p),some (.int a),x2]/\1≤a/\(∀m∈ms,2≤m/\m≤24)/\ms.foldl (· * ·) a=prodS ns) (fun _ _ _ h=>by rw[h.1];exact hp) ?_ ?_ _ _ _ ⟨rfl,ns,1,none,rfl,rfl,by decide,hn,rfl⟩
 ·rintro d ds τ G2 N ⟨rfl,ms,a,x2,e,rfl,a1,hm,hf⟩ hN;cases ms with
  |nil=>cases e
  |cons m ms=>
   cases e;have h2:=hm m List.mem_cons_self;have hge:=qfaz hm a1;rw[hf] at hge;have h3:a*1≤a*m:=Int.mul_le_mul_of_nonneg_left (by lia) (by lia);exact⟨⟨qtz (by lia) (by lia),qtz (by lia) (by lia)⟩,hN _ _ ⟨rfl,ms,a*m,_,rfl,rfl,by lia,fun y hy=>hm y (List.mem_cons_of_mem _ hy),hf⟩⟩
 ·rintro τ G2 ⟨rfl,ms,a,x2,e,rfl,a1,hm,hf⟩;cases ms with
  |cons m ms=>cases e
  |nil=>
   have hf:a=prodS ns:=hf;subst hf;exact qhz q
theorem qffz:∀ns is:List Int,setC ns (is.map some)=ns.zip is
 |[],_=>rfl
 |n::ns,[]=>rfl
 |n::ns,i::is=>by
  have:=qffz ns is;unfold setC at this ⊢;rw[List.map_cons,List.zip_cons_cons,List.filterMap_cons,List.zip_cons_cons];show (n,i)::_=_;rw[this]
theorem qnsz:∀ns is:List Int,zipD (ns.map D.int) (is.map D.int)=(ns.zip is).map cD
 |[],_=>rfl
 |n::ns,[]=>rfl
 |n::ns,i::is=>by
  show D.tup [.int n,.int i]::zipD (ns.map D.int) (is.map D.int)=cD (n,i)::(ns.zip is).map cD;rw[qnsz ns is];rfl
end My
namespace My
open PySem L2 L3
theorem q2iz{c:Clk}(h:Valid c){N:Nat}(hd:c.1.toNat∣N)(h0:0<N):(nums c N).length=N / c.1.toNat:=by
 obtain⟨h1,h2,h3⟩:=h;obtain⟨s,hs⟩:∃s:Nat,c.1=(s:Int):=⟨c.1.toNat,by lia⟩;obtain⟨r,hr⟩:∃r:Nat,c.2=(r:Int):=⟨c.2.toNat,by lia⟩;unfold nums;rw[List.length_map,List.length_range];rw[hs,Int.toNat_natCast] at hd ⊢;have s0:0<s:=by lia
 have hle:s≤N:=Nat.le_of_dvd h0 hd;unfold cntR;rw[hr,if_pos (by lia)];obtain⟨q,rfl⟩:=hd;rw[Nat.mul_div_cancel_left q s0];have hq:1≤q:=by
  cases q with
  |zero=>simp at h0
  |succ q=>lia
 have e:(((s*q:Nat):Int)-(r:Int)-1) / (s:Int)=(q:Int)-1:=by
  have:((s*q:Nat):Int)-(r:Int)-1=((s:Int)-r-1)+(s:Int)*((q:Int)-1):=by
   rw[Int.natCast_mul,Int.mul_sub,Int.mul_one];lia
  rw[this,Int.add_mul_ediv_left _ _ (by lia),Int.ediv_eq_zero_of_lt (by lia) (by lia)];lia
 rw[e];lia
theorem q2jz{c:Clk}(h:Valid c){N:Nat}(hd:c.1.toNat∣N)(h0:0<N):((List.range N).filter fun x:Nat=>rg x c).length=N / c.1.toNat:=by
 rw[←q2iz h hd h0];refine List.Perm.length_eq ((List.perm_ext_iff_of_nodup (List.nodup_range.filter _) (qmhz h N)).mpr fun x=>?_);rw[qe8z h,List.mem_filter,List.mem_range]
theorem qntz{p:Nat->Bool}:∀xs:List Nat,(xs.map fun x=>if p x=true then 1 else 0).sum=(xs.filter p).length
 |[]=>rfl
 |x::xs=>by
  rw[List.map_cons,List.sum_cons,qntz xs,List.filter_cons];split
  ·rw[List.length_cons];lia
  ·lia
theorem qnuz{f g:Nat->Nat}:∀xs:List Nat,(xs.map fun x=>f x+g x).sum=(xs.map f).sum+(xs.map g).sum
 |[]=>rfl
 |x::xs=>by
  rw[List.map_cons,List.sum_cons,qnuz xs,List.map_cons,List.sum_cons,List.map_cons,List.sum_cons];lia
theorem qfgz{N:Nat}(h0:0<N):∀{cs:List Clk},(∀c∈cs,Valid c/\c.1.toNat∣N)->((List.range N).map (cntN cs)).sum=topN cs N
 |[],_=>by
  have:∀xs:List Nat,(xs.map (cntN [])).sum=0:=fun xs=>by
   induction xs with
   |nil=>rfl
   |cons x xs ih=>rw[List.map_cons,List.sum_cons,ih];rfl
  rw[this];rfl
 |c::cs,h=>by
  have hc:=h c List.mem_cons_self;have e:(List.range N).map (cntN (c::cs))=(List.range N).map fun x:Nat=>(if rg x c=true then 1 else 0)+cntN cs x:=List.map_congr_left fun x _=>qmlz c cs x;rw[e,qnuz,qntz (p:=fun x:Nat=>rg x c),q2jz hc.1 hc.2 h0,qfgz h0 fun d hd=>h d (List.mem_cons_of_mem _ hd)];unfold topN;rw[List.map_cons,List.sum_cons]
theorem q2kz{cs:List Clk}(h0:0<rnd cs)(h1:shT cs=1)(h2:shB cs=1):topN cs (rnd cs)=rnd cs:=by
 unfold shT at h1;unfold shB at h2;have g1:=Nat.gcd_dvd_left (topN cs (rnd cs)) (rnd cs);have g2:=Nat.gcd_dvd_right (topN cs (rnd cs)) (rnd cs);have e1:=Nat.div_mul_cancel g1;have e2:=Nat.div_mul_cancel g2;rw[h1,Nat.one_mul] at e1;rw[h2,Nat.one_mul] at e2;lia
end My
namespace My
open PySem L2 L3
theorem q2lz{a b:Clk}(h:cLt a b)(h2:cLt b a):False:=by
 rcases h with h|⟨h,h'⟩<;>rcases h2 with g|⟨g,g'⟩<;>omega
end My
namespace My
open PySem L2 L3
theorem qnvz{cs:List Clk}(h:Rise cs):cs.Nodup:=h.imp fun {a b} q e=>by
 subst e;exact q2lz q q
end My
namespace My
open PySem L2 L3
end My
namespace My
open PySem L2 L3
def Once(cs:List Clk):Prop:=∀n:Int,(cs.filter (rg2 n)).length=1
theorem q2mz{α:Type}{p:α->Bool}{l:List α}{i j:Nat}{a b:α}(hij:i<j)(ha:l[i]?=some a)(hb:l[j]?=some b)(pa:p a=true)(pb:p b=true):2≤(l.filter p).length:=by
 rw[←List.take_append_drop j l,List.filter_append,List.length_append];have h1:0<((l.take j).filter p).length:=List.length_pos_of_mem (List.mem_filter.mpr ⟨List.mem_of_getElem? (i:=i) (by rw[List.getElem?_take,if_pos hij];exact ha),pa⟩);have h2:0<((l.drop j).filter p).length:=List.length_pos_of_mem (List.mem_filter.mpr ⟨List.mem_of_getElem? (i:=0) (by rw[List.getElem?_drop];exact hb),pb⟩);omega
theorem q2nz{cs:List Clk}(ok:ClOk 1000 cs)(h:Once cs):exB cs=true:=by
 have hv:∀c∈cs,Valid c:=fun c hc=>(ok c hc).1;have hpos:=qdvz fun z hz=>(hv z hz).1;have hone:∀x:Nat,cntN cs x=1:=fun x=>by
  unfold cntN;rw[←h (x:Int)];exact congrArg List.length (List.filter_congr fun c hc=>(qlqz (hv c hc) _).symm)
 have hs:=qfgz hpos (cs:=cs) fun c hc=>⟨hv c hc,qcqz hc⟩;have ht:topN cs (rnd cs)=rnd cs:=by
  rw[←hs,show (List.range (rnd cs)).map (cntN cs)=List.replicate (rnd cs) 1 from List.eq_replicate_iff.mpr ⟨by simp,fun b hb=>by
   obtain⟨x,_,rfl⟩:=List.mem_map.mp hb;exact hone x⟩,List.sum_replicate_nat,Nat.mul_one]
 have hcl:clashO cs=none:=by
  cases e:clashO cs with
  |none=>rfl
  |some v=>
   exfalso;unfold clashO at e;obtain⟨i,_,e1⟩:=List.exists_of_findSome?_eq_some e;unfold rowO at e1;obtain⟨j,_,e2⟩:=List.exists_of_findSome?_eq_some e1;unfold pairO at e2;cases ha:cs[i]? with
   |none=>rw[ha] at e2;cases e2
   |some a=>
    cases hb:cs[i+1+j]? with
    |none=>rw[ha,hb] at e2;cases e2
    |some b=>
     rw[ha,hb] at e2;have e2:(meetO a b).map (fun m=>(i,i+1+j,m.2))=some v:=e2;obtain⟨m,hm,_⟩:=Option.map_eq_some_iff.mp e2;obtain⟨_,m1,_,m3,m4⟩:=qyhz hm;have:=q2mz (p:=rg2 m.2) (show i<i+1+j by omega) ha hb (rg2_iff.mpr m3) (rg2_iff.mpr m4);rw[h] at this;omega
 unfold exB shT shB;rw[ht,hcl,Nat.gcd_self,Nat.div_self hpos];rfl
end My
namespace My
open PySem L2 L3
theorem qhiz{ns is:List Int}(hv:∀c∈ns.zip is,Valid c/\c.1≤24):covB ns is=true↔Cov (ns.zip is):=by
 unfold covB;rw[qffz,Option.isNone_iff_eq_none];constructor
 ·exact fun h x=>qmyz hv h x
 ·intro h;unfold nmO;rw[List.find?_eq_none];intro x _;have:=cnt_pos.mpr (h x);simpa using this
structure Ok(ns is:List Int):Prop where
 len:is.length=ns.length
 ok:∀c∈ns.zip is,0≤c.2/\c.2<c.1
theorem Ok.valid{ns is:List Int}(h:Ok ns is)(hs:∀n∈ns,2≤n/\n≤24):∀c∈ns.zip is,Valid c/\c.1≤24:=fun c hc=>by
 have h1:=h.ok c hc;have h2:=hs c.1 (List.of_mem_zip hc).1;exact⟨⟨by lia,h1.1,h1.2⟩,h2.2⟩
theorem mem_zip_iff{ns is:List Int}{c:Clk}:c∈ns.zip is↔∃k:Nat,ns[k]?=some c.1/\is[k]?=some c.2:=by
 constructor
 ·intro h;obtain⟨k,hk⟩:=List.getElem?_of_mem h;rw[List.getElem?_zip_eq_some] at hk;exact⟨k,hk⟩
 ·rintro⟨k,h1,h2⟩;exact List.mem_of_getElem? (i:=k) (List.getElem?_zip_eq_some.mpr ⟨h1,h2⟩)
theorem qnwz{ns ts:List Int}{rs:List (Option Int)}(h:Fits ns rs ts):Ok ns ts/\Cov (ns.zip ts):=by
 refine⟨⟨h.len,fun c hc=>?_⟩,fun x=>?_⟩
 ·obtain⟨k,h1,h2⟩:=mem_zip_iff.mp hc;exact h.ok k _ _ h2 h1
 ·obtain⟨k,n,h1,h2⟩:=h.cov x;exact⟨(n,(x:Int)%n),mem_zip_iff.mpr ⟨k,h1,h2⟩,by unfold rg;simp⟩
theorem q2oz{ns ts:List Int}{rs:List (Option Int)}(h:Ok ns ts)(hc:Cov (ns.zip ts))(hs:∀(k:Nat) (r:Int),rs[k]?=some (some r)->ts[k]?=some r):Fits ns rs ts:=by
 refine⟨h.len,fun k t n ht hn=>h.ok (n,t) (mem_zip_iff.mpr ⟨k,hn,ht⟩),hs,fun x=>?_⟩;obtain⟨c,hm,hr⟩:=hc x;obtain⟨k,h1,h2⟩:=mem_zip_iff.mp hm;refine⟨k,c.1,h1,?_⟩;unfold rg at hr;rw[beq_iff_eq] at hr;rw[h2,hr]
theorem comp_iff{ns:List Int}:Comp ns (preR ns [])↔∃ts,Ok ns ts/\Cov (ns.zip ts):=by
 constructor
 ·rintro⟨ts,h⟩;exact⟨ts,qnwz h⟩
 ·rintro⟨ts,h1,h2⟩;exact⟨ts,q2oz h1 h2 fun k r h=>by rw[preR_at] at h;simp at h⟩
theorem qnxz{ns is:List Int}(h:FirstR ns is)(hl:is.length=ns.length):Ok ns is/\Cov (ns.zip is):=by
 obtain⟨ts,hf⟩:=h.comp;have:ts=is:=by
  apply List.ext_getElem?;intro k;by_cases w:k<is.length
  ·have e:=List.getElem?_eq_getElem w;rw[hf.set k _ (preR_at.mpr e),e]
  ·rw[List.getElem?_eq_none (l:=is) (by lia),List.getElem?_eq_none (l:=ts) (by rw[hf.len];lia)]
 subst this;exact qnwz hf
theorem qnyz{ns is:List Int}(hl:is.length=ns.length)(R:Nat):topN (ns.zip is) R=topN (shC ns) R:=by
 unfold topN shC;have:(ns.zip is).map (fun c=>R / c.1.toNat)=((ns.zip is).map (·.1)).map (fun n=>R / n.toNat):=by rw[List.map_map];rfl
 rw[this,List.map_fst_zip (by lia),List.map_map];rfl
theorem qnzz(cs:List Clk)(a:Nat):rndF cs a=lcmF (cs.map fun c=>c.1.toNat) a:=by
 induction cs generalizing a with
 |nil=>rfl
 |cons c cs ih=>exact ih _
theorem qhjz{ns is:List Int}(hl:is.length=ns.length):rnd (ns.zip is)=rnd (shC ns):=by
 unfold rnd;rw[qnzz,qnzz];congr 1;have:(ns.zip is).map (fun c=>c.1.toNat)=((ns.zip is).map (·.1)).map Int.toNat:=by rw[List.map_map];rfl
 rw[this,List.map_fst_zip (by lia)];unfold shC;rw[List.map_map];rfl
theorem qhkz:∀{l:List Nat},(∀v∈l,1≤v)->l.length≤l.sum
 |[],_=>Nat.le_refl _
 |x::l,h=>by
  have h1:=h x List.mem_cons_self;have h2:=qhkz (l:=l) fun v hv=>h v (List.mem_cons_of_mem _ hv);rw[List.length_cons,List.sum_cons];lia
theorem q2pz{cs:List Clk}(hv:∀c∈cs,Valid c)(hc:Cov cs):rnd cs≤topN cs (rnd cs):=by
 have hp:=qdvz fun z hz=>(hv z hz).1;rw[←qfgz hp fun c h=>⟨hv c h,qcqz h⟩];have:=qhkz (l:=(List.range (rnd cs)).map (cntN cs)) fun v hv'=>by
  obtain⟨x,_,rfl⟩:=List.mem_map.mp hv';have:=cnt_pos.mpr (hc x);lia
 rwa [List.length_map,List.length_range] at this
theorem q2qz{cs:List Clk}(h:shT cs<shB cs):topN cs (rnd cs)<rnd cs:=by
 refine Nat.lt_of_not_le fun w=>?_;have:shB cs≤shT cs:=Nat.div_le_div_right w;lia
theorem q2rz{ns:List Int}(hs:∀n∈ns,2≤n/\n≤24)(h:shT (shC ns)<shB (shC ns)):¬Comp ns (preR ns []):=fun hc=>by
 obtain⟨ts,h1,h2⟩:=comp_iff.mp hc;have:=q2pz (fun c hc=>((h1.valid hs) c hc).1) h2;have h3:=q2qz h;rw[qnyz h1.len,qhjz h1.len] at this;lia
theorem qn0z:∀{l:List Nat},(∀v∈l,1≤v)->l.sum≤l.length->∀v∈l,v=1
 |[],_,_,v,hv=>nomatch hv
 |x::l,h,hs,v,hv=>by
  have hx:=h x List.mem_cons_self;have hl:=qhkz (l:=l) fun v hv=>h v (List.mem_cons_of_mem _ hv);rw[List.length_cons,List.sum_cons] at hs;rcases List.mem_cons.mp hv with rfl|hv
  ·lia
  ·exact qn0z (fun v hv=>h v (List.mem_cons_of_mem _ hv)) (by lia) v hv
theorem q2sz{c:Clk}{R:Nat}(hv:Valid c)(hd:c.1.toNat∣R)(x:Nat):rg (x:Int) c=rg ((x%R:Nat):Int) c:=by
 have h0:=hv.1;have e:c.1=((c.1.toNat:Nat):Int):=by lia
 unfold rg;rw[e,←Int.natCast_emod,←Int.natCast_emod,Nat.mod_mod_of_dvd _ hd]
theorem q2tz{ns is:List Int}(hs:∀n∈ns,2≤n/\n≤24)(h:Ok ns is)(hc:Cov (ns.zip is))(h1:shT (shC ns)=1)(h2:shB (shC ns)=1)(x:Nat):cntN (ns.zip is) x=1:=by
 have hv:∀c∈ns.zip is,Valid c:=fun c hc=>((h.valid hs) c hc).1;have hp:=qdvz fun z hz=>(hv z hz).1;have hp':=hp;rw[qhjz h.len] at hp';have ht:=q2kz hp' h1 h2;rw[←qnyz h.len,←qhjz h.len,←qfgz hp fun c hc=>⟨hv c hc,qcqz hc⟩] at ht;have key:=qn0z (l:=(List.range (rnd (ns.zip is))).map (cntN (ns.zip is))) (fun v hv'=>by
  obtain⟨x,_,rfl⟩:=List.mem_map.mp hv';have:=cnt_pos.mpr (hc x);lia) (by rw[ht,List.length_map,List.length_range];exact Nat.le_refl _)
 have e:cntN (ns.zip is) x=cntN (ns.zip is) (x%rnd (ns.zip is)):=by
  unfold cntN;congr 1;exact List.filter_congr fun c hc=>q2sz (hv c hc) (qcqz hc) x
 rw[e];exact key _ (List.mem_map.mpr ⟨_,List.mem_range.mpr (Nat.mod_lt _ hp),rfl⟩)
theorem q2uz{α:Type}{a:α}:∀{l:List α},l.Nodup->(∀b∈l,b=a)->l.length≤1
 |[],_,_=>Nat.zero_le _
 |[b],_,_=>Nat.le_refl _
 |b::c::l,hn,h=>by
  exfalso;have h1:=h b (by simp);have h2:=h c (by simp);rw[List.nodup_cons] at hn;exact hn.1 (by rw[h1,h2];simp)
theorem q2vz{ns is:List Int}{cs:List Clk}(hs:∀n∈ns,2≤n/\n≤24)(h:Ok ns is)(hc:Cov (ns.zip is))(h1:shT (shC ns)=1)(h2:shB (shC ns)=1)(hm:∀z,z∈cs↔z∈ns.zip is)(hn:cs.Nodup)(ok:ClOk 1000 cs):exB cs=true:=by
 have hv:∀c∈cs,Valid c:=fun c hc=>(ok c hc).1;have hone:∀x:Nat,cntN cs x=1:=fun x=>by
  have hz:=q2tz hs h hc h1 h2 x;unfold cntN at hz ⊢;obtain⟨a,ha⟩:=List.length_eq_one_iff.mp hz;have hle:=q2uz (a:=a) (l:=cs.filter (rg (x:Int))) (hn.sublist List.filter_sublist) fun b hb=>by
   obtain⟨hb1,hb2⟩:=List.mem_filter.mp hb;have:b∈(ns.zip is).filter (rg (x:Int)):=List.mem_filter.mpr ⟨(hm b).mp hb1,hb2⟩;rw[ha] at this;exact List.mem_singleton.mp this
  have:a∈cs.filter (rg (x:Int)):=by
   have:a∈(ns.zip is).filter (rg (x:Int)):=by rw[ha];exact List.mem_singleton.mpr rfl
   obtain⟨g1,g2⟩:=List.mem_filter.mp this;exact List.mem_filter.mpr ⟨(hm a).mpr g1,g2⟩
  have:=List.length_pos_of_mem this;lia
 refine q2nz ok fun n=>?_;have hN:=qdvz fun z hz=>(hv z hz).1;have hx:((n%(rnd cs:Nat)).toNat:Int)=n%(rnd cs:Nat):=Int.toNat_of_nonneg (Int.emod_nonneg _ (by lia));rw[qxhz hv];have e:cs.filter (rg n)=cs.filter (rg (((n%(rnd cs:Nat)).toNat:Nat):Int)):=List.filter_congr fun c hc=>by
  obtain⟨q,hq⟩:=qcqz hc;have h0:=(hv c hc).1;unfold rg;rw[hx];congr 1;refine (Int.emod_emod_of_dvd n ?_).symm;exact⟨(q:Int),by rw[hq,Int.natCast_mul,Int.toNat_of_nonneg (by lia)]⟩
 rw[e];exact hone _
theorem q2wz{ns:List Int}{k:Nat}{n m:Int}(hs:∀n∈ns,2≤n/\n≤24)(hk:ns[k]?=some n)(hm:0<m)(hd:m∣n)(h:Comp ns (preR ns [])):Comp (ns.set k m) (preR (ns.set k m) []):=by
 obtain⟨ts,h1,h2⟩:=comp_iff.mp h;have hkl:=(List.getElem?_eq_some_iff.mp hk).1;have hkt:k<ts.length:=by rw[h1.len];exact hkl
 have et:=List.getElem?_eq_getElem hkt;refine comp_iff.mpr ⟨ts.set k (ts[k]%m),⟨by rw[List.length_set,List.length_set];exact h1.len,fun c hc=>?_⟩,fun x=>?_⟩
 ·obtain⟨j,g1,g2⟩:=mem_zip_iff.mp hc;by_cases w:k=j
  ·subst w;rw[List.getElem?_set_self hkl] at g1;rw[List.getElem?_set_self hkt] at g2;cases g1;have g2:=Option.some.inj g2;rw[←g2];exact⟨Int.emod_nonneg _ (by lia),Int.emod_lt_of_pos _ hm⟩
  ·rw[List.getElem?_set_ne w] at g1 g2;exact h1.ok c (mem_zip_iff.mpr ⟨j,g1,g2⟩)
 ·obtain⟨c,hc,hr⟩:=h2 x;obtain⟨j,g1,g2⟩:=mem_zip_iff.mp hc;unfold rg at hr;rw[beq_iff_eq] at hr;by_cases w:k=j
  ·subst w;rw[hk] at g1;rw[et] at g2;have g1:=Option.some.inj g1;have g2:=Option.some.inj g2;refine⟨(m,ts[k]%m),mem_zip_iff.mpr ⟨k,List.getElem?_set_self hkl,List.getElem?_set_self hkt⟩,?_⟩;unfold rg;rw[beq_iff_eq];show (x:Int)%m=ts[k]%m;rw[g2,←hr,←g1,Int.emod_emod_of_dvd _ hd]
  ·refine⟨c,mem_zip_iff.mpr ⟨j,?_,?_⟩,?_⟩
   ·rw[List.getElem?_set_ne w];exact g1
   ·rw[List.getElem?_set_ne w];exact g2
   ·unfold rg;rw[beq_iff_eq];exact hr
theorem q2xz{ns:List Int}{m:Int}(hm:0<m)(h:Comp ns (preR ns [])):Comp (ns++[m]) (preR (ns++[m]) []):=by
 obtain⟨ts,h1,h2⟩:=comp_iff.mp h;have e:(ns++[m]).zip (ts++[0])=ns.zip ts++[(m,0)]:=List.zip_append h1.len.symm;refine comp_iff.mpr ⟨ts++[0],⟨by rw[List.length_append,List.length_append,h1.len];rfl,fun c hc=>?_⟩,fun x=>?_⟩
 ·rw[e] at hc;rcases List.mem_append.mp hc with hc|hc
  ·exact h1.ok c hc
  ·rw[List.mem_singleton.mp hc];exact⟨Int.le_refl _,hm⟩
 ·obtain⟨c,hc,hr⟩:=h2 x;exact⟨c,by rw[e];exact List.mem_append_left _ hc,hr⟩
theorem q2yz(ns:List Int):∀is:List Int,ns.foldl grow [is]=(allR ns).map (is++·):=by
 induction ns with
 |nil=>intro is;show [is]=[is++[]];rw[List.append_nil]
 |cons n ns ih=>
  intro is;show ns.foldl grow (grow [is] n)=(ns.foldl grow (grow [[]] n)).map _;rw[qcvz,qcvz ns (grow [[]] n),qdzz,qdzz,List.map_flatMap,List.flatMap_map,List.flatMap_map];congr 1;funext r;show ns.foldl grow [is++[(r:Int)]]=(ns.foldl grow [[]++[(r:Int)]]).map _;rw[ih,ih,List.map_map];congr 1;funext js;show is++[(r:Int)]++js=is++([]++[(r:Int)]++js);simp
theorem qn1z(n:Int)(ns:List Int):allR (n::ns)=(List.range n.toNat).flatMap fun r:Nat=>(allR ns).map ((r:Int)::·):=by
 show ns.foldl grow (grow [[]] n)=_;rw[qcvz,qdzz,List.flatMap_map];congr 1;funext r;rw[q2yz];rfl
theorem q2zz(n:Int)(ns:List Int):allR (ns++[n])=(allR ns).flatMap fun is=>(List.range n.toNat).map fun r:Nat=>is++[(r:Int)]:=by
 unfold allR;rw[List.foldl_append];rfl
theorem qn2z{α β:Type}(g:β->α)(h:β->List α):∀l:List β,(l.flatMap fun b=>g b::h b).Perm (l.map g++l.flatMap h)
 |[]=>.refl _
 |b::l=>by
  rw[List.flatMap_cons,List.map_cons,List.flatMap_cons,List.cons_append,List.cons_append];refine .cons _ ?_;refine ((qn2z g h l).append_left (h b)).trans ?_;rw[←List.append_assoc,←List.append_assoc];exact List.perm_append_comm.append_right _
theorem qn3z{α β γ:Type}(f:α->β->γ)(bs:List β):∀as:List α,(as.flatMap fun a=>bs.map (f a)).Perm (bs.flatMap fun b=>as.map fun a=>f a b)
 |[]=>by
  have:bs.flatMap (fun b=>([]:List α).map fun a=>f a b)=[]:=by
   rw[List.flatMap_eq_nil_iff];exact fun _ _=>rfl
  rw[this];exact .refl _
 |a::as=>by
  rw[List.flatMap_cons];refine .trans ?_ (qn2z (f a) (fun b=>as.map fun a=>f a b) bs).symm;exact (qn3z f bs as).append_left _
theorem qn4z:∀ns:List Int,(allR ns.reverse).Perm ((allR ns).map List.reverse)
 |[]=>.refl _
 |n::ns=>by
  rw[List.reverse_cons,q2zz,qn1z,List.map_flatMap];refine ((qn4z ns).flatMap_right _).trans ?_;rw[List.flatMap_map];refine (qn3z (fun is (r:Nat)=>List.reverse is++[(r:Int)]) (List.range n.toNat) (allR ns)).trans ?_;refine .of_eq ?_;congr 1;funext r;rw[List.map_map];congr 1;funext is;show is.reverse++[(r:Int)]=((r:Int)::is).reverse;rw[List.reverse_cons]
theorem qfhz:∀{ns is:List Int},(∀n∈ns,2≤n/\n≤24)->(is∈allR ns↔Ok ns is)
 |[],is,_=>by
  show is∈[[]]↔_;rw[List.mem_singleton];exact⟨fun h=>by subst h;exact⟨rfl,nofun⟩,fun h=>List.eq_nil_of_length_eq_zero h.len⟩
 |n::ns,is,hs=>by
  have h2:=hs n List.mem_cons_self;have ih:=fun js=>qfhz (ns:=ns) (is:=js) fun m hm=>hs m (List.mem_cons_of_mem _ hm);rw[qn1z,List.mem_flatMap];constructor
  ·rintro⟨r,hr,hm⟩;obtain⟨js,hj,rfl⟩:=List.mem_map.mp hm;have hr:=List.mem_range.mp hr;have ho:=(ih js).mp hj;refine⟨by rw[List.length_cons,List.length_cons,ho.len],fun c hc=>?_⟩;rw[List.zip_cons_cons] at hc;rcases List.mem_cons.mp hc with rfl|hc
   ·exact⟨by show (0:Int)≤r;lia,by show (r:Int)<n;lia⟩
   ·exact ho.ok c hc
  ·intro ho;cases is with
   |nil=>have:=ho.len;simp at this
   |cons i is=>
    have h0:=ho.ok (n,i) (by rw[List.zip_cons_cons];exact List.mem_cons_self);have h00:0≤i:=h0.1;have h01:i<n:=h0.2;refine⟨i.toNat,List.mem_range.mpr (by lia),List.mem_map.mpr ⟨is,(ih is).mpr ⟨by have:=ho.len;simpa using this,fun c hc=>ho.ok c (by rw[List.zip_cons_cons];exact List.mem_cons_of_mem _ hc)⟩,?_⟩⟩;rw[Int.toNat_of_nonneg h00]
theorem qn5z:∀{ns is:List Int},is.length=ns.length->ns.reverse.zip is.reverse=(ns.zip is).reverse
 |[],is,h=>by
  have:is=[]:=List.eq_nil_of_length_eq_zero h;subst this;rfl
 |n::ns,[],h=>by simp at h
 |n::ns,i::is,h=>by
  have h:is.length=ns.length:=by simpa using h
  rw[List.reverse_cons,List.reverse_cons,List.zip_append (by rw[List.length_reverse,List.length_reverse,h]),qn5z h];show _=((n,i)::ns.zip is).reverse;rw[List.reverse_cons];rfl
theorem q20z(cs:List Clk):nmO cs.reverse=nmO cs:=by
 unfold nmO;rw[List.length_reverse];congr 1;funext x;unfold cntN;rw[List.filter_reverse,List.length_reverse]
theorem q21z{ns is:List Int}(h:is.length=ns.length):covB ns.reverse is.reverse=covB ns is:=by
 unfold covB;rw[qffz,qffz,qn5z h,q20z]
theorem q22z{ns:List Int}(hs:∀n∈ns,2≤n/\n≤24):manyF ns.reverse ns.reverse.length []=manyF ns ns.length []:=by
 rw[qhez,qhez];have hp:=((qn4z ns).filter (covB ns.reverse)).length_eq;rw[hp,List.filter_map,List.length_map];congr 1;refine List.filter_congr fun is hi=>?_;exact q21z ((qfhz hs).mp hi).len
theorem q23z{ns:List Int}(hs:∀n∈ns,2≤n/\n≤24):0<manyF ns ns.length []↔Comp ns (preR ns []):=by
 rw[qhez,comp_iff];constructor
 ·intro h;obtain⟨is,hi⟩:=List.exists_mem_of_length_pos h;obtain⟨h1,h2⟩:=List.mem_filter.mp hi;have ho:=(qfhz hs).mp h1;exact⟨is,ho,(qhiz (ho.valid hs)).mp h2⟩
 ·rintro⟨is,h1,h2⟩;exact List.length_pos_of_mem (List.mem_filter.mpr ⟨(qfhz hs).mpr h1,(qhiz (h1.valid hs)).mpr h2⟩)
theorem qn6z{d:Nat}:∀{ms:List Nat} {a:Nat},a∣d->(∀m∈ms,m∣d)->lcmF ms a∣d
 |[],a,h,_=>h
 |m::ms,a,h,hm=>qn6z (ms:=ms) (a:=Nat.lcm a m) (Nat.lcm_dvd h (hm m List.mem_cons_self)) fun k hk=>hm k (List.mem_cons_of_mem _ hk)
theorem q24z{ns:List Int}(h:∀n∈ns,0<n/\n∣720):rndS ns≤720:=by
 refine Nat.le_of_dvd (by decide) (qn6z (Nat.one_dvd _) fun m hm=>?_);obtain⟨n,hn,rfl⟩:=List.mem_map.mp hm;obtain⟨h0,h1⟩:=h n hn;have e:n=((n.toNat:Nat):Int):=by lia
 rw[e] at h1;exact Int.natCast_dvd_natCast.mp h1
end My
namespace L3
open PySem PySem.Spec PyProof.Rows L2
theorem q25z(xs:List Value):slicePick xs.toArray none none (some (-1))=xs.reverse.toArray:=by
 have h1:(sliceRange ((xs.length:Int)-1) (-1) (-1)).filterMap (xs.toArray[·]?)=xs.reverse:=by
  have hc:(if ((xs.length:Int)-1) > -1 then (((xs.length:Int)-1)-(-1)-(-1)-1) / (-(-1)) else (0:Int)).toNat=xs.length:=by
   by_cases h:((xs.length:Int)-1) > -1
   ·rw[if_pos h,Int.neg_neg,Int.ediv_one];omega
   ·rw[if_neg h];omega
  unfold sliceRange;simp only[show ¬((-1:Int) > 0) by decide,if_false];rw[hc,List.filterMap_map];refine Eq.trans (qgnz fun m hm=>?_) (qv6z xs);show xs.toArray[((xs.length:Int)-1 + -1*(m:Int)).toNat]?=xs.toArray[((xs.length:Int)-1+(m:Int)*(-1)).toNat]?;rw[Int.mul_comm]
 unfold slicePick;rw[List.size_toArray];show ((sliceRange ((xs.length:Int)-1) (-1) (-1)).filterMap (xs.toArray[·]?)).toArray=_;rw[h1]
section
variable {X:Cx} {a:Expr} {ta:TE3} {te:TE} {pos p2 p3 p4:Pos} {j:Nat}
def tRevL(K:PySem.W.Frag)(te:TE):TE:=fun σ H Q=>te σ H fun x H1=>∃a xs,x=.ref a/\SqL K H1 a xs/\∀p,H1 p=none->Q (.ref p) (upd H1 p (.lst xs.reverse))
theorem q26z(he:PE X a te):PE X (.Subscript a (.Slice none none (some (.UnaryOp .USub (.Constant (.int 1) j p4) p3)) p2) pos) (tRevL X.K te):=by
 intro pins s σ H Q I h;refine Subscript_ (thn (he pins s σ H _ I h) fun v s1 ⟨x,H1,I1,r1,q1⟩=>?_);refine wpAny_Slice ?_;rw[evalPart_none];refine wpAny_pure (wpAny_pure ?_);rw[evalPart_some];refine thn (qqwz (pos:=p3) qqyz (qi1z (j:=j) (pos:=p4)) pins s1 σ H1 (fun y H'=>y=.int (-1)/\H'=H1) I1 ⟨1,rfl,rfl,rfl⟩) fun u s2 ⟨y,H2,I2,r2,e1,e2⟩=>?_;subst e1 e2;obtain⟨t,rfl⟩:=(show ∃t,u=Value.int (-1) t from r2);obtain⟨b,xs,rfl,hx,q⟩:=q1;cases (show v=Value.ref b from r1);have I4:Inv X pins σ H2 { s2 with heap:=s2.heap.push { cls:=.type "slice",data:=.fields #[.none,.none,.int (-1) t]}}:=I2.kept (t':=s2.toks) fun b ob q=>Heap.get?_push_of_some _ q
 obtain⟨its,r,ht,hz⟩:=I4.list hx;show wpAny (model X.prog X.w) X.A (subscriptTail a _ (.ref b) (.ref s2.heap.objs.size)) (EP X pins σ Q) X.xe { s2 with heap:=s2.heap.push { cls:=.type "slice",data:=.fields #[.none,.none,.int (-1) t]}};refine tail_any (ops:=[.ref b,.ref s2.heap.objs.size]) ht.isList.typeIs slot_list_getitem.lookup ?_ (by with_unfolding_all rfl);refine wpAny_getItem_list_slice ht.isList (Heap.IsSliceOf.new ..) .none .none (.int (-1) t) (by decide) ?_ (by rw[List.size_toArray,←r.length];exact hz);rw[q25z];refine⟨.ref _,_,I4.laid (t':=s2.toks) (o:=.lst xs.reverse) (fun b ob q=>Heap.get?_push_of_some _ q) (Nat.le_refl _) ?_,rfl,q _ (I4.hok.fresh (Nat.le_refl _))⟩;exact⟨by rw[List.length_reverse];exact hz,_,0,r.reverse,Heap.get?_push_size _ rfl⟩
def eRevL(ta:TE3):TE3:=fun τ G Q=>ta τ G fun x G1=>match x with
 |.obj a=>∃ds,G1 a=some (.lst ds)/\∀p G2,New G1 p (.lst ds.reverse) G2->Q (.obj p) G2
 |_=>False
theorem q27z(ha:PE3 X a ta):PE3 X (.Subscript a (.Slice none none (some (.UnaryOp .USub (.Constant (.int 1) j p4) p3)) p2) pos) (eRevL ta):=q0z (q26z ha) fun σ H Q ⟨τ,G,Q3,RS,RG,h,k⟩=>by
 refine⟨τ,G,_,RS,RG,h,fun v H1 d G1 h1 S1 R1 q1=>?_⟩;cases d with
 |obj b=>
  obtain⟨ds,e1,q⟩:=q1;obtain⟨vs,e2,e3⟩:=R1 b _ e1;rw[q2z h1];exact⟨b,vs,rfl,.of e2,fun p hp=>k _ _ (.obj p) _ qbaz (S1.trans (.laidG hp)) (R1.newL hp e3.rev) (q p _ (.mk' (R1.free hp)))⟩
 |_=>exact q1.elim
theorem q28z(ha:QE X a ta):QE X (.Subscript a (.Slice none none (some (.UnaryOp .USub (.Constant (.int 1) j p4) p3)) p2) pos) (eRevL ta):=⟨q27z (ha:=ha.of)⟩
end
end L3
namespace L3
open PySem PySem.Spec PyProof.Rows L2
def del3(G:Gp)(a:Addr):Gp:=fun b=>if b=a then none else G b
theorem qhlz{G:Gp}{a b:Addr}(h:b≠a):del3 G a b=G b:=by simp[del3,h]
theorem New.del{G G1:Gp}{p:Addr}{o:GO}(n:New G p o G1):Sub G (del3 G1 p):=fun a u e=>by
 rw[qhlz]
 ·exact n.sub a u e
 ·intro z;rw[z,n.non] at e;cases e
section
variable {X:Cx} {e:Expr} {ta:TE3} {pins:List (Addr×Obj)} {σ:L2.St} {H:Hp} {s:Shared} {a:Addr} {xs:List V}
theorem q29z(I:Inv X pins σ H s)(h:H a=some (.lst xs)):∃o,Inv X pins σ (upd H a (.frz o (.lst xs))) s:=by
 obtain⟨z,its,n,r,p⟩:=I.hok a _ h;exact⟨_,I.write (e:=a) (h':=s.heap) (t':=s.toks) (by rw[h];trivial) (.inl rfl) (fun b u _ q=>q) ⟨_,p⟩ ⟨p,z,its,n,r,p⟩⟩
def eFrz(ta:TE3):TE3:=fun τ G Q=>ta τ G fun x G1=>match x with
 |.obj a=>∃ds,G1 a=some (.lst ds)/\Q (.scr ds) (del3 G1 a)
 |_=>False
theorem q3az(ha:PE3 X e ta):PE3 X e (eFrz ta):=by
 intro pins s σ H Q I ⟨τ,G,Q3,RS,RG,h,kk⟩;refine thn (ha pins s σ H (fun v H1=>∃d G1,Hv X.K H1 d v/\Step H G H1 G1/\RepG X.K G1 H1/\(match d with
  |.obj a=>∃ds,G1 a=some (.lst ds)/\Q3 (.scr ds) (del3 G1 a)
  | _=>False)) I ⟨τ,G,_,RS,RG,h,fun v H1 d G1 a b c q=>⟨d,G1,a,b,c,q⟩⟩) fun u s1 ⟨v,H1,I1,r1,d,G1,hd,S1,R1,q⟩=>?_
 cases d with
 |obj a=>
  obtain⟨ds,e1,q⟩:=q;obtain⟨vs,e2,e3⟩:=R1 a _ e1;obtain⟨o,I2⟩:=q29z I1 e2;refine⟨v,_,I2,r1,kk v _ (.scr ds) _ ?_ ⟨fun b u f n=>?_,fun b f=>?_,fun b n f=>?_⟩ (fun b u f=>?_) q⟩
  ·unfold Hv;exact⟨a,vs,q2z hd,.inl ⟨o,qvz⟩,e3.ext (.wrote e2)⟩
  ·by_cases z:b=a
   ·subst z;rw[S1.new b n (by rw[e1];exact nofun)] at f;cases f
   ·rw[qlz z];exact S1.fr b u f n
  ·by_cases z:b=a
   ·subst z;rw[qvz];exact nofun
   ·rw[qlz z];exact S1.trk b f
  ·by_cases z:b=a
   ·subst z;exact absurd (show del3 G1 b b=none by simp[del3]) f
   ·rw[qhlz z] at f;exact S1.new b n f
  ·by_cases z:b=a
   ·subst z;rw[show del3 G1 b b=none by simp[del3]] at f;cases f
   ·rw[qhlz z] at f;exact (R1 b u f).ext (.wrote e2) (by rw[qlz z])
 |_=>exact q.elim
theorem qazz(ha:QE X e ta):QE X e (eFrz ta):=⟨q3az ha.of⟩
end
end L3
namespace My
open PySem L2 L3
def qb0z:Sp3:=fun ds G Q=>∃ns:List Int,ds=[stD ns]/\St ns/\Q .non G
def qn7z:TS3:=sIf (eNot (eTest (eCall qdwz (aCons (eVar 0) (aNil))))) (sNever) (sNext)
theorem q3bz:∀ds G Q,qb0z ds G Q->qn7z (endsOf Q) (start3 ["thing"] ds) G:=by
 rintro ds G Q ⟨ns,rfl,hs,q⟩;refine⟨stD ns,rfl,hs.kn,fun h=>?_,fun _=>qhz q⟩;rw[hs.stB] at h;cases h
def qcfz:Sp3:=fun ds G Q=>∃ns:List Int,ds=[stD ns]/\St ns/\rndS ns≤10000/\Q .non G
def q3cz:TS3:=sDrop (eCall qbxz (aCons (eCall qcrz (aCons (eVar 0) (aNil))) (aCons (eC (.int 10000)) (aNil))))
def qn8z:TS3:=sSeq (sDrop (eCall qb0z (aCons (eVar 0) (aNil)))) q3cz
theorem q3dz:∀ds G Q,qcfz ds G Q->qn8z (endsOf Q) (start3 ["steps"] ds) G:=by
 rintro ds G Q ⟨ns,rfl,hs,hr,q⟩;refine⟨ns,rfl,hs,_,ns.map Int.toNat,rfl,nofun,(q0lz hs.st).symm,fun k hk=>?_,by rw[List.length_map];have:=hs.l6;lia,_,_,rfl,?_,qhz q⟩
 ·obtain⟨n,hm,rfl⟩:=List.mem_map.mp hk;have:=hs.st n hm;lia
 ·show ((rndS ns:Nat):Int)≤10000;lia
def qcgz:Sp3:=fun ds G Q=>∃ns:List Int,ds=[stD ns]/\St ns/\rndS ns≤10000/\(¬Comp ns (preR ns [])->∀G',Sub G G'->Q .non G')/\∀is,FirstR ns is->is.length=ns.length->∀G',Sub G G'->Q (.tup (is.map D.int)) G'
def q3ez:TS3:=sAsg (eCall qcxz (aCons (eVar 0) (aCons (eVar 4) (aNil)))) (hName 1)
def qn9z:TS3:=sSeq (sAsg (eComp ["rest"] [1,2] (iRng1 (aCons (eVar 3) (aNil))) (hName 0) (tNoTest3) (eCall qbwz (aCons (eVar 1) (aCons (eVar 2) (aCons (eVar 0) (aNil)))))) (hName 4)) q3ez
def q3fz:TS3:=sRet (eCB qbez (aCons (eVar 1) (aNil)))
def q3gz:TS3:=sSeq (sFor (iEnum (aCons (eVar 0) (aNil))) (hTup 2 (hCons (hName 2) (hCons (hName 3) (hNil)))) (qn9z)) q3fz
def q3hz:TS3:=sSeq (sIf (eNot (eTest (eCall qcez (aCons (eVar 0) (aCons (eVar 1) (aNil)))))) (sRet (eC .non)) (sNext)) q3gz
def q3iz:TS3:=sSeq (sAsg (eOp rMul3 (eLst (aCons (eC .non) (aNil))) (eCB qsz (aCons (eVar 0) (aNil)))) (hName 1)) q3hz
def qoaz:TS3:=sSeq (sDrop (eCall qcfz (aCons (eVar 0) (aNil)))) q3iz
def ForJ(G:Gp)(ns:List Int)(ds:List D)(τ:S3)(G':Gp):Prop:=∃(is:List Int) (q:Addr) (x2 x3 x4:Option D),ds=(((List.range ns.length).zip ns).drop is.length).map (fun p=>D.tup [nD p.1,D.int p.2])/\τ=[some (stD ns),some (.obj q),x2,x3,x4]/\G' q=some (.lst ((preR ns is).map rD))/\FirstR ns is/\Sub G G'
theorem q3jz{G:Gp}{ns:List Int}{D3:Ends3}{n:Int}{q:Addr}{is:List Int}{x4:Option D}{G1:Gp}{ds:List D}(en:ns[is.length]?=some n)(hq:G1 q=some (.lst ((preR ns is).map rD)))(hf:FirstR ns is)(s1:Sub G G1)
  (e:ds=(((List.range ns.length).zip ns).drop (is.length+1)).map (fun p=>D.tup [nD p.1,D.int p.2])) (hN:∀τ' G',ForJ G ns ds τ' G'->D3.nx τ' G'):qn9z D3 [some (stD ns),some (.obj q),some (nD is.length),some (.int n),x4] G1:=by
 have hjl:is.length<ns.length:=(List.getElem?_eq_some_iff.mp en).1;have hr:=hf.ok;have hn2:=hr.st n (List.mem_of_getElem? en);have h6:=hr.n6;have hrl:=hr.len;obtain⟨m,rfl⟩:∃m:Nat,n=(m:Int):=⟨n.toNat,by lia⟩;have hop:is.length∈opens (preR ns is):=open_at.mpr (qfez (Nat.le_refl _) hjl);refine⟨⟨by lia,by lia⟩,?_,?_⟩
 ·show (rngL 0 ((m:Int)).toNat).length≤sizeLine;rw[qbqz];exact line1000 (by lia)
 show compGo _ _ _ _ _ (rngL 0 ((m:Int)).toNat) _ _ _;rw[Int.toNat_natCast,rng0];refine qclz (fun ds acc τ G'=>Sub G1 G'/\∃(i:Nat) (zs:RsL) (x:Option D),ds=((List.range m).drop i).map nD/\acc=zs.map (fun z=>D.obj z.1)/\(∀z∈zs,G' z.1=some (.lst (z.2.map rD)))/\zs.map (·.2)=((List.range m).take i).map (fun r:Nat=>preR ns (is++[(r:Int)]))/\τ=[x,some (.obj q),some (nD is.length)]) (fun _ _ _ _ _=>trivial) ?_ ?_ _ _ _ _ ⟨Sub.refl _,0,[],none,rfl,rfl,nofun,rfl,rfl⟩
 ·rintro d ds' acc τ G2 K1 K2 ⟨s2,i,zs,x,e1,rfl,hz,hi,rfl⟩ g1 g2;obtain⟨him,rfl,rfl⟩:=range_drop e1;refine⟨fun _=>⟨q,_,is.length,(i:Int),rfl,s2 _ _ hq,by lia,by lia,fun p5 G5 n5=>?_⟩,nofun⟩;rw[qcyz hjl] at n5;refine g1 _ _ _ ⟨s2.trans n5.sub,i+1,zs++[(p5,preR ns (is++[(i:Int)]))],_,rfl,by simp,fun z hz'=>?_,?_,rfl⟩
  ·rcases List.mem_append.mp hz' with h|h
   ·exact n5.sub _ _ (hz z h)
   ·have:z=(p5,preR ns (is++[(i:Int)])):=by simpa using h
    subst this;exact n5.at_
  ·rw[List.map_append,hi,List.take_add_one,List.map_append,List.getElem?_range him];rfl
 ·rintro acc τ G2 ⟨s2,i,zs,x,e1,rfl,hz,hi,rfl⟩ p6 G6 n6;have him:m≤i:=by
   have:=congrArg List.length e1;rw[List.length_map,List.length_drop,List.length_range] at this;have:0=m-i:=this;lia
  rw[List.take_of_length_le (by rw[List.length_range];exact him)] at hi;have hzr:∀z∈zs,∃r:Nat,r<m/\z.2=preR ns (is++[(r:Int)]):=fun z h=>by
   have:z.2∈zs.map (·.2):=List.mem_map_of_mem h;rw[hi] at this;obtain⟨r,hrm,e⟩:=List.mem_map.mp this;exact⟨r,List.mem_range.mp hrm,e.symm⟩
  have hrok:∀r:Nat,r<m->RsOk ns (preR ns (is++[(r:Int)])):=fun r h=>by
   rw[←qcyz hjl];exact hr.with en (by lia) (by lia)
  refine⟨p6,ns,zs,rfl,n6.at_,fun z h=>?_,?_,fun pre z post hzs hpre hcz G7 s7=>?_⟩
  ·obtain⟨r,hrm,h2⟩:=hzr z h;exact⟨n6.sub _ _ (hz z h),by rw[h2];exact hrok r hrm⟩
  ·obtain⟨ts,hts⟩:=hf.comp;have hjt:is.length<ts.length:=by rw[hts.len];exact hjl
   have et:=List.getElem?_eq_getElem hjt;obtain⟨t0,t1⟩:=hts.ok _ _ _ et en;have hm:preR ns (is++[ts[is.length]])∈zs.map (·.2):=by
    rw[hi];exact List.mem_map.mpr ⟨ts[is.length].toNat,List.mem_range.mpr (by lia),by rw[Int.toNat_of_nonneg t0]⟩
   obtain⟨z,h1,h2⟩:=List.mem_map.mp hm;refine⟨z,h1,?_⟩;rw[h2,←qcyz hjl];exact qhaz hts hop et
  ·have hzm:z∈zs:=by rw[hzs];simp
   -- z is the r-th of them,those ahead are left aside
   have hpl:pre.length<m:=by
    have:=congrArg List.length hi;rw[List.length_map,List.length_map,List.length_range,hzs,List.length_append,List.length_cons] at this;lia
   have hz2:z.2=preR ns (is++[((pre.length:Nat):Int)]):=by
    have h1:(zs.map (·.2))[pre.length]?=some z.2:=by rw[hzs,List.map_append,List.getElem?_append_right (by simp)];simp
    rw[hi,List.getElem?_map,List.getElem?_range hpl] at h1;exact (Option.some.inj h1).symm
   have hbefore:∀r:Nat,r<pre.length->¬Comp ns (preR ns (is++[(r:Int)])):=fun r hrp=>by
    have h1:(zs.map (·.2))[r]?=some (pre[r]'hrp).2:=by rw[hzs,List.map_append,List.getElem?_append_left (by simpa using hrp),List.getElem?_map,List.getElem?_eq_getElem hrp];rfl
    rw[hi,List.getElem?_map,List.getElem?_range (by lia)] at h1;have h1:=Option.some.inj h1;have h2:=hpre _ (List.getElem_mem hrp);rw[←h1] at h2;exact h2
   have e7:=s7 _ _ (n6.sub _ _ (hz z hzm));rw[hz2] at e7 hcz;refine hN _ _ ⟨is++[((pre.length:Nat):Int)],z.1,_,_,_,by rw[List.length_append,List.length_singleton];exact e,rfl,e7,⟨by rw[List.length_append,List.length_singleton];lia,hrok _ hpl,hcz,fun k t hk r r0 rt=>?_⟩,s1.trans (s2.trans (n6.sub.trans s7))⟩;rcases Nat.lt_trichotomy k is.length with w|w|w
   ·rw[List.getElem?_append_left w] at hk;rw[List.take_append_of_le_length (by lia)];exact hf.fst k t hk r r0 rt
   ·subst w;rw[List.getElem?_append_right (Nat.le_refl _),Nat.sub_self] at hk;have hk:((pre.length:Nat):Int)=t:=Option.some.inj hk;rw[List.take_append_of_le_length (Nat.le_refl _),List.take_length];have:=hbefore r.toNat (by lia);rw[Int.toNat_of_nonneg r0] at this;exact this
   ·rw[List.getElem?_eq_none (by rw[List.length_append,List.length_singleton];lia)] at hk;cases hk
theorem q3kz:∀ds G Q,qcgz ds G Q->qoaz (endsOf Q) (start3 ["steps","rests","place","step","tried"] ds) G:=by
 rintro ds G Q ⟨ns,rfl,hs,hrn,qn,qt⟩;refine⟨ns,rfl,hs,hrn,?_⟩;refine none_list (τ:=[none,none,none,none]) hs fun p G2 n2=>⟨p,ns,_,rfl,n2.at_,hs.rs,fun hc G3 s3=>⟨nofun,fun _=>?_⟩,fun hc G3 s3=>⟨fun _=>qhz (qn hc G3 (n2.sub.trans s3)),nofun⟩⟩;refine⟨ns.map D.int,rfl,?_⟩;rw[qg7z D.int ns];refine q1z (ForJ G ns) (fun _ _ _ _=>rfl) ?_ ?_ _ _ _ ⟨[],p,none,none,none,rfl,rfl,s3 _ _ n2.at_,⟨Nat.zero_le _,hs.rs,hc,fun k t h=>by simp at h⟩,n2.sub.trans s3⟩
 ·rintro d ds τ G4 N ⟨is,q,x2,x3,x4,e,rfl,hq,hf,s4⟩ hN;cases hd:((List.range ns.length).zip ns).drop is.length with
  |nil=>rw[hd] at e;cases e
  |cons z zs=>
   rw[hd] at e;cases e;obtain⟨z1,z2,z3⟩:=qnnz hd.symm;refine⟨rfl,?_⟩;rw[z1];exact q3jz z2 hq hf s4 (by rw[z3]) hN
 ·rintro τ G4 ⟨is,q,x2,x3,x4,e,rfl,hq,hf,s4⟩;have hj:ns.length≤is.length:=by
   have:=congrArg List.length e;rw[List.length_map,List.length_drop,List.length_zip,List.length_range] at this;have:0=min ns.length ns.length-is.length:=this;lia
  have hle:=hf.le;refine⟨_,hq,?_⟩;rw[qnpz (by lia),List.map_map];exact qhz (qt is hf (by lia) G4 s4)
def qd2z:Sp3:=fun ds G Q=>∃ns:List Int,ds=[stD ns]/\St ns/\rndS ns≤10000/\∀G',Sub G G'->Q (casF 10 ns (preR ns [])) G'
def q3lz:TS3:=sRet (eCall (qblz 40) (aCons (eVar 0) (aCons (eOp rMul3 (eLst (aCons (eC .non) (aNil))) (eCB qsz (aCons (eVar 0) (aNil)))) (aNil))))
def qobz:TS3:=sSeq (sDrop (eCall qcfz (aCons (eVar 0) (aNil)))) q3lz
theorem q3mz:∀ds G Q,qd2z ds G Q->qobz (endsOf Q) (start3 ["steps"] ds) G:=by
 rintro ds G Q ⟨ns,rfl,hs,hrn,q⟩;refine⟨ns,rfl,hs,hrn,?_⟩;have hol:=qfdz (List.replicate ns.length (none:Option Int));have h6:=hs.l6;rw[List.length_replicate] at hol;exact none_list (τ:=[]) hs fun p G2 n2=>⟨p,ns,_,10,rfl,n2.at_,hs.rs,by lia,by decide,fun G3 s3=>qhz (q G3 (n2.sub.trans s3))⟩
def qd3z:Sp3:=fun ds G Q=>∃(ns:List Int) (d:D),ds=[stD ns,d]/\St ns/\KnD G d/\depD d<40/\∀G',Sub G G'->Q (.bl (casesB ns (List.replicate ns.length none) d)) G'
def q3nz:TS3:=sRet (eCall (qbzz 40) (aCons (eVar 0) (aCons (eOp rMul3 (eLst (aCons (eC .non) (aNil))) (eCB qsz (aCons (eVar 0) (aNil)))) (aCons (eVar 1) (aNil)))))
def qocz:TS3:=sSeq (sDrop (eCall qb0z (aCons (eVar 0) (aNil)))) q3nz
theorem q3oz:∀ds G Q,qd3z ds G Q->qocz (endsOf Q) (start3 ["steps","thing"] ds) G:=by
 rintro ds G Q ⟨ns,d,rfl,hs,hk,hd,q⟩;refine⟨ns,rfl,hs,?_⟩;exact none_list (τ:=[_]) hs fun p G2 n2=>⟨p,ns,_,d,rfl,n2.at_,hk.sub n2.sub,hd,q1nz hs,fun G3 s3=>qhz (q G3 (n2.sub.trans s3))⟩
def qd4z:Sp3:=fun ds G Q=>∃(ns:List Int) (d:D),ds=[stD ns,d]/\St ns/\KnD G d/\rndS ns≤10000/\∀G',Sub G G'->Q (.bl (restsB ns d)) G'
def q3pz:TS3:=sRet (eAndV (eCall qd0z (aCons (eVar 0) (aCons (eVar 1) (aNil)))) (eCall qctz (aCons (eVar 0) (aCons (eVar 1) (aNil)))))
def qodz:TS3:=sSeq (sDrop (eCall qcfz (aCons (eVar 0) (aNil)))) q3pz
theorem q3qz:∀ds G Q,qd4z ds G Q->qodz (endsOf Q) (start3 ["steps","thing"] ds) G:=by
 rintro ds G Q ⟨ns,d,rfl,hs,hk,hrn,q⟩;refine⟨ns,rfl,hs,hrn,?_⟩;have hp:∀n∈ns,0<n:=fun n hn=>by have:=hs.st n hn;lia
 refine⟨ns,d,rfl,hs.l6,hk,fun G2 s2=>⟨fun hf=>?_,fun hf=>?_⟩⟩
 ·have hf:formR ns d=true:=hf;unfold restsB at q;rw[hf,Bool.true_and] at q;obtain⟨is,rfl,h2,h3⟩:=q2cz hf;have e:optsD (.tup (is.map D.int))=is.map some:=by
   show (is.map D.int).map optD=_;rw[List.map_map];rfl
  rw[e] at q;exact⟨_,ns,is.map some,rfl,by show (is.map some).map rD=is.map D.int;rw[List.map_map];rfl,hp,hs.l6,qhz (q G2 s2)⟩
 ·have hf:formR ns d=false:=hf;unfold restsB at q;rw[hf,Bool.false_and] at q;exact qhz (q G2 s2)
def qczz:Sp3:=fun ds G Q=>∃ns:List Int,ds=[stD ns]/\St ns/\prodS ns≤3000/\∀G',Sub G G'->Q (nD (manyF ns ns.length [])) G'
def q3rz:TS3:=sAsg (eOp rMul3 (eVar 1) (eVar 2)) (hName 1)
def q3sz:TS3:=sRet (eCall (qbyz 40) (aCons (eVar 0) (aCons (eLst (aNil)) (aNil))))
def q3tz:TS3:=sSeq (sDrop (eCall qbxz (aCons (eVar 1) (aCons (eC (.int 3000)) (aNil))))) q3sz
def q3uz:TS3:=sSeq (sFor (iSeq (eVar 0)) (hName 2) (q3rz)) q3tz
def q3vz:TS3:=sSeq (sAsg (eC (.int 1)) (hName 1)) q3uz
def qoez:TS3:=sSeq (sDrop (eCall qb0z (aCons (eVar 0) (aNil)))) q3vz
theorem q3wz:∀ds G Q,qczz ds G Q->qoez (endsOf Q) (start3 ["steps","product","step"] ds) G:=by
 rintro ds G Q ⟨ns,rfl,hs,hpr,q⟩;obtain⟨hp1,hp2⟩:=hs.prod;refine⟨ns,rfl,hs,?_⟩;refine q1z (fun ds τ G'=>G'=G/\∃(ms:List Int) (a:Int) (x2:Option D),ds=ms.map D.int/\τ=[some (stD ns),some (.int a),x2]/\1≤a/\(∀m∈ms,2≤m/\m≤24)/\ms.foldl (· * ·) a=prodS ns) (fun _ _ _ _=>trivial) ?_ ?_ _ _ _ ⟨rfl,ns,1,none,rfl,rfl,by decide,hs.st,rfl⟩
 ·rintro d ds τ G2 N ⟨rfl,ms,a,x2,e,rfl,a1,hm,hf⟩ hN;cases ms with
  |nil=>cases e
  |cons m ms=>
   cases e;have h2:=hm m List.mem_cons_self;have hge:=qfaz hm a1;rw[hf] at hge;have h3:a*1≤a*m:=Int.mul_le_mul_of_nonneg_left (by lia) (by lia);exact⟨⟨qtz (by lia) (by lia),qtz (by lia) (by lia)⟩,hN _ _ ⟨rfl,ms,a*m,_,rfl,rfl,by lia,fun y hy=>hm y (List.mem_cons_of_mem _ hy),hf⟩⟩
 ·rintro τ G2 ⟨rfl,ms,a,x2,e,rfl,a1,hm,hf⟩;cases ms with
  |cons m ms=>cases e
  |nil=>
   have hf:a=prodS ns:=hf;subst hf;have h6:=hs.l6;exact⟨_,3000,rfl,hpr,fun p4 G4 n4=>⟨p4,ns,[],rfl,n4.at_,hs,Nat.zero_le _,by show ns.length-0<40;lia,fun G5 s5=>qhz (q G5 (n4.sub.trans s5))⟩⟩
def qc0z:Sp3:=fun ds G Q=>∃ns:List Int,ds=[stD ns]/\St ns/\∀G',Sub G G'->Q (.tup [nD (shT (shC ns)),nD (shB (shC ns))]) G'
def q3xz:TS3:=sRet (eCall qcmz (aCons (eCB qbez (aCons (eComp ["step"] [] (iSeq (eVar 0)) (hName 0) (tNoTest3) (eTup (aCons (eVar 0) (aCons (eC (.int 0)) (aNil))))) (aNil))) (aNil)))
def qofz:TS3:=sSeq (sDrop (eCall qb0z (aCons (eVar 0) (aNil)))) q3xz
theorem q3yz:∀ds G Q,qc0z ds G Q->qofz (endsOf Q) (start3 ["steps"] ds) G:=by
 rintro ds G Q ⟨ns,rfl,hs,q1⟩;have h6:=hs.l6;refine⟨ns,rfl,hs,by show (ns.map D.int).length≤sizeLine;rw[List.length_map];exact line1000 (by lia),?_⟩;refine qabz (fun τ=>∃x,τ=[x]) D.int (fun _=>true) (fun n=>cD (n,0)) (G:=G) trivial ns [] _ ⟨none,rfl⟩ ?_ ?_
 ·rintro n hm τ K1 K2 ⟨x,rfl⟩ h1 h2;exact⟨fun _=>h1 rfl _ ⟨_,rfl⟩,nofun⟩
 ·intro p G' n';rw[filter_all,List.nil_append] at n';refine⟨_,n'.at_,shC ns,?_,fun c hc=>?_,by unfold shC;rw[List.length_map];lia,qhz (q1 G' n'.sub)⟩
  ·unfold csD shC;rw[List.map_map];rfl
  ·obtain⟨n,hm,rfl⟩:=List.mem_map.mp hc;have:=hs.st n hm;exact⟨⟨by show 0<n;lia,by show (0:Int)≤0;lia,by show 0<n;lia⟩,by show n≤1000;lia⟩
theorem qogz:∀ns:List Int,toDats0 (ns.map D.int)=some (ns.map Dat.D.int)
 |[]=>rfl
 |n::ns=>by
  show (match toDat0 (.int n) with
   |some x=>match toDats0 (ns.map D.int) with
    |some xs=>some (x::xs)
    |none=>none
   | none=>none)=_
  rw[qogz ns];rfl
theorem qohz:∀ns:List Int,Dat.deps (ns.map Dat.D.int)=0
 |[]=>rfl
 |n::ns=>by
  show max 0 (Dat.deps (ns.map Dat.D.int))=0;rw[qohz ns];rfl
def enD(p:Nat×Clk):D:=.tup [nD p.1,cD p.2]
theorem q3zz(cs:List Clk):enumD (cs.map cD)=((List.range cs.length).zip cs).map enD:=by
 unfold enumD;rw[List.length_map,rng0];exact qcnz nD cD _ _
theorem q30z{c:Clk}(hv:Valid c)(h:c.1≤1000):clkB (cD c)=true:=by
 obtain⟨h1,h2,h3⟩:=hv;show ((decide (1≤c.1)&&decide (c.1≤1000))&&(decide (0≤c.2)&&decide (c.2<c.1)))=true;rw[decide_eq_true (show 1≤c.1 by lia),decide_eq_true h,decide_eq_true h2,decide_eq_true h3];rfl
theorem q31z(zs:List Clk)(c:Clk):(zs.map cX).any (fun v=>v.eqb (cX c))=decide (c∈zs):=by
 rw[List.any_map,Bool.eq_iff_iff,List.any_eq_true,decide_eq_true_iff];constructor
 ·rintro⟨x,hx,h⟩;have h':(cX x).eqb (cX c)=true:=h;rw[qloz,decide_eq_true_iff] at h';rw[←h'];exact hx
 ·intro h;refine⟨c,h,?_⟩;show (cX c).eqb (cX c)=true;rw[qloz];simp
def qd5z:Sp3:=fun ds G Q=>∃cs:List Clk,ds=[.scr (cs.map cD)]/\ClOk 1000 cs/\cs.Nodup/\cs.length≤12/\∀cs' G',(∀z,z∈cs'↔z∈cs)->Rise cs'->cs'.length=cs.length->Sub G G'->Q (csD cs') G'
def q32z:TS3:=sDrop (eM qeqz (eVar 1) (aCons (eVar 3) (aNil)))
def q33z:TS3:=sSeq (sIf (eOr (eNot (eTest (eCall qdnz (aCons (eVar 3) (aNil))))) (eOr (eTest (eOp (rIn3 false) (eVar 3) (eVar 1))) (eTest (eOp (rEq3 false) (eCB qsz (aCons (eVar 1) (aNil))) (eC (.int 12)))))) (sNever) (sNext)) q32z
def q34z:TS3:=sRet (eCB qbez (aCons (eCB qewz (aCons (eVar 1) (aNil))) (aNil)))
def q35z:TS3:=sSeq (sFor (iEnum (aCons (eVar 0) (aNil))) (hTup 2 (hCons (hName 2) (hCons (hName 3) (hNil)))) (q33z)) q34z
def qoiz:TS3:=sSeq (sAsg (eLst (aNil)) (hName 1)) q35z
theorem q36z:∀ds G Q,qd5z ds G Q->qoiz (endsOf Q) (start3 ["things","found","place","thing"] ds) G:=by
 rintro ds G Q ⟨cs,rfl,ok,nd,hl,q⟩ q1 G1 n1;refine⟨cs.map cD,rfl,?_⟩;rw[q3zz];refine q1z (fun ds τ G'=>∃(left:List (Nat×Clk)) (zs:List Clk) (x2 x3:Option D),ds=left.map enD/\τ=[some (.scr (cs.map cD)),some (.obj q1),x2,x3]/\New G q1 (.lst (zs.map cD)) G'/\zs++left.map (·.2)=cs) (fun _ _ _ _=>rfl) ?_ ?_ _ _ _ ⟨(List.range cs.length).zip cs,[],none,none,rfl,rfl,n1,?_⟩
 ·rintro d ds τ G' N ⟨left,zs,x2,x3,e1,rfl,n2,ez⟩ hN;cases left with
  |nil=>cases e1
  |cons z left=>
   cases e1;obtain⟨k,c⟩:=z;have hmem:c∈cs:=by rw[←ez];simp
   have hlen:zs.length+1≤12:=by
    have:=congrArg List.length ez;simp at this;lia
   have hnot:c∉zs:=fun hc=>by
    rw[←ez,List.map_cons] at nd;exact (List.nodup_append.mp nd).2.2 c hc c List.mem_cons_self rfl
   refine⟨rfl,cD c,rfl,.clk c,fun h=>?_,fun _=>⟨cX c,zs.map cX,rfl,.inl (qcbz n2.at_ (qe2z zs)),Nat.le_trans (qgyz zs) (by decide),fun h=>?_,fun _=>⟨_,n2.at_,_,_,rfl,rfl,Nat.zero_le _,fun h=>?_,fun _=>?_⟩⟩⟩
   ·rw[q30z (ok c hmem).1 (ok c hmem).2] at h;cases h
   ·have h':((zs.map cX).any fun v=>v.eqb (cX c))=true:=h;rw[q31z,decide_eq_true_iff] at h';exact absurd h' hnot
   ·have h':((((zs.map cD).length:Nat):Int)==12)=true:=h;rw[List.length_map] at h';simp at h';lia
   ·refine⟨⟨q1,_,rfl,n2.at_⟩,_,n2.at_,by rw[List.length_map];exact Nat.lt_of_le_of_lt (show zs.length≤12 by lia) (by decide),hN _ _ ⟨left,zs++[c],_,_,rfl,rfl,?_,by rw[←ez];simp⟩⟩;rw[show zs.map cD++[cD c]=(zs++[c]).map cD by simp];exact wrote n2
 ·rintro τ G' ⟨left,zs,x2,x3,e1,rfl,n2,ez⟩;cases left with
  |cons z left=>cases e1
  |nil=>
   have ez:zs=cs:=by simpa using ez
   subst ez;refine⟨_,qlvz n2.at_,by rw[List.length_map];lia,qluz,fun p1 mss G3 n3 hpm hr=>?_⟩;obtain⟨cs',rfl,hmem,hr,hlen⟩:=qyuz hpm nd hr;rw[qgzz] at n3;exact⟨_,n3.at_,qhz (q cs' G3 hmem hr hlen (n2.sub.trans n3.sub))⟩
 ·show []++((List.range cs.length).zip cs).map (·.2)=cs;rw[List.nil_append,List.map_snd_zip];simp
structure Sm5(ns:List Int):Prop where
 l1:1≤ns.length
 l6:ns.length≤6
 st:∀n∈ns,2≤n/\n≤24
 d:∀n∈ns,n∣720
theorem Sm5.s{ns:List Int}(h:Sm5 ns):St ns:=⟨h.l1,h.l6,h.st⟩
theorem Sm5.r{ns:List Int}(h:Sm5 ns):rndS ns≤10000:=Nat.le_trans (q24z fun n hn=>⟨by have:=h.st n hn;lia,h.d n hn⟩) (by decide)
def Gd(ns:List Int):Prop:=∀n∈ns,(2≤n/\n≤24)/\n∣720
def qd6z:Sp3:=fun ds G Q=>∃p:Addr,ds=[.obj p]/\G p=some .pen/\∀ns,Sm5 ns->∀q G',New G q (.lst (ns.map D.int)) G'->Q (.obj q) G'
def qojz:TS3:=sIf (eTest (eOp (rEq3 true) (eVar 2) (eLst (aNil)))) (sRet (eVar 2)) (sNext)
def q37z:TS3:=sSeq (sIf (eAnd (eTest (eOp (rEq3 false) (eVar 1) (eC (.int 1)))) (eTest (eOp rLtT3 (eCB qsz (aCons (eVar 2) (aNil))) (eC (.int 6))))) (sDrop (eM qeqz (eVar 2) (aCons (eLstIx (aCons (eC (.int 2)) (aCons (eC (.int 3)) (aCons (eC (.int 4)) (aCons (eC (.int 6)) (aCons (eC (.int 12)) (aNil)))))) (eCall qayz (aCons (eVar 0) (aCons (eC (.int 5)) (aNil))))) (aNil)))) (sNext)) qojz
def q38z:TS3:=sSeq (sAsg (eComp ["step"] [] (iSeq (eVar 2)) (hName 0) (eTest (eOp rGt3 (eVar 0) (eC (.int 1)))) (eVar 0)) (hName 2)) q37z
def qhmz:TS3:=sRet (eComp ["turn"] [0] (iRng1 (aCons (eOp rAdd3 (eC (.int 1)) (eCall qayz (aCons (eVar 0) (aCons (eC (.int 5)) (aNil))))) (aNil))) (hName 0) (tNoTest3) (eLstIx (aCons (eC (.int 2)) (aCons (eC (.int 3)) (aCons (eC (.int 4)) (aCons (eC (.int 6)) (aCons (eC (.int 2)) (aCons (eC (.int 3)) (aCons (eC (.int 5)) (aCons (eC (.int 8)) (aNil))))))))) (eCall qayz (aCons (eVar 1) (aCons (eC (.int 8)) (aNil))))))
def q39z:TS3:=sSeq (sIf (eTest (eOp rLtT3 (eVar 1) (eC (.int 2)))) (sSeq (sAsg (eSl (eComp ["clock"] [] (iSeq (eCall qdoz (aCons (eVar 0) (aCons (eOp rAdd3 (eC (.int 1)) (eCall qayz (aCons (eVar 0) (aCons (eC (.int 4)) (aNil))))) (aNil))))) (hName 0) (tNoTest3) (eOp rIx3 (eVar 0) (eC (.int 0)))) (oNone) (oSome (eC (.int 6)))) (hName 2)) q38z) (sNext)) qhmz
def qokz:TS3:=sSeq (sAsg (eCall qayz (aCons (eVar 0) (aCons (eC (.int 4)) (aNil)))) (hName 1)) q39z
theorem gd5{n:Int}(h:n∈([2,3,4,6,12]:List Int)):(2≤n/\n≤24)/\n∣720:=by
 simp only[List.mem_cons,List.not_mem_nil,or_false] at h;rcases h with rfl|rfl|rfl|rfl|rfl<;>decide
theorem gd8{n:Int}(h:n∈([2,3,4,6,2,3,5,8]:List Int)):(2≤n/\n≤24)/\n∣720:=by
 simp only[List.mem_cons,List.not_mem_nil,or_false] at h;rcases h with rfl|rfl|rfl|rfl|rfl|rfl|rfl|rfl<;>decide
theorem Gd.sm{ns:List Int}(h:Gd ns)(l1:1≤ns.length)(l6:ns.length≤6):Sm5 ns:=⟨l1,l6,fun n hn=>(h n hn).1,fun n hn=>(h n hn).2⟩
theorem qolz{G G1:Gp}{Q:V3}{p:Addr}{way:Int}{x2:Option D}(hp:G p=some .pen)(s1:Sub G G1)(q:∀ns,Sm5 ns->∀q G',New G q (.lst (ns.map D.int)) G'->Q (.obj q) G'):qhmz (endsOf Q) [some (.obj p),some (.int way),x2] G1:=by
 refine⟨p,5,rfl,s1 _ _ hp,⟨by decide,qtz (by decide) (by decide)⟩,fun r r0 r5=>⟨⟨by lia,by lia⟩,?_,?_⟩⟩
 ·show (rngL 0 (1+r).toNat).length≤sizeLine;rw[qbqz];exact line1000 (by lia)
 show compGo _ _ _ _ _ (rngL 0 (1+r).toNat) _ _ _;rw[rng0];refine qclz (fun ds acc τ G'=>Sub G1 G'/\(∃xs:List Nat,ds=xs.map nD/\∃ns:List Int,acc=ns.map D.int/\Gd ns/\ns.length+xs.length=(1+r).toNat)/\∃x,τ=[x,some (.obj p)]) (fun _ _ _ _ _=>trivial) ?_ ?_ _ _ _ _ ⟨Sub.refl _,⟨_,rfl,[],rfl,nofun,by rw[List.length_range];simp⟩,none,rfl⟩
 ·rintro d ds acc τ G2 K1 K2 ⟨s2,⟨xs,e,ns,rfl,hg,hl⟩,x,rfl⟩ g1 g2;cases xs with
  |nil=>cases e
  |cons y xs=>
   cases e;refine⟨fun _=>⟨p,8,rfl,s2 _ _ (s1 _ _ hp),⟨by decide,qtz (by decide) (by decide)⟩,fun i i0 i8=>?_⟩,nofun⟩;obtain⟨n,hn,en⟩:=qe4z (ns:=[2,3,4,6,2,3,5,8]) i0 i8;refine⟨.int n,en,g1 _ _ _ ⟨s2,⟨xs,rfl,ns++[n],by rw[List.map_append];rfl,fun m hm=>?_,by rw[List.length_append,List.length_singleton];rw[List.length_cons] at hl;lia⟩,_,rfl⟩⟩;rcases List.mem_append.mp hm with hm|hm
   ·exact hg m hm
   ·rw[List.mem_singleton.mp hm];exact gd8 hn
 ·rintro acc τ G2 ⟨s2,⟨xs,e,ns,rfl,hg,hl⟩,x,rfl⟩ p3 G3 n3;cases xs with
  |cons y xs=>cases e
  |nil=>
   rw[List.length_nil] at hl;have s3:=s1.trans s2;exact qhz (q ns (hg.sm (by lia) (by lia)) p3 G3 ⟨s3.of_none n3.non,s3.trans n3.sub,n3.at_⟩)
theorem qhnz{G G1:Gp}{Q:V3}{p q0:Addr}{way:Int}{ns:List Int}(hp:G p=some .pen)(q:∀ns,Sm5 ns->∀q G',New G q (.lst (ns.map D.int)) G'->Q (.obj q) G')(n1:New G q0 (.lst (ns.map D.int)) G1)(hg:Gd ns)(hl:ns.length≤6):qojz { (endsOf Q) with nx:=qhmz (endsOf Q)} [some (.obj p),some (.int way),some (.obj q0)] G1:=by
 intro p2 G2 n2;refine⟨_,_,qcbz (n2.sub _ _ n1.at_) (qogz ns),qcbz n2.at_ rfl,?_,fun h=>?_,fun h=>qolz hp (n1.sub.trans n2.sub) q⟩
 ·show Dat.deps (ns.map Dat.D.int)+1≤50;rw[qohz];decide
 ·have h':(!((Dat.D.lst (ns.map Dat.D.int)).eqb (.lst [])))=true:=h;rw[qe3z] at h';refine qhz (q ns (hg.sm ?_ hl) q0 G2 ⟨n1.non,n1.sub.trans n2.sub,n2.sub _ _ n1.at_⟩);cases ns with
  |nil=>cases h'
  |cons n ns=>simp
theorem q4az:∀ds G Q,qd6z ds G Q->qokz (endsOf Q) (start3 ["pen","way","found"] ds) G:=by
 rintro ds G Q ⟨p,rfl,hp,q⟩;refine⟨p,4,rfl,hp,⟨by decide,qtz (by decide) (by decide)⟩,fun way w0 w4=>⟨fun h=>?_,fun h=>qolz hp (Sub.refl _) q⟩⟩;refine⟨p,4,rfl,hp,⟨by decide,qtz (by decide) (by decide)⟩,fun r r0 r4=>⟨p,1+r,rfl,hp,⟨by lia,by lia⟩,fun q1 cs G1 ok l1 l12 n1=>?_⟩⟩;refine⟨_,n1.at_,by show (cs.map cD).length≤sizeLine;rw[List.length_map];exact line1000 (by lia),?_⟩;refine qabz (fun τ=>∃x,τ=[x]) cD (fun _=>true) (fun c=>D.int c.1) (G:=G1) n1.at_ cs [] _ ⟨none,rfl⟩ ?_ ?_
 ·rintro⟨s,r⟩ hm τ K1 K2 ⟨x,rfl⟩ h1 h2;exact⟨fun _=>⟨_,rfl,h1 rfl _ ⟨_,rfl⟩⟩,nofun⟩
 intro p2 G2 n2;rw[filter_all,List.nil_append] at n2;refine⟨_,n2.at_,fun p3 G3 n3=>?_⟩;have e3:cut3 (cs.map fun c=>D.int c.1) none (some 6)=((cs.map (·.1)).take 6).map D.int:=by
  rw[qbuz (fun c:Clk=>D.int c.1) cs,show (6:Int)=((6:Nat):Int) from rfl,qdiz,List.map_take,List.map_take,List.map_map];rfl
 rw[e3] at n3;have hg0:∀n∈(cs.map (·.1)).take 6,n≤24/\n∣720:=fun n hn=>by
  obtain⟨c,hc,rfl⟩:=List.mem_map.mp (List.mem_of_mem_take hn);exact (ok c hc).2
 have hl0:((cs.map (·.1)).take 6).length≤6:=by rw[List.length_take];lia
 generalize (cs.map (·.1)).take 6=ms at n3 hg0 hl0;refine⟨_,n3.at_,by show (ms.map D.int).length≤sizeLine;rw[List.length_map];exact line1000 (by lia),?_⟩;refine qabz (fun τ=>∃x,τ=[x]) D.int (fun n=>decide (1<n)) D.int (G:=G3) n3.at_ ms [] _ ⟨none,rfl⟩ ?_ ?_
 ·rintro n hm τ K1 K2 ⟨x,rfl⟩ h1 h2;exact⟨fun e=>h1 e _ ⟨_,rfl⟩,fun e=>h2 e _ ⟨_,rfl⟩⟩
 intro p4 G4 n4;rw[List.nil_append] at n4;have hg:Gd (ms.filter fun n=>decide (1<n)):=fun n hn=>by
  obtain⟨h1,h2⟩:=List.mem_filter.mp hn;have h2:1<n:=of_decide_eq_true h2;exact⟨⟨by lia,(hg0 n h1).1⟩,(hg0 n h1).2⟩
 have hl:(ms.filter fun n=>decide (1<n)).length≤6:=Nat.le_trans (List.length_filter_le _ _) hl0;have s3:=(n1.sub.trans n2.sub).trans n3.sub;have n5:New G p4 (.lst ((ms.filter fun n=>decide (1<n)).map D.int)) G4:=⟨s3.of_none n4.non,s3.trans n4.sub,n4.at_⟩;generalize (ms.filter fun n=>decide (1<n))=ns at hg hl n5;refine⟨_,_,rfl,rfl,Nat.zero_le _,fun h=>⟨_,n5.at_,fun h6=>?_,fun h6=>qhnz hp q n5 hg hl⟩,fun h=>⟨nofun,fun _=>qhnz hp q n5 hg hl⟩⟩;have h6':(((ns.map D.int).length:Nat):Int)<6:=of_decide_eq_true h6;rw[List.length_map] at h6';refine⟨⟨p4,_,rfl,n5.at_⟩,p,5,rfl,n5.sub _ _ hp,⟨by decide,qtz (by decide) (by decide)⟩,fun i i0 i5=>?_⟩;obtain⟨n,hn,en⟩:=qe4z (ns:=[2,3,4,6,12]) i0 i5;refine⟨.int n,en,_,n5.at_,by rw[List.length_map];exact Nat.lt_of_le_of_lt hl (by decide),?_⟩;have n6:New G p4 (.lst ((ns++[n]).map D.int)) (upd3 G4 p4 (.lst (ns.map D.int++[D.int n]))):=⟨n5.non,Sub.updN n5.sub n5.non,by rw[qahz,List.map_append];rfl⟩;refine qhnz hp q n6 (fun m hm=>?_) (by rw[List.length_append,List.length_singleton];lia);rcases List.mem_append.mp hm with hm|hm
 ·exact hg m hm
 ·rw[List.mem_singleton.mp hm];exact gd5 hn
end My
namespace My
open PySem L2 L3
theorem q4bz{G:Gp}(is:List Int):KnD G (.tup (is.map D.int)):=.tup fun d hd=>by
 obtain⟨i,_,rfl⟩:=List.mem_map.mp hd;exact .int i
theorem qomz:∀{ns is:List Int},Ok ns is->((ns.zip (is.map D.int)).all fun z=>okR z.1 z.2)=true
 |[],_,_=>rfl
 |n::ns,[],h=>rfl
 |n::ns,i::is,h=>by
  have h0:=h.ok (n,i) (by rw[List.zip_cons_cons];exact List.mem_cons_self);have ih:=qomz (ns:=ns) (is:=is) ⟨by have:=h.len;simpa using this,fun c hc=>h.ok c (by rw[List.zip_cons_cons];exact List.mem_cons_of_mem _ hc)⟩;rw[List.map_cons,List.zip_cons_cons,List.all_cons,ih,Bool.and_true];show (decide (0≤i)&&decide (i<n))=true;rw[decide_eq_true h0.1,decide_eq_true h0.2];rfl
theorem q4cz{ns is:List Int}(hs:∀n∈ns,2≤n/\n≤24)(h:Ok ns is)(hc:Cov (ns.zip is)):restsB ns (.tup (is.map D.int))=true:=by
 have h1:formR ns (.tup (is.map D.int))=true:=by
  show (decide ((is.map D.int).length=ns.length)&&_)=true;rw[List.length_map,decide_eq_true h.len,qomz h];rfl
 have h2:optsD (.tup (is.map D.int))=is.map some:=by
  show (is.map D.int).map optD=_;rw[List.map_map];rfl
 unfold restsB;rw[h1,h2,Bool.true_and];exact (qhiz (h.valid hs)).mpr hc
theorem q4dz{cs:List Clk}(h:∀c∈cs,0<c.1/\c.1∣720):rnd cs≤10000:=by
 refine Nat.le_trans (Nat.le_of_dvd (by decide) (qy5z (d:=720) (Nat.one_dvd _) fun c hc=>?_)) (by decide);obtain⟨h0,h1⟩:=h c hc;have e:c.1=((c.1.toNat:Nat):Int):=by lia
 rw[e] at h1;exact Int.natCast_dvd_natCast.mp h1
theorem q4ez{m n:Int}(h:m∣n)(h2:n∣720):m∣720:=Int.dvd_trans h h2
def qd7z:Sp3:=fun ds G Q=>∃(pp p:Addr) (ns is:List Int),ds=[.obj pp,.obj p,.tup (is.map D.int)]/\G pp=some .pen/\G p=some (.lst (ns.map D.int))/\(Sm5 ns/\ns.length≤5)/\Ok ns is/\Cov (ns.zip is)/\∀G',Sub G G'->Q (.bl true) G'
def qonz:TS3:=sRet (eAndV (eOp (rIs3 true) (eCall qcgz (aCons (eFrz (eVar 6)) (aNil))) (eC .non)) (eOp (rIs3 true) (eCall qcgz (aCons (eFrz (eOp rAdd3 (eSl (eVar 1) (oNone) (oSome (eC (.int 5)))) (eLst (aCons (eC (.int 5)) (aNil))))) (aNil))) (eC .non)))
def q4fz:TS3:=sSeq (sAsg (eOp rAdd3 (eOp rAdd3 (eSl (eVar 1) (oNone) (oSome (eVar 4))) (eLst (aCons (eOp rIx3 (eVar 5) (eCall qayz (aCons (eVar 0) (aCons (eCB qsz (aCons (eVar 5) (aNil))) (aNil))))) (aNil)))) (eSl (eVar 1) (oSome (eOp rAdd3 (eVar 4) (eC (.int 1)))) (oNone))) (hName 6)) qonz
def q4gz:TS3:=sSeq (sAsg (eComp ["step"] [1,4] (iRng2 (aCons (eC (.int 2)) (aCons (eOp rAdd3 (eOp rIx3 (eVar 1) (eVar 4)) (eC (.int 1))) (aNil)))) (hName 0) (eTest (eOp (rEq3 false) (eOp rMod3 (eOp rIx3 (eVar 1) (eVar 2)) (eVar 0)) (eC (.int 0)))) (eVar 0)) (hName 5)) q4fz
def qhoz:TS3:=sSeq (sAsg (eCall qayz (aCons (eVar 0) (aCons (eCB qsz (aCons (eVar 1) (aNil))) (aNil)))) (hName 4)) q4gz
def q4hz:TS3:=sSeq (sIf (eOr (eNot (eTest (eCall qdtz (aCons (eVar 3) (aNil))))) (eAnd (eTest (eOp (rEq3 false) (eCall qc0z (aCons (eFrz (eCB qa3z (aCons (eVar 1) (aNil)))) (aNil))) (eTup (aCons (eC (.int 1)) (aCons (eC (.int 1)) (aNil)))))) (eNot (eTest (eCall qduz (aCons (eVar 3) (aNil))))))) (sRet (eC (.bl false))) (sNext)) qhoz
def q4iz:TS3:=sSeq (sAsg (eCall qd5z (aCons (eFrz (eSortSet (eLZ (aCons (eVar 1) (aCons (eVar 2) (aNil)))))) (aNil))) (hName 3)) q4hz
def qooz:TS3:=sSeq (sIf (eNot (eTest (eCall qd4z (aCons (eFrz (eCB qa3z (aCons (eVar 1) (aNil)))) (aCons (eVar 2) (aNil)))))) (sRet (eC (.bl false))) (sNext)) q4iz
theorem q4jz{G G0 G1:Gp}{Q:V3}{pp p p6:Addr}{ns ms is:List Int}{x3 x4 x5:Option D}(s1:Sub G G0)(hp:G0 p=some (.lst (ns.map D.int)))(n6:New G0 p6 (.lst (ms.map D.int)) G1)(hs:Sm5 ns)(h5:ns.length≤5)(hm:Sm5 ms)(hc:Comp ns (preR ns []))(hcm:Comp ms (preR ms []))(q:∀G',Sub G G'->Q (.bl true) G'):
  qonz (endsOf Q) [some (.obj pp),some (.obj p),some (.tup (is.map D.int)),x3,x4,x5,some (.obj p6)] G1:=by
 refine⟨_,n6.at_,ms,rfl,hm.s,hm.r,fun h=>absurd hcm h,fun is1 _ _ G2 s2=>⟨fun _=>⟨_,s2 _ _ (n6.del _ _ hp),fun p7 G3 n3 p8 G4 n4=>?_⟩,nofun⟩⟩;have s2:=n6.del.trans s2;have e:cut3 (ns.map D.int) none (some 5)=ns.map D.int:=by
  rw[qbuz,show (5:Int)=((5:Nat):Int) from rfl,qdiz,List.take_of_length_le h5]
 rw[e] at n3;refine⟨_,_,n4.sub _ _ n3.at_,n4.at_,?_,fun p9 G5 n5=>?_⟩
 ·rw[List.length_map];exact line1000 (by show ns.length+1≤1000;lia)
 have n9:New G4 p9 (.lst ((ns++[5]).map D.int)) G5:=⟨n5.non,n5.sub,by rw[n5.at_,List.map_append];rfl⟩;have hm9:Sm5 (ns++[5]):=⟨by rw[List.length_append,List.length_singleton];lia,by rw[List.length_append,List.length_singleton];lia,fun n hn=>by
  rcases List.mem_append.mp hn with hn|hn
  ·exact hs.st n hn
  ·rw[List.mem_singleton.mp hn];decide,fun n hn=>by
  rcases List.mem_append.mp hn with hn|hn
  ·exact hs.d n hn
  ·rw[List.mem_singleton.mp hn];decide⟩
 exact⟨_,n9.at_,_,rfl,hm9.s,hm9.r,fun h=>absurd (q2xz (by decide) hc) h,fun is2 _ _ G6 s6=>qhz (q G6 (s1.trans (s2.trans (n3.sub.trans (n4.sub.trans (n9.del.trans s6))))))⟩
theorem q4kz{G G1:Gp}{Q:V3}{pp p:Addr}{ns is:List Int}{x3:Option D}(s1:Sub G G1)(hpp:G1 pp=some .pen)(hp:G1 p=some (.lst (ns.map D.int)))(hs:Sm5 ns)(h5:ns.length≤5)(hc:Comp ns (preR ns []))(q:∀G',Sub G G'->Q (.bl true) G'):
  qhoz (endsOf Q) [some (.obj pp),some (.obj p),some (.tup (is.map D.int)),x3,none,none,none] G1:=by
 have hl1:=hs.l1;refine⟨_,hp,pp,_,rfl,hpp,⟨by rw[List.length_map];lia,qtz (by rw[List.length_map];lia) (by rw[List.length_map];lia)⟩,fun spot t0 t1=>?_⟩;rw[List.length_map] at t1;obtain⟨k,rfl⟩:∃k:Nat,spot=(k:Int):=⟨spot.toNat,by lia⟩;have hk:k<ns.length:=by lia
 have en:ns[k]?=some ns[k]:=List.getElem?_eq_getElem hk;have hn:=hs.st ns[k] (List.getElem_mem hk);have hnd:=hs.d ns[k] (List.getElem_mem hk);generalize ns[k]=n at en hn hnd;have ea:atI (ns.map D.int) (k:Int)=some (.int n):=qbpz (by rw[List.getElem?_map,en];rfl);refine⟨_,.int n,hp,ea,⟨by lia,by lia,by lia,by lia⟩,?_,?_⟩
 ·show (rngL 2 (n+1-2).toNat).length≤sizeLine;rw[qbqz];exact line1000 (by lia)
 refine qabz (fun τ=>∃x,τ=[x,some (.obj p),some (.int (k:Int))]) (fun i:Nat=>D.int (2+(i:Int))) (fun i:Nat=>n%(2+(i:Int))==0) (fun i:Nat=>D.int (2+(i:Int))) (G:=G1) trivial (List.range (n+1-2).toNat) [] _ ⟨none,rfl⟩ ?_ ?_
 ·rintro i hm τ K1 K2 ⟨x,rfl⟩ g1 g2;refine⟨_,.int n,hp,ea,by show (0:Int)<2+(i:Int);lia,_,_,rfl,rfl,Nat.zero_le _,fun h=>g1 h _ ⟨_,rfl⟩,fun h=>g2 h _ ⟨_,rfl⟩⟩
 intro p5 G5 n5;rw[List.nil_append] at n5;have e5:((List.range (n+1-2).toNat).filter fun i:Nat=>n%(2+(i:Int))==0).map (fun i:Nat=>D.int (2+(i:Int)))=(((List.range (n+1-2).toNat).filter fun i:Nat=>n%(2+(i:Int))==0).map fun i:Nat=>2+(i:Int)).map D.int:=by rw[List.map_map];rfl
 rw[e5] at n5;have hd:∀m∈((List.range (n+1-2).toNat).filter fun i:Nat=>n%(2+(i:Int))==0).map (fun i:Nat=>2+(i:Int)),2≤m/\m≤24/\m∣n:=fun m hm=>by
  obtain⟨i,hi,rfl⟩:=List.mem_map.mp hm;obtain⟨h1,h2⟩:=List.mem_filter.mp hi;have h1:=List.mem_range.mp h1;rw[beq_iff_eq] at h2;exact⟨by lia,by lia,Int.dvd_of_emod_eq_zero h2⟩
 have hne:1≤(((List.range (n+1-2).toNat).filter fun i:Nat=>n%(2+(i:Int))==0).map (fun i:Nat=>2+(i:Int))).length:=by
  rw[List.length_map];refine List.length_pos_of_mem (a:=(n-2).toNat) (List.mem_filter.mpr ⟨List.mem_range.mpr (by lia),?_⟩);rw[beq_iff_eq,show (2:Int)+(((n-2).toNat:Nat):Int)=n by lia,Int.emod_self]
 have hle:(((List.range (n+1-2).toNat).filter fun i:Nat=>n%(2+(i:Int))==0).map (fun i:Nat=>2+(i:Int))).length≤1000:=by
  rw[List.length_map];refine Nat.le_trans (List.length_filter_le _ _) ?_;rw[List.length_range];lia
 generalize ((List.range (n+1-2).toNat).filter fun i:Nat=>n%(2+(i:Int))==0).map (fun i:Nat=>2+(i:Int))=es at n5 hd hne hle;have hp5:=n5.sub _ _ hp;refine⟨_,hp5,fun p6 G6 n6=>?_⟩;have h6e:=n6.sub _ _ n5.at_;refine⟨_,h6e,pp,_,rfl,n6.sub _ _ (n5.sub _ _ hpp),⟨by rw[List.length_map];lia,qtz (by rw[List.length_map];lia) (by rw[List.length_map];lia)⟩,fun j j0 j1=>?_⟩;rw[List.length_map] at j1;obtain⟨m,hm,em⟩:=qe4z (ns:=es) j0 j1;obtain⟨m2,m24,mn⟩:=hd m hm;refine⟨_,.int m,h6e,em,fun p7 G7 n7=>?_⟩;have hp5':G5 p=some (.lst ((ns.map some).map rD)):=by rw[hp5,List.map_map];rfl
 have n6':New G5 p6 (.lst (cut3 ((ns.map some).map rD) none (some (k:Int)))) G6:=by rw[List.map_map];exact n6
 refine qmdz (rs:=ns.map some) (r:=m) hp5' (by rw[List.length_map];exact hk) (by rw[List.length_map];lia) (fun p8 G8 n8=>?_) n6' n7;have h8:G8 p8=some (.lst ((ns.set k m).map D.int)):=by
  rw[n8.at_,List.map_set,List.map_map,List.map_set];rfl
 have hmem:∀y∈ns.set k m,y∈ns∨y=m:=fun y hy=>by
  rcases List.mem_or_eq_of_mem_set hy with h|h
  ·exact .inl h
  ·exact .inr h
 have hs':Sm5 (ns.set k m):=⟨by rw[List.length_set];exact hl1,by rw[List.length_set];exact hs.l6,fun y hy=>by
  rcases hmem y hy with h|rfl
  ·exact hs.st y h
  ·exact⟨m2,m24⟩,fun y hy=>by
  rcases hmem y hy with h|rfl
  ·exact hs.d y h
  ·exact q4ez mn hnd⟩
 exact q4jz (s1.trans n5.sub) hp5 ⟨n8.non,n8.sub,h8⟩ hs h5 hs' hc (q2wz hs.st en (by lia) mn hc) q
theorem q4lz:∀ds G Q,qd7z ds G Q->qooz (endsOf Q) (start3 ["pen","steps","rests","clocks","spot","easy","other"] ds) G:=by
 rintro ds G Q ⟨pp,p,ns,is,rfl,hpp,hp,⟨hs,h5⟩,ho,hc,q⟩;have hl:=ho.len;refine⟨_,hp,fun p1 G1 n1=>⟨_,n1.at_,ns,.tup (is.map D.int),rfl,hs.s,q4bz is,hs.r,fun G2 j2=>⟨fun h=>?_,fun _=>?_⟩⟩⟩
 ·rw[q4cz hs.st ho hc] at h;cases h
 ·have s2:=n1.del.trans j2;refine⟨ns.map D.int,is.map D.int,s2 _ _ hp,rfl,by rw[List.length_map];lia,fun p3 G3 n3=>?_⟩;rw[qnsz] at n3;have hz:(ns.zip is).length≤6:=by rw[List.length_zip];lia
  refine⟨(ns.zip is).map toL,qlvz n3.at_,by rw[List.length_map];lia,qluz,fun p4 mss G4 n4 hmem nd hr hl4=>?_⟩;obtain⟨cs,rfl,hm2,hr2,hl2⟩:=qxlz hmem nd hr hl4;rw[qgzz] at n4;have hv:=ho.valid hs.st;have ok:∀{us:List Clk},(∀z,z∈us↔z∈cs)->ClOk 1000 us:=fun h c hc=>by
   have:=hv c ((hm2 c).mp ((h c).mp hc));exact⟨this.1,by lia⟩
  refine⟨_,n4.at_,cs,rfl,ok fun z=>Iff.rfl,qnvz hr2,by lia,fun us G5 hu hru hlu j5=>?_⟩;have s5:=s2.trans (n3.sub.trans (n4.del.trans j5));have hmem:∀z,z∈us↔z∈ns.zip is:=fun z=>(hu z).trans (hm2 z);have hcov:Cov us:=fun x=>by
   obtain⟨z,h1,h2⟩:=hc x;exact⟨z,(hmem z).mpr h1,h2⟩
  have hrnd:rnd us≤10000:=q4dz fun c h=>by
   have h1:=(List.of_mem_zip ((hmem c).mp h)).1;have:=hs.st c.1 h1;exact⟨by lia,hs.d c.1 h1⟩
  have hful:(fmO us).isNone=true:=by
   rw[Option.isNone_iff_eq_none];exact (qz3z fun z hz=>(ok hu z hz).1.1).mpr hcov
  have fin:∀G9,Sub G G9->qhoz (endsOf Q) [some (.obj pp),some (.obj p),some (.tup (is.map D.int)),some (csD us),none,none,none] G9:=fun G9 s9=>q4kz s9 (s9 _ _ hpp) (s9 _ _ hp) hs h5 (comp_iff.mpr ⟨is,ho,hc⟩) q;refine⟨us,rfl,⟨ok hu,by lia,hrnd⟩,fun h=>?_,fun _=>?_⟩
  ·rw[hful] at h;cases h
  ·refine⟨_,s5 _ _ hp,fun p7 G7 n7=>⟨_,n7.at_,ns,rfl,hs.s,fun G8 j8=>?_⟩⟩;have s8:=s5.trans (n7.del.trans j8);refine⟨_,_,rfl,rfl,Nat.le_of_ble_eq_true rfl,fun h=>?_,fun h=>⟨nofun,fun _=>fin G8 s8⟩⟩;have h':((((shT (shC ns):Nat):Int)==1)&&((((shB (shC ns):Nat):Int)==1)&&true))=true:=h;rw[Bool.and_true,Bool.and_eq_true,beq_iff_eq,beq_iff_eq] at h';have hex:=q2vz hs.st ho hc (by lia) (by lia) hmem (qnvz hru) (ok hu);refine⟨us,rfl,ok hu,by lia,fun h=>?_,fun _=>fin G8 s8⟩;rw[hex] at h;cases h
def qd8z:Sp3:=fun ds G Q=>∃(pp p:Addr) (ns:List Int),ds=[.obj pp,.obj p]/\G pp=some .pen/\G p=some (.lst (ns.map D.int))/\(Sm5 ns/\ns.length≤5)/\∀G',Sub G G'->Q (.bl true) G'
def q4mz:TS3:=sIf (eOr (eTest (eOp (rEq3 true) (eCall qczz (aCons (eFrz (eRevL (eVar 1))) (aNil))) (eVar 6))) (eTest (eOp (rEq3 true) (eOp rGt3 (eVar 6) (eC (.int 0))) (eOp (rIs3 true) (eVar 2) (eC .non))))) (sRet (eC (.bl false))) (sNext)
def qopz:TS3:=sRet (eOrV (eOp (rIs3 false) (eVar 2) (eC .non)) (eCall qd7z (aCons (eVar 0) (aCons (eVar 1) (aCons (eVar 2) (aNil))))))
def qoqz:TS3:=sSeq (sIf (eTest (eOp rLtT3 (eCall qd1z (aCons (eVar 1) (aNil))) (eC (.int 500)))) (sSeq (sAsg (eCall qczz (aCons (eFrz (eCB qa3z (aCons (eVar 1) (aNil)))) (aNil))) (hName 6)) q4mz) (sNext)) qopz
def q4nz:TS3:=sSeq (sIf (eAnd (eTest (eOp rLtT3 (eVar 4) (eVar 5))) (eTest (eOp (rIs3 true) (eVar 2) (eC .non)))) (sRet (eC (.bl false))) (sNext)) qoqz
def qorz:TS3:=sSeq (sAsg (eCall qc0z (aCons (eFrz (eCB qa3z (aCons (eVar 1) (aNil)))) (aNil))) (hTup 2 (hCons (hName 4) (hCons (hName 5) (hNil))))) q4nz
def qosz:TS3:=sSeq (sIf (eOr (eTest (eOp (rEq3 true) (eOp (rIs3 false) (eVar 2) (eC .non)) (eOp (rIs3 true) (eVar 3) (eC .non)))) (eAnd (eTest (eOp (rIs3 true) (eVar 3) (eC .non))) (eNot (eTest (eCall qd3z (aCons (eFrz (eCB qa3z (aCons (eVar 1) (aNil)))) (aCons (eVar 3) (aNil)))))))) (sRet (eC (.bl false))) (sNext)) qorz
def qotz:TS3:=sSeq (sAsg (eCall qd2z (aCons (eFrz (eCB qa3z (aCons (eVar 1) (aNil)))) (aNil))) (hName 3)) qosz
def qouz:TS3:=sSeq (sAsg (eCall qcgz (aCons (eFrz (eCB qa3z (aCons (eVar 1) (aNil)))) (aNil))) (hName 2)) qotz
def ToldR(ns:List Int)(d:D):Prop:=(¬Comp ns (preR ns [])/\d=.non)∨∃is,Ok ns is/\Cov (ns.zip is)/\d=.tup (is.map D.int)
theorem ToldR.non{ns:List Int}{d:D}(h:ToldR ns d):isNon d=false↔Comp ns (preR ns []):=by
 rcases h with⟨h1,rfl⟩|⟨is,h1,h2,rfl⟩
 ·exact⟨nofun,fun h=>absurd h h1⟩
 ·exact⟨fun _=>comp_iff.mpr ⟨is,h1,h2⟩,fun _=>rfl⟩
theorem qovz{G G1:Gp}{Q:V3}{pp p:Addr}{ns:List Int}{d:D}{x3 x4 x5 x6:Option D}(s1:Sub G G1)(hpp:G pp=some .pen)(hp:G p=some (.lst (ns.map D.int)))(hs:Sm5 ns)(h5:ns.length≤5)(ht:ToldR ns d)(q:∀G',Sub G G'->Q (.bl true) G'):
  qopz (endsOf Q) [some (.obj pp),some (.obj p),some d,x3,x4,x5,x6] G1:=by
 rcases ht with⟨h1,rfl⟩|⟨is,h1,h2,rfl⟩
 ·exact⟨fun _=>qhz (q G1 s1),nofun⟩
 ·exact⟨nofun,fun _=>⟨pp,p,ns,is,rfl,s1 _ _ hpp,s1 _ _ hp,⟨hs,h5⟩,h1,h2,fun G2 s2=>qhz (q G2 (s1.trans s2))⟩⟩
theorem q4oz(ns:List Int):prodS ns.reverse=prodS ns:=by
 have key:∀(ms:List Int) (a:Int),ms.foldl (· * ·) a=a*ms.foldl (· * ·) 1:=by
  intro ms
  induction ms with
  |nil=>intro a;show a=a*1;rw[Int.mul_one]
  |cons m ms ih=>
   intro a;show ms.foldl (· * ·) (a*m)=a*ms.foldl (· * ·) (1*m);rw[ih,ih (1*m),Int.one_mul,Int.mul_assoc]
 unfold prodS
 induction ns with
 |nil=>rfl
 |cons n ns ih=>
  rw[List.reverse_cons,List.foldl_append,ih];show ns.foldl (· * ·) 1*n=ns.foldl (· * ·) (1*n);rw[key ns (1*n),Int.one_mul,Int.mul_comm]
theorem St.rev{ns:List Int}(h:St ns):St ns.reverse:=⟨by rw[List.length_reverse];exact h.l1,by rw[List.length_reverse];exact h.l6,fun n hn=>h.st n (List.mem_reverse.mp hn)⟩
theorem qowz{G G1:Gp}{Q:V3}{pp p:Addr}{ns:List Int}{d:D}{x3 x4 x5:Option D}(s1:Sub G G1)(hpp:G pp=some .pen)(hp:G p=some (.lst (ns.map D.int)))(hs:Sm5 ns)(h5:ns.length≤5)(ht:ToldR ns d)(q:∀G',Sub G G'->Q (.bl true) G'):
  qoqz (endsOf Q) [some (.obj pp),some (.obj p),some d,x3,x4,x5,none] G1:=by
 have hp1:=s1 _ _ hp;refine⟨p,ns,rfl,hp1,hs.st,hs.l6,fun h=>?_,fun _=>qovz s1 hpp hp hs h5 ht q⟩;have h':prodS ns<500:=of_decide_eq_true h;refine⟨_,hp1,fun p2 G2 n2=>⟨_,n2.at_,ns,rfl,hs.s,by lia,fun G3 j3=>?_⟩⟩;have s3:=s1.trans (n2.del.trans j3);refine⟨_,s3 _ _ hp,fun p4 G4 n4=>?_⟩;refine⟨_,n4.at_,ns.reverse,by rw[←List.map_reverse],hs.s.rev,by rw[q4oz];lia,fun G5 j5=>?_⟩;have s5:=s3.trans (n4.del.trans j5);rw[q22z hs.st];refine⟨_,_,rfl,rfl,Nat.zero_le _,fun h=>?_,fun _=>⟨_,_,rfl,rfl,Nat.zero_le _,fun h=>?_,fun _=>qovz s5 hpp hp hs h5 ht q⟩⟩
 ·have h':(!(((manyF ns ns.length []:Nat):Int)==((manyF ns ns.length []:Nat):Int)))=true:=h;rw[beq_self_eq_true] at h';cases h'
 ·have h':(!((decide ((0:Int)<((manyF ns ns.length []:Nat):Int)))==(!isNon d)))=true:=h;have e:decide ((0:Int)<((manyF ns ns.length []:Nat):Int)) = !isNon d:=by
   rw[Bool.eq_iff_iff,decide_eq_true_iff,Bool.not_eq_true',ht.non,←q23z hs.st];lia
  rw[e,beq_self_eq_true] at h';cases h'
theorem q4pz{G G1:Gp}{Q:V3}{pp p:Addr}{ns:List Int}{d:D}(s1:Sub G G1)(hpp:G pp=some .pen)(hp:G p=some (.lst (ns.map D.int)))(hs:Sm5 ns)(h5:ns.length≤5)(ht:ToldR ns d)(q:∀G',Sub G G'->Q (.bl true) G'):
  qosz (endsOf Q) [some (.obj pp),some (.obj p),some d,some (casF 10 ns (preR ns [])),none,none,none] G1:=by
 have hol:=qfdz (preR ns []);have hrl:=hs.s.rs.len;have hl6:=hs.l6;have key:=qfbz (n:=10) (ns:=ns) (rs:=preR ns []) hs.s.rs (by rw[qnoz] at hol ⊢;lia);have nxt:∀G2,Sub G G2->qorz (endsOf Q) [some (.obj pp),some (.obj p),some d,some (casF 10 ns (preR ns [])),none,none,none] G2:=fun G2 s2=>by
  refine⟨_,s2 _ _ hp,fun p3 G3 n3=>⟨_,n3.at_,ns,rfl,hs.s,fun G4 j4=>⟨rfl,?_⟩⟩⟩;have s4:=s2.trans (n3.del.trans j4);refine⟨fun h=>⟨fun h2=>?_,fun _=>qowz s4 hpp hp hs h5 ht q⟩,fun _=>⟨nofun,fun _=>qowz s4 hpp hp hs h5 ht q⟩⟩;have h':((shT (shC ns):Nat):Int)<((shB (shC ns):Nat):Int):=of_decide_eq_true h;have h2:(!isNon d)=true:=h2;rw[Bool.not_eq_true',ht.non] at h2;exact absurd h2 (q2rz hs.st (by lia))
 have e:isNon d = !isNon (casF 10 ns (preR ns [])):=by
  cases h1:isNon d with
  |false=>
   rw[key.mpr (ht.non.mp h1)];rfl
  |true=>
   cases h2:isNon (casF 10 ns (preR ns [])) with
   |false=>rfl
   |true=>
    have:=ht.non.mpr (key.mp h2);rw[h1] at this;cases this
 refine⟨_,_,rfl,rfl,Nat.zero_le _,fun h=>?_,fun _=>⟨fun h=>?_,fun _=>⟨nofun,fun _=>nxt G1 s1⟩⟩⟩
 ·have h':(!((isNon d)==(!isNon (casF 10 ns (preR ns [])))))=true:=h;rw[e,beq_self_eq_true] at h';cases h'
 ·have h':(!isNon (casF 10 ns (preR ns [])))=true:=h;rw[Bool.not_eq_true'] at h';obtain⟨k1,k2,k3⟩:=qfcz 10 ns (preR ns []);refine⟨_,s1 _ _ hp,fun p2 G2 n2=>⟨_,n2.at_,ns,casF 10 ns (preR ns []),rfl,hs.s,k1.sub (qhbz _),by lia,fun G3 j3=>⟨fun h=>?_,fun _=>nxt G3 (s1.trans (n2.del.trans j3))⟩⟩⟩;have:=qnjz h';rw[←qnoz,this] at h;cases h
theorem q4qz:∀ds G Q,qd8z ds G Q->qouz (endsOf Q) (start3 ["pen","steps","rests","paper","top","bottom","many"] ds) G:=by
 rintro ds G Q ⟨pp,p,ns,rfl,hpp,hp,⟨hs,h5⟩,q⟩;have two:∀(d:D) G1,ToldR ns d->Sub G G1->qotz (endsOf Q) [some (.obj pp),some (.obj p),some d,none,none,none,none] G1:=fun d G1 ht s1=>by
  exact⟨_,s1 _ _ hp,fun p2 G2 n2=>⟨_,n2.at_,ns,rfl,hs.s,hs.r,fun G3 j3=>q4pz (s1.trans (n2.del.trans j3)) hpp hp hs h5 ht q⟩⟩
 exact⟨_,hp,fun p1 G1 n1=>⟨_,n1.at_,ns,rfl,hs.s,hs.r,fun hc G2 j2=>two _ G2 (.inl ⟨hc,rfl⟩) (n1.del.trans j2),fun is hf hl G2 j2=>two _ G2 (.inr ⟨is,(qnxz hf hl).1,(qnxz hf hl).2,rfl⟩) (n1.del.trans j2)⟩⟩
def sp_law:Sp3:=fun ds G Q=>∃ns:List Int,ds=[.scr (ns.map .int)]/\ns.length≤63/\Q (.bl true) G
def q4rz:TS3:=sIf (eNot (eTest (eCall qd8z (aCons (eVar 2) (aCons (eSl (eCall qd6z (aCons (eVar 2) (aNil))) (oNone) (oSome (eC (.int 5)))) (aNil)))))) (sRet (eC (.bl false))) (sNext)
def q4sz:TS3:=sSeq (sAsg (eCall qgxz (aCons (eVar 1) (aNil))) (hName 2)) q4rz
def q4tz:TS3:=sRet (eC (.bl true))
def qoxz:TS3:=sSeq (sFor (iSeq (eOp rAdd3 (eLst (aCons (eCall qdfz (aCons (eVar 0) (aCons (eC (.int 0)) (aNil)))) (aNil))) (eSl (eVar 0) (oSome (eC (.int 1))) (oSome (eC (.int 4)))))) (hName 1) (q4sz)) q4tz
theorem q4uz:∀ds G Q,sp_law ds G Q->qoxz (endsOf Q) (start3 ["script","cell","pen"] ds) G:=by
 rintro ds G Q ⟨ns,rfl,hl,q⟩;refine⟨ns,0,rfl,fun i=>?_⟩;intro p1 G1 n1 p2 G2 n2;rw[qbuz] at n2;have hcl:=qxiz ns (some 1) (some 4);refine⟨_,_,n2.sub _ _ n1.at_,n2.at_,?_,fun p3 G3 n3=>?_⟩
 ·rw[List.length_map];exact line1000 (by simp;lia)
 refine⟨_,n3.at_,?_⟩;have s3:=n1.sub.trans (n2.sub.trans n3.sub);refine q1z (fun ds τ G'=>(∃is:List Int,ds=is.map D.int)/\Sub G3 G'/\∃x1 x2,τ=[some (.scr (ns.map .int)),x1,x2]) (fun _ _ _ h=>h.2.1 _ _ n3.at_) ?_ ?_ _ _ _ ⟨⟨i::cutG ns (some 1) (some 4),rfl⟩,Sub.refl _,_,_,rfl⟩
 ·rintro d ds τ G4 N ⟨⟨is,e⟩,s4,x1,x2,rfl⟩ hN;cases is with
  |nil=>cases e
  |cons c is=>
   cases e;refine⟨c,rfl,fun pp G5 n5=>⟨pp,rfl,n5.at_,fun ms hm q6 G6 n6=>⟨_,n6.at_,fun p7 G7 n7=>?_⟩⟩⟩;have e7:cut3 (ms.map D.int) none (some 5)=(ms.take 5).map D.int:=by
    rw[qbuz,show (5:Int)=((5:Nat):Int) from rfl,qdiz]
   rw[e7] at n7;have hl1:=hm.l1;exact⟨pp,p7,ms.take 5,rfl,n7.sub _ _ (n6.sub _ _ n5.at_),n7.at_,⟨⟨by rw[List.length_take];lia,by rw[List.length_take];lia,fun n hn=>hm.st n (List.mem_of_mem_take hn),fun n hn=>hm.d n (List.mem_of_mem_take hn)⟩,by rw[List.length_take];lia⟩,fun G8 s8=>⟨nofun,fun _=>hN _ _ ⟨⟨is,rfl⟩,s4.trans (n5.sub.trans (n6.sub.trans (n7.sub.trans s8))),_,_,rfl⟩⟩⟩
 ·rintro τ G4 ⟨_,s4,x1,x2,rfl⟩;exact qasz (s3.trans s4) q
end My
namespace My
open PySem L2 L3
def top(i:Nat):Stmt:=PySem.Challenge.pw_coverclocks_k45_whole_rests_and_cases.main.body.getD i (.Pass ⟨0,0,0,0⟩)
abbrev qhpz:Stmt:=top 7
abbrev q4vz:List Str:=["thing"]
theorem q4wz:FnScope q4vz ["thing"] (defScope qhpz):=⟨rfl,rfl,rfl,by decide +kernel,rfl,by decide +kernel,by decide +kernel⟩
abbrev qhqz:Stmt:=top 8
abbrev q4xz:List Str:=["many","most"]
theorem q4yz:FnScope q4xz ["many","most"] (defScope qhqz):=⟨rfl,rfl,rfl,by decide +kernel,rfl,by decide +kernel,by decide +kernel⟩
abbrev qhrz:Stmt:=top 9
abbrev q4zz:List Str:=["times","number","turn"]
theorem sc_z57:FnScope q4zz ["times"] (defScope qhrz):=⟨rfl,rfl,rfl,by decide +kernel,rfl,by decide +kernel,by decide +kernel⟩
abbrev qhsz:Stmt:=top 10
abbrev q40z:List Str:=["one","other","left"]
theorem sc_z7:FnScope q40z ["one","other"] (defScope qhsz):=⟨rfl,rfl,rfl,by decide +kernel,rfl,by decide +kernel,by decide +kernel⟩
abbrev qhtz:Stmt:=top 11
abbrev q41z:List Str:=["numbers","least","number"]
theorem sc_z5:FnScope q41z ["numbers"] (defScope qhtz):=⟨rfl,rfl,rfl,by decide +kernel,rfl,by decide +kernel,by decide +kernel⟩
abbrev qhuz:Stmt:=top 12
abbrev q42z:List Str:=["number","bound","high","low","high_factor","low_factor","turns","left","left_factor"]
theorem sc_z28:FnScope q42z ["number","bound"] (defScope qhuz):=⟨rfl,rfl,rfl,by decide +kernel,rfl,by decide +kernel,by decide +kernel⟩
abbrev qhvz:Stmt:=top 13
abbrev q43z:List Str:=["top","bottom","shared"]
theorem sc_z13:FnScope q43z ["top","bottom"] (defScope qhvz):=⟨rfl,rfl,rfl,by decide +kernel,rfl,by decide +kernel,by decide +kernel⟩
abbrev qhwz:Stmt:=top 14
abbrev q44z:List Str:=["clocks","many","counts","step","rest","number"]
theorem sc_z9:FnScope q44z ["clocks","many"] (defScope qhwz):=⟨rfl,rfl,rfl,by decide +kernel,rfl,by decide +kernel,by decide +kernel⟩
abbrev qhxz:Stmt:=top 15
abbrev q45z:List Str:=["clock","counts","many","number"]
theorem sc_z8:FnScope q45z ["clock","counts","many"] (defScope qhxz):=⟨rfl,rfl,rfl,by decide +kernel,rfl,by decide +kernel,by decide +kernel⟩
abbrev qhyz:Stmt:=top 19
abbrev q46z:List Str:=["thing"]
theorem q47z:FnScope q46z ["thing"] (defScope qhyz):=⟨rfl,rfl,rfl,by decide +kernel,rfl,by decide +kernel,by decide +kernel⟩
abbrev qhzz:Stmt:=top 20
abbrev q48z:List Str:=["things","found","place","thing"]
theorem sc_z46:FnScope q48z ["things"] (defScope qhzz):=⟨rfl,rfl,rfl,by decide +kernel,rfl,by decide +kernel,by decide +kernel⟩
abbrev qh0z:Stmt:=top 21
abbrev q49z:List Str:=["clock","number"]
theorem q5az:FnScope q49z ["clock","number"] (defScope qh0z):=⟨rfl,rfl,rfl,by decide +kernel,rfl,by decide +kernel,by decide +kernel⟩
abbrev qfiz:Stmt:=top 22
abbrev qoyz:List Str:=["clocks","number"]
theorem q5bz:FnScope qoyz ["clocks","number"] (defScope qfiz):=⟨rfl,rfl,rfl,by decide +kernel,rfl,by decide +kernel,by decide +kernel⟩
abbrev qfjz:Stmt:=top 23
abbrev qozz:List Str:=["clocks"]
theorem q5cz:FnScope qozz ["clocks"] (defScope qfjz):=⟨rfl,rfl,rfl,by decide +kernel,rfl,by decide +kernel,by decide +kernel⟩
abbrev qh1z:Stmt:=top 24
abbrev q5dz:List Str:=["one","other","shared","apart","many","turns"]
theorem sc_z56:FnScope q5dz ["one","other"] (defScope qh1z):=⟨rfl,rfl,rfl,by decide +kernel,rfl,by decide +kernel,by decide +kernel⟩
abbrev qh2z:Stmt:=top 26
abbrev q5ez:List Str:=["clocks"]
theorem q5fz:FnScope q5ez ["clocks"] (defScope qh2z):=⟨rfl,rfl,rfl,by decide +kernel,rfl,by decide +kernel,by decide +kernel⟩
abbrev qh3z:Stmt:=top 27
abbrev q5gz:List Str:=["clocks"]
theorem q5hz:FnScope q5gz ["clocks"] (defScope qh3z):=⟨rfl,rfl,rfl,by decide +kernel,rfl,by decide +kernel,by decide +kernel⟩
abbrev qh4z:Stmt:=top 28
abbrev q5iz:List Str:=["clocks","thing"]
theorem q5jz:FnScope q5iz ["clocks","thing"] (defScope qh4z):=⟨rfl,rfl,rfl,by decide +kernel,rfl,by decide +kernel,by decide +kernel⟩
abbrev qh5z:Stmt:=top 29
abbrev q5kz:List Str:=["clocks","clock"]
theorem q5lz:FnScope q5kz ["clocks","clock"] (defScope qh5z):=⟨rfl,rfl,rfl,by decide +kernel,rfl,by decide +kernel,by decide +kernel⟩
abbrev qh6z:Stmt:=top 32
abbrev q5mz:List Str:=["clocks"]
theorem q5nz:FnScope q5mz ["clocks"] (defScope qh6z):=⟨rfl,rfl,rfl,by decide +kernel,rfl,by decide +kernel,by decide +kernel⟩
abbrev qh7z:Stmt:=top 33
abbrev q5oz:List Str:=["clocks","number","looked"]
theorem sc_z21:FnScope q5oz ["clocks","number"] (defScope qh7z):=⟨rfl,rfl,rfl,by decide +kernel,rfl,by decide +kernel,by decide +kernel⟩
abbrev qfkz:Stmt:=top 35
abbrev qo0z:List Str:=["clocks","bottom"]
theorem sc_z41:FnScope qo0z ["clocks"] (defScope qfkz):=⟨rfl,rfl,rfl,by decide +kernel,rfl,by decide +kernel,by decide +kernel⟩
abbrev qh8z:Stmt:=top 36
abbrev q5pz:List Str:=["clocks","place","other","met"]
theorem sc_z52:FnScope q5pz ["clocks"] (defScope qh8z):=⟨rfl,rfl,rfl,by decide +kernel,rfl,by decide +kernel,by decide +kernel⟩
abbrev qh9z:Stmt:=top 37
abbrev q5qz:List Str:=["clocks"]
theorem q5rz:FnScope q5qz ["clocks"] (defScope qh9z):=⟨rfl,rfl,rfl,by decide +kernel,rfl,by decide +kernel,by decide +kernel⟩
abbrev qflz:Stmt:=top 43
abbrev qo1z:List Str:=["thing"]
theorem q5sz:FnScope qo1z ["thing"] (defScope qflz):=⟨rfl,rfl,rfl,by decide +kernel,rfl,by decide +kernel,by decide +kernel⟩
abbrev qiaz:Stmt:=top 44
abbrev q5tz:List Str:=["thing"]
theorem q5uz:FnScope q5tz ["thing"] (defScope qiaz):=⟨rfl,rfl,rfl,by decide +kernel,rfl,by decide +kernel,by decide +kernel⟩
abbrev qibz:Stmt:=top 45
abbrev q5vz:List Str:=["steps"]
theorem q5wz:FnScope q5vz ["steps"] (defScope qibz):=⟨rfl,rfl,rfl,by decide +kernel,rfl,by decide +kernel,by decide +kernel⟩
abbrev qfmz:Stmt:=top 46
abbrev qo2z:List Str:=["steps","rests"]
theorem q5xz:FnScope qo2z ["steps","rests"] (defScope qfmz):=⟨rfl,rfl,rfl,by decide +kernel,rfl,by decide +kernel,by decide +kernel⟩
abbrev qfnz:Stmt:=top 47
abbrev qo3z:List Str:=["rests"]
theorem q5yz:FnScope qo3z ["rests"] (defScope qfnz):=⟨rfl,rfl,rfl,by decide +kernel,rfl,by decide +kernel,by decide +kernel⟩
abbrev qicz:Stmt:=top 48
abbrev q5zz:List Str:=["rests","place","rest"]
theorem q50z:FnScope q5zz ["rests","place","rest"] (defScope qicz):=⟨rfl,rfl,rfl,by decide +kernel,rfl,by decide +kernel,by decide +kernel⟩
abbrev qidz:Stmt:=top 49
abbrev q51z:List Str:=["steps","rests"]
theorem q52z:FnScope q51z ["steps","rests"] (defScope qidz):=⟨rfl,rfl,rfl,by decide +kernel,rfl,by decide +kernel,by decide +kernel⟩
abbrev qfoz:Stmt:=top 50
abbrev qo4z:List Str:=["steps","thing"]
theorem q53z:FnScope qo4z ["steps","thing"] (defScope qfoz):=⟨rfl,rfl,rfl,by decide +kernel,rfl,by decide +kernel,by decide +kernel⟩
abbrev qiez:Stmt:=top 51
abbrev q54z:List Str:=["steps","thing"]
theorem q55z:FnScope q54z ["steps","thing"] (defScope qiez):=⟨rfl,rfl,rfl,by decide +kernel,rfl,by decide +kernel,by decide +kernel⟩
abbrev qfpz:Stmt:=top 52
abbrev qo5z:List Str:=["steps","rests","place","step","tried"]
theorem sc_z47:FnScope qo5z ["steps"] (defScope qfpz):=⟨rfl,rfl,rfl,by decide +kernel,rfl,by decide +kernel,by decide +kernel⟩
abbrev qifz:Stmt:=top 53
abbrev q56z:List Str:=["steps","tried","rests"]
theorem sc_z37:FnScope q56z ["steps","tried"] (defScope qifz):=⟨rfl,rfl,rfl,by decide +kernel,rfl,by decide +kernel,by decide +kernel⟩
abbrev qigz:Stmt:=top 54
abbrev q57z:List Str:=["steps","rests"]
theorem q58z:FnScope q57z ["steps","rests"] (defScope qigz):=⟨rfl,rfl,rfl,by decide +kernel,rfl,by decide +kernel,by decide +kernel⟩
abbrev qihz:Stmt:=top 55
abbrev q59z:List Str:=["steps","product","step"]
theorem sc_z27:FnScope q59z ["steps"] (defScope qihz):=⟨rfl,rfl,rfl,by decide +kernel,rfl,by decide +kernel,by decide +kernel⟩
abbrev qfqz:Stmt:=top 56
abbrev qo6z:List Str:=["steps","rests"]
theorem q6az:FnScope qo6z ["steps","rests"] (defScope qfqz):=⟨rfl,rfl,rfl,by decide +kernel,rfl,by decide +kernel,by decide +kernel⟩
abbrev qfrz:Stmt:=top 57
abbrev qo7z:List Str:=["steps"]
theorem q6bz:FnScope qo7z ["steps"] (defScope qfrz):=⟨rfl,rfl,rfl,by decide +kernel,rfl,by decide +kernel,by decide +kernel⟩
abbrev qiiz:Stmt:=top 58
abbrev q6cz:List Str:=["steps","thing"]
theorem q6dz:FnScope q6cz ["steps","thing"] (defScope qiiz):=⟨rfl,rfl,rfl,by decide +kernel,rfl,by decide +kernel,by decide +kernel⟩
abbrev qijz:Stmt:=top 59
abbrev q6ez:List Str:=["steps","rests","thing"]
theorem q6fz:FnScope q6ez ["steps","rests","thing"] (defScope qijz):=⟨rfl,rfl,rfl,by decide +kernel,rfl,by decide +kernel,by decide +kernel⟩
abbrev qikz:Stmt:=top 60
abbrev q6gz:List Str:=["steps","rests","number","papers","places","place","paper"]
theorem sc_z24:FnScope q6gz ["steps","rests","number","papers"] (defScope qikz):=⟨rfl,rfl,rfl,by decide +kernel,rfl,by decide +kernel,by decide +kernel⟩
abbrev qilz:Stmt:=top 61
abbrev q6hz:List Str:=["steps"]
theorem q6iz:FnScope q6hz ["steps"] (defScope qilz):=⟨rfl,rfl,rfl,by decide +kernel,rfl,by decide +kernel,by decide +kernel⟩
abbrev qimz:Stmt:=top 62
abbrev q6jz:List Str:=["steps","rests","number","papers","place","paper"]
theorem sc_z33:FnScope q6jz ["steps","rests"] (defScope qimz):=⟨rfl,rfl,rfl,by decide +kernel,rfl,by decide +kernel,by decide +kernel⟩
abbrev qinz:Stmt:=top 64
abbrev q6kz:List Str:=["script","k"]
theorem q6lz:FnScope q6kz ["script","k"] (defScope qinz):=⟨rfl,rfl,rfl,by decide +kernel,rfl,by decide +kernel,by decide +kernel⟩
abbrev qioz:Stmt:=top 65
abbrev q6mz:List Str:=["seed"]
theorem sc_z54:FnScope q6mz ["seed"] (defScope qioz):=⟨rfl,rfl,rfl,by decide +kernel,rfl,by decide +kernel,by decide +kernel⟩
abbrev qipz:Stmt:=top 66
abbrev q6nz:List Str:=["cell","left"]
theorem sc_z30:FnScope q6nz ["cell"] (defScope qipz):=⟨rfl,rfl,rfl,by decide +kernel,rfl,by decide +kernel,by decide +kernel⟩
abbrev qiqz:Stmt:=top 67
abbrev q6oz:List Str:=["pen","many","found"]
theorem sc_z51:FnScope q6oz ["pen","many"] (defScope qiqz):=⟨rfl,rfl,rfl,by decide +kernel,rfl,by decide +kernel,by decide +kernel⟩
abbrev qfsz:Stmt:=top 68
abbrev qo8z:List Str:=["pen","times","found","turn","spot","k","step","rest"]
theorem sc_z43:FnScope qo8z ["pen","times"] (defScope qfsz):=⟨rfl,rfl,rfl,by decide +kernel,rfl,by decide +kernel,by decide +kernel⟩
abbrev qc1z:Stmt:=top 69
abbrev qftz:List Str:=["pen","way","found"]
theorem sc_z11:FnScope qftz ["pen"] (defScope qc1z):=⟨rfl,rfl,rfl,by decide +kernel,rfl,by decide +kernel,by decide +kernel⟩
abbrev qirz:Stmt:=top 70
abbrev q6pz:List Str:=["steps","found","step"]
theorem sc_z17:FnScope q6pz ["steps"] (defScope qirz):=⟨rfl,rfl,rfl,by decide +kernel,rfl,by decide +kernel,by decide +kernel⟩
abbrev qfuz:Stmt:=top 71
abbrev qo9z:List Str:=["pen","steps","rests","clocks","spot","easy","other"]
theorem sc_z4:FnScope qo9z ["pen","steps","rests"] (defScope qfuz):=⟨rfl,rfl,rfl,by decide +kernel,rfl,by decide +kernel,by decide +kernel⟩
abbrev qisz:Stmt:=top 72
abbrev q6qz:List Str:=["pen","steps","rests","paper","top","bottom","many"]
theorem sc_z49:FnScope q6qz ["pen","steps"] (defScope qisz):=⟨rfl,rfl,rfl,by decide +kernel,rfl,by decide +kernel,by decide +kernel⟩
abbrev qitz:Stmt:=top 73
abbrev q6rz:List Str:=["script","cell","pen"]
theorem sc_law:FnScope q6rz ["script"] (defScope qitz):=⟨rfl,rfl,rfl,by decide +kernel,rfl,by decide +kernel,by decide +kernel⟩
set_option genInjectivity false in
structure Adr where
 f_z26:Addr
 d_z26:FuncData
 f_z10:Addr
 d_z10:FuncData
 f_z57:Addr
 d_z57:FuncData
 f_z7:Addr
 d_z7:FuncData
 f_z5:Addr
 d_z5:FuncData
 f_z28:Addr
 d_z28:FuncData
 f_z13:Addr
 d_z13:FuncData
 f_z9:Addr
 d_z9:FuncData
 f_z8:Addr
 d_z8:FuncData
 f_z40:Addr
 d_z40:FuncData
 f_z46:Addr
 d_z46:FuncData
 f_z59:Addr
 d_z59:FuncData
 f_z55:Addr
 d_z55:FuncData
 f_z53:Addr
 d_z53:FuncData
 f_z56:Addr
 d_z56:FuncData
 f_z58:Addr
 d_z58:FuncData
 f_z15:Addr
 d_z15:FuncData
 f_z45:Addr
 d_z45:FuncData
 f_z12:Addr
 d_z12:FuncData
 f_z48:Addr
 d_z48:FuncData
 f_z21:Addr
 d_z21:FuncData
 f_z41:Addr
 d_z41:FuncData
 f_z52:Addr
 d_z52:FuncData
 f_z32:Addr
 d_z32:FuncData
 f_z39:Addr
 d_z39:FuncData
 f_z6:Addr
 d_z6:FuncData
 f_z0:Addr
 d_z0:FuncData
 f_z34:Addr
 d_z34:FuncData
 f_z20:Addr
 d_z20:FuncData
 f_z50:Addr
 d_z50:FuncData
 f_z19:Addr
 d_z19:FuncData
 f_z3:Addr
 d_z3:FuncData
 f_z35:Addr
 d_z35:FuncData
 f_z47:Addr
 d_z47:FuncData
 f_z37:Addr
 d_z37:FuncData
 f_z29:Addr
 d_z29:FuncData
 f_z27:Addr
 d_z27:FuncData
 f_z42:Addr
 d_z42:FuncData
 f_z22:Addr
 d_z22:FuncData
 f_z31:Addr
 d_z31:FuncData
 f_z36:Addr
 d_z36:FuncData
 f_z24:Addr
 d_z24:FuncData
 f_z44:Addr
 d_z44:FuncData
 f_z33:Addr
 d_z33:FuncData
 f_z18:Addr
 d_z18:FuncData
 f_z54:Addr
 d_z54:FuncData
 f_z30:Addr
 d_z30:FuncData
 f_z51:Addr
 d_z51:FuncData
 f_z43:Addr
 d_z43:FuncData
 f_z11:Addr
 d_z11:FuncData
 f_z17:Addr
 d_z17:FuncData
 f_z4:Addr
 d_z4:FuncData
 f_z49:Addr
 d_z49:FuncData
 f_law:Addr
 d_law:FuncData
 t_GREATEST_STEP:Tok
 t_LEAST_STEP:Tok
 t_MOST_CLOCKS:Tok
 t_MOST_FAR_CLOCKS:Tok
 t_MOST_NUMBERS:Tok
 t_MOST_RESTS:Tok
 t_MOST_STEP:Tok
 t_MOST_STEPS:Tok
structure Txt(K:PySem.W.Frag)(mg:Str->Option Value)(t:Adr):Prop where
 F_z26:Fun K "whole_good" "whole_good" qhpz t.f_z26 t.d_z26
 m_z26:mg "whole_good" = some (.ref t.f_z26)
 b_z26:Binds K t.d_z26 ["thing"] []
 F_z10:Fun K "refuse_above" "refuse_above" qhqz t.f_z10 t.d_z10
 m_z10:mg "refuse_above" = some (.ref t.f_z10)
 b_z10:Binds K t.d_z10 ["many","most"] []
 F_z57:Fun K "doubled" "doubled" qhrz t.f_z57 t.d_z57
 m_z57:mg "doubled" = some (.ref t.f_z57)
 b_z57:Binds K t.d_z57 ["times"] []
 F_z7:Fun K "common_divisor" "common_divisor" qhsz t.f_z7 t.d_z7
 m_z7:mg "common_divisor" = some (.ref t.f_z7)
 b_z7:Binds K t.d_z7 ["one","other"] []
 F_z5:Fun K "common_multiple" "common_multiple" qhtz t.f_z5 t.d_z5
 m_z5:mg "common_multiple" = some (.ref t.f_z5)
 b_z5:Binds K t.d_z5 ["numbers"] []
 F_z28:Fun K "inverse_of" "inverse_of" qhuz t.f_z28 t.d_z28
 m_z28:mg "inverse_of" = some (.ref t.f_z28)
 b_z28:Binds K t.d_z28 ["number","bound"] []
 F_z13:Fun K "lowest_terms" "lowest_terms" qhvz t.f_z13 t.d_z13
 m_z13:mg "lowest_terms" = some (.ref t.f_z13)
 b_z13:Binds K t.d_z13 ["top","bottom"] []
 F_z9:Fun K "counts_within" "counts_within" qhwz t.f_z9 t.d_z9
 m_z9:mg "counts_within" = some (.ref t.f_z9)
 b_z9:Binds K t.d_z9 ["clocks","many"] []
 F_z8:Fun K "first_counted" "first_counted" qhxz t.f_z8 t.d_z8
 m_z8:mg "first_counted" = some (.ref t.f_z8)
 b_z8:Binds K t.d_z8 ["clock","counts","many"] []
 F_z40:Fun K "clock_good" "clock_good" qhyz t.f_z40 t.d_z40
 m_z40:mg "clock_good" = some (.ref t.f_z40)
 b_z40:Binds K t.d_z40 ["thing"] []
 F_z46:Fun K "clocks_of" "clocks_of" qhzz t.f_z46 t.d_z46
 m_z46:mg "clocks_of" = some (.ref t.f_z46)
 b_z46:Binds K t.d_z46 ["things"] []
 F_z59:Fun K "rings" "rings" qh0z t.f_z59 t.d_z59
 m_z59:mg "rings" = some (.ref t.f_z59)
 b_z59:Binds K t.d_z59 ["clock","number"] []
 F_z55:Fun K "rings_at" "rings_at" qfiz t.f_z55 t.d_z55
 m_z55:mg "rings_at" = some (.ref t.f_z55)
 b_z55:Binds K t.d_z55 ["clocks","number"] []
 F_z53:Fun K "round_of" "round_of" qfjz t.f_z53 t.d_z53
 m_z53:mg "round_of" = some (.ref t.f_z53)
 b_z53:Binds K t.d_z53 ["clocks"] []
 F_z56:Fun K "meet_of" "meet_of" qh1z t.f_z56 t.d_z56
 m_z56:mg "meet_of" = some (.ref t.f_z56)
 b_z56:Binds K t.d_z56 ["one","other"] []
 F_z58:Fun K "covers" "covers" qh2z t.f_z58 t.d_z58
 m_z58:mg "covers" = some (.ref t.f_z58)
 b_z58:Binds K t.d_z58 ["clocks"] []
 F_z15:Fun K "first_missed" "first_missed" qh3z t.f_z15 t.d_z15
 m_z15:mg "first_missed" = some (.ref t.f_z15)
 b_z15:Binds K t.d_z15 ["clocks"] []
 F_z45:Fun K "miss_good" "miss_good" qh4z t.f_z45 t.d_z45
 m_z45:mg "miss_good" = some (.ref t.f_z45)
 b_z45:Binds K t.d_z45 ["clocks","thing"] []
 F_z12:Fun K "first_within" "first_within" qh5z t.f_z12 t.d_z12
 m_z12:mg "first_within" = some (.ref t.f_z12)
 b_z12:Binds K t.d_z12 ["clocks","clock"] []
 F_z48:Fun K "window_of" "window_of" qh6z t.f_z48 t.d_z48
 m_z48:mg "window_of" = some (.ref t.f_z48)
 b_z48:Binds K t.d_z48 ["clocks"] []
 F_z21:Fun K "next_missed" "next_missed" qh7z t.f_z21 t.d_z21
 m_z21:mg "next_missed" = some (.ref t.f_z21)
 b_z21:Binds K t.d_z21 ["clocks","number"] []
 F_z41:Fun K "shares_of" "shares_of" qfkz t.f_z41 t.d_z41
 m_z41:mg "shares_of" = some (.ref t.f_z41)
 b_z41:Binds K t.d_z41 ["clocks"] []
 F_z52:Fun K "clash_of" "clash_of" qh8z t.f_z52 t.d_z52
 m_z52:mg "clash_of" = some (.ref t.f_z52)
 b_z52:Binds K t.d_z52 ["clocks"] []
 F_z32:Fun K "exact_good" "exact_good" qh9z t.f_z32 t.d_z32
 m_z32:mg "exact_good" = some (.ref t.f_z32)
 b_z32:Binds K t.d_z32 ["clocks"] []
 F_z39:Fun K "steps_good" "steps_good" qflz t.f_z39 t.d_z39
 m_z39:mg "steps_good" = some (.ref t.f_z39)
 b_z39:Binds K t.d_z39 ["thing"] []
 F_z6:Fun K "refuse_no_steps" "refuse_no_steps" qiaz t.f_z6 t.d_z6
 m_z6:mg "refuse_no_steps" = some (.ref t.f_z6)
 b_z6:Binds K t.d_z6 ["thing"] []
 F_z0:Fun K "refuse_great_steps" "refuse_great_steps" qibz t.f_z0 t.d_z0
 m_z0:mg "refuse_great_steps" = some (.ref t.f_z0)
 b_z0:Binds K t.d_z0 ["steps"] []
 F_z34:Fun K "set_clocks" "set_clocks" qfmz t.f_z34 t.d_z34
 m_z34:mg "set_clocks" = some (.ref t.f_z34)
 b_z34:Binds K t.d_z34 ["steps","rests"] []
 F_z20:Fun K "open_places" "open_places" qfnz t.f_z20 t.d_z20
 m_z20:mg "open_places" = some (.ref t.f_z20)
 b_z20:Binds K t.d_z20 ["rests"] []
 F_z50:Fun K "with_rest" "with_rest" qicz t.f_z50 t.d_z50
 m_z50:mg "with_rest" = some (.ref t.f_z50)
 b_z50:Binds K t.d_z50 ["rests","place","rest"] []
 F_z19:Fun K "rests_cover" "rests_cover" qidz t.f_z19 t.d_z19
 m_z19:mg "rests_cover" = some (.ref t.f_z19)
 b_z19:Binds K t.d_z19 ["steps","rests"] []
 F_z3:Fun K "rests_form_good" "rests_form_good" qfoz t.f_z3 t.d_z3
 m_z3:mg "rests_form_good" = some (.ref t.f_z3)
 b_z3:Binds K t.d_z3 ["steps","thing"] []
 F_z35:Fun K "rests_good" "rests_good" qiez t.f_z35 t.d_z35
 m_z35:mg "rests_good" = some (.ref t.f_z35)
 b_z35:Binds K t.d_z35 ["steps","thing"] []
 F_z47:Fun K "rests_for" "rests_for" qfpz t.f_z47 t.d_z47
 m_z47:mg "rests_for" = some (.ref t.f_z47)
 b_z47:Binds K t.d_z47 ["steps"] []
 F_z37:Fun K "first_left" "first_left" qifz t.f_z37 t.d_z37
 m_z37:mg "first_left" = some (.ref t.f_z37)
 b_z37:Binds K t.d_z37 ["steps","tried"] []
 F_z29:Fun K "rests_left" "rests_left" qigz t.f_z29 t.d_z29
 m_z29:mg "rests_left" = some (.ref t.f_z29)
 b_z29:Binds K t.d_z29 ["steps","rests"] []
 F_z27:Fun K "rests_many" "rests_many" qihz t.f_z27 t.d_z27
 m_z27:mg "rests_many" = some (.ref t.f_z27)
 b_z27:Binds K t.d_z27 ["steps"] []
 F_z42:Fun K "many_from" "many_from" qfqz t.f_z42 t.d_z42
 m_z42:mg "many_from" = some (.ref t.f_z42)
 b_z42:Binds K t.d_z42 ["steps","rests"] []
 F_z22:Fun K "steps_share" "steps_share" qfrz t.f_z22 t.d_z22
 m_z22:mg "steps_share" = some (.ref t.f_z22)
 b_z22:Binds K t.d_z22 ["steps"] []
 F_z31:Fun K "cases_good" "cases_good" qiiz t.f_z31 t.d_z31
 m_z31:mg "cases_good" = some (.ref t.f_z31)
 b_z31:Binds K t.d_z31 ["steps","thing"] []
 F_z36:Fun K "paper_good" "paper_good" qijz t.f_z36 t.d_z36
 m_z36:mg "paper_good" = some (.ref t.f_z36)
 b_z36:Binds K t.d_z36 ["steps","rests","thing"] []
 F_z24:Fun K "papers_good" "papers_good" qikz t.f_z24 t.d_z24
 m_z24:mg "papers_good" = some (.ref t.f_z24)
 b_z24:Binds K t.d_z24 ["steps","rests","number","papers"] []
 F_z44:Fun K "cases_for" "cases_for" qilz t.f_z44 t.d_z44
 m_z44:mg "cases_for" = some (.ref t.f_z44)
 b_z44:Binds K t.d_z44 ["steps"] []
 F_z33:Fun K "cases_from" "cases_from" qimz t.f_z33 t.d_z33
 m_z33:mg "cases_from" = some (.ref t.f_z33)
 b_z33:Binds K t.d_z33 ["steps","rests"] []
 F_z18:Fun K "_law_cell_at" "_law_cell_at" qinz t.f_z18 t.d_z18
 m_z18:mg "_law_cell_at" = some (.ref t.f_z18)
 b_z18:Binds K t.d_z18 ["script","k"] []
 F_z54:Fun K "_law_next" "_law_next" qioz t.f_z54 t.d_z54
 m_z54:mg "_law_next" = some (.ref t.f_z54)
 b_z54:Binds K t.d_z54 ["seed"] []
 F_z30:Fun K "_law_pen_of" "_law_pen_of" qipz t.f_z30 t.d_z30
 m_z30:mg "_law_pen_of" = some (.ref t.f_z30)
 b_z30:Binds K t.d_z30 ["cell"] []
 F_z51:Fun K "_law_draw" "_law_draw" qiqz t.f_z51 t.d_z51
 m_z51:mg "_law_draw" = some (.ref t.f_z51)
 b_z51:Binds K t.d_z51 ["pen","many"] []
 F_z43:Fun K "_law_split" "_law_split" qfsz t.f_z43 t.d_z43
 m_z43:mg "_law_split" = some (.ref t.f_z43)
 b_z43:Binds K t.d_z43 ["pen","times"] []
 F_z11:Fun K "_law_steps_of" "_law_steps_of" qc1z t.f_z11 t.d_z11
 m_z11:mg "_law_steps_of" = some (.ref t.f_z11)
 b_z11:Binds K t.d_z11 ["pen"] []
 F_z17:Fun K "_law_product" "_law_product" qirz t.f_z17 t.d_z17
 m_z17:mg "_law_product" = some (.ref t.f_z17)
 b_z17:Binds K t.d_z17 ["steps"] []
 F_z4:Fun K "_law_rests_right" "_law_rests_right" qfuz t.f_z4 t.d_z4
 m_z4:mg "_law_rests_right" = some (.ref t.f_z4)
 b_z4:Binds K t.d_z4 ["pen","steps","rests"] []
 F_z49:Fun K "_law_right" "_law_right" qisz t.f_z49 t.d_z49
 m_z49:mg "_law_right" = some (.ref t.f_z49)
 b_z49:Binds K t.d_z49 ["pen","steps"] []
 F_law:Fun K "law" "law" qitz t.f_law t.d_law
 m_law:mg "law" = some (.ref t.f_law)
 b_law:Binds K t.d_law ["script"] []
 m_GREATEST_STEP:mg "GREATEST_STEP" = some (.int 24 t.t_GREATEST_STEP)
 m_LEAST_STEP:mg "LEAST_STEP" = some (.int 2 t.t_LEAST_STEP)
 m_MOST_CLOCKS:mg "MOST_CLOCKS" = some (.int 12 t.t_MOST_CLOCKS)
 m_MOST_FAR_CLOCKS:mg "MOST_FAR_CLOCKS" = some (.int 10 t.t_MOST_FAR_CLOCKS)
 m_MOST_NUMBERS:mg "MOST_NUMBERS" = some (.int 10000 t.t_MOST_NUMBERS)
 m_MOST_RESTS:mg "MOST_RESTS" = some (.int 3000 t.t_MOST_RESTS)
 m_MOST_STEP:mg "MOST_STEP" = some (.int 1000 t.t_MOST_STEP)
 m_MOST_STEPS:mg "MOST_STEPS" = some (.int 6 t.t_MOST_STEPS)
 m_all:mg "all" = none
 m_bool:mg "bool" = none
 m_enumerate:mg "enumerate" = none
 m_int:mg "int" = none
 m_isinstance:mg "isinstance" = none
 m_len:mg "len" = none
 m_list:mg "list" = none
 m_max:mg "max" = none
 m_range:mg "range" = none
 m_set:mg "set" = none
 m_sorted:mg "sorted" = none
 m_sum:mg "sum" = none
 m_tuple:mg "tuple" = none
 m_zip:mg "zip" = none
section
variable {P:Program} {w:World} {K:PySem.W.Frag} {mg:Str->Option Value} {base:Heap} {t:Adr}
theorem q6sz:∀ds G Q,qbkz ds G Q->ds.length=1:=by
 intro ds G Q h
 first
  | (rcases ds with _|⟨_,_|⟨_,_|⟨_,_|⟨_,_⟩⟩⟩⟩<;>first|rfl|exact h.elim)
  | (obtain⟨rfl,_⟩:=h;rfl)
  | (obtain⟨_,rfl,_⟩:=h;rfl)
  | (obtain⟨_,_,rfl,_⟩:=h;rfl)
  | (obtain⟨_,_,_,rfl,_⟩:=h;rfl)
  | (obtain⟨_,_,_,_,rfl,_⟩:=h;rfl)
  | (obtain⟨_,_,_,_,_,rfl,_⟩:=h;rfl)
  | (obtain⟨_,_,_,_,_,_,rfl,_⟩:=h;rfl)
  | (obtain⟨_,_,_,_,_,_,_,rfl,_⟩:=h;rfl)
  | (obtain⟨_,_,_,_,_,_,_,_,rfl,_⟩:=h;rfl)
theorem qd9z(T:Txt K mg t):FnOk3 P w K mg base 1 t.f_z26 t.d_z26 ["thing"] qbkz:=by
 refine qfn3 (k:=0) (sp:=qbkz) T.F_z26 q4wz (by decide) q6sz qlgz (fun cdv A outer s H E hr=>?_) qw6z;refine qez (qiz ?_);refine qbgz (qcaz qvnz rfl (qaz (pv 0)) T.m_isinstance T.m_int rfl (by decide) (by decide)) ?_;refine qa5z (qwwz (qcaz qvoz rfl (qaz (pv 0)) T.m_isinstance T.m_bool rfl (by decide) (by decide)))
theorem q6tz:∀ds G Q,qbxz ds G Q->ds.length=2:=by
 intro ds G Q h;obtain⟨_,_,rfl,_⟩:=h;rfl
theorem qfvz(T:Txt K mg t):FnOk3 P w K mg base 1 t.f_z10 t.d_z10 ["many","most"] qbxz:=by
 refine qfn3 (k:=0) (sp:=qbxz) T.F_z10 q4yz (by decide) q6tz qmfz (fun cdv A outer s H E hr=>?_) qzfz;refine qez (qrz (qoz l_gt qfyz (qaz (pv 0)) (qaz (pv 1)) (nomark _)) (qez qgqz) qqz)
theorem q6uz:∀ds G Q,qdxz ds G Q->ds.length=1:=by
 intro ds G Q h;obtain⟨_,rfl,_⟩:=h;rfl
theorem q6vz(T:Txt K mg t):FnOk3 P w K mg base 1 t.f_z57 t.d_z57 ["times"] qdxz:=by
 refine qfn3 (k:=0) (sp:=qdxz) T.F_z57 sc_z57 (by decide) q6uz qm3z (fun cdv A outer s H E hr=>?_) q0qz;refine qfz (qkz (i:=1) sc_z57.nd qdz) (qfz ?_ (qez (qiz (qaz (pv 1)))));refine qaaz PassesOwn.never rfl (qb8z T.m_range (qbz (qaz (pv 0)) qcz)) (qmz (i:=2) sc_z57.nd) ?_;refine qez (qwyz (i:=1) qwtz sc_z57.nd (qaz (pv 1)) qi3z)
theorem q6wz:∀ds G Q,qccz ds G Q->ds.length=2:=by
 intro ds G Q h;obtain⟨_,_,rfl,_⟩:=h;rfl
theorem qiuz(T:Txt K mg t):FnOk3 P w K mg base 1 t.f_z7 t.d_z7 ["one","other"] qccz:=by
 refine qfn3 (k:=0) (sp:=qccz) T.F_z7 sc_z7 (by decide) q6wz qlxz (fun cdv A outer s H E hr=>?_) qxrz;refine qfz ?_ (qez (qiz (qaz (pv 0))));refine qlcz PassesOwn.never (qoz l_ne (qavz hr.units) (qaz (pv 1)) qdz (nomark _)) ?_;refine qfz (qkz (i:=2) sc_z7.nd (qjz qakz qagz (qaz (pv 0)) (qaz (pv 1)))) ?_;refine qfz (qkz (i:=0) sc_z7.nd (qaz (pv 1))) (qez (qkz (i:=1) sc_z7.nd (qaz (pv 2))))
theorem q6xz:∀ds G Q,qcrz ds G Q->ds.length=1:=by
 intro ds G Q h;obtain⟨_,_,rfl,_⟩:=h;rfl
theorem qpaz(T:Txt K mg t):FnOk3 P w K mg base 2 t.f_z5 t.d_z5 ["numbers"] qcrz:=by
 refine qfn3 (k:=1) (sp:=qcrz) T.F_z5 sc_z5 (by decide) q6xz qm0z (fun cdv A outer s H E hr=>?_) q0jz;refine qfz (qkz (i:=1) sc_z5.nd qdz) (qfz ?_ (qez (qiz (qaz (pv 1)))));refine qaaz PassesOwn.never rfl (qamz (qaz (pv 0))) (qmz (i:=2) sc_z5.nd) (qez ?_);refine qkz (i:=1) sc_z5.nd (qjz q7z q6z (qaz (pv 1)) (qjz qa2z qa1z (qaz (pv 2)) ?_));refine qgz ((qiuz T).mono (by decide)) hr T.m_z7 T.F_z7.kp T.b_z7 ?_;refine qbz (qaz (pv 1)) (qbz (qaz (pv 2)) qcz)
theorem q6yz:∀ds G Q,qdkz ds G Q->ds.length=2:=by
 intro ds G Q h;obtain⟨_,_,rfl,_⟩:=h;rfl
theorem q6zz(T:Txt K mg t):FnOk3 P w K mg base 1 t.f_z28 t.d_z28 ["number","bound"] qdkz:=by
 refine qfn3 (k:=0) (sp:=qdkz) T.F_z28 sc_z28 (by decide) q6yz ql4z (fun cdv A outer s H E hr=>?_) qyez;refine qfz (qkz (i:=2) sc_z28.nd (qaz (pv 1))) ?_;refine qfz (qkz (i:=3) sc_z28.nd (qjz qakz qagz (qaz (pv 0)) (qaz (pv 1)))) ?_;refine qfz (qkz (i:=4) sc_z28.nd qdz) (qfz (qkz (i:=5) sc_z28.nd qdz) ?_);refine qfz ?_ (qez (qiz (qjz qakz qagz (qaz (pv 4)) (qaz (pv 1)))));refine qlcz PassesOwn.never (qoz l_ne (qavz hr.units) (qaz (pv 3)) qdz (nomark _)) ?_;refine qfz (qkz (i:=6) sc_z28.nd (qjz qa2z qa1z (qaz (pv 2)) (qaz (pv 3)))) ?_;refine qfz (qkz (i:=7) sc_z28.nd (qjz qenz qecz (qaz (pv 2)) (qjz q7z q6z (qaz (pv 6)) (qaz (pv 3))))) ?_;refine qfz (qkz (i:=8) sc_z28.nd (qjz qenz qecz (qaz (pv 4)) (qjz q7z q6z (qaz (pv 6)) (qaz (pv 5))))) ?_;refine qfz (qkz (i:=2) sc_z28.nd (qaz (pv 3))) (qfz (qkz (i:=4) sc_z28.nd (qaz (pv 5))) ?_);refine qfz (qkz (i:=3) sc_z28.nd (qaz (pv 7))) (qez (qkz (i:=5) sc_z28.nd (qaz (pv 8))))
theorem q60z:∀ds G Q,qdjz ds G Q->ds.length=2:=by
 intro ds G Q h;obtain⟨_,_,rfl,_⟩:=h;rfl
theorem q61z(T:Txt K mg t):FnOk3 P w K mg base 2 t.f_z13 t.d_z13 ["top","bottom"] qdjz:=by
 refine qfn3 (k:=1) (sp:=qdjz) T.F_z13 sc_z13 (by decide) q60z ql1z (fun cdv A outer s H E hr=>?_) qxyz;refine qfz (qkz (i:=2) sc_z13.nd ?_) ?_;refine qgz ((qiuz T).mono (by decide)) hr T.m_z7 T.F_z7.kp T.b_z7 ?_;refine qbz (qaz (pv 0)) (qbz (qaz (pv 1)) qcz);refine qez (qiz (qaqz (qbz (qjz qa2z qa1z (qaz (pv 0)) (qaz (pv 2))) (qbz (qjz qa2z qa1z (qaz (pv 1)) (qaz (pv 2))) qcz))))
theorem q62z:∀ds G Q,qcpz ds G Q->ds.length=2:=by
 intro ds G Q h;obtain⟨_,_,rfl,_⟩:=h;rfl
theorem q63z(T:Txt K mg t):FnOk3 P w K mg base 2 t.f_z9 t.d_z9 ["clocks","many"] qcpz:=by
 refine qfn3 (k:=1) (sp:=qcpz) T.F_z9 sc_z9 (by decide) q62z qmkz (fun cdv A outer s H E hr=>?_) qznz;refine qfz (qalz ?_) ?_;refine qgz ((qfvz T).mono (by decide)) hr T.m_z10 T.F_z10.kp T.b_z10 ?_;refine qbz (qaz (pv 1)) (qbz (qbfz T.m_MOST_NUMBERS) qcz);refine qfz (qkz (i:=2) sc_z9.nd (qjz q7z q6z (q9z (qbz qdz qcz)) (qaz (pv 1)))) ?_;refine qfz ?_ (qez (qiz (qaz (pv 2))));refine qaaz PassesOwn.never rfl (qamz (qaz (pv 0))) ?_ (qez ?_);refine qbiz rfl (q5z (qmz (i:=3) sc_z9.nd) (q5z (qmz (i:=4) sc_z9.nd) qbhz));refine qaaz PassesOwn.never rfl (qlfz T.m_range (qbz (qaz (pv 4)) (qbz (qaz (pv 1)) (qbz (qaz (pv 3)) qcz)))) ?_ ?_;refine qmz (i:=5) sc_z9.nd;refine qez (qw3z (qaz (pv 2)) (qaz (pv 5)) qdz)
theorem q64z:∀ds G Q,qdqz ds G Q->ds.length=3:=by
 intro ds G Q h;obtain⟨_,_,_,_,_,rfl,_⟩:=h;rfl
theorem q65z(T:Txt K mg t):FnOk3 P w K mg base 1 t.f_z8 t.d_z8 ["clock","counts","many"] qdqz:=by
 refine qfn3 (k:=0) (sp:=qdqz) T.F_z8 sc_z8 (by decide) q64z qmmz (fun cdv A outer s H E hr=>?_) qzqz;refine qfz ?_ (qez (qiz quz));refine qaaz PassesOwn.never rfl (qlfz T.m_range ?_) (qmz (i:=3) sc_z8.nd) ?_;refine qbz (qnz (qaz (pv 0)) qdz) (qbz (qyz hr.units T.m_len (qbz (qaz (pv 1)) qcz)) (qbz (qnz (qaz (pv 0)) qdz) qcz));refine qez (qrz (qoz l_eq (qauz hr.units) (qnz (qaz (pv 1)) (qaz (pv 3))) (qaz (pv 2)) (nomark _)) (qez (qiz (qaz (pv 3)))) qqz)
theorem q66z:∀ds G Q,qdnz ds G Q->ds.length=1:=by
 intro ds G Q h;obtain⟨_,rfl,_⟩:=h;rfl
theorem q67z(T:Txt K mg t):FnOk3 P w K mg base 2 t.f_z40 t.d_z40 ["thing"] qdnz:=by
 refine qfn3 (k:=1) (sp:=qdnz) T.F_z40 q47z (by decide) q66z qg5z (fun cdv A outer s H E hr=>?_) qyxz;refine qfz (qrz (qafz ?_) (qez (qiz qadz)) qqz) ?_;refine qawz (q8z (q3z (qcaz kit_tuple rfl (qaz (pv 0)) T.m_isinstance T.m_tuple rfl (by decide) (by decide)))) ?_;refine qa4z (qoz l_ne (qavz hr.units) (qyz hr.units T.m_len (qbz (qaz (pv 0)) qcz)) qdz (nomark _));refine qfz (qrz (qafz ?_) (qez (qiz qadz)) qqz) (qez (qiz ?_));refine qawz (q8z ?_) (qa4z (q8z ?_));refine q3z (qgz ((qd9z T).mono (by decide)) hr T.m_z26 T.F_z26.kp T.b_z26 (qbz (qnz (qaz (pv 0)) qdz) qcz));refine q3z (qgz ((qd9z T).mono (by decide)) hr T.m_z26 T.F_z26.kp T.b_z26 (qbz (qnz (qaz (pv 0)) qdz) qcz));refine qbgz (qeyz l_le l_le qbnz qbnz qdz (qnz (qaz (pv 0)) qdz) (qbfz T.m_MOST_STEP)) ?_;refine qa5z (qeyz l_le qbdz qbnz (qbcz hr.units0) qdz (qnz (qaz (pv 0)) qdz) (qnz (qaz (pv 0)) qdz))
theorem q68z:∀ds G Q,qd5z ds G Q->ds.length=1:=by
 intro ds G Q h
 first
  | (rcases ds with _|⟨_,_|⟨_,_|⟨_,_|⟨_,_⟩⟩⟩⟩<;>first|rfl|exact h.elim)
  | (obtain⟨rfl,_⟩:=h;rfl)
  | (obtain⟨_,rfl,_⟩:=h;rfl)
  | (obtain⟨_,_,rfl,_⟩:=h;rfl)
  | (obtain⟨_,_,_,rfl,_⟩:=h;rfl)
  | (obtain⟨_,_,_,_,rfl,_⟩:=h;rfl)
  | (obtain⟨_,_,_,_,_,rfl,_⟩:=h;rfl)
  | (obtain⟨_,_,_,_,_,_,rfl,_⟩:=h;rfl)
  | (obtain⟨_,_,_,_,_,_,_,rfl,_⟩:=h;rfl)
  | (obtain⟨_,_,_,_,_,_,_,_,rfl,_⟩:=h;rfl)
theorem q69z(T:Txt K mg t):FnOk3 P w K mg base 3 t.f_z46 t.d_z46 ["things"] qd5z:=by
 refine qfn3 (k:=2) (sp:=qd5z) T.F_z46 sc_z46 (by decide) q68z qoiz (fun cdv A outer s H E hr=>?_) q36z;refine qfz (qkz (i:=1) sc_z46.nd (q9z qcz)) ?_;refine qfz ?_ (qez (qiz (qdez hr.units T.m_tuple (qbz (qw1z hr.units T.m_sorted (qbz (qaz (pv 1)) qcz)) qcz))));refine qaaz PassesOwn.never rfl (qguz T.m_enumerate (qbz (qaz (pv 0)) qcz)) ?_ ?_;refine qbiz rfl (q5z (qmz (i:=2) sc_z46.nd) (q5z (qmz (i:=3) sc_z46.nd) qbhz));refine qfz (qrz (qafz ?_) (qez qgqz) qqz) ?_;refine qawz (q8z (q3z (qgz ((q67z T).mono (by decide)) hr T.m_z40 T.F_z40.kp T.b_z40 (qbz (qaz (pv 3)) qcz)))) ?_;refine qawz (qoz l_in (qwiz hr.units) (qaz (pv 3)) (qaz (pv 1)) (by with_unfolding_all rfl)) ?_;refine qa4z (qoz l_eq (qauz hr.units) (qyz hr.units T.m_len (qbz (qaz (pv 1)) qcz)) (qbfz T.m_MOST_CLOCKS) (nomark _));refine qez (qalz (qgvz qf7z PySem.F.slot_list_append PySem.F.type_list_append qegz (qaz (pv 1)) (qbz (qaz (pv 3)) qcz)))
theorem q7az:∀ds G Q,qdgz ds G Q->ds.length=2:=by
 intro ds G Q h;obtain⟨_,_,rfl,_⟩:=h;rfl
theorem q7bz(T:Txt K mg t):FnOk3 P w K mg base 1 t.f_z59 t.d_z59 ["clock","number"] qdgz:=by
 refine qfn3 (k:=0) (sp:=qdgz) T.F_z59 q5az (by decide) q7az qllz (fun cdv A outer s H E hr=>?_) qxdz;refine qez (qiz (qaez l_eq (qauz hr.units) (qjz qakz qagz (qaz (pv 1)) (qnz (qaz (pv 0)) qdz)) (qnz (qaz (pv 0)) qdz) (nomark _)))
theorem q7cz:∀ds G Q,qckz ds G Q->ds.length=2:=by
 intro ds G Q h;obtain⟨_,_,rfl,_⟩:=h;rfl
theorem qpbz(T:Txt K mg t):FnOk3 P w K mg base 2 t.f_z55 t.d_z55 ["clocks","number"] qckz:=by
 refine qfn3 (k:=1) (sp:=qckz) T.F_z55 q5bz (by decide) q7cz qlmz (fun cdv A outer s H E hr=>?_) qxez;refine qez (qiz ?_);refine qarz rfl (show CmpOk qoyz (defScope qfiz) _ ["clock"] [1] from⟨rfl,by decide +kernel,by decide +kernel,by decide +kernel,by decide +kernel,by decide +kernel⟩) ?_ ?_;refine qamz (qaz (pv 0));intro s0 H0 fp0;refine⟨(qmz (i:=0) (show (["clock","number"]:List Str).Nodup by decide +kernel)),?_,(qaz (pv 0))⟩;refine qddz (q3z (qgz ((q7bz T).mono (by decide)) hr T.m_z59 T.F_z59.kp T.b_z59 (qbz (qaz (pv 0)) (qbz (qaz (pv 1)) qcz))))
theorem q7dz:∀ds G Q,qbvz ds G Q->ds.length=1:=by
 intro ds G Q h;obtain⟨_,rfl,_⟩:=h;rfl
theorem qpcz(T:Txt K mg t):FnOk3 P w K mg base 3 t.f_z53 t.d_z53 ["clocks"] qbvz:=by
 refine qfn3 (k:=2) (sp:=qbvz) T.F_z53 q5cz (by decide) q7dz qm1z (fun cdv A outer s H E hr=>?_) q0kz;refine qez (qiz ?_);refine qgz ((qpaz T).mono (by decide)) hr T.m_z5 T.F_z5.kp T.b_z5 (qbz ?_ qcz);refine qarz rfl (show CmpOk qozz (defScope qfjz) _ ["clock"] [] from⟨rfl,by decide +kernel,by decide +kernel,by decide +kernel,by decide +kernel,by decide +kernel⟩) ?_ ?_;refine qamz (qaz (pv 0));intro s0 H0 fp0;refine⟨(qmz (i:=0) (show (["clock"]:List Str).Nodup by decide +kernel)),qa6z,(qnz (qaz (pv 0)) qdz)⟩
theorem q7ez:∀ds G Q,qdlz ds G Q->ds.length=2:=by
 intro ds G Q h;obtain⟨_,_,rfl,_⟩:=h;rfl
theorem q7fz(T:Txt K mg t):FnOk3 P w K mg base 2 t.f_z56 t.d_z56 ["one","other"] qdlz:=by
 refine qfn3 (k:=1) (sp:=qdlz) T.F_z56 sc_z56 (by decide) q7ez ql5z (fun cdv A outer s H E hr=>?_) qyoz;refine qfz (qkz (i:=2) sc_z56.nd ?_) ?_;refine qgz ((qiuz T).mono (by decide)) hr T.m_z7 T.F_z7.kp T.b_z7 ?_;refine qbz (qnz (qaz (pv 0)) qdz) (qbz (qnz (qaz (pv 1)) qdz) qcz);refine qfz (qkz (i:=3) sc_z56.nd (qjz qenz qecz (qnz (qaz (pv 1)) qdz) (qnz (qaz (pv 0)) qdz))) ?_;refine qfz (qrz (qoz l_ne (qavz hr.units) (qjz qakz qagz (qaz (pv 3)) (qaz (pv 2))) qdz (nomark _)) (qez (qiz quz)) qqz) ?_;refine qfz (qkz (i:=4) sc_z56.nd (qjz qa2z qa1z (qnz (qaz (pv 1)) qdz) (qaz (pv 2)))) ?_;refine qfz (qkz (i:=5) sc_z56.nd ?_) (qez (qiz ?_));refine qjz qakz qagz (qjz q7z q6z (qjz qa2z qa1z (qaz (pv 3)) (qaz (pv 2))) ?_) (qaz (pv 4));refine qgz ((q6zz T).mono (by decide)) hr T.m_z28 T.F_z28.kp T.b_z28 ?_;refine qbz (qjz qa2z qa1z (qnz (qaz (pv 0)) qdz) (qaz (pv 2))) (qbz (qaz (pv 4)) qcz);refine qaqz (qbz (qjz q7z q6z (qnz (qaz (pv 0)) qdz) (qaz (pv 4))) ?_);refine qbz (qjz qxz qwz (qnz (qaz (pv 0)) qdz) (qjz q7z q6z (qnz (qaz (pv 0)) qdz) (qaz (pv 5)))) qcz
theorem q7gz:∀ds G Q,qdrz ds G Q->ds.length=2:=by
 intro ds G Q h;obtain⟨_,_,rfl,_⟩:=h;rfl
theorem q7hz(T:Txt K mg t):FnOk3 P w K mg base 4 t.f_z12 t.d_z12 ["clocks","clock"] qdrz:=by
 refine qfn3 (k:=3) (sp:=qdrz) T.F_z12 q5lz (by decide) q7gz qmnz (fun cdv A outer s H E hr=>?_) qzrz;refine qez (qiz ?_);refine qgz ((q65z T).mono (by decide)) hr T.m_z8 T.F_z8.kp T.b_z8 ?_;refine qbz (qaz (pv 1)) (qbz ?_ (qbz qdz qcz));refine qgz ((q63z T).mono (by decide)) hr T.m_z9 T.F_z9.kp T.b_z9 (qbz (qaz (pv 0)) (qbz ?_ qcz));refine qgz ((qpcz T).mono (by decide)) hr T.m_z53 T.F_z53.kp T.b_z53 ?_;refine qbz (qjz qxz qwz (qaz (pv 0)) (qaqz (qbz (qaz (pv 1)) qcz))) qcz
theorem q7iz:∀ds G Q,qdsz ds G Q->ds.length=1:=by
 intro ds G Q h;obtain⟨_,rfl,_⟩:=h;rfl
theorem q7jz(T:Txt K mg t):FnOk3 P w K mg base 5 t.f_z15 t.d_z15 ["clocks"] qdsz:=by
 refine qfn3 (k:=4) (sp:=qdsz) T.F_z15 q5hz (by decide) q7iz qmpz (fun cdv A outer s H E hr=>?_) qzvz;refine qez (qiz ?_);refine qgz ((q7hz T).mono (by decide)) hr T.m_z12 T.F_z12.kp T.b_z12 ?_;refine qbz (qaz (pv 0)) (qbz (qaqz (qbz qdz (qbz qdz qcz))) qcz)
theorem q7kz:∀ds G Q,qdtz ds G Q->ds.length=1:=by
 intro ds G Q h;obtain⟨_,rfl,_⟩:=h;rfl
theorem q7lz(T:Txt K mg t):FnOk3 P w K mg base 6 t.f_z58 t.d_z58 ["clocks"] qdtz:=by
 refine qfn3 (k:=5) (sp:=qdtz) T.F_z58 q5fz (by decide) q7kz qmqz (fun cdv A outer s H E hr=>?_) qzwz;refine qez (qiz ?_);refine qaez l_is qa9z (qgz ((q7jz T).mono (by decide)) hr T.m_z15 T.F_z15.kp T.b_z15 (qbz (qaz (pv 0)) qcz)) ?_ (nomark _);refine quz
theorem q7mz:∀ds G Q,qdhz ds G Q->ds.length=2:=by
 intro ds G Q h;obtain⟨_,_,rfl,_⟩:=h;rfl
theorem q7nz(T:Txt K mg t):FnOk3 P w K mg base 3 t.f_z45 t.d_z45 ["clocks","thing"] qdhz:=by
 refine qfn3 (k:=2) (sp:=qdhz) T.F_z45 q5jz (by decide) q7mz qlpz (fun cdv A outer s H E hr=>?_) qxgz;refine qez (qiz ?_);refine qbgz (qgz ((qd9z T).mono (by decide)) hr T.m_z26 T.F_z26.kp T.b_z26 (qbz (qaz (pv 1)) qcz)) ?_;refine qa5z (qaez l_eq (qauz hr.units) ?_ (q9z qcz) (nomark _));refine qgz ((qpbz T).mono (by decide)) hr T.m_z55 T.F_z55.kp T.b_z55 (qbz (qaz (pv 0)) (qbz (qaz (pv 1)) qcz))
theorem q7oz:∀ds G Q,qdyz ds G Q->ds.length=1:=by
 intro ds G Q h;obtain⟨_,rfl,_⟩:=h;rfl
theorem q7pz(T:Txt K mg t):FnOk3 P w K mg base 2 t.f_z48 t.d_z48 ["clocks"] qdyz:=by
 refine qfn3 (k:=1) (sp:=qdyz) T.F_z48 q5nz (by decide) q7oz qm4z (fun cdv A outer s H E hr=>?_) q0rz;refine qez (qiz ?_);refine qgz ((q6vz T).mono (by decide)) hr T.m_z57 T.F_z57.kp T.b_z57 (qbz (qyz hr.units T.m_len (qbz (qaz (pv 0)) qcz)) qcz)
theorem q7qz:∀ds G Q,qcsz ds G Q->ds.length=2:=by
 intro ds G Q h;obtain⟨_,rfl,_⟩:=h;rfl
theorem qpdz(T:Txt K mg t):FnOk3 P w K mg base 3 t.f_z21 t.d_z21 ["clocks","number"] qcsz:=by
 refine qfn3 (k:=2) (sp:=qcsz) T.F_z21 sc_z21 (by decide) q7qz qm5z (fun cdv A outer s H E hr=>?_) q0vz;refine qfz (qalz ?_) (qfz ?_ (qez (qiz quz)));refine qgz ((qfvz T).mono (by decide)) hr T.m_z10 T.F_z10.kp T.b_z10 ?_;refine qbz (qyz hr.units T.m_len (qbz (qaz (pv 0)) qcz)) (qbz (qbfz T.m_MOST_FAR_CLOCKS) qcz);refine qaaz PassesOwn.never rfl (qgrz T.m_range (qbz (qaz (pv 1)) (qbz ?_ qcz))) (qmz (i:=2) sc_z21.nd) (qez ?_);refine qjz qxz qwz (qaz (pv 1)) (qgz ((q7pz T).mono (by decide)) hr T.m_z48 T.F_z48.kp T.b_z48 (qbz (qaz (pv 0)) qcz));refine qrz (qoz l_eq (qauz hr.units) ?_ (q9z qcz) (nomark _)) (qez (qiz (qaz (pv 2)))) qqz;refine qgz ((qpbz T).mono (by decide)) hr T.m_z55 T.F_z55.kp T.b_z55 (qbz (qaz (pv 0)) (qbz (qaz (pv 2)) qcz))
theorem q7rz:∀ds G Q,qcmz ds G Q->ds.length=1:=by
 intro ds G Q h;obtain⟨_,rfl,_⟩:=h;rfl
theorem qpez(T:Txt K mg t):FnOk3 P w K mg base 4 t.f_z41 t.d_z41 ["clocks"] qcmz:=by
 refine qfn3 (k:=3) (sp:=qcmz) T.F_z41 sc_z41 (by decide) q7rz ql3z (fun cdv A outer s H E hr=>?_) qx0z;refine qfz ?_ (qez (qiz ?_));refine qkz (i:=1) sc_z41.nd (qgz ((qpcz T).mono (by decide)) hr T.m_z53 T.F_z53.kp T.b_z53 (qbz (qaz (pv 0)) qcz));refine qgz ((q61z T).mono (by decide)) hr T.m_z13 T.F_z13.kp T.b_z13 ?_;refine qbz (qlez hr.units T.m_sum (qbz ?_ qcz)) (qbz (qaz (pv 1)) qcz);refine qarz rfl (show CmpOk qo0z (defScope qfkz) _ ["clock"] [1] from⟨rfl,by decide +kernel,by decide +kernel,by decide +kernel,by decide +kernel,by decide +kernel⟩) ?_ ?_;refine qamz (qaz (pv 0));intro s0 H0 fp0;refine⟨(qmz (i:=0) (show (["clock","bottom"]:List Str).Nodup by decide +kernel)),qa6z,?_⟩;refine qjz qa2z qa1z (qaz (pv 1)) (qnz (qaz (pv 0)) qdz)
theorem q7sz:∀ds G Q,qdmz ds G Q->ds.length=1:=by
 intro ds G Q h;obtain⟨_,rfl,_⟩:=h;rfl
theorem q7tz(T:Txt K mg t):FnOk3 P w K mg base 3 t.f_z52 t.d_z52 ["clocks"] qdmz:=by
 refine qfn3 (k:=2) (sp:=qdmz) T.F_z52 sc_z52 (by decide) q7sz ql7z (fun cdv A outer s H E hr=>?_) qytz;refine qfz ?_ (qez (qiz quz));refine qaaz PassesOwn.never rfl (qb8z T.m_range (qbz (qyz hr.units T.m_len (qbz (qaz (pv 0)) qcz)) qcz)) (qmz (i:=1) sc_z52.nd) ?_;refine qez ?_;refine qaaz PassesOwn.never rfl ?_ (qmz (i:=2) sc_z52.nd) ?_;refine qgrz T.m_range (qbz (qjz qxz qwz (qaz (pv 1)) qdz) (qbz (qyz hr.units T.m_len (qbz (qaz (pv 0)) qcz)) qcz));refine qfz (qkz (i:=3) sc_z52.nd ?_) ?_;refine qgz ((q7fz T).mono (by decide)) hr T.m_z56 T.F_z56.kp T.b_z56 ?_;refine qbz (qnz (qaz (pv 0)) (qaz (pv 1))) (qbz (qnz (qaz (pv 0)) (qaz (pv 2))) qcz);refine qez (qrz (qoz qbsz qboz (qaz (pv 3)) quz (nomark _)) ?_ qqz);refine qez (qiz (qaqz (qbz (qaz (pv 1)) (qbz (qaz (pv 2)) (qbz (qnz (qaz (pv 3)) qdz) qcz)))))
theorem q7uz:∀ds G Q,qduz ds G Q->ds.length=1:=by
 intro ds G Q h;obtain⟨_,rfl,_⟩:=h;rfl
theorem q7vz(T:Txt K mg t):FnOk3 P w K mg base 5 t.f_z32 t.d_z32 ["clocks"] qduz:=by
 refine qfn3 (k:=4) (sp:=qduz) T.F_z32 q5rz (by decide) q7uz qmsz (fun cdv A outer s H E hr=>?_) qz0z;refine qez (qiz ?_);refine qbgz ?_ (qa5z ?_);refine qaez l_eq (qauz hr.units) (qgz ((qpez T).mono (by decide)) hr T.m_z41 T.F_z41.kp T.b_z41 (qbz (qaz (pv 0)) qcz)) ?_ (nomark _);refine qaqz (qbz qdz (qbz qdz qcz));refine qaez l_is qa9z (qgz ((q7tz T).mono (by decide)) hr T.m_z52 T.F_z52.kp T.b_z52 (qbz (qaz (pv 0)) qcz)) quz (nomark _)
theorem q7wz:∀ds G Q,qdwz ds G Q->ds.length=1:=by
 intro ds G Q h;obtain⟨_,rfl,_⟩:=h;rfl
theorem q7xz(T:Txt K mg t):FnOk3 P w K mg base 2 t.f_z39 t.d_z39 ["thing"] qdwz:=by
 refine qfn3 (k:=1) (sp:=qdwz) T.F_z39 q5sz (by decide) q7wz qmzz (fun cdv A outer s H E hr=>?_) q0iz;refine qfz (qrz (qafz ?_) (qez (qiz qadz)) qqz) (qez (qiz (qldz hr.units T.m_all (qbz ?_ qcz))));refine qawz (q8z (q3z (qcaz qvpz rfl (qaz (pv 0)) T.m_isinstance T.m_list rfl (by decide) (by decide)))) ?_;refine qa4z (q8z (qw4z l_le l_le qbnz qbnz qdz (qyz hr.units T.m_len (qbz (qaz (pv 0)) qcz)) (qbfz T.m_MOST_STEPS)));refine qarz rfl (show CmpOk qo1z (defScope qflz) _ ["step"] [] from⟨rfl,by decide +kernel,by decide +kernel,by decide +kernel,by decide +kernel,by decide +kernel⟩) ?_ ?_;refine qamz (qaz (pv 0));intro s0 H0 fp0;refine⟨(qmz (i:=0) (show (["step"]:List Str).Nodup by decide +kernel)),qa6z,?_⟩;refine qbgz (qgz ((qd9z T).mono (by decide)) hr T.m_z26 T.F_z26.kp T.b_z26 (qbz (qaz (pv 0)) qcz)) ?_;refine qa5z (qeyz l_le l_le qbnz qbnz (qbfz T.m_LEAST_STEP) (qaz (pv 0)) (qbfz T.m_GREATEST_STEP))
theorem q7yz:∀ds G Q,qb0z ds G Q->ds.length=1:=by
 intro ds G Q h;obtain⟨_,rfl,_⟩:=h;rfl
theorem qfwz(T:Txt K mg t):FnOk3 P w K mg base 3 t.f_z6 t.d_z6 ["thing"] qb0z:=by
 refine qfn3 (k:=2) (sp:=qb0z) T.F_z6 q5uz (by decide) q7yz qn7z (fun cdv A outer s H E hr=>?_) q3bz;refine qez ?_;refine qrz (q8z (q3z (qgz ((q7xz T).mono (by decide)) hr T.m_z39 T.F_z39.kp T.b_z39 (qbz (qaz (pv 0)) qcz)))) ?_ ?_;refine qez qgqz;refine qqz
theorem q7zz:∀ds G Q,qcfz ds G Q->ds.length=1:=by
 intro ds G Q h;obtain⟨_,rfl,_⟩:=h;rfl
theorem qivz(T:Txt K mg t):FnOk3 P w K mg base 4 t.f_z0 t.d_z0 ["steps"] qcfz:=by
 refine qfn3 (k:=3) (sp:=qcfz) T.F_z0 q5wz (by decide) q7zz qn8z (fun cdv A outer s H E hr=>?_) q3dz;refine qfz ?_ (qez (qalz ?_));refine qalz (qgz ((qfwz T).mono (by decide)) hr T.m_z6 T.F_z6.kp T.b_z6 (qbz (qaz (pv 0)) qcz));refine qgz ((qfvz T).mono (by decide)) hr T.m_z10 T.F_z10.kp T.b_z10 ?_;refine qbz (qgz ((qpaz T).mono (by decide)) hr T.m_z5 T.F_z5.kp T.b_z5 (qbz (qaz (pv 0)) qcz)) ?_;refine qbz (qbfz T.m_MOST_NUMBERS) qcz
theorem q70z:∀ds G Q,qcdz ds G Q->ds.length=2:=by
 intro ds G Q h;obtain⟨_,_,_,rfl,_⟩:=h;rfl
theorem qiwz(T:Txt K mg t):FnOk3 P w K mg base 1 t.f_z34 t.d_z34 ["steps","rests"] qcdz:=by
 refine qfn3 (k:=0) (sp:=qcdz) T.F_z34 q5xz (by decide) q70z qm2z (fun cdv A outer s H E hr=>?_) q0mz;refine qez (qiz (qdez hr.units T.m_tuple (qbz ?_ qcz)));refine qarz rfl (show CmpOk qo2z (defScope qfmz) _ ["step","rest"] [] from⟨rfl,by decide +kernel,by decide +kernel,by decide +kernel,by decide +kernel,by decide +kernel⟩) ?_ ?_;refine qgtz T.m_zip (qbz (qaz (pv 0)) (qbz (qaz (pv 1)) qcz));intro s0 H0 fp0;refine⟨(qbiz rfl ?_),(qddz (qoz qbsz qboz (qaz (pv 1)) quz (nomark _))),(qaqz (qbz (qaz (pv 0)) (qbz (qaz (pv 1)) qcz)))⟩;refine q5z (qmz (i:=0) (show (["step","rest"]:List Str).Nodup by decide +kernel)) ?_;refine q5z (qmz (i:=1) (show (["step","rest"]:List Str).Nodup by decide +kernel)) qbhz
theorem q71z:∀ds G Q,qcoz ds G Q->ds.length=1:=by
 intro ds G Q h;obtain⟨_,_,rfl,_⟩:=h;rfl
theorem qpfz(T:Txt K mg t):FnOk3 P w K mg base 1 t.f_z20 t.d_z20 ["rests"] qcoz:=by
 refine qfn3 (k:=0) (sp:=qcoz) T.F_z20 q5yz (by decide) q71z qmbz (fun cdv A outer s H E hr=>?_) qy1z;refine qez (qiz ?_);refine qarz rfl (show CmpOk qo3z (defScope qfnz) _ ["place","rest"] [] from⟨rfl,by decide +kernel,by decide +kernel,by decide +kernel,by decide +kernel,by decide +kernel⟩) ?_ ?_;refine qguz T.m_enumerate (qbz (qaz (pv 0)) qcz);intro s0 H0 fp0;refine⟨(qbiz rfl ?_),(qddz (qoz l_is qa9z (qaz (pv 1)) quz (nomark _))),(qaz (pv 0))⟩;refine q5z (qmz (i:=0) (show (["place","rest"]:List Str).Nodup by decide +kernel)) ?_;refine q5z (qmz (i:=1) (show (["place","rest"]:List Str).Nodup by decide +kernel)) qbhz
theorem q72z:∀ds G Q,qbwz ds G Q->ds.length=3:=by
 intro ds G Q h;obtain⟨_,_,_,_,rfl,_⟩:=h;rfl
theorem qixz(T:Txt K mg t):FnOk3 P w K mg base 1 t.f_z50 t.d_z50 ["rests","place","rest"] qbwz:=by
 refine qfn3 (k:=0) (sp:=qbwz) T.F_z50 q50z (by decide) q72z qmcz (fun cdv A outer s H E hr=>?_) qy2z;refine qez (qiz ?_);refine qjz qxz qwz (qjz qxz qwz (qa7z (qaz (pv 0)) qbjz (qaxz (qaz (pv 1)))) (q9z (qbz (qaz (pv 2)) qcz))) ?_;refine qa7z (qaz (pv 0)) (qaxz (qjz qxz qwz (qaz (pv 1)) qdz)) qbjz
theorem q73z:∀ds G Q,qctz ds G Q->ds.length=2:=by
 intro ds G Q h;obtain⟨_,_,_,rfl,_⟩:=h;rfl
theorem qpgz(T:Txt K mg t):FnOk3 P w K mg base 4 t.f_z19 t.d_z19 ["steps","rests"] qctz:=by
 refine qfn3 (k:=3) (sp:=qctz) T.F_z19 q52z (by decide) q73z qm6z (fun cdv A outer s H E hr=>?_) q0wz;refine qez (qiz (qaez l_is qa9z ?_ quz (nomark _)));refine qgz ((qpdz T).mono (by decide)) hr T.m_z21 T.F_z21.kp T.b_z21 (qbz ?_ (qbz qdz qcz));refine qgz ((qiwz T).mono (by decide)) hr T.m_z34 T.F_z34.kp T.b_z34 (qbz (qaz (pv 0)) (qbz (qaz (pv 1)) qcz))
theorem q74z:∀ds G Q,qd0z ds G Q->ds.length=2:=by
 intro ds G Q h;obtain⟨_,_,rfl,_⟩:=h;rfl
theorem q75z(T:Txt K mg t):FnOk3 P w K mg base 2 t.f_z3 t.d_z3 ["steps","thing"] qd0z:=by
 refine qfn3 (k:=1) (sp:=qd0z) T.F_z3 q53z (by decide) q74z qhhz (fun cdv A outer s H E hr=>?_) q2bz;refine qfz (qrz (qafz ?_) (qez (qiz qadz)) qqz) (qez (qiz (qldz hr.units T.m_all (qbz ?_ qcz))));refine qawz (q8z (q3z (qcaz kit_tuple rfl (qaz (pv 1)) T.m_isinstance T.m_tuple rfl (by decide) (by decide)))) (qa4z ?_);refine qoz l_ne (qavz hr.units) (qyz hr.units T.m_len (qbz (qaz (pv 1)) qcz)) (qyz hr.units T.m_len (qbz (qaz (pv 0)) qcz)) (nomark _);refine qarz rfl (show CmpOk qo4z (defScope qfoz) _ ["step","rest"] [] from⟨rfl,by decide +kernel,by decide +kernel,by decide +kernel,by decide +kernel,by decide +kernel⟩) ?_ ?_;refine qgtz T.m_zip (qbz (qaz (pv 0)) (qbz (qaz (pv 1)) qcz));intro s0 H0 fp0;refine⟨(qbiz rfl ?_),qa6z,?_⟩;refine q5z (qmz (i:=0) (show (["step","rest"]:List Str).Nodup by decide +kernel)) ?_;refine q5z (qmz (i:=1) (show (["step","rest"]:List Str).Nodup by decide +kernel)) qbhz;refine qbgz (qgz ((qd9z T).mono (by decide)) hr T.m_z26 T.F_z26.kp T.b_z26 (qbz (qaz (pv 1)) qcz)) ?_;refine qa5z (qeyz l_le qbdz qbnz (qbcz hr.units0) qdz (qaz (pv 1)) (qaz (pv 0)))
theorem q76z:∀ds G Q,qd4z ds G Q->ds.length=2:=by
 intro ds G Q h;obtain⟨_,_,rfl,_⟩:=h;rfl
theorem q77z(T:Txt K mg t):FnOk3 P w K mg base 5 t.f_z35 t.d_z35 ["steps","thing"] qd4z:=by
 refine qfn3 (k:=4) (sp:=qd4z) T.F_z35 q55z (by decide) q76z qodz (fun cdv A outer s H E hr=>?_) q3qz;refine qfz (qalz ?_) (qez (qiz ?_));refine qgz ((qivz T).mono (by decide)) hr T.m_z0 T.F_z0.kp T.b_z0 (qbz (qaz (pv 0)) qcz);refine qbgz ?_ (qa5z ?_);refine qgz ((q75z T).mono (by decide)) hr T.m_z3 T.F_z3.kp T.b_z3 ?_;refine qbz (qaz (pv 0)) (qbz (qaz (pv 1)) qcz);refine qgz ((qpgz T).mono (by decide)) hr T.m_z19 T.F_z19.kp T.b_z19 (qbz (qaz (pv 0)) (qbz (qaz (pv 1)) qcz))
theorem q78z(n:Nat):∀ds G Q,qblz n ds G Q->ds.length=2:=by
 intro ds G Q h
 first
  | (rcases ds with _|⟨_,_|⟨_,_|⟨_,_|⟨_,_⟩⟩⟩⟩<;>first|rfl|exact h.elim)
  | (obtain⟨rfl,_⟩:=h;rfl)
  | (obtain⟨_,rfl,_⟩:=h;rfl)
  | (obtain⟨_,_,rfl,_⟩:=h;rfl)
  | (obtain⟨_,_,_,rfl,_⟩:=h;rfl)
  | (obtain⟨_,_,_,_,rfl,_⟩:=h;rfl)
  | (obtain⟨_,_,_,_,_,rfl,_⟩:=h;rfl)
  | (obtain⟨_,_,_,_,_,_,rfl,_⟩:=h;rfl)
  | (obtain⟨_,_,_,_,_,_,_,rfl,_⟩:=h;rfl)
  | (obtain⟨_,_,_,_,_,_,_,_,rfl,_⟩:=h;rfl)
theorem qphz(T:Txt K mg t):∀n:Nat,FnOk3 P w K mg base (3+n) t.f_z33 t.d_z33 ["steps","rests"] (qblz n)
 |0=>qezz q1pz
 |n+1=>by
  have ih:=qphz T n
  ·refine qfn3 (k:=3+n) (sp:=qblz (n+1)) T.F_z33 sc_z33 (by decide) (q78z (n+1)) (qnkz n) (fun cdv A outer s H E hr=>?_) (q1xz n);refine qfz (qkz (i:=2) sc_z33.nd ?_) ?_;refine qgz ((qpdz T).mono (Nat.le_trans (by decide:_≤3) (Nat.le_add_right _ _))) hr T.m_z21 T.F_z21.kp T.b_z21 ?_;refine qbz ?_ (qbz qdz qcz);refine qgz ((qiwz T).mono (Nat.le_trans (by decide:_≤3) (Nat.le_add_right _ _))) hr T.m_z34 T.F_z34.kp T.b_z34 ?_;refine qbz (qaz (pv 0)) (qbz (qaz (pv 1)) qcz);refine qfz (qrz (qoz l_is qa9z (qaz (pv 2)) quz (nomark _)) (qez (qiz quz)) qqz) ?_;refine qfz (qkz (i:=3) sc_z33.nd (q9z qcz)) ?_;refine qfz ?_ (qez (qiz (qaqz (qbz (qaz (pv 2)) (qbz (qdez hr.units T.m_tuple (qbz (qaz (pv 3)) qcz)) qcz)))));refine qaaz PassesOwn.never rfl (qamz ?_) (qmz (i:=4) sc_z33.nd) ?_;refine qgz ((qpfz T).mono (Nat.le_trans (by decide:_≤3) (Nat.le_add_right _ _))) hr T.m_z20 T.F_z20.kp T.b_z20 ?_;refine qbz (qaz (pv 1)) qcz;refine qfz (qkz (i:=5) sc_z33.nd ?_) ?_;refine qgz (ih.mono (Nat.le_refl _)) hr T.m_z33 T.F_z33.kp T.b_z33 (qbz (qaz (pv 0)) (qbz ?_ qcz));refine qgz ((qixz T).mono (Nat.le_trans (by decide:_≤3) (Nat.le_add_right _ _))) hr T.m_z50 T.F_z50.kp T.b_z50 ?_;refine qbz (qaz (pv 1)) (qbz (qaz (pv 4)) (qbz (qjz qakz qagz (qaz (pv 2)) (qnz (qaz (pv 0)) (qaz (pv 4)))) qcz));refine qfz (qrz (qoz l_is qa9z (qaz (pv 5)) quz (nomark _)) (qez (qiz quz)) qqz) ?_;refine qez (qalz (qgvz qf7z PySem.F.slot_list_append PySem.F.type_list_append qegz (qaz (pv 3)) (qbz (qaz (pv 5)) qcz)))
theorem qpiz(T:Txt K mg t):FnOk3 P w K mg base 43 t.f_z33 t.d_z33 ["steps","rests"] (qblz 40):=(qphz T 40)
theorem q79z:∀ds G Q,qcez ds G Q->ds.length=2:=by
 intro ds G Q h;obtain⟨_,_,_,rfl,_⟩:=h;rfl
theorem qpjz(T:Txt K mg t):FnOk3 P w K mg base 44 t.f_z29 t.d_z29 ["steps","rests"] qcez:=by
 refine qfn3 (k:=43) (sp:=qcez) T.F_z29 q58z (by decide) q79z qnlz (fun cdv A outer s H E hr=>?_) q1yz;refine qez (qiz (qaez l_is qa9z ?_ quz (nomark _)));refine qgz ((qpiz T).mono (by decide)) hr T.m_z33 T.F_z33.kp T.b_z33 (qbz (qaz (pv 0)) (qbz (qaz (pv 1)) qcz))
theorem q8az:∀ds G Q,qcxz ds G Q->ds.length=2:=by
 intro ds G Q h;obtain⟨_,_,_,rfl,_⟩:=h;rfl
theorem q8bz(T:Txt K mg t):FnOk3 P w K mg base 45 t.f_z37 t.d_z37 ["steps","tried"] qcxz:=by
 refine qfn3 (k:=44) (sp:=qcxz) T.F_z37 sc_z37 (by decide) q8az qnmz (fun cdv A outer s H E hr=>?_) q11z;refine qfz ?_ (qez (qiz quz));refine qaaz PassesOwn.never rfl (qamz (qaz (pv 1))) (qmz (i:=2) sc_z37.nd) (qez (qrz (q3z ?_) (qez (qiz (qaz (pv 2)))) qqz));refine qgz ((qpjz T).mono (by decide)) hr T.m_z29 T.F_z29.kp T.b_z29 (qbz (qaz (pv 0)) (qbz (qaz (pv 2)) qcz))
theorem q8cz:∀ds G Q,qcgz ds G Q->ds.length=1:=by
 intro ds G Q h;obtain⟨_,rfl,_⟩:=h;rfl
theorem qiyz(T:Txt K mg t):FnOk3 P w K mg base 46 t.f_z47 t.d_z47 ["steps"] qcgz:=by
 refine qfn3 (k:=45) (sp:=qcgz) T.F_z47 sc_z47 (by decide) q8cz qoaz (fun cdv A outer s H E hr=>?_) q3kz;refine qfz (qalz ?_) ?_;refine qgz ((qivz T).mono (by decide)) hr T.m_z0 T.F_z0.kp T.b_z0 (qbz (qaz (pv 0)) qcz);refine qfz (qkz (i:=1) sc_z47.nd (qjz q7z q6z (q9z (qbz quz qcz)) (qyz hr.units T.m_len (qbz (qaz (pv 0)) qcz)))) ?_;refine qfz (qrz (q8z (q3z ?_)) (qez (qiz quz)) qqz) ?_;refine qgz ((qpjz T).mono (by decide)) hr T.m_z29 T.F_z29.kp T.b_z29 (qbz (qaz (pv 0)) (qbz (qaz (pv 1)) qcz));refine qfz ?_ (qez (qiz (qdez hr.units T.m_tuple (qbz (qaz (pv 1)) qcz))));refine qaaz PassesOwn.never rfl (qguz T.m_enumerate (qbz (qaz (pv 0)) qcz)) ?_ ?_;refine qbiz rfl (q5z (qmz (i:=2) sc_z47.nd) (q5z (qmz (i:=3) sc_z47.nd) qbhz));refine qfz ?_ (qez (qkz (i:=1) sc_z47.nd ?_));refine qgwz (i:=4) rfl sc_z47.nd (show CmpOk qo5z (defScope qfpz) _ ["rest"] [1,2] from⟨rfl,by decide +kernel,by decide +kernel,by decide +kernel,by decide +kernel,by decide +kernel⟩) ?_ ?_;refine qb8z T.m_range (qbz (qaz (pv 3)) qcz);intro s0 H0 fp0;refine⟨(qmz (i:=0) (show (["rest","rests","place"]:List Str).Nodup by decide +kernel)),qa6z,?_⟩;refine qgz ((qixz T).mono (by decide)) hr T.m_z50 T.F_z50.kp T.b_z50 ?_;refine qbz (qaz (pv 1)) (qbz (qaz (pv 2)) (qbz (qaz (pv 0)) qcz));refine qgz ((q8bz T).mono (by decide)) hr T.m_z37 T.F_z37.kp T.b_z37 (qbz (qaz (pv 0)) (qbz (qaz (pv 4)) qcz))
theorem q8dz(n:Nat):∀ds G Q,qbyz n ds G Q->ds.length=2:=by
 intro ds G Q h;obtain⟨_,_,_,rfl,_⟩:=h;rfl
theorem qpkz(T:Txt K mg t):∀n:Nat,FnOk3 P w K mg base (4+n) t.f_z42 t.d_z42 ["steps","rests"] (qbyz n)
 |0=>qezz q1cz
 |n+1=>by
  have ih:=qpkz T n
  ·refine qfn3 (k:=4+n) (sp:=qbyz (n+1)) T.F_z42 q6az (by decide) (q8dz (n+1)) (qncz n) (fun cdv A outer s H E hr=>?_) (q1ez n);refine qfz ?_ (qez (qiz (qlez hr.units T.m_sum (qbz ?_ qcz))));refine qrz ?_ (qez (qiz (qwxz (q3z ?_) qdz qdz))) qqz;refine qoz l_eq (qauz hr.units) (qyz hr.units T.m_len (qbz (qaz (pv 1)) qcz)) (qyz hr.units T.m_len (qbz (qaz (pv 0)) qcz)) (nomark _);refine qgz ((qpgz T).mono (Nat.le_trans (by decide:_≤4) (Nat.le_add_right _ _))) hr T.m_z19 T.F_z19.kp T.b_z19 ?_;refine qbz (qaz (pv 0)) (qbz (qaz (pv 1)) qcz);refine qarz rfl (show CmpOk qo6z (defScope qfqz) _ ["rest"] [0,1] from⟨rfl,by decide +kernel,by decide +kernel,by decide +kernel,by decide +kernel,by decide +kernel⟩) ?_ ?_;refine qb8z T.m_range (qbz (qnz (qaz (pv 0)) (qyz hr.units T.m_len (qbz (qaz (pv 1)) qcz))) qcz);intro s0 H0 fp0;refine⟨(qmz (i:=0) (show (["rest","steps","rests"]:List Str).Nodup by decide +kernel)),qa6z,?_⟩;refine qgz (ih.mono (Nat.le_refl _)) hr T.m_z42 T.F_z42.kp T.b_z42 ?_;refine qbz (qaz (pv 1)) (qbz (qjz qxz qwz (qaz (pv 2)) (q9z (qbz (qaz (pv 0)) qcz))) qcz)
theorem q8ez(T:Txt K mg t):FnOk3 P w K mg base 44 t.f_z42 t.d_z42 ["steps","rests"] (qbyz 40):=(qpkz T 40)
theorem q8fz:∀ds G Q,qczz ds G Q->ds.length=1:=by
 intro ds G Q h;obtain⟨_,rfl,_⟩:=h;rfl
theorem qplz(T:Txt K mg t):FnOk3 P w K mg base 45 t.f_z27 t.d_z27 ["steps"] qczz:=by
 refine qfn3 (k:=44) (sp:=qczz) T.F_z27 sc_z27 (by decide) q8fz qoez (fun cdv A outer s H E hr=>?_) q3wz;refine qfz ?_ (qfz (qkz (i:=1) sc_z27.nd qdz) ?_);refine qalz (qgz ((qfwz T).mono (by decide)) hr T.m_z6 T.F_z6.kp T.b_z6 (qbz (qaz (pv 0)) qcz));refine qfz ?_ ?_;refine qaaz PassesOwn.never rfl (qamz (qaz (pv 0))) (qmz (i:=2) sc_z27.nd) ?_;refine qez (qkz (i:=1) sc_z27.nd (qjz q7z q6z (qaz (pv 1)) (qaz (pv 2))));refine qfz (qalz ?_) (qez ?_);refine qgz ((qfvz T).mono (by decide)) hr T.m_z10 T.F_z10.kp T.b_z10 ?_;refine qbz (qaz (pv 1)) (qbz (qbfz T.m_MOST_RESTS) qcz);refine qiz (qgz ((q8ez T).mono (by decide)) hr T.m_z42 T.F_z42.kp T.b_z42 (qbz (qaz (pv 0)) (qbz (q9z qcz) qcz)))
theorem q8gz:∀ds G Q,qc0z ds G Q->ds.length=1:=by
 intro ds G Q h;obtain⟨_,rfl,_⟩:=h;rfl
theorem qpmz(T:Txt K mg t):FnOk3 P w K mg base 5 t.f_z22 t.d_z22 ["steps"] qc0z:=by
 refine qfn3 (k:=4) (sp:=qc0z) T.F_z22 q6bz (by decide) q8gz qofz (fun cdv A outer s H E hr=>?_) q3yz;refine qfz ?_ (qez (qiz ?_));refine qalz (qgz ((qfwz T).mono (by decide)) hr T.m_z6 T.F_z6.kp T.b_z6 (qbz (qaz (pv 0)) qcz));refine qgz ((qpez T).mono (by decide)) hr T.m_z41 T.F_z41.kp T.b_z41 (qbz (qdez hr.units T.m_tuple (qbz ?_ qcz)) qcz);refine qarz rfl (show CmpOk qo7z (defScope qfrz) _ ["step"] [] from⟨rfl,by decide +kernel,by decide +kernel,by decide +kernel,by decide +kernel,by decide +kernel⟩) ?_ ?_;refine qamz (qaz (pv 0));intro s0 H0 fp0;refine⟨(qmz (i:=0) (show (["step"]:List Str).Nodup by decide +kernel)),qa6z,(qaqz (qbz (qaz (pv 0)) (qbz qdz qcz)))⟩
theorem q8hz(n:Nat):∀ds G Q,qbzz n ds G Q->ds.length=3:=by
 intro ds G Q h
 first
  | (rcases ds with _|⟨_,_|⟨_,_|⟨_,_|⟨_,_⟩⟩⟩⟩<;>first|rfl|exact h.elim)
  | (obtain⟨rfl,_⟩:=h;rfl)
  | (obtain⟨_,rfl,_⟩:=h;rfl)
  | (obtain⟨_,_,rfl,_⟩:=h;rfl)
  | (obtain⟨_,_,_,rfl,_⟩:=h;rfl)
  | (obtain⟨_,_,_,_,rfl,_⟩:=h;rfl)
  | (obtain⟨_,_,_,_,_,rfl,_⟩:=h;rfl)
  | (obtain⟨_,_,_,_,_,_,rfl,_⟩:=h;rfl)
  | (obtain⟨_,_,_,_,_,_,_,rfl,_⟩:=h;rfl)
  | (obtain⟨_,_,_,_,_,_,_,_,rfl,_⟩:=h;rfl)
theorem q8iz(n:Nat):∀ds G Q,qcwz n ds G Q->ds.length=4:=by
 intro ds G Q h
 first
  | (rcases ds with _|⟨_,_|⟨_,_|⟨_,_|⟨_,_⟩⟩⟩⟩<;>first|rfl|exact h.elim)
  | (obtain⟨rfl,_⟩:=h;rfl)
  | (obtain⟨_,rfl,_⟩:=h;rfl)
  | (obtain⟨_,_,rfl,_⟩:=h;rfl)
  | (obtain⟨_,_,_,rfl,_⟩:=h;rfl)
  | (obtain⟨_,_,_,_,rfl,_⟩:=h;rfl)
  | (obtain⟨_,_,_,_,_,rfl,_⟩:=h;rfl)
  | (obtain⟨_,_,_,_,_,_,rfl,_⟩:=h;rfl)
  | (obtain⟨_,_,_,_,_,_,_,rfl,_⟩:=h;rfl)
  | (obtain⟨_,_,_,_,_,_,_,_,rfl,_⟩:=h;rfl)
theorem qpnz(T:Txt K mg t):∀n:Nat,FnOk3 P w K mg base (3+n) t.f_z36 t.d_z36 ["steps","rests","thing"] (qbzz n)/\FnOk3 P w K mg base (3+n) t.f_z24 t.d_z24 ["steps","rests","number","papers"] (qcwz n)
 |0=>⟨qezz q1fz,qezz q1gz⟩
 |n+1=>by
  have ih:=qpnz T n;refine⟨?_,?_⟩
  ·refine qfn3 (k:=3+n) (sp:=qbzz (n+1)) T.F_z36 q6fz (by decide) (q8hz (n+1)) (qhgz n) (fun cdv A outer s H E hr=>?_) (q1iz n);refine qfz (qrz (qafz ?_) (qez (qiz qadz)) qqz) (qez (qiz ?_));refine qawz (q8z (q3z (qcaz kit_tuple rfl (qaz (pv 2)) T.m_isinstance T.m_tuple rfl (by decide) (by decide)))) ?_;refine qa4z (qoz l_ne (qavz hr.units) (qyz hr.units T.m_len (qbz (qaz (pv 2)) qcz)) qdz (nomark _));refine qbgz ?_ (qa5z ?_);refine qgz ((q7nz T).mono (Nat.le_trans (by decide:_≤3) (Nat.le_add_right _ _))) hr T.m_z45 T.F_z45.kp T.b_z45 ?_;refine qbz ?_ (qbz (qnz (qaz (pv 2)) qdz) qcz);refine qgz ((qiwz T).mono (Nat.le_trans (by decide:_≤3) (Nat.le_add_right _ _))) hr T.m_z34 T.F_z34.kp T.b_z34 ?_;refine qbz (qaz (pv 0)) (qbz (qaz (pv 1)) qcz);refine qgz (ih.2.mono (Nat.le_refl _)) hr T.m_z24 T.F_z24.kp T.b_z24 ?_;refine qbz (qaz (pv 0)) (qbz (qaz (pv 1)) (qbz (qnz (qaz (pv 2)) qdz) (qbz (qnz (qaz (pv 2)) qdz) qcz)))
  ·refine qfn3 (k:=3+n) (sp:=qcwz (n+1)) T.F_z24 sc_z24 (by decide) (q8iz (n+1)) (qngz n) (fun cdv A outer s H E hr=>?_) (q1mz n);refine qfz (qkz (i:=4) sc_z24.nd ?_) ?_;refine qgz ((qpfz T).mono (Nat.le_trans (by decide:_≤3) (Nat.le_add_right _ _))) hr T.m_z20 T.F_z20.kp T.b_z20 ?_;refine qbz (qaz (pv 1)) qcz;refine qfz (qrz (qafz ?_) (qez (qiz qadz)) qqz) (qfz ?_ (qez (qiz qadz)));refine qawz (q8z (q3z (qcaz kit_tuple rfl (qaz (pv 3)) T.m_isinstance T.m_tuple rfl (by decide) (by decide)))) (qa4z ?_);refine qoz l_ne (qavz hr.units) (qyz hr.units T.m_len (qbz (qaz (pv 3)) qcz)) (qyz hr.units T.m_len (qbz (qaz (pv 4)) qcz)) (nomark _);refine qaaz PassesOwn.never rfl (qgtz T.m_zip (qbz (qaz (pv 4)) (qbz (qaz (pv 3)) qcz))) ?_ ?_;refine qbiz rfl (q5z (qmz (i:=5) sc_z24.nd) (q5z (qmz (i:=6) sc_z24.nd) qbhz));refine qez (qrz (q8z (q3z ?_)) (qez (qiz qadz)) qqz);refine qgz (ih.1.mono (Nat.le_refl _)) hr T.m_z36 T.F_z36.kp T.b_z36 (qbz (qaz (pv 0)) (qbz ?_ (qbz (qaz (pv 6)) qcz)));refine qgz ((qixz T).mono (Nat.le_trans (by decide:_≤3) (Nat.le_add_right _ _))) hr T.m_z50 T.F_z50.kp T.b_z50 ?_;refine qbz (qaz (pv 1)) (qbz (qaz (pv 5)) (qbz (qjz qakz qagz (qaz (pv 2)) (qnz (qaz (pv 0)) (qaz (pv 5)))) qcz))
theorem q8jz(T:Txt K mg t):FnOk3 P w K mg base 43 t.f_z36 t.d_z36 ["steps","rests","thing"] (qbzz 40):=(qpnz T 40).1
theorem q8kz:∀ds G Q,qd3z ds G Q->ds.length=2:=by
 intro ds G Q h
 first
  | (rcases ds with _|⟨_,_|⟨_,_|⟨_,_|⟨_,_⟩⟩⟩⟩<;>first|rfl|exact h.elim)
  | (obtain⟨rfl,_⟩:=h;rfl)
  | (obtain⟨_,rfl,_⟩:=h;rfl)
  | (obtain⟨_,_,rfl,_⟩:=h;rfl)
  | (obtain⟨_,_,_,rfl,_⟩:=h;rfl)
  | (obtain⟨_,_,_,_,rfl,_⟩:=h;rfl)
  | (obtain⟨_,_,_,_,_,rfl,_⟩:=h;rfl)
  | (obtain⟨_,_,_,_,_,_,rfl,_⟩:=h;rfl)
  | (obtain⟨_,_,_,_,_,_,_,rfl,_⟩:=h;rfl)
  | (obtain⟨_,_,_,_,_,_,_,_,rfl,_⟩:=h;rfl)
theorem q8lz(T:Txt K mg t):FnOk3 P w K mg base 44 t.f_z31 t.d_z31 ["steps","thing"] qd3z:=by
 refine qfn3 (k:=43) (sp:=qd3z) T.F_z31 q6dz (by decide) q8kz qocz (fun cdv A outer s H E hr=>?_) q3oz;refine qfz ?_ (qez (qiz ?_));refine qalz (qgz ((qfwz T).mono (by decide)) hr T.m_z6 T.F_z6.kp T.b_z6 (qbz (qaz (pv 0)) qcz));refine qgz ((q8jz T).mono (by decide)) hr T.m_z36 T.F_z36.kp T.b_z36 (qbz (qaz (pv 0)) ?_);refine qbz (qjz q7z q6z (q9z (qbz quz qcz)) (qyz hr.units T.m_len (qbz (qaz (pv 0)) qcz))) (qbz (qaz (pv 1)) qcz)
theorem q8mz:∀ds G Q,qd2z ds G Q->ds.length=1:=by
 intro ds G Q h;obtain⟨_,rfl,_⟩:=h;rfl
theorem q8nz(T:Txt K mg t):FnOk3 P w K mg base 44 t.f_z44 t.d_z44 ["steps"] qd2z:=by
 refine qfn3 (k:=43) (sp:=qd2z) T.F_z44 q6iz (by decide) q8mz qobz (fun cdv A outer s H E hr=>?_) q3mz;refine qfz (qalz ?_) (qez (qiz ?_));refine qgz ((qivz T).mono (by decide)) hr T.m_z0 T.F_z0.kp T.b_z0 (qbz (qaz (pv 0)) qcz);refine qgz ((qpiz T).mono (by decide)) hr T.m_z33 T.F_z33.kp T.b_z33 ?_;refine qbz (qaz (pv 0)) (qbz (qjz q7z q6z (q9z (qbz quz qcz)) (qyz hr.units T.m_len (qbz (qaz (pv 0)) qcz))) qcz)
theorem q8oz:∀ds G Q,qdfz ds G Q->ds.length=2:=by
 intro ds G Q h;obtain⟨_,_,rfl,_⟩:=h;rfl
theorem q8pz(T:Txt K mg t):FnOk3 P w K mg base 1 t.f_z18 t.d_z18 ["script","k"] qdfz:=by
 refine qfn3 (k:=0) (sp:=qdfz) T.F_z18 q6lz (by decide) q8oz qlhz (fun cdv A outer s H E hr=>?_) qw7z;refine qfz ?_ (qez (qiz qdz));refine qrz (qoz qbdz (qbcz hr.units0) (qaz (pv 1)) (qyz hr.units T.m_len (qbz (qaz (pv 0)) qcz)) (nomark _)) ?_ qqz;refine qez (qiz (qnz (qaz (pv 0)) (qaz (pv 1))))
theorem q8qz:∀ds G Q,qcjz ds G Q->ds.length=1:=by
 intro ds G Q h;obtain⟨_,rfl,_⟩:=h;rfl
theorem qpoz(T:Txt K mg t):FnOk3 P w K mg base 1 t.f_z54 t.d_z54 ["seed"] qcjz:=by
 refine qfn3 (k:=0) (sp:=qcjz) T.F_z54 sc_z54 (by decide) q8qz qliz (fun cdv A outer s H E hr=>?_) qw8z;refine qfz (qkz (i:=0) sc_z54.nd (qjz qakz qagz (qjz qxz qwz (qaz (pv 0)) qdz) qdz)) ?_;refine qez (qiz (qjz qakz qagz ?_ qdz));refine qjz qxz qwz (qjz qxz qwz (qjz q7z q6z (qaz (pv 0)) (qaz (pv 0))) (qjz q7z q6z qdz (qaz (pv 0)))) qdz
theorem q8rz:∀ds G Q,qe1z ds G Q->ds.length=1:=by
 intro ds G Q h;obtain⟨_,rfl,_⟩:=h;rfl
theorem q8sz(T:Txt K mg t):FnOk3 P w K mg base 1 t.f_z30 t.d_z30 ["cell"] qgxz:=by
 refine FnOk.imp ?_ qxcz;refine qfn3 (k:=0) (sp:=qe1z) T.F_z30 sc_z30 (by decide) q8rz qlkz (fun cdv A outer s H E hr=>?_) qxbz;refine qfz (qkz (i:=1) sc_z30.nd (qw0z hr.units T.m_max (qbz (qaz (pv 0)) (qbz (qjz qenz qecz qdz (qaz (pv 0))) qcz)))) ?_;refine qez (qiz (q9z (qbz (qaz (pv 1)) ?_)));refine qbz (qwzz hr.units T.m_int (qbz (qaez l_ge qqzz (qaz (pv 1)) (qjz qtwz qqxz qdz qdz) (nomark _)) qcz)) ?_;refine qbz (qjz qakz qagz (qaz (pv 1)) qdz) qcz
theorem q8tz:∀ds G Q,qe0z ds G Q->ds.length=2:=by
 intro ds G Q h;obtain⟨_,_,_,_,_,rfl,_⟩:=h;rfl
theorem qbmz(T:Txt K mg t):FnOk3 P w K mg base 2 t.f_z51 t.d_z51 ["pen","many"] qayz:=by
 refine FnOk.imp ?_ qxaz;refine qfn3 (k:=1) (sp:=qe0z) T.F_z51 sc_z51 (by decide) q8tz qljz (fun cdv A outer s H E hr=>?_) qw9z;refine qfz ?_ ?_;refine qrz (qoz l_eq (qauz hr.units) (qnz (qaz (pv 0)) qdz) qdz (nomark _)) ?_ qqz;refine qfz (qkz (i:=2) sc_z51.nd (qjz qakz qagz (qnz (qaz (pv 0)) qdz) (qaz (pv 1)))) ?_;refine qfz (qexz (qjz qa2z qa1z (qnz (qaz (pv 0)) qdz) (qaz (pv 1))) (qlbz (qaz (pv 0)) qdz)) (qez (qiz (qaz (pv 2))));refine qfz (qexz ?_ (qlbz (qaz (pv 0)) qdz)) ?_;refine qgz ((qpoz T).mono (by decide)) hr T.m_z54 T.F_z54.kp T.b_z54 (qbz ?_ qcz);refine qjz qxz qwz (qgz ((qpoz T).mono (by decide)) hr T.m_z54 T.F_z54.kp T.b_z54 (qbz (qnz (qaz (pv 0)) qdz) qcz)) (qdz);refine qez (qiz (qjz qakz qagz (qjz qa2z qa1z (qnz (qaz (pv 0)) qdz) qdz) (qaz (pv 1))))
theorem q8uz:∀ds G Q,qdoz ds G Q->ds.length=2:=by
 intro ds G Q h;obtain⟨_,_,rfl,_⟩:=h;rfl
theorem q8vz(T:Txt K mg t):FnOk3 P w K mg base 3 t.f_z43 t.d_z43 ["pen","times"] qdoz:=by
 refine qfn3 (k:=2) (sp:=qdoz) T.F_z43 sc_z43 (by decide) q8uz qmez (fun cdv A outer s H E hr=>?_) qzez;refine qfz (qkz (i:=2) sc_z43.nd (q9z (qbz (qaqz (qbz qdz (qbz qdz qcz))) qcz))) ?_;refine qfz ?_ (qez (qiz (qaz (pv 2))));refine qaaz PassesOwn.never rfl (qb8z T.m_range (qbz (qaz (pv 1)) qcz)) (qmz (i:=3) sc_z43.nd) ?_;refine qfz (qkz (i:=4) sc_z43.nd ?_) ?_;refine qgz ((qbmz T).mono (by decide)) hr T.m_z51 T.F_z51.kp T.b_z51 ?_;refine qbz (qaz (pv 0)) (qbz (qyz hr.units T.m_len (qbz (qaz (pv 2)) qcz)) qcz);refine qfz ?_ ?_;refine qkz (i:=5) sc_z43.nd (qgsz (qbz qdz (qbz qdz (qbz qdz qcz))) ?_);refine qgz ((qbmz T).mono (by decide)) hr T.m_z51 T.F_z51.kp T.b_z51 (qbz (qaz (pv 0)) (qbz qdz qcz));refine qfz ?_ (qez ?_);refine qexz (qnz (qaz (pv 2)) (qaz (pv 4))) (qbiz rfl (q5z (qmz (i:=6) sc_z43.nd) (q5z (qmz (i:=7) sc_z43.nd) qbhz)));refine qrz (qafz ?_) (qez (qkz (i:=2) sc_z43.nd ?_)) qqz;refine qdcz (qoz qbdz (qbcz hr.units0) (qjz qxz qwz (qyz hr.units T.m_len (qbz (qaz (pv 2)) qcz)) (qaz (pv 5))) qdz (nomark _)) ?_;refine qdbz (qoz qbdz (qbcz hr.units0) (qjz q7z q6z (qaz (pv 6)) (qaz (pv 5))) qdz (nomark _));refine qjz qxz qwz ?_ (qa7z (qaz (pv 2)) (qaxz (qjz qxz qwz (qaz (pv 4)) qdz)) qbjz);refine qjz qxz qwz (qa7z (qaz (pv 2)) qbjz (qaxz (qaz (pv 4)))) ?_;refine qarz rfl (show CmpOk qo8z (defScope qfsz) _ ["part"] [6,5,7] from⟨rfl,by decide +kernel,by decide +kernel,by decide +kernel,by decide +kernel,by decide +kernel⟩) ?_ ?_;refine qb8z T.m_range (qbz (qaz (pv 5)) qcz);intro s0 H0 fp0;refine⟨(qmz (i:=0) (show (["part","step","k","rest"]:List Str).Nodup by decide +kernel)),qa6z,?_⟩;refine qaqz (qbz (qjz q7z q6z (qaz (pv 1)) (qaz (pv 2))) ?_);refine qbz (qjz qxz qwz (qaz (pv 3)) (qjz q7z q6z (qaz (pv 1)) (qaz (pv 0)))) qcz
theorem q8wz:∀ds G Q,qd6z ds G Q->ds.length=1:=by
 intro ds G Q h;obtain⟨_,rfl,_⟩:=h;rfl
theorem q8xz(T:Txt K mg t):FnOk3 P w K mg base 4 t.f_z11 t.d_z11 ["pen"] qd6z:=by
 refine qfn3 (k:=3) (sp:=qd6z) T.F_z11 sc_z11 (by decide) q8wz qokz (fun cdv A outer s H E hr=>?_) q4az;refine qfz (qkz (i:=1) sc_z11.nd ?_) ?_;refine qgz ((qbmz T).mono (by decide)) hr T.m_z51 T.F_z51.kp T.b_z51 (qbz (qaz (pv 0)) (qbz qdz qcz));refine qfz ?_ (qez (qiz ?_));refine qrz (qoz qbdz (qbcz hr.units0) (qaz (pv 1)) qdz (nomark _)) ?_ qqz;refine qfz (qkz (i:=2) sc_z11.nd (qa7z ?_ qbjz (qaxz qdz))) ?_;refine qarz rfl (show CmpOk qftz (defScope qc1z) _ ["clock"] [] from⟨rfl,by decide +kernel,by decide +kernel,by decide +kernel,by decide +kernel,by decide +kernel⟩) ?_ ?_;refine qamz ?_;refine qgz ((q8vz T).mono (by decide)) hr T.m_z43 T.F_z43.kp T.b_z43 ?_;refine qbz (qaz (pv 0)) (qbz (qjz qxz qwz qdz ?_) qcz);refine qgz ((qbmz T).mono (by decide)) hr T.m_z51 T.F_z51.kp T.b_z51 (qbz (qaz (pv 0)) (qbz qdz qcz));intro s0 H0 fp0;refine⟨(qmz (i:=0) (show (["clock"]:List Str).Nodup by decide +kernel)),qa6z,(qnz (qaz (pv 0)) qdz)⟩;refine qfz ?_ ?_;refine qgwz (i:=2) rfl sc_z11.nd (show CmpOk qftz (defScope qc1z) _ ["step"] [] from⟨rfl,by decide +kernel,by decide +kernel,by decide +kernel,by decide +kernel,by decide +kernel⟩) ?_ ?_;refine qamz (qaz (pv 2));intro s0 H0 fp0;refine⟨(qmz (i:=0) (show (["step"]:List Str).Nodup by decide +kernel)),(qddz (qoz l_gt qfyz (qaz (pv 0)) qdz (nomark _))),(qaz (pv 0))⟩;refine qfz ?_ (qez (qrz (qoz l_ne (qavz hr.units) (qaz (pv 2)) (q9z qcz) (nomark _)) (qez (qiz (qaz (pv 2)))) qqz));refine qrz ?_ (qez (qalz ?_)) qqz;refine qafz (qdcz (qoz l_eq (qauz hr.units) (qaz (pv 1)) qdz (nomark _)) ?_);refine qdbz (qoz qbdz (qbcz hr.units0) (qyz hr.units T.m_len (qbz (qaz (pv 2)) qcz)) qdz (nomark _));refine qgvz qf7z PySem.F.slot_list_append PySem.F.type_list_append qegz (qaz (pv 2)) (qbz ?_ qcz);refine qgsz (qbz qdz (qbz qdz (qbz qdz (qbz qdz (qbz qdz qcz))))) ?_;refine qgz ((qbmz T).mono (by decide)) hr T.m_z51 T.F_z51.kp T.b_z51 (qbz (qaz (pv 0)) (qbz qdz qcz));refine qarz rfl (show CmpOk qftz (defScope qc1z) _ ["turn"] [0] from⟨rfl,by decide +kernel,by decide +kernel,by decide +kernel,by decide +kernel,by decide +kernel⟩) ?_ ?_;refine qb8z T.m_range (qbz (qjz qxz qwz qdz ?_) qcz);refine qgz ((qbmz T).mono (by decide)) hr T.m_z51 T.F_z51.kp T.b_z51 (qbz (qaz (pv 0)) (qbz qdz qcz));intro s0 H0 fp0;refine⟨(qmz (i:=0) (show (["turn","pen"]:List Str).Nodup by decide +kernel)),qa6z,?_⟩;refine qgsz (qbz qdz (qbz qdz (qbz qdz (qbz qdz (qbz qdz (qbz qdz (qbz qdz (qbz qdz qcz)))))))) ?_;refine qgz ((qbmz T).mono (by decide)) hr T.m_z51 T.F_z51.kp T.b_z51 (qbz (qaz (pv 1)) (qbz qdz qcz))
theorem q8yz:∀ds G Q,qd1z ds G Q->ds.length=1:=by
 intro ds G Q h;obtain⟨_,_,rfl,_⟩:=h;rfl
theorem q8zz(T:Txt K mg t):FnOk3 P w K mg base 1 t.f_z17 t.d_z17 ["steps"] qd1z:=by
 refine qfn3 (k:=0) (sp:=qd1z) T.F_z17 sc_z17 (by decide) q8yz qnrz (fun cdv A outer s H E hr=>?_) q2hz;refine qfz (qkz (i:=1) sc_z17.nd qdz) (qfz ?_ (qez (qiz (qaz (pv 1)))));refine qaaz PassesOwn.never rfl (qamz (qaz (pv 0))) (qmz (i:=2) sc_z17.nd) ?_;refine qez (qkz (i:=1) sc_z17.nd (qjz q7z q6z (qaz (pv 1)) (qaz (pv 2))))
theorem q80z:∀ds G Q,qd7z ds G Q->ds.length=3:=by
 intro ds G Q h;obtain⟨_,_,_,_,rfl,_⟩:=h;rfl
theorem q81z(T:Txt K mg t):FnOk3 P w K mg base 47 t.f_z4 t.d_z4 ["pen","steps","rests"] qd7z:=by
 refine qfn3 (k:=46) (sp:=qd7z) T.F_z4 sc_z4 (by decide) q80z qooz (fun cdv A outer s H E hr=>?_) q4lz;refine qfz (qrz (q8z (q3z ?_)) (qez (qiz qadz)) qqz) ?_;refine qgz ((q77z T).mono (by decide)) hr T.m_z35 T.F_z35.kp T.b_z35 ?_;refine qbz (qazz (qb9z hr.units T.m_list (qbz (qaz (pv 1)) qcz))) (qbz (qaz (pv 2)) qcz);refine qfz (qkz (i:=3) sc_z4.nd ?_) ?_;refine qgz ((q69z T).mono (by decide)) hr T.m_z46 T.F_z46.kp T.b_z46 ?_;refine qbz (qazz (qw2z hr.units (q1az rfl T.m_zip T.m_list (qbz (qaz (pv 1)) (qbz (qaz (pv 2)) qcz))) T.m_sorted T.m_set)) qcz;refine qfz (qrz (qafz ?_) (qez (qiz qadz)) qqz) ?_;refine qawz (q8z (q3z (qgz ((q7lz T).mono (by decide)) hr T.m_z58 T.F_z58.kp T.b_z58 (qbz (qaz (pv 3)) qcz)))) ?_;refine qa4z (qafz ?_);refine qdcz ?_ ?_;refine qoz l_eq (qauz hr.units) ?_ (qaqz (qbz qdz (qbz qdz qcz))) (nomark _);refine qgz ((qpmz T).mono (by decide)) hr T.m_z22 T.F_z22.kp T.b_z22 ?_;refine qbz (qazz (qb9z hr.units T.m_list (qbz (qaz (pv 1)) qcz))) qcz;refine qdbz (q8z (q3z (qgz ((q7vz T).mono (by decide)) hr T.m_z32 T.F_z32.kp T.b_z32 (qbz (qaz (pv 3)) qcz))));refine qfz (qkz (i:=4) sc_z4.nd ?_) ?_;refine qgz ((qbmz T).mono (by decide)) hr T.m_z51 T.F_z51.kp T.b_z51 ?_;refine qbz (qaz (pv 0)) (qbz (qyz hr.units T.m_len (qbz (qaz (pv 1)) qcz)) qcz);refine qfz ?_ ?_;refine qgwz (i:=5) rfl sc_z4.nd (show CmpOk qo9z (defScope qfuz) _ ["step"] [1,4] from⟨rfl,by decide +kernel,by decide +kernel,by decide +kernel,by decide +kernel,by decide +kernel⟩) ?_ ?_;refine qgrz T.m_range (qbz qdz (qbz (qjz qxz qwz (qnz (qaz (pv 1)) (qaz (pv 4))) qdz) qcz));intro s0 H0 fp0;refine⟨(qmz (i:=0) (show (["step","steps","spot"]:List Str).Nodup by decide +kernel)),?_,(qaz (pv 0))⟩;refine qddz (qoz l_eq (qauz hr.units) (qjz qakz qagz (qnz (qaz (pv 1)) (qaz (pv 2))) (qaz (pv 0))) qdz (nomark _));refine qfz (qkz (i:=6) sc_z4.nd ?_) (qez (qiz ?_));refine qjz qxz qwz ?_ (qa7z (qaz (pv 1)) (qaxz (qjz qxz qwz (qaz (pv 4)) qdz)) qbjz);refine qjz qxz qwz (qa7z (qaz (pv 1)) qbjz (qaxz (qaz (pv 4)))) (q9z (qbz (qnz (qaz (pv 5)) ?_) qcz));refine qgz ((qbmz T).mono (by decide)) hr T.m_z51 T.F_z51.kp T.b_z51 ?_;refine qbz (qaz (pv 0)) (qbz (qyz hr.units T.m_len (qbz (qaz (pv 5)) qcz)) qcz);refine qbgz ?_ (qa5z (qaez qbsz qboz ?_ quz (nomark _)));refine qaez qbsz qboz (qgz ((qiyz T).mono (by decide)) hr T.m_z47 T.F_z47.kp T.b_z47 (qbz (qazz (qaz (pv 6))) qcz)) ?_ (nomark _);refine quz;refine qgz ((qiyz T).mono (by decide)) hr T.m_z47 T.F_z47.kp T.b_z47 ?_;refine qbz (qazz (qjz qxz qwz (qa7z (qaz (pv 1)) qbjz (qaxz qdz)) (q9z (qbz qdz qcz)))) qcz
theorem q82z:∀ds G Q,qd8z ds G Q->ds.length=2:=by
 intro ds G Q h
 first
  | (rcases ds with _|⟨_,_|⟨_,_|⟨_,_|⟨_,_⟩⟩⟩⟩<;>first|rfl|exact h.elim)
  | (obtain⟨rfl,_⟩:=h;rfl)
  | (obtain⟨_,rfl,_⟩:=h;rfl)
  | (obtain⟨_,_,rfl,_⟩:=h;rfl)
  | (obtain⟨_,_,_,rfl,_⟩:=h;rfl)
  | (obtain⟨_,_,_,_,rfl,_⟩:=h;rfl)
  | (obtain⟨_,_,_,_,_,rfl,_⟩:=h;rfl)
  | (obtain⟨_,_,_,_,_,_,rfl,_⟩:=h;rfl)
  | (obtain⟨_,_,_,_,_,_,_,rfl,_⟩:=h;rfl)
  | (obtain⟨_,_,_,_,_,_,_,_,rfl,_⟩:=h;rfl)
theorem q83z(T:Txt K mg t):FnOk3 P w K mg base 48 t.f_z49 t.d_z49 ["pen","steps"] qd8z:=by
 refine qfn3 (k:=47) (sp:=qd8z) T.F_z49 sc_z49 (by decide) q82z qouz (fun cdv A outer s H E hr=>?_) q4qz;refine qfz (qkz (i:=2) sc_z49.nd ?_) ?_;refine qgz ((qiyz T).mono (by decide)) hr T.m_z47 T.F_z47.kp T.b_z47 ?_;refine qbz (qazz (qb9z hr.units T.m_list (qbz (qaz (pv 1)) qcz))) qcz;refine qfz (qkz (i:=3) sc_z49.nd ?_) ?_;refine qgz ((q8nz T).mono (by decide)) hr T.m_z44 T.F_z44.kp T.b_z44 ?_;refine qbz (qazz (qb9z hr.units T.m_list (qbz (qaz (pv 1)) qcz))) qcz;refine qfz (qrz (qafz ?_) (qez (qiz qadz)) qqz) ?_;refine qawz ?_ (qa4z (qafz ?_));refine qoz l_ne (qavz hr.units) (qaez l_is qa9z (qaz (pv 2)) quz (nomark _)) (qaez qbsz qboz (qaz (pv 3)) quz (nomark _)) (nomark _);refine qdcz (qoz qbsz qboz (qaz (pv 3)) quz (nomark _)) (qdbz (q8z (q3z ?_)));refine qgz ((q8lz T).mono (by decide)) hr T.m_z31 T.F_z31.kp T.b_z31 ?_;refine qbz (qazz (qb9z hr.units T.m_list (qbz (qaz (pv 1)) qcz))) (qbz (qaz (pv 3)) qcz);refine qfz ?_ ?_;refine qexz ?_ (qbiz rfl (q5z (qmz (i:=4) sc_z49.nd) (q5z (qmz (i:=5) sc_z49.nd) qbhz)));refine qgz ((qpmz T).mono (by decide)) hr T.m_z22 T.F_z22.kp T.b_z22 ?_;refine qbz (qazz (qb9z hr.units T.m_list (qbz (qaz (pv 1)) qcz))) qcz;refine qfz (qrz ?_ (qez (qiz qadz)) qqz) ?_;refine qafz (qdcz (qoz qbdz (qbcz hr.units0) (qaz (pv 4)) (qaz (pv 5)) (nomark _)) (qdbz (qoz qbsz qboz (qaz (pv 2)) quz (nomark _))));refine qfz ?_ (qez ?_);refine qrz (qoz qbdz (qbcz hr.units0) ?_ qdz (nomark _)) ?_ qqz;refine qgz ((q8zz T).mono (by decide)) hr T.m_z17 T.F_z17.kp T.b_z17 (qbz (qaz (pv 1)) qcz);refine qfz (qkz (i:=6) sc_z49.nd ?_) (qez (qrz (qafz ?_) (qez (qiz qadz)) qqz));refine qgz ((qplz T).mono (by decide)) hr T.m_z27 T.F_z27.kp T.b_z27 ?_;refine qbz (qazz (qb9z hr.units T.m_list (qbz (qaz (pv 1)) qcz))) qcz;refine qawz (qoz l_ne (qavz hr.units) ?_ (qaz (pv 6)) (nomark _)) ?_;refine qgz ((qplz T).mono (by decide)) hr T.m_z27 T.F_z27.kp T.b_z27 (qbz (qazz (q28z (qaz (pv 1)))) qcz);refine qa4z (qoz l_ne (qavz hr.units) (qaez l_gt qfyz (qaz (pv 6)) qdz (nomark _)) (qaez qbsz qboz (qaz (pv 2)) quz (nomark _)) (nomark _));refine qiz (qwvz (qaez l_is qa9z (qaz (pv 2)) quz (nomark _)) (qa5z ?_));refine qgz ((q81z T).mono (by decide)) hr T.m_z4 T.F_z4.kp T.b_z4 ?_;refine qbz (qaz (pv 0)) (qbz (qaz (pv 1)) (qbz (qaz (pv 2)) qcz))
theorem q84z:∀ds G Q,sp_law ds G Q->ds.length=1:=by
 intro ds G Q h;obtain⟨_,rfl,_⟩:=h;rfl
theorem ok_law(T:Txt K mg t):FnOk3 P w K mg base 49 t.f_law t.d_law ["script"] sp_law:=by
 refine qfn3 (k:=48) (sp:=sp_law) T.F_law sc_law (by decide) q84z qoxz (fun cdv A outer s H E hr=>?_) q4uz;refine qfz ?_ (qez (qiz qadz));refine qaaz PassesOwn.never rfl (qamz ?_) (qmz (i:=1) sc_law.nd) ?_;refine qjz qxz qwz (q9z ?_) (qa7z (qaz (pv 0)) (qaxz qdz) (qaxz qdz));refine qbz (qgz ((q8pz T).mono (by decide)) hr T.m_z18 T.F_z18.kp T.b_z18 (qbz (qaz (pv 0)) (qbz qdz qcz))) (qcz);refine qfz ?_ (qez (qrz (q8z (q3z ?_)) (qez (qiz qadz)) qqz));refine qkz (i:=2) sc_law.nd (qgz ((q8sz T).mono (by decide)) hr T.m_z30 T.F_z30.kp T.b_z30 (qbz (qaz (pv 1)) qcz));refine qgz ((q83z T).mono (by decide)) hr T.m_z49 T.F_z49.kp T.b_z49 (qbz (qaz (pv 2)) (qbz ?_ qcz));refine qa7z (qgz ((q8xz T).mono (by decide)) hr T.m_z11 T.F_z11.kp T.b_z11 (qbz (qaz (pv 2)) qcz)) qbjz ?_;refine qaxz qdz
end
def Has(K:PySem.W.Frag)(nm:Str)(st:Stmt):Prop:=∃f d,Fun K nm nm st f d/\PySem.W.nsIn K mainGlobals nm=some (some (.ref f))
theorem has_mk{K:PySem.W.Frag}{nm:Str}{st:Stmt}{f:Addr}{od an:Option Addr}{sl:Array (Option Value)}{oc kV dc pm cd ct:Value}(a:PySem.W.nsIn K mainGlobals nm=some (some (.ref f)))(l:K.lookup f=some ⟨oc,od,.func (PySem.W.fnOf nm nm (defArgs st) (defBody st) (defScope st) .none kV dc pm an cd ct),sl⟩)(c:PySem.W.codeIn K cd nm=true)(k:PySem.W.keepIn K (.ref f)=true):Has K nm st:=⟨f,_,qr8z l c k,a⟩
theorem txt_mk{K:PySem.W.Frag}{h:Heap}{mg:Str->Option Value}(X:K.In h)(G:h.Ns mainGlobals mg)
  (h0:Has K "whole_good" qhpz)
  (h1:Has K "refuse_above" qhqz)
  (h2:Has K "doubled" qhrz)
  (h3:Has K "common_divisor" qhsz)
  (h4:Has K "common_multiple" qhtz)
  (h5:Has K "inverse_of" qhuz)
  (h6:Has K "lowest_terms" qhvz)
  (h7:Has K "counts_within" qhwz)
  (h8:Has K "first_counted" qhxz)
  (h9:Has K "clock_good" qhyz)
  (h10:Has K "clocks_of" qhzz)
  (h11:Has K "rings" qh0z)
  (h12:Has K "rings_at" qfiz)
  (h13:Has K "round_of" qfjz)
  (h14:Has K "meet_of" qh1z)
  (h15:Has K "covers" qh2z)
  (h16:Has K "first_missed" qh3z)
  (h17:Has K "miss_good" qh4z)
  (h18:Has K "first_within" qh5z)
  (h19:Has K "window_of" qh6z)
  (h20:Has K "next_missed" qh7z)
  (h21:Has K "shares_of" qfkz)
  (h22:Has K "clash_of" qh8z)
  (h23:Has K "exact_good" qh9z)
  (h24:Has K "steps_good" qflz)
  (h25:Has K "refuse_no_steps" qiaz)
  (h26:Has K "refuse_great_steps" qibz)
  (h27:Has K "set_clocks" qfmz)
  (h28:Has K "open_places" qfnz)
  (h29:Has K "with_rest" qicz)
  (h30:Has K "rests_cover" qidz)
  (h31:Has K "rests_form_good" qfoz)
  (h32:Has K "rests_good" qiez)
  (h33:Has K "rests_for" qfpz)
  (h34:Has K "first_left" qifz)
  (h35:Has K "rests_left" qigz)
  (h36:Has K "rests_many" qihz)
  (h37:Has K "many_from" qfqz)
  (h38:Has K "steps_share" qfrz)
  (h39:Has K "cases_good" qiiz)
  (h40:Has K "paper_good" qijz)
  (h41:Has K "papers_good" qikz)
  (h42:Has K "cases_for" qilz)
  (h43:Has K "cases_from" qimz)
  (h44:Has K "_law_cell_at" qinz)
  (h45:Has K "_law_next" qioz)
  (h46:Has K "_law_pen_of" qipz)
  (h47:Has K "_law_draw" qiqz)
  (h48:Has K "_law_split" qfsz)
  (h49:Has K "_law_steps_of" qc1z)
  (h50:Has K "_law_product" qirz)
  (h51:Has K "_law_rests_right" qfuz)
  (h52:Has K "_law_right" qisz)
  (h53:Has K "law" qitz)
  {t0:Tok} (gint0:PySem.W.nsIn K mainGlobals "GREATEST_STEP" = some (some (.int 24 t0)))
  {t1:Tok} (gint1:PySem.W.nsIn K mainGlobals "LEAST_STEP" = some (some (.int 2 t1)))
  {t2:Tok} (gint2:PySem.W.nsIn K mainGlobals "MOST_CLOCKS" = some (some (.int 12 t2)))
  {t3:Tok} (gint3:PySem.W.nsIn K mainGlobals "MOST_FAR_CLOCKS" = some (some (.int 10 t3)))
  {t4:Tok} (gint4:PySem.W.nsIn K mainGlobals "MOST_NUMBERS" = some (some (.int 10000 t4)))
  {t5:Tok} (gint5:PySem.W.nsIn K mainGlobals "MOST_RESTS" = some (some (.int 3000 t5)))
  {t6:Tok} (gint6:PySem.W.nsIn K mainGlobals "MOST_STEP" = some (some (.int 1000 t6)))
  {t7:Tok} (gint7:PySem.W.nsIn K mainGlobals "MOST_STEPS" = some (some (.int 6 t7)))
  (z0:PySem.W.nsIn K mainGlobals "all" = some none)
  (z1:PySem.W.nsIn K mainGlobals "bool" = some none)
  (z2:PySem.W.nsIn K mainGlobals "enumerate" = some none)
  (z3:PySem.W.nsIn K mainGlobals "int" = some none)
  (z4:PySem.W.nsIn K mainGlobals "isinstance" = some none)
  (z5:PySem.W.nsIn K mainGlobals "len" = some none)
  (z6:PySem.W.nsIn K mainGlobals "list" = some none)
  (z7:PySem.W.nsIn K mainGlobals "max" = some none)
  (z8:PySem.W.nsIn K mainGlobals "range" = some none)
  (z9:PySem.W.nsIn K mainGlobals "set" = some none)
  (z10:PySem.W.nsIn K mainGlobals "sorted" = some none)
  (z11:PySem.W.nsIn K mainGlobals "sum" = some none)
  (z12:PySem.W.nsIn K mainGlobals "tuple" = some none)
  (z13:PySem.W.nsIn K mainGlobals "zip" = some none)
  : ∃t:Adr,Txt K mg t/\∀(s:Shared) (v:Value),BindsTo s t.d_law ⟨[v],[]⟩ [("script",v)]:=by
 obtain⟨f0,d0,F0,a0⟩:=h0;obtain⟨f1,d1,F1,a1⟩:=h1;obtain⟨f2,d2,F2,a2⟩:=h2;obtain⟨f3,d3,F3,a3⟩:=h3;obtain⟨f4,d4,F4,a4⟩:=h4;obtain⟨f5,d5,F5,a5⟩:=h5;obtain⟨f6,d6,F6,a6⟩:=h6;obtain⟨f7,d7,F7,a7⟩:=h7;obtain⟨f8,d8,F8,a8⟩:=h8;obtain⟨f9,d9,F9,a9⟩:=h9;obtain⟨f10,d10,F10,a10⟩:=h10;obtain⟨f11,d11,F11,a11⟩:=h11;obtain⟨f12,d12,F12,a12⟩:=h12;obtain⟨f13,d13,F13,a13⟩:=h13;obtain⟨f14,d14,F14,a14⟩:=h14;obtain⟨f15,d15,F15,a15⟩:=h15;obtain⟨f16,d16,F16,a16⟩:=h16;obtain⟨f17,d17,F17,a17⟩:=h17;obtain⟨f18,d18,F18,a18⟩:=h18;obtain⟨f19,d19,F19,a19⟩:=h19;obtain⟨f20,d20,F20,a20⟩:=h20;obtain⟨f21,d21,F21,a21⟩:=h21;obtain⟨f22,d22,F22,a22⟩:=h22;obtain⟨f23,d23,F23,a23⟩:=h23;obtain⟨f24,d24,F24,a24⟩:=h24;obtain⟨f25,d25,F25,a25⟩:=h25;obtain⟨f26,d26,F26,a26⟩:=h26;obtain⟨f27,d27,F27,a27⟩:=h27;obtain⟨f28,d28,F28,a28⟩:=h28;obtain⟨f29,d29,F29,a29⟩:=h29;obtain⟨f30,d30,F30,a30⟩:=h30;obtain⟨f31,d31,F31,a31⟩:=h31;obtain⟨f32,d32,F32,a32⟩:=h32;obtain⟨f33,d33,F33,a33⟩:=h33;obtain⟨f34,d34,F34,a34⟩:=h34;obtain⟨f35,d35,F35,a35⟩:=h35;obtain⟨f36,d36,F36,a36⟩:=h36;obtain⟨f37,d37,F37,a37⟩:=h37;obtain⟨f38,d38,F38,a38⟩:=h38;obtain⟨f39,d39,F39,a39⟩:=h39;obtain⟨f40,d40,F40,a40⟩:=h40;obtain⟨f41,d41,F41,a41⟩:=h41;obtain⟨f42,d42,F42,a42⟩:=h42;obtain⟨f43,d43,F43,a43⟩:=h43;obtain⟨f44,d44,F44,a44⟩:=h44;obtain⟨f45,d45,F45,a45⟩:=h45;obtain⟨f46,d46,F46,a46⟩:=h46;obtain⟨f47,d47,F47,a47⟩:=h47;obtain⟨f48,d48,F48,a48⟩:=h48;obtain⟨f49,d49,F49,a49⟩:=h49;obtain⟨f50,d50,F50,a50⟩:=h50;obtain⟨f51,d51,F51,a51⟩:=h51;obtain⟨f52,d52,F52,a52⟩:=h52;obtain⟨f53,d53,F53,a53⟩:=h53;exact⟨⟨f0,d0,f1,d1,f2,d2,f3,d3,f4,d4,f5,d5,f6,d6,f7,d7,f8,d8,f9,d9,f10,d10,f11,d11,f12,d12,f13,d13,f14,d14,f15,d15,f16,d16,f17,d17,f18,d18,f19,d19,f20,d20,f21,d21,f22,d22,f23,d23,f24,d24,f25,d25,f26,d26,f27,d27,f28,d28,f29,d29,f30,d30,f31,d31,f32,d32,f33,d33,f34,d34,f35,d35,f36,d36,f37,d37,f38,d38,f39,d39,f40,d40,f41,d41,f42,d42,f43,d43,f44,d44,f45,d45,f46,d46,f47,d47,f48,d48,f49,d49,f50,d50,f51,d51,f52,d52,f53,d53,t0,t1,t2,t3,t4,t5,t6,t7⟩,⟨F0,
  PySem.W.mg_of X G a0,
  F0.binds (ps:=["thing"]) fun _ _ _ _ _ _ us hl=>by obtain⟨_,rfl⟩:=len1 hl;rfl,
  F1,
  PySem.W.mg_of X G a1,
  F1.binds (ps:=["many","most"]) fun _ _ _ _ _ _ us hl=>by obtain⟨_,_,rfl⟩:=len2 hl;rfl,
  F2,
  PySem.W.mg_of X G a2,
  F2.binds (ps:=["times"]) fun _ _ _ _ _ _ us hl=>by obtain⟨_,rfl⟩:=len1 hl;rfl,
  F3,
  PySem.W.mg_of X G a3,
  F3.binds (ps:=["one","other"]) fun _ _ _ _ _ _ us hl=>by obtain⟨_,_,rfl⟩:=len2 hl;rfl,
  F4,
  PySem.W.mg_of X G a4,
  F4.binds (ps:=["numbers"]) fun _ _ _ _ _ _ us hl=>by obtain⟨_,rfl⟩:=len1 hl;rfl,
  F5,
  PySem.W.mg_of X G a5,
  F5.binds (ps:=["number","bound"]) fun _ _ _ _ _ _ us hl=>by obtain⟨_,_,rfl⟩:=len2 hl;rfl,
  F6,
  PySem.W.mg_of X G a6,
  F6.binds (ps:=["top","bottom"]) fun _ _ _ _ _ _ us hl=>by obtain⟨_,_,rfl⟩:=len2 hl;rfl,
  F7,
  PySem.W.mg_of X G a7,
  F7.binds (ps:=["clocks","many"]) fun _ _ _ _ _ _ us hl=>by obtain⟨_,_,rfl⟩:=len2 hl;rfl,
  F8,
  PySem.W.mg_of X G a8,
  F8.binds (ps:=["clock","counts","many"]) fun _ _ _ _ _ _ us hl=>by obtain⟨_,_,_,rfl⟩:=len3 hl;rfl,
  F9,
  PySem.W.mg_of X G a9,
  F9.binds (ps:=["thing"]) fun _ _ _ _ _ _ us hl=>by obtain⟨_,rfl⟩:=len1 hl;rfl,
  F10,
  PySem.W.mg_of X G a10,
  F10.binds (ps:=["things"]) fun _ _ _ _ _ _ us hl=>by obtain⟨_,rfl⟩:=len1 hl;rfl,
  F11,
  PySem.W.mg_of X G a11,
  F11.binds (ps:=["clock","number"]) fun _ _ _ _ _ _ us hl=>by obtain⟨_,_,rfl⟩:=len2 hl;rfl,
  F12,
  PySem.W.mg_of X G a12,
  F12.binds (ps:=["clocks","number"]) fun _ _ _ _ _ _ us hl=>by obtain⟨_,_,rfl⟩:=len2 hl;rfl,
  F13,
  PySem.W.mg_of X G a13,
  F13.binds (ps:=["clocks"]) fun _ _ _ _ _ _ us hl=>by obtain⟨_,rfl⟩:=len1 hl;rfl,
  F14,
  PySem.W.mg_of X G a14,
  F14.binds (ps:=["one","other"]) fun _ _ _ _ _ _ us hl=>by obtain⟨_,_,rfl⟩:=len2 hl;rfl,
  F15,
  PySem.W.mg_of X G a15,
  F15.binds (ps:=["clocks"]) fun _ _ _ _ _ _ us hl=>by obtain⟨_,rfl⟩:=len1 hl;rfl,
  F16,
  PySem.W.mg_of X G a16,
  F16.binds (ps:=["clocks"]) fun _ _ _ _ _ _ us hl=>by obtain⟨_,rfl⟩:=len1 hl;rfl,
  F17,
  PySem.W.mg_of X G a17,
  F17.binds (ps:=["clocks","thing"]) fun _ _ _ _ _ _ us hl=>by obtain⟨_,_,rfl⟩:=len2 hl;rfl,
  F18,
  PySem.W.mg_of X G a18,
  F18.binds (ps:=["clocks","clock"]) fun _ _ _ _ _ _ us hl=>by obtain⟨_,_,rfl⟩:=len2 hl;rfl,
  F19,
  PySem.W.mg_of X G a19,
  F19.binds (ps:=["clocks"]) fun _ _ _ _ _ _ us hl=>by obtain⟨_,rfl⟩:=len1 hl;rfl,
  F20,
  PySem.W.mg_of X G a20,
  F20.binds (ps:=["clocks","number"]) fun _ _ _ _ _ _ us hl=>by obtain⟨_,_,rfl⟩:=len2 hl;rfl,
  F21,
  PySem.W.mg_of X G a21,
  F21.binds (ps:=["clocks"]) fun _ _ _ _ _ _ us hl=>by obtain⟨_,rfl⟩:=len1 hl;rfl,
  F22,
  PySem.W.mg_of X G a22,
  F22.binds (ps:=["clocks"]) fun _ _ _ _ _ _ us hl=>by obtain⟨_,rfl⟩:=len1 hl;rfl,
  F23,
  PySem.W.mg_of X G a23,
  F23.binds (ps:=["clocks"]) fun _ _ _ _ _ _ us hl=>by obtain⟨_,rfl⟩:=len1 hl;rfl,
  F24,
  PySem.W.mg_of X G a24,
  F24.binds (ps:=["thing"]) fun _ _ _ _ _ _ us hl=>by obtain⟨_,rfl⟩:=len1 hl;rfl,
  F25,
  PySem.W.mg_of X G a25,
  F25.binds (ps:=["thing"]) fun _ _ _ _ _ _ us hl=>by obtain⟨_,rfl⟩:=len1 hl;rfl,
  F26,
  PySem.W.mg_of X G a26,
  F26.binds (ps:=["steps"]) fun _ _ _ _ _ _ us hl=>by obtain⟨_,rfl⟩:=len1 hl;rfl,
  F27,
  PySem.W.mg_of X G a27,
  F27.binds (ps:=["steps","rests"]) fun _ _ _ _ _ _ us hl=>by obtain⟨_,_,rfl⟩:=len2 hl;rfl,
  F28,
  PySem.W.mg_of X G a28,
  F28.binds (ps:=["rests"]) fun _ _ _ _ _ _ us hl=>by obtain⟨_,rfl⟩:=len1 hl;rfl,
  F29,
  PySem.W.mg_of X G a29,
  F29.binds (ps:=["rests","place","rest"]) fun _ _ _ _ _ _ us hl=>by obtain⟨_,_,_,rfl⟩:=len3 hl;rfl,
  F30,
  PySem.W.mg_of X G a30,
  F30.binds (ps:=["steps","rests"]) fun _ _ _ _ _ _ us hl=>by obtain⟨_,_,rfl⟩:=len2 hl;rfl,
  F31,
  PySem.W.mg_of X G a31,
  F31.binds (ps:=["steps","thing"]) fun _ _ _ _ _ _ us hl=>by obtain⟨_,_,rfl⟩:=len2 hl;rfl,
  F32,
  PySem.W.mg_of X G a32,
  F32.binds (ps:=["steps","thing"]) fun _ _ _ _ _ _ us hl=>by obtain⟨_,_,rfl⟩:=len2 hl;rfl,
  F33,
  PySem.W.mg_of X G a33,
  F33.binds (ps:=["steps"]) fun _ _ _ _ _ _ us hl=>by obtain⟨_,rfl⟩:=len1 hl;rfl,
  F34,
  PySem.W.mg_of X G a34,
  F34.binds (ps:=["steps","tried"]) fun _ _ _ _ _ _ us hl=>by obtain⟨_,_,rfl⟩:=len2 hl;rfl,
  F35,
  PySem.W.mg_of X G a35,
  F35.binds (ps:=["steps","rests"]) fun _ _ _ _ _ _ us hl=>by obtain⟨_,_,rfl⟩:=len2 hl;rfl,
  F36,
  PySem.W.mg_of X G a36,
  F36.binds (ps:=["steps"]) fun _ _ _ _ _ _ us hl=>by obtain⟨_,rfl⟩:=len1 hl;rfl,
  F37,
  PySem.W.mg_of X G a37,
  F37.binds (ps:=["steps","rests"]) fun _ _ _ _ _ _ us hl=>by obtain⟨_,_,rfl⟩:=len2 hl;rfl,
  F38,
  PySem.W.mg_of X G a38,
  F38.binds (ps:=["steps"]) fun _ _ _ _ _ _ us hl=>by obtain⟨_,rfl⟩:=len1 hl;rfl,
  F39,
  PySem.W.mg_of X G a39,
  F39.binds (ps:=["steps","thing"]) fun _ _ _ _ _ _ us hl=>by obtain⟨_,_,rfl⟩:=len2 hl;rfl,
  F40,
  PySem.W.mg_of X G a40,
  F40.binds (ps:=["steps","rests","thing"]) fun _ _ _ _ _ _ us hl=>by obtain⟨_,_,_,rfl⟩:=len3 hl;rfl,
  F41,
  PySem.W.mg_of X G a41,
  F41.binds (ps:=["steps","rests","number","papers"]) fun _ _ _ _ _ _ us hl=>by obtain⟨_,_,_,_,rfl⟩:=len4 hl;rfl,
  F42,
  PySem.W.mg_of X G a42,
  F42.binds (ps:=["steps"]) fun _ _ _ _ _ _ us hl=>by obtain⟨_,rfl⟩:=len1 hl;rfl,
  F43,
  PySem.W.mg_of X G a43,
  F43.binds (ps:=["steps","rests"]) fun _ _ _ _ _ _ us hl=>by obtain⟨_,_,rfl⟩:=len2 hl;rfl,
  F44,
  PySem.W.mg_of X G a44,
  F44.binds (ps:=["script","k"]) fun _ _ _ _ _ _ us hl=>by obtain⟨_,_,rfl⟩:=len2 hl;rfl,
  F45,
  PySem.W.mg_of X G a45,
  F45.binds (ps:=["seed"]) fun _ _ _ _ _ _ us hl=>by obtain⟨_,rfl⟩:=len1 hl;rfl,
  F46,
  PySem.W.mg_of X G a46,
  F46.binds (ps:=["cell"]) fun _ _ _ _ _ _ us hl=>by obtain⟨_,rfl⟩:=len1 hl;rfl,
  F47,
  PySem.W.mg_of X G a47,
  F47.binds (ps:=["pen","many"]) fun _ _ _ _ _ _ us hl=>by obtain⟨_,_,rfl⟩:=len2 hl;rfl,
  F48,
  PySem.W.mg_of X G a48,
  F48.binds (ps:=["pen","times"]) fun _ _ _ _ _ _ us hl=>by obtain⟨_,_,rfl⟩:=len2 hl;rfl,
  F49,
  PySem.W.mg_of X G a49,
  F49.binds (ps:=["pen"]) fun _ _ _ _ _ _ us hl=>by obtain⟨_,rfl⟩:=len1 hl;rfl,
  F50,
  PySem.W.mg_of X G a50,
  F50.binds (ps:=["steps"]) fun _ _ _ _ _ _ us hl=>by obtain⟨_,rfl⟩:=len1 hl;rfl,
  F51,
  PySem.W.mg_of X G a51,
  F51.binds (ps:=["pen","steps","rests"]) fun _ _ _ _ _ _ us hl=>by obtain⟨_,_,_,rfl⟩:=len3 hl;rfl,
  F52,
  PySem.W.mg_of X G a52,
  F52.binds (ps:=["pen","steps"]) fun _ _ _ _ _ _ us hl=>by obtain⟨_,_,rfl⟩:=len2 hl;rfl,
  F53,
  PySem.W.mg_of X G a53,
  F53.binds (ps:=["script"]) fun _ _ _ _ _ _ us hl=>by obtain⟨_,rfl⟩:=len1 hl;rfl,
  PySem.W.mg_of X G gint0,
  PySem.W.mg_of X G gint1,
  PySem.W.mg_of X G gint2,
  PySem.W.mg_of X G gint3,
  PySem.W.mg_of X G gint4,
  PySem.W.mg_of X G gint5,
  PySem.W.mg_of X G gint6,
  PySem.W.mg_of X G gint7,
  PySem.W.mg_none_of X G z0,
  PySem.W.mg_none_of X G z1,
  PySem.W.mg_none_of X G z2,
  PySem.W.mg_none_of X G z3,
  PySem.W.mg_none_of X G z4,
  PySem.W.mg_none_of X G z5,
  PySem.W.mg_none_of X G z6,
  PySem.W.mg_none_of X G z7,
  PySem.W.mg_none_of X G z8,
  PySem.W.mg_none_of X G z9,
  PySem.W.mg_none_of X G z10,
  PySem.W.mg_none_of X G z11,
  PySem.W.mg_none_of X G z12,
  PySem.W.mg_none_of X G z13⟩,fun s v=>by
  obtain⟨_,_,_,_,_,_,_,_,_,rfl,_⟩:=F53.ex;exact .of_eq rfl⟩
theorem q85z(K:PySem.W.Frag)(H:Hp)(a:Addr)(ns:List Int)(hl:ns.length≤63)(ho:Only H)(hS:SqL K H a (ns.map V.int)):lowSp K sp_law [.ref a] H (fun v _=>v=.bl true) fun _ _ _=>False:=by
 refine⟨[.scr (ns.map .int)],fun _=>none,fun d _=>d=.bl true,.cons ?_ .nil,(fun _ _ e=>nomatch e),⟨ns,rfl,hl,rfl⟩,fun v H' d G' hv _ _ q=>?_⟩
 ·unfold Hv;refine⟨a,ns.map V.int,rfl,?_,Hvs.ints ns⟩;rcases hS with (h|h)|h
  ·rcases ho a with z|⟨o,xs,z⟩
   ·rw[z] at h;cases h
   ·rw[z] at h;cases h
  ·exact .inl h
  ·exact .inr h
 ·subst q;exact qc4z hv
theorem walk{l:PySem.W.OpenLaw}{q:Program}{loose:List Str}{XP:(Str->Option Value)->Heap->Prop}{YP:World->Heap->Prop}{d:DefRec}{K:Params->PySem.W.Frag}(hn:l.most=some 63)(hdf:d.params.defaults=[])
  (hY:∀(w:World) (h:Heap),YP w h->(K w.params).In h)
  (F:∀(w:World) (mg:Str->Option Value) (fa:Addr) (h:Heap),(K w.params).In h->h.Ns mainGlobals mg->mg d.name=some (.ref fa) ->
   ∃fd:FuncData,(∀(s:Shared) (u:Value),BindsTo s fd ⟨[u],[]⟩ [("script",u)])/\∀base:Heap,(K w.params).In base->base.Ns mainGlobals mg->FnOk l.prog w (K w.params) mg base CX0 49 fa fd ["script"] (lowSp (K w.params) sp_law)):
  PySem.W.WalkO q loose XP YP l.row.toRowW d [] (fun f vs=>PySem.call f vs):=
 L2.walk_of (n:=63) (k:=49) (x:="script") (CX:=fun _=>CX0) (sp:=fun w=>lowSp (K w.params) sp_law) hn (by decide) hdf ⟨rfl,by decide,by decide⟩ hY F (fun w H a ns hl ho hS=>q85z (K w.params) H a ns hl ho hS) fun _ _ _ _ _ z=>z
end My
open PySem PySem.W PyProof.Rows
set_option maxRecDepth 100000 in
set_option maxHeartbeats 0 in
theorem PySem.Challenge.cw_coverclocks_k45_whole_rests_and_cases_holds : PySem.Challenge.rw_coverclocks_k45_whole_rests_and_cases.Holds := by
 w_on;o_law;k_head;(case hw=>w_witness2)
 k_fill
 refine My.walk (l:=PySem.Challenge.rw_coverclocks_k45_whole_rests_and_cases) rfl rfl (fun w h Y=>PySem.W.kIn_of Y) ?F
 case F=>
  intro w mg fa h KX G hmg
  refine' Exists.elim (My.txt_mk KX G (My.has_mk ?a0 ?l0 ?c0 ?k0) (My.has_mk ?a1 ?l1 ?c1 ?k1) (My.has_mk ?a2 ?l2 ?c2 ?k2) (My.has_mk ?a3 ?l3 ?c3 ?k3) (My.has_mk ?a4 ?l4 ?c4 ?k4) (My.has_mk ?a5 ?l5 ?c5 ?k5) (My.has_mk ?a6 ?l6 ?c6 ?k6) (My.has_mk ?a7 ?l7 ?c7 ?k7) (My.has_mk ?a8 ?l8 ?c8 ?k8) (My.has_mk ?a9 ?l9 ?c9 ?k9) (My.has_mk ?a10 ?l10 ?c10 ?k10) (My.has_mk ?a11 ?l11 ?c11 ?k11) (My.has_mk ?a12 ?l12 ?c12 ?k12) (My.has_mk ?a13 ?l13 ?c13 ?k13) (My.has_mk ?a14 ?l14 ?c14 ?k14) (My.has_mk ?a15 ?l15 ?c15 ?k15) (My.has_mk ?a16 ?l16 ?c16 ?k16) (My.has_mk ?a17 ?l17 ?c17 ?k17) (My.has_mk ?a18 ?l18 ?c18 ?k18) (My.has_mk ?a19 ?l19 ?c19 ?k19) (My.has_mk ?a20 ?l20 ?c20 ?k20) (My.has_mk ?a21 ?l21 ?c21 ?k21) (My.has_mk ?a22 ?l22 ?c22 ?k22) (My.has_mk ?a23 ?l23 ?c23 ?k23) (My.has_mk ?a24 ?l24 ?c24 ?k24) (My.has_mk ?a25 ?l25 ?c25 ?k25) (My.has_mk ?a26 ?l26 ?c26 ?k26) (My.has_mk ?a27 ?l27 ?c27 ?k27) (My.has_mk ?a28 ?l28 ?c28 ?k28) (My.has_mk ?a29 ?l29 ?c29 ?k29) (My.has_mk ?a30 ?l30 ?c30 ?k30) (My.has_mk ?a31 ?l31 ?c31 ?k31) (My.has_mk ?a32 ?l32 ?c32 ?k32) (My.has_mk ?a33 ?l33 ?c33 ?k33) (My.has_mk ?a34 ?l34 ?c34 ?k34) (My.has_mk ?a35 ?l35 ?c35 ?k35) (My.has_mk ?a36 ?l36 ?c36 ?k36) (My.has_mk ?a37 ?l37 ?c37 ?k37) (My.has_mk ?a38 ?l38 ?c38 ?k38) (My.has_mk ?a39 ?l39 ?c39 ?k39) (My.has_mk ?a40 ?l40 ?c40 ?k40) (My.has_mk ?a41 ?l41 ?c41 ?k41) (My.has_mk ?a42 ?l42 ?c42 ?k42) (My.has_mk ?a43 ?l43 ?c43 ?k43) (My.has_mk ?a44 ?l44 ?c44 ?k44) (My.has_mk ?a45 ?l45 ?c45 ?k45) (My.has_mk ?a46 ?l46 ?c46 ?k46) (My.has_mk ?a47 ?l47 ?c47 ?k47) (My.has_mk ?a48 ?l48 ?c48 ?k48) (My.has_mk ?a49 ?l49 ?c49 ?k49) (My.has_mk ?a50 ?l50 ?c50 ?k50) (My.has_mk ?a51 ?l51 ?c51 ?k51) (My.has_mk ?a52 ?l52 ?c52 ?k52) (My.has_mk ?a53 ?l53 ?c53 ?k53) ?gint0 ?gint1 ?gint2 ?gint3 ?gint4 ?gint5 ?gint6 ?gint7 ?z0 ?z1 ?z2 ?z3 ?z4 ?z5 ?z6 ?z7 ?z8 ?z9 ?z10 ?z11 ?z12 ?z13) ?fin
  case a0|l0|c0|k0|a1|l1|c1|k1|a2|l2|c2|k2|a3|l3|c3|k3|a4|l4|c4|k4|a5|l5|c5|k5|a6|l6|c6|k6|a7|l7|c7|k7|a8|l8|c8|k8|a9|l9|c9|k9=>k_is
  case a10|l10|c10|k10|a11|l11|c11|k11|a12|l12|c12|k12|a13|l13|c13|k13|a14|l14|c14|k14|a15|l15|c15|k15|a16|l16|c16|k16|a17|l17|c17|k17|a18|l18|c18|k18|a19|l19|c19|k19=>k_is
  case a20|l20|c20|k20|a21|l21|c21|k21|a22|l22|c22|k22|a23|l23|c23|k23|a24|l24|c24|k24|a25|l25|c25|k25|a26|l26|c26|k26|a27|l27|c27|k27|a28|l28|c28|k28|a29|l29|c29|k29=>k_is
  case a30|l30|c30|k30|a31|l31|c31|k31|a32|l32|c32|k32|a33|l33|c33|k33|a34|l34|c34|k34|a35|l35|c35|k35|a36|l36|c36|k36|a37|l37|c37|k37|a38|l38|c38|k38|a39|l39|c39|k39=>k_is
  case a40|l40|c40|k40|a41|l41|c41|k41|a42|l42|c42|k42|a43|l43|c43|k43|a44|l44|c44|k44|a45|l45|c45|k45|a46|l46|c46|k46|a47|l47|c47|k47|a48|l48|c48|k48|a49|l49|c49|k49=>k_is
  case a50|l50|c50|k50|a51|l51|c51|k51|a52|l52|c52|k52|a53|l53|c53|k53|gint0|gint1|gint2|gint3|gint4|gint5|gint6|gint7|z0|z1|z2|z3|z4|z5|z6|z7|z8|z9|z10|z11|z12|z13=>k_is
  case fin=>
   rintro t ⟨T,b⟩
   have e2:=hmg.symm.trans T.m_law
   cases e2
   exact⟨t.d_law,b,fun base _ _=>My.ok_law T⟩
